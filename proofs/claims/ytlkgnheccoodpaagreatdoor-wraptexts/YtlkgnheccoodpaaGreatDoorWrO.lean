import Derived.Test.YtlkgnheccoodpaaGreatDoorGF
import Derived.Test.YtlkgnheccoodpaaGreatDoorGQ
namespace Go.Proofs.YtlkgnheccoodpaaGreatDoor
open Go.RowKit Go.Shelf
attribute [local go_sem] Oper.semAt_some
def bgP (l : List St) : Pt := match l.getLast? with
 | none => ⟨0, 0, 0, 0, false⟩
 | some x => x.nxt
def leastW (wd : Int) : List St → List Pg → List St
 | way, [] => way
 | way, p :: ps => leastW wd (way ++ leastP wd (bgP way).ce p.l) ps
def FitsP (wd : Int) : List St → List Pg → Prop
 | _, [] => True
 | way, p :: ps => (1 ≤ p.l.length ∧ 1 ≤ (leastP wd (bgP way).ce p.l).length ∧ FitsT wd (bgP way).ce p.l) ∧ FitsP wd (way ++ leastP wd (bgP way).ce p.l) ps
theorem leastW_snoc (wd : Int) : ∀ (ps : List Pg) (p : Pg) (way : List St), leastW wd way (ps ++ [p]) = leastW wd way ps ++ leastP wd (bgP (leastW wd way ps)).ce p.l
 | [], _, _ => rfl
 | _ :: ps, p, _ => leastW_snoc wd ps p _
theorem FitsP.at {wd : Int} : ∀ {ps : List Pg} {p : Pg} {r : List Pg} {way : List St}, FitsP wd way (ps ++ p :: r) → 1 ≤ p.l.length ∧ 1 ≤ (leastP wd (bgP (leastW wd way ps)).ce p.l).length ∧ FitsT wd (bgP (leastW wd way ps)).ce p.l
 | [], _, _, _, h => h.1
 | _ :: ps, _, _, _, h => FitsP.at (ps := ps) h.2
theorem parasG_len : ∀ (l : List St) (fr n : Nat) (acc : List St), (parasG fr n acc l).length ≤ l.length
 | [], _, _, _ => by simp [parasG]
 | x :: l, fr, n, acc => by
  unfold parasG
  split
  ·have := parasG_len l (n + 1) (n + 1) []
   simp only [List.length_cons]
   omega
  ·have := parasG_len l fr (n + 1) (acc ++ [x])
   simp only [List.length_cons]
   omega
theorem parasG_sub (L : List St) : ∀ (l : List St) (fr n : Nat) (acc : List St), (∀ (i : Nat) (x : St), acc[i]? = some x → L[fr + i]? = some x) → fr + acc.length = n → L.drop n = l → ∀ p ∈ parasG fr n acc l, ∀ (i : Nat) (x : St), p.l[i]? = some x → L[p.off + i]? = some x
 | [], _, _, _, _, _, _, p, hp => by simp [parasG] at hp
 | y :: l, fr, n, acc, ha, hn, hd, p, hp => by
  have hy : L[n]? = some y := by
   have : (L.drop n)[0]? = some y := by rw [hd]; rfl
   rwa [List.getElem?_drop, Nat.add_zero] at this
  have hd2 : L.drop (n + 1) = l := by
   have := drop_get hy
   rw [hd] at this
   exact (List.cons.inj this).2.symm
  have ha2 : ∀ (i : Nat) (x : St), (acc ++ [y])[i]? = some x → L[fr + i]? = some x := fun i x hx => by
   rw [List.getElem?_append] at hx
   split at hx
   ·exact ha i x hx
   ·have h0 : i - acc.length = 0 := by
     have := (List.getElem?_eq_some_iff.1 hx).1
     simp at this
     omega
    rw [h0] at hx
    obtain rfl : y = x := by simpa using hx
    rw [show fr + i = n by omega]
    exact hy
  unfold parasG at hp
  split at hp
  ·rcases List.mem_cons.1 hp with rfl | hp
   ·exact ha2
   ·exact parasG_sub L l (n + 1) (n + 1) [] (by simp) rfl hd2 p hp
  ·exact parasG_sub L l fr (n + 1) (acc ++ [y]) ha2 (by simp; omega) hd2 p hp
theorem wayT_sub : ∀ (f : Nat) (l : List St) (R : List Re), (∀ x ∈ wayT f l R, x ∈ l) ∧ (wayT f l R).length ≤ f
 | 0, _, _ => by simp [wayT]
 | _ + 1, _, [] => by simp [wayT]
 | f + 1, l, r :: R => by
  unfold wayT
  split
  ·simp
  ·rename_i x l' hd
   have ih := wayT_sub f l' ((r :: R).drop (r.fst.toNat + 1))
   have hm : ∀ y ∈ x :: l', y ∈ l := fun y hy => List.mem_of_mem_drop (by rw [hd]; exact hy)
   refine ⟨fun y hy => ?_, by simp only [List.length_cons]; omega⟩
   rcases List.mem_cons.1 hy with rfl | hy
   ·exact hm _ (List.mem_cons_self ..)
   ·exact hm _ (List.mem_cons_of_mem _ (ih.1 y hy))
theorem leastP_sub (wd bg : Int) (l : List St) : ∀ x ∈ leastP wd bg l, x ∈ l := (wayT_sub _ _ _).1
theorem leastP_len (wd bg : Int) (l : List St) : (leastP wd bg l).length ≤ l.length := (wayT_sub _ _ _).2
theorem leastW_sub (wd : Int) (M : St → Prop) : ∀ (ps : List Pg) (way : List St), (∀ x ∈ way, M x) → (∀ q ∈ ps, ∀ x ∈ q.l, M x) → ∀ x ∈ leastW wd way ps, M x
 | [], _, h, _ => h
 | p :: ps, way, h, hp => leastW_sub wd M ps _ (fun x hx => by
   rcases List.mem_append.1 hx with hx | hx
   ·exact h x hx
   ·exact hp p (List.mem_cons_self ..) x (leastP_sub _ _ _ x hx)) (fun q hq => hp q (List.mem_cons_of_mem _ hq))
theorem leastW_len0 (wd : Int) (N : Nat) : ∀ (ps : List Pg) (way : List St), (∀ q ∈ ps, q.l.length ≤ N) → (leastW wd way ps).length ≤ way.length + ps.length * N
 | [], _, _ => by simp [leastW]
 | p :: ps, way, h => by
  have h1 := leastW_len0 wd N ps (way ++ leastP wd (bgP way).ce p.l) (fun q hq => h q (List.mem_cons_of_mem _ hq))
  have h2 := h p (List.mem_cons_self ..)
  have h3 := leastP_len wd (bgP way).ce p.l
  rw [leastW, List.length_cons, Nat.succ_mul]
  rw [List.length_append] at h1
  omega
theorem leastW_len (wd : Int) (N : Nat) (ps : List Pg) (h : ∀ q ∈ ps, q.l.length ≤ N) : (leastW wd [] ps).length ≤ ps.length * N := by
 have := leastW_len0 wd N ps [] h
 simpa using this
theorem bgP_bd (wd : Int) (L : List St) (hS : SmN L) (ps : List Pg) (h : ∀ q ∈ ps, ∀ x ∈ q.l, x ∈ L) : 0 ≤ (bgP (leastW wd [] ps)).ce ∧ (bgP (leastW wd [] ps)).ce ≤ 100000 := by
 have hm := leastW_sub wd (fun x => x ∈ L) ps [] (by simp) h
 unfold bgP
 split
 ·exact ⟨by simp, by simp⟩
 ·rename_i x hx
  exact (hS x (hm x (List.mem_of_getLast? hx))).2
theorem flatS_len : ∀ l : List St, (flatS l).length = l.length * 7
 | [] => rfl
 | x :: l => by
  show (cellsS x ++ flatS l).length = _
  rw [List.length_append, flatS_len l, List.length_cons]
  show 7 + _ = _
  omega
theorem flatS_one (l : List St) : ∀ u ∈ flatS l, u.oneCell' = true := fun u hu => by
 obtain ⟨x, _, hx⟩ := List.mem_flatMap.1 hu
 simp [cellsS] at hx
 rcases hx with rfl | rfl | rfl | rfl | rfl | rfl | rfl <;> rfl
theorem row_cells {W : World} {base e size n g cap : Nat} {xs : List Value} (h : W.ownsRow base e size (.slice (some ⟨g, 0, none⟩) n cap) n xs) : ∀ (j : Nat) (u : Value), xs[j]? = some u → W.cell? ((⟨g, 0, none⟩ : Addr).add j) = some u := by
 rcases h.2 with ⟨e, _⟩ | ⟨g2, cap2, cur, e, hb, hg, hcn, hcm, _, h4⟩
 ·simp at e
 ·obtain ⟨rfl, rfl⟩ : g = g2 ∧ cap = cap2 := by simpa using e
  intro j u hu
  rw [← h4, List.getElem?_take] at hu
  rw [addG]
  split at hu
  ·simp [World.cell?, hg]
   simpa using hu
  ·cases hu
set_option maxRecDepth 100000 in
set_option maxHeartbeats 1000000 in
theorem least_walk (L : List St) (G cap : Nat) (wd : Int) (hw : 0 ≤ wd ∧ wd ≤ 1000) (hl : L.length ≤ 5000) (hS : SmN L) (hF : FitsP wd [] (parasG 0 0 [] L)) (hc : L.length ≤ cap ∧ cap ≤ maxLen) (w : World) (hG : SRowO L G 0 w) :
  Calls Tryz.prog 14 #[.slice (some ⟨G, 0, none⟩) L.length cap, .int .i64 wd] w fun e w' => ∃ v, e = .returned v ∧ w'.ownsRow w.heap.size 52 7 v (leastW wd [] (parasG 0 0 [] L)).length (flatS (leastW wd [] (parasG 0 0 [] L))) ∧ Below w.heap.size w w' := by
 obtain ⟨s0, hsi, hs0, hs1, hs2⟩ := info_partsC infoSt
 refine (callsIn_wide (n := 9)).1 ?_
 refine callsIn_of_wp_marks Tryz.func14 rfl trivial ?_ rfl
 simp only [Tryz.ntmps14, List.size_toArray, List.length_cons, List.length_nil, Nat.reduceAdd, Nat.reduceSub, Array.replicate_succ, Array.replicate_zero, List.push_toArray, List.append_toArray, List.nil_append, List.cons_append]
 gi_wp2_with (refine ⟨trivial, ?_⟩; gi_at_call 33; refine (callsIn_wide.2 (paras_mk _ _ _ _)).mono ?_; rintro e w' ⟨rfl, rfl⟩)
 obtain ⟨V, hV⟩ : ∃ V, (((w.alloc (.cells #[.int .i64 wd] 3)).alloc (.cells #[.slice none 0 0] 45)).alloc (.cells #[.int .i64 0, .int .i64 0, .int .i64 0] 50)).alloc (.cells #[.slice (some ⟨G, 0, none⟩) L.length cap] 45) = V := ⟨_, rfl⟩
 have b0 : Boxed V w.heap.size 3 (.int .i64 wd) := by rw [← hV]; exact (((Boxed.new w _ _).alloc _).alloc _).alloc _
 have b1 : Boxed V (w.heap.size + 1) 45 (.slice none 0 0) := by
  rw [← hV]
  have := Boxed.new (w.alloc (.cells #[.int .i64 wd] 3)) 45 (.slice none 0 0)
  rw [World.size_alloc] at this
  exact (this.alloc _).alloc _
 have b2 : SpAt V (w.heap.size + 1 + 1) 0 0 0 := by
  rw [← hV]
  have := World.alloc_heap_new ((w.alloc (.cells #[.int .i64 wd] 3)).alloc (.cells #[.slice none 0 0] 45)) (.cells #[.int .i64 0, .int .i64 0, .int .i64 0] 50)
  rw [World.size_alloc, World.size_alloc] at this
  exact (Below.heap_alloc _ _ _ (by simp)).trans this
 have b3 : Boxed V (w.heap.size + 1 + 1 + 1) 45 (.slice (some ⟨G, 0, none⟩) L.length cap) := by
  rw [← hV]
  have := Boxed.new (((w.alloc (.cells #[.int .i64 wd] 3)).alloc (.cells #[.slice none 0 0] 45)).alloc (.cells #[.int .i64 0, .int .i64 0, .int .i64 0] 50)) 45 (.slice (some ⟨G, 0, none⟩) L.length cap)
  rw [World.size_alloc, World.size_alloc, World.size_alloc] at this
  exact this
 have hB : Below w.heap.size w V := by
  rw [← hV]
  exact bupW (bupW (bupW (bel1W w _) (bel1W _ _)) (bel1W _ _)) (bel1W _ _)
 have hz1 : w.heap.size + 4 ≤ V.heap.size := by rw [← hV]; simp
 have hz2 : V.heap.size ≤ w.heap.size + 4 := by rw [← hV]; simp
 have hVG := hG.keep hB hG.1
 have hGl := hG.1
 rw [hV]
 clear hV hG
 refine rangeFunc_priv (α := Pg) (by omega) (gf := 61) (lb := #[.pointer (some ⟨w.heap.size + 1 + 1 + 1, 0, none⟩)]) rfl (enters_of Tryz.func61 (by kernel_rfl) rfl)
  (paras_seq (9 - 1) (w.heap.size + 1 + 1 + 1) G cap (by omega) L hc V b3 hVG) (fun _ => rfl)
  (fun k => k = w.heap.size + 1 ∨ k = w.heap.size + 1 + 1) (fun k e => by rcases e with e | e <;> subst e <;> exact ⟨by omega, by omega, by omega⟩)
  (fun pre W => ∃ v, Boxed W w.heap.size 3 (.int .i64 wd) ∧ Boxed W (w.heap.size + 1) 45 v ∧ SpAt W (w.heap.size + 1 + 1) (bgP (leastW wd [] pre)).loc (bgP (leastW wd [] pre)).sg (bgP (leastW wd [] pre)).ce ∧ W.ownsRow (V.heap.size + 2 + 0) 52 7 v (leastW wd [] pre).length (flatS (leastW wd [] pre)))
  (fun _ _ _ => False)
  (fun pre A B h hk => by obtain ⟨v, h1, h2, h3, h4⟩ := h; exact ⟨v, (hk.same _ h1.lt (.inl (by omega))).trans h1, (hk.same _ h2.lt (.inl (by omega))).trans h2, (hk.same _ (Array.getElem?_eq_some_iff.1 h3).1 (.inl (by omega))).trans h3, ownsRow_keeps h4 hk⟩)
  (fun _ _ _ _ h _ => h) ⟨_, b0, b1, b2, World.ownsRow_nil _ _ _ _⟩ ?round ?done ?stop
 case round =>
  rintro l pre p W0 W K hl0 hlW hhi hlh hW0 hBW hip hpx hK
  have hWz := hBW.size
  have hW0z := hW0.size
  obtain ⟨r, hr⟩ := hpx
  have hpm : p ∈ parasG 0 0 [] L := by rw [← hr]; simp
  have hpl := parasG_len L 0 0 []
  rw [← hr] at hpl
  simp only [List.length_append, List.length_cons, List.length_nil] at hpl
  obtain ⟨f1, f2, f3⟩ := FitsP.at (ps := pre) (p := p) (r := r) (by rw [show pre ++ p :: r = pre ++ [p] ++ r by simp, hr]; exact hF)
  have hsub : ∀ (i : Nat) (x : St), p.l[i]? = some x → L[p.off + i]? = some x := parasG_sub L L 0 0 [] (by simp) rfl rfl p hpm
  have hpS : SmN p.l := fun x hx => by
   obtain ⟨i, hi⟩ := List.getElem?_of_mem hx
   exact hS x (List.mem_of_getElem? (hsub i x hi))
  have hpL : p.l.length ≤ L.length := by
   rcases Nat.lt_or_ge 0 p.l.length with h | h
   ·have := (List.getElem?_eq_some_iff.1 (hsub (p.l.length - 1) _ (List.getElem?_eq_getElem (by omega)))).1
    omega
   ·omega
  have hwB := bgP_bd wd L hS pre (fun q hq => fun x hx => by
   have hqm : q ∈ parasG 0 0 [] L := by rw [← hr]; simp [hq]
   obtain ⟨i, hi⟩ := List.getElem?_of_mem hx
   exact List.mem_of_getElem? (parasG_sub L L 0 0 [] (by simp) rfl rfl q hqm i x hi))
  have hwL := leastW_len wd L.length pre (fun q hq => by
   have hqm : q ∈ parasG 0 0 [] L := by rw [← hr]; simp [hq]
   have hsq := parasG_sub L L 0 0 [] (by simp) rfl rfl q hqm
   rcases Nat.lt_or_ge 0 q.l.length with h | h
   ·have := (List.getElem?_eq_some_iff.1 (hsq (q.l.length - 1) _ (List.getElem?_eq_getElem (by omega)))).1
    omega
   ·omega)
  have hll : (leastP wd (bgP (leastW wd [] pre)).ce p.l).length ≤ L.length := Nat.le_trans (leastP_len _ _ _) hpL
  have hprod : pre.length * L.length ≤ 5000 * 5000 := Nat.mul_le_mul (by omega) hl
  have hsn := leastW_snoc wd pre p []
  simp only [Pg.enc]
  gi_wp2
  refine hK _ _ (Below.refl _ _) (fun W2 hbo hzz hB2 hi2 => ?_)
  have hVW : SRowO L G 0 W2 := by
   have e : ∀ o, W2.cell? ⟨G, o, none⟩ = V.cell? ⟨G, o, none⟩ := fun o => World.cell?_of_block (hB2.same G (by omega) (by omega))
   refine ⟨by have := hB2.size; omega, fun i x hx => ?_⟩
   simp only [e]
   exact hVG.2 i x hx
  have hrow : SRowO p.l G (p.off * 7) W2 := ⟨hVW.1, fun i x hx => by
   have := hVW.2 _ _ (hsub i x hx)
   rw [show 0 + (p.off + i) * 7 = p.off * 7 + i * 7 by omega] at this
   exact this⟩
  obtain ⟨v, i0, i1, i2, i3⟩ := hi2
  obtain ⟨v0, i0', i1', i2', i3'⟩ := hip
  generalize bgP (leastW wd [] pre) = bg at *
  generalize hway : leastW wd [] pre = way at *
  have hv : v0 = v := by
   have h1 := (hbo.same (w.heap.size + 1) (by omega) (by omega)).trans ((hW0.block (w.heap.size + 1) i1'.lt).trans i1')
   have h2 := h1.symm.trans i1
   simpa using h2
  subst hv
  have hgz : ∀ k, some k = v0.ownBlock → k < W0.heap.size := fun k hk => (i3'.lt k hk.symm).2
  have ⟨a0, a1, a2⟩ := i2.cells
  have k0 := i0.cell
  have k1 := i1.cell
  have HLO := hideW (fun U (hU : SRowO p.l G (p.off * 7) U) => leastOf_walk bg.loc bg.sg bg.ce wd hwB hw p.l f1 (by omega) hpS f3 G (p.off * 7) p.l.length ⟨Nat.le_refl _, by have := hc.2; omega⟩ U hU)
  have HI := hideW (And.intro i0 (And.intro i1 (And.intro i2 (And.intro i3 (And.intro hrow (And.intro hsn hB2))))))
  clear i0 i1 i2 i3 i0' i1' i2' i3' hrow hVW hsn hB2 hbo hK hr hpm hsub hF f3 hpS
  gi_wp2
  have hSw : (fun w' => w'.cell? ⟨w.heap.size, 0, none⟩ = some (.int .i64 wd) ∧ w'.cell? ⟨w.heap.size + 1 + 1, 0, none⟩ = some (.int .i64 bg.loc) ∧ w'.cell? ⟨w.heap.size + 1 + 1, 1, none⟩ = some (.int .i64 bg.sg) ∧ w'.cell? ⟨w.heap.size + 1 + 1, 2, none⟩ = some (.int .i64 bg.ce)) W2.drew := ⟨k0, a0, a1, a2⟩
  refine region_held_round (S := fun w' => w'.cell? ⟨w.heap.size, 0, none⟩ = some (.int .i64 wd) ∧ w'.cell? ⟨w.heap.size + 1 + 1, 0, none⟩ = some (.int .i64 bg.loc) ∧ w'.cell? ⟨w.heap.size + 1 + 1, 1, none⟩ = some (.int .i64 bg.sg) ∧ w'.cell? ⟨w.heap.size + 1 + 1, 2, none⟩ = some (.int .i64 bg.ce)) l (by rfl) (by kernel_rfl) (fun ⟨_, _, h⟩ => h) ?_
  refine wpAnyH_take (i := 1) (oi := { dst := some 12, op := Op.load 50 (Operand.tmp 6), type := 50, pos := "way.go:72", after := #[], guard := none }) (v := .agg #[.int .i64 bg.loc, .int .i64 bg.sg, .int .i64 bg.ce]) rfl (by kernel_rfl) (by kernel_rfl) (by kernel_rfl) (fun _ _ _ h => h) (Or.inl ⟨by rfl, ?_⟩) hSw ?_
  ·intro w' hS'
   obtain ⟨y1, y2, y3, y4⟩ := hS'
   go_simp
  simp only [Act.put, List.setIfInBounds_toArray, List.set_cons_zero, List.set_cons_succ]
  refine wpAnyH_take (i := 2) (oi := { dst := some 13, op := Op.move (Operand.tmp 7), type := 45, pos := "way.go:72", after := #[], guard := none }) (v := .slice (some ⟨G, p.off * 7, none⟩) p.l.length p.l.length) rfl (by kernel_rfl) (by kernel_rfl) (by kernel_rfl) (fun _ _ _ h => h) (Or.inl ⟨by rfl, ?_⟩) hSw ?_
  ·intro w' hS'
   obtain ⟨y1, y2, y3, y4⟩ := hS'
   go_simp
  simp only [Act.put, List.setIfInBounds_toArray, List.set_cons_zero, List.set_cons_succ]
  refine wpAnyH_take (i := 3) (oi := { dst := some 14, op := Op.load 3 (Operand.tmp 3), type := 3, pos := "way.go:72", after := #[], guard := none }) (v := .int .i64 wd) rfl (by kernel_rfl) (by kernel_rfl) (by kernel_rfl) (fun _ _ _ h => h) (Or.inl ⟨by rfl, ?_⟩) hSw ?_
  ·intro w' hS'
   obtain ⟨y1, y2, y3, y4⟩ := hS'
   go_simp
  simp only [Act.put, List.setIfInBounds_toArray, List.set_cons_zero, List.set_cons_succ]
  refine wpAnyH_ready (rs := [0, 4]) (by kernel_rfl) (by simp) ?_
  refine AllReadyH.cons (o := { dst := some 11, op := Op.load 45 (Operand.tmp 5), type := 45, pos := "way.go:72", after := #[], guard := none }) rfl (fun Ka hKa => ?_) (AllReadyH.cons (o := { dst := some 15, op := Op.call { callee := Callee.value (Operand.func 34), args := #[Operand.tmp 12, Operand.tmp 13, Operand.tmp 14], argTypes := #[50, 45, 3] }, type := 45, pos := "way.go:72", after := #[{ on := 1, ground := Ground.data }, { on := 2, ground := Ground.data }, { on := 3, ground := Ground.data }], guard := none }) rfl (fun Kb hKb => ?_) AllReadyH.nil)
  ·go_simp
   refine hKa.out _ _ hSw (fun _ => ?_)
   clear hKa Ka
   try simp only [Act.put, List.setIfInBounds_toArray, List.set_cons_zero, List.set_cons_succ]
   refine wpAnyH_ready (rs := [4]) (by kernel_rfl) (by simp) ?_
   refine AllReadyH.cons (o := { dst := some 15, op := Op.call { callee := Callee.value (Operand.func 34), args := #[Operand.tmp 12, Operand.tmp 13, Operand.tmp 14], argTypes := #[50, 45, 3] }, type := 45, pos := "way.go:72", after := #[{ on := 1, ground := Ground.data }, { on := 2, ground := Ground.data }, { on := 3, ground := Ground.data }], guard := none }) rfl (fun Kb hKb => ?_) AllReadyH.nil
   go_simp
   refine (HLO.out _ (HI.out.2.2.2.2.1.keep (Below.refl W2.heap.size W2).drew (by omega))).mono ?_
   rintro e w4 ⟨u, rfl, own4, b4⟩
   have b4 : Below W2.heap.size W2 w4 := bupW (Below.refl W2.heap.size W2).drew b4
   obtain ⟨i0, i1, i2, i3, hrow, hsn, hB2⟩ := HI.out
   have g0 : Boxed w4 w.heap.size 3 (.int .i64 wd) := (b4.block _ i0.lt).trans i0
   have g1 : Boxed w4 (w.heap.size + 1) 45 v0 := (b4.block _ i1.lt).trans i1
   have g2 : SpAt w4 (w.heap.size + 1 + 1) bg.loc bg.sg bg.ce := i2.keep b4
   have g3 := ownsRow_keeps (m := 0) i3 (Keeps.of_below b4)
   have ⟨e0, e1, e2⟩ := g2.cells
   have k4 := g0.cell
   have k5 := g1.cell
   have hSw4 : (fun w' => w'.cell? ⟨w.heap.size, 0, none⟩ = some (.int .i64 wd) ∧ w'.cell? ⟨w.heap.size + 1 + 1, 0, none⟩ = some (.int .i64 bg.loc) ∧ w'.cell? ⟨w.heap.size + 1 + 1, 1, none⟩ = some (.int .i64 bg.sg) ∧ w'.cell? ⟨w.heap.size + 1 + 1, 2, none⟩ = some (.int .i64 bg.ce)) w4 := ⟨k4, e0, e1, e2⟩
   have HG := hideW (And.intro g0 (And.intro g1 (And.intro g2 (And.intro g3 (And.intro own4 b4)))))
   clear i0 i1 i2 i3 hrow hsn hB2 g0 g1 g2 g3 own4 b4
   refine hKb.out _ _ hSw4 (fun _ => ?_)
   clear hKb Kb
   try simp only [Act.put, List.setIfInBounds_toArray, List.set_cons_zero, List.set_cons_succ]
   obtain ⟨g0, g1, g2, g3, own4, b4⟩ := HG.out
   obtain ⟨m, hm⟩ : ∃ m, (leastP wd bg.ce p.l).length = m + 1 := ⟨(leastP wd bg.ce p.l).length - 1, by omega⟩
   rw [hm] at own4
   obtain ⟨g4, cap4, rfl⟩ := ownsRow_succ own4
   have hz4 := b4.size
   refine wpAnyH_ready (rs := [5]) (by kernel_rfl) (by simp) ?_
   refine AllReadyH.cons (o := { dst := some 16, op := Op.call { callee := Callee.builtin Builtin.append, args := #[Operand.tmp 11, Operand.tmp 15], argTypes := #[45, 45] }, type := 45, pos := "way.go:72", after := #[{ on := 0, ground := Ground.data }, { on := 4, ground := Ground.data }, { on := 4, ground := Ground.chain }], guard := none }) rfl (fun Kc hKc => ?_) AllReadyH.nil
   refine step_row w4 rfl (.tmp 11) (.tmp 15) 45 rfl (V.heap.size + 2 + 0) 52 s0 (.agg #[.int .i64 0, .int .i64 0, .int .i64 0, .int .i64 0, .int .i64 0, .int .i64 0, .int .i64 0]) 7 56 Tryz.underlying45 hsi hs0 hs1 hs2 rfl (by decide) v0 way.length (flatS way) rfl g3 ⟨g4, 0, none⟩ (m + 1) cap4 (flatS (leastP wd bg.ce p.l)) rfl (by rw [flatS_len, hm]) (row_cells own4) (flatS_one _) (by unfold maxLen; omega) (by omega) (by omega) ?_
   intro v' w5 own5 gr5
   obtain ⟨g5, cap5, rfl⟩ := ownsRow_succ (show w5.ownsRow (V.heap.size + 2 + 0) 52 7 v' (way.length + m + 1) _ from own5)
   have h50 : Boxed w5 w.heap.size 3 (.int .i64 wd) := (gr5.block _ g0.lt (row_apart g3 g0 (by decide))).trans g0
   have h51 : Boxed w5 (w.heap.size + 1) 45 v0 := (gr5.block _ g1.lt (row_apart g3 g1 (by decide))).trans g1
   have h52 : SpAt w5 (w.heap.size + 1 + 1) bg.loc bg.sg bg.ce := (gr5.block _ (Array.getElem?_eq_some_iff.1 g2).1 (row_apart g3 g2 (by decide))).trans g2
   have ⟨n0, n1, n2⟩ := h52.cells
   refine hKc.out _ _ ⟨h50.cell, n0, n1, n2⟩ (fun _ => ?_)
   clear hKc Kc
   try simp only [Act.put, List.setIfInBounds_toArray, List.set_cons_zero, List.set_cons_succ]
   refine wpAnyH_ready (rs := [6]) (by kernel_rfl) (by simp) ?_
   refine AllReadyH.cons (o := { dst := none, op := Op.store 45 (Operand.tmp 5) (Operand.tmp 16), type := 0, pos := "way.go:72", after := #[{ on := 5, ground := Ground.data }, { on := 5, ground := Ground.chain }, { on := 0, ground := Ground.phase }, { on := 1, ground := Ground.phase }, { on := 2, ground := Ground.phase }, { on := 3, ground := Ground.phase }, { on := 4, ground := Ground.phase }, { on := 5, ground := Ground.phase }], guard := none }) rfl (fun Kd hKd => ?_) AllReadyH.nil
   have n3 := h51.cell
   have n4 := h51.frozen
   have h60 : Boxed (w5.setCell ⟨w.heap.size + 1, 0, none⟩ (.slice (some ⟨g5, 0, none⟩) (way.length + m + 1) cap5)) w.heap.size 3 (.int .i64 wd) := boxO h50 (by omega)
   have h61 := h51.set (.slice (some ⟨g5, 0, none⟩) (way.length + m + 1) cap5)
   have h62 : SpAt (w5.setCell ⟨w.heap.size + 1, 0, none⟩ (.slice (some ⟨g5, 0, none⟩) (way.length + m + 1) cap5)) (w.heap.size + 1 + 1) bg.loc bg.sg bg.ce := (Below.heap_setCell _ _ _ _ (by simp)).trans h52
   have ⟨q0, q1, q2⟩ := h62.cells
   have HE := hideW (And.intro h60 (And.intro h61 (And.intro h62 (And.intro own5 (And.intro gr5 (And.intro own4 (And.intro b4 g3)))))))
   clear g0 g1 g2 g3 h50 h51 h52 own4 b4 own5 gr5 HG n0 n1 n2 k4 k5 e0 e1 e2 a0 a1 a2 k0 k1
   go_simp
   refine hKd.out _ _ ⟨h60.cell, q0, q1, q2⟩ (fun _ => ?_)
   clear hKd Kd
   try simp only [Act.put, List.setIfInBounds_toArray, List.set_cons_zero, List.set_cons_succ]
   refine wpAnyH_done (by kernel_rfl) ?_ _
   obtain ⟨h60, h61, h62, own5, gr5, own4, b4, g3⟩ := HE.out
   obtain ⟨_, _, _, _, _, hsn, hB2⟩ := HI.out
   have hfl : flatS way ++ flatS (leastP wd bg.ce p.l) = flatS (way ++ leastP wd bg.ce p.l) := by simp [flatS]
   have own5' : w5.ownsRow (V.heap.size + 2 + 0) 52 7 (.slice (some ⟨g5, 0, none⟩) (way.length + m + 1) cap5) (way.length + m + 1) (flatS (way ++ leastP wd bg.ce p.l)) := by rw [← hfl]; exact own5
   obtain ⟨sr5, hg5, hcn5, hcm5⟩ := SRow.of_owns own5'
   obtain ⟨z, hz⟩ : ∃ z, (way ++ leastP wd bg.ce p.l)[way.length + m]? = some z := ⟨_, List.getElem?_eq_getElem (by rw [List.length_append, hm]; omega)⟩
   have hlast : bgP (way ++ leastP wd bg.ce p.l) = z.nxt := by
    unfold bgP
    rw [List.getLast?_eq_getElem?, List.length_append, hm, show way.length + (m + 1) - 1 = way.length + m by omega, hz]
   obtain ⟨_, _, _, _, t4, t5, t6⟩ := sr5.2 _ _ hz
   have hne5 : w.heap.size + 1 ≠ g5 := by omega
   have r4 : (w5.setCell ⟨w.heap.size + 1, 0, none⟩ (.slice (some ⟨g5, 0, none⟩) (way.length + m + 1) cap5)).cell? ⟨g5, (way.length + m) * 7 + 4, none⟩ = some (.int .i64 z.nxt.loc) := (World.cell?_of_block (Below.heap_setCell _ _ _ _ (Ne.symm hne5))).trans t4
   have r5 : (w5.setCell ⟨w.heap.size + 1, 0, none⟩ (.slice (some ⟨g5, 0, none⟩) (way.length + m + 1) cap5)).cell? ⟨g5, (way.length + m) * 7 + 5, none⟩ = some (.int .i64 z.nxt.sg) := (World.cell?_of_block (Below.heap_setCell _ _ _ _ (Ne.symm hne5))).trans t5
   have r6 : (w5.setCell ⟨w.heap.size + 1, 0, none⟩ (.slice (some ⟨g5, 0, none⟩) (way.length + m + 1) cap5)).cell? ⟨g5, (way.length + m) * 7 + 6, none⟩ = some (.int .i64 z.nxt.ce) := (World.cell?_of_block (Below.heap_setCell _ _ _ _ (Ne.symm hne5))).trans t6
   have ownX : (w5.setCell ⟨w.heap.size + 1, 0, none⟩ (.slice (some ⟨g5, 0, none⟩) (way.length + m + 1) cap5)).ownsRow (V.heap.size + 2 + 0) 52 7 (.slice (some ⟨g5, 0, none⟩) (way.length + m + 1) cap5) (way.length + m + 1) (flatS (way ++ leastP wd bg.ce p.l)) := ownsRow_keeps own5' (Keeps.of_but (m := w.heap.size) (b := V.heap.size + 2 + 0) ((But.refl (fun k => k = w.heap.size + 1) w5).setCell (p := ⟨w.heap.size + 1, 0, none⟩) rfl _) (fun k e => by omega))
   have hbX : But (fun k => (k = w.heap.size + 1 ∨ k = w.heap.size + 1 + 1) ∨ (V.heap.size + 2 + 0 ≤ k ∧ (k < W0.heap.size ∨ W.heap.size ≤ k))) W2 (w5.setCell ⟨w.heap.size + 1, 0, none⟩ (.slice (some ⟨g5, 0, none⟩) (way.length + m + 1) cap5)) := ((But.grown b4).trans (but_grown gr5 (fun k e => .inr ⟨(g3.lt k e).1, .inl (hgz k e.symm)⟩))).setCell (p := ⟨w.heap.size + 1, 0, none⟩) (.inl (.inl rfl)) _
   generalize (w5.setCell ⟨w.heap.size + 1, 0, none⟩ (.slice (some ⟨g5, 0, none⟩) (way.length + m + 1) cap5)) = X at *
   have c61 := h61.cell
   have ⟨p0, p1, p2⟩ := h62.cells
   have ⟨p3, p4, p5⟩ := h62.frozens
   have v1 : (((way.length + m + 1 : Nat) : Int) - 1) = ((way.length + m : Nat) : Int) := by omega
   have v2 : IntKind.i64.wrap ((way.length + m : Nat) : Int) = ((way.length + m : Nat) : Int) := IntWalk.i64_in _ ⟨by omega, by omega⟩
   obtain ⟨t, ht⟩ : ∃ t, way.length + m = t := ⟨_, rfl⟩
   have HT := hideW (And.intro h60 (And.intro h61 (And.intro h62 (And.intro ownX (And.intro hbX (And.intro hlast (And.intro hsn (And.intro hm ht))))))))
   have v3 : ((way.length + m : Nat) : Int) ≤ 9223372036854775807 := by omega
   clear h60 h61 h62 own5 gr5 own4 b4 g3 hsn hB2 hfl own5' sr5 hz hlast ownX hbX hm t4 t5 t6
   rw [ht] at v1 v2 v3 r4 r5 r6 c61 ⊢
   have v4 : (t : Int) < (t : Int) + 1 := by omega
   clear ht
   gi_wp2
   obtain ⟨h60, h61, h62, ownX, hbX, hlast, hsn, hm, ht⟩ := HT.out
   have b3 := but_three X (w.heap.size + 1 + 1) (.int .i64 z.nxt.loc) (.int .i64 z.nxt.sg) (.int .i64 z.nxt.ce)
   have u0 : Boxed (((X.setCell ⟨w.heap.size + 1 + 1, 0, none⟩ (.int .i64 z.nxt.loc)).setCell ⟨w.heap.size + 1 + 1, 1, none⟩ (.int .i64 z.nxt.sg)).setCell ⟨w.heap.size + 1 + 1, 2, none⟩ (.int .i64 z.nxt.ce)) w.heap.size 3 (.int .i64 wd) := (b3.same _ h60.lt (by omega)).trans h60
   have u1 : Boxed (((X.setCell ⟨w.heap.size + 1 + 1, 0, none⟩ (.int .i64 z.nxt.loc)).setCell ⟨w.heap.size + 1 + 1, 1, none⟩ (.int .i64 z.nxt.sg)).setCell ⟨w.heap.size + 1 + 1, 2, none⟩ (.int .i64 z.nxt.ce)) (w.heap.size + 1) 45 (.slice (some ⟨g5, 0, none⟩) (way.length + m + 1) cap5) := (b3.same _ h61.lt (by omega)).trans h61
   have u2 : SpAt (((X.setCell ⟨w.heap.size + 1 + 1, 0, none⟩ (.int .i64 z.nxt.loc)).setCell ⟨w.heap.size + 1 + 1, 1, none⟩ (.int .i64 z.nxt.sg)).setCell ⟨w.heap.size + 1 + 1, 2, none⟩ (.int .i64 z.nxt.ce)) (w.heap.size + 1 + 1) z.nxt.loc z.nxt.sg z.nxt.ce := set_at (set_at (set_at h62 0 _) 1 _) 2 _
   have u3 := ownsRow_keeps ownX (Keeps.of_but (m := w.heap.size) (b := V.heap.size + 2 + 0) b3 (fun k e => by omega))
   have u4 : (way ++ leastP wd bg.ce p.l).length = way.length + m + 1 := by rw [List.length_append, hm]; omega
   have b4 := hbX.trans (b3.mono (N := fun k => (k = w.heap.size + 1 ∨ k = w.heap.size + 1 + 1) ∨ (V.heap.size + 2 + 0 ≤ k ∧ (k < W0.heap.size ∨ W.heap.size ≤ k))) (fun k _ e => .inl (.inr e)))
   refine ⟨b4, ?_⟩
   show _ ∧ _
   refine ⟨u0, .slice (some ⟨g5, 0, none⟩) (way.length + m + 1) cap5, u1, ?_, ?_⟩
   ·rw [hsn, hlast]
    exact u2
   ·rw [hsn, u4]
    exact u3
  ·go_simp
   refine (HLO.out _ (HI.out.2.2.2.2.1.keep (Below.refl W2.heap.size W2).drew (by omega))).mono ?_
   rintro e w4 ⟨u, rfl, own4, b4⟩
   have b4 : Below W2.heap.size W2 w4 := bupW (Below.refl W2.heap.size W2).drew b4
   obtain ⟨i0, i1, i2, i3, hrow, hsn, hB2⟩ := HI.out
   have g0 : Boxed w4 w.heap.size 3 (.int .i64 wd) := (b4.block _ i0.lt).trans i0
   have g1 : Boxed w4 (w.heap.size + 1) 45 v0 := (b4.block _ i1.lt).trans i1
   have g2 : SpAt w4 (w.heap.size + 1 + 1) bg.loc bg.sg bg.ce := i2.keep b4
   have g3 := ownsRow_keeps (m := 0) i3 (Keeps.of_below b4)
   have ⟨e0, e1, e2⟩ := g2.cells
   have k4 := g0.cell
   have k5 := g1.cell
   have hSw4 : (fun w' => w'.cell? ⟨w.heap.size, 0, none⟩ = some (.int .i64 wd) ∧ w'.cell? ⟨w.heap.size + 1 + 1, 0, none⟩ = some (.int .i64 bg.loc) ∧ w'.cell? ⟨w.heap.size + 1 + 1, 1, none⟩ = some (.int .i64 bg.sg) ∧ w'.cell? ⟨w.heap.size + 1 + 1, 2, none⟩ = some (.int .i64 bg.ce)) w4 := ⟨k4, e0, e1, e2⟩
   have HG := hideW (And.intro g0 (And.intro g1 (And.intro g2 (And.intro g3 (And.intro own4 b4)))))
   clear i0 i1 i2 i3 hrow hsn hB2 g0 g1 g2 g3 own4 b4
   refine hKb.out _ _ hSw4 (fun _ => ?_)
   clear hKb Kb
   try simp only [Act.put, List.setIfInBounds_toArray, List.set_cons_zero, List.set_cons_succ]
   refine wpAnyH_ready (rs := [0]) (by kernel_rfl) (by simp) ?_
   refine AllReadyH.cons (o := { dst := some 11, op := Op.load 45 (Operand.tmp 5), type := 45, pos := "way.go:72", after := #[], guard := none }) rfl (fun Ka hKa => ?_) AllReadyH.nil
   go_simp
   refine hKa.out _ _ hSw4 (fun _ => ?_)
   clear hKa Ka
   try simp only [Act.put, List.setIfInBounds_toArray, List.set_cons_zero, List.set_cons_succ]
   obtain ⟨g0, g1, g2, g3, own4, b4⟩ := HG.out
   obtain ⟨m, hm⟩ : ∃ m, (leastP wd bg.ce p.l).length = m + 1 := ⟨(leastP wd bg.ce p.l).length - 1, by omega⟩
   rw [hm] at own4
   obtain ⟨g4, cap4, rfl⟩ := ownsRow_succ own4
   have hz4 := b4.size
   refine wpAnyH_ready (rs := [5]) (by kernel_rfl) (by simp) ?_
   refine AllReadyH.cons (o := { dst := some 16, op := Op.call { callee := Callee.builtin Builtin.append, args := #[Operand.tmp 11, Operand.tmp 15], argTypes := #[45, 45] }, type := 45, pos := "way.go:72", after := #[{ on := 0, ground := Ground.data }, { on := 4, ground := Ground.data }, { on := 4, ground := Ground.chain }], guard := none }) rfl (fun Kc hKc => ?_) AllReadyH.nil
   refine step_row w4 rfl (.tmp 11) (.tmp 15) 45 rfl (V.heap.size + 2 + 0) 52 s0 (.agg #[.int .i64 0, .int .i64 0, .int .i64 0, .int .i64 0, .int .i64 0, .int .i64 0, .int .i64 0]) 7 56 Tryz.underlying45 hsi hs0 hs1 hs2 rfl (by decide) v0 way.length (flatS way) rfl g3 ⟨g4, 0, none⟩ (m + 1) cap4 (flatS (leastP wd bg.ce p.l)) rfl (by rw [flatS_len, hm]) (row_cells own4) (flatS_one _) (by unfold maxLen; omega) (by omega) (by omega) ?_
   intro v' w5 own5 gr5
   obtain ⟨g5, cap5, rfl⟩ := ownsRow_succ (show w5.ownsRow (V.heap.size + 2 + 0) 52 7 v' (way.length + m + 1) _ from own5)
   have h50 : Boxed w5 w.heap.size 3 (.int .i64 wd) := (gr5.block _ g0.lt (row_apart g3 g0 (by decide))).trans g0
   have h51 : Boxed w5 (w.heap.size + 1) 45 v0 := (gr5.block _ g1.lt (row_apart g3 g1 (by decide))).trans g1
   have h52 : SpAt w5 (w.heap.size + 1 + 1) bg.loc bg.sg bg.ce := (gr5.block _ (Array.getElem?_eq_some_iff.1 g2).1 (row_apart g3 g2 (by decide))).trans g2
   have ⟨n0, n1, n2⟩ := h52.cells
   refine hKc.out _ _ ⟨h50.cell, n0, n1, n2⟩ (fun _ => ?_)
   clear hKc Kc
   try simp only [Act.put, List.setIfInBounds_toArray, List.set_cons_zero, List.set_cons_succ]
   refine wpAnyH_ready (rs := [6]) (by kernel_rfl) (by simp) ?_
   refine AllReadyH.cons (o := { dst := none, op := Op.store 45 (Operand.tmp 5) (Operand.tmp 16), type := 0, pos := "way.go:72", after := #[{ on := 5, ground := Ground.data }, { on := 5, ground := Ground.chain }, { on := 0, ground := Ground.phase }, { on := 1, ground := Ground.phase }, { on := 2, ground := Ground.phase }, { on := 3, ground := Ground.phase }, { on := 4, ground := Ground.phase }, { on := 5, ground := Ground.phase }], guard := none }) rfl (fun Kd hKd => ?_) AllReadyH.nil
   have n3 := h51.cell
   have n4 := h51.frozen
   have h60 : Boxed (w5.setCell ⟨w.heap.size + 1, 0, none⟩ (.slice (some ⟨g5, 0, none⟩) (way.length + m + 1) cap5)) w.heap.size 3 (.int .i64 wd) := boxO h50 (by omega)
   have h61 := h51.set (.slice (some ⟨g5, 0, none⟩) (way.length + m + 1) cap5)
   have h62 : SpAt (w5.setCell ⟨w.heap.size + 1, 0, none⟩ (.slice (some ⟨g5, 0, none⟩) (way.length + m + 1) cap5)) (w.heap.size + 1 + 1) bg.loc bg.sg bg.ce := (Below.heap_setCell _ _ _ _ (by simp)).trans h52
   have ⟨q0, q1, q2⟩ := h62.cells
   have HE := hideW (And.intro h60 (And.intro h61 (And.intro h62 (And.intro own5 (And.intro gr5 (And.intro own4 (And.intro b4 g3)))))))
   clear g0 g1 g2 g3 h50 h51 h52 own4 b4 own5 gr5 HG n0 n1 n2 k4 k5 e0 e1 e2 a0 a1 a2 k0 k1
   go_simp
   refine hKd.out _ _ ⟨h60.cell, q0, q1, q2⟩ (fun _ => ?_)
   clear hKd Kd
   try simp only [Act.put, List.setIfInBounds_toArray, List.set_cons_zero, List.set_cons_succ]
   refine wpAnyH_done (by kernel_rfl) ?_ _
   obtain ⟨h60, h61, h62, own5, gr5, own4, b4, g3⟩ := HE.out
   obtain ⟨_, _, _, _, _, hsn, hB2⟩ := HI.out
   have hfl : flatS way ++ flatS (leastP wd bg.ce p.l) = flatS (way ++ leastP wd bg.ce p.l) := by simp [flatS]
   have own5' : w5.ownsRow (V.heap.size + 2 + 0) 52 7 (.slice (some ⟨g5, 0, none⟩) (way.length + m + 1) cap5) (way.length + m + 1) (flatS (way ++ leastP wd bg.ce p.l)) := by rw [← hfl]; exact own5
   obtain ⟨sr5, hg5, hcn5, hcm5⟩ := SRow.of_owns own5'
   obtain ⟨z, hz⟩ : ∃ z, (way ++ leastP wd bg.ce p.l)[way.length + m]? = some z := ⟨_, List.getElem?_eq_getElem (by rw [List.length_append, hm]; omega)⟩
   have hlast : bgP (way ++ leastP wd bg.ce p.l) = z.nxt := by
    unfold bgP
    rw [List.getLast?_eq_getElem?, List.length_append, hm, show way.length + (m + 1) - 1 = way.length + m by omega, hz]
   obtain ⟨_, _, _, _, t4, t5, t6⟩ := sr5.2 _ _ hz
   have hne5 : w.heap.size + 1 ≠ g5 := by omega
   have r4 : (w5.setCell ⟨w.heap.size + 1, 0, none⟩ (.slice (some ⟨g5, 0, none⟩) (way.length + m + 1) cap5)).cell? ⟨g5, (way.length + m) * 7 + 4, none⟩ = some (.int .i64 z.nxt.loc) := (World.cell?_of_block (Below.heap_setCell _ _ _ _ (Ne.symm hne5))).trans t4
   have r5 : (w5.setCell ⟨w.heap.size + 1, 0, none⟩ (.slice (some ⟨g5, 0, none⟩) (way.length + m + 1) cap5)).cell? ⟨g5, (way.length + m) * 7 + 5, none⟩ = some (.int .i64 z.nxt.sg) := (World.cell?_of_block (Below.heap_setCell _ _ _ _ (Ne.symm hne5))).trans t5
   have r6 : (w5.setCell ⟨w.heap.size + 1, 0, none⟩ (.slice (some ⟨g5, 0, none⟩) (way.length + m + 1) cap5)).cell? ⟨g5, (way.length + m) * 7 + 6, none⟩ = some (.int .i64 z.nxt.ce) := (World.cell?_of_block (Below.heap_setCell _ _ _ _ (Ne.symm hne5))).trans t6
   have ownX : (w5.setCell ⟨w.heap.size + 1, 0, none⟩ (.slice (some ⟨g5, 0, none⟩) (way.length + m + 1) cap5)).ownsRow (V.heap.size + 2 + 0) 52 7 (.slice (some ⟨g5, 0, none⟩) (way.length + m + 1) cap5) (way.length + m + 1) (flatS (way ++ leastP wd bg.ce p.l)) := ownsRow_keeps own5' (Keeps.of_but (m := w.heap.size) (b := V.heap.size + 2 + 0) ((But.refl (fun k => k = w.heap.size + 1) w5).setCell (p := ⟨w.heap.size + 1, 0, none⟩) rfl _) (fun k e => by omega))
   have hbX : But (fun k => (k = w.heap.size + 1 ∨ k = w.heap.size + 1 + 1) ∨ (V.heap.size + 2 + 0 ≤ k ∧ (k < W0.heap.size ∨ W.heap.size ≤ k))) W2 (w5.setCell ⟨w.heap.size + 1, 0, none⟩ (.slice (some ⟨g5, 0, none⟩) (way.length + m + 1) cap5)) := ((But.grown b4).trans (but_grown gr5 (fun k e => .inr ⟨(g3.lt k e).1, .inl (hgz k e.symm)⟩))).setCell (p := ⟨w.heap.size + 1, 0, none⟩) (.inl (.inl rfl)) _
   generalize (w5.setCell ⟨w.heap.size + 1, 0, none⟩ (.slice (some ⟨g5, 0, none⟩) (way.length + m + 1) cap5)) = X at *
   have c61 := h61.cell
   have ⟨p0, p1, p2⟩ := h62.cells
   have ⟨p3, p4, p5⟩ := h62.frozens
   have v1 : (((way.length + m + 1 : Nat) : Int) - 1) = ((way.length + m : Nat) : Int) := by omega
   have v2 : IntKind.i64.wrap ((way.length + m : Nat) : Int) = ((way.length + m : Nat) : Int) := IntWalk.i64_in _ ⟨by omega, by omega⟩
   obtain ⟨t, ht⟩ : ∃ t, way.length + m = t := ⟨_, rfl⟩
   have HT := hideW (And.intro h60 (And.intro h61 (And.intro h62 (And.intro ownX (And.intro hbX (And.intro hlast (And.intro hsn (And.intro hm ht))))))))
   have v3 : ((way.length + m : Nat) : Int) ≤ 9223372036854775807 := by omega
   clear h60 h61 h62 own5 gr5 own4 b4 g3 hsn hB2 hfl own5' sr5 hz hlast ownX hbX hm t4 t5 t6
   rw [ht] at v1 v2 v3 r4 r5 r6 c61 ⊢
   have v4 : (t : Int) < (t : Int) + 1 := by omega
   clear ht
   gi_wp2
   obtain ⟨h60, h61, h62, ownX, hbX, hlast, hsn, hm, ht⟩ := HT.out
   have b3 := but_three X (w.heap.size + 1 + 1) (.int .i64 z.nxt.loc) (.int .i64 z.nxt.sg) (.int .i64 z.nxt.ce)
   have u0 : Boxed (((X.setCell ⟨w.heap.size + 1 + 1, 0, none⟩ (.int .i64 z.nxt.loc)).setCell ⟨w.heap.size + 1 + 1, 1, none⟩ (.int .i64 z.nxt.sg)).setCell ⟨w.heap.size + 1 + 1, 2, none⟩ (.int .i64 z.nxt.ce)) w.heap.size 3 (.int .i64 wd) := (b3.same _ h60.lt (by omega)).trans h60
   have u1 : Boxed (((X.setCell ⟨w.heap.size + 1 + 1, 0, none⟩ (.int .i64 z.nxt.loc)).setCell ⟨w.heap.size + 1 + 1, 1, none⟩ (.int .i64 z.nxt.sg)).setCell ⟨w.heap.size + 1 + 1, 2, none⟩ (.int .i64 z.nxt.ce)) (w.heap.size + 1) 45 (.slice (some ⟨g5, 0, none⟩) (way.length + m + 1) cap5) := (b3.same _ h61.lt (by omega)).trans h61
   have u2 : SpAt (((X.setCell ⟨w.heap.size + 1 + 1, 0, none⟩ (.int .i64 z.nxt.loc)).setCell ⟨w.heap.size + 1 + 1, 1, none⟩ (.int .i64 z.nxt.sg)).setCell ⟨w.heap.size + 1 + 1, 2, none⟩ (.int .i64 z.nxt.ce)) (w.heap.size + 1 + 1) z.nxt.loc z.nxt.sg z.nxt.ce := set_at (set_at (set_at h62 0 _) 1 _) 2 _
   have u3 := ownsRow_keeps ownX (Keeps.of_but (m := w.heap.size) (b := V.heap.size + 2 + 0) b3 (fun k e => by omega))
   have u4 : (way ++ leastP wd bg.ce p.l).length = way.length + m + 1 := by rw [List.length_append, hm]; omega
   have b4 := hbX.trans (b3.mono (N := fun k => (k = w.heap.size + 1 ∨ k = w.heap.size + 1 + 1) ∨ (V.heap.size + 2 + 0 ≤ k ∧ (k < W0.heap.size ∨ W.heap.size ≤ k))) (fun k _ e => .inl (.inr e)))
   refine ⟨b4, ?_⟩
   show _ ∧ _
   refine ⟨u0, .slice (some ⟨g5, 0, none⟩) (way.length + m + 1) cap5, u1, ?_, ?_⟩
   ·rw [hsn, hlast]
    exact u2
   ·rw [hsn, u4]
    exact u3
 case done =>
  rintro D W hD ⟨v, h0, h1, h2, h3⟩ hBW hK
  have hWz := hBW.size
  have hBw : Below w.heap.size w W := hB.trans (hBW.below (by omega) (fun k e => by omega))
  have k1 := h1.cell
  have hne := row_apart_def h3 hK
  have HK := hideW (And.intro hK (And.intro h3 (And.intro hBw hne)))
  clear hK h3 hBw hne h0 h2
  gi_wp2
  obtain ⟨hK, h3, hBw, hne⟩ := HK.out
  refine ⟨by simp, .inl ⟨_, _, rfl, run_takeDeferred hK, ?_⟩⟩
  refine ⟨v, by simp [results, Tryz.f14, go_sem], v, rfl, ?_, hBw.trans ((putObj_belowL _ _ _).mono (by omega))⟩
  exact ownsRow_putObj (ownsRow_from h3 (by omega)) _ hK rfl
 case stop => rintro D c pre W hD hpre h; exact h.elim
end Go.Proofs.YtlkgnheccoodpaaGreatDoor
