/- Several texts, one behind the other. -/
import Derived.Test.YteignefcijmmeaaDoorCloneW
import Derived.Test.YteignefcijmmeaaDoorG3
/- Package wrap: Lines of every text and all breaks. -/
namespace Go.Proofs.YteignefcijmmeaaDoor
open Go.RowKit Go.Shelf
attribute [local go_sem] Oper.semAt_some

/-- The line of the program: from where it begins up to where it ends. -/
def lnX (s : ByteArray) (p : Ln) : ByteArray := s.extract p.l.toNat p.x.fin.loc.toNat
/-- A line lies in the text. -/
def LnOk (s : ByteArray) (p : Ln) : Prop := ∃ a b : Nat, p.l = (a : Int) ∧ p.x.fin.loc = (b : Int) ∧ a ≤ b ∧ b ≤ s.size
def strV (l : List ByteArray) : List Value := l.map .string
theorem infoS9 : (Tryd.prog.info? 9).map (fun i => (i.zero, i.size, i.bytes)) = some (some (.string ⟨#[]⟩), 1, 16) := by kernel_rfl
/-- What a round of Lines finds: the text's box, the box of the lines with what they are, and the two numbers of the line at hand. -/
structure LnW (U : World) (sb tb base : Nat) (s : ByteArray) (v : Value) (n : Nat) (xs : List Value) (q A B : Nat) : Prop where
  sbx : Boxed U sb 9 (.string s)
  tbx : Boxed U tb 34 v
  ow : U.ownsRow base 9 1 v n xs
  bg : U.cell? ⟨q, 0, none⟩ = some (.int .i64 (A : Nat))
  xc : U.cell? ⟨q + 1, 1, none⟩ = some (.int .i64 (B : Nat))
  lt : q + 1 < U.heap.size
  hs : sb < base
  hq : ∀ k, v.ownBlock = some k → k < q
theorem LnW.step {U U' : World} {sb tb base : Nat} {s : ByteArray} {v : Value} {n : Nat} {xs : List Value} {q A B : Nat} (h : LnW U sb tb base s v n xs q A B) (b : Below U.heap.size U U') : LnW U' sb tb base s v n xs q A B :=
  ⟨(b.block _ h.sbx.lt).trans h.sbx, (b.block _ h.tbx.lt).trans h.tbx, ownsRow_keeps (m := 0) h.ow (Keeps.of_below b), (b.cell (p := ⟨q, 0, none⟩) (by have := h.lt; show q < _; omega)).trans h.bg, (b.cell (p := ⟨q + 1, 1, none⟩) h.lt).trans h.xc, Nat.lt_of_lt_of_le h.lt b.size, h.hs, h.hq⟩
theorem LnW.grow {U U' : World} {sb tb base : Nat} {s : ByteArray} {v : Value} {n : Nat} {xs : List Value} {q A B : Nat} (h : LnW U sb tb base s v n xs q A B) (g : U.grownBy U' v.ownBlock) :
    Boxed U' sb 9 (.string s) ∧ Boxed U' tb 34 v ∧ U'.cell? ⟨q, 0, none⟩ = some (.int .i64 (A : Nat)) ∧ U'.cell? ⟨q + 1, 1, none⟩ = some (.int .i64 (B : Nat)) := by
  have hl := h.lt
  refine ⟨(g.block _ h.sbx.lt ?_).trans h.sbx, (g.block _ h.tbx.lt (row_apart h.ow h.tbx (by decide))).trans h.tbx, (World.cell?_of_block (g.block q (by omega) ?_)).trans h.bg, (World.cell?_of_block (g.block (q + 1) hl ?_)).trans h.xc⟩
  · intro e
    have := (h.ow.lt _ e.symm).1
    have := h.hs
    omega
  · intro e
    have := h.hq _ e.symm
    omega
  · intro e
    have := h.hq _ e.symm
    omega

set_option maxRecDepth 100000 in
set_option maxHeartbeats 2000000 in
theorem plines_ok (s : ByteArray) (hs : s.size ≤ 4096) (Bk : List (Int × Int)) (oa : Option Addr) (cpB : Nat) (hB : Bk.length ≤ 100000) (hcB : Bk.length ≤ cpB ∧ cpB ≤ maxLen) (N : Nat) (w : World) (hT : Tabs N w) (hBR : BR w oa Bk) (way : List St) (rest : List (Int × Int)) (hq : wayG (plS s) Bk = some (way, rest)) (hr : rest.length = 0) (hok : ∀ p ∈ linesG 0 0 0 (way ++ [fnS s]), LnOk s p) :
    Calls Tryd.prog 13 #[.string s, .slice oa Bk.length cpB] w fun e w' => ∃ v, e = .returned (.tuple #[v, .int .i64 0]) ∧ w'.ownsRow w.heap.size 9 1 v (way.length + 1) (strV ((linesG 0 0 0 (way ++ [fnS s])).map (lnX s))) ∧ Below w.heap.size w w' := by
  obtain ⟨s0, hsi, hs0, hs1, hs2⟩ := info_partsC infoS9
  obtain ⟨hS, hl, _, _⟩ := wrapW_all s hs 2 ⟨by decide, by decide⟩
  have HSt := hideW (fun U hU => stops_walk s (by omega) N U hU)
  have e0 : stopsL (partsL s) = plS s ++ [fnS s] := rfl
  rw [e0] at HSt
  rw [stopsW_eq] at hS hl
  generalize plS s = S at *
  generalize fnS s = z at *
  rw [List.length_append, List.length_singleton] at hl
  rw [List.length_append, List.length_singleton] at HSt
  have HB := hideW hBR
  have d1 : ¬ (4096 : Int) < (s.size : Int) := by omega
  obtain ⟨sub1, sub2⟩ := wayG_sub S Bk way rest hq
  have HQ := hideW hq
  have HOk := hideW hok
  clear e0 hBR hq hS hok sub1
  refine (callsIn_wide (n := 9)).1 ?_
  refine callsIn_of_wp_marks Tryd.func13 rfl trivial ?_ rfl
  simp only [Tryd.ntmps13, List.size_toArray, List.length_cons, List.length_nil, Nat.reduceAdd, Nat.reduceSub, Array.replicate_succ, Array.replicate_zero, List.push_toArray, List.append_toArray, List.nil_append, List.cons_append]
  gi_wp2_with fail
  refine ⟨trivial, ?_⟩
  gi_at_call 28
  have bx := bel1W w (.cells #[.string s] 9)
  refine (callsIn_wide.2 (HSt.out _ (hT.below bx))).mono ?_
  rintro e w2 ⟨v2, rfl, own2, b2⟩
  have sb2 : Boxed w2 w.heap.size 9 (.string s) := (b2.block _ (by simp)).trans (Boxed.new w 9 (.string s))
  have b2 : Below w.heap.size w w2 := bupW bx b2
  obtain ⟨g2, cap2, rfl⟩ := ownsRow_succ own2
  obtain ⟨sr2, hg2, hcn2, hcm2⟩ := SRow.of_owns own2
  have HWy := hideW (wayOf_walk S z g2 cap2 (by omega) ⟨hcn2, hcm2⟩ Bk oa cpB hB hcB w2 sr2 (HB.out.keep b2))
  have B2 := hideW (And.intro b2 sb2)
  clear own2 sr2 b2 HSt bx sb2
  gi_wp2_with fail
  refine ⟨trivial, ?_⟩
  gi_at_call 27
  refine (callsIn_wide.2 HWy.out).mono ?_
  rintro e w3 ⟨_, hsm, b3⟩
  obtain ⟨v3, rfl, own3⟩ := hsm way rest HQ.out
  obtain ⟨g3, cap3, rfl⟩ := ownsRow_succ own3
  obtain ⟨sr3, hg3, hcn3, hcm3⟩ := SRow.of_owns own3
  have sb3 : Boxed w3 w.heap.size 9 (.string s) := (b3.block _ B2.out.2.lt).trans B2.out.2
  have hg3l : g3 < w3.heap.size := (own3.lt g3 rfl).2
  have hwZ : w.heap.size < w3.heap.size := sb3.lt
  have hr1 : (rest.length == 0) = true := by simp [hr]
  rw [hr1]
  have B3 := hideW (And.intro (bupW B2.out.1 b3) (And.intro sb3 (SRowO.of_row sr3)))
  clear b3 B2 HWy HB hsm own3 sr3 sb3 hr1
  gi_wp2_with (refine ⟨trivial, ?_⟩; gi_at_call 34; refine (callsIn_wide.2 (lines_mk _ _ _ _)).mono ?_; rintro e w' ⟨rfl, rfl⟩)
  obtain ⟨Z, hZ⟩ : ∃ Z, w3.heap.size = Z := ⟨_, rfl⟩
  obtain ⟨V, hV⟩ : ∃ V, (w3.alloc (.cells #[.slice none 0 0] 34)).alloc (.cells #[.slice (some ⟨g3, 0, none⟩) (way.length + 1) cap3] 63) = V := ⟨_, rfl⟩
  obtain ⟨hB3, sb3, sr3⟩ := B3.out
  have b0 : Boxed V w.heap.size 9 (.string s) := by rw [← hV]; exact (sb3.alloc _).alloc _
  have b1 : Boxed V Z 34 (.slice none 0 0) := by rw [← hV, ← hZ]; exact (Boxed.new w3 _ _).alloc _
  have b4 : Boxed V (Z + 1) 63 (.slice (some ⟨g3, 0, none⟩) (way ++ [z]).length cap3) := by
    rw [← hV, ← hZ]
    have := Boxed.new (w3.alloc (.cells #[.slice none 0 0] 34)) 63 (.slice (some ⟨g3, 0, none⟩) (way.length + 1) cap3)
    rw [World.size_alloc] at this
    rw [List.length_append, List.length_singleton]
    exact this
  have hBV : Below w3.heap.size w3 V := by rw [← hV]; exact bupW (bel1W w3 _) (bel1W _ _)
  have hz1 : Z + 2 ≤ V.heap.size := by rw [← hV, ← hZ]; simp
  have hz2 : V.heap.size ≤ Z + 2 := by rw [← hV, ← hZ]; simp
  have hVG := sr3.keep hBV sr3.1
  have hBw := bupW hB3 hBV
  rw [hV, hZ]
  rw [hZ] at hg3l hwZ
  clear hV hBV hB3 sb3 sr3 B3 hZ
  have hln := linesG_len (way ++ [z]) 0 0 0
  rw [List.length_append, List.length_singleton] at hln
  refine rangeFunc_priv (α := Ln) (by omega) (gf := 57) (lb := #[.pointer (some ⟨Z + 1, 0, none⟩)]) rfl (enters_of Tryd.func57 (by kernel_rfl) rfl)
    (lines_seq (9 - 1) (Z + 1) g3 cap3 (by omega) (way ++ [z]) ⟨by rw [List.length_append, List.length_singleton]; omega, hcm3⟩ V b4 hVG) (fun _ => rfl)
    (fun k => k = Z) (fun k e => by subst e; exact ⟨by omega, by omega, by omega⟩)
    (fun pre W => ∃ v, Boxed W w.heap.size 9 (.string s) ∧ Boxed W Z 34 v ∧ W.ownsRow (V.heap.size + 2 + 1) 9 1 v pre.length (strV (pre.map (lnX s))))
    (fun _ _ _ => False)
    (fun pre A B h hk => by obtain ⟨v, h1, h2, h4⟩ := h; exact ⟨v, (hk.same _ h1.lt (.inl (by omega))).trans h1, (hk.same _ h2.lt (.inl (by omega))).trans h2, ownsRow_keeps h4 hk⟩)
    (fun _ _ _ _ h _ => h) ⟨_, b0, b1, World.ownsRow_nil _ _ _ _⟩ ?round ?done ?stop
  case round =>
    rintro l pre p W0 W K hl0 hlW hhi hlh hW0 hBW hip hpx hK
    have hWz := hBW.size
    have hW0z := hW0.size
    have hpl : pre.length + 1 ≤ way.length + 1 := by have := hpx.length_le; rw [hln] at this; simpa using this
    obtain ⟨A, B, pA, pB, hAB, hBs⟩ := HOk.out p (hpx.subset (by simp))
    obtain ⟨pa, pb, pc, x⟩ := p
    simp only at pA pB
    have HPB := hideW pB
    subst pA
    clear pB
    simp only [Ln.enc, St.val]
    gi_wp2
    refine hK _ _ (bupW (bel1W W _) (bel1W _ _)) (fun W2 hbo hzz hB2 hi2 => ?_)
    have hWW : W.heap.size + 2 ≤ W2.heap.size := by rw [hzz]; simp
    have t0 : SpAt W2 W.heap.size A pb pc := (hbo.same W.heap.size (by simp; omega) (by omega)).trans ((Below.heap_alloc _ _ _ (by simp)).trans (World.alloc_heap_new W _))
    have x0 : StAt W2 (W.heap.size + 1) x := by
      refine (hbo.same (W.heap.size + 1) (by simp) (by omega)).trans ?_
      have := World.alloc_heap_new (W.alloc (.cells #[.int .i64 (A : Nat), .int .i64 pb, .int .i64 pc] 79)) (.cells #[.int .i64 x.kind, .int .i64 x.fin.loc, .int .i64 x.fin.sg, .int .i64 x.fin.ce, .int .i64 x.nxt.loc, .int .i64 x.nxt.sg, .int .i64 x.nxt.ce] 81)
      rw [World.size_alloc] at this
      exact this
    obtain ⟨v, i0, i1, i3⟩ := hi2
    obtain ⟨v0, i0', i1', i3'⟩ := hip
    have hv : v0 = v := by
      have h1 := (hbo.same Z (by simp; omega) (by omega)).trans ((Below.heap_alloc _ _ _ (by simp; omega)).trans ((Below.heap_alloc _ _ _ (by omega)).trans ((hW0.block Z i1'.lt).trans i1')))
      have h2 := h1.symm.trans i1
      simpa using h2
    subst hv
    have hgz : ∀ k, some k = v0.ownBlock → k < W0.heap.size := fun k hk => (i3'.lt k hk.symm).2
    have k1 := x0.cells.2.1
    rw [HPB.out] at k1
    have HI : Hid (LnW W2 w.heap.size Z (V.heap.size + 2 + 1) s v0 pre.length (strV (pre.map (lnX s))) W.heap.size A B) := hideW ⟨i0, i1, i3, t0.cells.1, k1, by omega, by omega, fun k e => by have := hgz k e.symm; omega⟩
    have k0 := i0.cell
    have k2 := i1.cell
    have k3 := t0.cells.1
    have hl1 : (A : Int) ≤ (B : Int) := by omega
    have hl2 : (B : Int) ≤ (s.size : Int) := by omega
    have HCl := hideW (fun U => clone_any (s.extract A B) U (by rw [ByteArray.size_extract]; omega))
    clear i0 i1 i3 i0' i1' i3' hbo hK t0 x0 hpx hVG
    gi_wp2
    have hSw : (fun w' => w'.cell? ⟨w.heap.size, 0, none⟩ = some (.string s) ∧ w'.cell? ⟨W.heap.size, 0, none⟩ = some (.int .i64 (A : Nat)) ∧ w'.cell? ⟨W.heap.size + 1, 1, none⟩ = some (.int .i64 (B : Nat))) W2.drew := ⟨k0, k3, k1⟩
    refine region_held_round (S := fun w' => w'.cell? ⟨w.heap.size, 0, none⟩ = some (.string s) ∧ w'.cell? ⟨W.heap.size, 0, none⟩ = some (.int .i64 (A : Nat)) ∧ w'.cell? ⟨W.heap.size + 1, 1, none⟩ = some (.int .i64 (B : Nat))) l (by rfl) (by kernel_rfl) (fun ⟨_, _, h⟩ => h) ?_
    refine wpAnyH_take (i := 1) (oi := { dst := some 28, op := Op.load 9 (Operand.tmp 2), type := 9, pos := "wrap.go:55", after := #[], guard := none }) (v := .string s) rfl (by kernel_rfl) (by kernel_rfl) (by kernel_rfl) (fun _ _ _ h => h) (Or.inl ⟨by rfl, ?_⟩) hSw ?_
    · intro w' hS'
      obtain ⟨y1, y2, y3⟩ := hS'
      go_simp
    simp only [Act.put, List.setIfInBounds_toArray, List.set_cons_zero, List.set_cons_succ]
    refine wpAnyH_take (i := 2) (oi := { dst := some 29, op := Op.fieldAddr 79 (Operand.tmp 9) 0, type := 0, pos := "wrap.go:55", after := #[], guard := none }) (v := .pointer (some ⟨W.heap.size, 0, none⟩)) rfl (by kernel_rfl) (by kernel_rfl) (by kernel_rfl) (fun _ _ _ h => h) (Or.inl ⟨by rfl, ?_⟩) hSw ?_
    · intro w' hS'
      obtain ⟨y1, y2, y3⟩ := hS'
      go_simp
    simp only [Act.put, List.setIfInBounds_toArray, List.set_cons_zero, List.set_cons_succ]
    refine wpAnyH_take (i := 3) (oi := { dst := some 30, op := Op.load 3 (Operand.tmp 29), type := 3, pos := "wrap.go:55", after := #[{ on := 2, ground := Ground.data }], guard := none }) (v := .int .i64 (A : Nat)) rfl (by kernel_rfl) (by kernel_rfl) (by kernel_rfl) (fun _ _ _ h => h) (Or.inl ⟨by rfl, ?_⟩) hSw ?_
    · intro w' hS'
      obtain ⟨y1, y2, y3⟩ := hS'
      go_simp
    simp only [Act.put, List.setIfInBounds_toArray, List.set_cons_zero, List.set_cons_succ]
    refine wpAnyH_take (i := 4) (oi := { dst := some 31, op := Op.fieldAddr 81 (Operand.tmp 10) 1, type := 0, pos := "wrap.go:55", after := #[], guard := none }) (v := .pointer (some ⟨W.heap.size + 1, 1, none⟩)) rfl (by kernel_rfl) (by kernel_rfl) (by kernel_rfl) (fun _ _ _ h => h) (Or.inl ⟨by rfl, ?_⟩) hSw ?_
    · intro w' hS'
      obtain ⟨y1, y2, y3⟩ := hS'
      go_simp
    simp only [Act.put, List.setIfInBounds_toArray, List.set_cons_zero, List.set_cons_succ]
    refine wpAnyH_take (i := 5) (oi := { dst := some 32, op := Op.fieldAddr 79 (Operand.tmp 31) 0, type := 0, pos := "wrap.go:55", after := #[{ on := 4, ground := Ground.data }], guard := none }) (v := .pointer (some ⟨W.heap.size + 1, 1, none⟩)) rfl (by kernel_rfl) (by kernel_rfl) (by kernel_rfl) (fun _ _ _ h => h) (Or.inl ⟨by rfl, ?_⟩) hSw ?_
    · intro w' hS'
      obtain ⟨y1, y2, y3⟩ := hS'
      go_simp
    simp only [Act.put, List.setIfInBounds_toArray, List.set_cons_zero, List.set_cons_succ]
    refine wpAnyH_take (i := 6) (oi := { dst := some 33, op := Op.load 3 (Operand.tmp 32), type := 3, pos := "wrap.go:55", after := #[{ on := 5, ground := Ground.data }], guard := none }) (v := .int .i64 (B : Nat)) rfl (by kernel_rfl) (by kernel_rfl) (by kernel_rfl) (fun _ _ _ h => h) (Or.inl ⟨by rfl, ?_⟩) hSw ?_
    · intro w' hS'
      obtain ⟨y1, y2, y3⟩ := hS'
      go_simp
    simp only [Act.put, List.setIfInBounds_toArray, List.set_cons_zero, List.set_cons_succ]
    refine wpAnyH_take (i := 7) (oi := { dst := some 34, op := Op.slice 9 (Operand.tmp 28) (some (Operand.tmp 30)) (some (Operand.tmp 33)) none, type := 9, pos := "wrap.go:55", after := #[{ on := 1, ground := Ground.data }, { on := 3, ground := Ground.data }, { on := 6, ground := Ground.data }], guard := none }) (v := .string (s.extract A B)) rfl (by kernel_rfl) (by kernel_rfl) (by kernel_rfl) (fun _ _ _ h => h) (Or.inl ⟨by rfl, ?_⟩) hSw ?_
    · intro w' hS'
      obtain ⟨y1, y2, y3⟩ := hS'
      go_simp
    simp only [Act.put, List.setIfInBounds_toArray, List.set_cons_zero, List.set_cons_succ]
    refine wpAnyH_ready (rs := [0, 8]) (by kernel_rfl) (by simp) ?_
    refine AllReadyH.cons (o := { dst := some 27, op := Op.load 34 (Operand.tmp 8), type := 34, pos := "wrap.go:55", after := #[], guard := none }) rfl (fun Ka hKa => ?_) (AllReadyH.cons (o := { dst := some 35, op := Op.call { callee := Callee.value (Operand.func 35), args := #[Operand.tmp 34], argTypes := #[9] }, type := 9, pos := "wrap.go:55", after := #[{ on := 7, ground := Ground.data }], guard := none }) rfl (fun Kb hKb => ?_) (AllReadyH.nil))
    · go_simp
      refine hKa.out _ _ hSw (fun _ => ?_)
      clear hKa Ka
      try simp only [Act.put, List.setIfInBounds_toArray, List.set_cons_zero, List.set_cons_succ]
      refine wpAnyH_ready (rs := [8]) (by kernel_rfl) (by simp) ?_
      refine AllReadyH.cons (o := { dst := some 35, op := Op.call { callee := Callee.value (Operand.func 35), args := #[Operand.tmp 34], argTypes := #[9] }, type := 9, pos := "wrap.go:55", after := #[{ on := 7, ground := Ground.data }], guard := none }) rfl (fun Kb hKb => ?_) (AllReadyH.nil)
      go_simp
      refine (HCl.out _).mono ?_
      rintro e w4 ⟨rfl, b4⟩
      have b4 : Below W2.heap.size W2 w4 := bupW (Below.refl W2.heap.size W2).drew b4
      have c4 := HI.out.step b4
      have hS4 : (fun w' => w'.cell? ⟨w.heap.size, 0, none⟩ = some (.string s) ∧ w'.cell? ⟨W.heap.size, 0, none⟩ = some (.int .i64 (A : Nat)) ∧ w'.cell? ⟨W.heap.size + 1, 1, none⟩ = some (.int .i64 (B : Nat))) w4 := ⟨c4.sbx.cell, c4.bg, c4.xc⟩
      have k4 := c4.tbx.cell
      have H4 := hideW (And.intro c4 b4)
      clear c4 b4
      refine hKb.out _ _ hS4 (fun _ => ?_)
      clear hKb Kb
      try simp only [Act.put, List.setIfInBounds_toArray, List.set_cons_zero, List.set_cons_succ]
      refine wpAnyH_ready (rs := [9]) (by kernel_rfl) (by simp) ?_
      refine AllReadyH.cons (o := { dst := some 36, op := Op.buildSlice 34 1 #[(0, Operand.tmp 35)], type := 34, pos := "wrap.go:55", after := #[{ on := 8, ground := Ground.data }], guard := none }) rfl (fun Ke hKe => ?_) (AllReadyH.nil)
      go_simp
      have c5 := (H4.out.1).step (bel1W w4 (.cells #[.string (s.extract A B)] 9))
      have b5 : Below W2.heap.size W2 (w4.alloc (.cells #[.string (s.extract A B)] 9)) := bupW H4.out.2 (bel1W w4 _)
      have n5 := World.alloc_heap_new w4 (.cells #[.string (s.extract A B)] 9)
      have hS5 : (fun w' => w'.cell? ⟨w.heap.size, 0, none⟩ = some (.string s) ∧ w'.cell? ⟨W.heap.size, 0, none⟩ = some (.int .i64 (A : Nat)) ∧ w'.cell? ⟨W.heap.size + 1, 1, none⟩ = some (.int .i64 (B : Nat))) (w4.alloc (.cells #[.string (s.extract A B)] 9)) := ⟨c5.sbx.cell, c5.bg, c5.xc⟩
      have k5 := c5.tbx.cell
      obtain ⟨w5, hw5⟩ : ∃ w5, w4.alloc (.cells #[.string (s.extract A B)] 9) = w5 := ⟨_, rfl⟩
      obtain ⟨z4, hz4⟩ : ∃ z4, w4.heap.size = z4 := ⟨_, rfl⟩
      rw [hw5] at c5 b5 n5 hS5 k5
      rw [hz4] at n5
      have H5 := hideW (And.intro c5 (And.intro b5 n5))
      clear c5 b5 n5
      try rw [hw5]
      try rw [hz4]
      refine hKe.out _ _ hS5 (fun _ => ?_)
      clear hKe Ke
      try simp only [Act.put, List.setIfInBounds_toArray, List.set_cons_zero, List.set_cons_succ]
      refine wpAnyH_ready (rs := [10]) (by kernel_rfl) (by simp) ?_
      refine AllReadyH.cons (o := { dst := some 37, op := Op.call { callee := Callee.builtin Builtin.append, args := #[Operand.tmp 27, Operand.tmp 36], argTypes := #[34, 34] }, type := 34, pos := "wrap.go:55", after := #[{ on := 0, ground := Ground.data }, { on := 9, ground := Ground.data }, { on := 8, ground := Ground.chain }], guard := none }) rfl (fun Kc hKc => ?_) (AllReadyH.nil)
      obtain ⟨c5, b5, n5⟩ := H5.out
      refine step_row w5 rfl (.tmp 27) (.tmp 36) 34 rfl (V.heap.size + 2 + 1) 9 s0 (.string ⟨#[]⟩) 1 16 Tryd.underlying34 hsi hs0 hs1 hs2 rfl (by decide) v0 pre.length (strV (pre.map (lnX s))) rfl c5.ow ⟨z4, 0, none⟩ 1 1 [.string (s.extract A B)] rfl rfl (World.news_of_block (cs := #[.string (s.extract A B)]) (t := 9) (fr := (0, 0)) n5) (by simp [Value.oneCell']) (by unfold maxLen; omega) (by omega) (by have := b5.size; omega) ?_
      intro v6 w6 own6 gr6
      obtain ⟨g6, cap6, rfl⟩ := ownsRow_succ own6
      have c6 := c5.grow gr6
      have hS6 : (fun w' => w'.cell? ⟨w.heap.size, 0, none⟩ = some (.string s) ∧ w'.cell? ⟨W.heap.size, 0, none⟩ = some (.int .i64 (A : Nat)) ∧ w'.cell? ⟨W.heap.size + 1, 1, none⟩ = some (.int .i64 (B : Nat))) w6 := ⟨c6.1.cell, c6.2.2.1, c6.2.2.2⟩
      refine hKc.out _ _ hS6 (fun _ => ?_)
      clear hKc Kc
      try simp only [Act.put, List.setIfInBounds_toArray, List.set_cons_zero, List.set_cons_succ]
      refine wpAnyH_ready (rs := [11]) (by kernel_rfl) (by simp) ?_
      refine AllReadyH.cons (o := { dst := none, op := Op.store 34 (Operand.tmp 8) (Operand.tmp 37), type := 0, pos := "wrap.go:55", after := #[{ on := 10, ground := Ground.data }, { on := 10, ground := Ground.chain }, { on := 0, ground := Ground.phase }, { on := 1, ground := Ground.phase }, { on := 2, ground := Ground.phase }, { on := 3, ground := Ground.phase }, { on := 4, ground := Ground.phase }, { on := 5, ground := Ground.phase }, { on := 6, ground := Ground.phase }, { on := 7, ground := Ground.phase }, { on := 8, ground := Ground.phase }, { on := 9, ground := Ground.phase }, { on := 10, ground := Ground.phase }], guard := none }) rfl (fun Kd hKd => ?_) (AllReadyH.nil)
      have n3 := c6.2.1.cell
      have n4 := c6.2.1.frozen
      have h60 : Boxed (w6.setCell ⟨Z, 0, none⟩ (.slice (some ⟨g6, 0, none⟩) (pre.length + 1) cap6)) w.heap.size 9 (.string s) := boxO c6.1 (by omega)
      have h61 : Boxed (w6.setCell ⟨Z, 0, none⟩ (.slice (some ⟨g6, 0, none⟩) (pre.length + 1) cap6)) Z 34 (.slice (some ⟨g6, 0, none⟩) (pre.length + 1) cap6) := c6.2.1.set (.slice (some ⟨g6, 0, none⟩) (pre.length + 1) cap6)
      have h62 : (w6.setCell ⟨Z, 0, none⟩ (.slice (some ⟨g6, 0, none⟩) (pre.length + 1) cap6)).cell? ⟨W.heap.size, 0, none⟩ = some (.int .i64 (A : Nat)) := (World.cell?_of_block (Below.heap_setCell _ _ _ _ (show W.heap.size ≠ Z by omega))).trans c6.2.2.1
      have h63 : (w6.setCell ⟨Z, 0, none⟩ (.slice (some ⟨g6, 0, none⟩) (pre.length + 1) cap6)).cell? ⟨W.heap.size + 1, 1, none⟩ = some (.int .i64 (B : Nat)) := (World.cell?_of_block (Below.heap_setCell _ _ _ _ (show W.heap.size + 1 ≠ Z by omega))).trans c6.2.2.2
      have HE := hideW (And.intro h60 (And.intro h61 (And.intro own6 (And.intro gr6 (And.intro b5 c5)))))
      have hS7 : (fun w' => w'.cell? ⟨w.heap.size, 0, none⟩ = some (.string s) ∧ w'.cell? ⟨W.heap.size, 0, none⟩ = some (.int .i64 (A : Nat)) ∧ w'.cell? ⟨W.heap.size + 1, 1, none⟩ = some (.int .i64 (B : Nat))) (w6.setCell ⟨Z, 0, none⟩ (.slice (some ⟨g6, 0, none⟩) (pre.length + 1) cap6)) := ⟨h60.cell, h62, h63⟩
      clear c5 b5 n5 c6 own6 gr6 h60 h61 h62 h63
      go_simp
      refine hKd.out _ _ hS7 (fun _ => ?_)
      clear hKd Kd
      try simp only [Act.put, List.setIfInBounds_toArray, List.set_cons_zero, List.set_cons_succ]
      refine wpAnyH_done (by kernel_rfl) ?_ _
      obtain ⟨h60, h61, own6, gr6, b5, c5⟩ := HE.out
      have ownX : (w6.setCell ⟨Z, 0, none⟩ (.slice (some ⟨g6, 0, none⟩) (pre.length + 1) cap6)).ownsRow (V.heap.size + 2 + 1) 9 1 (.slice (some ⟨g6, 0, none⟩) (pre.length + 1) cap6) (pre.length + 1) (strV (pre.map (lnX s)) ++ [.string (s.extract A B)]) := ownsRow_keeps own6 (Keeps.of_but (m := Z) (b := V.heap.size + 2 + 1) ((But.refl (fun k => k = Z) w6).setCell (p := ⟨Z, 0, none⟩) rfl _) (fun k e => by omega))
      have hbX : But (fun k => k = Z ∨ (V.heap.size + 2 + 1 ≤ k ∧ (k < W0.heap.size ∨ W.heap.size ≤ k))) W2 (w6.setCell ⟨Z, 0, none⟩ (.slice (some ⟨g6, 0, none⟩) (pre.length + 1) cap6)) := ((But.grown b5).trans (but_grown gr6 (fun k e => .inr ⟨(c5.ow.lt k e).1, .inl (hgz k e.symm)⟩))).setCell (p := ⟨Z, 0, none⟩) (.inl rfl) _
      refine ⟨hbX, .slice (some ⟨g6, 0, none⟩) (pre.length + 1) cap6, h60, h61, ?_⟩
      rw [List.length_append, List.map_append]
      rw [show strV (List.map (lnX s) pre ++ List.map (lnX s) [⟨(A : Nat), pb, pc, x⟩]) = strV (pre.map (lnX s)) ++ [.string (s.extract A B)] by simp [strV, lnX, HPB.out]]
      exact ownX
    · skip
      go_simp
      refine (HCl.out _).mono ?_
      rintro e w4 ⟨rfl, b4⟩
      have b4 : Below W2.heap.size W2 w4 := bupW (Below.refl W2.heap.size W2).drew b4
      have c4 := HI.out.step b4
      have hS4 : (fun w' => w'.cell? ⟨w.heap.size, 0, none⟩ = some (.string s) ∧ w'.cell? ⟨W.heap.size, 0, none⟩ = some (.int .i64 (A : Nat)) ∧ w'.cell? ⟨W.heap.size + 1, 1, none⟩ = some (.int .i64 (B : Nat))) w4 := ⟨c4.sbx.cell, c4.bg, c4.xc⟩
      have k4 := c4.tbx.cell
      have H4 := hideW (And.intro c4 b4)
      clear c4 b4
      refine hKb.out _ _ hS4 (fun _ => ?_)
      clear hKb Kb
      try simp only [Act.put, List.setIfInBounds_toArray, List.set_cons_zero, List.set_cons_succ]
      refine wpAnyH_ready (rs := [0, 9]) (by kernel_rfl) (by simp) ?_
      refine AllReadyH.cons (o := { dst := some 27, op := Op.load 34 (Operand.tmp 8), type := 34, pos := "wrap.go:55", after := #[], guard := none }) rfl (fun Ka hKa => ?_) (AllReadyH.cons (o := { dst := some 36, op := Op.buildSlice 34 1 #[(0, Operand.tmp 35)], type := 34, pos := "wrap.go:55", after := #[{ on := 8, ground := Ground.data }], guard := none }) rfl (fun Ke hKe => ?_) (AllReadyH.nil))
      · skip
        go_simp
        refine hKa.out _ _ hS4 (fun _ => ?_)
        clear hKa Ka
        try simp only [Act.put, List.setIfInBounds_toArray, List.set_cons_zero, List.set_cons_succ]
        refine wpAnyH_ready (rs := [9]) (by kernel_rfl) (by simp) ?_
        refine AllReadyH.cons (o := { dst := some 36, op := Op.buildSlice 34 1 #[(0, Operand.tmp 35)], type := 34, pos := "wrap.go:55", after := #[{ on := 8, ground := Ground.data }], guard := none }) rfl (fun Ke hKe => ?_) (AllReadyH.nil)
        go_simp
        have c5 := (H4.out.1).step (bel1W w4 (.cells #[.string (s.extract A B)] 9))
        have b5 : Below W2.heap.size W2 (w4.alloc (.cells #[.string (s.extract A B)] 9)) := bupW H4.out.2 (bel1W w4 _)
        have n5 := World.alloc_heap_new w4 (.cells #[.string (s.extract A B)] 9)
        have hS5 : (fun w' => w'.cell? ⟨w.heap.size, 0, none⟩ = some (.string s) ∧ w'.cell? ⟨W.heap.size, 0, none⟩ = some (.int .i64 (A : Nat)) ∧ w'.cell? ⟨W.heap.size + 1, 1, none⟩ = some (.int .i64 (B : Nat))) (w4.alloc (.cells #[.string (s.extract A B)] 9)) := ⟨c5.sbx.cell, c5.bg, c5.xc⟩
        have k5 := c5.tbx.cell
        obtain ⟨w5, hw5⟩ : ∃ w5, w4.alloc (.cells #[.string (s.extract A B)] 9) = w5 := ⟨_, rfl⟩
        obtain ⟨z4, hz4⟩ : ∃ z4, w4.heap.size = z4 := ⟨_, rfl⟩
        rw [hw5] at c5 b5 n5 hS5 k5
        rw [hz4] at n5
        have H5 := hideW (And.intro c5 (And.intro b5 n5))
        clear c5 b5 n5
        try rw [hw5]
        try rw [hz4]
        refine hKe.out _ _ hS5 (fun _ => ?_)
        clear hKe Ke
        try simp only [Act.put, List.setIfInBounds_toArray, List.set_cons_zero, List.set_cons_succ]
        refine wpAnyH_ready (rs := [10]) (by kernel_rfl) (by simp) ?_
        refine AllReadyH.cons (o := { dst := some 37, op := Op.call { callee := Callee.builtin Builtin.append, args := #[Operand.tmp 27, Operand.tmp 36], argTypes := #[34, 34] }, type := 34, pos := "wrap.go:55", after := #[{ on := 0, ground := Ground.data }, { on := 9, ground := Ground.data }, { on := 8, ground := Ground.chain }], guard := none }) rfl (fun Kc hKc => ?_) (AllReadyH.nil)
        obtain ⟨c5, b5, n5⟩ := H5.out
        refine step_row w5 rfl (.tmp 27) (.tmp 36) 34 rfl (V.heap.size + 2 + 1) 9 s0 (.string ⟨#[]⟩) 1 16 Tryd.underlying34 hsi hs0 hs1 hs2 rfl (by decide) v0 pre.length (strV (pre.map (lnX s))) rfl c5.ow ⟨z4, 0, none⟩ 1 1 [.string (s.extract A B)] rfl rfl (World.news_of_block (cs := #[.string (s.extract A B)]) (t := 9) (fr := (0, 0)) n5) (by simp [Value.oneCell']) (by unfold maxLen; omega) (by omega) (by have := b5.size; omega) ?_
        intro v6 w6 own6 gr6
        obtain ⟨g6, cap6, rfl⟩ := ownsRow_succ own6
        have c6 := c5.grow gr6
        have hS6 : (fun w' => w'.cell? ⟨w.heap.size, 0, none⟩ = some (.string s) ∧ w'.cell? ⟨W.heap.size, 0, none⟩ = some (.int .i64 (A : Nat)) ∧ w'.cell? ⟨W.heap.size + 1, 1, none⟩ = some (.int .i64 (B : Nat))) w6 := ⟨c6.1.cell, c6.2.2.1, c6.2.2.2⟩
        refine hKc.out _ _ hS6 (fun _ => ?_)
        clear hKc Kc
        try simp only [Act.put, List.setIfInBounds_toArray, List.set_cons_zero, List.set_cons_succ]
        refine wpAnyH_ready (rs := [11]) (by kernel_rfl) (by simp) ?_
        refine AllReadyH.cons (o := { dst := none, op := Op.store 34 (Operand.tmp 8) (Operand.tmp 37), type := 0, pos := "wrap.go:55", after := #[{ on := 10, ground := Ground.data }, { on := 10, ground := Ground.chain }, { on := 0, ground := Ground.phase }, { on := 1, ground := Ground.phase }, { on := 2, ground := Ground.phase }, { on := 3, ground := Ground.phase }, { on := 4, ground := Ground.phase }, { on := 5, ground := Ground.phase }, { on := 6, ground := Ground.phase }, { on := 7, ground := Ground.phase }, { on := 8, ground := Ground.phase }, { on := 9, ground := Ground.phase }, { on := 10, ground := Ground.phase }], guard := none }) rfl (fun Kd hKd => ?_) (AllReadyH.nil)
        have n3 := c6.2.1.cell
        have n4 := c6.2.1.frozen
        have h60 : Boxed (w6.setCell ⟨Z, 0, none⟩ (.slice (some ⟨g6, 0, none⟩) (pre.length + 1) cap6)) w.heap.size 9 (.string s) := boxO c6.1 (by omega)
        have h61 : Boxed (w6.setCell ⟨Z, 0, none⟩ (.slice (some ⟨g6, 0, none⟩) (pre.length + 1) cap6)) Z 34 (.slice (some ⟨g6, 0, none⟩) (pre.length + 1) cap6) := c6.2.1.set (.slice (some ⟨g6, 0, none⟩) (pre.length + 1) cap6)
        have h62 : (w6.setCell ⟨Z, 0, none⟩ (.slice (some ⟨g6, 0, none⟩) (pre.length + 1) cap6)).cell? ⟨W.heap.size, 0, none⟩ = some (.int .i64 (A : Nat)) := (World.cell?_of_block (Below.heap_setCell _ _ _ _ (show W.heap.size ≠ Z by omega))).trans c6.2.2.1
        have h63 : (w6.setCell ⟨Z, 0, none⟩ (.slice (some ⟨g6, 0, none⟩) (pre.length + 1) cap6)).cell? ⟨W.heap.size + 1, 1, none⟩ = some (.int .i64 (B : Nat)) := (World.cell?_of_block (Below.heap_setCell _ _ _ _ (show W.heap.size + 1 ≠ Z by omega))).trans c6.2.2.2
        have HE := hideW (And.intro h60 (And.intro h61 (And.intro own6 (And.intro gr6 (And.intro b5 c5)))))
        have hS7 : (fun w' => w'.cell? ⟨w.heap.size, 0, none⟩ = some (.string s) ∧ w'.cell? ⟨W.heap.size, 0, none⟩ = some (.int .i64 (A : Nat)) ∧ w'.cell? ⟨W.heap.size + 1, 1, none⟩ = some (.int .i64 (B : Nat))) (w6.setCell ⟨Z, 0, none⟩ (.slice (some ⟨g6, 0, none⟩) (pre.length + 1) cap6)) := ⟨h60.cell, h62, h63⟩
        clear c5 b5 n5 c6 own6 gr6 h60 h61 h62 h63
        go_simp
        refine hKd.out _ _ hS7 (fun _ => ?_)
        clear hKd Kd
        try simp only [Act.put, List.setIfInBounds_toArray, List.set_cons_zero, List.set_cons_succ]
        refine wpAnyH_done (by kernel_rfl) ?_ _
        obtain ⟨h60, h61, own6, gr6, b5, c5⟩ := HE.out
        have ownX : (w6.setCell ⟨Z, 0, none⟩ (.slice (some ⟨g6, 0, none⟩) (pre.length + 1) cap6)).ownsRow (V.heap.size + 2 + 1) 9 1 (.slice (some ⟨g6, 0, none⟩) (pre.length + 1) cap6) (pre.length + 1) (strV (pre.map (lnX s)) ++ [.string (s.extract A B)]) := ownsRow_keeps own6 (Keeps.of_but (m := Z) (b := V.heap.size + 2 + 1) ((But.refl (fun k => k = Z) w6).setCell (p := ⟨Z, 0, none⟩) rfl _) (fun k e => by omega))
        have hbX : But (fun k => k = Z ∨ (V.heap.size + 2 + 1 ≤ k ∧ (k < W0.heap.size ∨ W.heap.size ≤ k))) W2 (w6.setCell ⟨Z, 0, none⟩ (.slice (some ⟨g6, 0, none⟩) (pre.length + 1) cap6)) := ((But.grown b5).trans (but_grown gr6 (fun k e => .inr ⟨(c5.ow.lt k e).1, .inl (hgz k e.symm)⟩))).setCell (p := ⟨Z, 0, none⟩) (.inl rfl) _
        refine ⟨hbX, .slice (some ⟨g6, 0, none⟩) (pre.length + 1) cap6, h60, h61, ?_⟩
        rw [List.length_append, List.map_append]
        rw [show strV (List.map (lnX s) pre ++ List.map (lnX s) [⟨(A : Nat), pb, pc, x⟩]) = strV (pre.map (lnX s)) ++ [.string (s.extract A B)] by simp [strV, lnX, HPB.out]]
        exact ownX
      · skip
        go_simp
        have c5 := (H4.out.1).step (bel1W w4 (.cells #[.string (s.extract A B)] 9))
        have b5 : Below W2.heap.size W2 (w4.alloc (.cells #[.string (s.extract A B)] 9)) := bupW H4.out.2 (bel1W w4 _)
        have n5 := World.alloc_heap_new w4 (.cells #[.string (s.extract A B)] 9)
        have hS5 : (fun w' => w'.cell? ⟨w.heap.size, 0, none⟩ = some (.string s) ∧ w'.cell? ⟨W.heap.size, 0, none⟩ = some (.int .i64 (A : Nat)) ∧ w'.cell? ⟨W.heap.size + 1, 1, none⟩ = some (.int .i64 (B : Nat))) (w4.alloc (.cells #[.string (s.extract A B)] 9)) := ⟨c5.sbx.cell, c5.bg, c5.xc⟩
        have k5 := c5.tbx.cell
        obtain ⟨w5, hw5⟩ : ∃ w5, w4.alloc (.cells #[.string (s.extract A B)] 9) = w5 := ⟨_, rfl⟩
        obtain ⟨z4, hz4⟩ : ∃ z4, w4.heap.size = z4 := ⟨_, rfl⟩
        rw [hw5] at c5 b5 n5 hS5 k5
        rw [hz4] at n5
        have H5 := hideW (And.intro c5 (And.intro b5 n5))
        clear c5 b5 n5
        try rw [hw5]
        try rw [hz4]
        refine hKe.out _ _ hS5 (fun _ => ?_)
        clear hKe Ke
        try simp only [Act.put, List.setIfInBounds_toArray, List.set_cons_zero, List.set_cons_succ]
        refine wpAnyH_ready (rs := [0]) (by kernel_rfl) (by simp) ?_
        refine AllReadyH.cons (o := { dst := some 27, op := Op.load 34 (Operand.tmp 8), type := 34, pos := "wrap.go:55", after := #[], guard := none }) rfl (fun Ka hKa => ?_) (AllReadyH.nil)
        go_simp
        refine hKa.out _ _ hS5 (fun _ => ?_)
        clear hKa Ka
        try simp only [Act.put, List.setIfInBounds_toArray, List.set_cons_zero, List.set_cons_succ]
        refine wpAnyH_ready (rs := [10]) (by kernel_rfl) (by simp) ?_
        refine AllReadyH.cons (o := { dst := some 37, op := Op.call { callee := Callee.builtin Builtin.append, args := #[Operand.tmp 27, Operand.tmp 36], argTypes := #[34, 34] }, type := 34, pos := "wrap.go:55", after := #[{ on := 0, ground := Ground.data }, { on := 9, ground := Ground.data }, { on := 8, ground := Ground.chain }], guard := none }) rfl (fun Kc hKc => ?_) (AllReadyH.nil)
        obtain ⟨c5, b5, n5⟩ := H5.out
        refine step_row w5 rfl (.tmp 27) (.tmp 36) 34 rfl (V.heap.size + 2 + 1) 9 s0 (.string ⟨#[]⟩) 1 16 Tryd.underlying34 hsi hs0 hs1 hs2 rfl (by decide) v0 pre.length (strV (pre.map (lnX s))) rfl c5.ow ⟨z4, 0, none⟩ 1 1 [.string (s.extract A B)] rfl rfl (World.news_of_block (cs := #[.string (s.extract A B)]) (t := 9) (fr := (0, 0)) n5) (by simp [Value.oneCell']) (by unfold maxLen; omega) (by omega) (by have := b5.size; omega) ?_
        intro v6 w6 own6 gr6
        obtain ⟨g6, cap6, rfl⟩ := ownsRow_succ own6
        have c6 := c5.grow gr6
        have hS6 : (fun w' => w'.cell? ⟨w.heap.size, 0, none⟩ = some (.string s) ∧ w'.cell? ⟨W.heap.size, 0, none⟩ = some (.int .i64 (A : Nat)) ∧ w'.cell? ⟨W.heap.size + 1, 1, none⟩ = some (.int .i64 (B : Nat))) w6 := ⟨c6.1.cell, c6.2.2.1, c6.2.2.2⟩
        refine hKc.out _ _ hS6 (fun _ => ?_)
        clear hKc Kc
        try simp only [Act.put, List.setIfInBounds_toArray, List.set_cons_zero, List.set_cons_succ]
        refine wpAnyH_ready (rs := [11]) (by kernel_rfl) (by simp) ?_
        refine AllReadyH.cons (o := { dst := none, op := Op.store 34 (Operand.tmp 8) (Operand.tmp 37), type := 0, pos := "wrap.go:55", after := #[{ on := 10, ground := Ground.data }, { on := 10, ground := Ground.chain }, { on := 0, ground := Ground.phase }, { on := 1, ground := Ground.phase }, { on := 2, ground := Ground.phase }, { on := 3, ground := Ground.phase }, { on := 4, ground := Ground.phase }, { on := 5, ground := Ground.phase }, { on := 6, ground := Ground.phase }, { on := 7, ground := Ground.phase }, { on := 8, ground := Ground.phase }, { on := 9, ground := Ground.phase }, { on := 10, ground := Ground.phase }], guard := none }) rfl (fun Kd hKd => ?_) (AllReadyH.nil)
        have n3 := c6.2.1.cell
        have n4 := c6.2.1.frozen
        have h60 : Boxed (w6.setCell ⟨Z, 0, none⟩ (.slice (some ⟨g6, 0, none⟩) (pre.length + 1) cap6)) w.heap.size 9 (.string s) := boxO c6.1 (by omega)
        have h61 : Boxed (w6.setCell ⟨Z, 0, none⟩ (.slice (some ⟨g6, 0, none⟩) (pre.length + 1) cap6)) Z 34 (.slice (some ⟨g6, 0, none⟩) (pre.length + 1) cap6) := c6.2.1.set (.slice (some ⟨g6, 0, none⟩) (pre.length + 1) cap6)
        have h62 : (w6.setCell ⟨Z, 0, none⟩ (.slice (some ⟨g6, 0, none⟩) (pre.length + 1) cap6)).cell? ⟨W.heap.size, 0, none⟩ = some (.int .i64 (A : Nat)) := (World.cell?_of_block (Below.heap_setCell _ _ _ _ (show W.heap.size ≠ Z by omega))).trans c6.2.2.1
        have h63 : (w6.setCell ⟨Z, 0, none⟩ (.slice (some ⟨g6, 0, none⟩) (pre.length + 1) cap6)).cell? ⟨W.heap.size + 1, 1, none⟩ = some (.int .i64 (B : Nat)) := (World.cell?_of_block (Below.heap_setCell _ _ _ _ (show W.heap.size + 1 ≠ Z by omega))).trans c6.2.2.2
        have HE := hideW (And.intro h60 (And.intro h61 (And.intro own6 (And.intro gr6 (And.intro b5 c5)))))
        have hS7 : (fun w' => w'.cell? ⟨w.heap.size, 0, none⟩ = some (.string s) ∧ w'.cell? ⟨W.heap.size, 0, none⟩ = some (.int .i64 (A : Nat)) ∧ w'.cell? ⟨W.heap.size + 1, 1, none⟩ = some (.int .i64 (B : Nat))) (w6.setCell ⟨Z, 0, none⟩ (.slice (some ⟨g6, 0, none⟩) (pre.length + 1) cap6)) := ⟨h60.cell, h62, h63⟩
        clear c5 b5 n5 c6 own6 gr6 h60 h61 h62 h63
        go_simp
        refine hKd.out _ _ hS7 (fun _ => ?_)
        clear hKd Kd
        try simp only [Act.put, List.setIfInBounds_toArray, List.set_cons_zero, List.set_cons_succ]
        refine wpAnyH_done (by kernel_rfl) ?_ _
        obtain ⟨h60, h61, own6, gr6, b5, c5⟩ := HE.out
        have ownX : (w6.setCell ⟨Z, 0, none⟩ (.slice (some ⟨g6, 0, none⟩) (pre.length + 1) cap6)).ownsRow (V.heap.size + 2 + 1) 9 1 (.slice (some ⟨g6, 0, none⟩) (pre.length + 1) cap6) (pre.length + 1) (strV (pre.map (lnX s)) ++ [.string (s.extract A B)]) := ownsRow_keeps own6 (Keeps.of_but (m := Z) (b := V.heap.size + 2 + 1) ((But.refl (fun k => k = Z) w6).setCell (p := ⟨Z, 0, none⟩) rfl _) (fun k e => by omega))
        have hbX : But (fun k => k = Z ∨ (V.heap.size + 2 + 1 ≤ k ∧ (k < W0.heap.size ∨ W.heap.size ≤ k))) W2 (w6.setCell ⟨Z, 0, none⟩ (.slice (some ⟨g6, 0, none⟩) (pre.length + 1) cap6)) := ((But.grown b5).trans (but_grown gr6 (fun k e => .inr ⟨(c5.ow.lt k e).1, .inl (hgz k e.symm)⟩))).setCell (p := ⟨Z, 0, none⟩) (.inl rfl) _
        refine ⟨hbX, .slice (some ⟨g6, 0, none⟩) (pre.length + 1) cap6, h60, h61, ?_⟩
        rw [List.length_append, List.map_append]
        rw [show strV (List.map (lnX s) pre ++ List.map (lnX s) [⟨(A : Nat), pb, pc, x⟩]) = strV (pre.map (lnX s)) ++ [.string (s.extract A B)] by simp [strV, lnX, HPB.out]]
        exact ownX
  case done =>
    rintro D W hD ⟨v, h0, h1, h3⟩ hBW hK
    have hWz := hBW.size
    have hBx : Below w.heap.size w W := hBw.trans (hBW.below (by omega) (fun k e => by omega))
    have k1 := h1.cell
    have HK := hideW (And.intro hK (And.intro h3 hBx))
    clear hK h3 hBx h0
    gi_wp2
    obtain ⟨hK, h3, hBx⟩ := HK.out
    refine ⟨by simp, .inl ⟨_, _, rfl, run_takeDeferred hK, ?_⟩⟩
    refine ⟨.tuple #[v, .int .i64 0], by simp [results, Tryd.f13, go_sem], v, rfl, ?_, hBx.trans ((putObj_belowL _ _ _).mono (by omega))⟩
    rw [hln] at h3
    exact ownsRow_putObjC (ownsRow_from h3 (by omega)) hK
  case stop => rintro D c pre W hD hpre h; exact h.elim
end Go.Proofs.YteignefcijmmeaaDoor

/- Package wrap: Lines, where it is refused. -/
namespace Go.Proofs.YteignefcijmmeaaDoor
open Go.RowKit Go.Shelf
attribute [local go_sem] Oper.semAt_some

set_option maxRecDepth 100000 in
set_option maxHeartbeats 1000000 in
theorem plines_long (s : ByteArray) (hs : 4096 < s.size) (n : Nat) (oa : Option Addr) (cpB : Nat) (w : World) :
    Calls Tryd.prog 13 #[.string s, .slice oa n cpB] w fun e w' => e = .returned (.tuple #[.slice none 0 0, .int .i64 3]) ∧ Below w.heap.size w w' := by
  have d1 : (4096 : Int) < (s.size : Int) := by omega
  have bx := hideW (bel1W w (.cells #[.string s] 9))
  refine (callsIn_wide (n := 9)).1 ?_
  refine callsIn_of_wp_marks Tryd.func13 rfl trivial ?_ rfl
  simp only [Tryd.ntmps13, List.size_toArray, List.length_cons, List.length_nil, Nat.reduceAdd, Nat.reduceSub, Array.replicate_succ, Array.replicate_zero, List.push_toArray, List.append_toArray, List.nil_append, List.cons_append]
  gi_wp2
  refine ⟨.tuple #[.slice none 0 0, .int .i64 3], by simp [results, Tryd.f13, go_sem], rfl, bx.out⟩
set_option maxRecDepth 100000 in
set_option maxHeartbeats 2000000 in
theorem plines_no (s : ByteArray) (hs : s.size ≤ 4096) (Bk : List (Int × Int)) (oa : Option Addr) (cpB : Nat) (hB : Bk.length ≤ 100000) (hcB : Bk.length ≤ cpB ∧ cpB ≤ maxLen) (N : Nat) (w : World) (hT : Tabs N w) (hBR : BR w oa Bk) (hq : ∀ way rest, wayG (plS s) Bk = some (way, rest) → rest.length ≠ 0) :
    Calls Tryd.prog 13 #[.string s, .slice oa Bk.length cpB] w fun e w' => e = .returned (.tuple #[.slice none 0 0, .int .i64 1]) ∧ Below w.heap.size w w' := by
  obtain ⟨hS, hl, _, _⟩ := wrapW_all s hs 2 ⟨by decide, by decide⟩
  have HSt := hideW (fun U hU => stops_walk s (by omega) N U hU)
  have e0 : stopsL (partsL s) = plS s ++ [fnS s] := rfl
  rw [e0] at HSt
  rw [stopsW_eq] at hS hl
  generalize plS s = S at *
  generalize fnS s = z at *
  rw [List.length_append, List.length_singleton] at hl
  rw [List.length_append, List.length_singleton] at HSt
  have HB := hideW hBR
  have d1 : ¬ (4096 : Int) < (s.size : Int) := by omega
  have HQ := hideW hq
  clear e0 hBR hq hS
  refine (callsIn_wide (n := 9)).1 ?_
  refine callsIn_of_wp_marks Tryd.func13 rfl trivial ?_ rfl
  simp only [Tryd.ntmps13, List.size_toArray, List.length_cons, List.length_nil, Nat.reduceAdd, Nat.reduceSub, Array.replicate_succ, Array.replicate_zero, List.push_toArray, List.append_toArray, List.nil_append, List.cons_append]
  gi_wp2_with fail
  refine ⟨trivial, ?_⟩
  gi_at_call 28
  have bx := bel1W w (.cells #[.string s] 9)
  refine (callsIn_wide.2 (HSt.out _ (hT.below bx))).mono ?_
  rintro e w2 ⟨v2, rfl, own2, b2⟩
  have b2 : Below w.heap.size w w2 := bupW bx b2
  obtain ⟨g2, cap2, rfl⟩ := ownsRow_succ own2
  obtain ⟨sr2, hg2, hcn2, hcm2⟩ := SRow.of_owns own2
  have HWy := hideW (wayOf_walk S z g2 cap2 (by omega) ⟨hcn2, hcm2⟩ Bk oa cpB hB hcB w2 sr2 (HB.out.keep b2))
  have B2 := hideW b2
  clear own2 sr2 b2 HSt bx
  gi_wp2_with fail
  refine ⟨trivial, ?_⟩
  gi_at_call 27
  refine (callsIn_wide.2 HWy.out).mono ?_
  rintro e w3 ⟨hno, hsm, b3⟩
  have B3 := hideW (bupW B2.out b3)
  clear b3 B2 HWy HB
  cases hq : wayG S Bk with
  | none =>
    obtain rfl := hno hq
    clear hno hsm hq
    gi_wp2
    refine ⟨.tuple #[.slice none 0 0, .int .i64 1], by simp [results, Tryd.f13, go_sem], rfl, B3.out⟩
  | some q =>
    obtain ⟨way, rest⟩ := q
    obtain ⟨v3, rfl, own3⟩ := hsm way rest hq
    have hr1 : (rest.length == 0) = false := by simp [HQ.out way rest hq]
    obtain ⟨g3, cap3, rfl⟩ := ownsRow_succ own3
    rw [hr1]
    clear hno hsm hq own3 hr1
    gi_wp2
    refine ⟨.tuple #[.slice none 0 0, .int .i64 1], by simp [results, Tryd.f13, go_sem], rfl, B3.out⟩
end Go.Proofs.YteignefcijmmeaaDoor
