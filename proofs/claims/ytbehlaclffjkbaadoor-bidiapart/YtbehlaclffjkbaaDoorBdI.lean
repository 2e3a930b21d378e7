/- bidi: ahead and its closure (chapter 4). -/
import Derived.Test.YtbehlaclffjkbaaDoorBdH
import Derived.Deep.RegionHeld3
namespace Go.Proofs.YtbehlaclffjkbaaDoor
open Go.RowKit Go.Shelf

/-- The last class of these kinds; the one told ahead, if there is none. -/
def lastC (K : Nat) (l : Int) (L : List Int) : Int := L.foldl (fun l c => if K.testBit c.toNat = true then c else l) l
theorem lastC_snoc (K : Nat) (l : Int) (L : List Int) (c : Int) : lastC K l (L ++ [c]) = if K.testBit c.toNat = true then c else lastC K l L := by
  unfold lastC
  rw [List.foldl_append]
  rfl
/-- What the closure holds: the row, the kinds, the last class, the next place. -/
structure AhP (W : World) (D : Nat) (v : Value) (side : Int) (K : Nat) (last : Int) (nx : Nat) : Prop where
  rw_ : W.heap[D]? = some (.cells #[v, .int .i64 side] 80)
  kd : W.heap[D + 1]? = some (.cells #[.int .u32 (K : Int)] 77)
  la : W.heap[D + 1 + 1]? = some (.cells #[.int .i64 last] 3)
  ne : W.heap[D + 1 + 1 + 1]? = some (.cells #[.int .i64 (nx : Int)] 3)
def ahV (D : Nat) : Value := .func (.func 89) #[] #[.pointer (some ⟨D + 1 + 1 + 1, 0, none⟩), .pointer (some ⟨D + 1, 0, none⟩), .pointer (some ⟨D, 0, none⟩), .pointer (some ⟨D + 1 + 1, 0, none⟩)]
theorem AhP.but {A W : World} {M : Nat → Prop} {D : Nat} {v : Value} {side : Int} {K : Nat} {last : Int} {nx : Nat} (h : AhP A D v side K last nx) (hb : But M A W) (hM : ∀ k, M k → k < D ∨ D + 1 + 1 + 1 < k) : AhP W D v side K last nx := by
  obtain ⟨h0, h1, h2, h3⟩ := h
  have lt : ∀ {k : Nat} {o : Obj}, A.heap[k]? = some o → k < A.heap.size := fun e => (Array.getElem?_eq_some_iff.1 e).1
  exact ⟨(hb.same _ (lt h0) (fun e => by have := hM _ e; omega)).trans h0, (hb.same _ (lt h1) (fun e => by have := hM _ e; omega)).trans h1, (hb.same _ (lt h2) (fun e => by have := hM _ e; omega)).trans h2, (hb.same _ (lt h3) (fun e => by have := hM _ e; omega)).trans h3⟩
theorem AhP.cellN {W : World} {D : Nat} {v : Value} {side : Int} {K : Nat} {last : Int} {nx : Nat} (h : AhP W D v side K last nx) : W.cell? ⟨D + 1 + 1 + 1, 0, none⟩ = some (.int .i64 (nx : Int)) := by simp [World.cell?, h.ne]
theorem ahDec {x y : Option Value} {i j : Nat} (h1 : x = some (.int .i64 ((j + 1 : Nat) : Int))) (h2 : y = some (.int .i64 (j : Int))) (h : j < i) : i - (intOf (x.getD undef)).toNat < i - (intOf (y.getD undef)).toNat := by
  subst h1 h2
  show i - (Int.toNat ((j + 1 : Nat) : Int)) < i - Int.toNat (j : Int)
  omega
theorem AhP.setN {W : World} {D : Nat} {v : Value} {side : Int} {K : Nat} {last : Int} {nx : Nat} (h : AhP W D v side K last nx) (m : Nat) : AhP (W.setCell ⟨D + 1 + 1 + 1, 0, none⟩ (.int .i64 (m : Int))) D v side K last m := by
  obtain ⟨h0, h1, h2, h3⟩ := h
  have o : ∀ (k : Nat), k ≠ D + 1 + 1 + 1 → (W.setCell ⟨D + 1 + 1 + 1, 0, none⟩ (.int .i64 (m : Int))).heap[k]? = W.heap[k]? := fun k hk => Below.heap_setCell W ⟨D + 1 + 1 + 1, 0, none⟩ _ k hk
  exact ⟨(o _ (by omega)).trans h0, (o _ (by omega)).trans h1, (o _ (by omega)).trans h2, Boxed.set _ h3⟩
theorem AhP.setL {W : World} {D : Nat} {v : Value} {side : Int} {K : Nat} {last : Int} {nx : Nat} (h : AhP W D v side K last nx) (m : Int) : AhP (W.setCell ⟨D + 1 + 1, 0, none⟩ (.int .i64 m)) D v side K m nx := by
  obtain ⟨h0, h1, h2, h3⟩ := h
  have o : ∀ (k : Nat), k ≠ D + 1 + 1 → (W.setCell ⟨D + 1 + 1, 0, none⟩ (.int .i64 m)).heap[k]? = W.heap[k]? := fun k hk => Below.heap_setCell W ⟨D + 1 + 1, 0, none⟩ _ k hk
  exact ⟨(o _ (by omega)).trans h0, (o _ (by omega)).trans h1, Boxed.set _ h2, (o _ (by omega)).trans h3⟩
set_option maxRecDepth 100000 in
set_option maxHeartbeats 2000000 in
theorem ahead_mk (v : Value) (side : Int) (K : Nat) (w : World) :
    Calls Tryd.prog 81 #[.agg #[v, .int .i64 side], .int .u32 (K : Int)] w fun e w' => e = .returned (ahV w.heap.size) ∧ AhP w' w.heap.size v side K side 0 ∧ Below w.heap.size w w' := by
  go_enter Tryd.func81, Tryd.ntmps81
  go_wp2_with fail
  go_ret
  refine ⟨rfl, ⟨?_, ?_, ?_, ?_⟩, ?_⟩
  · exact (Below.heap_alloc _ _ _ (by first | (simp; done) | (simp; omega))).trans ((Below.heap_alloc _ _ _ (by first | (simp; done) | (simp; omega))).trans ((Below.heap_alloc _ _ _ (by simp)).trans (World.alloc_heap_new w _)))
  · have h := World.alloc_heap_new (w.alloc (.cells #[v, .int .i64 side] 80)) (.cells #[.int .u32 (K : Int)] 77)
    rw [World.size_alloc] at h
    exact (Below.heap_alloc _ _ _ (by first | (simp; done) | (simp; omega))).trans ((Below.heap_alloc _ _ _ (by simp)).trans h)
  · have h := World.alloc_heap_new ((w.alloc (.cells #[v, .int .i64 side] 80)).alloc (.cells #[.int .u32 (K : Int)] 77)) (.cells #[.int .i64 side] 3)
    rw [World.size_alloc, World.size_alloc] at h
    exact (Below.heap_alloc _ _ _ (by simp)).trans h
  · have h := World.alloc_heap_new (((w.alloc (.cells #[v, .int .i64 side] 80)).alloc (.cells #[.int .u32 (K : Int)] 77)).alloc (.cells #[.int .i64 side] 3)) (.cells #[.int .i64 0] 3)
    rw [World.size_alloc, World.size_alloc, World.size_alloc] at h
    exact h
  · exact bupB (bel1B _ _) (bupB (bel1B _ _) (bupB (bel1B _ _) (bel1B _ _)))
set_option maxRecDepth 100000 in
set_option maxHeartbeats 2000000 in
theorem ahead_any (C : List Int) (hC : ClsB C) (hn : C.length ≤ 1000000000000) (side : Int) (K : Nat) (hK : K < 262144) (base : Nat) (v : Value) (l0 : Int) (nx i D : Nat) (hi : nx ≤ i ∧ i ≤ C.length) (w : World) (h : w.ownsRow base 3 1 v C.length (flatJ C)) (hA : AhP w D v side K (lastC K l0 (C.take nx)) nx) (hg : ∀ k, v.ownBlock = some k → k < D) :
    Calls Tryd.prog 89 #[.int .i64 (i : Nat), .pointer (some ⟨D + 1 + 1 + 1, 0, none⟩), .pointer (some ⟨D + 1, 0, none⟩), .pointer (some ⟨D, 0, none⟩), .pointer (some ⟨D + 1 + 1, 0, none⟩)] w fun e w' => e = .returned (.int .i64 (lastC K l0 (C.take i))) ∧ AhP w' D v side K (lastC K l0 (C.take i)) i ∧ But (fun k => k = D + 1 + 1 ∨ k = D + 1 + 1 + 1) w w' := by
  obtain ⟨n, hn'⟩ : ∃ n, C.length = n := ⟨_, rfl⟩
  have HN := hideB hn'
  rw [hn'] at hn h hi
  obtain ⟨oa, cap, rfl⟩ : ∃ oa cap, v = .slice oa n cap := by
    rcases own_formB h with ⟨rfl, rfl⟩ | ⟨g, cap, rfl⟩
    · exact ⟨none, 0, rfl⟩
    · exact ⟨_, cap, rfl⟩
  obtain ⟨PO, hPO⟩ : ∃ PO : Ending → World → Prop, (fun e w' => e = .returned (.int .i64 (lastC K l0 (C.take i))) ∧ AhP w' D (.slice oa n cap) side K (lastC K l0 (C.take i)) i ∧ But (fun k => k = D + 1 + 1 ∨ k = D + 1 + 1 + 1) w w') = PO := ⟨_, rfl⟩
  have HP := hideB hPO
  rw [hPO]
  clear hPO
  have HH := hideB h
  have HCl := hideB hC
  have HA0 := hideB hA
  clear hn' h hC hA
  go_enter Tryd.func89, Tryd.ntmps89
  go_wp2_with fail
  have HM : Hid (∀ wq, But (fun k => k = D + 1 + 1 ∨ k = D + 1 + 1 + 1) w wq → wq.ownsRow base 3 1 (.slice oa n cap) n (flatJ C)) := hideB (fun wq hb => own_butB HH.out hb (fun k hk e => by have := hg k hk; omega))
  go_loopw [] (fun wq => ∃ j : Nat, nx ≤ j ∧ j ≤ i ∧ AhP wq D (.slice oa n cap) side K (lastC K l0 (C.take j)) j ∧ But (fun k => k = D + 1 + 1 ∨ k = D + 1 + 1 + 1) w wq) (fun wq => i - (intOf ((wq.cell? ⟨D + 1 + 1 + 1, 0, none⟩).getD undef)).toNat)
  case atStart => exact ⟨nx, Nat.le_refl _, hi.1, HA0.out, But.refl _ _⟩
  case round =>
    obtain ⟨j, hnj, hji, hA, hb⟩ := hrel
    obtain ⟨wq, rfl⟩ : ∃ wq, wq = wr := ⟨_, rfl⟩
    have a0 : wq.cell? ⟨D, 0, none⟩ = some (.slice oa n cap) := by simp [World.cell?, hA.rw_]
    have a1 : wq.cell? ⟨D + 1, 0, none⟩ = some (.int .u32 (K : Int)) := by simp [World.cell?, hA.kd]
    have a2 : wq.cell? ⟨D + 1 + 1, 0, none⟩ = some (.int .i64 (lastC K l0 (C.take j))) := by simp [World.cell?, hA.la]
    have a3 : wq.cell? ⟨D + 1 + 1 + 1, 0, none⟩ = some (.int .i64 (j : Int)) := by simp [World.cell?, hA.ne]
    have f2 : wq.frozen? ⟨D + 1 + 1, 0, none⟩ = false := by simp [World.frozen?, hA.la]
    have f3 : wq.frozen? ⟨D + 1 + 1 + 1, 0, none⟩ = false := by simp [World.frozen?, hA.ne]
    have hr := HM.out wq hb
    have HP1 := hideB (And.intro hA hb)
    by_cases hlt : j < i
    · obtain ⟨g, cap2, e2⟩ : ∃ g cap2, Value.slice oa n cap = .slice (some ⟨g, 0, none⟩) n cap2 := by
        rcases own_formB hr with ⟨e, _⟩ | ⟨g, cap, e⟩
        · omega
        · exact ⟨g, cap, e⟩
      cases e2
      obtain ⟨x, hx⟩ : ∃ x, C[j]? = some x := ⟨_, List.getElem?_eq_getElem (by rw [HN.out]; omega)⟩
      have k1 := hr.cellAt j (by omega)
      rw [flatJ_get hx] at k1
      have hxb := HCl.out x (List.mem_of_getElem? hx)
      have HL := hideB (show lastC K l0 (C.take (j + 1)) = if K.testBit x.toNat = true then x else lastC K l0 (C.take j) by rw [List.take_add_one, hx]; exact lastC_snoc _ _ _ _)
      obtain ⟨y, rfl⟩ : ∃ y : Nat, x = (y : Int) := ⟨x.toNat, by omega⟩
      have HC := hideB (fun (W : World) => has_any K y (by omega) hK W)
      rw [Int.toNat_natCast] at HL
      obtain ⟨z, hz⟩ : ∃ z, K.testBit y = z := ⟨_, rfl⟩
      rw [hz] at HC HL
      obtain ⟨lj, hlj⟩ : ∃ l, lastC K l0 (C.take j) = l := ⟨_, rfl⟩
      rw [hlj] at a2 HP1 HL
      have di : (j : Int) < (i : Int) := by omega
      have dn : (j : Int) < (n : Int) := by omega
      have wk : IntKind.i64.wrap ((j : Int) + 1) = ((j + 1 : Nat) : Int) := by rw [show ((j + 1 : Nat) : Int) = (j : Int) + 1 by omega]; exact IntWalk.i64_in _ ⟨by omega, by omega⟩
      have H3 := hideB a3
      clear hA hb hr hx hz hlj hxb
      go_upto_region 3 with fail
      go_region_held3 (fun w' => w'.cell? ⟨D, 0, none⟩ = some (.slice (some ⟨g, 0, none⟩) n cap) ∧ w'.cell? ⟨D + 1, 0, none⟩ = some (.int .u32 (K : Int)) ∧ w'.cell? ⟨D + 1 + 1 + 1, 0, none⟩ = some (.int .i64 (j : Int)) ∧ w'.cell? ⟨g, j, none⟩ = some (.int .i64 (y : Int))) (first | assumption | exact ⟨a0, a1, a3, k1⟩ | go_keep) (first
        | (go_at_call 47; (with_reducible refine Calls.mono (HC.out _) ?_); rintro e v5 ⟨rfl, rfl⟩))
      have HQ : Hid (AhP wq.drew D (.slice (some ⟨g, 0, none⟩) n cap) side K lj j ∧ But (fun k => k = D + 1 + 1 ∨ k = D + 1 + 1 + 1) w wq.drew) := hideB ⟨⟨HP1.out.1.rw_, HP1.out.1.kd, HP1.out.1.la, HP1.out.1.ne⟩, ⟨HP1.out.2.os, HP1.out.2.tape, HP1.out.2.output, HP1.out.2.size, HP1.out.2.same⟩⟩
      have b0 : wq.drew.cell? ⟨D, 0, none⟩ = some (.slice (some ⟨g, 0, none⟩) n cap) := a0
      have b2 : wq.drew.cell? ⟨D + 1 + 1, 0, none⟩ = some (.int .i64 lj) := a2
      have b3 : wq.drew.cell? ⟨D + 1 + 1 + 1, 0, none⟩ = some (.int .i64 (j : Int)) := a3
      have g2 : wq.drew.frozen? ⟨D + 1 + 1, 0, none⟩ = false := f2
      have g3 : wq.drew.frozen? ⟨D + 1 + 1 + 1, 0, none⟩ = false := f3
      have bk : wq.drew.cell? ⟨g, j, none⟩ = some (.int .i64 (y : Int)) := k1
      generalize wq.drew = X at *
      clear a0 a1 a2 a3 f2 f3 k1 HC HP1
      cases z with
      | true =>
        have HR := hideB (And.intro ((HQ.out.1.setL (y : Int)).setN (j + 1)) ((HQ.out.2.setCell (p := ⟨D + 1 + 1, 0, none⟩) (.inl rfl) (.int .i64 (y : Int))).setCell (p := ⟨D + 1 + 1 + 1, 0, none⟩) (.inr rfl) (.int .i64 ((j + 1 : Nat) : Int))))
        clear HQ
        first | go_wp2_with fail | skip
        go_roundw
        case rel => exact ⟨j + 1, by omega, by omega, by rw [HL.out, if_pos (by simp)]; exact HR.out.1, HR.out.2⟩
        case measure =>
          exact ahDec HR.out.1.cellN H3.out hlt
      | false =>
        have HR := hideB (And.intro (HQ.out.1.setN (j + 1)) (HQ.out.2.setCell (p := ⟨D + 1 + 1 + 1, 0, none⟩) (.inr rfl) (.int .i64 ((j + 1 : Nat) : Int))))
        clear HQ
        first | go_wp2_with fail | skip
        go_roundw
        case rel => exact ⟨j + 1, by omega, by omega, by rw [HL.out, if_neg (by simp)]; exact HR.out.1, HR.out.2⟩
        case measure =>
          exact ahDec HR.out.1.cellN H3.out hlt
    · obtain rfl : j = i := by omega
      have d2 : ¬ (j : Int) < (j : Int) := by omega
      have hres : PO (.returned (.int .i64 (lastC K l0 (C.take j)))) wq := by
        rw [← HP.out]
        exact ⟨rfl, hA, hb⟩
      have HR := hideB hres
      clear hA hb hr hres
      go_wp2_with fail
      first | exact HR.out | (go_ret; exact HR.out)
end Go.Proofs.YtbehlaclffjkbaaDoor
