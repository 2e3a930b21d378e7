/- bidi: rules 2 and 7 (chapter 4). -/
import Derived.Test.YtbehlaclffjkbaaDoorBdI
namespace Go.Proofs.YtbehlaclffjkbaaDoor
open Go.RowKit Go.Shelf

theorem snocB {α : Type} {P : List α → Prop} (nil : P []) (snoc : ∀ L c, P L → P (L ++ [c])) (L : List α) : P L := by
  have h : ∀ R : List α, P R.reverse := by
    intro R
    induction R with
    | nil => exact nil
    | cons a R ih => rw [List.reverse_cons]; exact snoc _ _ ih
  have := h L.reverse
  rwa [List.reverse_reverse] at this
/-- A rule that looks at the last class of these kinds ahead. -/
def runJ (f : Int → Int → Int) (K : Nat) (s : Int) (C : List Int) : List Int := C.foldl (fun out c => out ++ [f (lastC K s out) c]) []
theorem runJ_snoc (f : Int → Int → Int) (K : Nat) (s : Int) (C : List Int) (c : Int) : runJ f K s (C ++ [c]) = runJ f K s C ++ [f (lastC K s (runJ f K s C)) c] := by
  unfold runJ
  rw [List.foldl_append]
  rfl
theorem runJ_len (f : Int → Int → Int) (K : Nat) (s : Int) (C : List Int) : (runJ f K s C).length = C.length := by
  induction C using snocB with
  | nil => rfl
  | snoc L c ih => rw [runJ_snoc, List.length_append, List.length_append, ih]; rfl
def curJ (f : Int → Int → Int) (K : Nat) (s : Int) (C : List Int) (i : Nat) : List Int := runJ f K s (C.take i) ++ C.drop i
theorem curJ_len (f : Int → Int → Int) (K : Nat) (s : Int) (C : List Int) (i : Nat) : (curJ f K s C i).length = C.length := by
  unfold curJ
  rw [List.length_append, runJ_len, List.length_take, List.length_drop]
  omega
theorem curJ_take (f : Int → Int → Int) (K : Nat) (s : Int) (C : List Int) (i : Nat) (h : i ≤ C.length) : (curJ f K s C i).take i = runJ f K s (C.take i) := by
  unfold curJ
  rw [List.take_append_of_le_length (by rw [runJ_len, List.length_take]; omega), List.take_of_length_le (by rw [runJ_len, List.length_take]; omega)]
theorem curJ_get (f : Int → Int → Int) (K : Nat) (s : Int) (C : List Int) (i : Nat) {c : Int} (h : C[i]? = some c) : (curJ f K s C i)[i]? = some c := by
  obtain ⟨h1, e1⟩ := List.getElem?_eq_some_iff.1 h
  have hl : (runJ f K s (C.take i)).length = i := by rw [runJ_len, List.length_take]; omega
  unfold curJ
  rw [List.getElem?_append_right (by omega), hl, Nat.sub_self, List.getElem?_drop]
  exact h
theorem curJ_step (f : Int → Int → Int) (K : Nat) (s : Int) (C : List Int) (i : Nat) {c : Int} (h : C[i]? = some c) : curJ f K s C (i + 1) = (curJ f K s C i).set i (f (lastC K s (runJ f K s (C.take i))) c) := by
  obtain ⟨h1, e1⟩ := List.getElem?_eq_some_iff.1 h
  have hl : (runJ f K s (C.take i)).length = i := by rw [runJ_len, List.length_take]; omega
  unfold curJ
  rw [List.set_append, if_neg (by omega), hl, Nat.sub_self, List.drop_eq_getElem_cons h1, e1, List.set_cons_zero, List.take_add_one, h]
  show runJ f K s (C.take i ++ [c]) ++ _ = _
  rw [runJ_snoc, List.append_assoc]
  rfl
theorem set_getB {L : List Int} {i : Nat} {c : Int} (h : L[i]? = some c) : L.set i c = L := by
  obtain ⟨h1, e1⟩ := List.getElem?_eq_some_iff.1 h
  rw [← e1]
  exact List.set_getElem_self h1
theorem curJ_same (f : Int → Int → Int) (K : Nat) (s : Int) (C : List Int) (i : Nat) {c : Int} (h : C[i]? = some c) (hf : f (lastC K s (runJ f K s (C.take i))) c = c) : curJ f K s C (i + 1) = curJ f K s C i := by
  rw [curJ_step f K s C i h, hf]
  exact set_getB (curJ_get f K s C i h)
theorem curJ_pre (f : Int → Int → Int) (K : Nat) (s : Int) (C : List Int) (i m : Nat) (hm : m ≤ i) {c : Int} (h : C[i]? = some c) : (curJ f K s C (i + 1)).take m = (curJ f K s C i).take m := by
  rw [curJ_step f K s C i h]
  exact List.take_set_of_le hm
theorem lastC_in {K : Nat} {s : Int} (hs : 1 ≤ s ∧ s ≤ 17) {C : List Int} (hC : ClsB C) : 1 ≤ lastC K s C ∧ lastC K s C ≤ 17 := by
  induction C using snocB with
  | nil => exact hs
  | snoc L c ih =>
    rw [lastC_snoc]
    split
    · exact hC c (by simp)
    · exact ih (fun x hx => hC x (by simp [hx]))
theorem runJ_cls {f : Int → Int → Int} (hf : ∀ a c, (1 ≤ a ∧ a ≤ 17) → (1 ≤ c ∧ c ≤ 17) → 1 ≤ f a c ∧ f a c ≤ 17) {K : Nat} {s : Int} (hs : 1 ≤ s ∧ s ≤ 17) {C : List Int} (hC : ClsB C) : ClsB (runJ f K s C) := by
  induction C using snocB with
  | nil => intro c hc; exact absurd hc (by simp [runJ])
  | snoc L c ih =>
    have ih := ih (fun x hx => hC x (by simp [hx]))
    rw [runJ_snoc]
    intro x hx
    rcases List.mem_append.1 hx with h | h
    · exact ih x h
    · rw [List.mem_singleton.1 h]
      exact hf _ _ (lastC_in hs ih) (hC c (by simp))
theorem curJ_cls {f : Int → Int → Int} (hf : ∀ a c, (1 ≤ a ∧ a ≤ 17) → (1 ≤ c ∧ c ≤ 17) → 1 ≤ f a c ∧ f a c ≤ 17) {K : Nat} {s : Int} (hs : 1 ≤ s ∧ s ≤ 17) {C : List Int} (hC : ClsB C) (i : Nat) : ClsB (curJ f K s C i) := by
  intro x hx
  rcases List.mem_append.1 hx with h | h
  · exact runJ_cls hf hs (fun c hc => hC c (List.mem_of_mem_take hc)) x h
  · exact hC x (List.mem_of_mem_drop h)
theorem But.newer {M N : Nat → Prop} {A B C : World} (h : But M A B) (k : But N B C) (hn : ∀ j, N j → A.heap.size ≤ j) : But M A C :=
  ⟨k.os.trans h.os, k.tape.trans h.tape, k.output.trans h.output, Nat.le_trans h.size k.size, fun i hi hm => (k.same i (Nat.lt_of_lt_of_le hi h.size) (fun e => by have := hn i e; omega)).trans (h.same i hi hm)⟩
/-- Rules 2 and 7: digits behind this class. -/
def digF (a b : Int) (p c : Int) : Int := if c = 4 ∧ p = a then b else c
/-- What stands in the memory while such a rule runs. -/
structure RlP (f : Int → Int → Int) (K : Nat) (C : List Int) (base : Nat) (v : Value) (side : Int) (w : World) (D i m : Nat) (W : World) : Prop where
  own : W.ownsRow base 3 1 v C.length (flatJ (curJ f K side C i))
  box : W.heap[D]? = some (.cells #[v, .int .i64 side] 80)
  ah : AhP W (D + 1) v side K (lastC K side ((curJ f K side C i).take m)) m
  but : But (fun k => v.ownBlock = some k) w W
  le : m ≤ i
theorem RlP.cell {f : Int → Int → Int} {K : Nat} {C : List Int} {base : Nat} {v : Value} {side : Int} {w : World} {D i m : Nat} {W : World} (h : RlP f K C base v side w D i m W) : W.cell? ⟨D, 0, none⟩ = some v := by simp [World.cell?, h.box]
/-- One question to the closure. -/
theorem RlP.ask {f : Int → Int → Int} (hf : ∀ a c, (1 ≤ a ∧ a ≤ 17) → (1 ≤ c ∧ c ≤ 17) → 1 ≤ f a c ∧ f a c ≤ 17) {K : Nat} (hK : K < 262144) {C : List Int} (hC : ClsB C) (hn : C.length ≤ 1000000000000) {base : Nat} {v : Value} {side : Int} (hs : 1 ≤ side ∧ side ≤ 17) {w : World} {i m : Nat} {W : World} (hg : ∀ k, v.ownBlock = some k → k < w.heap.size) (hi : i ≤ C.length) (h : RlP f K C base v side w w.heap.size i m W) :
    Calls Tryd.prog 89 #[.int .i64 (i : Nat), .pointer (some ⟨w.heap.size + 1 + 1 + 1 + 1, 0, none⟩), .pointer (some ⟨w.heap.size + 1 + 1, 0, none⟩), .pointer (some ⟨w.heap.size + 1, 0, none⟩), .pointer (some ⟨w.heap.size + 1 + 1 + 1, 0, none⟩)] W fun e w' => e = .returned (.int .i64 (lastC K side (runJ f K side (C.take i)))) ∧ RlP f K C base v side w w.heap.size i i w' := by
  have hl := curJ_len f K side C i
  refine (ahead_any (curJ f K side C i) (curJ_cls hf hs hC i) (by omega) side K hK base v side m i (w.heap.size + 1) ⟨h.le, by omega⟩ W (by rw [hl]; exact h.own) h.ah (fun k hk => by have := hg k hk; omega)).mono ?_
  rintro e w' ⟨rfl, h1, h2⟩
  rw [curJ_take f K side C i hi] at h1 ⊢
  refine ⟨rfl, own_butB h.own h2 (fun k hk e => by have := hg k hk; omega), ?_, ?_, h.but.newer h2 (fun j e => by omega), Nat.le_refl _⟩
  · exact (h2.same _ (Array.getElem?_eq_some_iff.1 h.box).1 (fun e => by omega)).trans h.box
  · rw [curJ_take f K side C i hi]; exact h1
theorem RlP.get {f : Int → Int → Int} {K : Nat} {C : List Int} {base : Nat} {g n cap : Nat} (hn : C.length = n) {side : Int} {w : World} {D i m : Nat} {W : World} {c : Int} (hc : C[i]? = some c) (h : RlP f K C base (.slice (some ⟨g, 0, none⟩) n cap) side w D i m W) :
    W.cell? ⟨g, i, none⟩ = some (.int .i64 c) ∧ W.frozen? ⟨g, i, none⟩ = false := by
  have hi : i < C.length := (List.getElem?_eq_some_iff.1 hc).1
  have ho := h.own
  rw [hn] at ho hi
  have k1 := ho.cellAt i (by omega)
  rw [flatJ_get (curJ_get _ _ _ C i hc)] at k1
  exact ⟨k1, ho.frozenAt i⟩
theorem RlP.put {f : Int → Int → Int} {K : Nat} {C : List Int} {base : Nat} {g n cap : Nat} (hn : C.length = n) {side : Int} {w : World} {i m : Nat} {W : World} (hg : g < w.heap.size) {c : Int} (hc : C[i]? = some c) {x : Int} (hx : f (lastC K side (runJ f K side (C.take i))) c = x) (h : RlP f K C base (.slice (some ⟨g, 0, none⟩) n cap) side w w.heap.size i m W) :
    RlP f K C base (.slice (some ⟨g, 0, none⟩) n cap) side w w.heap.size (i + 1) m (W.setCell ⟨g, i, none⟩ (.int .i64 x)) := by
  have o : ∀ (k : Nat), k ≠ g → (W.setCell ⟨g, i, none⟩ (.int .i64 x)).heap[k]? = W.heap[k]? := fun k hk => Below.heap_setCell W ⟨g, i, none⟩ _ k hk
  obtain ⟨h0, h1, h2, h3⟩ := h.ah
  refine ⟨?_, (o _ (by omega)).trans h.box, ?_, h.but.setCell (p := ⟨g, i, none⟩) rfl _, by have := h.le; omega⟩
  · rw [curJ_step f K side C i hc, hx, flatJ_set]
    have ho := h.own
    rw [hn] at ho ⊢
    exact (ho.stored i _).1
  · rw [curJ_pre f K side C i m h.le hc]
    exact ⟨(o _ (by omega)).trans h0, (o _ (by omega)).trans h1, (o _ (by omega)).trans h2, (o _ (by omega)).trans h3⟩
theorem RlP.skip {f : Int → Int → Int} {K : Nat} {C : List Int} {base : Nat} {v : Value} {side : Int} {w : World} {i m : Nat} {W : World} {c : Int} (hc : C[i]? = some c) (hx : f (lastC K side (runJ f K side (C.take i))) c = c) (h : RlP f K C base v side w w.heap.size i m W) :
    RlP f K C base v side w w.heap.size (i + 1) m W := by
  refine ⟨?_, h.box, ?_, h.but, by have := h.le; omega⟩
  · rw [curJ_same f K side C i hc hx]; exact h.own
  · rw [curJ_same f K side C i hc hx]; exact h.ah
theorem digF_in {a b : Int} (hb : 1 ≤ b ∧ b ≤ 17) (p c : Int) (_ : 1 ≤ p ∧ p ≤ 17) (hc : 1 ≤ c ∧ c ≤ 17) : 1 ≤ digF a b p c ∧ digF a b p c ≤ 17 := by
  unfold digF
  split
  · exact hb
  · exact hc
set_option maxRecDepth 100000 in
set_option maxHeartbeats 2000000 in
theorem digA_any (C : List Int) (hC : ClsB C) (side : Int) (hs : 1 ≤ side ∧ side ≤ 17) (hn : C.length ≤ 1000000000000) (base : Nat) (v : Value) (w : World) (h : w.ownsRow base 3 1 v C.length (flatJ C)) :
    Calls Tryd.prog 68 #[.agg #[v, .int .i64 side]] w fun e w' => (∃ u, e = .returned u) ∧ w'.ownsRow base 3 1 v C.length (flatJ (runJ (digF 14 5) 180224 side C)) ∧ But (fun k => v.ownBlock = some k) w w' := by
  obtain ⟨n, hn'⟩ : ∃ n, C.length = n := ⟨_, rfl⟩
  have HN := hideB hn'
  obtain ⟨oa, cap, rfl⟩ : ∃ oa cap, v = .slice oa n cap := by
    rcases own_formB h with ⟨e, rfl⟩ | ⟨g, cap, rfl⟩
    · exact ⟨none, 0, by rw [← hn', e]⟩
    · exact ⟨_, cap, by rw [hn']⟩
  obtain ⟨PO, hPO⟩ : ∃ PO : Ending → World → Prop, (fun e w' => (∃ u, e = .returned u) ∧ w'.ownsRow base 3 1 (.slice oa n cap) C.length (flatJ (runJ (digF 14 5) 180224 side C)) ∧ But (fun k => (Value.slice oa n cap).ownBlock = some k) w w') = PO := ⟨_, rfl⟩
  have HP := hideB hPO
  rw [hPO]
  clear hPO
  have HH := hideB h
  have HCl := hideB hC
  have HNn := hideB hn
  rw [hn'] at hn
  clear hn' h hC
  go_enter Tryd.func68, Tryd.ntmps68
  go_upto_region 1 with fail
  obtain ⟨V, hV⟩ : ∃ V, w.alloc (.cells #[.slice oa n cap, .int .i64 side] 80) = V := ⟨_, rfl⟩
  have HV : Hid (Below w.heap.size w V ∧ V.heap.size = w.heap.size + 1 ∧ V.heap[w.heap.size]? = some (.cells #[.slice oa n cap, .int .i64 side] 80)) := hideB (by
    rw [← hV]
    exact ⟨bel1B _ _, World.size_alloc _ _, World.alloc_heap_new _ _⟩)
  rw [hV]
  have cb : V.cell? ⟨w.heap.size, 0, none⟩ = some (.slice oa n cap) := by simp [World.cell?, HV.out.2.2]
  have cb1 : V.cell? ⟨w.heap.size, 1, none⟩ = some (.int .i64 side) := by simp [World.cell?, HV.out.2.2]
  clear hV
  have HDg : Hid (∀ k, (Value.slice oa n cap).ownBlock = some k → k < w.heap.size) := hideB (fun k hk => (HH.out.lt k hk).2)
  go_upto_region 2 with first
    | (go_at_call 81; (with_reducible refine Calls.mono (ahead_mk _ side 180224 _) ?_); rintro e v5 ⟨rfl, hA5, hB5⟩)
  have hR : RlP (digF 14 5) 180224 C base (.slice oa n cap) side w w.heap.size 0 0 v5 := by
    have hb : Below w.heap.size w v5 := bupB HV.out.1 hB5
    rw [HV.out.2.1] at hA5
    refine ⟨?_, (hB5.block _ (by rw [HV.out.2.1]; omega)).trans HV.out.2.2, ?_, But.of_below hb (fun k hk e => by omega), Nat.le_refl _⟩
    · exact own_keepB HH.out hb
    · exact hA5
  rw [HV.out.2.1]
  unfold ahV
  clear cb cb1 hA5 hB5 HV HH
  have HR0 := hideB hR
  have c0 := hR.cell
  clear hR
  go_wp2_with fail
  clear c0
  go_loopw [10] (fun iv wq => ∃ i m : Nat, iv = .int .i64 (i : Nat) ∧ i ≤ n ∧ RlP (digF 14 5) 180224 C base (.slice oa n cap) side w w.heap.size i m wq) (fun iv _ => n - (intOf iv).toNat)
  case atStart => exact ⟨0, 0, rfl, Nat.zero_le _, HR0.out⟩
  case round =>
    obtain ⟨i, m, rfl, hin, hR⟩ := hrel
    obtain ⟨wq, rfl⟩ : ∃ wq, wq = wr := ⟨_, rfl⟩
    by_cases hlt : i < n
    · obtain ⟨g, cap2, e2⟩ : ∃ g cap2, Value.slice oa n cap = .slice (some ⟨g, 0, none⟩) n cap2 := by
        rcases own_formB hR.own with ⟨e, _⟩ | ⟨g, cap, e⟩
        · have := HN.out; omega
        · exact ⟨g, cap, by rw [HN.out] at e; exact e⟩
      cases e2
      obtain ⟨x, hx⟩ : ∃ x, C[i]? = some x := ⟨_, List.getElem?_eq_getElem (by rw [HN.out]; omega)⟩
      have k1 := (hR.get HN.out hx).1
      have di : (i : Int) < (n : Int) := by omega
      have wk : IntKind.i64.wrap ((i : Int) + 1) = ((i + 1 : Nat) : Int) := by rw [show ((i + 1 : Nat) : Int) = (i : Int) + 1 by omega]; exact IntWalk.i64_in _ ⟨by omega, by omega⟩
      have HX := hideB hx
      have HR := hideB hR
      clear hR hx
      go_upto_region 5 with fail
      clear k1
      by_cases hx4 : x = 4
      · subst hx4
        go_wp2_with fail
        refine (RlP.ask (digF_in (by omega)) (by omega) HCl.out HNn.out hs HDg.out (by rw [HN.out]; exact hin) HR.out).mono ?_
        rintro e w2 ⟨rfl, hR2⟩
        obtain ⟨q, hq⟩ : ∃ q, lastC 180224 side (runJ (digF 14 5) 180224 side (C.take i)) = q := ⟨_, rfl⟩
        have HQ := hideB hq
        have c0 := hR2.cell
        have f0 := (hR2.get HN.out HX.out).2
        have k0 := (hR2.get HN.out HX.out).1
        have HR2 := hideB hR2
        rw [hq]
        clear hR2 hq HR
        by_cases hqa : q = 14
        · subst hqa
          have HR3 := hideB (HR2.out.put HN.out (HDg.out g rfl) HX.out (x := 5) (by rw [HQ.out]; rfl))
          clear HR2
          go_wp2_with fail
          go_roundw
          case rel => exact ⟨i + 1, i, by first | rfl | simp, by omega, HR3.out⟩
          case measure => simp [intOf]; omega
        · have bq : (q == 14) = false := by simp [hqa]
          have HR3 := hideB (HR2.out.skip HX.out (by rw [HQ.out]; unfold digF; rw [if_neg (by intro e; exact hqa e.2)]))
          clear HR2 c0 f0 k0
          go_wp2_with fail
          go_roundw
          case rel => exact ⟨i + 1, i, by first | rfl | simp, by omega, HR3.out⟩
          case measure => simp [intOf]; omega
      · have b4 : (x == 4) = false := by simp [hx4]
        have HR3 := hideB (HR.out.skip HX.out (by unfold digF; rw [if_neg (by intro e; exact hx4 e.1)]))
        clear HR
        go_wp2_with fail
        go_roundw
        case rel => exact ⟨i + 1, m, by first | rfl | simp, by omega, HR3.out⟩
        case measure => simp [intOf]; omega
    · obtain rfl : i = n := by omega
      have d2 : ¬ (i : Int) < (i : Int) := by omega
      have hres : ∀ u, PO (.returned u) wq := fun u => by
        have ho := hR.own
        unfold curJ at ho
        rw [List.take_of_length_le (by rw [HN.out]; exact Nat.le_refl _), List.drop_eq_nil_of_le (by rw [HN.out]; exact Nat.le_refl _), List.append_nil] at ho
        rw [← HP.out]
        exact ⟨⟨u, rfl⟩, ho, hR.but⟩
      have HR := hideB hres
      clear hR hres
      go_wp2_with fail
      first | exact HR.out _ | (refine bodyPost_ret (v := .tuple #[]) (by simp [results, Tryd.results68, go_sem]) rfl ?_; exact HR.out _)
set_option maxRecDepth 100000 in
set_option maxHeartbeats 2000000 in
theorem digL_any (C : List Int) (hC : ClsB C) (side : Int) (hs : 1 ≤ side ∧ side ≤ 17) (hn : C.length ≤ 1000000000000) (base : Nat) (v : Value) (w : World) (h : w.ownsRow base 3 1 v C.length (flatJ C)) :
    Calls Tryd.prog 72 #[.agg #[v, .int .i64 side]] w fun e w' => (∃ u, e = .returned u) ∧ w'.ownsRow base 3 1 v C.length (flatJ (runJ (digF 17 17) 180224 side C)) ∧ But (fun k => v.ownBlock = some k) w w' := by
  obtain ⟨n, hn'⟩ : ∃ n, C.length = n := ⟨_, rfl⟩
  have HN := hideB hn'
  obtain ⟨oa, cap, rfl⟩ : ∃ oa cap, v = .slice oa n cap := by
    rcases own_formB h with ⟨e, rfl⟩ | ⟨g, cap, rfl⟩
    · exact ⟨none, 0, by rw [← hn', e]⟩
    · exact ⟨_, cap, by rw [hn']⟩
  obtain ⟨PO, hPO⟩ : ∃ PO : Ending → World → Prop, (fun e w' => (∃ u, e = .returned u) ∧ w'.ownsRow base 3 1 (.slice oa n cap) C.length (flatJ (runJ (digF 17 17) 180224 side C)) ∧ But (fun k => (Value.slice oa n cap).ownBlock = some k) w w') = PO := ⟨_, rfl⟩
  have HP := hideB hPO
  rw [hPO]
  clear hPO
  have HH := hideB h
  have HCl := hideB hC
  have HNn := hideB hn
  rw [hn'] at hn
  clear hn' h hC
  go_enter Tryd.func72, Tryd.ntmps72
  go_upto_region 1 with fail
  obtain ⟨V, hV⟩ : ∃ V, w.alloc (.cells #[.slice oa n cap, .int .i64 side] 80) = V := ⟨_, rfl⟩
  have HV : Hid (Below w.heap.size w V ∧ V.heap.size = w.heap.size + 1 ∧ V.heap[w.heap.size]? = some (.cells #[.slice oa n cap, .int .i64 side] 80)) := hideB (by
    rw [← hV]
    exact ⟨bel1B _ _, World.size_alloc _ _, World.alloc_heap_new _ _⟩)
  rw [hV]
  have cb : V.cell? ⟨w.heap.size, 0, none⟩ = some (.slice oa n cap) := by simp [World.cell?, HV.out.2.2]
  have cb1 : V.cell? ⟨w.heap.size, 1, none⟩ = some (.int .i64 side) := by simp [World.cell?, HV.out.2.2]
  clear hV
  have HDg : Hid (∀ k, (Value.slice oa n cap).ownBlock = some k → k < w.heap.size) := hideB (fun k hk => (HH.out.lt k hk).2)
  go_upto_region 2 with first
    | (go_at_call 81; (with_reducible refine Calls.mono (ahead_mk _ side 180224 _) ?_); rintro e v5 ⟨rfl, hA5, hB5⟩)
  have hR : RlP (digF 17 17) 180224 C base (.slice oa n cap) side w w.heap.size 0 0 v5 := by
    have hb : Below w.heap.size w v5 := bupB HV.out.1 hB5
    rw [HV.out.2.1] at hA5
    refine ⟨?_, (hB5.block _ (by rw [HV.out.2.1]; omega)).trans HV.out.2.2, ?_, But.of_below hb (fun k hk e => by omega), Nat.le_refl _⟩
    · exact own_keepB HH.out hb
    · exact hA5
  rw [HV.out.2.1]
  unfold ahV
  clear cb cb1 hA5 hB5 HV HH
  have HR0 := hideB hR
  have c0 := hR.cell
  clear hR
  go_wp2_with fail
  clear c0
  go_loopw [10] (fun iv wq => ∃ i m : Nat, iv = .int .i64 (i : Nat) ∧ i ≤ n ∧ RlP (digF 17 17) 180224 C base (.slice oa n cap) side w w.heap.size i m wq) (fun iv _ => n - (intOf iv).toNat)
  case atStart => exact ⟨0, 0, rfl, Nat.zero_le _, HR0.out⟩
  case round =>
    obtain ⟨i, m, rfl, hin, hR⟩ := hrel
    obtain ⟨wq, rfl⟩ : ∃ wq, wq = wr := ⟨_, rfl⟩
    by_cases hlt : i < n
    · obtain ⟨g, cap2, e2⟩ : ∃ g cap2, Value.slice oa n cap = .slice (some ⟨g, 0, none⟩) n cap2 := by
        rcases own_formB hR.own with ⟨e, _⟩ | ⟨g, cap, e⟩
        · have := HN.out; omega
        · exact ⟨g, cap, by rw [HN.out] at e; exact e⟩
      cases e2
      obtain ⟨x, hx⟩ : ∃ x, C[i]? = some x := ⟨_, List.getElem?_eq_getElem (by rw [HN.out]; omega)⟩
      have k1 := (hR.get HN.out hx).1
      have di : (i : Int) < (n : Int) := by omega
      have wk : IntKind.i64.wrap ((i : Int) + 1) = ((i + 1 : Nat) : Int) := by rw [show ((i + 1 : Nat) : Int) = (i : Int) + 1 by omega]; exact IntWalk.i64_in _ ⟨by omega, by omega⟩
      have HX := hideB hx
      have HR := hideB hR
      clear hR hx
      go_upto_region 5 with fail
      clear k1
      by_cases hx4 : x = 4
      · subst hx4
        go_wp2_with fail
        refine (RlP.ask (digF_in (by omega)) (by omega) HCl.out HNn.out hs HDg.out (by rw [HN.out]; exact hin) HR.out).mono ?_
        rintro e w2 ⟨rfl, hR2⟩
        obtain ⟨q, hq⟩ : ∃ q, lastC 180224 side (runJ (digF 17 17) 180224 side (C.take i)) = q := ⟨_, rfl⟩
        have HQ := hideB hq
        have c0 := hR2.cell
        have f0 := (hR2.get HN.out HX.out).2
        have k0 := (hR2.get HN.out HX.out).1
        have HR2 := hideB hR2
        rw [hq]
        clear hR2 hq HR
        by_cases hqa : q = 17
        · subst hqa
          have HR3 := hideB (HR2.out.put HN.out (HDg.out g rfl) HX.out (x := 17) (by rw [HQ.out]; rfl))
          clear HR2
          go_wp2_with fail
          go_roundw
          case rel => exact ⟨i + 1, i, by first | rfl | simp, by omega, HR3.out⟩
          case measure => simp [intOf]; omega
        · have bq : (q == 17) = false := by simp [hqa]
          have HR3 := hideB (HR2.out.skip HX.out (by rw [HQ.out]; unfold digF; rw [if_neg (by intro e; exact hqa e.2)]))
          clear HR2 c0 f0 k0
          go_wp2_with fail
          go_roundw
          case rel => exact ⟨i + 1, i, by first | rfl | simp, by omega, HR3.out⟩
          case measure => simp [intOf]; omega
      · have b4 : (x == 4) = false := by simp [hx4]
        have HR3 := hideB (HR.out.skip HX.out (by unfold digF; rw [if_neg (by intro e; exact hx4 e.1)]))
        clear HR
        go_wp2_with fail
        go_roundw
        case rel => exact ⟨i + 1, m, by first | rfl | simp, by omega, HR3.out⟩
        case measure => simp [intOf]; omega
    · obtain rfl : i = n := by omega
      have d2 : ¬ (i : Int) < (i : Int) := by omega
      have hres : ∀ u, PO (.returned u) wq := fun u => by
        have ho := hR.own
        unfold curJ at ho
        rw [List.take_of_length_le (by rw [HN.out]; exact Nat.le_refl _), List.drop_eq_nil_of_le (by rw [HN.out]; exact Nat.le_refl _), List.append_nil] at ho
        rw [← HP.out]
        exact ⟨⟨u, rfl⟩, ho, hR.but⟩
      have HR := hideB hres
      clear hR hres
      go_wp2_with fail
      first | exact HR.out _ | (refine bodyPost_ret (v := .tuple #[]) (by simp [results, Tryd.results72, go_sem]) rfl ?_; exact HR.out _)
end Go.Proofs.YtbehlaclffjkbaaDoor
