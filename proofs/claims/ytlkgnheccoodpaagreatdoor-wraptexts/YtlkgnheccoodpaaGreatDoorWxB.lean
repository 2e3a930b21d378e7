import Derived.Test.YtlkgnheccoodpaaGreatDoorWxA
import Derived.Test.YtlkgnheccoodpaaGreatDoorG3
import Derived.Test.YtlkgnheccoodpaaGreatDoorGA
import Derived.Test.YtlkgnheccoodpaaGreatDoorGR
import Derived.Test.YtlkgnheccoodpaaGreatDoorJnB
import Derived.Laws.AppendOwnNone
namespace Go.Proofs.YtlkgnheccoodpaaGreatDoor
open Go.RowKit Go.Shelf
attribute [local go_sem] Oper.semAt_some
def layL : List St → ByteArray → List Sp → Int × ByteArray × List Sp
 | [], s, D => (0, s, D)
 | x :: l, s, D => if (layM x s D).1 = 0 then layL l (layM x s D).2.1 (layM x s D).2.2 else ((layM x s D).1, ByteArray.empty, [])
def wtxM (s : ByteArray) (D : List Sp) (wd : Int) : Int × ByteArray × List Sp :=
 if ¬ chkT s D = 0 then (chkT s D, ByteArray.empty, []) else if ¬ wcheckI s.size wd = 0 then (wcheckI s.size wd, ByteArray.empty, []) else layL (wrapW s wd).reverse s D
theorem glue3_size (x u y : ByteArray) : (glueM [x, u, y]).1.size ≤ 4096 := by
 rw [glue3]
 by_cases h : 4096 < (x ++ u ++ y).size
 ·rw [if_pos h]; simp
 ·rw [if_neg h]
  split
  ·simp
  ·split
   ·simp
   ·exact Nat.le_of_not_lt h
theorem splM_size (s : ByteArray) (D : List Sp) (a b : Int) (u : ByteArray) (E : List Sp) : (splM s D a b u E).2.1.size ≤ 4096 := by
 unfold splM
 repeat' split
 all_goals first | exact glue3_size _ _ _ | simp
theorem layM_size (x : St) (s : ByteArray) (D : List Sp) (h : s.size ≤ 140737488355328) : (layM x s D).2.1.size ≤ 140737488355328 := by
 unfold layM layI
 repeat' split
 all_goals first | exact h | exact Nat.le_trans (splM_size _ _ _ _ _ _) (by omega)
theorem SRow.setX {l : List St} {G P i : Nat} {V : World} {v : Value} (h : SRow l G V) (hne : G ≠ P) : SRow l G (V.setCell ⟨P, i, none⟩ v) := by
 have k : ∀ n, (V.setCell ⟨P, i, none⟩ v).cell? ⟨G, n, none⟩ = V.cell? ⟨G, n, none⟩ := fun n => World.cell?_of_block (Below.heap_setCell _ _ _ _ hne)
 refine ⟨by simpa using h.1, fun i x hx => ?_⟩
 simp only [k]
 exact h.2 i x hx
theorem Tx.setX {W : World} {P Q i : Nat} {a b v : Value} (h : Tx W P a b) (hne : P ≠ Q) : Tx (W.setCell ⟨Q, i, none⟩ v) P a b := (Below.heap_setCell _ _ _ _ hne).trans h
def TxL (w W : World) (way : List St) (g : Nat) (s : ByteArray) (D : List Sp) (o : Option Addr) (c : Nat) : Prop :=
 Tx W w.heap.size (.string s) (.slice o D.length c) ∧ (D.length ≤ c ∧ c ≤ maxLen) ∧ (o = none → D = [] ∧ c = 0) ∧ SpO W o D ∧ (∀ a, o = some a → w.heap.size + 1 < a.block) ∧ SRow way g W ∧ w.heap.size + 1 < g ∧ Tx W (w.heap.size + 1) (.string ⟨#[]⟩) (.slice none 0 0) ∧ Below w.heap.size w W
theorem TxL.store {w W : World} {way : List St} {g : Nat} {x y : Value} {s : ByteArray} {D : List Sp} {o : Option Addr} {N c : Nat} (hN : D.length = N) (hT : Tx W w.heap.size x y) (hc : D.length ≤ c ∧ c ≤ maxLen) (hn : o = none → D = [] ∧ c = 0) (hS : SpO W o D) (ha : ∀ a, o = some a → w.heap.size + 1 < a.block)
  (hR : SRow way g W) (hg : w.heap.size + 1 < g) (hZ : Tx W (w.heap.size + 1) (.string ⟨#[]⟩) (.slice none 0 0)) (hB : Below w.heap.size w W) : TxL w ((W.setCell ⟨w.heap.size, 0, none⟩ (.string s)).setCell ⟨w.heap.size, 1, none⟩ (.slice o N c)) way g s D o c := by
 subst hN
 have hne : ∀ a, o = some a → a.block ≠ w.heap.size := fun a h => by have := ha a h; omega
 exact ⟨hT.set _ _, hc, hn, (hS.setW hne).setW hne, ha, (hR.setX (by omega)).setX (by omega), hg, (hZ.setX (by omega)).setX (by omega), (hB.setCell (by simp) _).setCell (by simp) _⟩
set_option maxRecDepth 100000 in
set_option maxHeartbeats 4000000 in
theorem wtext_ok (s : ByteArray) (D : List Sp) (o : Option Addr) (N cap : Nat) (hN : D.length = N) (hs : s.size ≤ 4096) (hN5 : N ≤ 256) (wd : Int) (hc : N ≤ cap ∧ cap ≤ maxLen) (hn : o = none → D = [] ∧ cap = 0) (way : List St) (hwl : 1 ≤ way.length ∧ way.length ≤ 5000) (w : World) (hR : SpO w o D)
  (HCk : ∀ W, Below w.heap.size w W → Calls Tryz.prog 12 #[.agg #[.string s, .slice o N cap]] W fun e w' => e = .returned (.int .i64 0) ∧ Below W.heap.size W w')
  (HWc : ∀ W, Calls Tryz.prog 13 #[.string s, .int .i64 wd] W fun e w' => e = .returned (.int .i64 0) ∧ w' = W)
  (HSt : ∀ W, Below w.heap.size w W → Calls Tryz.prog 15 #[.string s] W fun e w' => ∃ g n c, e = .returned (.slice (some ⟨g, 0, none⟩) n c) ∧ Below W.heap.size W w' ∧ ∀ W2, Below w'.heap.size w' W2 → Calls Tryz.prog 14 #[.slice (some ⟨g, 0, none⟩) n c, .int .i64 wd] W2 fun e w3 => ∃ g3 c3, e = .returned (.slice (some ⟨g3, 0, none⟩) way.length c3) ∧ SRow way g3 w3 ∧ W2.heap.size ≤ g3 ∧ (way.length ≤ c3 ∧ c3 ≤ maxLen) ∧ Below W2.heap.size W2 w3)
  (HLy : ∀ (x : St), x ∈ way → ∀ (s2 : ByteArray) (D2 : List Sp) (o2 : Option Addr) (c2 : Nat), s2.size ≤ 140737488355328 → (D2.length ≤ c2 ∧ c2 ≤ maxLen) → (o2 = none → D2 = [] ∧ c2 = 0) → ∀ W, Below w.heap.size w W → SpO W o2 D2 → Calls Tryz.prog 17 #[.agg (cellsS x).toArray, .agg #[.string s2, .slice o2 D2.length c2]] W (LayAns W o2 (layM x s2 D2))) :
  Calls Tryz.prog 6 #[.agg #[.string s, .slice o N cap], .int .i64 wd] w (TxAns w (layL way.reverse s D)) := by
 obtain ⟨i0, hi, hz0, hz1, hz2⟩ := info_parts infoSp
 obtain ⟨R, hRR⟩ : ∃ R, layL way.reverse s D = R := ⟨_, rfl⟩
 rw [hRR]
 have HR := hideS hRR
 have HD := hideS (And.intro hN (And.intro hc (And.intro hn hR)))
 have HC := hideS (fun W => clone_any s W (by omega))
 replace HCk := hideS HCk
 replace HWc := hideS HWc
 replace HSt := hideS HSt
 replace HLy := hideS HLy
 clear hRR hR
 go_enter Tryz.func6, Tryz.ntmps6
 go_wp2_with fail
 have hex : Below w.heap.size w ((w.alloc (.cells #[.string s, .slice o N cap] 24)).alloc (.cells #[.string ⟨#[]⟩, .slice none 0 0] 24)) ∧ Tx ((w.alloc (.cells #[.string s, .slice o N cap] 24)).alloc (.cells #[.string ⟨#[]⟩, .slice none 0 0] 24)) w.heap.size (.string s) (.slice o N cap) ∧ Tx ((w.alloc (.cells #[.string s, .slice o N cap] 24)).alloc (.cells #[.string ⟨#[]⟩, .slice none 0 0] 24)) (w.heap.size + 1) (.string ⟨#[]⟩) (.slice none 0 0) := by
  refine ⟨bupS (bel1S _ _) (bel1S _ _), (Tx.new w _ _).keep (bel1S _ _), ?_⟩
  have h9 := Tx.new (w.alloc (.cells #[.string s, .slice o N cap] 24)) (.string ⟨#[]⟩) (.slice none 0 0)
  rw [World.size_alloc] at h9
  exact h9
 obtain ⟨V, hV⟩ : ∃ V, (w.alloc (.cells #[.string s, .slice o N cap] 24)).alloc (.cells #[.string ⟨#[]⟩, .slice none 0 0] 24) = V := ⟨_, rfl⟩
 rw [hV] at hex
 try rw [hV]
 clear hV
 have HV := hideS hex
 clear hex
 refine (HCk.out _ HV.out.1).mono ?_
 rintro e w1 ⟨rfl, b1⟩
 replace HV := hideS (And.intro (bupS HV.out.1 b1) (And.intro (HV.out.2.1.keep b1) (HV.out.2.2.keep b1)))
 clear b1 HCk
 obtain ⟨c0, c1, c2, c3⟩ := HV.out.2.1.cells
 go_wp2_with fail
 refine (HWc.out _).mono ?_
 rintro e w2 ⟨rfl, hq⟩
 obtain rfl : w2 = w1 := hq
 go_wp2_with fail
 refine (HSt.out _ HV.out.1).mono ?_
 rintro e w3 ⟨g, n, c, rfl, b3, HL⟩
 replace HL := hideS (HL w3 (Below.refl _ _))
 replace HV := hideS (And.intro (bupS HV.out.1 b3) (And.intro (HV.out.2.1.keep b3) (HV.out.2.2.keep b3)))
 clear b3 HSt c0 c1 c2 c3 HWc
 go_wp2_with fail
 refine HL.out.mono ?_
 rintro e w4 ⟨g4, c4, rfl, sr4, hg4, hc4, b4⟩
 have hz3 := HV.out.2.2.lt
 have HG := hideS (And.intro sr4 (And.intro (show w.heap.size + 1 < g4 by omega) hc4))
 replace HV := hideS (And.intro (bupS HV.out.1 b4) (And.intro (HV.out.2.1.keep b4) (HV.out.2.2.keep b4)))
 clear b4 HL sr4 hg4 hz3
 obtain ⟨c0, c1, c2, c3⟩ := HV.out.2.1.cells
 go_upto_region 8 with fail
 have hz4 : w.heap.size + 1 < w4.heap.size := HV.out.2.2.lt
 have hg4l : g4 < w4.heap.size := HG.out.1.1
 have HM := hideS (show ∀ X, Below w4.heap.size w4 X → Below w.heap.size w X from fun X h => bupS HV.out.1 h)
 go_cut [] (fun wx => ∃ o' c', TxL w wx way g4 s D o' c')
 case first =>
  have HO := hideS (flat4_one D)
  have HL : Hid ((flat4 D).length = N * 4) := hideS (by rw [flat4_len, HD.out.1])
  have hn0 : Hid (o = none → N = 0 ∧ cap = 0) := hideS fun h => by obtain ⟨h1, h2⟩ := HD.out.2.2.1 h; have h3 := HD.out.1; rw [h1] at h3; exact ⟨h3.symm, h2⟩
  have HA : Hid (∀ X, Below w.heap.size w X → ∀ a, o = some a → ∀ j u, (flat4 D)[j]? = some u → X.cell? (a.add j) = some u) := hideS fun X h a ha j u hj => (SpO.flat (Q := D) (a := a) (by have h9 := HD.out.2.2.2.keep h; rw [ha] at h9; exact h9)) j u hj
  have HLf : Hid (∀ v' w6, Below w4.heap.size w4 w6 → w6.ownsRow w4.heap.size 42 4 v' N (flat4 D) → ∃ o' c', TxL w ((w6.setCell ⟨w.heap.size, 0, none⟩ (.string s)).setCell ⟨w.heap.size, 1, none⟩ v') way g4 s D o' c') := hideS fun v' w6 h1 h2 => by
   obtain ⟨o', c', rfl, q1, q2, q3⟩ := own_readB h2 HD.out.1
   exact ⟨o', c', TxL.store HD.out.1 (HV.out.2.1.keep h1) (by rw [HD.out.1]; exact q1) (fun h => by obtain ⟨r1, r2⟩ := own_noneW h2 h; exact ⟨List.length_eq_zero_iff.1 (by rw [HD.out.1]; exact r1), r2⟩) q2 (fun a ha => by have := q3 a ha; omega) (HG.out.1.keep h1 hg4l) HG.out.2.1 (HV.out.2.2.keep h1) (HM.out _ h1)⟩
  refine wp_region_held_drew (S := fun _ => True) (by kernel_rfl) trivial (fun hHeld => ?_)
  refine wpAnyH_take (i := 0) (oi := ({ dst := some 30, op := Op.fieldAddr 24 (Operand.tmp 2) 0, type := 0, pos := "wrap.go:69", after := #[], guard := none } : Oper)) (v := .pointer (some ⟨w.heap.size, 0, none⟩)) rfl (by kernel_rfl) (by kernel_rfl) (by kernel_rfl) (fun _ _ _ h => h) (Or.inl ⟨by rfl, ?_⟩) (by trivial) ?_
  ·intro w9 hSw
   go_simp
  try simp only [Act.put, List.setIfInBounds_toArray, List.set_cons_zero, List.set_cons_succ]
  refine wpAnyH_take (i := 3) (oi := ({ dst := some 33, op := Op.fieldAddr 24 (Operand.tmp 2) 1, type := 0, pos := "wrap.go:69", after := #[], guard := none } : Oper)) (v := .pointer (some ⟨w.heap.size, 1, none⟩)) rfl (by kernel_rfl) (by kernel_rfl) (by kernel_rfl) (fun _ _ _ h => h) (Or.inl ⟨by rfl, ?_⟩) (by trivial) ?_
  ·intro w9 hSw
   go_simp
  try simp only [Act.put, List.setIfInBounds_toArray, List.set_cons_zero, List.set_cons_succ]
  refine wpAnyH_ready (rs := [1, 4]) (by kernel_rfl) (by simp) ?_
  refine AllReadyH.cons (o := ({ dst := some 31, op := Op.load 9 (Operand.tmp 30), type := 9, pos := "wrap.go:69", after := #[{ on := 0, ground := Ground.data }], guard := none } : Oper)) rfl (fun K hK => ?_) ?_
  ·go_simp
   refine hK.out _ _ ?_ (fun hHeld => ?_)
   ·trivial
   clear hK K
   try simp only [Act.put, List.setIfInBounds_toArray, List.set_cons_zero, List.set_cons_succ]
   refine wpAnyH_ready (rs := [2, 4]) (by kernel_rfl) (by simp) ?_
   refine AllReadyH.cons (o := ({ dst := some 32, op := Op.call { callee := Callee.value (Operand.func 16), args := #[Operand.tmp 31], argTypes := #[9] }, type := 9, pos := "wrap.go:69", after := #[{ on := 1, ground := Ground.data }], guard := none } : Oper)) rfl (fun K hK => ?_) ?_
   ·go_simp
    (with_reducible refine (HC.out w4.drew).mono ?_); rintro e w5 ⟨rfl, b5⟩; have B5 : Hid (Below w4.heap.size w4 w5) := hideS (Below.trans (Below.refl w4.heap.size w4).drew b5); have ⟨k0, k1, k2, k3⟩ := (HV.out.2.1.keep B5.out).cells; clear b5
    go_wp2_with fail
    refine hK.out _ _ ?_ (fun hHeld => ?_)
    ·trivial
    clear hK K
    try simp only [Act.put, List.setIfInBounds_toArray, List.set_cons_zero, List.set_cons_succ]
    refine wpAnyH_ready (rs := [4]) (by kernel_rfl) (by simp) ?_
    refine AllReadyH.cons (o := ({ dst := some 34, op := Op.load 22 (Operand.tmp 33), type := 22, pos := "wrap.go:69", after := #[{ on := 3, ground := Ground.data }], guard := none } : Oper)) rfl (fun K hK => ?_) ?_
    ·go_simp
     refine hK.out _ _ ?_ (fun hHeld => ?_)
     ·trivial
     clear hK K
     try simp only [Act.put, List.setIfInBounds_toArray, List.set_cons_zero, List.set_cons_succ]
     refine wpAnyH_ready (rs := [5]) (by kernel_rfl) (by simp) ?_
     refine AllReadyH.cons (o := ({ dst := some 35, op := Op.call { callee := Callee.builtin Builtin.append, args := #[Operand.const (Value.slice none 0 0), Operand.tmp 34], argTypes := #[22, 22] }, type := 22, pos := "wrap.go:69", after := #[{ on := 4, ground := Ground.data }, { on := 2, ground := Ground.chain }], guard := none } : Oper)) rfl (fun K hK => ?_) ?_
     ·refine step_spans2 _ (by rfl) _ _ _ (by rfl) w4.heap.size 42 i0 (.agg #[.int .i64 0, .int .i64 0, .int .i64 0, .int .i64 0]) 4 32 Tryz.underlying22 hi hz0 hz1 hz2 rfl (by decide) (.slice none 0 0) 0 [] (by rfl) (World.ownsRow_nil _ _ _ _) o N cap (flat4 D) (by rfl) hn0.out HL.out (fun a ha j u hj => HA.out _ (HM.out _ B5.out) a ha j u hj) HO.out (by unfold maxLen; omega) (by omega) B5.out.size ?_; intro v' w6 hown' hgrow; have B6 : Hid (Below w4.heap.size w4 w6) := hideS (Below.grown B5.out hgrow B5.out.size (fun j hj => by cases hj)); rw [List.nil_append, Nat.zero_add] at hown'; obtain ⟨o6, c6, rfl, -, -, -⟩ := own_readB hown' HD.out.1; have O6 := hideS hown'; clear hown' hgrow; have ⟨l0, l1, l2, l3⟩ := (HV.out.2.1.keep B6.out).cells
      refine hK.out _ _ ?_ (fun hHeld => ?_)
      ·trivial
      clear hK K
      try simp only [Act.put, List.setIfInBounds_toArray, List.set_cons_zero, List.set_cons_succ]
      refine wpAnyH_take (i := 6) (oi := ({ dst := some 36, op := Op.build 24 #[(0, Operand.tmp 32), (1, Operand.tmp 35)], type := 24, pos := "wrap.go:69", after := #[{ on := 2, ground := Ground.data }, { on := 5, ground := Ground.data }], guard := none } : Oper)) (v := .agg #[.string s, .slice o6 N c6]) rfl (by kernel_rfl) (by kernel_rfl) (by kernel_rfl) (fun _ _ _ h => h) (Or.inl ⟨by rfl, ?_⟩) (by trivial) ?_
      ·intro w9 hSw
       go_simp
      try simp only [Act.put, List.setIfInBounds_toArray, List.set_cons_zero, List.set_cons_succ]
      refine wpAnyH_ready (rs := [7]) (by kernel_rfl) (by simp) ?_
      refine AllReadyH.cons (o := ({ dst := none, op := Op.store 24 (Operand.tmp 2) (Operand.tmp 36), type := 0, pos := "wrap.go:69", after := #[{ on := 6, ground := Ground.data }, { on := 5, ground := Ground.chain }, { on := 0, ground := Ground.phase }, { on := 1, ground := Ground.phase }, { on := 2, ground := Ground.phase }, { on := 3, ground := Ground.phase }, { on := 4, ground := Ground.phase }, { on := 5, ground := Ground.phase }, { on := 6, ground := Ground.phase }], guard := none } : Oper)) rfl (fun K hK => ?_) ?_
      ·go_simp
       refine hK.out _ _ ?_ (fun hHeld => ?_)
       ·trivial
       clear hK K
       try simp only [Act.put, List.setIfInBounds_toArray, List.set_cons_zero, List.set_cons_succ]
       refine wpAnyH_done (by kernel_rfl) ?_ _
       first | go_wp2_with fail | skip
       go_meet
       exact HLf.out _ w6 B6.out O6.out
      exact AllReadyH.nil
     exact AllReadyH.nil
    exact AllReadyH.nil
   refine AllReadyH.cons (o := ({ dst := some 34, op := Op.load 22 (Operand.tmp 33), type := 22, pos := "wrap.go:69", after := #[{ on := 3, ground := Ground.data }], guard := none } : Oper)) rfl (fun K hK => ?_) ?_
   ·go_simp
    refine hK.out _ _ ?_ (fun hHeld => ?_)
    ·trivial
    clear hK K
    try simp only [Act.put, List.setIfInBounds_toArray, List.set_cons_zero, List.set_cons_succ]
    refine wpAnyH_ready (rs := [2]) (by kernel_rfl) (by simp) ?_
    refine AllReadyH.cons (o := ({ dst := some 32, op := Op.call { callee := Callee.value (Operand.func 16), args := #[Operand.tmp 31], argTypes := #[9] }, type := 9, pos := "wrap.go:69", after := #[{ on := 1, ground := Ground.data }], guard := none } : Oper)) rfl (fun K hK => ?_) ?_
    ·go_simp
     (with_reducible refine (HC.out w4.drew).mono ?_); rintro e w5 ⟨rfl, b5⟩; have B5 : Hid (Below w4.heap.size w4 w5) := hideS (Below.trans (Below.refl w4.heap.size w4).drew b5); have ⟨k0, k1, k2, k3⟩ := (HV.out.2.1.keep B5.out).cells; clear b5
     go_wp2_with fail
     refine hK.out _ _ ?_ (fun hHeld => ?_)
     ·trivial
     clear hK K
     try simp only [Act.put, List.setIfInBounds_toArray, List.set_cons_zero, List.set_cons_succ]
     refine wpAnyH_ready (rs := [5]) (by kernel_rfl) (by simp) ?_
     refine AllReadyH.cons (o := ({ dst := some 35, op := Op.call { callee := Callee.builtin Builtin.append, args := #[Operand.const (Value.slice none 0 0), Operand.tmp 34], argTypes := #[22, 22] }, type := 22, pos := "wrap.go:69", after := #[{ on := 4, ground := Ground.data }, { on := 2, ground := Ground.chain }], guard := none } : Oper)) rfl (fun K hK => ?_) ?_
     ·refine step_spans2 _ (by rfl) _ _ _ (by rfl) w4.heap.size 42 i0 (.agg #[.int .i64 0, .int .i64 0, .int .i64 0, .int .i64 0]) 4 32 Tryz.underlying22 hi hz0 hz1 hz2 rfl (by decide) (.slice none 0 0) 0 [] (by rfl) (World.ownsRow_nil _ _ _ _) o N cap (flat4 D) (by rfl) hn0.out HL.out (fun a ha j u hj => HA.out _ (HM.out _ B5.out) a ha j u hj) HO.out (by unfold maxLen; omega) (by omega) B5.out.size ?_; intro v' w6 hown' hgrow; have B6 : Hid (Below w4.heap.size w4 w6) := hideS (Below.grown B5.out hgrow B5.out.size (fun j hj => by cases hj)); rw [List.nil_append, Nat.zero_add] at hown'; obtain ⟨o6, c6, rfl, -, -, -⟩ := own_readB hown' HD.out.1; have O6 := hideS hown'; clear hown' hgrow; have ⟨l0, l1, l2, l3⟩ := (HV.out.2.1.keep B6.out).cells
      refine hK.out _ _ ?_ (fun hHeld => ?_)
      ·trivial
      clear hK K
      try simp only [Act.put, List.setIfInBounds_toArray, List.set_cons_zero, List.set_cons_succ]
      refine wpAnyH_take (i := 6) (oi := ({ dst := some 36, op := Op.build 24 #[(0, Operand.tmp 32), (1, Operand.tmp 35)], type := 24, pos := "wrap.go:69", after := #[{ on := 2, ground := Ground.data }, { on := 5, ground := Ground.data }], guard := none } : Oper)) (v := .agg #[.string s, .slice o6 N c6]) rfl (by kernel_rfl) (by kernel_rfl) (by kernel_rfl) (fun _ _ _ h => h) (Or.inl ⟨by rfl, ?_⟩) (by trivial) ?_
      ·intro w9 hSw
       go_simp
      try simp only [Act.put, List.setIfInBounds_toArray, List.set_cons_zero, List.set_cons_succ]
      refine wpAnyH_ready (rs := [7]) (by kernel_rfl) (by simp) ?_
      refine AllReadyH.cons (o := ({ dst := none, op := Op.store 24 (Operand.tmp 2) (Operand.tmp 36), type := 0, pos := "wrap.go:69", after := #[{ on := 6, ground := Ground.data }, { on := 5, ground := Ground.chain }, { on := 0, ground := Ground.phase }, { on := 1, ground := Ground.phase }, { on := 2, ground := Ground.phase }, { on := 3, ground := Ground.phase }, { on := 4, ground := Ground.phase }, { on := 5, ground := Ground.phase }, { on := 6, ground := Ground.phase }], guard := none } : Oper)) rfl (fun K hK => ?_) ?_
      ·go_simp
       refine hK.out _ _ ?_ (fun hHeld => ?_)
       ·trivial
       clear hK K
       try simp only [Act.put, List.setIfInBounds_toArray, List.set_cons_zero, List.set_cons_succ]
       refine wpAnyH_done (by kernel_rfl) ?_ _
       first | go_wp2_with fail | skip
       go_meet
       exact HLf.out _ w6 B6.out O6.out
      exact AllReadyH.nil
     exact AllReadyH.nil
    exact AllReadyH.nil
   exact AllReadyH.nil
  refine AllReadyH.cons (o := ({ dst := some 34, op := Op.load 22 (Operand.tmp 33), type := 22, pos := "wrap.go:69", after := #[{ on := 3, ground := Ground.data }], guard := none } : Oper)) rfl (fun K hK => ?_) ?_
  ·go_simp
   refine hK.out _ _ ?_ (fun hHeld => ?_)
   ·trivial
   clear hK K
   try simp only [Act.put, List.setIfInBounds_toArray, List.set_cons_zero, List.set_cons_succ]
   refine wpAnyH_ready (rs := [1]) (by kernel_rfl) (by simp) ?_
   refine AllReadyH.cons (o := ({ dst := some 31, op := Op.load 9 (Operand.tmp 30), type := 9, pos := "wrap.go:69", after := #[{ on := 0, ground := Ground.data }], guard := none } : Oper)) rfl (fun K hK => ?_) ?_
   ·go_simp
    refine hK.out _ _ ?_ (fun hHeld => ?_)
    ·trivial
    clear hK K
    try simp only [Act.put, List.setIfInBounds_toArray, List.set_cons_zero, List.set_cons_succ]
    refine wpAnyH_ready (rs := [2]) (by kernel_rfl) (by simp) ?_
    refine AllReadyH.cons (o := ({ dst := some 32, op := Op.call { callee := Callee.value (Operand.func 16), args := #[Operand.tmp 31], argTypes := #[9] }, type := 9, pos := "wrap.go:69", after := #[{ on := 1, ground := Ground.data }], guard := none } : Oper)) rfl (fun K hK => ?_) ?_
    ·go_simp
     (with_reducible refine (HC.out w4.drew).mono ?_); rintro e w5 ⟨rfl, b5⟩; have B5 : Hid (Below w4.heap.size w4 w5) := hideS (Below.trans (Below.refl w4.heap.size w4).drew b5); have ⟨k0, k1, k2, k3⟩ := (HV.out.2.1.keep B5.out).cells; clear b5
     go_wp2_with fail
     refine hK.out _ _ ?_ (fun hHeld => ?_)
     ·trivial
     clear hK K
     try simp only [Act.put, List.setIfInBounds_toArray, List.set_cons_zero, List.set_cons_succ]
     refine wpAnyH_ready (rs := [5]) (by kernel_rfl) (by simp) ?_
     refine AllReadyH.cons (o := ({ dst := some 35, op := Op.call { callee := Callee.builtin Builtin.append, args := #[Operand.const (Value.slice none 0 0), Operand.tmp 34], argTypes := #[22, 22] }, type := 22, pos := "wrap.go:69", after := #[{ on := 4, ground := Ground.data }, { on := 2, ground := Ground.chain }], guard := none } : Oper)) rfl (fun K hK => ?_) ?_
     ·refine step_spans2 _ (by rfl) _ _ _ (by rfl) w4.heap.size 42 i0 (.agg #[.int .i64 0, .int .i64 0, .int .i64 0, .int .i64 0]) 4 32 Tryz.underlying22 hi hz0 hz1 hz2 rfl (by decide) (.slice none 0 0) 0 [] (by rfl) (World.ownsRow_nil _ _ _ _) o N cap (flat4 D) (by rfl) hn0.out HL.out (fun a ha j u hj => HA.out _ (HM.out _ B5.out) a ha j u hj) HO.out (by unfold maxLen; omega) (by omega) B5.out.size ?_; intro v' w6 hown' hgrow; have B6 : Hid (Below w4.heap.size w4 w6) := hideS (Below.grown B5.out hgrow B5.out.size (fun j hj => by cases hj)); rw [List.nil_append, Nat.zero_add] at hown'; obtain ⟨o6, c6, rfl, -, -, -⟩ := own_readB hown' HD.out.1; have O6 := hideS hown'; clear hown' hgrow; have ⟨l0, l1, l2, l3⟩ := (HV.out.2.1.keep B6.out).cells
      refine hK.out _ _ ?_ (fun hHeld => ?_)
      ·trivial
      clear hK K
      try simp only [Act.put, List.setIfInBounds_toArray, List.set_cons_zero, List.set_cons_succ]
      refine wpAnyH_take (i := 6) (oi := ({ dst := some 36, op := Op.build 24 #[(0, Operand.tmp 32), (1, Operand.tmp 35)], type := 24, pos := "wrap.go:69", after := #[{ on := 2, ground := Ground.data }, { on := 5, ground := Ground.data }], guard := none } : Oper)) (v := .agg #[.string s, .slice o6 N c6]) rfl (by kernel_rfl) (by kernel_rfl) (by kernel_rfl) (fun _ _ _ h => h) (Or.inl ⟨by rfl, ?_⟩) (by trivial) ?_
      ·intro w9 hSw
       go_simp
      try simp only [Act.put, List.setIfInBounds_toArray, List.set_cons_zero, List.set_cons_succ]
      refine wpAnyH_ready (rs := [7]) (by kernel_rfl) (by simp) ?_
      refine AllReadyH.cons (o := ({ dst := none, op := Op.store 24 (Operand.tmp 2) (Operand.tmp 36), type := 0, pos := "wrap.go:69", after := #[{ on := 6, ground := Ground.data }, { on := 5, ground := Ground.chain }, { on := 0, ground := Ground.phase }, { on := 1, ground := Ground.phase }, { on := 2, ground := Ground.phase }, { on := 3, ground := Ground.phase }, { on := 4, ground := Ground.phase }, { on := 5, ground := Ground.phase }, { on := 6, ground := Ground.phase }], guard := none } : Oper)) rfl (fun K hK => ?_) ?_
      ·go_simp
       refine hK.out _ _ ?_ (fun hHeld => ?_)
       ·trivial
       clear hK K
       try simp only [Act.put, List.setIfInBounds_toArray, List.set_cons_zero, List.set_cons_succ]
       refine wpAnyH_done (by kernel_rfl) ?_ _
       first | go_wp2_with fail | skip
       go_meet
       exact HLf.out _ w6 B6.out O6.out
      exact AllReadyH.nil
     exact AllReadyH.nil
    exact AllReadyH.nil
   exact AllReadyH.nil
  exact AllReadyH.nil
 case rest =>
  obtain ⟨o1, c1', hL⟩ := hcut
  have HL := hideS hL
  clear hL HD HV HG HC HM c0 c1 c2 c3 hz4 hg4l hn hc
  have hwl2 := hwl.2
  obtain ⟨L, hLn⟩ : ∃ L, way.length = L := ⟨_, rfl⟩
  have HLn := hideS hLn
  rw [hLn] at hwl hwl2 ⊢
  have wr0 : IntKind.i64.wrap ((L : Int) - 1) = (L : Int) - 1 := IntWalk.i64_in _ ⟨by omega, by omega⟩
  clear hLn
  go_wp2_with fail
  go_loopw [9] (fun iv wq => ∃ (j : Nat) (sj : ByteArray) (Dj : List Sp) (oj : Option Addr) (cj : Nat), iv = .int .i64 ((j : Int) - 1) ∧ j ≤ L ∧ sj.size ≤ 140737488355328 ∧ layL (way.take j).reverse sj Dj = R ∧ TxL w wq way g4 sj Dj oj cj) (fun iv _ => (intOf iv + 1).toNat)
  case atStart => exact ⟨L, s, D, o1, c1', rfl, Nat.le_refl _, by omega, by rw [← HLn.out, List.take_length]; exact HR.out, HL.out⟩
  case round =>
   obtain ⟨j, sj, Dj, oj, cj, rfl, hjL, hsz, hlay, hT⟩ := hrel
   obtain ⟨wq, rfl⟩ : ∃ wq, wq = wr := ⟨_, rfl⟩
   have HT := hideS hT
   have HQ := hideS hlay
   clear hlay hT
   obtain ⟨Nj, hNj⟩ : ∃ n, Dj.length = n := ⟨_, rfl⟩
   have HNj := hideS hNj
   clear hNj
   have ⟨t0, t1, t2, t3⟩ := HT.out.1.cells
   rw [HNj.out] at t1
   have ⟨r0, r1, r2, r3⟩ := HT.out.2.2.2.2.2.2.2.1.cells
   have hzq : w.heap.size + 1 < wq.heap.size := HT.out.2.2.2.2.2.2.2.1.lt
   cases j with
   | zero =>
    go_wp2_with fail
    have ⟨k0, k1, _⟩ := (HT.out.2.2.2.2.2.2.2.1.set (.string sj) (.slice oj Nj cj)).cells
    refine bodyPost_ret (v := .tuple #[.agg #[.string sj, .slice oj Nj cj], .int .i64 0]) (by simp [results, Tryz.results6, go_sem, k0, k1]) rfl ?_
    have hr := HQ.out
    simp [layL] at hr
    subst hr
    obtain ⟨h1, h2, h3, h4, h5, h6, h7, h8, h9⟩ := HT.out
    have hne : ∀ a, oj = some a → a.block ≠ w.heap.size + 1 := fun a ha => by have := h5 a ha; omega
    exact ⟨oj, cj, by simp only [HNj.out], h2, h3, (h4.setW hne).setW hne, fun a h => (by have := h5 a h; omega), (h9.setCell (by simp) _).setCell (by simp) _⟩
   | succ i =>
    obtain ⟨x, hx⟩ : ∃ x, way[i]? = some x := ⟨_, List.getElem?_eq_getElem (by rw [HLn.out]; omega)⟩
    have hm := List.mem_of_getElem? hx
    obtain ⟨c0, c1, c2, c3, c4', c5, c6⟩ := HT.out.2.2.2.2.2.1.2 i x hx
    have hstep : layL (x :: (way.take i).reverse) sj Dj = R := by have := HQ.out; rw [List.take_add_one, hx, Option.toList_some, List.reverse_append, List.reverse_singleton, List.singleton_append] at this; exact this
    obtain ⟨Q, hQ⟩ : ∃ Q, layM x sj Dj = Q := ⟨_, rfl⟩
    have hszQ := layM_size x sj Dj hsz
    have HLx := hideS (fun (X : World) (hX : Below wq.heap.size wq X) => HLy.out x hm sj Dj oj cj hsz HT.out.2.1 HT.out.2.2.1 X (bupS HT.out.2.2.2.2.2.2.2.2 hX) (HT.out.2.2.2.1.keep hX))
    rw [hQ] at hszQ
    unfold layL at hstep
    rw [hQ] at hstep
    obtain ⟨er, sr, Dr⟩ := Q
    simp only [hQ, HNj.out, cellsS] at HLx
    unfold LayAns at HLx
    simp only at HLx hszQ hstep
    obtain ⟨Nr, hNr⟩ : ∃ n, Dr.length = n := ⟨_, rfl⟩
    simp only [hNr] at HLx
    have HNr := hideS hNr
    have HSt := hideS (And.intro hstep hszQ)
    clear hQ hstep hszQ hNr hx hm hsz
    have e1 : ((i + 1 : Nat) : Int) - 1 = (i : Int) := by omega
    rw [e1]
    have d1 : (0 : Int) ≤ (i : Int) := by omega
    have d2 : (i : Int) < (L : Int) := by omega
    have d3 : i < L := by omega
    have wi : IntKind.i64.wrap ((i : Int) - 1) = (i : Int) - 1 := IntWalk.i64_in _ ⟨by omega, by omega⟩
    clear e1
    go_upto_region 13 with fail
    go_cut [10] (fun ev wx => ev = .int .i64 er ∧ ∃ o7 c7, TxL w wx way g4 sr Dr o7 c7)
    case first =>
     go_region_with (go_at_call 17; refine (HLx.out _ (by first | exact Below.refl _ _ | exact (Below.refl _ _).drew)).mono ?_; rintro e w7 ⟨o7, c7, rfl, q1, q2, q3, q4, q5⟩; have q5' : Hid (Below wq.heap.size wq w7) := hideS (by first | exact q5 | exact Below.trans (Below.refl wq.heap.size wq).drew q5); have H7 := hideS (And.intro q1 (And.intro q2 (And.intro q3 q4))); clear q1 q2 q3 q4 q5; have ⟨k0, k1, k2, k3⟩ := (HT.out.1.keep q5'.out).cells)
     all_goals first | go_wp2_with fail | skip
     all_goals go_meet
     all_goals exact ⟨rfl, o7, c7, TxL.store HNr.out (HT.out.1.keep q5'.out) (by rw [HNr.out]; exact H7.out.1) H7.out.2.1 H7.out.2.2.1 (fun a ha => by
      rcases H7.out.2.2.2 a ha with h | h
      ·exact HT.out.2.2.2.2.1 a (by rw [← h]; exact ha)
      ·have h9 : wq.heap.size ≤ a.block := by simpa using h
       omega) (HT.out.2.2.2.2.2.1.keep q5'.out HT.out.2.2.2.2.2.1.1) HT.out.2.2.2.2.2.2.1 (HT.out.2.2.2.2.2.2.2.1.keep q5'.out) (bupS HT.out.2.2.2.2.2.2.2.2 q5'.out)⟩
    case rest =>
     obtain ⟨rfl, o7, c7, hL7⟩ := hcut
     generalize wc = wz at *
     have H7 := hideS hL7
     clear hL7 HLx c0 c1 c2 c3 c4' c5 c6 t0 t1 t2 t3 r0 r1 r2 r3
     by_cases g : er = 0
     ·subst g
      go_wp2_with fail
      go_roundw
      case rel => exact ⟨i, sr, Dr, o7, c7, rfl, by omega, HSt.out.2, by have := HSt.out.1; rw [if_pos rfl] at this; exact this, H7.out⟩
      case measure => simp [intOf] <;> omega
     ·have g' : (er != 0) = true := by simpa using g
      have ⟨r0, r1, r2, r3⟩ := H7.out.2.2.2.2.2.2.2.1.cells
      have hzz : w.heap.size + 1 < wz.heap.size := H7.out.2.2.2.2.2.2.2.1.lt
      go_wp2_with fail
      have ⟨k0, k1, _⟩ := (H7.out.2.2.2.2.2.2.2.1.set (.string ⟨#[]⟩) (.slice none 0 0)).cells
      refine bodyPost_ret (v := .tuple #[.agg #[.string ⟨#[]⟩, .slice none 0 0], .int .i64 er]) (by simp [results, Tryz.results6, go_sem, k0, k1]) rfl ?_
      have hr := HSt.out.1
      rw [if_neg g] at hr
      subst hr
      exact ⟨none, 0, rfl, ⟨Nat.le_refl _, Nat.zero_le _⟩, fun _ => ⟨rfl, rfl⟩, SpO.nil _ _, fun a h => (nomatch h), (H7.out.2.2.2.2.2.2.2.2.setCell (by simp) _).setCell (by simp) _⟩
end Go.Proofs.YtlkgnheccoodpaaGreatDoor
