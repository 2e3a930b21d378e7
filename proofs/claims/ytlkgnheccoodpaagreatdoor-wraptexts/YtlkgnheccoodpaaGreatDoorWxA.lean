import Derived.Test.YtlkgnheccoodpaaGreatDoorSpJ
import Derived.Test.YtlkgnheccoodpaaGreatDoorGL
import Derived.Test.YtlkgnheccoodpaaGreatDoorGB
import Derived.BigQuiet
namespace Go.Proofs.YtlkgnheccoodpaaGreatDoor
open Go.RowKit Go.Shelf
attribute [local go_sem] Oper.semAt_some
def nlB : ByteArray := ⟨#[10]⟩
def layI (k f n : Int) (s : ByteArray) (D : List Sp) : Int × ByteArray × List Sp :=
 if k = 1 then (if f = n - 1 then (0, s, D) else splM s D f (n - 1) ByteArray.empty [])
 else if k = 2 ∨ k = 3 then splM s D f n nlB []
 else if f = n then (0, s, D) else splM s D f n ByteArray.empty []
def layM (x : St) (s : ByteArray) (D : List Sp) : Int × ByteArray × List Sp := layI x.kind x.fin.sg x.nxt.sg s D
def LayAns (w : World) (oi : Option Addr) (R : Int × ByteArray × List Sp) (e : Ending) (w' : World) : Prop :=
 ∃ o c, e = .returned (.tuple #[.agg #[.string R.2.1, .slice o R.2.2.length c], .int .i64 R.1]) ∧ (R.2.2.length ≤ c ∧ c ≤ maxLen) ∧ (o = none → R.2.2 = [] ∧ c = 0) ∧ SpO w' o R.2.2 ∧ (∀ a, o = some a → o = oi ∨ w.heap.size ≤ a.block) ∧ Below w.heap.size w w'
def TxAns (w : World) (R : Int × ByteArray × List Sp) (e : Ending) (w' : World) : Prop :=
 ∃ o c, e = .returned (.tuple #[.agg #[.string R.2.1, .slice o R.2.2.length c], .int .i64 R.1]) ∧ (R.2.2.length ≤ c ∧ c ≤ maxLen) ∧ (o = none → R.2.2 = [] ∧ c = 0) ∧ SpO w' o R.2.2 ∧ (∀ a, o = some a → w.heap.size ≤ a.block) ∧ Below w.heap.size w w'
theorem own_noneW {W : World} {base n c : Nat} {e : TypeId} {size : Nat} {o : Option Addr} {xs : List Value} (h : W.ownsRow base e size (.slice o n c) n xs) (ho : o = none) : n = 0 ∧ c = 0 := by
 subst ho
 rcases h.2 with ⟨q, _⟩ | ⟨g, cap, cur, q, _⟩
 ·simp at q
  omega
 ·simp at q
theorem TxAns.of {w : World} {R : Int × ByteArray × List Sp} {e : Ending} {w' : World} (h : SplAns w R e w') : TxAns w R e w' := by
 obtain ⟨v, rfl, own, b⟩ := h
 obtain ⟨o, c, rfl, hc, hS, hf⟩ := own_readB own rfl
 exact ⟨o, c, rfl, hc, fun h => ⟨List.length_eq_zero_iff.1 (own_noneW own h).1, (own_noneW own h).2⟩, hS, hf, b⟩
theorem SpO.setW {W : World} {o : Option Addr} {D : List Sp} {P i : Nat} {v : Value} (h : SpO W o D) (hne : ∀ a, o = some a → a.block ≠ P) : SpO (W.setCell ⟨P, i, none⟩ v) o D := fun j r hr => by
 obtain ⟨a, ha, hlt, c0, c1, c2, c3⟩ := h j r hr
 have hn := hne a ha
 have hb : (a.add (j * 4)).block = a.block := addrS_block a _
 have k : ∀ q : Addr, q.block = a.block → (W.setCell ⟨P, i, none⟩ v).cell? q = W.cell? q := fun q hq => World.cell?_of_block (Below.heap_setCell _ _ _ _ (by rw [hq]; exact hn))
 exact ⟨a, ha, by simpa using hlt, (k _ hb).trans c0, (k ⟨_, _, none⟩ hb).trans c1, (k ⟨_, _, none⟩ hb).trans c2, (k ⟨_, _, none⟩ hb).trans c3⟩
def SevC (w : World) (B : Nat) (k fl fs fc nl ns nc : Int) : Prop := w.heap[B]? = some (.cells #[.int .i64 k, .int .i64 fl, .int .i64 fs, .int .i64 fc, .int .i64 nl, .int .i64 ns, .int .i64 nc] 52)
theorem SevC.cells {w : World} {B : Nat} {k fl fs fc nl ns nc : Int} (h : SevC w B k fl fs fc nl ns nc) : w.cell? ⟨B, 0, none⟩ = some (.int .i64 k) ∧ w.cell? ⟨B, 2, none⟩ = some (.int .i64 fs) ∧ w.cell? ⟨B, 5, none⟩ = some (.int .i64 ns) := by
 simp [World.cell?, show w.heap[B]? = _ from h]
theorem SevC.keep {w w' : World} {B : Nat} {k fl fs fc nl ns nc : Int} (h : SevC w B k fl fs fc nl ns nc) (b : Below w.heap.size w w') : SevC w' B k fl fs fc nl ns nc := (b.block B (Array.getElem?_eq_some_iff.1 h).1).trans h
set_option maxRecDepth 100000 in
set_option maxHeartbeats 4000000 in
theorem lay_walk (k fl fs fc nl ns nc : Int) (s : ByteArray) (D : List Sp) (o : Option Addr) (N cap : Nat) (hN : D.length = N) (hk : k = 0 ∨ k = 1 ∨ k = 2 ∨ k = 3) (hb : 0 ≤ ns ∧ ns ≤ 100000) (hc : N ≤ cap ∧ cap ≤ maxLen) (hn : o = none → D = [] ∧ cap = 0) (w : World) (hR : SpO w o D)
  (HS : ∀ (a b : Int) (u : ByteArray), u = ByteArray.empty ∨ u = nlB → ∀ W, Below w.heap.size w W → Calls Tryz.prog 39 #[.agg #[.string s, .slice o N cap], .int .i64 a, .int .i64 b, .agg #[.string u, .slice none 0 0]] W (SplAns W (splM s D a b u []))) :
  Calls Tryz.prog 17 #[.agg #[.int .i64 k, .int .i64 fl, .int .i64 fs, .int .i64 fc, .int .i64 nl, .int .i64 ns, .int .i64 nc], .agg #[.string s, .slice o N cap]] w (LayAns w o (layI k fs ns s D)) := by
 obtain ⟨R, hRR⟩ : ∃ R, layI k fs ns s D = R := ⟨_, rfl⟩
 rw [hRR]
 have HR := hideS hRR
 have HD := hideS (And.intro hN (And.intro hc (And.intro hn hR)))
 have HH := hideS HS
 have wr : IntKind.i64.wrap (ns - 1) = ns - 1 := IntWalk.i64_in _ ⟨by omega, by omega⟩
 clear hRR hN hc hn hR HS hb
 go_enter Tryz.func17, Tryz.ntmps17
 go_upto_region 1 with fail
 have hex : Below w.heap.size w (((w.alloc (.cells #[.int .i64 k, .int .i64 fl, .int .i64 fs, .int .i64 fc, .int .i64 nl, .int .i64 ns, .int .i64 nc] 52)).alloc (.cells #[.string s, .slice o N cap] 24)).alloc (.cells #[.string ⟨#[]⟩, .slice none 0 0] 24)) ∧ SevC (((w.alloc (.cells #[.int .i64 k, .int .i64 fl, .int .i64 fs, .int .i64 fc, .int .i64 nl, .int .i64 ns, .int .i64 nc] 52)).alloc (.cells #[.string s, .slice o N cap] 24)).alloc (.cells #[.string ⟨#[]⟩, .slice none 0 0] 24)) w.heap.size k fl fs fc nl ns nc ∧ Tx (((w.alloc (.cells #[.int .i64 k, .int .i64 fl, .int .i64 fs, .int .i64 fc, .int .i64 nl, .int .i64 ns, .int .i64 nc] 52)).alloc (.cells #[.string s, .slice o N cap] 24)).alloc (.cells #[.string ⟨#[]⟩, .slice none 0 0] 24)) (w.heap.size + 1) (.string s) (.slice o N cap) ∧ Tx (((w.alloc (.cells #[.int .i64 k, .int .i64 fl, .int .i64 fs, .int .i64 fc, .int .i64 nl, .int .i64 ns, .int .i64 nc] 52)).alloc (.cells #[.string s, .slice o N cap] 24)).alloc (.cells #[.string ⟨#[]⟩, .slice none 0 0] 24)) (w.heap.size + 1 + 1) (.string ⟨#[]⟩) (.slice none 0 0) := by
  refine ⟨bupS (bupS (bel1S _ _) (bel1S _ _)) (bel1S _ _), ((show SevC _ w.heap.size k fl fs fc nl ns nc from World.alloc_heap_new w _).keep (bel1S _ _)).keep (bel1S _ _), Tx.keep ?_ (bel1S _ _), ?_⟩
  ·have h9 := Tx.new (w.alloc (.cells #[.int .i64 k, .int .i64 fl, .int .i64 fs, .int .i64 fc, .int .i64 nl, .int .i64 ns, .int .i64 nc] 52)) (.string s) (.slice o N cap)
   rw [World.size_alloc] at h9
   exact h9
  ·have h9 := Tx.new ((w.alloc (.cells #[.int .i64 k, .int .i64 fl, .int .i64 fs, .int .i64 fc, .int .i64 nl, .int .i64 ns, .int .i64 nc] 52)).alloc (.cells #[.string s, .slice o N cap] 24)) (.string ⟨#[]⟩) (.slice none 0 0)
   rw [World.size_alloc, World.size_alloc] at h9
   exact h9
 obtain ⟨V, hV⟩ : ∃ V, (((w.alloc (.cells #[.int .i64 k, .int .i64 fl, .int .i64 fs, .int .i64 fc, .int .i64 nl, .int .i64 ns, .int .i64 nc] 52)).alloc (.cells #[.string s, .slice o N cap] 24)).alloc (.cells #[.string ⟨#[]⟩, .slice none 0 0] 24)) = V := ⟨_, rfl⟩
 rw [hV] at hex
 try rw [hV]
 clear hV
 have HV := hideS hex
 clear hex
 obtain ⟨c0, c1, c2⟩ := HV.out.2.1.cells
 go_quiet (fail)
 have HV := hideS (show Below w.heap.size w (V.drewN nq) ∧ SevC (V.drewN nq) w.heap.size k fl fs fc nl ns nc ∧ Tx (V.drewN nq) (w.heap.size + 1) (.string s) (.slice o N cap) ∧ Tx (V.drewN nq) (w.heap.size + 1 + 1) (.string ⟨#[]⟩) (.slice none 0 0) from ⟨below_dnS HV.out.1 nq, HV.out.2.1.keep (below_dnS (Below.refl _ _) nq), HV.out.2.2.1.keep (below_dnS (Below.refl _ _) nq), HV.out.2.2.2.keep (below_dnS (Below.refl _ _) nq)⟩)
 clear c0 c1 c2
 generalize V.drewN nq = V at *
 obtain ⟨c0, c1, c2⟩ := HV.out.2.1.cells
 obtain ⟨d0, d1, d2, d3⟩ := HV.out.2.2.1.cells
 obtain ⟨e0, e1, e2, e3⟩ := HV.out.2.2.2.cells
 rcases hk with rfl | rfl | rfl | rfl
 ·by_cases g : fs = ns
  ·subst g
   have hz := HV.out.2.2.2.lt
   go_wp2_with fail
   have ⟨t0, t1, _⟩ := (HV.out.2.2.2.set (.string s) (.slice o N cap)).cells
   refine bodyPost_ret (v := .tuple #[.agg #[.string s, .slice o N cap], .int .i64 0]) (by simp [results, Tryz.results17, go_sem, t0, t1]) rfl ?_
   have hr := HR.out
   unfold layI at hr
   simp at hr
   subst hr
   obtain ⟨h1, h2, h3, h4⟩ := HD.out
   exact ⟨o, cap, by simp only [h1], by simp only [h1]; exact h2, h3, h4.keep ((HV.out.1.setCell (by simp; omega) _).setCell (by simp; omega) _), fun _ _ => .inl rfl, (HV.out.1.setCell (by simp; omega) _).setCell (by simp; omega) _⟩
  ·have g2 : (fs == ns) = false := by simpa using g
   have hr := HR.out
   unfold layI at hr
   simp [g] at hr
   have H9 := hideS (HH.out fs ns ByteArray.empty (by first | exact .inl rfl | exact .inr rfl) V HV.out.1)
   rw [hr] at H9
   clear hr HR
   go_wp2_with fail
   refine H9.out.mono ?_
   rintro e w1 h9
   obtain ⟨v1, rfl, own1, q4⟩ := h9
   obtain ⟨o1, n1, rfl, q1, q3', q5⟩ := own_readB own1 rfl
   have q2 : o1 = none → R.2.2 = [] ∧ n1 = 0 := fun h => ⟨List.length_eq_zero_iff.1 (own_noneW own1 h).1, (own_noneW own1 h).2⟩
   have hVz := HV.out.2.2.2.lt
   have q3 : SpO w1 o1 R.2.2 ∧ ∀ a, o1 = some a → a.block ≠ w.heap.size + 1 + 1 ∧ w.heap.size ≤ a.block := ⟨q3', fun a ha => by have := q5 a ha; omega⟩
   clear own1 q3' q5 hVz
   obtain ⟨er, sr, Dr⟩ := R
   simp only at q1 q2 q3 q4 ⊢
   have hT := hideS (And.intro (HV.out.2.2.2.keep q4) (And.intro q1 (And.intro q2 (And.intro q3 (bupS HV.out.1 q4)))))
   have hz := hT.out.1.lt
   clear q1 q2 q3 q4 c0 c1 c2 d0 d1 d2 d3 e0 e1 e2 e3 HH H9
   obtain ⟨N1, hN1⟩ : ∃ N, Dr.length = N := ⟨_, rfl⟩
   rw [hN1] at hT ⊢
   have HL := hideS hN1
   clear hN1
   obtain ⟨e0, e1, e2, e3⟩ := hT.out.1.cells
   go_wp2_with fail
   have ⟨t0, t1, _⟩ := (hT.out.1.set (.string sr) (.slice o1 N1 n1)).cells
   refine bodyPost_ret (v := .tuple #[.agg #[.string sr, .slice o1 N1 n1], .int .i64 er]) (by simp [results, Tryz.results17, go_sem, t0, t1]) rfl ?_
   obtain ⟨_, q1, q2, q3, q4⟩ := hT.out
   exact ⟨o1, n1, by simp only [HL.out], by simp only [HL.out]; exact q1, q2, (q3.1.setW fun a ha => (q3.2 a ha).1).setW fun a ha => (q3.2 a ha).1, fun a ha => .inr (q3.2 a ha).2, (q4.setCell (by simp; omega) _).setCell (by simp; omega) _⟩
 ·by_cases g : fs = ns - 1
  ·subst g
   have hz := HV.out.2.2.2.lt
   go_wp2_with fail
   have ⟨t0, t1, _⟩ := (HV.out.2.2.2.set (.string s) (.slice o N cap)).cells
   refine bodyPost_ret (v := .tuple #[.agg #[.string s, .slice o N cap], .int .i64 0]) (by simp [results, Tryz.results17, go_sem, t0, t1]) rfl ?_
   have hr := HR.out
   unfold layI at hr
   simp at hr
   subst hr
   obtain ⟨h1, h2, h3, h4⟩ := HD.out
   exact ⟨o, cap, by simp only [h1], by simp only [h1]; exact h2, h3, h4.keep ((HV.out.1.setCell (by simp; omega) _).setCell (by simp; omega) _), fun _ _ => .inl rfl, (HV.out.1.setCell (by simp; omega) _).setCell (by simp; omega) _⟩
  ·have g2 : (fs == ns - 1) = false := by simpa using g
   have hr := HR.out
   unfold layI at hr
   simp [g] at hr
   have H9 := hideS (HH.out fs (ns - 1) ByteArray.empty (by first | exact .inl rfl | exact .inr rfl) V HV.out.1)
   rw [hr] at H9
   clear hr HR
   go_wp2_with fail
   refine H9.out.mono ?_
   rintro e w1 h9
   obtain ⟨v1, rfl, own1, q4⟩ := h9
   obtain ⟨o1, n1, rfl, q1, q3', q5⟩ := own_readB own1 rfl
   have q2 : o1 = none → R.2.2 = [] ∧ n1 = 0 := fun h => ⟨List.length_eq_zero_iff.1 (own_noneW own1 h).1, (own_noneW own1 h).2⟩
   have hVz := HV.out.2.2.2.lt
   have q3 : SpO w1 o1 R.2.2 ∧ ∀ a, o1 = some a → a.block ≠ w.heap.size + 1 + 1 ∧ w.heap.size ≤ a.block := ⟨q3', fun a ha => by have := q5 a ha; omega⟩
   clear own1 q3' q5 hVz
   obtain ⟨er, sr, Dr⟩ := R
   simp only at q1 q2 q3 q4 ⊢
   have hT := hideS (And.intro (HV.out.2.2.2.keep q4) (And.intro q1 (And.intro q2 (And.intro q3 (bupS HV.out.1 q4)))))
   have hz := hT.out.1.lt
   clear q1 q2 q3 q4 c0 c1 c2 d0 d1 d2 d3 e0 e1 e2 e3 HH H9
   obtain ⟨N1, hN1⟩ : ∃ N, Dr.length = N := ⟨_, rfl⟩
   rw [hN1] at hT ⊢
   have HL := hideS hN1
   clear hN1
   obtain ⟨e0, e1, e2, e3⟩ := hT.out.1.cells
   go_wp2_with fail
   have ⟨t0, t1, _⟩ := (hT.out.1.set (.string sr) (.slice o1 N1 n1)).cells
   refine bodyPost_ret (v := .tuple #[.agg #[.string sr, .slice o1 N1 n1], .int .i64 er]) (by simp [results, Tryz.results17, go_sem, t0, t1]) rfl ?_
   obtain ⟨_, q1, q2, q3, q4⟩ := hT.out
   exact ⟨o1, n1, by simp only [HL.out], by simp only [HL.out]; exact q1, q2, (q3.1.setW fun a ha => (q3.2 a ha).1).setW fun a ha => (q3.2 a ha).1, fun a ha => .inr (q3.2 a ha).2, (q4.setCell (by simp; omega) _).setCell (by simp; omega) _⟩
 ·by_cases g : fs = ns
  ·subst g
   have hr := HR.out
   unfold layI at hr
   simp at hr
   have H9 := hideS (HH.out fs fs nlB (by first | exact .inl rfl | exact .inr rfl) V HV.out.1)
   rw [hr] at H9
   clear hr HR
   go_wp2_with fail
   refine H9.out.mono ?_
   rintro e w1 h9
   obtain ⟨v1, rfl, own1, q4⟩ := h9
   obtain ⟨o1, n1, rfl, q1, q3', q5⟩ := own_readB own1 rfl
   have q2 : o1 = none → R.2.2 = [] ∧ n1 = 0 := fun h => ⟨List.length_eq_zero_iff.1 (own_noneW own1 h).1, (own_noneW own1 h).2⟩
   have hVz := HV.out.2.2.2.lt
   have q3 : SpO w1 o1 R.2.2 ∧ ∀ a, o1 = some a → a.block ≠ w.heap.size + 1 + 1 ∧ w.heap.size ≤ a.block := ⟨q3', fun a ha => by have := q5 a ha; omega⟩
   clear own1 q3' q5 hVz
   obtain ⟨er, sr, Dr⟩ := R
   simp only at q1 q2 q3 q4 ⊢
   have hT := hideS (And.intro (HV.out.2.2.2.keep q4) (And.intro q1 (And.intro q2 (And.intro q3 (bupS HV.out.1 q4)))))
   have hz := hT.out.1.lt
   clear q1 q2 q3 q4 c0 c1 c2 d0 d1 d2 d3 e0 e1 e2 e3 HH H9
   obtain ⟨N1, hN1⟩ : ∃ N, Dr.length = N := ⟨_, rfl⟩
   rw [hN1] at hT ⊢
   have HL := hideS hN1
   clear hN1
   obtain ⟨e0, e1, e2, e3⟩ := hT.out.1.cells
   go_wp2_with fail
   have ⟨t0, t1, _⟩ := (hT.out.1.set (.string sr) (.slice o1 N1 n1)).cells
   refine bodyPost_ret (v := .tuple #[.agg #[.string sr, .slice o1 N1 n1], .int .i64 er]) (by simp [results, Tryz.results17, go_sem, t0, t1]) rfl ?_
   obtain ⟨_, q1, q2, q3, q4⟩ := hT.out
   exact ⟨o1, n1, by simp only [HL.out], by simp only [HL.out]; exact q1, q2, (q3.1.setW fun a ha => (q3.2 a ha).1).setW fun a ha => (q3.2 a ha).1, fun a ha => .inr (q3.2 a ha).2, (q4.setCell (by simp; omega) _).setCell (by simp; omega) _⟩
  ·have g2 : (fs == ns) = false := by simpa using g
   have hr := HR.out
   unfold layI at hr
   simp at hr
   have H9 := hideS (HH.out fs ns nlB (by first | exact .inl rfl | exact .inr rfl) V HV.out.1)
   rw [hr] at H9
   clear hr HR
   go_wp2_with fail
   refine H9.out.mono ?_
   rintro e w1 h9
   obtain ⟨v1, rfl, own1, q4⟩ := h9
   obtain ⟨o1, n1, rfl, q1, q3', q5⟩ := own_readB own1 rfl
   have q2 : o1 = none → R.2.2 = [] ∧ n1 = 0 := fun h => ⟨List.length_eq_zero_iff.1 (own_noneW own1 h).1, (own_noneW own1 h).2⟩
   have hVz := HV.out.2.2.2.lt
   have q3 : SpO w1 o1 R.2.2 ∧ ∀ a, o1 = some a → a.block ≠ w.heap.size + 1 + 1 ∧ w.heap.size ≤ a.block := ⟨q3', fun a ha => by have := q5 a ha; omega⟩
   clear own1 q3' q5 hVz
   obtain ⟨er, sr, Dr⟩ := R
   simp only at q1 q2 q3 q4 ⊢
   have hT := hideS (And.intro (HV.out.2.2.2.keep q4) (And.intro q1 (And.intro q2 (And.intro q3 (bupS HV.out.1 q4)))))
   have hz := hT.out.1.lt
   clear q1 q2 q3 q4 c0 c1 c2 d0 d1 d2 d3 e0 e1 e2 e3 HH H9
   obtain ⟨N1, hN1⟩ : ∃ N, Dr.length = N := ⟨_, rfl⟩
   rw [hN1] at hT ⊢
   have HL := hideS hN1
   clear hN1
   obtain ⟨e0, e1, e2, e3⟩ := hT.out.1.cells
   go_wp2_with fail
   have ⟨t0, t1, _⟩ := (hT.out.1.set (.string sr) (.slice o1 N1 n1)).cells
   refine bodyPost_ret (v := .tuple #[.agg #[.string sr, .slice o1 N1 n1], .int .i64 er]) (by simp [results, Tryz.results17, go_sem, t0, t1]) rfl ?_
   obtain ⟨_, q1, q2, q3, q4⟩ := hT.out
   exact ⟨o1, n1, by simp only [HL.out], by simp only [HL.out]; exact q1, q2, (q3.1.setW fun a ha => (q3.2 a ha).1).setW fun a ha => (q3.2 a ha).1, fun a ha => .inr (q3.2 a ha).2, (q4.setCell (by simp; omega) _).setCell (by simp; omega) _⟩
 ·by_cases g : fs = ns
  ·subst g
   have hr := HR.out
   unfold layI at hr
   simp at hr
   have H9 := hideS (HH.out fs fs nlB (by first | exact .inl rfl | exact .inr rfl) V HV.out.1)
   rw [hr] at H9
   clear hr HR
   go_wp2_with fail
   refine H9.out.mono ?_
   rintro e w1 h9
   obtain ⟨v1, rfl, own1, q4⟩ := h9
   obtain ⟨o1, n1, rfl, q1, q3', q5⟩ := own_readB own1 rfl
   have q2 : o1 = none → R.2.2 = [] ∧ n1 = 0 := fun h => ⟨List.length_eq_zero_iff.1 (own_noneW own1 h).1, (own_noneW own1 h).2⟩
   have hVz := HV.out.2.2.2.lt
   have q3 : SpO w1 o1 R.2.2 ∧ ∀ a, o1 = some a → a.block ≠ w.heap.size + 1 + 1 ∧ w.heap.size ≤ a.block := ⟨q3', fun a ha => by have := q5 a ha; omega⟩
   clear own1 q3' q5 hVz
   obtain ⟨er, sr, Dr⟩ := R
   simp only at q1 q2 q3 q4 ⊢
   have hT := hideS (And.intro (HV.out.2.2.2.keep q4) (And.intro q1 (And.intro q2 (And.intro q3 (bupS HV.out.1 q4)))))
   have hz := hT.out.1.lt
   clear q1 q2 q3 q4 c0 c1 c2 d0 d1 d2 d3 e0 e1 e2 e3 HH H9
   obtain ⟨N1, hN1⟩ : ∃ N, Dr.length = N := ⟨_, rfl⟩
   rw [hN1] at hT ⊢
   have HL := hideS hN1
   clear hN1
   obtain ⟨e0, e1, e2, e3⟩ := hT.out.1.cells
   go_wp2_with fail
   have ⟨t0, t1, _⟩ := (hT.out.1.set (.string sr) (.slice o1 N1 n1)).cells
   refine bodyPost_ret (v := .tuple #[.agg #[.string sr, .slice o1 N1 n1], .int .i64 er]) (by simp [results, Tryz.results17, go_sem, t0, t1]) rfl ?_
   obtain ⟨_, q1, q2, q3, q4⟩ := hT.out
   exact ⟨o1, n1, by simp only [HL.out], by simp only [HL.out]; exact q1, q2, (q3.1.setW fun a ha => (q3.2 a ha).1).setW fun a ha => (q3.2 a ha).1, fun a ha => .inr (q3.2 a ha).2, (q4.setCell (by simp; omega) _).setCell (by simp; omega) _⟩
  ·have g2 : (fs == ns) = false := by simpa using g
   have hr := HR.out
   unfold layI at hr
   simp at hr
   have H9 := hideS (HH.out fs ns nlB (by first | exact .inl rfl | exact .inr rfl) V HV.out.1)
   rw [hr] at H9
   clear hr HR
   go_wp2_with fail
   refine H9.out.mono ?_
   rintro e w1 h9
   obtain ⟨v1, rfl, own1, q4⟩ := h9
   obtain ⟨o1, n1, rfl, q1, q3', q5⟩ := own_readB own1 rfl
   have q2 : o1 = none → R.2.2 = [] ∧ n1 = 0 := fun h => ⟨List.length_eq_zero_iff.1 (own_noneW own1 h).1, (own_noneW own1 h).2⟩
   have hVz := HV.out.2.2.2.lt
   have q3 : SpO w1 o1 R.2.2 ∧ ∀ a, o1 = some a → a.block ≠ w.heap.size + 1 + 1 ∧ w.heap.size ≤ a.block := ⟨q3', fun a ha => by have := q5 a ha; omega⟩
   clear own1 q3' q5 hVz
   obtain ⟨er, sr, Dr⟩ := R
   simp only at q1 q2 q3 q4 ⊢
   have hT := hideS (And.intro (HV.out.2.2.2.keep q4) (And.intro q1 (And.intro q2 (And.intro q3 (bupS HV.out.1 q4)))))
   have hz := hT.out.1.lt
   clear q1 q2 q3 q4 c0 c1 c2 d0 d1 d2 d3 e0 e1 e2 e3 HH H9
   obtain ⟨N1, hN1⟩ : ∃ N, Dr.length = N := ⟨_, rfl⟩
   rw [hN1] at hT ⊢
   have HL := hideS hN1
   clear hN1
   obtain ⟨e0, e1, e2, e3⟩ := hT.out.1.cells
   go_wp2_with fail
   have ⟨t0, t1, _⟩ := (hT.out.1.set (.string sr) (.slice o1 N1 n1)).cells
   refine bodyPost_ret (v := .tuple #[.agg #[.string sr, .slice o1 N1 n1], .int .i64 er]) (by simp [results, Tryz.results17, go_sem, t0, t1]) rfl ?_
   obtain ⟨_, q1, q2, q3, q4⟩ := hT.out
   exact ⟨o1, n1, by simp only [HL.out], by simp only [HL.out]; exact q1, q2, (q3.1.setW fun a ha => (q3.2 a ha).1).setW fun a ha => (q3.2 a ha).1, fun a ha => .inr (q3.2 a ha).2, (q4.setCell (by simp; omega) _).setCell (by simp; omega) _⟩
end Go.Proofs.YtlkgnheccoodpaaGreatDoor
