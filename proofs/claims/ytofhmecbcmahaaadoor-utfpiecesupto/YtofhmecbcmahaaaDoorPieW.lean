/- Contracts of utf.NewPieces, Feed, End and Held. -/
import Derived.Test.YtofhmecbcmahaaaDoorMltM
import Derived.Test.YtofhmecbcmahaaaDoorCloneW
import Derived.Test.YtofhmecbcmahaaaDoorREnc
namespace Go.Proofs.YtofhmecbcmahaaaDoor
open Go.RowKit

set_option maxHeartbeats 400000 in
theorem newp_any (w : World) : Calls Tryd.prog 42 #[] w fun e w' => e = .returned (.pointer (some ⟨w.heap.size, 0, none⟩)) ∧ w' = w.alloc (.cells #[.string ⟨#[]⟩] 97) := by
  go_enter Tryd.func42, Tryd.ntmps42
  go_wp2
  go_ret
  exact ⟨rfl, rfl⟩
/-- What a Pieces holds. -/
def Holds (W : World) (B : Nat) (h : ByteArray) : Prop := W.heap[B]? = some (.cells #[.string h] 97 (0, 0))
theorem Holds.cell {W : World} {B : Nat} {h : ByteArray} (k : Holds W B h) : W.cell? ⟨B, 0, none⟩ = some (.string h) := by simp [World.cell?, show W.heap[B]? = _ from k]
theorem Holds.frozen {W : World} {B : Nat} {h : ByteArray} (k : Holds W B h) : W.frozen? ⟨B, 0, none⟩ = false := by simp [World.frozen?, show W.heap[B]? = _ from k]
theorem Holds.lt {W : World} {B : Nat} {h : ByteArray} (k : Holds W B h) : B < W.heap.size := (Array.getElem?_eq_some_iff.1 k).1
theorem Holds.below {W W' : World} {B n : Nat} {h : ByteArray} (k : Holds W B h) (hb : Below n W W') (hn : B < n) : Holds W' B h := (hb.block B hn).trans k
theorem Holds.set {W : World} {B : Nat} {h : ByteArray} (k : Holds W B h) (h' : ByteArray) : Holds (W.setCell ⟨B, 0, none⟩ (.string h')) B h' := heap_setCell_same W B 0 _ _ _ k

set_option maxHeartbeats 400000 in
theorem held_any (w : World) (B : Nat) (h : ByteArray) (hh : Holds w B h) : Calls Tryd.prog 45 #[.pointer (some ⟨B, 0, none⟩)] w fun e w' => e = .returned (.int .i64 h.size) ∧ w' = w := by
  have c := hh.cell
  go_enter Tryd.func45, Tryd.ntmps45
  go_wp2
  go_ret
  exact ⟨rfl, rfl⟩
set_option maxHeartbeats 400000 in
theorem end_any (w : World) (B : Nat) (h : ByteArray) (hh : Holds w B h) : Calls Tryd.prog 46 #[.pointer (some ⟨B, 0, none⟩)] w fun e w' => e = .returned (.string h) ∧ w' = w.setCell ⟨B, 0, none⟩ (.string ⟨#[]⟩) := by
  have c := hh.cell
  have f := hh.frozen
  go_enter Tryd.func46, Tryd.ntmps46
  go_wp2
  go_ret
  exact ⟨rfl, rfl⟩

set_option maxRecDepth 100000 in
set_option maxHeartbeats 1000000 in
theorem feed_any (w : World) (hw : 2 ≤ w.heap.size) (hT : Lib.Utf8Tabs 0 1 w) (B : Nat) (h : ByteArray) (hh : Holds w B h) (oa : Option Addr) (n cap : Nat) (b : ByteArray) (hs : h.size + b.size ≤ 140737488355328)
    (hcv : ∀ W : World, W.heap = w.heap → (convert 55 9 (.slice oa n cap)).run Tryd.prog W = .ok (.string b) W) :
    Calls Tryd.prog 43 #[.pointer (some ⟨B, 0, none⟩), .slice oa n cap] w fun e w' => e = .returned (.string ((h ++ b).extract 0 ((h ++ b).size - (openE (h ++ b)).size))) ∧
      ∃ w2, Below w.heap.size w w2 ∧ w' = w2.setCell ⟨B, 0, none⟩ (.string ((h ++ b).extract ((h ++ b).size - (openE (h ++ b)).size) (h ++ b).size)) := by
  have c := hh.cell
  have hsz : (h ++ b).size = h.size + b.size := ByteArray.size_append
  have t1 : ¬ 9223372036854775807 < h.size + b.size := by omega
  have hoe := openE_size (h ++ b)
  have hoe2 : (openE (h ++ b)).size ≤ (h ++ b).size := Nat.le_trans (openN_size _ _) (by omega)
  have hBd : Below w.heap.size w w.drew := (Below.refl _ w).drew
  have HO := hideO (openEnd_any (h ++ b) w.drew (by omega) hw (tabs_below hw hT hBd))
  obtain ⟨t, ht⟩ : ∃ t, h ++ b = t := ⟨_, rfl⟩
  have HT' := hideO ht
  rw [ht] at hsz hoe hoe2 HO
  obtain ⟨o, ho⟩ : ∃ o, openE t = o := ⟨_, rfl⟩
  have HO' := hideO ho
  rw [ho] at hoe hoe2 HO
  obtain ⟨q, hq⟩ : ∃ q, t.size - o.size = q := ⟨_, rfl⟩
  have HQ := hideO hq
  have hqi : (t.size : Int) - (o.size : Int) = (q : Int) := by omega
  have hq1 : q ≤ t.size := by omega
  have HCl := hideO (fun W => clone_any (t.extract q t.size) W (by rw [ByteArray.size_extract]; omega))
  have hBz := hh.lt
  have hcv0 := hcv w rfl
  have hcv1 := hcv w.drew rfl
  have hts : t.size ≤ 140737488355328 := by omega
  clear ho hq hcv hsz
  go_enter Tryd.func43, Tryd.ntmps43
  go_wp2_with fail
  go_region
  clear hcv0 hcv1 ht
  go_wp2_with fail
  refine HO.out.mono ?_
  rintro r w1 ⟨rfl, b1⟩
  have s1 := b1.size
  have b01 : Below w.heap.size w w1 := hBd.trans b1
  go_wp2_with fail
  refine (HCl.out _).mono ?_
  rintro r w2 ⟨rfl, b2⟩
  have s2 := b2.size
  have b02 := b01.trans (b2.mono b01.size)
  have h2 := hh.below b02 hBz
  have c2 := h2.cell
  have f2 := h2.frozen
  clear c
  go_wp2
  go_ret
  exact ⟨by rw [HT'.out, HO'.out, HQ.out]; rfl, w2, b02, by rw [HT'.out, HO'.out, HQ.out]⟩
end Go.Proofs.YtofhmecbcmahaaaDoor
