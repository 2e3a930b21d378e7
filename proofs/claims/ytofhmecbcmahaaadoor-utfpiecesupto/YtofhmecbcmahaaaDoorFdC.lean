/- Feed of a text's bytes: what it tells, what the Pieces holds then; nothing else is turned. -/
import Derived.Test.YtofhmecbcmahaaaDoorPieW
import Derived.Test.YtofhmecbcmahaaaDoorStrW1
import Derived.Test.YtofhmecbcmahaaaDoorLawS
namespace Go.Proofs.YtofhmecbcmahaaaDoor
open Go.RowKit

theorem feed_conv (W : World) (hW : 2 ≤ W.heap.size) (hT : Lib.Utf8Tabs 0 1 W) (B : Nat) (h : ByteArray) (hH : Holds W B h) (b al tl hd : ByteArray) (hs : h.size + b.size ≤ 140737488355328) (hal : h ++ b = al)
    (htl : al.extract 0 (al.size - (openE al).size) = tl) (hhd : al.extract (al.size - (openE al).size) al.size = hd) :
    Calls Tryd.prog 43 #[.pointer (some ⟨B, 0, none⟩), .slice (some ⟨W.heap.size, 0, none⟩) b.size (grownCap W b.size 0 5)]
      (W.alloc (.cells (bytesRow b (grownCap W b.size 0 5)) 5 ((bytesRow b (grownCap W b.size 0 5)).size, (bytesRow b (grownCap W b.size 0 5)).size + 1))).drew
      fun e w' => e = .returned (.string tl) ∧ Holds w' B hd ∧ But (fun k => k = B) W w' := by
  have hby := bytes_row W b (grownCap W b.size 0 5) 5 ((bytesRow b (grownCap W b.size 0 5)).size, (bytesRow b (grownCap W b.size 0 5)).size + 1)
  have hBd := ((Below.refl W.heap.size W).alloc (Nat.le_refl _) (.cells (bytesRow b (grownCap W b.size 0 5)) 5 ((bytesRow b (grownCap W b.size 0 5)).size, (bytesRow b (grownCap W b.size 0 5)).size + 1))).drew
  generalize hW7 : (W.alloc (.cells (bytesRow b (grownCap W b.size 0 5)) 5 ((bytesRow b (grownCap W b.size 0 5)).size, (bytesRow b (grownCap W b.size 0 5)).size + 1))).drew = W7 at *
  have hby2 : BytesAt W7 W.heap.size b := by rw [← hW7]; exact hby
  generalize grownCap W b.size 0 5 = cap at *
  have sd := hBd.size
  have hHl := hH.lt
  have hH7 := hH.below hBd hHl
  have := feed_any W7 (by omega) (tabs_below hW hT hBd) B _ hH7 (some ⟨W.heap.size, 0, none⟩) b.size cap b hs (fun W' hW' => bytes_back W' W.heap.size cap b (fun j hj => by have := hby2 j hj; unfold World.cell? at this ⊢; rw [hW']; exact this))
  rw [hal, htl, hhd] at this
  refine this.mono ?_
  rintro e w' ⟨rfl, w2, bw2, rfl⟩
  have s2 := bw2.size
  refine ⟨rfl, (hH7.below bw2 (by omega)).set _, ?_⟩
  exact But.setCell (M := fun k => k = B) (But.trans (But.grown hBd) (But.grown bw2)) (p := ⟨B, 0, none⟩) rfl _

theorem feed_at (W : World) (hW : 2 ≤ W.heap.size) (hT : Lib.Utf8Tabs 0 1 W) (B : Nat) (h : ByteArray) (hH : Holds W B h) (G cap n : Nat) (b al tl hd : ByteArray) (hn : b.size = n) (hby : BytesAt W G b) (hs : h.size + b.size ≤ 140737488355328) (hal : h ++ b = al)
    (htl : al.extract 0 (al.size - (openE al).size) = tl) (hhd : al.extract (al.size - (openE al).size) al.size = hd) :
    Calls Tryd.prog 43 #[.pointer (some ⟨B, 0, none⟩), .slice (some ⟨G, 0, none⟩) n cap] W
      fun e w' => e = .returned (.string tl) ∧ Holds w' B hd ∧ But (fun k => k = B) W w' := by
  subst hn
  have hHl := hH.lt
  have := feed_any W hW hT B _ hH (some ⟨G, 0, none⟩) b.size cap b hs (fun W' hW' => bytes_back W' G cap b (fun j hj => by have := hby j hj; unfold World.cell? at this ⊢; rw [hW']; exact this))
  rw [hal, htl, hhd] at this
  refine this.mono ?_
  rintro e w' ⟨rfl, w2, bw2, rfl⟩
  exact ⟨rfl, (hH.below bw2 hHl).set _, But.setCell (M := fun k => k = B) (But.grown bw2) (p := ⟨B, 0, none⟩) rfl _⟩
theorem bytes_two (W : World) (a b : UInt8) (t : TypeId) (k : Nat × Nat) : BytesAt (W.alloc (.cells #[.int .u8 a.toNat, .int .u8 b.toNat] t k)) W.heap.size ⟨#[a, b]⟩ := by
  intro j hj
  have hj2 : j < 2 := hj
  match j, hj2 with
  | 0, _ => unfold World.cell?; rw [World.alloc_heap_new]; rfl
  | 1, _ => unfold World.cell?; rw [World.alloc_heap_new]; rfl
theorem bytes_one (W : World) (a : UInt8) (t : TypeId) (k : Nat × Nat) : BytesAt (W.alloc (.cells #[.int .u8 a.toNat] t k)) W.heap.size ⟨#[a]⟩ := by
  intro j hj
  have hj2 : j < 1 := hj
  match j, hj2 with
  | 0, _ => unfold World.cell?; rw [World.alloc_heap_new]; rfl
end Go.Proofs.YtofhmecbcmahaaaDoor
