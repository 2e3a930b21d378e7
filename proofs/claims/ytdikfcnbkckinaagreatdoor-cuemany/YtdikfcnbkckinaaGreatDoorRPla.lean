/- Contracts of the document's own units, size, unit, Count, Pairs and Place (surtitleref1). -/
import Derived.Test.YtdikfcnbkckinaaGreatDoorRSig
namespace Go.Proofs.YtdikfcnbkckinaaGreatDoor
open Go.RowKit

/-- How many of a unit a sign has. -/
def sizeU (u : Int) (x : Sg) : Int := if u = 1 then x.len else if u = 3 then pairsI x.rune else 1
theorem step_get (p : Spot) (x : Sg) (u : Int) (hu : u = 1 ∨ u = 2 ∨ u = 3) : (p.step x).get u = p.get u + sizeU u x := by
  rcases hu with rfl | rfl | rfl <;> rfl
theorem sizeU_bd (u : Int) (x : Sg) : 0 ≤ sizeU u x ∧ sizeU u x ≤ 4 := by
  have := x.small
  have := pairsI_bd x.rune
  unfold sizeU
  repeat' split
  all_goals omega

theorem flatR_get : ∀ (l : List Sg) (n : Nat) (h : n < l.length), (flatR l)[n * 4]? = some (.int .i64 l[n].loc) ∧ (flatR l)[n * 4 + 1]? = some (.int .i64 l[n].len) ∧ (flatR l)[n * 4 + 2]? = some (.int .i64 l[n].rune) ∧ (flatR l)[n * 4 + 3]? = some (.bool l[n].bad)
  | [], _, h => by simp at h
  | x :: r, 0, _ => by simp [flatR]
  | x :: r, n + 1, h => by
    have := flatR_get r n (by simpa using h)
    have e : flatR (x :: r) = .int .i64 x.loc :: .int .i64 x.len :: .int .i64 x.rune :: .bool x.bad :: flatR r := by simp [flatR]
    rw [e, show (n + 1) * 4 = n * 4 + 1 + 1 + 1 + 1 by omega]
    simpa using this
/-- The four cells of a sign of a list. -/
def RAt (W : World) (g n : Nat) (x : Sg) : Prop := W.cell? ⟨g, n * 4, none⟩ = some (.int .i64 x.loc) ∧ W.cell? ⟨g, n * 4 + 1, none⟩ = some (.int .i64 x.len) ∧ W.cell? ⟨g, n * 4 + 2, none⟩ = some (.int .i64 x.rune) ∧ W.cell? ⟨g, n * 4 + 3, none⟩ = some (.bool x.bad)
theorem RAt.below {W W' : World} {g n m : Nat} {x : Sg} (h : RAt W g n x) (hb : Below m W W') (hg : g < m) : RAt W' g n x :=
  ⟨(hb.cell (p := ⟨g, n * 4, none⟩) hg).trans h.1, (hb.cell (p := ⟨g, n * 4 + 1, none⟩) hg).trans h.2.1, (hb.cell (p := ⟨g, n * 4 + 2, none⟩) hg).trans h.2.2.1, (hb.cell (p := ⟨g, n * 4 + 3, none⟩) hg).trans h.2.2.2⟩
theorem rows_at {W : World} {base e : Nat} {v : Value} {l : List Sg} (h : W.ownsRow base e 4 v l.length (flatR l)) :
    ∃ oa cap, v = .slice oa l.length cap ∧ ∀ n (hn : n < l.length), ∃ g, oa = some ⟨g, 0, none⟩ ∧ g < W.heap.size ∧ base ≤ g ∧ RAt W g n l[n] := by
  obtain ⟨h1, ⟨rfl, h0⟩ | ⟨g, cap, cur, rfl, hg, hh, hn, hcap, hsz, htake⟩⟩ := h
  · exact ⟨none, 0, by rw [h0], fun n hn => by omega⟩
  · refine ⟨some ⟨g, 0, none⟩, cap, rfl, fun n hn => ⟨g, rfl, (Array.getElem?_eq_some_iff.1 hh).1, hg, ?_⟩⟩
    obtain ⟨f0, f1, f2, f3⟩ := flatR_get l n hn
    rw [← htake, List.getElem?_take, if_pos (by omega), Array.getElem?_toList] at f0 f1 f2 f3
    exact ⟨by simpa [World.cell?, hh] using f0, by simpa [World.cell?, hh] using f1, by simpa [World.cell?, hh] using f2, by simpa [World.cell?, hh] using f3⟩

/-- The places from the k-th sign on. -/
def restS (s : ByteArray) (k : Nat) : List Spot := spotsF (spotAt s k) ((signs s).drop k)
theorem restS_zero (s : ByteArray) : restS s 0 = spotsL s := by rw [spots_eq]; rfl
theorem spotAt_succ (s : ByteArray) (k : Nat) (hk : k < (signs s).length) : spotAt s (k + 1) = (spotAt s k).step (signs s)[k] := by
  unfold spotAt
  rw [List.take_succ_eq_append_getElem hk, stepsF_snoc]
theorem restS_cons (s : ByteArray) (k : Nat) (hk : k < (signs s).length) : restS s k = spotAt s k :: restS s (k + 1) := by
  unfold restS
  rw [List.drop_eq_getElem_cons hk, spotsF, spotAt_succ s k hk]
theorem restS_head (s : ByteArray) (k : Nat) : ∃ r, restS s k = spotAt s k :: r := by
  unfold restS
  cases (signs s).drop k with
  | nil => exact ⟨[], rfl⟩
  | cons x r => exact ⟨_, rfl⟩
theorem restS_end (s : ByteArray) : restS s (signs s).length = [spotAt s (signs s).length] := by
  unfold restS
  rw [List.drop_length]
  rfl
theorem spotAt_bd (s : ByteArray) (k : Nat) (u : Int) : 0 ≤ (spotAt s k).get u ∧ (spotAt s k).get u ≤ 4 * s.size := by
  refine ⟨first_least s u (spotAt_mem s k), ?_⟩
  have h1 := last_most s u (spotAt_mem s k)
  have h2 := trail_bd (signs s)
  have h3 : (signs s).length ≤ s.size := sgns_length s _ _
  rw [trail_end] at h2
  have h4 : (lastS s).get u ≤ 4 * s.size := by
    have h5 : lastS s = stepsF ⟨0, 0, 0⟩ (signs s) := rfl
    rw [← h5] at h2
    unfold Spot.get
    repeat' split
    all_goals omega
  omega

end Go.Proofs.YtdikfcnbkckinaaGreatDoor
