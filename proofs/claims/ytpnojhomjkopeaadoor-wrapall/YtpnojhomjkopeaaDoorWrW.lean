/- Package wrap: Wrap. -/
import Derived.Test.YtpnojhomjkopeaaDoorWrO
namespace Go.Proofs.YtpnojhomjkopeaaDoor
open Go.RowKit Go.Shelf
attribute [local go_sem] Oper.semAt_some

/-- The stops of a text. -/
def stopsW (s : ByteArray) : List St := stopsL (partsL s)
/-- The stops of its best way. -/
def wrapW (s : ByteArray) (wd : Int) : List St := leastW wd [] (parasG 0 0 [] (stopsW s))
theorem SRowO.of_row {l : List St} {G : Nat} {V : World} (h : SRow l G V) : SRowO l G 0 V := ⟨h.1, fun i x hx => by
  have := h.2 i x hx
  simp only [Nat.zero_add]
  exact this⟩

set_option maxRecDepth 100000 in
set_option maxHeartbeats 1000000 in
theorem wrap_walk (s : ByteArray) (hs : s.size ≤ 4096) (wd : Int) (hw : 2 ≤ wd ∧ wd ≤ 200) (hS : SmN (stopsW s)) (hl : (stopsW s).length ≤ 5000) (hl1 : 1 ≤ (stopsW s).length) (hF : FitsP wd [] (parasG 0 0 [] (stopsW s))) (way : List St) (x : St) (hway : wrapW s wd = way ++ [x]) (hwl : way.length + 1 ≤ 5000) (hwS : SmN (way ++ [x])) (N : Nat) (w : World) (hT : Tabs N w) :
    Calls Tryd.prog 7 #[.string s, .int .i64 wd] w fun e w' => ∃ v, e = .returned (.tuple #[v, .int .i64 (wayB wd (way ++ [x])).1, .int .i64 0]) ∧ w'.ownsRow w.heap.size 39 2 v way.length (flatB way) ∧ Below w.heap.size w w' := by
  have HC := hideW (wcheck_any s wd)
  have hck : wcheckI s.size wd = 0 := by unfold wcheckI; rw [if_neg (by omega), if_neg (by omega)]
  rw [hck] at HC
  have HSt := hideW (fun U hU => stops_walk s (by omega) N U hU)
  have e0 : stopsL (partsL s) = stopsW s := rfl
  rw [e0] at HSt
  unfold wrapW at hway
  generalize stopsW s = L at *
  obtain ⟨n0, hn0⟩ : ∃ n, L.length = n + 1 := ⟨L.length - 1, by omega⟩
  clear e0
  go_enter Tryd.func7, Tryd.ntmps7
  go_wp2_with fail
  refine (HC.out _).mono ?_
  rintro e w1 ⟨rfl, rfl⟩
  go_wp2_with fail
  refine (HSt.out _ hT).mono ?_
  rintro e w2 ⟨v2, rfl, own2, b2⟩
  rw [hn0] at own2
  obtain ⟨g2, cap2, rfl⟩ := ownsRow_succ own2
  obtain ⟨sr2, hg2, hcn2, hcm2⟩ := SRow.of_owns own2
  have HL := least_walk L g2 cap2 wd ⟨by omega, by omega⟩ hl hS hF ⟨by omega, hcm2⟩ w2 (SRowO.of_row sr2)
  rw [hway, hn0] at HL
  have HL := hideW HL
  have B2 := hideW b2
  clear own2 sr2 b2 hS hF hway HSt
  go_wp2_with fail
  refine HL.out.mono ?_
  rintro e w3 ⟨v3, rfl, own3, b3⟩
  rw [List.length_append] at own3
  obtain ⟨g3, cap3, rfl⟩ := ownsRow_succ (show w3.ownsRow w2.heap.size 81 7 v3 (way.length + 0 + 1) _ from own3)
  obtain ⟨sr3, hg3, hcn3, hcm3⟩ := SRow.of_owns own3
  have HW := wbad_walk (way ++ [x]) g3 cap3 wd ⟨by omega, by omega⟩ (by simp; omega) hwS ⟨by simp; omega, hcm3⟩ w3 (SRowO.of_row sr3)
  rw [List.length_append] at HW
  have HW := hideW HW
  have B3 := hideW (bupW B2.out b3)
  have S3 := hideW sr3
  have hz3 := sr3.1
  clear own3 sr3 b3 HL B2
  go_wp2_with fail
  refine HW.out.mono ?_
  rintro e w4 ⟨rfl, b4⟩
  have HB := hideW (breaks_walk way x g3 cap3 (by omega) ⟨by omega, hcm3⟩ w4 (S3.out.keep b4 hz3))
  have B4 := hideW (bupW B3.out b4)
  clear b4 HW S3 B3
  go_wp2_with fail
  refine HB.out.mono ?_
  rintro e w5 ⟨v5, rfl, own5, b5⟩
  have H5 := hideW (And.intro own5 (And.intro b5 B4.out))
  clear own5 b5 B4 HB
  go_wp2_with fail
  go_ret3
  obtain ⟨own5, b5, B4⟩ := H5.out
  exact ⟨_, rfl, ownsRow_from own5 B4.size, bupW B4 b5⟩

end Go.Proofs.YtpnojhomjkopeaaDoor
