/- Package wrap: Wrap and Badness of every text. -/
import Derived.Test.YtpnojhomjkopeaaDoorWqF
import Derived.Test.YtpnojhomjkopeaaDoorWqG
namespace Go.Proofs.YtpnojhomjkopeaaDoor
open Go.RowKit Go.Shelf
attribute [local go_sem] Oper.semAt_some

/-- The places of a text as stops; its end. -/
def plS (s : ByteArray) : List St := stopsTo (partsL s) (partsL s).length
def fnS (s : ByteArray) : St := stpAt (partsL s) ((partsL s).length - 1) 0
theorem stopsW_eq (s : ByteArray) : stopsW s = plS s ++ [fnS s] := rfl
theorem wayG_sub : ∀ (S : List St) (B : List (Int × Int)) (way : List St) (rest : List (Int × Int)), wayG S B = some (way, rest) → (∀ x ∈ way, x ∈ S) ∧ way.length ≤ S.length
  | [], B, way, rest, h => by
    obtain ⟨rfl, rfl⟩ : [] = way ∧ B = rest := by simpa [wayG] using h
    simp
  | x :: S, [], way, rest, h => by
    unfold wayG at h
    split at h
    · cases h
    · have ih := wayG_sub S [] way rest h
      exact ⟨fun y hy => List.mem_cons_of_mem _ (ih.1 y hy), by simp; omega⟩
  | x :: S, b :: B, way, rest, h => by
    unfold wayG at h
    split at h
    · obtain ⟨⟨w', r'⟩, h1, h2⟩ := Option.map_eq_some_iff.1 h
      have ih := wayG_sub S B w' r' h1
      obtain ⟨rfl, rfl⟩ : x :: w' = way ∧ r' = rest := by simpa using h2
      refine ⟨fun y hy => ?_, by simp; omega⟩
      rcases List.mem_cons.1 hy with e | e
      · rw [e]; exact List.mem_cons_self ..
      · exact List.mem_cons_of_mem _ (ih.1 y e)
    · split at h
      · cases h
      · have ih := wayG_sub S (b :: B) way rest h
        exact ⟨fun y hy => List.mem_cons_of_mem _ (ih.1 y hy), by simp; omega⟩
/-- What Badness tells of breaks. -/
def badF (wd : Int) (S : List St) (z : St) (B : List (Int × Int)) : Int × Int := match wayG S B with
  | none => (0, 1)
  | some (way, rest) => if rest.length = 0 then (if (wayB wd (way ++ [z])).2 = true then ((wayB wd (way ++ [z])).1, 0) else (0, 35)) else (0, 1)
theorem wrap_any (s : ByteArray) (hs : s.size ≤ 4096) (wd : Int) (hw : 2 ≤ wd ∧ wd ≤ 200) (N : Nat) (w : World) (hT : Tabs N w) : ∃ way x, wrapW s wd = way ++ [x] ∧ way.length + 1 ≤ 5000 ∧
    Calls Tryd.prog 7 #[.string s, .int .i64 wd] w fun e w' => ∃ v, e = .returned (.tuple #[v, .int .i64 (wayB wd (way ++ [x])).1, .int .i64 0]) ∧ w'.ownsRow w.heap.size 39 2 v way.length (flatB way) ∧ Below w.heap.size w w' := by
  obtain ⟨h1, h2, h3, h4, way, x, h5, h6, h7⟩ := wrapW_all s hs wd hw
  exact ⟨way, x, h5, h6, wrap_walk s hs wd hw h1 h2 h3 h4 way x h5 h6 h7 N w hT⟩

set_option maxRecDepth 100000 in
set_option maxHeartbeats 1000000 in
theorem wbadness_any (s : ByteArray) (hs : s.size ≤ 4096) (wd : Int) (hw : 2 ≤ wd ∧ wd ≤ 200) (B : List (Int × Int)) (oa : Option Addr) (cpB : Nat) (hB : B.length ≤ 100000) (hcB : B.length ≤ cpB ∧ cpB ≤ maxLen) (N : Nat) (w : World) (hT : Tabs N w) (hBR : BR w oa B) :
    Calls Tryd.prog 12 #[.string s, .int .i64 wd, .slice oa B.length cpB] w fun e w' => e = .returned (.tuple #[.int .i64 (badF wd (plS s) (fnS s) B).1, .int .i64 (badF wd (plS s) (fnS s) B).2]) ∧ Below w.heap.size w w' := by
  have HC := hideW (wcheck_any s wd)
  have hck : wcheckI s.size wd = 0 := by unfold wcheckI; rw [if_neg (by omega), if_neg (by omega)]
  rw [hck] at HC
  obtain ⟨hS, hl, _, _⟩ := wrapW_all s hs wd hw
  have HSt := hideW (fun U hU => stops_walk s (by omega) N U hU)
  have e0 : stopsL (partsL s) = plS s ++ [fnS s] := rfl
  rw [e0] at HSt
  rw [stopsW_eq] at hS hl
  generalize plS s = S at *
  generalize fnS s = z at *
  rw [List.length_append, List.length_singleton] at hl
  rw [List.length_append, List.length_singleton] at HSt
  have HB := hideW hBR
  clear e0 hBR
  obtain ⟨R, hR⟩ : ∃ R, badF wd S z B = R := ⟨_, rfl⟩
  rw [hR]
  have HR := hideW hR
  clear hR
  go_enter Tryd.func12, Tryd.ntmps12
  go_wp2_with fail
  refine (HC.out _).mono ?_
  rintro e w1 ⟨rfl, rfl⟩
  go_wp2_with fail
  refine (HSt.out _ hT).mono ?_
  rintro e w2 ⟨v2, rfl, own2, b2⟩
  obtain ⟨g2, cap2, rfl⟩ := ownsRow_succ own2
  obtain ⟨sr2, hg2, hcn2, hcm2⟩ := SRow.of_owns own2
  have HWy := hideW (wayOf_walk S z g2 cap2 (by omega) ⟨hcn2, hcm2⟩ B oa cpB hB hcB w2 sr2 (HB.out.keep b2))
  have B2 := hideW b2
  clear own2 sr2 b2 HSt HC
  go_wp2_with fail
  refine HWy.out.mono ?_
  rintro e w3 ⟨hn, hsm, b3⟩
  have B3 := hideW (bupW B2.out b3)
  clear b3 B2 HWy HB
  cases hq : wayG S B with
  | none =>
    obtain rfl := hn hq
    have er : R = (0, 1) := by rw [← HR.out]; unfold badF; rw [hq]
    clear hn hsm hq
    subst er
    go_wp2_with fail
    refine bodyPost_ret (v := .tuple #[.int .i64 0, .int .i64 1]) (by simp [results, Tryd.results12, go_sem]) rfl ⟨rfl, B3.out⟩
  | some q =>
    obtain ⟨way, rest⟩ := q
    obtain ⟨v3, rfl, own3⟩ := hsm way rest hq
    obtain ⟨sub1, sub2⟩ := wayG_sub S B way rest hq
    obtain ⟨g3, cap3, rfl⟩ := ownsRow_succ own3
    obtain ⟨sr3, hg3, hcn3, hcm3⟩ := SRow.of_owns own3
    have HW := wbad_walk (way ++ [z]) g3 cap3 wd ⟨by omega, by omega⟩ (by simp; omega) (fun x hx => hS x (by
      simp at hx ⊢
      rcases hx with hx | hx
      · exact .inl (sub1 x hx)
      · exact .inr hx)) ⟨by simp; omega, hcm3⟩ w3 (SRowO.of_row sr3)
    rw [List.length_append, List.length_singleton] at HW
    have HW := hideW HW
    have er : R = if rest.length = 0 then (if (wayB wd (way ++ [z])).2 = true then ((wayB wd (way ++ [z])).1, 0) else (0, 35)) else (0, 1) := by rw [← HR.out]; unfold badF; rw [hq]
    clear own3 sr3 hS hn hsm hq sub1 HR
    by_cases hr : rest.length = 0
    · have hr1 : (rest.length == 0) = true := by simp [hr]
      rw [hr1]
      rw [if_pos hr] at er
      clear hr hr1
      generalize wayB wd (way ++ [z]) = Q at *
      obtain ⟨rn, rb⟩ := Q
      cases rb with
      | true =>
        rw [if_pos rfl] at er
        subst er
        go_wp2_with fail
        refine HW.out.mono ?_
        rintro e w4 ⟨rfl, b4⟩
        have B4 := hideW (bupW B3.out b4)
        clear b4 B3 HW
        go_wp2_with fail
        refine bodyPost_ret (v := .tuple #[.int .i64 rn, .int .i64 0]) (by simp [results, Tryd.results12, go_sem]) rfl ⟨rfl, B4.out⟩
      | false =>
        rw [if_neg (by simp)] at er
        subst er
        go_wp2_with fail
        refine HW.out.mono ?_
        rintro e w4 ⟨rfl, b4⟩
        have B4 := hideW (bupW B3.out b4)
        clear b4 B3 HW
        go_wp2_with fail
        refine bodyPost_ret (v := .tuple #[.int .i64 0, .int .i64 35]) (by simp [results, Tryd.results12, go_sem]) rfl ⟨rfl, B4.out⟩
    · have hr1 : (rest.length == 0) = false := by simp [hr]
      rw [hr1]
      rw [if_neg hr] at er
      subst er
      clear hr hr1 HW
      go_wp2_with fail
      refine bodyPost_ret (v := .tuple #[.int .i64 0, .int .i64 1]) (by simp [results, Tryd.results12, go_sem]) rfl ⟨rfl, B3.out⟩
end Go.Proofs.YtpnojhomjkopeaaDoor
