/- style.between, signsOf, glue, textOf (chapter 7). -/
import Derived.Test.YtbiodfeanngkdaaDoorGH
import Derived.Test.YtbiodfeanngkdaaDoorSoO
import Derived.Test.YtbiodfeanngkdaaDoorCutS
import Derived.Test.YtbiodfeanngkdaaDoorW7
namespace Go.Proofs.YtbiodfeanngkdaaDoor
open Go.RowKit Go.Shelf
attribute [local go_sem] Oper.semAt_some

def betB (a b n : Int) : Bool := decide (0 ≤ a ∧ a ≤ b ∧ b ≤ n)
set_option maxRecDepth 100000 in
set_option maxHeartbeats 400000 in
theorem between_any (a b n : Int) (w : World) : Calls Tryd.prog 18 #[.int .i64 a, .int .i64 b, .int .i64 n] w fun e w' => e = .returned (.bool (betB a b n)) ∧ w' = w := by
  unfold betB
  by_cases h1 : 0 ≤ a
  · by_cases h2 : a ≤ b
    · by_cases h3 : b ≤ n
      · rw [decide_eq_true (by omega)]
        go_enter Tryd.func18, Tryd.ntmps18
        go_wp2_with fail
        go_ret
        exact ⟨rfl, rfl⟩
      · rw [decide_eq_false (by omega)]
        go_enter Tryd.func18, Tryd.ntmps18
        go_wp2_with fail
        go_ret
        exact ⟨rfl, rfl⟩
    · rw [decide_eq_false (by omega)]
      go_enter Tryd.func18, Tryd.ntmps18
      go_wp2_with fail
      go_ret
      exact ⟨rfl, rfl⟩
  · rw [decide_eq_false (by omega)]
    go_enter Tryd.func18, Tryd.ntmps18
    go_wp2_with fail
    go_ret
    exact ⟨rfl, rfl⟩
/-- The byte at which a sign begins. -/
def bAt (s : ByteArray) (k : Nat) : Nat := ((spotAt s k).b).toNat
theorem bAt_eq (s : ByteArray) (k : Nat) (hk : k ≤ (signs s).length) : (spotAt s k).b = (bAt s k : Nat) ∧ bAt s k ≤ s.size := by
  obtain ⟨q, h1, h2, _⟩ := spotAt_lies s k hk
  unfold bAt
  rw [h1]
  exact ⟨by simp, by simpa using h2⟩
theorem bAt_mono (s : ByteArray) (i j : Nat) (h1 : i ≤ j) (h2 : j ≤ (signs s).length) : bAt s i ≤ bAt s j := (part_spots s i j (bAt s i) (bAt s j) h1 h2 (bAt_eq s i (by omega)).1 (bAt_eq s j h2).1).1
/-- The signs from one to another. -/
def cutM (s : ByteArray) (i j : Nat) : ByteArray := s.extract (bAt s i) (bAt s j)
set_option maxRecDepth 100000 in
set_option maxHeartbeats 400000 in
theorem signsOf_any (s : ByteArray) (hs : s.size ≤ 140737488355328) (i j : Nat) (h1 : i ≤ j) (h2 : j ≤ (signs s).length) (w : World) :
    Calls Tryd.prog 20 #[.string s, .int .i64 (i : Nat), .int .i64 (j : Nat)] w fun e w' => e = .returned (.string (cutM s i j)) ∧ Below w.heap.size w w' := by
  have hi := bAt_eq s i (by omega)
  have hj := bAt_eq s j h2
  have HC := hideS (cutS_any s hs i j (bAt s i) (bAt s j) h1 h2 hi.1 hj.1 (bAt_mono s i j h1 h2) hj.2 w)
  unfold cutM
  clear hi hj
  go_enter Tryd.func20, Tryd.ntmps20
  go_wp2_with (first | (go_at_call 9; (with_reducible refine HC.out.mono ?_); rintro e w5 ⟨rfl, b5⟩; have H5 := hideS b5; clear b5))
  go_ret
  exact ⟨rfl, H5.out⟩
/-- Texts behind one another: none melts with what stands ahead. -/
def glueGo : ByteArray → List ByteArray → ByteArray × Int
  | f, [] => (f, 0)
  | f, s :: l => if meltsB f s = true then (ByteArray.empty, 22) else glueGo (f ++ s) l
def lenB (L : List ByteArray) : Nat := (L.map ByteArray.size).sum
def glueM (L : List ByteArray) : ByteArray × Int := if 4096 < lenB L then (ByteArray.empty, 3) else glueGo ByteArray.empty L
/-- Strings that lie one behind the other. -/
def StrR (W : World) (G : Nat) (L : List ByteArray) : Prop := ∀ (i : Nat) (s : ByteArray), L[i]? = some s → W.cell? ⟨G, i, none⟩ = some (.string s)
theorem lenB_take (L : List ByteArray) (i : Nat) (s : ByteArray) (h : L[i]? = some s) : lenB (L.take (i + 1)) = lenB (L.take i) + s.size := by
  unfold lenB
  rw [List.take_add_one, h, List.map_append, List.sum_append]
  simp
theorem lenB_le (L : List ByteArray) : ∀ i, lenB (L.take i) ≤ lenB L := fun i => by
  have h := List.take_append_drop i L
  have : lenB L = lenB (L.take i) + lenB (L.drop i) := by
    conv => lhs; rw [← h]
    unfold lenB
    rw [List.map_append, List.sum_append]
  omega
theorem mem_lenB (L : List ByteArray) (i : Nat) (s : ByteArray) (h : L[i]? = some s) : s.size ≤ lenB L := by
  have h1 := lenB_take L i s h
  have h2 := lenB_le L (i + 1)
  omega
def catB (L : List ByteArray) : ByteArray := L.foldl (fun a b => a ++ b) ByteArray.empty
set_option maxRecDepth 100000 in
set_option maxHeartbeats 2000000 in
theorem glue_any (L : List ByteArray) (G cap : Nat) (hn : L.length ≤ 5000) (hL : lenB L ≤ 140737488355328) (w : World) (hw : 2 ≤ w.heap.size) (hT : Lib.Utf8Tabs 0 1 w) (hG : G < w.heap.size) (hR : StrR w G L) :
    Calls Tryd.prog 19 #[.slice (some ⟨G, 0, none⟩) L.length cap] w fun e w' => e = .returned (.tuple #[.string (glueM L).1, .int .i64 (glueM L).2]) ∧ Below w.heap.size w w' := by
  obtain ⟨N, hN⟩ : ∃ N, L.length = N := ⟨_, rfl⟩
  have HN := hideS hN
  rw [hN] at hn ⊢
  obtain ⟨R, hRd⟩ : ∃ R, glueM L = R := ⟨_, rfl⟩
  rw [hRd]
  have HRd := hideS hRd
  have HR := hideS (And.intro hR hT)
  clear hR hT hN hRd
  go_enter Tryd.func19, Tryd.ntmps19
  go_wp2_with fail
  go_loopw [4, 12] (fun av iv wq => wq = w ∧ ∃ i : Nat, iv = .int .i64 (i : Nat) ∧ i ≤ N ∧ av = .int .i64 (lenB (L.take i) : Nat)) (fun _ iv _ => N - (intOf iv).toNat)
  case atStart => exact ⟨rfl, 0, rfl, Nat.zero_le _, rfl⟩
  case round =>
    obtain ⟨rfl, i, rfl, hiN, rfl⟩ := hrel
    have hle := lenB_le L i
    by_cases hlt : i < N
    · obtain ⟨x, hx⟩ : ∃ x, L[i]? = some x := ⟨_, List.getElem?_eq_getElem (by rw [HN.out]; exact hlt)⟩
      have c0 := HR.out.1 i x hx
      have d1 : (i : Int) < (N : Int) := by omega
      have wi : IntKind.i64.wrap ((i : Int) + 1) = ((i + 1 : Nat) : Int) := by rw [show ((i + 1 : Nat) : Int) = (i : Int) + 1 by omega]; exact IntWalk.i64_in _ ⟨by omega, by omega⟩
      have ht := lenB_take L i x hx
      have hl2 := lenB_le L (i + 1)
      obtain ⟨T, hTd⟩ : ∃ T, lenB (L.take (i + 1)) = T := ⟨_, rfl⟩
      obtain ⟨U, hU⟩ : ∃ U, lenB (L.take i) = U := ⟨_, rfl⟩
      rw [hTd, hU] at ht
      rw [hTd] at hl2
      rw [hU] at hle ⊢
      have wt : (U : Int) + (x.size : Int) = (T : Int) := by omega
      have wt2 : IntKind.i64.wrap (T : Int) = (T : Int) := IntWalk.i64_in _ ⟨by omega, by omega⟩
      have HTd := hideS hTd
      clear ht hTd hU hx
      go_wp2_with fail
      go_roundw
      case rel => exact ⟨by first | rfl | trivial, i + 1, by first | rfl | simp, by omega, by rw [HTd.out]⟩
      case measure => simp [intOf]; omega
    · have d1 : ¬ (i : Int) < (N : Int) := by omega
      rw [List.take_of_length_le (by rw [HN.out]; omega)]
      obtain ⟨T, hTd⟩ : ∃ T, lenB L = T := ⟨_, rfl⟩
      have HTd := hideS hTd
      rw [hTd] at hL ⊢
      clear hTd hle
      by_cases hbig : 4096 < T
      · have d2 : (4096 : Int) < (T : Int) := by omega
        go_wp2_with fail
        go_ret2
        have e9 := HRd.out
        unfold glueM at e9
        rw [HTd.out, if_pos hbig] at e9
        rw [← e9]
        exact ⟨rfl, Below.refl _ _⟩
      · have d2 : ¬ (4096 : Int) < (T : Int) := by omega
        have HGl : Hid (glueGo ByteArray.empty L = R) := hideS (by
          have e9 := HRd.out
          unfold glueM at e9
          rw [HTd.out, if_neg hbig] at e9
          exact e9)
        obtain ⟨w0, rfl⟩ : ∃ w0, w0 = wr := ⟨_, rfl⟩
        go_wp2_with fail
        go_loopw [7, 25] (fun fv iv wq => ∃ (i : Nat) (f : ByteArray), iv = .int .i64 (i : Nat) ∧ i ≤ N ∧ fv = .string f ∧ f.size = lenB (L.take i) ∧ glueGo f (L.drop i) = R ∧ Below w0.heap.size w0 wq) (fun _ iv _ => N - (intOf iv).toNat)
        case atStart => exact ⟨0, ByteArray.empty, rfl, Nat.zero_le _, rfl, rfl, HGl.out, Below.refl _ _⟩
        case round =>
          clear HGl
          obtain ⟨i, f, rfl, hiN, rfl, hfs, hgo, hb⟩ := hrel
          obtain ⟨wq, rfl⟩ : ∃ wq, wq = wr := ⟨_, rfl⟩
          have hle := lenB_le L i
          rw [HTd.out] at hle
          by_cases hlt : i < N
          · obtain ⟨x, hx⟩ : ∃ x, L[i]? = some x := ⟨_, List.getElem?_eq_getElem (by rw [HN.out]; exact hlt)⟩
            have c0 := (hb.cell (p := ⟨G, i, none⟩) hG).trans (HR.out.1 i x hx)
            have d1 : (i : Int) < (N : Int) := by omega
            have wi : IntKind.i64.wrap ((i : Int) + 1) = ((i + 1 : Nat) : Int) := by rw [show ((i + 1 : Nat) : Int) = (i : Int) + 1 by omega]; exact IntWalk.i64_in _ ⟨by omega, by omega⟩
            have ht := lenB_take L i x hx
            have hl2 := lenB_le L (i + 1)
            rw [HTd.out] at hl2
            have hdr : L.drop i = x :: L.drop (i + 1) := by rw [← (List.getElem?_eq_some_iff.1 hx).2]; exact List.drop_eq_getElem_cons (by rw [HN.out]; exact hlt)
            rw [hdr] at hgo
            have HMl := hideS (melts_any f x wq (by omega) (by omega) (Nat.le_trans hw hb.size) (tabs_below hw HR.out.2 hb))
            have HA := hideS (And.intro (And.intro hfs ht) (And.intro hgo hb))
            have hfx : f.size + x.size ≤ 4096 := by omega
            clear hfs ht hgo hb hx hdr hle hl2
            obtain ⟨m, hm⟩ : ∃ m, meltsB f x = m := ⟨_, rfl⟩
            rw [hm] at HMl
            have Hm := hideS hm
            clear hm
            cases m with
            | true =>
              go_wp2_with (first | (go_at_call 10; (with_reducible refine HMl.out.mono ?_); rintro e w5 ⟨rfl, b5⟩; have H5 := hideS b5; clear b5))
              go_ret2
              have e9 := HA.out.2.1
              change (if meltsB f x = true then (ByteArray.empty, 22) else glueGo (f ++ x) (L.drop (i + 1))) = R at e9
              rw [if_pos Hm.out] at e9
              rw [← e9]
              exact ⟨rfl, HA.out.2.2.trans (H5.out.mono HA.out.2.2.size)⟩
            | false =>
              go_wp2_with (first | (go_at_call 10; (with_reducible refine HMl.out.mono ?_); rintro e w5 ⟨rfl, b5⟩; have H5 := hideS b5; clear b5))
              go_roundw
              case rel =>
                have e9 := HA.out.2.1
                change (if meltsB f x = true then (ByteArray.empty, 22) else glueGo (f ++ x) (L.drop (i + 1))) = R at e9
                rw [if_neg (by rw [Hm.out]; decide)] at e9
                refine ⟨i + 1, f ++ x, by first | rfl | simp, by omega, rfl, ?_, e9, HA.out.2.2.trans (H5.out.mono HA.out.2.2.size)⟩
                rw [ByteArray.size_append, HA.out.1.1, HA.out.1.2]
              case measure => simp [intOf]; omega
          · have d1 : ¬ (i : Int) < (N : Int) := by omega
            rw [List.drop_eq_nil_of_le (by rw [HN.out]; omega)] at hgo
            change (f, (0 : Int)) = R at hgo
            have HCl := hideS (clone_any f wq (by omega))
            have HA := hideS (And.intro hgo hb)
            clear hgo hb
            go_wp2_with (first | (go_at_call 27; (with_reducible refine HCl.out.mono ?_); rintro e w5 ⟨rfl, b5⟩; have H5 := hideS b5; clear b5))
            go_ret2
            rw [← HA.out.1]
            exact ⟨rfl, HA.out.2.trans (H5.out.mono HA.out.2.size)⟩
set_option maxRecDepth 100000 in
set_option maxHeartbeats 1000000 in
theorem textOf_any (s : ByteArray) (o : Option Addr) (n cap : Nat) (w : World) :
    Calls Tryd.prog 21 #[.string s, .slice o n cap] w fun e w' => e = .returned (if 256 < n then .tuple #[.agg #[.string ByteArray.empty, .slice none 0 0], .int .i64 2] else .tuple #[.agg #[.string s, .slice o n cap], .int .i64 0]) ∧ Below w.heap.size w w' := by
  by_cases h : 256 < n
  · rw [if_pos h]
    have d : (256 : Int) < (n : Int) := by omega
    have r0 := two_cellsA w (.string ⟨#[]⟩) (.slice none 0 0) 24
    have r1 := two_cellsB w (.string ⟨#[]⟩) (.slice none 0 0) 24
    go_enter Tryd.func21, Tryd.ntmps21
    go_wp2_with fail
    exact bodyPost_ret (v := .tuple #[.agg #[.string ByteArray.empty, .slice none 0 0], .int .i64 2]) (by simp [results, Tryd.results21, go_sem, r0, r1]; rfl) rfl ⟨rfl, bel1S w _⟩
  · rw [if_neg h]
    have d : ¬ (256 : Int) < (n : Int) := by omega
    have r0 := two_cellsA w (.string s) (.slice o n cap) 24
    have r1 := two_cellsB w (.string s) (.slice o n cap) 24
    go_enter Tryd.func21, Tryd.ntmps21
    go_wp2_with fail
    exact bodyPost_ret (v := .tuple #[.agg #[.string s, .slice o n cap], .int .i64 0]) (by simp [results, Tryd.results21, go_sem, r0, r1]) rfl ⟨rfl, bel1S w _⟩
end Go.Proofs.YtbiodfeanngkdaaDoor
