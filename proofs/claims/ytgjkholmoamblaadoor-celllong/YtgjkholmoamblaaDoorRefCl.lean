/- The contract of the document's own Clusters (surtitleref2). -/
import Derived.Test.YtgjkholmoamblaaDoorRefSg
import Derived.Deep.RegionHeld3
import Derived.Deep.AppendLies
import Derived.Deep.Cut
import Derived.Deep.CutRange
import Derived.Deep.DeepCutAuto
import Derived.Deep.CutBlock
namespace Go.Proofs.YtgjkholmoamblaaDoor
open Go.RowKit

/-- Up to which sign the cluster that begins at fr reaches, to being looked at. -/
def toF (R : Nat → Int) (n fr : Nat) : Nat → Nat → Nat
  | 0, tt => tt
  | f + 1, tt => if tt < n ∧ joinB (R fr) (R (tt - 1)) (R tt) (tt == fr + 1) = true then toF R n fr f (tt + 1) else tt
/-- The clusters from the sign fr on. -/
def rclF (R : Nat → Int) (A : Nat → Nat) (n : Nat) : Nat → Nat → List Cl
  | 0, _ => []
  | f + 1, fr => if fr < n then ⟨A fr, (A (toF R n fr n (fr + 1)) : Int) - A fr, fr, toF R n fr n (fr + 1), cellsR R fr (toF R n fr n (fr + 1))⟩ :: rclF R A n f (toF R n fr n (fr + 1)) else []
def runeAt (s : ByteArray) (i : Nat) : Int := ((sgs s).getD i (0, 0)).2
def placeAt (s : ByteArray) (i : Nat) : Nat := if i < (sgs s).length then ((sgs s).getD i (0, 0)).1 else s.size
def rcl (s : ByteArray) : List Cl := rclF (runeAt s) (placeAt s) (sgs s).length (sgs s).length 0

theorem infoRc : (Tryd.prog.info? 55).map (fun i => (i.zero, i.size, i.bytes)) = some (some (.agg #[.int .i64 0, .int .i64 0, .int .i64 0, .int .i64 0, .int .i64 0]), 5, 40) := by kernel_rfl
theorem rowCells {W : World} {b e n : Nat} {v : Value} {xs : List Value} (h : W.ownsRow b e 1 v n xs) (hn : 0 < n) : ∃ g cap, v = .slice (some ⟨g, 0, none⟩) n cap ∧ g < W.heap.size ∧ n ≤ cap ∧ cap ≤ 9223372036854775807 ∧ ∀ (i : Nat) (x : Value), xs[i]? = some x → W.cell? ⟨g, i, none⟩ = some x := by
  rcases h.2 with ⟨_, h2⟩ | ⟨g, cap, cur, rfl, hb, hg, h3, h4, h5, h6⟩
  · omega
  · unfold maxLen at h4
    refine ⟨g, cap, rfl, (Array.getElem?_eq_some_iff.1 hg).1, h3, by omega, fun i x hx => ?_⟩
    have hi : i < xs.length := (List.getElem?_eq_some_iff.1 hx).1
    have hl := h.1
    rw [← h6, List.getElem?_take, if_pos (by omega)] at hx
    simp [World.cell?, hg]
    simpa using hx
theorem sgF2_lt (s : ByteArray) : ∀ b pos, ∀ x ∈ sgF2 s b pos, x.1 < s.size
  | 0, _, x, h => by simp [sgF2] at h
  | b + 1, pos, x, h => by
    unfold sgF2 at h
    split at h
    · rcases List.mem_cons.1 h with rfl | h
      · assumption
      · exact sgF2_lt s b _ x h
    · simp at h
theorem placeAt_le (s : ByteArray) (i : Nat) : placeAt s i ≤ s.size := by
  unfold placeAt
  split
  · rename_i h
    have : (sgs s).getD i (0, 0) ∈ sgs s := by
      rw [List.getD, List.getElem?_eq_getElem h]
      exact List.getElem_mem h
    exact Nat.le_of_lt (sgF2_lt s _ _ _ this)
  · exact Nat.le_refl _
theorem toF_bd (R : Nat → Int) (n fr : Nat) : ∀ f tt, tt ≤ n → tt ≤ toF R n fr f tt ∧ toF R n fr f tt ≤ n
  | 0, tt, h => ⟨Nat.le_refl _, h⟩
  | f + 1, tt, h => by
    unfold toF
    split
    · rename_i hc
      have := toF_bd R n fr f (tt + 1) (by omega)
      omega
    · exact ⟨Nat.le_refl _, h⟩

set_option maxRecDepth 100000 in
set_option maxHeartbeats 4000000 in
theorem refClusters_any (s : ByteArray) (hs : s.size ≤ 1048576) (w : World) :
    Calls Tryd.prog 22 #[.string s] w fun e w' => ∃ v, e = .returned v ∧ w'.ownsRow w.heap.size 55 5 v (rcl s).length (flatC (rcl s)) ∧ Below w.heap.size w w' := by
  have hn : (sgs s).length ≤ s.size := by
    have h1 := sgF2_length s s.size 0
    have h2 := cntF_le s s.size 0
    unfold sgs
    omega
  have HRS := hideC (refSigns_any s hs)
  generalize hnn : (sgs s).length = n at *
  by_cases h0 : n = 0
  · have hrc : rcl s = [] := by unfold rcl; rw [hnn, h0]; rfl
    rw [hrc]
    subst h0
    go_enter Tryd.func22, Tryd.ntmps22
    go_wp2_with fail
    refine (HRS.out _).mono ?_
    rintro e w1 ⟨v, u, rfl, hv, hu, hb1⟩
    have hvl : ∃ b c, v = .slice b 0 c := by
      rcases hv.2 with ⟨rfl, _⟩ | ⟨g, cap, cur, rfl, _⟩
      · exact ⟨_, _, rfl⟩
      · exact ⟨_, _, rfl⟩
    obtain ⟨bb, cc, rfl⟩ := hvl
    clear hv hu
    go_wp2
    go_loopw [5, 6] (fun o f wr => o = .slice none 0 0 ∧ f = .int .i64 0 ∧ w1 = wr) (fun _ _ _ => 0)
    case atStart => exact ⟨rfl, by first | rfl | go_num, rfl⟩
    case round =>
      obtain ⟨rfl, rfl, rfl⟩ := hrel
      go_wp2
      go_ret
      exact ⟨_, rfl, World.ownsRow_nil _ _ _ _, hb1⟩
  · go_enter Tryd.func22, Tryd.ntmps22
    go_wp2_with fail
    refine (HRS.out _).mono ?_
    rintro e w1 ⟨v, u, rfl, hv, hu, hb1⟩
    obtain ⟨gl, cl, rfl, hgl, hl1, hl2, hl3⟩ := rowCells hv (by omega)
    obtain ⟨ga, ca, rfl, hga, ha1, ha2, ha3⟩ := rowCells hu (by omega)
    have hR : RunesAt w1 gl n (runeAt s) := fun i hi => by
      refine hl3 i _ ?_
      unfold runeV runeAt
      rw [List.getElem?_map, List.getElem?_eq_getElem (by omega)]
      simp [List.getD, List.getElem?_eq_getElem (show i < (sgs s).length by omega)]
    have hPl : ∀ i, i ≤ n → w1.cell? ⟨ga, i, none⟩ = some (.int .i64 (placeAt s i)) := fun i hi => by
      refine ha3 i _ ?_
      unfold placeV placeAt
      by_cases h : i < n
      · rw [List.getElem?_append_left (by simp; omega), List.getElem?_map, List.getElem?_eq_getElem (by omega), if_pos (by omega)]
        simp [List.getD, List.getElem?_eq_getElem (show i < (sgs s).length by omega)]
      · obtain rfl : i = n := by omega
        rw [if_neg (by omega), List.getElem?_append_right (by simp; omega)]
        simp [hnn]
    clear hl3 ha3 hv hu
    obtain ⟨i0, hi, hz0, hz1, hz2⟩ := info_partsC infoRc
    go_wp2
    go_loopw [5, 6] (fun o f wr => ∃ (pre : List Cl) (fr b : Nat), Hid (pre ++ rclF (runeAt s) (placeAt s) n b fr = rcl s) ∧ n ≤ fr + b ∧ fr ≤ n ∧ pre.length ≤ fr ∧ f = .int .i64 fr ∧ wr.ownsRow w1.heap.size 55 5 o pre.length (flatC pre) ∧ Below w1.heap.size w1 wr) (fun _ f _ => n - (intOf f).toNat)
    case atStart => exact ⟨[], 0, n, by show rclF _ _ _ _ _ = rcl s; rw [rcl, hnn], by omega, by omega, by simp, rfl, World.ownsRow_nil _ _ _ _, Below.refl _ _⟩
    case round =>
      obtain ⟨pre, fr, b, HS, hbn, hfn, hpl, rfl, hown, hb⟩ := hrel
      have hz := hb.size
      by_cases hf : fr < n
      · obtain ⟨wq, rfl⟩ : ∃ wq, wq = wr := ⟨_, rfl⟩
        have hRq : RunesAt wq gl n (runeAt s) := fun i h => (hb.cell (p := ⟨gl, i, none⟩) hgl).trans (hR i h)
        obtain ⟨T, hTT⟩ : ∃ T, toF (runeAt s) n fr n (fr + 1) = T := ⟨_, rfl⟩
        have hTb := toF_bd (runeAt s) n fr n (fr + 1) (by omega)
        rw [hTT] at hTb
        go_upto_block 2 with fail
        go_cut [7] (fun o wx => o = .int .i64 T ∧ wq = wx)
        case first =>
          go_wp2_with fail
          go_loopw [7] (fun o wr => ∃ (k f : Nat), o = .int .i64 k ∧ fr + 1 ≤ k ∧ k ≤ n ∧ Hid (toF (runeAt s) n fr f k = T ∧ n ≤ k + f) ∧ wq = wr) (fun o _ => n - (intOf o).toNat)
          case atStart => exact ⟨fr + 1, n, by go_num, by omega, by omega, ⟨hTT, by omega⟩, rfl⟩
          case round =>
            obtain ⟨k, f, rfl, hk1, hk2, HT, rfl⟩ := hrel
            by_cases hkn : k < n
            · have c0 := hRq fr (by omega)
              have c1 := hRq k hkn
              have c2 := hRq (k - 1) (by omega)
              have HJ := hideC (joins_any gl n cl fr k _ _ _ _ (by omega) hkn (by omega) (by omega) c0 c1 c2)
              cases hj : joinB (runeAt s fr) (runeAt s (k - 1)) (runeAt s k) (k == fr + 1)
              · rw [hj] at HJ
                have hkT : k = T := by
                  have := HT.out.1
                  cases f with
                  | zero => exact this
                  | succ f => rw [toF, if_neg (by rw [hj]; simp)] at this; exact this
                subst hkT
                clear HT
                go_wp2_with fail
                refine HJ.out.mono ?_
                rintro e wx ⟨rfl, hwx⟩
                obtain rfl := hwx.symm
                go_wp2_with fail
                go_meet
                case rel => exact ⟨rfl, rfl⟩
              · rw [hj] at HJ
                have HT2 : Hid (∃ f', toF (runeAt s) n fr f' (k + 1) = T ∧ n ≤ k + 1 + f') := by
                  obtain ⟨e1, e2⟩ := HT.out
                  cases f with
                  | zero => omega
                  | succ f => exact ⟨f, by rw [toF, if_pos ⟨hkn, hj⟩] at e1; exact e1, by omega⟩
                go_wp2_with fail
                refine HJ.out.mono ?_
                rintro e wx ⟨rfl, hwx⟩
                obtain rfl := hwx.symm
                go_wp2
                obtain ⟨f', e1, e2⟩ := HT2.out
                go_roundw
                case rel => exact ⟨k + 1, f', by go_num, by omega, by omega, ⟨e1, e2⟩, by first | rfl | trivial⟩
                case measure => simp [intOf]; omega
            · have hkT : k = T := by
                have := HT.out.1
                cases f with
                | zero => exact this
                | succ f => rw [toF, if_neg (by omega)] at this; exact this
              subst hkT
              clear HT
              go_wp2_with fail
              go_meet
              case rel => exact ⟨rfl, rfl⟩
        case rest =>
          obtain ⟨rfl, rfl⟩ := hcut
          go_upto_region 8 with fail
          have ef := (hb.cell (p := ⟨ga, fr, none⟩) hga).trans (hPl fr (by omega))
          have et := (hb.cell (p := ⟨ga, T, none⟩) hga).trans (hPl T (by omega))
          have hp1 := placeAt_le s fr
          have hp2 := placeAt_le s T
          have HC := hideC (fun W h => cells_any gl n cl fr T (runeAt s) W (by omega) (by omega) (by omega) h)
          have hRd : RunesAt wq.drew gl n (runeAt s) := hRq
          have hwr : IntKind.i64.wrap ((placeAt s T : Int) - placeAt s fr) = (placeAt s T : Int) - placeAt s fr := IntWalk.i64_in _ ⟨by omega, by omega⟩
          have hne : u5.ownBlock ≠ some ga := fun e => by have := (hown.lt _ e).1; omega
          have i1 : (0 : Int) ≤ (fr : Int) := by omega
          have i2 : (fr : Int) < ((n + 1 : Nat) : Int) := by omega
          have i3 : (0 : Int) ≤ (T : Int) := by omega
          have i4 : (T : Int) < ((n + 1 : Nat) : Int) := by omega
          have i5 : (fr : Int) < (n : Int) + 1 := by omega
          have i6 : (T : Int) < (n : Int) + 1 := by omega
          have hgaq : ga < wq.heap.size := by omega
          have hnew := World.new_ne wq ⟨ga, fr, none⟩ ef
          have hnew2 := World.new_ne wq ⟨ga, T, none⟩ et
          generalize hcc : cellsR (runeAt s) fr T = cc at *
          have hfar := Below.heap_alloc wq (.cells #[.int .i64 (placeAt s fr), .int .i64 ((placeAt s T : Int) - placeAt s fr), .int .i64 fr, .int .i64 T, .int .i64 cc] 55) ga hgaq
          have hga9 : ga < (wq.alloc (.cells #[.int .i64 (placeAt s fr), .int .i64 ((placeAt s T : Int) - placeAt s fr), .int .i64 fr, .int .i64 T, .int .i64 cc] 55)).heap.size := by rw [World.size_alloc]; omega
          go_cut [5] (fun o wx => ∃ gg cap, o = .slice (some ⟨gg, 0, none⟩) (pre.length + 1) cap ∧ wx.ownsRow w1.heap.size 55 5 o (pre.length + 1) (flatC pre ++ [.int .i64 (placeAt s fr), .int .i64 ((placeAt s T : Int) - placeAt s fr), .int .i64 fr, .int .i64 T, .int .i64 cc]) ∧ Below w1.heap.size w1 wx)
          case first =>
            go_region_held3 (fun w' => w'.cell? ⟨ga, fr, none⟩ = some (.int .i64 (placeAt s fr)) ∧ w'.cell? ⟨ga, T, none⟩ = some (.int .i64 (placeAt s T)))
              (first | go_keep | exact ⟨k5, k6⟩)
              (first | (go_at_call 31; refine (HC.out _ hRd).mono ?_; rintro e wy ⟨rfl, hwy⟩; obtain rfl := hwy.symm) | ((refine step_append_lies _ (by rfl) _ _ _ (by rfl) w1.heap.size 55 i0 _ 5 40 Tryd.underlying49 hi hz0 hz1 hz2 rfl (by omega) u5 pre.length (flatC pre) (by rfl) ((hown.alloc _).drew) ⟨wq.heap.size, 0, none⟩ 1 1 [.int .i64 (placeAt s fr), .int .i64 ((placeAt s T : Int) - placeAt s fr), .int .i64 fr, .int .i64 T, .int .i64 cc] (by rfl) (by rfl) (World.news_of_block (cs := #[.int .i64 (placeAt s fr), .int .i64 ((placeAt s T : Int) - placeAt s fr), .int .i64 fr, .int .i64 T, .int .i64 cc]) (t := 55) (fr := (0, 0)) (heap_alloc_new wq _)) (by simp [Value.oneCell']) (by omega) (by unfold maxLen; omega) (by omega) (by simp; omega) (wq.heap.size + 1) (by simp) ?_; intro gg cap w5 hown5 hgrow hat hlt; have hga5 : w5.heap[ga]? = wq.heap[ga]? := (hgrow.block ga hga9 (Ne.symm hne)).trans hfar; have k5 : w5.cell? ⟨ga, fr, none⟩ = some (.int .i64 (placeAt s fr)) := (World.cell?_of_block hga5).trans ef; have k6 : w5.cell? ⟨ga, T, none⟩ = some (.int .i64 (placeAt s T)) := (World.cell?_of_block hga5).trans et; have hb5 : Below w1.heap.size w1 w5 := Below.grown ((hb.alloc (by omega) _).drew) hgrow (by show w1.heap.size ≤ (wq.alloc _).heap.size; rw [World.size_alloc]; omega) (fun j hj => (hown.lt _ hj).1))))
            all_goals first | go_wp2_with fail | skip
            all_goals go_meet
            all_goals exact ⟨gg, cap, rfl, hown5, hb5⟩
          case rest =>
            obtain ⟨gg, cap, rfl, hown5, hb5⟩ := hcut
            go_wp2
            obtain ⟨b', rfl⟩ : ∃ b', b = b' + 1 := ⟨b - 1, by omega⟩
            have hS2 : (pre ++ [⟨placeAt s fr, (placeAt s T : Int) - placeAt s fr, fr, T, cc⟩]) ++ rclF (runeAt s) (placeAt s) n b' T = rcl s := by
              have := HS.out
              rw [rclF, if_pos hf, hTT, hcc] at this
              rw [List.append_assoc]
              exact this
            refine ⟨⟨pre ++ [⟨placeAt s fr, (placeAt s T : Int) - placeAt s fr, fr, T, cc⟩], T, b', hideC hS2, by omega, hTb.2, by simp; omega, rfl, ?_, hb5⟩, by simp [intOf]; omega⟩
            rw [List.length_append, flatC_snoc]
            exact hown5
      · obtain rfl : fr = n := by omega
        have hfin : pre = rcl s := by
          have := HS.out
          have e : rclF (runeAt s) (placeAt s) fr b fr = [] := by cases b <;> simp [rclF]
          rw [e, List.append_nil] at this
          exact this
        subst hfin
        go_wp2
        go_ret
        exact ⟨_, rfl, ownsRow_from hown hb1.size, hb1.trans (hb.mono hb1.size)⟩

end Go.Proofs.YtgjkholmoamblaaDoor
