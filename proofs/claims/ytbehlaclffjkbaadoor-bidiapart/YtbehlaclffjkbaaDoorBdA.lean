/- bidi: the tables, a rune's class, its mirror (chapter 4). -/
import Derived.Test.YtbehlaclffjkbaaDoorProg
import Derived.Test.YtbehlaclffjkbaaDoorLawL
import Derived.Deep.QuietTactic
import Derived.BigQuiet
import Derived.Shelf.RegionOpen
import Derived.Laws.Tables
namespace Go.Proofs.YtbehlaclffjkbaaDoor
open Go.RowKit Go.Shelf

theorem hideB {p : Prop} (h : p) : Hid p := h
theorem bel1B (w : World) (o : Obj) : Below w.heap.size w (w.alloc o) := (Below.refl _ w).alloc (Nat.le_refl _) o
theorem bupB {w a b : World} (h : Below w.heap.size w a) (k : Below a.heap.size a b) : Below w.heap.size w b := h.trans (k.mono h.size)
theorem addB_block (a : Addr) (n : Nat) : (a.add n).block = a.block := by unfold Addr.add; split <;> rfl
/-- Two int32 cells a row, one behind the other. -/
def TbR (W : World) (oa : Option Addr) (T : List (Int × Int)) : Prop := ∀ (i : Nat) (p : Int × Int), T[i]? = some p → ∃ a : Addr, oa = some a ∧ a.block < W.heap.size ∧ W.cell? (a.add (i * 2)) = some (.int .i32 p.1) ∧ W.cell? ⟨(a.add (i * 2)).block, (a.add (i * 2)).off + 1, none⟩ = some (.int .i32 p.2)
theorem TbR.keep {V W : World} {oa : Option Addr} {T : List (Int × Int)} (h : TbR V oa T) (b : Below V.heap.size V W) : TbR W oa T := fun i p hp => by
  obtain ⟨a, ha, hl, h0, h1⟩ := h i p hp
  have hl2 : (a.add (i * 2)).block < V.heap.size := by rw [addB_block]; exact hl
  exact ⟨a, ha, Nat.lt_of_lt_of_le hl b.size, (b.cell hl2).trans h0, (b.cell (p := ⟨(a.add (i * 2)).block, (a.add (i * 2)).off + 1, none⟩) hl2).trans h1⟩
@[local go_sem] theorem build_runs (a b : Int) (w : World) : (Instr.build 100 #[(0, .int .i32 a), (1, .int .i32 b)]).run Tryd.prog w = .ok (.agg #[.int .i32 a, .int .i32 b]) w := run_build w _ _ _ (by kernel_rfl)
def inT (r : Int) (T : List (Int × Int)) : Bool := T.any fun p => decide (p.1 ≤ r) && decide (r ≤ p.2)
theorem inT_cons (r : Int) (p : Int × Int) (T : List (Int × Int)) : inT r (p :: T) = ((decide (p.1 ≤ r) && decide (r ≤ p.2)) || inT r T) := rfl
def flatT (T : List (Int × Int)) : List Value := T.flatMap fun p => [.int .i32 p.1, .int .i32 p.2]
theorem flatT_get : ∀ (T : List (Int × Int)) (i : Nat) (p : Int × Int), T[i]? = some p → (flatT T)[i * 2]? = some (.int .i32 p.1) ∧ (flatT T)[i * 2 + 1]? = some (.int .i32 p.2)
  | [], _, _, h => by cases h
  | q :: T, 0, p, h => by
    cases h
    exact ⟨rfl, rfl⟩
  | q :: T, i + 1, p, h => by
    obtain ⟨h0, h1⟩ := flatT_get T i p (by simpa using h)
    have e : ∀ j, (flatT (q :: T))[j + 2]? = (flatT T)[j]? := fun j => by
      show ((.int .i32 q.1 :: .int .i32 q.2 :: flatT T : List Value))[j + 2]? = _
      simp
    rw [show (i + 1) * 2 = i * 2 + 2 by omega]
    exact ⟨(e _).trans h0, (e (i * 2 + 1)).trans h1⟩
theorem tbr_new (w : World) (T : List (Int × Int)) (cs : Array Value) (t : TypeId) (hcs : cs.toList = flatT T) : TbR (w.alloc (.cells cs t)) (some ⟨w.heap.size, 0, none⟩) T := fun i p hp => by
  obtain ⟨h0, h1⟩ := flatT_get T i p hp
  rw [← hcs, Array.getElem?_toList] at h0 h1
  have hz : (⟨w.heap.size, 0, none⟩ : Addr).add (i * 2) = ⟨w.heap.size, i * 2, none⟩ := by
    unfold Addr.add
    split
    · rename_i h
      rw [h]
    · simp
  have hat := World.alloc_heap_new w (.cells cs t)
  refine ⟨_, rfl, by simp, ?_, ?_⟩
  · rw [hz]
    unfold World.cell?
    rw [hat]
    simp [h0]
  · rw [hz]
    unfold World.cell?
    rw [hat]
    simp [h1]
set_option maxRecDepth 100000 in
set_option maxHeartbeats 2000000 in
theorem stands_any (r : Int) (T : List (Int × Int)) (oa : Option Addr) (c : Nat) (hc : T.length ≤ c ∧ c ≤ maxLen) (hn : T.length ≤ 1000) (w : World) (hT : TbR w oa T) :
    Calls Tryd.prog 62 #[.int .i32 r, .slice oa T.length c] w fun e w' => e = .returned (.bool (inT r T)) ∧ Below w.heap.size w w' := by
  have hmx : maxLen ≤ 9223372036854775807 := by decide
  obtain ⟨n, hn'⟩ : ∃ n, T.length = n := ⟨_, rfl⟩
  have HN := hideB hn'
  have HO := hideB hT
  rw [hn'] at hc hn ⊢
  clear hn' hT
  obtain ⟨PO, hPO⟩ : ∃ PO : Ending → World → Prop, (fun e w' => e = .returned (.bool (inT r T)) ∧ Below w.heap.size w w') = PO := ⟨_, rfl⟩
  have HP := hideB hPO
  rw [hPO]
  clear hPO
  go_enter Tryd.func62, Tryd.ntmps62
  go_wp2_with fail
  go_loopw [9] (fun iv wq => ∃ i : Nat, iv = .int .i64 (i : Nat) ∧ i ≤ n ∧ inT r T = inT r (T.drop i) ∧ Below w.heap.size w wq) (fun iv _ => n - (intOf iv).toNat)
  case atStart => exact ⟨0, rfl, Nat.zero_le _, rfl, Below.refl _ _⟩
  case round =>
    obtain ⟨i, rfl, hi, hs, hb⟩ := hrel
    obtain ⟨wq, rfl⟩ : ∃ wq, wq = wr := ⟨_, rfl⟩
    by_cases hlt : i < n
    · obtain ⟨p, hp⟩ : ∃ p, T[i]? = some p := ⟨_, List.getElem?_eq_getElem (by rw [HN.out]; omega)⟩
      obtain ⟨A, rfl, hA, a0, a1⟩ := (HO.out.keep hb) i p hp
      have hdr : T.drop i = p :: T.drop (i + 1) := by
        obtain ⟨h1, e1⟩ := List.getElem?_eq_some_iff.1 hp
        rw [List.drop_eq_getElem_cons h1, e1]
      rw [hdr, inT_cons] at hs
      have HS := hideB hs
      have HB := hideB hb
      clear hs hb hdr hp hA
      obtain ⟨pl, pr⟩ := p
      have di : (i : Int) < (n : Int) := by omega
      have wk : IntKind.i64.wrap ((i : Int) + 1) = ((i + 1 : Nat) : Int) := by rw [show ((i + 1 : Nat) : Int) = (i : Int) + 1 by omega]; exact IntWalk.i64_in _ ⟨by omega, by omega⟩
      by_cases h1 : pl ≤ r
      · by_cases h2 : r ≤ pr
        · have HT : Hid (inT r T = true) := hideB (by rw [HS.out]; simp [h1, h2])
          have HB2 : Hid (Below w.heap.size w (wq.alloc (.cells #[.int .i32 pl, .int .i32 pr] 100))) := hideB (bupB HB.out (bel1B _ _))
          go_wp2_with fail
          first
            | (rw [← HP.out]; exact ⟨by rw [HT.out], HB2.out⟩)
            | (go_ret; rw [← HP.out]; exact ⟨by rw [HT.out], HB2.out⟩)
        · have HT : Hid (inT r T = inT r (T.drop (i + 1))) := hideB (by rw [HS.out]; simp [h2])
          have HB2 : Hid (Below w.heap.size w (wq.alloc (.cells #[.int .i32 pl, .int .i32 pr] 100))) := hideB (bupB HB.out (bel1B _ _))
          go_wp2_with fail
          go_roundw
          case rel => exact ⟨i + 1, by first | rfl | simp, by omega, HT.out, HB2.out⟩
          case measure => simp [intOf]; omega
      · have HT : Hid (inT r T = inT r (T.drop (i + 1))) := hideB (by rw [HS.out]; simp [h1])
        have HB2 : Hid (Below w.heap.size w (wq.alloc (.cells #[.int .i32 pl, .int .i32 pr] 100))) := hideB (bupB HB.out (bel1B _ _))
        go_wp2_with fail
        go_roundw
        case rel => exact ⟨i + 1, by first | rfl | simp, by omega, HT.out, HB2.out⟩
        case measure => simp [intOf]; omega
    · obtain rfl : i = n := by omega
      have d2 : ¬ (i : Int) < (i : Int) := by omega
      have hk2 : T.drop i = [] := List.drop_eq_nil_of_le (by rw [HN.out]; exact Nat.le_refl _)
      rw [hk2] at hs
      have HB := hideB (And.intro hs hb)
      clear hs hb hk2
      go_wp2_with fail
      first
        | (rw [← HP.out]; exact ⟨by rw [HB.out.1]; rfl, HB.out.2⟩)
        | (go_ret; rw [← HP.out]; exact ⟨by rw [HB.out.1]; rfl, HB.out.2⟩)
def tisPartEnd : List (Int × Int) := [(9, 9), (11, 11), (13, 13), (28, 31), (133, 133), (8233, 8233)]
def tisBlank : List (Int × Int) := [(12, 12), (32, 32), (5760, 5760), (8192, 8202), (8232, 8232), (8287, 8287), (12288, 12288)]
def tisEuropeanDigit : List (Int × Int) := [(48, 57), (178, 179), (185, 185), (1776, 1785), (8304, 8304), (8308, 8313), (8320, 8329), (65296, 65305)]
def tisArabicDigit : List (Int × Int) := [(1536, 1541), (1632, 1641), (1643, 1644), (1757, 1757)]
def tisNumberSign : List (Int × Int) := [(43, 43), (45, 45), (8314, 8315), (8330, 8331), (8722, 8722), (65291, 65291), (65293, 65293)]
def tisBesideNumber : List (Int × Int) := [(35, 37), (162, 165), (176, 177), (1642, 1642), (8240, 8244), (8352, 8399), (65283, 65285)]
def tisWithinNumber : List (Int × Int) := [(44, 44), (46, 47), (58, 58), (160, 160), (1548, 1548), (8239, 8239), (8260, 8260), (65292, 65292), (65294, 65295), (65306, 65306)]
def tisMark : List (Int × Int) := [(768, 879), (1155, 1161), (1425, 1469), (1471, 1471), (1473, 1474), (1476, 1477), (1479, 1479), (1552, 1562), (1611, 1631), (1648, 1648), (1750, 1756), (1759, 1764), (1767, 1768), (1770, 1773), (8400, 8447), (65024, 65039), (65056, 65071), (917760, 917999)]
def tisArabicLetter : List (Int × Int) := [(1536, 1983), (2208, 2303), (64336, 65023), (65136, 65278)]
def tisLeftGoing : List (Int × Int) := [(1424, 1535), (1984, 2207), (8207, 8207), (64285, 64335), (67584, 69631), (124928, 126975)]
def tisNeutral : List (Int × Int) := [(0, 8), (14, 27), (33, 34), (38, 42), (59, 64), (91, 96), (123, 132), (134, 159), (161, 161), (166, 169), (171, 175), (180, 180), (182, 184), (187, 191), (215, 215), (247, 247), (8203, 8205), (8208, 8231), (8234, 8238), (8245, 8286), (8288, 8293), (8298, 8303), (8316, 8318), (8332, 8334), (8592, 8721), (8723, 11263), (12289, 12292), (12296, 12320), (12336, 12336), (65279, 65279), (65281, 65282), (65286, 65290), (65307, 65312), (65339, 65344), (65371, 65381), (65529, 65533)]
set_option maxRecDepth 100000 in
set_option maxHeartbeats 2000000 in
theorem isPartEnd_any (r : Int) (w : World) : Calls Tryd.prog 39 #[.int .i32 r] w fun e w' => e = .returned (.bool (inT r tisPartEnd)) ∧ Below w.heap.size w w' := by
  have HS := hideB (stands_any r tisPartEnd (some ⟨w.heap.size, 0, none⟩) 6 ⟨by decide, by decide⟩ (by decide) (w.alloc (.cells #[.int .i32 9, .int .i32 9, .int .i32 11, .int .i32 11, .int .i32 13, .int .i32 13, .int .i32 28, .int .i32 31, .int .i32 133, .int .i32 133, .int .i32 8233, .int .i32 8233] 100)) (tbr_new w tisPartEnd _ _ rfl))
  rw [show tisPartEnd.length = 6 from rfl] at HS
  generalize inT r tisPartEnd = z at *
  go_enter Tryd.func39, Tryd.ntmps39
  go_wp2_with fail
  refine HS.out.mono ?_
  rintro e w1 ⟨rfl, b1⟩
  have HB := hideB (bupB (bel1B _ _) b1)
  clear b1 HS
  go_wp2_with fail
  go_ret
  exact ⟨rfl, HB.out⟩
set_option maxRecDepth 100000 in
set_option maxHeartbeats 2000000 in
theorem isBlank_any (r : Int) (w : World) : Calls Tryd.prog 40 #[.int .i32 r] w fun e w' => e = .returned (.bool (inT r tisBlank)) ∧ Below w.heap.size w w' := by
  have HS := hideB (stands_any r tisBlank (some ⟨w.heap.size, 0, none⟩) 7 ⟨by decide, by decide⟩ (by decide) (w.alloc (.cells #[.int .i32 12, .int .i32 12, .int .i32 32, .int .i32 32, .int .i32 5760, .int .i32 5760, .int .i32 8192, .int .i32 8202, .int .i32 8232, .int .i32 8232, .int .i32 8287, .int .i32 8287, .int .i32 12288, .int .i32 12288] 100)) (tbr_new w tisBlank _ _ rfl))
  rw [show tisBlank.length = 7 from rfl] at HS
  generalize inT r tisBlank = z at *
  go_enter Tryd.func40, Tryd.ntmps40
  go_wp2_with fail
  refine HS.out.mono ?_
  rintro e w1 ⟨rfl, b1⟩
  have HB := hideB (bupB (bel1B _ _) b1)
  clear b1 HS
  go_wp2_with fail
  go_ret
  exact ⟨rfl, HB.out⟩
set_option maxRecDepth 100000 in
set_option maxHeartbeats 2000000 in
theorem isEuropeanDigit_any (r : Int) (w : World) : Calls Tryd.prog 41 #[.int .i32 r] w fun e w' => e = .returned (.bool (inT r tisEuropeanDigit)) ∧ Below w.heap.size w w' := by
  have HS := hideB (stands_any r tisEuropeanDigit (some ⟨w.heap.size, 0, none⟩) 8 ⟨by decide, by decide⟩ (by decide) (w.alloc (.cells #[.int .i32 48, .int .i32 57, .int .i32 178, .int .i32 179, .int .i32 185, .int .i32 185, .int .i32 1776, .int .i32 1785, .int .i32 8304, .int .i32 8304, .int .i32 8308, .int .i32 8313, .int .i32 8320, .int .i32 8329, .int .i32 65296, .int .i32 65305] 100)) (tbr_new w tisEuropeanDigit _ _ rfl))
  rw [show tisEuropeanDigit.length = 8 from rfl] at HS
  generalize inT r tisEuropeanDigit = z at *
  go_enter Tryd.func41, Tryd.ntmps41
  go_wp2_with fail
  refine HS.out.mono ?_
  rintro e w1 ⟨rfl, b1⟩
  have HB := hideB (bupB (bel1B _ _) b1)
  clear b1 HS
  go_wp2_with fail
  go_ret
  exact ⟨rfl, HB.out⟩
set_option maxRecDepth 100000 in
set_option maxHeartbeats 2000000 in
theorem isArabicDigit_any (r : Int) (w : World) : Calls Tryd.prog 42 #[.int .i32 r] w fun e w' => e = .returned (.bool (inT r tisArabicDigit)) ∧ Below w.heap.size w w' := by
  have HS := hideB (stands_any r tisArabicDigit (some ⟨w.heap.size, 0, none⟩) 4 ⟨by decide, by decide⟩ (by decide) (w.alloc (.cells #[.int .i32 1536, .int .i32 1541, .int .i32 1632, .int .i32 1641, .int .i32 1643, .int .i32 1644, .int .i32 1757, .int .i32 1757] 100)) (tbr_new w tisArabicDigit _ _ rfl))
  rw [show tisArabicDigit.length = 4 from rfl] at HS
  generalize inT r tisArabicDigit = z at *
  go_enter Tryd.func42, Tryd.ntmps42
  go_wp2_with fail
  refine HS.out.mono ?_
  rintro e w1 ⟨rfl, b1⟩
  have HB := hideB (bupB (bel1B _ _) b1)
  clear b1 HS
  go_wp2_with fail
  go_ret
  exact ⟨rfl, HB.out⟩
set_option maxRecDepth 100000 in
set_option maxHeartbeats 2000000 in
theorem isNumberSign_any (r : Int) (w : World) : Calls Tryd.prog 43 #[.int .i32 r] w fun e w' => e = .returned (.bool (inT r tisNumberSign)) ∧ Below w.heap.size w w' := by
  have HS := hideB (stands_any r tisNumberSign (some ⟨w.heap.size, 0, none⟩) 7 ⟨by decide, by decide⟩ (by decide) (w.alloc (.cells #[.int .i32 43, .int .i32 43, .int .i32 45, .int .i32 45, .int .i32 8314, .int .i32 8315, .int .i32 8330, .int .i32 8331, .int .i32 8722, .int .i32 8722, .int .i32 65291, .int .i32 65291, .int .i32 65293, .int .i32 65293] 100)) (tbr_new w tisNumberSign _ _ rfl))
  rw [show tisNumberSign.length = 7 from rfl] at HS
  generalize inT r tisNumberSign = z at *
  go_enter Tryd.func43, Tryd.ntmps43
  go_wp2_with fail
  refine HS.out.mono ?_
  rintro e w1 ⟨rfl, b1⟩
  have HB := hideB (bupB (bel1B _ _) b1)
  clear b1 HS
  go_wp2_with fail
  go_ret
  exact ⟨rfl, HB.out⟩
set_option maxRecDepth 100000 in
set_option maxHeartbeats 2000000 in
theorem isBesideNumber_any (r : Int) (w : World) : Calls Tryd.prog 44 #[.int .i32 r] w fun e w' => e = .returned (.bool (inT r tisBesideNumber)) ∧ Below w.heap.size w w' := by
  have HS := hideB (stands_any r tisBesideNumber (some ⟨w.heap.size, 0, none⟩) 7 ⟨by decide, by decide⟩ (by decide) (w.alloc (.cells #[.int .i32 35, .int .i32 37, .int .i32 162, .int .i32 165, .int .i32 176, .int .i32 177, .int .i32 1642, .int .i32 1642, .int .i32 8240, .int .i32 8244, .int .i32 8352, .int .i32 8399, .int .i32 65283, .int .i32 65285] 100)) (tbr_new w tisBesideNumber _ _ rfl))
  rw [show tisBesideNumber.length = 7 from rfl] at HS
  generalize inT r tisBesideNumber = z at *
  go_enter Tryd.func44, Tryd.ntmps44
  go_wp2_with fail
  refine HS.out.mono ?_
  rintro e w1 ⟨rfl, b1⟩
  have HB := hideB (bupB (bel1B _ _) b1)
  clear b1 HS
  go_wp2_with fail
  go_ret
  exact ⟨rfl, HB.out⟩
set_option maxRecDepth 100000 in
set_option maxHeartbeats 2000000 in
theorem isWithinNumber_any (r : Int) (w : World) : Calls Tryd.prog 45 #[.int .i32 r] w fun e w' => e = .returned (.bool (inT r tisWithinNumber)) ∧ Below w.heap.size w w' := by
  have HS := hideB (stands_any r tisWithinNumber (some ⟨w.heap.size, 0, none⟩) 10 ⟨by decide, by decide⟩ (by decide) (w.alloc (.cells #[.int .i32 44, .int .i32 44, .int .i32 46, .int .i32 47, .int .i32 58, .int .i32 58, .int .i32 160, .int .i32 160, .int .i32 1548, .int .i32 1548, .int .i32 8239, .int .i32 8239, .int .i32 8260, .int .i32 8260, .int .i32 65292, .int .i32 65292, .int .i32 65294, .int .i32 65295, .int .i32 65306, .int .i32 65306] 100)) (tbr_new w tisWithinNumber _ _ rfl))
  rw [show tisWithinNumber.length = 10 from rfl] at HS
  generalize inT r tisWithinNumber = z at *
  go_enter Tryd.func45, Tryd.ntmps45
  go_wp2_with fail
  refine HS.out.mono ?_
  rintro e w1 ⟨rfl, b1⟩
  have HB := hideB (bupB (bel1B _ _) b1)
  clear b1 HS
  go_wp2_with fail
  go_ret
  exact ⟨rfl, HB.out⟩
set_option maxRecDepth 100000 in
set_option maxHeartbeats 2000000 in
theorem isMark_any (r : Int) (w : World) : Calls Tryd.prog 63 #[.int .i32 r] w fun e w' => e = .returned (.bool (inT r tisMark)) ∧ Below w.heap.size w w' := by
  have HS := hideB (stands_any r tisMark (some ⟨w.heap.size, 0, none⟩) 18 ⟨by decide, by decide⟩ (by decide) (w.alloc (.cells #[.int .i32 768, .int .i32 879, .int .i32 1155, .int .i32 1161, .int .i32 1425, .int .i32 1469, .int .i32 1471, .int .i32 1471, .int .i32 1473, .int .i32 1474, .int .i32 1476, .int .i32 1477, .int .i32 1479, .int .i32 1479, .int .i32 1552, .int .i32 1562, .int .i32 1611, .int .i32 1631, .int .i32 1648, .int .i32 1648, .int .i32 1750, .int .i32 1756, .int .i32 1759, .int .i32 1764, .int .i32 1767, .int .i32 1768, .int .i32 1770, .int .i32 1773, .int .i32 8400, .int .i32 8447, .int .i32 65024, .int .i32 65039, .int .i32 65056, .int .i32 65071, .int .i32 917760, .int .i32 917999] 100)) (tbr_new w tisMark _ _ rfl))
  rw [show tisMark.length = 18 from rfl] at HS
  generalize inT r tisMark = z at *
  go_enter Tryd.func63, Tryd.ntmps63
  go_wp2_with fail
  refine HS.out.mono ?_
  rintro e w1 ⟨rfl, b1⟩
  have HB := hideB (bupB (bel1B _ _) b1)
  clear b1 HS
  go_wp2_with fail
  go_ret
  exact ⟨rfl, HB.out⟩
set_option maxRecDepth 100000 in
set_option maxHeartbeats 2000000 in
theorem isArabicLetter_any (r : Int) (w : World) : Calls Tryd.prog 64 #[.int .i32 r] w fun e w' => e = .returned (.bool (inT r tisArabicLetter)) ∧ Below w.heap.size w w' := by
  have HS := hideB (stands_any r tisArabicLetter (some ⟨w.heap.size, 0, none⟩) 4 ⟨by decide, by decide⟩ (by decide) (w.alloc (.cells #[.int .i32 1536, .int .i32 1983, .int .i32 2208, .int .i32 2303, .int .i32 64336, .int .i32 65023, .int .i32 65136, .int .i32 65278] 100)) (tbr_new w tisArabicLetter _ _ rfl))
  rw [show tisArabicLetter.length = 4 from rfl] at HS
  generalize inT r tisArabicLetter = z at *
  go_enter Tryd.func64, Tryd.ntmps64
  go_wp2_with fail
  refine HS.out.mono ?_
  rintro e w1 ⟨rfl, b1⟩
  have HB := hideB (bupB (bel1B _ _) b1)
  clear b1 HS
  go_wp2_with fail
  go_ret
  exact ⟨rfl, HB.out⟩
set_option maxRecDepth 100000 in
set_option maxHeartbeats 2000000 in
theorem isLeftGoing_any (r : Int) (w : World) : Calls Tryd.prog 65 #[.int .i32 r] w fun e w' => e = .returned (.bool (inT r tisLeftGoing)) ∧ Below w.heap.size w w' := by
  have HS := hideB (stands_any r tisLeftGoing (some ⟨w.heap.size, 0, none⟩) 6 ⟨by decide, by decide⟩ (by decide) (w.alloc (.cells #[.int .i32 1424, .int .i32 1535, .int .i32 1984, .int .i32 2207, .int .i32 8207, .int .i32 8207, .int .i32 64285, .int .i32 64335, .int .i32 67584, .int .i32 69631, .int .i32 124928, .int .i32 126975] 100)) (tbr_new w tisLeftGoing _ _ rfl))
  rw [show tisLeftGoing.length = 6 from rfl] at HS
  generalize inT r tisLeftGoing = z at *
  go_enter Tryd.func65, Tryd.ntmps65
  go_wp2_with fail
  refine HS.out.mono ?_
  rintro e w1 ⟨rfl, b1⟩
  have HB := hideB (bupB (bel1B _ _) b1)
  clear b1 HS
  go_wp2_with fail
  go_ret
  exact ⟨rfl, HB.out⟩
set_option maxRecDepth 100000 in
set_option maxHeartbeats 2000000 in
theorem isNeutral_any (r : Int) (w : World) : Calls Tryd.prog 66 #[.int .i32 r] w fun e w' => e = .returned (.bool (inT r tisNeutral)) ∧ Below w.heap.size w w' := by
  have HS := hideB (stands_any r tisNeutral (some ⟨w.heap.size, 0, none⟩) 36 ⟨by decide, by decide⟩ (by decide) (w.alloc (.cells #[.int .i32 0, .int .i32 8, .int .i32 14, .int .i32 27, .int .i32 33, .int .i32 34, .int .i32 38, .int .i32 42, .int .i32 59, .int .i32 64, .int .i32 91, .int .i32 96, .int .i32 123, .int .i32 132, .int .i32 134, .int .i32 159, .int .i32 161, .int .i32 161, .int .i32 166, .int .i32 169, .int .i32 171, .int .i32 175, .int .i32 180, .int .i32 180, .int .i32 182, .int .i32 184, .int .i32 187, .int .i32 191, .int .i32 215, .int .i32 215, .int .i32 247, .int .i32 247, .int .i32 8203, .int .i32 8205, .int .i32 8208, .int .i32 8231, .int .i32 8234, .int .i32 8238, .int .i32 8245, .int .i32 8286, .int .i32 8288, .int .i32 8293, .int .i32 8298, .int .i32 8303, .int .i32 8316, .int .i32 8318, .int .i32 8332, .int .i32 8334, .int .i32 8592, .int .i32 8721, .int .i32 8723, .int .i32 11263, .int .i32 12289, .int .i32 12292, .int .i32 12296, .int .i32 12320, .int .i32 12336, .int .i32 12336, .int .i32 65279, .int .i32 65279, .int .i32 65281, .int .i32 65282, .int .i32 65286, .int .i32 65290, .int .i32 65307, .int .i32 65312, .int .i32 65339, .int .i32 65344, .int .i32 65371, .int .i32 65381, .int .i32 65529, .int .i32 65533] 100)) (tbr_new w tisNeutral _ _ rfl))
  rw [show tisNeutral.length = 36 from rfl] at HS
  generalize inT r tisNeutral = z at *
  go_enter Tryd.func66, Tryd.ntmps66
  go_wp2_with fail
  refine HS.out.mono ?_
  rintro e w1 ⟨rfl, b1⟩
  have HB := hideB (bupB (bel1B _ _) b1)
  clear b1 HS
  go_wp2_with fail
  go_ret
  exact ⟨rfl, HB.out⟩
end Go.Proofs.YtbehlaclffjkbaaDoor
