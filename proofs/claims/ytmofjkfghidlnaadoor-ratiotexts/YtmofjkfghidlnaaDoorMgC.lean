/- Several texts, one behind the other. -/
import Derived.Shelf.Small.Wraps
import Derived.Shelf.Strings.Cut
import Derived.Shelf.Strings.SlTrimAscii
import Derived.Test.YtmofjkfghidlnaaDoorMgB
import Derived.Test.YtmofjkfghidlnaaDoorProg
/- The shelf's contracts of strings.CutPrefix, Cut and Trim speak of this program. -/
namespace Go.Proofs.YtmofjkfghidlnaaDoor
open Go.Shelf
def lay103Ren : Ren := ⟨fun x => if x = 103 then 99 else if x = 206 then 125 else if x = 210 then 111 else x, fun x => if x = 3 then 3 else if x = 4 then 4 else if x = 9 then 9 else if x = 24 then 113 else x, fun x => x⟩
set_option maxRecDepth 100000 in
theorem lay103 : Lays.n103 Tryd.prog lay103Ren := { mixed := by kernel_rfl, f103 := by kernel_rfl, f206 := by kernel_rfl, f210 := by kernel_rfl, t3 := by kernel_rfl, a3 := fun _ => by kernel_rfl, z3 := fun _ => by kernel_rfl, v3 := fun _ => by kernel_rfl, t4 := by kernel_rfl, a4 := fun _ => by kernel_rfl, z4 := fun _ => by kernel_rfl, v4 := fun _ => by kernel_rfl, t9 := by kernel_rfl, a9 := fun _ => by kernel_rfl, z9 := fun _ => by kernel_rfl, v9 := fun _ => by kernel_rfl, t24 := by kernel_rfl, a24 := fun _ => by kernel_rfl, z24 := fun _ => by kernel_rfl, v24 := fun _ => by kernel_rfl }
def lay145Ren : Ren := ⟨fun x => if x = 145 then 100 else if x = 217 then 136 else if x = 219 then 126 else if x = 220 then 112 else if x = 224 then 138 else if x = 225 then 137 else if x = 266 then 145 else if x = 267 then 139 else if x = 314 then 146 else x, fun x => if x = 3 then 3 else if x = 4 then 4 else if x = 5 then 5 else if x = 9 then 9 else if x = 46 then 102 else if x = 51 then 149 else if x = 59 then 115 else if x = 146 then 156 else x, fun x => if x = 1 then 3 else x⟩
set_option maxRecDepth 100000 in
theorem lay145 : Lays.n145 Tryd.prog lay145Ren := { mixed := by kernel_rfl, f145 := by kernel_rfl, f217 := by kernel_rfl, f219 := by kernel_rfl, f220 := by kernel_rfl, f224 := by kernel_rfl, f225 := by kernel_rfl, f266 := by kernel_rfl, f267 := by kernel_rfl, f314 := by kernel_rfl, t3 := by kernel_rfl, a3 := fun _ => by kernel_rfl, z3 := fun _ => by kernel_rfl, v3 := fun _ => by kernel_rfl, t4 := by kernel_rfl, a4 := fun _ => by kernel_rfl, z4 := fun _ => by kernel_rfl, v4 := fun _ => by kernel_rfl, t5 := by kernel_rfl, a5 := fun _ => by kernel_rfl, z5 := fun _ => by kernel_rfl, v5 := fun _ => by kernel_rfl, t9 := by kernel_rfl, a9 := fun _ => by kernel_rfl, z9 := fun _ => by kernel_rfl, v9 := fun _ => by kernel_rfl, t46 := by kernel_rfl, a46 := fun _ => by kernel_rfl, z46 := fun _ => by kernel_rfl, v46 := fun _ => by kernel_rfl, t51 := by kernel_rfl, a51 := fun _ => by kernel_rfl, z51 := fun _ => by kernel_rfl, v51 := fun _ => by kernel_rfl, t59 := by kernel_rfl, a59 := fun _ => by kernel_rfl, z59 := fun _ => by kernel_rfl, v59 := fun _ => by kernel_rfl, t146 := by kernel_rfl, a146 := fun _ => by kernel_rfl, z146 := fun _ => by kernel_rfl, v146 := fun _ => by kernel_rfl, g1 := by kernel_rfl }
def lay160Ren : Ren := ⟨fun x => if x = 119 then 148 else if x = 120 then 142 else if x = 137 then 147 else if x = 151 then 129 else if x = 152 then 141 else if x = 160 then 103 else if x = 197 then 128 else if x = 217 then 136 else if x = 224 then 138 else if x = 225 then 137 else if x = 227 then 115 else if x = 228 then 127 else if x = 231 then 113 else if x = 232 then 114 else if x = 233 then 116 else if x = 234 then 117 else if x = 235 then 118 else if x = 236 then 119 else if x = 260 then 140 else if x = 266 then 145 else if x = 271 then 130 else x, fun x => if x = 0 then 0 else if x = 3 then 3 else if x = 4 then 4 else if x = 5 then 5 else if x = 9 then 9 else if x = 21 then 21 else if x = 46 then 102 else if x = 105 then 143 else if x = 116 then 126 else if x = 117 then 127 else if x = 119 then 158 else if x = 124 then 130 else if x = 138 then 160 else if x = 139 then 161 else x, fun x => if x = 3 then 4 else if x = 4 then 5 else x⟩
set_option maxRecDepth 100000 in
theorem lay160 : Lays.n160 Tryd.prog lay160Ren := { mixed := by kernel_rfl, f119 := by kernel_rfl, f120 := by kernel_rfl, f137 := by kernel_rfl, f151 := by kernel_rfl, f152 := by kernel_rfl, f160 := by kernel_rfl, f197 := by kernel_rfl, f217 := by kernel_rfl, f224 := by kernel_rfl, f225 := by kernel_rfl, f227 := by kernel_rfl, f228 := by kernel_rfl, f231 := by kernel_rfl, f232 := by kernel_rfl, f233 := by kernel_rfl, f234 := by kernel_rfl, f235 := by kernel_rfl, f236 := by kernel_rfl, f260 := by kernel_rfl, f266 := by kernel_rfl, f271 := by kernel_rfl, t0 := by kernel_rfl, a0 := fun _ => by kernel_rfl, z0 := fun _ => by kernel_rfl, v0 := fun _ => by kernel_rfl, t3 := by kernel_rfl, a3 := fun _ => by kernel_rfl, z3 := fun _ => by kernel_rfl, v3 := fun _ => by kernel_rfl, t4 := by kernel_rfl, a4 := fun _ => by kernel_rfl, z4 := fun _ => by kernel_rfl, v4 := fun _ => by kernel_rfl, t5 := by kernel_rfl, a5 := fun _ => by kernel_rfl, z5 := fun _ => by kernel_rfl, v5 := fun _ => by kernel_rfl, t9 := by kernel_rfl, a9 := fun _ => by kernel_rfl, z9 := fun _ => by kernel_rfl, v9 := fun _ => by kernel_rfl, t21 := by kernel_rfl, a21 := fun _ => by kernel_rfl, z21 := fun _ => by kernel_rfl, v21 := fun _ => by kernel_rfl, t46 := by kernel_rfl, a46 := fun _ => by kernel_rfl, z46 := fun _ => by kernel_rfl, v46 := fun _ => by kernel_rfl, t105 := by kernel_rfl, a105 := fun _ => by kernel_rfl, z105 := fun _ => by kernel_rfl, v105 := fun _ => by kernel_rfl, t116 := by kernel_rfl, a116 := fun _ => by kernel_rfl, z116 := fun _ => by kernel_rfl, t117 := by kernel_rfl, a117 := fun _ => by kernel_rfl, z117 := fun _ => by kernel_rfl, v117 := fun _ => by kernel_rfl, t119 := by kernel_rfl, a119 := fun _ => by kernel_rfl, z119 := fun _ => by kernel_rfl, t124 := by kernel_rfl, a124 := fun _ => by kernel_rfl, z124 := fun _ => by kernel_rfl, v124 := fun _ => by kernel_rfl, t138 := by kernel_rfl, a138 := fun _ => by kernel_rfl, z138 := fun _ => by kernel_rfl, v138 := fun _ => by kernel_rfl, t139 := by kernel_rfl, a139 := fun _ => by kernel_rfl, z139 := fun _ => by kernel_rfl, v139 := fun _ => by kernel_rfl, g3 := by kernel_rfl, g4 := by kernel_rfl }
end Go.Proofs.YtmofjkfghidlnaaDoor

/- Contracts for package ratio's texts: strings.Cut at one byte; digits. -/
namespace Go.Proofs.YtmofjkfghidlnaaDoor
open Go.RowKit Go.Shelf
attribute [local go_sem] Oper.semAt_some

/-- A string of these bytes. -/
def bs (l : List UInt8) : ByteArray := ⟨l.toArray⟩
theorem bs_list (l : List UInt8) : (bs l).data.toList = l := by simp [bs]
theorem bs_of (s : ByteArray) : bs s.data.toList = s := by cases s; simp [bs]
theorem bs_toList (l : List UInt8) : (bs l).toList = l := by rw [Lib.toList_data, bs_list]
attribute [local go_sem] bs_toList
theorem bs_size (l : List UInt8) : (bs l).size = l.length := by simp [bs, ByteArray.size]

theorem index1_any (s : ByteArray) (c : UInt8) (w : World) :
    Calls Tryd.prog 126 #[.string s, .string ⟨#[c]⟩] w fun e w' => e = .returned (.int .i64 (Lib.index s.data.toList [c])) ∧ w' = w := by
  rw [Lib.index_one]
  exact Any.stringslite_Index_one (ρ := lay145Ren) { lay145 with } s c w

set_option maxRecDepth 100000 in
theorem slcut_any (s : ByteArray) (hs : s.size ≤ 9223372036854775807) (c : UInt8) (w : World) :
    Calls Tryd.prog 112 #[.string s, .string ⟨#[c]⟩] w fun e w' => e = .returned (.tuple #[.string ⟨(Lib.cut s.data.toList [c]).1.toArray⟩, .string ⟨(Lib.cut s.data.toList [c]).2.1.toArray⟩, .bool (Lib.cut s.data.toList [c]).2.2]) ∧ ∃ n, w' = w.drewN n := by
  have HI := hideR (index1_any s c)
  have h1 : (⟨#[c]⟩ : ByteArray).size = 1 := rfl
  rcases Lib.indexB_cases s ⟨#[c]⟩ with hix | ⟨i, hix, hroom⟩
  · obtain ⟨e1, e2, e3⟩ := Lib.cutB_miss s ⟨#[c]⟩ hix
    rw [show Lib.index s.data.toList [c] = _ from hix] at HI
    rw [show (⟨(Lib.cut s.data.toList [c]).1.toArray⟩ : ByteArray) = _ from e1, show (⟨(Lib.cut s.data.toList [c]).2.1.toArray⟩ : ByteArray) = _ from e2, show (Lib.cut s.data.toList [c]).2.2 = _ from e3]
    clear e1 e2 e3 hix
    go_enter Tryd.func112, Tryd.ntmps112
    go_wp2_with fail
    go_at_call 126
    refine (HI.out _).mono ?_
    rintro e w1 ⟨rfl, hw⟩
    obtain rfl := hw.symm
    go_wp2_with fail
    go_ret3
    exact ⟨rfl, 0, rfl⟩
  · obtain ⟨e1, e2, e3⟩ := Lib.cutB_hit s ⟨#[c]⟩ i hix
    have c1 : (0 : Int) ≤ ↑i := by omega
    rw [h1] at hroom e2
    have c2 : (↑i : Int) ≤ ↑s.size := by omega
    have c3 : (0 : Int) ≤ ↑i + 1 := by omega
    have c4 : (↑i + 1 : Int) ≤ ↑s.size := by omega
    have c5 : (↑i : Int) < 9223372036854775807 := by omega
    rw [show Lib.index s.data.toList [c] = _ from hix] at HI
    rw [show (⟨(Lib.cut s.data.toList [c]).1.toArray⟩ : ByteArray) = _ from e1, show (⟨(Lib.cut s.data.toList [c]).2.1.toArray⟩ : ByteArray) = _ from e2, show (Lib.cut s.data.toList [c]).2.2 = _ from e3]
    clear e1 e2 e3 hix
    go_enter Tryd.func112, Tryd.ntmps112
    go_wp2_with fail
    go_at_call 126
    refine (HI.out _).mono ?_
    rintro e w1 ⟨rfl, hw⟩
    obtain rfl := hw.symm
    go_wp2_with fail
    go_region
    all_goals go_wp2_with fail
    all_goals go_ret3
    all_goals exact ⟨rfl, 1, rfl⟩

theorem cut_any (l : List UInt8) (hs : l.length ≤ 9223372036854775807) (c : UInt8) (w : World) :
    Calls Tryd.prog 100 #[.string (bs l), .string ⟨#[c]⟩] w fun e w' => e = .returned (.tuple #[.string (bs (Lib.cut l [c]).1), .string (bs (Lib.cut l [c]).2.1), .bool (Lib.cut l [c]).2.2]) ∧ ∃ n, w' = w.drewN n := by
  have HI := hideR (slcut_any (bs l) (by rw [bs_size]; exact hs) c)
  rw [bs_list] at HI
  change Hid (∀ w, Calls Tryd.prog 112 #[.string (bs l), .string ⟨#[c]⟩] w fun e w' => e = .returned (.tuple #[.string (bs (Lib.cut l [c]).1), .string (bs (Lib.cut l [c]).2.1), .bool (Lib.cut l [c]).2.2]) ∧ ∃ n, w' = w.drewN n) at HI
  generalize Lib.cut l [c] = r at *
  go_enter Tryd.func100, Tryd.ntmps100
  go_wp2_with fail
  go_at_call 112
  refine (HI.out _).mono ?_
  rintro e w1 ⟨rfl, n, rfl⟩
  go_wp2_with fail
  go_ret3
  exact ⟨rfl, n, rfl⟩

/-! digits -/
def isDig (c : UInt8) : Bool := decide (48 ≤ c.toNat ∧ c.toNat ≤ 57)
def digL : List UInt8 := [48, 49, 50, 51, 52, 53, 54, 55, 56, 57]
theorem dig_contains (c : UInt8) : digL.contains c = isDig c := by
  have h : ∀ n : Fin 256, digL.contains (UInt8.ofNat n.1) = isDig (UInt8.ofNat n.1) := by decide +kernel
  have := h ⟨c.toNat, c.toNat_lt⟩
  simpa using this
theorem dropWhile_nil {p : UInt8 → Bool} : ∀ (l : List UInt8), l.dropWhile p = [] ↔ l.all p = true
  | [] => by simp
  | a :: l => by
    cases h : p a <;> simp [List.dropWhile, h, dropWhile_nil l]
theorem trim_nil (l cs : List UInt8) : (Lib.trimS l cs == []) = l.all (cs.contains ·) := by
  rw [Bool.eq_iff_iff, beq_iff_eq]
  unfold Lib.trimS Lib.trimLeftS
  rw [dropWhile_nil]
  constructor
  · intro h
    -- what is left behind the trailing ones is all in the set, and so is the rest
    unfold Lib.trimRightS at h
    have h2 : ((l.reverse.dropWhile (cs.contains ·)).all (cs.contains ·)) = true := by rw [List.all_reverse] at h; exact h
    have h3 : l.reverse.dropWhile (cs.contains ·) = [] := by
      cases hd : l.reverse.dropWhile (cs.contains ·) with
      | nil => rfl
      | cons a t =>
        have := List.head_dropWhile_not (p := (cs.contains ·)) (l := l.reverse) (by rw [hd]; simp)
        rw [hd] at h2
        simp only [hd, List.head_cons] at this
        rw [List.all_cons, this] at h2
        cases h2
    rw [dropWhile_nil, List.all_reverse] at h3
    exact h3
  · intro h
    unfold Lib.trimRightS
    rw [← List.all_reverse, ← dropWhile_nil] at h
    rw [h]
    rfl

theorem trim_any (l : List UInt8) (h : l.length ≤ 9223372036854775807) (w : World) :
    Calls Tryd.prog 103 #[.string (bs l), .string ⟨#[48, 49, 50, 51, 52, 53, 54, 55, 56, 57]⟩] w fun e w' => e = .returned (.string (bs (Lib.trimS l digL))) ∧ Below w.heap.size w w' := by
  have := Any.strings_Trim_laid (ρ := lay160Ren) lay160 (by kernel_rfl) (bs l) ⟨#[48, 49, 50, 51, 52, 53, 54, 55, 56, 57]⟩ w (by rw [bs_size]; exact h) (by decide) (ascii_of_all (by decide))
  rw [bs_list] at this
  exact this
theorem trim0_any (l : List UInt8) (h : l.length ≤ 9223372036854775807) (w : World) :
    Calls Tryd.prog 103 #[.string (bs l), .string ⟨#[48]⟩] w fun e w' => e = .returned (.string (bs (Lib.trimS l [48]))) ∧ Below w.heap.size w w' := by
  have := Any.strings_Trim_laid (ρ := lay160Ren) lay160 (by kernel_rfl) (bs l) ⟨#[48]⟩ w (by rw [bs_size]; exact h) (by decide) (ascii_of_all (by decide))
  rw [bs_list] at this
  exact this

/-- digits, one at least -/
def digB (l : List UInt8) : Bool := (l != []) && l.all isDig
theorem areDigits_any (l : List UInt8) (h : l.length ≤ 9223372036854775807) (w : World) :
    Calls Tryd.prog 102 #[.string (bs l)] w fun e w' => e = .returned (.bool (digB l)) ∧ Below w.heap.size w w' := by
  have HT := hideR (trim_any l h)
  by_cases h0 : l = []
  · subst h0
    rw [show bs [] = ⟨#[]⟩ from rfl, show digB [] = false from rfl]
    go_enter Tryd.func102, Tryd.ntmps102
    go_wp2_with fail
    go_ret
    exact ⟨rfl, Below.refl _ _⟩
  · have hd : digB l = (Lib.trimS l digL == []) := by
      rw [trim_nil]
      unfold digB
      rw [show (l != []) = true by simpa using h0, Bool.true_and]
      congr 1
      funext c
      exact (dig_contains c).symm
    rw [hd]
    generalize Lib.trimS l digL = t at *
    clear hd
    have hne : l.isEmpty = false := by simpa using h0
    by_cases ht : t = []
    · subst ht
      go_enter Tryd.func102, Tryd.ntmps102
      go_wp2_with fail
      go_at_call 103
      refine (HT.out _).mono ?_
      rintro e w1 ⟨rfl, b1⟩
      go_wp2_with fail
      go_ret
      exact ⟨rfl, b1⟩
    · have hte : t.isEmpty = false := by simpa using ht
      rw [show (t == []) = false by simpa using ht]
      go_enter Tryd.func102, Tryd.ntmps102
      go_wp2_with fail
      go_at_call 103
      refine (HT.out _).mono ?_
      rintro e w1 ⟨rfl, b1⟩
      go_wp2_with fail
      go_ret
      exact ⟨rfl, b1⟩

/-! numbers -/
def numB (l : List UInt8) : Bool := digB l && (l == [48] || l.head? != some 48)

theorem isNumber_any (l : List UInt8) (h : l.length ≤ 9223372036854775807) (w : World) :
    Calls Tryd.prog 101 #[.string (bs l)] w fun e w' => e = .returned (.bool (numB l)) ∧ Below w.heap.size w w' := by
  have HD := hideR (areDigits_any l h)
  cases hd : digB l
  · rw [show numB l = false by unfold numB; rw [hd]; rfl]
    rw [hd] at HD
    go_enter Tryd.func101, Tryd.ntmps101
    go_wp2_with fail
    go_at_call 102
    refine (HD.out _).mono ?_
    rintro e w1 ⟨rfl, b1⟩
    go_wp2_with fail
    go_ret
    exact ⟨rfl, b1⟩
  · rw [hd] at HD
    unfold numB
    rw [hd, Bool.true_and]
    cases l with
    | nil => simp [digB] at hd
    | cons c t =>
      by_cases h1 : c = 48
      · subst h1
        by_cases h2 : t = []
        · subst h2
          rw [show bs [48] = ⟨#[48]⟩ from rfl] at *
          rw [show (([48] : List UInt8) == [48] || ([48] : List UInt8).head? != some 48) = true by decide]
          go_enter Tryd.func101, Tryd.ntmps101
          go_wp2_with fail
          go_at_call 102
          refine (HD.out _).mono ?_
          rintro e w1 ⟨rfl, b1⟩
          go_wp2_with fail
          go_ret
          exact ⟨rfl, b1⟩
        · have hz : 0 < (bs (48 :: t)).size := by rw [bs_size]; simp
          rw [show ((48 :: t : List UInt8) == [48] || (48 :: t : List UInt8).head? != some 48) = false by simp [h2]]
          go_enter Tryd.func101, Tryd.ntmps101
          go_wp2_with fail
          go_at_call 102
          refine (HD.out _).mono ?_
          rintro e w1 ⟨rfl, b1⟩
          go_wp2_with fail
          go_ret
          exact ⟨by rw [show (bs (48 :: t))[0] = 48 from rfl]; simp [h2], b1⟩
      · have hz : 0 < (bs (c :: t)).size := by rw [bs_size]; simp
        rw [show ((c :: t : List UInt8) == [48] || (c :: t : List UInt8).head? != some 48) = true by simp [h1]]
        go_enter Tryd.func101, Tryd.ntmps101
        go_wp2_with fail
        go_at_call 102
        refine (HD.out _).mono ?_
        rintro e w1 ⟨rfl, b1⟩
        go_wp2_with fail
        go_ret
        exact ⟨by rw [show (bs (c :: t))[0] = c from rfl, show (((c.toNat : Nat) : Int) != 48) = true by simp only [bne_iff_ne, ne_eq]; intro e; apply h1; apply UInt8.toNat_inj.1; simp; omega, Bool.or_true]; rfl, b1⟩

/-- what digits say -/
def valN (l : List UInt8) : Nat := l.foldl (fun n c => n * 10 + (c.toNat - 48)) 0
theorem valN_step (l : List UInt8) (k : Nat) (hk : k < l.length) : valN (l.take (k + 1)) = valN (l.take k) * 10 + (l[k].toNat - 48) := by
  unfold valN
  rw [List.take_succ_eq_append_getElem hk, List.foldl_append]
  rfl
theorem dig_at (l : List UInt8) (h : l.all isDig = true) (k : Nat) (hk : k < l.length) : 48 ≤ l[k].toNat ∧ l[k].toNat ≤ 57 := by
  have := List.all_eq_true.1 h l[k] (List.getElem_mem hk)
  exact of_decide_eq_true this
theorem valN_lt (l : List UInt8) (h : l.all isDig = true) : ∀ k, k ≤ l.length → valN (l.take k) < 10 ^ k
  | 0, _ => by simp [valN]
  | k + 1, hk => by
    rw [valN_step l k hk, Nat.pow_succ]
    have := valN_lt l h k (by omega)
    have := dig_at l h k hk
    omega
theorem pow10_le (k m : Nat) (h : k ≤ m) : 10 ^ k ≤ 10 ^ m := Nat.pow_le_pow_right (by omega) h
theorem bs_get (l : List UInt8) (k : Nat) (hk : k < (bs l).size) : (bs l)[k] = l[k]'(by rw [bs_size] at hk; exact hk) := by
  exact List.getElem_toArray (xs := l) (i := k) hk

theorem number_any (l : List UInt8) (h : l.all isDig = true) (hl : l.length ≤ 19) (w : World) :
    Calls Tryd.prog 104 #[.string (bs l)] w fun e w' => e = .returned (.int .u64 (valN l)) ∧ w' = w := by
  have hsz := bs_size l
  go_enter Tryd.func104, Tryd.ntmps104
  go_wp2
  go_loop [3, 7] (fun vn vi => ∃ k : Nat, k ≤ l.length ∧ vn = .int .u64 (valN (l.take k)) ∧ vi = .int .i64 k) (fun _ vi => l.length - (intOf vi).toNat)
  case atStart => exact ⟨0, by omega, rfl, rfl⟩
  case round =>
    obtain ⟨k, hk, rfl, rfl⟩ := hrel
    by_cases h1 : k < l.length
    · have hx := dig_at l h k h1
      have hv := valN_lt l h k hk
      have hp := pow10_le k 18 (by omega)
      have hst := valN_step l k h1
      have hg := bs_get l k (by omega)
      have z1 : (k : Int) < ((bs l).size : Int) := by omega
      have z2 : k < (bs l).size := by omega
      have hv2 : valN (l.take k) < 1000000000000000000 := by omega
      generalize valN (l.take k) = v at *
      clear hv hp
      go_wp2
      go_round
      case rel => exact ⟨k + 1, by omega, by rw [hst]; go_num, by go_num⟩
      case measure => simp [intOf]; omega
    · obtain rfl : k = l.length := by omega
      go_wp2
      go_ret
      exact ⟨rfl, rfl⟩
end Go.Proofs.YtmofjkfghidlnaaDoor

/- Contracts for package ratio's texts: what was read. -/
namespace Go.Proofs.YtmofjkfghidlnaaDoor
open Go.RowKit Go.Shelf
attribute [local go_sem] Oper.semAt_some bs_toList

theorem bs_append (a b : List UInt8) : bs a ++ bs b = bs (a ++ b) := by
  apply ByteArray.ext
  simp [bs]

theorem scale_any (b : Nat) (be : List UInt8) (hb : be.length ≤ 9) (w : World) (c3 : w.cell? ⟨b, 3, none⟩ = some (.string (bs be))) :
    Calls Tryd.prog 105 #[.pointer (some ⟨b, 0, none⟩)] w fun e w' => e = .returned (.int .u64 ((10 ^ be.length : Nat) : Int)) ∧ w' = w := by
  have hsz := bs_size be
  go_enter Tryd.func105, Tryd.ntmps105
  go_wp2
  go_loop [3, 9] (fun vn vi => ∃ k : Nat, k ≤ be.length ∧ vn = .int .u64 ((10 ^ k : Nat) : Int) ∧ vi = .int .i64 k) (fun _ vi => be.length - (intOf vi).toNat)
  case atStart => exact ⟨0, by omega, rfl, rfl⟩
  case round =>
    obtain ⟨k, hk, rfl, rfl⟩ := hrel
    by_cases h1 : k < be.length
    · have hp := pow10_le k 8 (by omega)
      have hst : 10 ^ (k + 1) = 10 ^ k * 10 := Nat.pow_succ ..
      have z1 : (k : Int) < (be.length : Int) := by omega
      generalize hg : 10 ^ k = v at *
      clear hg
      have hv : (v : Int) ≤ 100000000 := by omega
      clear hp
      go_wp2
      go_round
      case rel => exact ⟨k + 1, by omega, by rw [hst]; go_num, by go_num⟩
      case measure => simp [intOf]; omega
    · obtain rfl : k = be.length := by omega
      go_wp2
      go_ret
      exact ⟨rfl, rfl⟩

theorem nought_any (b : Nat) (wh be : List UInt8) (hb : (wh ++ be).length ≤ 9223372036854775807) (w : World) (c1 : w.cell? ⟨b, 1, none⟩ = some (.string (bs wh))) (c3 : w.cell? ⟨b, 3, none⟩ = some (.string (bs be))) :
    Calls Tryd.prog 80 #[.pointer (some ⟨b, 0, none⟩)] w fun e w' => e = .returned (.bool ((wh ++ be).all ([48].contains ·))) ∧ Below w.heap.size w w' := by
  have HT := hideR (trim0_any (wh ++ be) hb)
  rw [← trim_nil]
  generalize Lib.trimS (wh ++ be) [48] = t at *
  have ha : ∀ w, (Op.stringOp .add (bs wh) (bs be)).run Tryd.prog w = .ok (.string (bs (wh ++ be))) w := fun w => by
    rw [run_string_add_sum w _ _ (by rw [bs_size, bs_size]; simpa using hb), bs_append]
  generalize bs (wh ++ be) = x at *
  cases ht : t == []
  all_goals (
    have hte : t.isEmpty = (t == []) := by cases t <;> rfl
    rw [ht] at hte
    go_enter Tryd.func80, Tryd.ntmps80
    go_wp2_with fail
    go_region_with (go_at_call 103; refine (HT.out _).mono ?_; rintro e w1 ⟨rfl, b1⟩))
  all_goals go_wp2_with fail
  all_goals go_ret
  all_goals exact ⟨rfl, bup (Below.refl _ _).drew b1⟩

theorem mul_small (x y : Nat) (hx : x < 18446744073709551616) (hy : y < 18446744073709551616) (w : World) : Calls Tryd.prog 71 #[.int .u64 x, .int .u64 y] w fun e w' => e = .returned (.tuple #[.int .u64 (hiZ ((x : Int) * y)), .int .u64 (loZ ((x : Int) * y))]) ∧ w' = w :=
  mul_i x y ⟨by omega, by omega⟩ ⟨by omega, by omega⟩ w

def topN (wh be : List UInt8) : Nat := valN wh * 10 ^ be.length + valN be
theorem loZ_small (n : Nat) (h : n < 18446744073709551616) : loZ (n : Int) = n ∧ hiZ (n : Int) = 0 := by unfold loZ hiZ; omega

set_option maxRecDepth 100000 in
theorem top_any (b : Nat) (below : Bool) (wh be : List UInt8) (dw : wh.all isDig = true) (db : be.all isDig = true) (lw : wh.length ≤ 19) (lb : be.length ≤ 9) (w : World) (hb : b < w.heap.size) (c0 : w.cell? ⟨b, 0, none⟩ = some (.bool below)) (c1 : w.cell? ⟨b, 1, none⟩ = some (.string (bs wh))) (c3 : w.cell? ⟨b, 3, none⟩ = some (.string (bs be))) :
    Calls Tryd.prog 81 #[.pointer (some ⟨b, 0, none⟩)] w fun e w' => e = .returned (wv (if below = true then -(topN wh be : Int) else (topN wh be : Int))) ∧ Below w.heap.size w w' := by
  have HN1 := hideR (number_any wh dw lw)
  have HN2 := hideR (number_any be db (by omega))
  have HS := hideR (scale_any b be lb)
  have v1 := valN_lt wh dw wh.length (Nat.le_refl _)
  have v2 := valN_lt be db be.length (Nat.le_refl _)
  rw [List.take_length] at v1 v2
  have p1 := pow10_le wh.length 19 lw
  have p2 := pow10_le be.length 9 lb
  have HM := hideR (mul_small (valN wh) (10 ^ be.length) (by omega) (by omega))
  have HP := hideR (plus_any ((valN wh : Int) * ((10 ^ be.length : Nat) : Int)) (valN be))
  have ht : (topN wh be : Int) = (valN wh : Int) * ((10 ^ be.length : Nat) : Int) + (valN be : Int) := by unfold topN; rw [Int.natCast_add, Int.natCast_mul]
  rw [← ht] at HP
  have HG := hideR (negative_any (topN wh be))
  obtain ⟨z1, z2⟩ := loZ_small (valN be) (by omega)
  unfold wv at HP
  rw [z1, z2] at HP
  clear ht v1 v2 p1 p2 z1 z2
  generalize hiZ ((valN wh : Int) * ((10 ^ be.length : Nat) : Int)) = ph at *
  generalize loZ ((valN wh : Int) * ((10 ^ be.length : Nat) : Int)) = pl at *
  generalize 10 ^ be.length = sc at *
  generalize valN wh = vw at *
  generalize valN be = vb at *
  generalize topN wh be = tp at *
  unfold wv at *
  have n0 := World.new_ne w ⟨b, 0, none⟩ c0
  have n1 := World.new_ne w ⟨b, 1, none⟩ c1
  have n3 := World.new_ne w ⟨b, 3, none⟩ c3
  have hb1 : b < w.heap.size + 1 := by omega
  cases below
  all_goals (
    go_enter Tryd.func81, Tryd.ntmps81
    go_wp2_with fail
    go_at_call_of 104 wh
    refine (HN1.out _).mono ?_
    rintro e w1 ⟨rfl, hw⟩
    obtain rfl := hw.symm
    go_wp2_with fail
    go_at_call 105
    refine (HS.out _ (by go_simp)).mono ?_
    rintro e w1 ⟨rfl, hw⟩
    obtain rfl := hw.symm
    go_wp2_with fail
    go_at_call 71
    refine (HM.out _).mono ?_
    rintro e w1 ⟨rfl, hw⟩
    obtain rfl := hw.symm
    go_wp2_with fail
    go_at_call_of 104 be
    refine (HN2.out _).mono ?_
    rintro e w1 ⟨rfl, hw⟩
    obtain rfl := hw.symm
    go_wp2_with fail
    go_at_call 68
    refine (HP.out _).mono ?_
    rintro e w2 ⟨rfl, b2⟩
    have k0 : w2.cell? ⟨b, 0, none⟩ = some (.bool _) := (b2.cell (p := ⟨b, 0, none⟩) (by simp; omega)).trans (((bel1 w _).cell (p := ⟨b, 0, none⟩) hb).trans c0)
    have r0 : w2.cell? ⟨w.heap.size, 0, none⟩ = some (.int .u64 0) := (b2.cell (p := ⟨w.heap.size, 0, none⟩) (by simp)).trans (by go_simp)
    have r1 : w2.cell? ⟨w.heap.size, 1, none⟩ = some (.int .u64 0) := (b2.cell (p := ⟨w.heap.size, 1, none⟩) (by simp)).trans (by go_simp)
    have f0 : w2.frozen? ⟨w.heap.size, 0, none⟩ = false := (b2.frozen (p := ⟨w.heap.size, 0, none⟩) (by simp)).trans (by go_simp)
    have f1 : w2.frozen? ⟨w.heap.size, 1, none⟩ = false := (b2.frozen (p := ⟨w.heap.size, 1, none⟩) (by simp)).trans (by go_simp)
    have zz : w.heap.size < w2.heap.size := by have := b2.size; simp at this; omega
    have zb : b < w2.heap.size := by omega
    go_wp2_with fail)
  · have BA : Below w.heap.size w ((w2.setCell ⟨w.heap.size, 0, none⟩ (.int .u64 (hiZ tp))).setCell ⟨w.heap.size, 1, none⟩ (.int .u64 (loZ tp))) := ((bup (bel1 w _) b2).setCell (Nat.le_refl _) _).setCell (Nat.le_refl _) _
    have a0 : ((w2.setCell ⟨w.heap.size, 0, none⟩ (.int .u64 (hiZ tp))).setCell ⟨w.heap.size, 1, none⟩ (.int .u64 (loZ tp))).cell? ⟨w.heap.size, 0, none⟩ = some (.int .u64 (hiZ tp)) := by go_simp
    have a1 : ((w2.setCell ⟨w.heap.size, 0, none⟩ (.int .u64 (hiZ tp))).setCell ⟨w.heap.size, 1, none⟩ (.int .u64 (loZ tp))).cell? ⟨w.heap.size, 1, none⟩ = some (.int .u64 (loZ tp)) := by go_simp
    have zA : w.heap.size < ((w2.setCell ⟨w.heap.size, 0, none⟩ (.int .u64 (hiZ tp))).setCell ⟨w.heap.size, 1, none⟩ (.int .u64 (loZ tp))).heap.size := by simp; omega
    generalize ((w2.setCell ⟨w.heap.size, 0, none⟩ (.int .u64 (hiZ tp))).setCell ⟨w.heap.size, 1, none⟩ (.int .u64 (loZ tp))) = A at *
    have x0 : (A.alloc (.cells #[.int .u64 (hiZ tp), .int .u64 (loZ tp)] 70)).cell? ⟨w.heap.size, 0, none⟩ = _ := ((bel1 A _).cell (p := ⟨w.heap.size, 0, none⟩) zA).trans a0
    have x1 : (A.alloc (.cells #[.int .u64 (hiZ tp), .int .u64 (loZ tp)] 70)).cell? ⟨w.heap.size, 1, none⟩ = _ := ((bel1 A _).cell (p := ⟨w.heap.size, 1, none⟩) zA).trans a1
    exact bodyPost_ret (v := .agg #[.int .u64 (hiZ tp), .int .u64 (loZ tp)]) (by simp [results, Tryd.results81, go_sem, x0, x1]) rfl ⟨rfl, BA.alloc (by omega) _⟩
  · go_at_call 58
    refine (HG.out _).mono ?_
    rintro e w3 ⟨rfl, b3⟩
    have B3 := bup (bel1 w2 _) b3
    obtain ⟨q0, q1, q2, q3⟩ := two_keep B3 zz r0 r1 f0 f1
    go_wp2_with fail
    exact bodyPost_ret (v := .agg #[.int .u64 (hiZ (-tp)), .int .u64 (loZ (-tp))]) (by simp [results, Tryd.results81, go_sem, q0, q1]) rfl ⟨rfl, ((bup (bup (bel1 w _) b2) B3).setCell (Nat.le_refl _) _).setCell (Nat.le_refl _) _⟩

def botN (un be : List UInt8) : Nat := if un.isEmpty = true then 10 ^ be.length else valN un
theorem bottom_any (b : Nat) (un be : List UInt8) (du : un.all isDig = true) (lu : un.length ≤ 19) (lb : be.length ≤ 9) (w : World) (c2 : w.cell? ⟨b, 2, none⟩ = some (.string (bs un))) (c3 : w.cell? ⟨b, 3, none⟩ = some (.string (bs be))) :
    Calls Tryd.prog 82 #[.pointer (some ⟨b, 0, none⟩)] w fun e w' => e = .returned (.int .u64 (botN un be)) ∧ w' = w := by
  have HN := hideR (number_any un du lu)
  have HS := hideR (scale_any b be lb w c3)
  unfold botN
  cases hu : un.isEmpty
  · rw [if_neg (by simp)]
    go_enter Tryd.func82, Tryd.ntmps82
    go_wp2_with fail
    go_at_call 104
    refine (HN.out _).mono ?_
    rintro e w1 ⟨rfl, hw⟩
    obtain rfl := hw.symm
    go_wp2_with fail
    go_ret
    exact ⟨rfl, rfl⟩
  · rw [if_pos rfl]
    go_enter Tryd.func82, Tryd.ntmps82
    go_wp2_with fail
    go_at_call 105
    refine HS.out.mono ?_
    rintro e w1 ⟨rfl, hw⟩
    obtain rfl := hw.symm
    go_wp2_with fail
    go_ret
    exact ⟨rfl, rfl⟩
end Go.Proofs.YtmofjkfghidlnaaDoor
