/- The contract of the document's own Encode (surtitleref1): the bytes of one rune, or of what is none. -/
import Derived.Test.YtofhmecbcmahaaaDoorRpsM
import Derived.Laws.BytesArg
namespace Go.Proofs.YtofhmecbcmahaaaDoor
open Go.RowKit

set_option maxRecDepth 100000 in
set_option maxHeartbeats 1000000 in
theorem enc_1 (c : Int) (h0 : 0 ≤ c) (h : c < 128) (w : World) :
    Calls Tryd.prog 64 #[.int .i64 c] w fun e w' => e = .returned (.slice (some ⟨w.heap.size, 0, none⟩) 1 1) ∧ w' = w.alloc (.cells #[.int .u8 c] 5) := by
  have hu : IntKind.u8.wrap c = c := by rw [IntKind.wrap_u8]; omega
  go_enter Tryd.func64, Tryd.ntmps64
  go_wp2
  go_ret
  exact ⟨rfl, rfl⟩
set_option maxRecDepth 100000 in
set_option maxHeartbeats 1000000 in
theorem enc_2 (c p r : Int) (h : 128 ≤ c) (h2 : c < 2048) (hp : c / 64 = p) (hr : c % 64 = r) (w : World) :
    Calls Tryd.prog 64 #[.int .i64 c] w fun e w' => e = .returned (.slice (some ⟨w.heap.size, 0, none⟩) 2 2) ∧ w' = w.alloc (.cells #[.int .u8 (192 + p), .int .u8 (128 + r)] 5) := by
  have hp1 : 2 ≤ p ∧ p < 32 := by omega
  have hr1 : 0 ≤ r ∧ r < 64 := by omega
  have hu : IntKind.u8.wrap (192 + p) = 192 + p := by rw [IntKind.wrap_u8]; omega
  have hv : IntKind.u8.wrap (128 + r) = 128 + r := by rw [IntKind.wrap_u8]; omega
  go_enter Tryd.func64, Tryd.ntmps64
  go_wp2
  go_ret
  exact ⟨rfl, rfl⟩
set_option maxRecDepth 100000 in
set_option maxHeartbeats 1000000 in
theorem enc_3 (c p u q r : Int) (h : 2048 ≤ c) (h2 : c < 55296 ∨ (57344 ≤ c ∧ c < 65536)) (hp : c / 4096 = p) (hu : c / 64 = u) (hq : u % 64 = q) (hr : c % 64 = r) (w : World) :
    Calls Tryd.prog 64 #[.int .i64 c] w fun e w' => e = .returned (.slice (some ⟨w.heap.size, 0, none⟩) 3 3) ∧ w' = w.alloc (.cells #[.int .u8 (224 + p), .int .u8 (128 + q), .int .u8 (128 + r)] 5) := by
  have hp1 : 0 ≤ p ∧ p < 16 := by omega
  have hu1 : 0 ≤ u ∧ u < 1024 := by omega
  have hq1 : 0 ≤ q ∧ q < 64 := by omega
  have hr1 : 0 ≤ r ∧ r < 64 := by omega
  have w1 : IntKind.u8.wrap (224 + p) = 224 + p := by rw [IntKind.wrap_u8]; omega
  have w2 : IntKind.u8.wrap (128 + q) = 128 + q := by rw [IntKind.wrap_u8]; omega
  have w3 : IntKind.u8.wrap (128 + r) = 128 + r := by rw [IntKind.wrap_u8]; omega
  rcases h2 with h2 | ⟨h2, h3⟩
  all_goals
    go_enter Tryd.func64, Tryd.ntmps64
    go_wp2
    go_ret
    exact ⟨rfl, rfl⟩
set_option maxRecDepth 100000 in
set_option maxHeartbeats 1000000 in
theorem enc_4 (c o t p u q r : Int) (h : 65536 ≤ c) (h2 : c ≤ 1114111) (ho : c / 262144 = o) (ht : c / 4096 = t) (hp : t % 64 = p) (hu : c / 64 = u) (hq : u % 64 = q) (hr : c % 64 = r) (w : World) :
    Calls Tryd.prog 64 #[.int .i64 c] w fun e w' => e = .returned (.slice (some ⟨w.heap.size, 0, none⟩) 4 4) ∧ w' = w.alloc (.cells #[.int .u8 (240 + o), .int .u8 (128 + p), .int .u8 (128 + q), .int .u8 (128 + r)] 5) := by
  have ho1 : 0 ≤ o ∧ o < 5 := by omega
  have ht1 : 0 ≤ t ∧ t < 1024 := by omega
  have hp1 : 0 ≤ p ∧ p < 64 := by omega
  have hu1 : 0 ≤ u ∧ u < 65536 := by omega
  have hq1 : 0 ≤ q ∧ q < 64 := by omega
  have hr1 : 0 ≤ r ∧ r < 64 := by omega
  have w0 : IntKind.u8.wrap (240 + o) = 240 + o := by rw [IntKind.wrap_u8]; omega
  have w1 : IntKind.u8.wrap (128 + p) = 128 + p := by rw [IntKind.wrap_u8]; omega
  have w2 : IntKind.u8.wrap (128 + q) = 128 + q := by rw [IntKind.wrap_u8]; omega
  have w3 : IntKind.u8.wrap (128 + r) = 128 + r := by rw [IntKind.wrap_u8]; omega
  go_enter Tryd.func64, Tryd.ntmps64
  go_wp2
  go_ret
  exact ⟨rfl, rfl⟩
set_option maxRecDepth 100000 in
set_option maxHeartbeats 1000000 in
theorem enc_0 (c : Int) (h : c < 0 ∨ 1114111 < c ∨ (55296 ≤ c ∧ c ≤ 57343)) (w : World) :
    Calls Tryd.prog 64 #[.int .i64 c] w fun e w' => e = .returned (.slice (some ⟨w.heap.size, 0, none⟩) 3 3) ∧ w' = w.alloc (.cells #[.int .u8 239, .int .u8 191, .int .u8 189] 5) := by
  rcases h with h | h | ⟨h, h2⟩
  all_goals
    go_enter Tryd.func64, Tryd.ntmps64
    go_wp2
    go_ret
    exact ⟨rfl, rfl⟩

theorem byte_ofNat (n : Nat) (h : n < 256) : (UInt8.ofNat n).toNat = n := by simp; omega
theorem renc_any (n : Int) (w : World) :
    Calls Tryd.prog 64 #[.int .i64 n] w fun e w' => e = .returned (.slice (some ⟨w.heap.size, 0, none⟩) (encN (fixN n)).length (encN (fixN n)).length) ∧ w' = w.alloc (.cells (Lib.byteCells (encN (fixN n))).toArray 5) := by
  by_cases hb : n < 0 ∨ 1114111 < n ∨ (55296 ≤ n ∧ n ≤ 57343)
  · have hf : fixN n = 65533 := by
      unfold fixN
      rw [if_neg]
      simp [Utf8.valid]
      omega
    rw [hf]
    exact enc_0 n hb w
  · obtain ⟨c, rfl⟩ : ∃ c : Nat, n = c := ⟨n.toNat, by omega⟩
    have hf : fixN (c : Int) = c := fix_of_ok c (by unfold okN; omega)
    rw [hf]
    by_cases h1 : c < 128
    · have e : encN c = [UInt8.ofNat c] := by unfold encN; rw [if_pos h1]
      have hc : Lib.byteCells (encN c) = [.int .u8 (c : Int)] := by rw [e]; simp only [Lib.byteCells, List.map_cons, List.map_nil, byte_ofNat c (by omega)]
      rw [hc, e]
      exact enc_1 c (by omega) (by omega) w
    by_cases h2 : c < 2048
    · have e : encN c = [UInt8.ofNat (192 + c / 64), UInt8.ofNat (128 + c % 64)] := by unfold encN; rw [if_neg h1, if_pos h2]
      have hc : Lib.byteCells (encN c) = [.int .u8 (192 + (c : Int) / 64), .int .u8 (128 + (c : Int) % 64)] := by
        rw [e]
        simp only [Lib.byteCells, List.map_cons, List.map_nil, byte_ofNat (192 + c / 64) (by omega), byte_ofNat (128 + c % 64) (by omega)]
        rfl
      rw [hc, e]
      exact enc_2 c _ _ (by omega) (by omega) rfl rfl w
    by_cases h3 : c < 65536
    · have e : encN c = [UInt8.ofNat (224 + c / 4096), UInt8.ofNat (128 + c / 64 % 64), UInt8.ofNat (128 + c % 64)] := by unfold encN; rw [if_neg h1, if_neg h2, if_pos h3]
      have hc : Lib.byteCells (encN c) = [.int .u8 (224 + (c : Int) / 4096), .int .u8 (128 + (c : Int) / 64 % 64), .int .u8 (128 + (c : Int) % 64)] := by
        rw [e]
        simp only [Lib.byteCells, List.map_cons, List.map_nil, byte_ofNat (224 + c / 4096) (by omega), byte_ofNat (128 + c / 64 % 64) (by omega), byte_ofNat (128 + c % 64) (by omega)]
        rfl
      rw [hc, e]
      exact enc_3 c _ _ _ _ (by omega) (by omega) rfl rfl rfl rfl w
    · have e : encN c = [UInt8.ofNat (240 + c / 262144), UInt8.ofNat (128 + c / 4096 % 64), UInt8.ofNat (128 + c / 64 % 64), UInt8.ofNat (128 + c % 64)] := by unfold encN; rw [if_neg h1, if_neg h2, if_neg h3]
      have hc : Lib.byteCells (encN c) = [.int .u8 (240 + (c : Int) / 262144), .int .u8 (128 + (c : Int) / 4096 % 64), .int .u8 (128 + (c : Int) / 64 % 64), .int .u8 (128 + (c : Int) % 64)] := by
        rw [e]
        simp only [Lib.byteCells, List.map_cons, List.map_nil, byte_ofNat (240 + c / 262144) (by omega), byte_ofNat (128 + c / 4096 % 64) (by omega), byte_ofNat (128 + c / 64 % 64) (by omega), byte_ofNat (128 + c % 64) (by omega)]
        rfl
      rw [hc, e]
      exact enc_4 c _ _ _ _ _ _ (by omega) (by omega) rfl rfl rfl rfl rfl rfl w

/-- Numbers that lie in a list. -/
def IntsAt (w : World) (oa : Option Addr) (l : List Int) : Prop := ∀ n (hn : n < l.length), ∃ g, oa = some ⟨g, 0, none⟩ ∧ g < w.heap.size ∧ w.cell? ⟨g, n, none⟩ = some (.int .i64 l[n])
theorem IntsAt.below {w w' : World} {oa : Option Addr} {l : List Int} (h : IntsAt w oa l) (hb : Below w.heap.size w w') : IntsAt w' oa l := fun n hn => by
  obtain ⟨g, e, hg, hc⟩ := h n hn
  exact ⟨g, e, Nat.lt_of_lt_of_le hg hb.size, (hb.cell (p := ⟨g, n, none⟩) hg).trans hc⟩
theorem infoByte1 : (Tryd.prog.info? 5).map (fun i => (i.zero, i.size, i.bytes)) = some (some (.int .u8 0), 1, 1) := by kernel_rfl
theorem cells_new (w : World) (l : List Value) (t : TypeId) : ∀ j u, l[j]? = some u → (w.alloc (.cells l.toArray t)).cell? ((⟨w.heap.size, 0, none⟩ : Addr).add j) = some u := by
  intro j u hj
  have h1 := World.alloc_heap_new w (.cells l.toArray t)
  have : (w.alloc (.cells l.toArray t)).cell? ⟨w.heap.size, j, none⟩ = some u := by
    simp only [World.cell?, h1]
    simpa using hj
  by_cases c : j = 0
  · subst c; simpa [Addr.add] using this
  · simpa [Addr.add, c] using this
theorem textL_take (l : List Int) (k : Nat) (hk : k < l.length) : textL (l.take (k + 1)) = textL (l.take k) ++ encN (fixN l[k]) := by
  rw [List.take_succ_eq_append_getElem hk, textL_append]
  simp [textL]
theorem textL_le (l : List Int) : (textL l).length ≤ 4 * l.length := by
  induction l with
  | nil => simp [textL]
  | cons x l ih =>
    have := encN_length (fixN x)
    simp only [textL, List.length_append, List.length_cons]
    omega

set_option maxRecDepth 100000 in
set_option maxHeartbeats 2000000 in
theorem rtext_any (l : List Int) (hl : l.length ≤ 16777216) (oa : Option Addr) (ca : Nat) (w : World) (h : IntsAt w oa l) :
    Calls Tryd.prog 39 #[.slice oa l.length ca] w fun e w' => e = .returned (.string (textA l)) ∧ Below w.heap.size w w' := by
  obtain ⟨i0, hi, hz0, hz1, hz2⟩ := info_parts2 infoByte1
  have HH := hideO h
  clear h
  go_enter Tryd.func39, Tryd.ntmps39
  go_wp2
  go_loopw [3, 4] (fun v i wr => ∃ k : Nat, i = .int .i64 k ∧ k ≤ l.length ∧ wr.ownsRow w.heap.size 5 1 v (textL (l.take k)).length (Lib.byteCells (textL (l.take k))) ∧ Below w.heap.size w wr) (fun _ i _ => l.length - (intOf i).toNat)
  case atStart => exact ⟨0, rfl, by omega, World.ownsRow_nil _ _ _ _, Below.refl _ _⟩
  case round =>
    obtain ⟨k, rfl, hk, hown, hB⟩ := hrel
    have sB := hB.size
    by_cases hkl : k < l.length
    · obtain ⟨g, rfl, hg, hc⟩ := HH.out k hkl
      have c0 := (hB.cell (p := ⟨g, k, none⟩) hg).trans hc
      have hki : (k : Int) < (l.length : Int) := by omega
      have htk := textL_take l k hkl
      have hle := textL_le (l.take k)
      rw [List.length_take] at hle
      have hel := encN_length (fixN l[k])
      have HTK : Hid ((textL (l.take (k + 1))).length = (textL (l.take k)).length + (encN (fixN l[k])).length ∧ Lib.byteCells (textL (l.take (k + 1))) = Lib.byteCells (textL (l.take k)) ++ Lib.byteCells (encN (fixN l[k]))) := by
        refine ⟨by rw [htk, List.length_append], ?_⟩
        rw [htk]
        simp [Lib.byteCells]
      clear hc htk
      have HEN := hideO (renc_any l[k])
      have hbc : (Lib.byteCells (encN (fixN l[k]))).length = (encN (fixN l[k])).length := Lib.byteCells_length _
      have hone : ∀ u ∈ Lib.byteCells (encN (fixN l[k])), u.oneCell' = true := fun u hu => by
        simp only [Lib.byteCells, List.mem_map] at hu
        obtain ⟨b, _, rfl⟩ := hu
        rfl
      have HONE := hideO hone
      clear hone
      generalize l[k] = x at *
      generalize encN (fixN x) = bs at *
      go_wp2_with (first
        | (go_at_call 64; refine (HEN.out _).mono ?_; rintro e w2 ⟨rfl, rfl⟩)
        | (at_builtin; refine wpList_append_own _ rfl _ _ 55 rfl w.heap.size 5 i0 (.int .u8 0) 1 1 Tryd.underlying55 hi hz0 hz1 hz2 rfl (by decide) _ _ _ rfl (hown.alloc _) ⟨wr.heap.size, 0, none⟩ bs.length bs.length (Lib.byteCells bs) rfl (by omega) (cells_new _ _ _) HONE.out (by unfold maxLen; omega) (by omega) (by simp; omega) ?_; intro v' w3 hown' hgrow _))
      have hB3 := Below.grown (hB.alloc sB (.cells (Lib.byteCells bs).toArray 5)) hgrow (by simp; omega) (fun j hj => (hown.lt j hj).1)
      go_roundw
      case rel => exact ⟨k + 1, by go_num, by omega, by rw [HTK.out.1, HTK.out.2]; exact hown', hB3⟩
      case measure => simp [intOf]; omega
    · obtain rfl : k = l.length := by omega
      rw [List.take_length] at hown
      have hle := textL_le l
      rcases hown.2 with ⟨rfl, h0⟩ | ⟨g, cap, cur, rfl, hg, hh, hn, hcap, hsz, htake⟩
      · have hcv := run_convert_bytes_nil (P := Tryd.prog) (w := wr) 55 5 Tryd.underlying55 Tryd.underlying5 0 0 9 Tryd.underlying9
        have hnil : textL l = [] := List.length_eq_zero_iff.1 h0
        have HNil := hideO hnil
        clear hnil h0 hown
        go_wp2
        go_ret
        exact ⟨by unfold textA; rw [HNil.out]; rfl, hB⟩
      · have hc := World.ownsRow.cells hown (g := g) rfl
        have hcv := run_convert_bytes_back (P := Tryd.prog) wr 55 9 5 ⟨g, 0, none⟩ cap (textL l) Tryd.underlying55 Tryd.underlying5 Tryd.underlying9 (fun j hj => hc j _ (by simp [Lib.byteCells, hj]))
        clear hc hown htake hsz hh
        go_wp2
        go_ret
        exact ⟨rfl, hB⟩
end Go.Proofs.YtofhmecbcmahaaaDoor
