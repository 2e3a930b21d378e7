/- Long texts of one make: how many clusters they have, and how many cells. -/
import Derived.Test.YtgjkholmoamblaaDoorCellM5
import Derived.Lib.DecodeN
namespace Go.Proofs.YtgjkholmoamblaaDoor

theorem getD_l (a b : List UInt8) (j : Nat) (hj : j < a.length) : (a ++ b).getD j 0 = a.getD j 0 := by
  rw [List.getD_eq_getElem?_getD, List.getD_eq_getElem?_getD, List.getElem?_append_left hj]
theorem getD_r (a b : List UInt8) (j : Nat) : (a ++ b).getD (a.length + j) 0 = b.getD j 0 := by
  rw [List.getD_eq_getElem?_getD, List.getD_eq_getElem?_getD, List.getElem?_append_right (by omega), Nat.add_sub_cancel_left]
/-- So many times the same bytes. -/
def R (p : List UInt8) (n : Nat) : List UInt8 := (List.replicate n p).flatten
theorem R_zero (p : List UInt8) : R p 0 = [] := rfl
theorem R_succ (p : List UInt8) (n : Nat) : R p (n + 1) = p ++ R p n := by simp [R, List.replicate_succ]
theorem R_snoc (p : List UInt8) (n : Nat) : R p (n + 1) = R p n ++ p := by simp [R, List.replicate_succ']
theorem R_len (p : List UInt8) : ∀ n, (R p n).length = p.length * n
  | 0 => by simp [R]
  | n + 1 => by rw [R_succ, List.length_append, R_len p n, Nat.mul_succ]; omega
theorem R_get (p : List UInt8) (j : Nat) (hj : j < p.length) : ∀ n i, i < n → (R p n).getD (p.length * i + j) 0 = p.getD j 0
  | 0, i, h => by omega
  | n + 1, 0, h => by rw [R_succ, Nat.mul_zero, Nat.zero_add, getD_l _ _ _ hj]
  | n + 1, i + 1, h => by
    rw [R_succ, show p.length * (i + 1) + j = p.length + (p.length * i + j) by rw [Nat.mul_succ]; omega, getD_r]
    exact R_get p j hj n i (by omega)
theorem R_over (p : List UInt8) (n k : Nat) (hk : p.length * n ≤ k) : (R p n).getD k 0 = 0 := by
  rw [List.getD_eq_getElem?_getD, List.getElem?_eq_none (by rw [R_len]; exact hk)]
  rfl
/-- The text of these bytes. -/
def tx (l : List UInt8) : ByteArray := ⟨l.toArray⟩
theorem tx_size (l : List UInt8) : (tx l).size = l.length := by rw [Lib.size_eq]; rfl
theorem tx_get (l : List UInt8) (i : Nat) : (tx l).get! i = l.getD i 0 := by rw [← Lib.getD_get!']; rfl
theorem dec1 {l : List UInt8} {p : Nat} {a : Nat} (h0 : (l.getD p 0).toNat = a) (ha : a < 128) : Utf8.decode (tx l) p = (a, 1) := by
  rw [Lib.decode_at, tx_get, h0]
  simp [Lib.decodeN, ha]
theorem decBad {l : List UInt8} {p : Nat} (h0 : (l.getD p 0).toNat = 228) (h1 : (l.getD (p + 1) 0).toNat = 228 ∨ (l.getD (p + 1) 0).toNat = 0) : Utf8.decode (tx l) p = (65533, 1) := by
  rw [Lib.decode_at, tx_get, tx_get, h0]
  rcases h1 with h | h <;> rw [h] <;> simp [Lib.decodeN]
theorem dec2 {l : List UInt8} {p : Nat} (hp : p + 2 ≤ l.length) (h0 : (l.getD p 0).toNat = 204) (h1 : (l.getD (p + 1) 0).toNat = 129) : Utf8.decode (tx l) p = (769, 2) := by
  have hn : 2 ≤ (tx l).size - p := by rw [tx_size]; omega
  rw [Lib.decode_at, tx_get, tx_get, h0, h1]
  generalize (tx l).size - p = n at hn
  have q1 : 1 < n := by omega
  simp [Lib.decodeN, q1]
theorem decW {l : List UInt8} {p : Nat} (hp : p + 3 ≤ l.length) (h0 : (l.getD p 0).toNat = 228) (h1 : (l.getD (p + 1) 0).toNat = 184) (h2 : (l.getD (p + 2) 0).toNat = 173) : Utf8.decode (tx l) p = (20013, 3) := by
  have hn : 3 ≤ (tx l).size - p := by rw [tx_size]; omega
  rw [Lib.decode_at, tx_get, tx_get, tx_get, h0, h1, h2]
  generalize (tx l).size - p = n at hn
  have q1 : 1 < n := by omega
  have q2 : 2 < n := by omega
  simp [Lib.decodeN, q1, q2]
theorem decZ {l : List UInt8} {p : Nat} (hp : p + 3 ≤ l.length) (h0 : (l.getD p 0).toNat = 226) (h1 : (l.getD (p + 1) 0).toNat = 128) (h2 : (l.getD (p + 2) 0).toNat = 141) : Utf8.decode (tx l) p = (8205, 3) := by
  have hn : 3 ≤ (tx l).size - p := by rw [tx_size]; omega
  rw [Lib.decode_at, tx_get, tx_get, tx_get, h0, h1, h2]
  generalize (tx l).size - p = n at hn
  have q1 : 1 < n := by omega
  have q2 : 2 < n := by omega
  simp [Lib.decodeN, q1, q2]
theorem decF {l : List UInt8} {p : Nat} (hp : p + 4 ≤ l.length) (h0 : (l.getD p 0).toNat = 240) (h1 : (l.getD (p + 1) 0).toNat = 159) (h2 : (l.getD (p + 2) 0).toNat = 135) (h3 : (l.getD (p + 3) 0).toNat = 166) : Utf8.decode (tx l) p = (127462, 4) := by
  have hn : 4 ≤ (tx l).size - p := by rw [tx_size]; omega
  rw [Lib.decode_at, tx_get, tx_get, tx_get, tx_get, h0, h1, h2, h3]
  generalize (tx l).size - p = n at hn
  have q1 : 1 < n := by omega
  have q2 : 2 < n := by omega
  have q3 : 3 < n := by omega
  simp [Lib.decodeN, q1, q2, q3]
theorem decP {l : List UInt8} {p : Nat} (hp : p + 4 ≤ l.length) (h0 : (l.getD p 0).toNat = 240) (h1 : (l.getD (p + 1) 0).toNat = 159) (h2 : (l.getD (p + 2) 0).toNat = 145) (h3 : (l.getD (p + 3) 0).toNat = 169) : Utf8.decode (tx l) p = (128105, 4) := by
  have hn : 4 ≤ (tx l).size - p := by rw [tx_size]; omega
  rw [Lib.decode_at, tx_get, tx_get, tx_get, tx_get, h0, h1, h2, h3]
  generalize (tx l).size - p = n at hn
  have q1 : 1 < n := by omega
  have q2 : 2 < n := by omega
  have q3 : 3 < n := by omega
  simp [Lib.decodeN, q1, q2, q3]

theorem cells_cons (c : Cl) (l : List Cl) : cellsOf (c :: l) = c.cells + cellsOf l := rfl
theorem cells_nil : cellsOf [] = 0 := rfl

/-- Signs that take none: a cluster each. -/
theorem uni (s : ByteArray) (c n r : Nat) (hc : 0 < c) (hsz : s.size = c * n) (hd : ∀ i, i < n → Utf8.decode s (c * i) = (r, c)) (ht : ∀ g : Gr, g.first = r → g.last = r → g.takes r = false) :
    ∀ (b i : Nat) (g : Gr), 0 < i → i ≤ n → n - i + 1 ≤ b → g.first = r → g.last = r → (clusF s b (c * i) g).length = n - i + 1 ∧ cellsOf (clusF s b (c * i) g) = g.cells + ((n - i : Nat) : Int) * widthI r
  | 0, i, g, h0, h1, h2, h3, h4 => by omega
  | b + 1, i, g, h0, h1, h2, h3, h4 => by
    have hci : 0 < c * i := Nat.mul_pos hc h0
    unfold clusF
    by_cases hi : i < n
    · have hlt : c * i < s.size := by rw [hsz]; exact Nat.mul_lt_mul_of_pos_left hi hc
      obtain ⟨e1, e2⟩ := uni s c n r hc hsz hd ht b (i + 1) (.begin ((c * i : Nat) : Int) g.to r) (by omega) (by omega) (by omega) rfl rfl
      rw [if_pos hlt, if_pos hci, hd i hi, ht g h3 h4]
      simp only [Bool.false_eq_true, if_false]
      rw [List.length_cons, cells_cons, ← Nat.mul_succ, e1, e2]
      refine ⟨by omega, ?_⟩
      show g.cells + (widthI r + _) = _
      obtain ⟨m, hm⟩ : ∃ m, n - i = m + 1 := ⟨n - i - 1, by omega⟩
      rw [show n - (i + 1) = m by omega, hm]
      push_cast
      rw [Int.add_mul]
      omega
    · have hin : i = n := by omega
      rw [if_neg (by rw [hsz, hin]; omega), if_neg (by rw [hsz, ← hin]; omega)]
      subst hin
      simp [cells_cons, cells_nil, Gr.upTo]
theorem uni_all (s : ByteArray) (c n r : Nat) (hc : 0 < c) (hsz : s.size = c * n) (hd : ∀ i, i < n → Utf8.decode s (c * i) = (r, c)) (ht : ∀ g : Gr, g.first = r → g.last = r → g.takes r = false) :
    (clusters s).length = n ∧ ofI s = n * widthI r := by
  by_cases hn : n = 0
  · subst hn
    unfold ofI
    rw [clusters_zero s (by simpa using hsz)]
    exact ⟨rfl, by rw [cells_nil]; simp⟩
  · have hle : n ≤ c * n := Nat.le_mul_of_pos_left n hc
    have h0 := hd 0 (by omega)
    rw [Nat.mul_zero] at h0
    unfold ofI
    rw [clusters_go s (by omega), h0]
    obtain ⟨e1, e2⟩ := uni s c n r hc hsz hd ht s.size 1 (.begin (0 : Nat) 0 r) (by omega) (by omega) (by omega) rfl rfl
    rw [Nat.mul_one] at e1 e2
    rw [Nat.zero_add, e1, e2]
    refine ⟨by omega, ?_⟩
    show widthI r + _ = _
    obtain ⟨m, hm⟩ : ∃ m, n = m + 1 := ⟨n - 1, by omega⟩
    subst hm
    rw [Nat.add_sub_cancel]
    push_cast
    rw [Int.add_mul]
    omega

theorem add_flag (g : Gr) {r : Int} (h : flagB r = true) : (g.add r).cells = 2 := by
  unfold Gr.add
  rw [h]
  rfl
theorem add_keep (g : Gr) {r : Int} (h : flagB r = false) (h2 : (r == 65039) = false) : (g.add r).cells = g.cells := by
  unfold Gr.add
  rw [h, h2]
  rfl
/-- Flag letters: two by two. -/
theorem flags (s : ByteArray) (n : Nat) (hsz : s.size = 4 * n) (hd : ∀ i, i < n → Utf8.decode s (4 * i) = (127462, 4)) :
    ∀ (b i : Nat) (g : Gr), 0 < i → i ≤ n → n - i + 1 ≤ b → g.first = 127462 →
      (g.to - g.fr = 1 → g.cells = 1 → (clusF s b (4 * i) g).length = (n - i + 2) / 2 ∧ cellsOf (clusF s b (4 * i) g) = ((n - i + 1 : Nat) : Int)) ∧
      (g.to - g.fr = 2 → g.cells = 2 → (clusF s b (4 * i) g).length = (n - i + 3) / 2 ∧ cellsOf (clusF s b (4 * i) g) = ((n - i + 2 : Nat) : Int))
  | 0, i, g, h0, h1, h2, h3 => by omega
  | b + 1, i, g, h0, h1, h2, h3 => by
    unfold clusF
    by_cases hi : i < n
    · rw [if_pos (by omega), if_pos (by omega), hd i hi]
      refine ⟨fun ht hc => ?_, fun ht hc => ?_⟩
      · have tk : g.takes ((127462 : Nat) : Int) = true := by
          unfold Gr.takes
          rw [if_neg (by decide), if_neg (by decide), h3, ht]
          decide
        simp only [tk, if_true]
        obtain ⟨e1, e2⟩ := (flags s n hsz hd b (i + 1) (g.add ((127462 : Nat) : Int)) (by omega) (by omega) (by omega) h3).2 (by show g.to + 1 - g.fr = 2; omega) (add_flag g (by decide))
        rw [show 4 * i + 4 = 4 * (i + 1) by omega, e1, e2]
        exact ⟨by omega, by congr 1; omega⟩
      · have tk : g.takes ((127462 : Nat) : Int) = false := by
          unfold Gr.takes
          rw [if_neg (by decide), if_neg (by decide), h3, ht]
          decide
        simp only [tk, Bool.false_eq_true, if_false]
        obtain ⟨e1, e2⟩ := (flags s n hsz hd b (i + 1) (.begin ((4 * i : Nat) : Int) g.to ((127462 : Nat) : Int)) (by omega) (by omega) (by omega) rfl).1 (by show g.to + 1 - g.to = 1; omega) (by show widthI ((127462 : Nat) : Int) = 1; decide)
        rw [show 4 * i + 4 = 4 * (i + 1) by omega, List.length_cons, cells_cons, e1, e2]
        refine ⟨by omega, ?_⟩
        show g.cells + _ = _
        omega
    · rw [if_neg (by omega), if_neg (by omega)]
      refine ⟨fun ht hc => ⟨by simp; omega, ?_⟩, fun ht hc => ⟨by simp; omega, ?_⟩⟩
      · show g.cells + 0 = _
        omega
      · show g.cells + 0 = _
        omega
/-- Signs that are all taken: one cluster. -/
theorem marks (s : ByteArray) (n : Nat) (hsz : s.size = 1 + 2 * n) (hd : ∀ i, i < n → Utf8.decode s (1 + 2 * i) = (769, 2)) :
    ∀ (b i : Nat) (g : Gr), i ≤ n → n - i + 1 ≤ b → g.first = 97 → (clusF s b (1 + 2 * i) g).length = 1 ∧ cellsOf (clusF s b (1 + 2 * i) g) = g.cells
  | 0, i, g, h1, h2, h3 => by omega
  | b + 1, i, g, h1, h2, h3 => by
    unfold clusF
    by_cases hi : i < n
    · rw [if_pos (by omega), if_pos (by omega), hd i hi]
      have tk : g.takes ((769 : Nat) : Int) = true := by
        unfold Gr.takes
        rw [if_pos (by decide), h3]
        decide
      simp only [tk, if_true]
      obtain ⟨e1, e2⟩ := marks s n hsz hd b (i + 1) (g.add ((769 : Nat) : Int)) (by omega) (by omega) h3
      rw [show 1 + 2 * i + 2 = 1 + 2 * (i + 1) by omega, e1, e2]
      exact ⟨rfl, add_keep g (by decide) (by decide)⟩
    · rw [if_neg (by omega), if_neg (by omega)]
      exact ⟨rfl, by show g.cells + 0 = _; omega⟩
theorem joins (s : ByteArray) (n : Nat) (hsz : s.size = 4 + 7 * n) (hz : ∀ i, i < n → Utf8.decode s (4 + 7 * i) = (8205, 3)) (hw : ∀ i, i < n → Utf8.decode s (4 + 7 * i + 3) = (128105, 4)) :
    ∀ (b i : Nat) (g : Gr), i ≤ n → 2 * (n - i) + 1 ≤ b → g.first = 128105 → (clusF s b (4 + 7 * i) g).length = 1 ∧ cellsOf (clusF s b (4 + 7 * i) g) = g.cells
  | 0, i, g, h1, h2, h3 => by omega
  | b + 1, i, g, h1, h2, h3 => by
    unfold clusF
    by_cases hi : i < n
    · rw [if_pos (by omega), if_pos (by omega), hz i hi]
      have tk : g.takes ((8205 : Nat) : Int) = true := by
        unfold Gr.takes
        rw [if_pos (by decide), h3]
        decide
      simp only [tk, if_true]
      obtain ⟨b', rfl⟩ : ∃ b', b = b' + 1 := ⟨b - 1, by omega⟩
      unfold clusF
      rw [if_pos (by omega), if_pos (by omega), hw i hi]
      have tk2 : (g.add ((8205 : Nat) : Int)).takes ((128105 : Nat) : Int) = true := by
        unfold Gr.takes
        rw [if_neg (by decide), if_pos (by decide)]
        show ((8205 : Int) == 8205 && widthI g.first == 2) = true
        rw [h3]
        decide
      simp only [tk2, if_true]
      obtain ⟨e1, e2⟩ := joins s n hsz hz hw b' (i + 1) ((g.add ((8205 : Nat) : Int)).add ((128105 : Nat) : Int)) (by omega) (by omega) h3
      rw [show 4 + 7 * i + 3 + 4 = 4 + 7 * (i + 1) by omega, e1, e2]
      exact ⟨rfl, (add_keep _ (by decide) (by decide)).trans (add_keep g (by decide) (by decide))⟩
    · rw [if_neg (by omega), if_neg (by omega)]
      exact ⟨rfl, by show g.cells + 0 = _; omega⟩

/-- The six makes. -/
def made : Nat → Nat → List UInt8
  | 0, n => R [240, 159, 135, 166] n
  | 1, n => 97 :: R [204, 129] n
  | 2, 0 => []
  | 2, n + 1 => [240, 159, 145, 169] ++ R [226, 128, 141, 240, 159, 145, 169] n
  | 3, n => R [228] n
  | 4, n => R [228, 184, 173] n
  | _, n => R [10] n
def madeC : Nat → Nat → Nat
  | 0, n => (n + 1) / 2
  | 1, _ => 1
  | 2, n => min n 1
  | _, n => n
def madeW : Nat → Nat → Nat
  | 0, n => n
  | 1, _ => 1
  | 2, n => min (2 * n) 2
  | 3, n => n
  | 4, n => 2 * n
  | _, _ => 0

theorem made0 (n : Nat) : (clusters (tx (made 0 n))).length = (n + 1) / 2 ∧ ofI (tx (made 0 n)) = n := by
  have hsz : (tx (made 0 n)).size = 4 * n := by rw [tx_size]; exact R_len _ n
  have hd : ∀ i, i < n → Utf8.decode (tx (made 0 n)) (4 * i) = (127462, 4) := fun i hi => by
    refine decF (by show 4 * i + 4 ≤ (R _ n).length; rw [R_len]; show 4 * i + 4 ≤ 4 * n; omega) ?_ ?_ ?_ ?_
    · exact congrArg UInt8.toNat (R_get [240, 159, 135, 166] 0 (by decide) n i hi)
    · exact congrArg UInt8.toNat (R_get [240, 159, 135, 166] 1 (by decide) n i hi)
    · exact congrArg UInt8.toNat (R_get [240, 159, 135, 166] 2 (by decide) n i hi)
    · exact congrArg UInt8.toNat (R_get [240, 159, 135, 166] 3 (by decide) n i hi)
  by_cases hn : n = 0
  · unfold ofI
    rw [clusters_zero _ (by omega), hn]
    exact ⟨rfl, rfl⟩
  · have h0 := hd 0 (by omega)
    rw [Nat.mul_zero] at h0
    unfold ofI
    rw [clusters_go _ (by omega), h0]
    obtain ⟨e1, e2⟩ := (flags _ n hsz hd (tx (made 0 n)).size 1 (.begin (0 : Nat) 0 ((127462 : Nat) : Int)) (by omega) (by omega) (by omega) rfl).1 rfl (by show widthI ((127462 : Nat) : Int) = 1; decide)
    rw [show 0 + 4 = 4 * 1 by omega, e1, e2]
    exact ⟨by omega, by congr 1; omega⟩
theorem made1 (n : Nat) : (clusters (tx (made 1 n))).length = 1 ∧ ofI (tx (made 1 n)) = 1 := by
  have hl : (made 1 n).length = 1 + 2 * n := by show (97 :: R _ n).length = _; rw [List.length_cons, R_len]; show 2 * n + 1 = _; omega
  have hsz : (tx (made 1 n)).size = 1 + 2 * n := by rw [tx_size, hl]
  have hg : ∀ k, (made 1 n).getD (1 + k) 0 = (R [204, 129] n).getD k 0 := fun k => getD_r [97] (R [204, 129] n) k
  have hd : ∀ i, i < n → Utf8.decode (tx (made 1 n)) (1 + 2 * i) = (769, 2) := fun i hi => by
    refine dec2 (by omega) ?_ ?_
    · rw [hg]; exact congrArg UInt8.toNat (R_get [204, 129] 0 (by decide) n i hi)
    · rw [Nat.add_assoc, hg]; exact congrArg UInt8.toNat (R_get [204, 129] 1 (by decide) n i hi)
  have h0 : Utf8.decode (tx (made 1 n)) 0 = (97, 1) := dec1 (by rfl) (by omega)
  unfold ofI
  rw [clusters_go _ (by omega), h0]
  obtain ⟨e1, e2⟩ := marks _ n hsz hd (tx (made 1 n)).size 0 (.begin (0 : Nat) 0 ((97 : Nat) : Int)) (by omega) (by omega) rfl
  rw [show 0 + 1 = 1 + 2 * 0 by omega, e1, e2]
  exact ⟨rfl, by show widthI ((97 : Nat) : Int) = 1; decide⟩
theorem made2 (n : Nat) : (clusters (tx (made 2 n))).length = min n 1 ∧ ofI (tx (made 2 n)) = ((min (2 * n) 2 : Nat) : Int) := by
  cases n with
  | zero =>
    unfold ofI
    rw [clusters_zero _ (by rw [tx_size]; rfl)]
    exact ⟨rfl, rfl⟩
  | succ n =>
    have hl : (made 2 (n + 1)).length = 4 + 7 * n := by show ([240, 159, 145, 169] ++ R _ n).length = _; rw [List.length_append, R_len]; rfl
    have hsz : (tx (made 2 (n + 1))).size = 4 + 7 * n := by rw [tx_size, hl]
    have hg : ∀ k, (made 2 (n + 1)).getD (4 + k) 0 = (R [226, 128, 141, 240, 159, 145, 169] n).getD k 0 := fun k => getD_r [240, 159, 145, 169] (R [226, 128, 141, 240, 159, 145, 169] n) k
    have hf : ∀ k, k < 4 → (made 2 (n + 1)).getD k 0 = [240, 159, 145, 169].getD k 0 := fun k hk => getD_l _ _ k hk
    have hz : ∀ i, i < n → Utf8.decode (tx (made 2 (n + 1))) (4 + 7 * i) = (8205, 3) := fun i hi => by
      refine decZ (by omega) ?_ ?_ ?_
      · rw [hg]; exact congrArg UInt8.toNat (R_get [226, 128, 141, 240, 159, 145, 169] 0 (by decide) n i hi)
      · rw [Nat.add_assoc, hg]; exact congrArg UInt8.toNat (R_get [226, 128, 141, 240, 159, 145, 169] 1 (by decide) n i hi)
      · rw [Nat.add_assoc, hg]; exact congrArg UInt8.toNat (R_get [226, 128, 141, 240, 159, 145, 169] 2 (by decide) n i hi)
    have hw : ∀ i, i < n → Utf8.decode (tx (made 2 (n + 1))) (4 + 7 * i + 3) = (128105, 4) := fun i hi => by
      refine decP (by omega) ?_ ?_ ?_ ?_
      · rw [Nat.add_assoc, hg]; exact congrArg UInt8.toNat (R_get [226, 128, 141, 240, 159, 145, 169] 3 (by decide) n i hi)
      · rw [show 4 + 7 * i + 3 + 1 = 4 + (7 * i + 4) by omega, hg]; exact congrArg UInt8.toNat (R_get [226, 128, 141, 240, 159, 145, 169] 4 (by decide) n i hi)
      · rw [show 4 + 7 * i + 3 + 2 = 4 + (7 * i + 5) by omega, hg]; exact congrArg UInt8.toNat (R_get [226, 128, 141, 240, 159, 145, 169] 5 (by decide) n i hi)
      · rw [show 4 + 7 * i + 3 + 3 = 4 + (7 * i + 6) by omega, hg]; exact congrArg UInt8.toNat (R_get [226, 128, 141, 240, 159, 145, 169] 6 (by decide) n i hi)
    have h0 : Utf8.decode (tx (made 2 (n + 1))) 0 = (128105, 4) := decP (by omega) (by rw [hf 0 (by omega)]; rfl) (by rw [hf 1 (by omega)]; rfl) (by rw [hf 2 (by omega)]; rfl) (by rw [hf 3 (by omega)]; rfl)
    unfold ofI
    rw [clusters_go _ (by omega), h0]
    obtain ⟨e1, e2⟩ := joins _ n hsz hz hw (tx (made 2 (n + 1))).size 0 (.begin (0 : Nat) 0 ((128105 : Nat) : Int)) (by omega) (by omega) rfl
    rw [show 0 + 4 = 4 + 7 * 0 by omega, e1, e2]
    refine ⟨by omega, ?_⟩
    show widthI ((128105 : Nat) : Int) = _
    rw [show widthI ((128105 : Nat) : Int) = 2 by decide]
    omega
theorem made3 (n : Nat) : (clusters (tx (made 3 n))).length = n ∧ ofI (tx (made 3 n)) = n := by
  have hsz : (tx (made 3 n)).size = 1 * n := by rw [tx_size]; exact R_len _ n
  have hd : ∀ i, i < n → Utf8.decode (tx (made 3 n)) (1 * i) = (65533, 1) := fun i hi => by
    refine decBad ?_ ?_
    · exact congrArg UInt8.toNat (R_get [228] 0 (by decide) n i hi)
    · by_cases hj : i + 1 < n
      · left
        rw [show 1 * i + 1 = 1 * (i + 1) + 0 by omega]
        exact congrArg UInt8.toNat (R_get [228] 0 (by decide) n (i + 1) hj)
      · right
        show UInt8.toNat ((R [228] n).getD _ 0) = 0
        rw [R_over [228] n _ (by show 1 * n ≤ _; omega)]
        rfl
  obtain ⟨e1, e2⟩ := uni_all _ 1 n 65533 (by omega) hsz hd (fun g h1 h2 => by unfold Gr.takes; rw [if_neg (by decide), if_neg (by decide)]; rfl)
  refine ⟨e1, ?_⟩
  rw [e2, show widthI ((65533 : Nat) : Int) = 1 by decide]
  omega
theorem made4 (n : Nat) : (clusters (tx (made 4 n))).length = n ∧ ofI (tx (made 4 n)) = ((2 * n : Nat) : Int) := by
  have hsz : (tx (made 4 n)).size = 3 * n := by rw [tx_size]; exact R_len _ n
  have hd : ∀ i, i < n → Utf8.decode (tx (made 4 n)) (3 * i) = (20013, 3) := fun i hi => by
    refine decW (by show 3 * i + 3 ≤ (R _ n).length; rw [R_len]; show 3 * i + 3 ≤ 3 * n; omega) ?_ ?_ ?_
    · exact congrArg UInt8.toNat (R_get [228, 184, 173] 0 (by decide) n i hi)
    · exact congrArg UInt8.toNat (R_get [228, 184, 173] 1 (by decide) n i hi)
    · exact congrArg UInt8.toNat (R_get [228, 184, 173] 2 (by decide) n i hi)
  obtain ⟨e1, e2⟩ := uni_all _ 3 n 20013 (by omega) hsz hd (fun g h1 h2 => by
    unfold Gr.takes
    rw [if_neg (by decide), if_pos (by decide), h2]
    rfl)
  refine ⟨e1, ?_⟩
  rw [e2, show widthI ((20013 : Nat) : Int) = 2 by decide]
  omega
theorem made5 (n : Nat) : (clusters (tx (made 5 n))).length = n ∧ ofI (tx (made 5 n)) = ((0 : Nat) : Int) := by
  have hsz : (tx (made 5 n)).size = 1 * n := by rw [tx_size]; exact R_len _ n
  have hd : ∀ i, i < n → Utf8.decode (tx (made 5 n)) (1 * i) = (10, 1) := fun i hi => dec1 (congrArg UInt8.toNat (R_get [10] 0 (by decide) n i hi)) (by decide)
  obtain ⟨e1, e2⟩ := uni_all _ 1 n 10 (by omega) hsz hd (fun g h1 h2 => by unfold Gr.takes; rw [if_pos (by decide)]; rfl)
  refine ⟨e1, ?_⟩
  rw [e2, show widthI ((10 : Nat) : Int) = 0 by decide]
  simp
theorem made_all (k n : Nat) (hk : k < 6) : (clusters (tx (made k n))).length = madeC k n ∧ ofI (tx (made k n)) = madeW k n := by
  match k, hk with
  | 0, _ => exact made0 n
  | 1, _ => exact made1 n
  | 2, _ => exact made2 n
  | 3, _ => exact made3 n
  | 4, _ => exact made4 n
  | 5, _ => exact made5 n
theorem made_len (k n : Nat) : (made k n).length ≤ 7 * n + 1 := by
  unfold made
  split <;> first | (rw [R_len]; simp; omega) | (rw [List.length_cons, R_len]; simp; omega) | (rw [List.length_append, R_len]; simp; omega) | simp

end Go.Proofs.YtgjkholmoamblaaDoor
