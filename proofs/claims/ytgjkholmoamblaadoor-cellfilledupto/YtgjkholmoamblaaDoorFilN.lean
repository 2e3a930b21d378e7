/- Blanks ahead of a text. -/
import Derived.Test.YtgjkholmoamblaaDoorFilM
namespace Go.Proofs.YtgjkholmoamblaaDoor

theorem app_back (x s : ByteArray) : (x ++ s).extract x.size (x ++ s).size = s := by
  refine ba_ext ?_
  rw [Lib.extract_data, ByteArray.size_append, ByteArray.data_append, Array.toList_append, show x.size + s.size - x.size = s.size by omega, Lib.size_eq, Lib.size_eq, List.drop_left, List.take_length]
theorem front_get (a : Nat) (s : ByteArray) (k : Nat) (hk : k < a) : ((blk a ++ s).get! k).toNat = 32 := by
  rw [get_app_l _ _ _ (by rw [blk_size]; exact hk)]
  exact blk_get a k hk
/-- Among the blanks ahead: each but the last is told. -/
theorem blanks_front (a : Nat) (s : ByteArray) : ∀ (b j : Nat) (x loc : Int), 1 ≤ j → j ≤ a → (blk a ++ s).size + 1 ≤ j + b → ∃ (b' : Nat) (x' loc' : Int), (blk a ++ s).size + 1 ≤ a + b' ∧ cellsOf (clusF (blk a ++ s) b j (.begin loc x 32)) = ((a - j : Nat) : Int) + cellsOf (clusF (blk a ++ s) b' a (.begin loc' x' 32))
  | 0, j, x, loc, h1, h2, h3 => by
    rw [ByteArray.size_append, blk_size] at h3
    omega
  | b + 1, j, x, loc, h1, h2, h3 => by
    have hsz : (blk a ++ s).size = a + s.size := by rw [ByteArray.size_append, blk_size]
    by_cases hj : j < a
    · obtain ⟨b', x', loc', e1, e2⟩ := blanks_front a s b (j + 1) (Gr.begin loc x 32).to (j : Int) (by omega) (by omega) (by omega)
      refine ⟨b', x', loc', e1, ?_⟩
      conv => lhs; unfold clusF
      rw [if_pos (by omega), if_pos (by omega), decode_blank _ j (front_get a s j hj)]
      rw [if_neg (by rw [show ((32 : Nat) : Int) = 32 from rfl, takes_blank]; simp), cellsOf_cons]
      rw [show ((32 : Nat) : Int) = 32 from rfl, e2]
      show widthI 32 + _ = _
      rw [show widthI 32 = 1 by decide]
      omega
    · obtain rfl : j = a := by omega
      exact ⟨b + 1, x, loc, by omega, by rw [Nat.sub_self]; simp⟩
theorem of_front (a : Nat) (s : ByteArray) (ha : 1 ≤ a) : ofI (blk a ++ s) = a + ofI s := by
  have hsz : (blk a ++ s).size = a + s.size := by rw [ByteArray.size_append, blk_size]
  have hx : (blk a ++ s).extract a (blk a ++ s).size = s := by
    have := app_back (blk a) s
    rwa [blk_size] at this
  unfold ofI
  rw [clusters_go (blk a ++ s) (by omega), decode_blank _ 0 (front_get a s 0 (by omega))]
  obtain ⟨b', x', loc', e1, e2⟩ := blanks_front a s (blk a ++ s).size 1 0 ((0 : Nat) : Int) (by omega) ha (by omega)
  rw [show 0 + 1 = 1 from rfl, show ((32 : Nat) : Int) = 32 from rfl, e2]
  cases b' with
  | zero => omega
  | succ b' =>
    by_cases h0 : s.size = 0
    · rw [clusters_zero s h0, cellsOf_nil]
      unfold clusF
      rw [if_neg (by omega), if_neg (by omega), cellsOf_cons, cellsOf_nil]
      show _ + (widthI 32 + 0) = _
      rw [show widthI 32 = 1 by decide]
      omega
    · have hE : a < (blk a ++ s).size := by omega
      have hd := decode_rest (blk a ++ s) a 0
      rw [hx, Nat.add_zero] at hd
      have hw := Lib.decode_width_pos s 0 (by omega)
      have hf := decode_fit s 0 (by omega)
      rw [clusters_go s (by omega)]
      conv => lhs; unfold clusF
      rw [if_pos hE, if_pos (by omega), ← hd]
      by_cases ht : (Gr.begin loc' x' 32).takes (Utf8.decode s 0).1 = true
      · rw [if_pos ht]
        have hc := takes_ctl ht
        have hw0 : widthI ((Utf8.decode s 0).1 : Int) = 0 := by
          unfold Gr.takes at ht
          by_cases hq : widthI ((Utf8.decode s 0).1 : Int) = 0
          · exact hq
          · rw [if_neg hq, show flagB (Gr.begin loc' x' 32).first = false from rfl, show (widthI (Gr.begin loc' x' 32).first == 2) = false from (by show (widthI 32 == 2) = false; decide)] at ht
            simp at ht
        have hal : AlikeF ((Gr.begin loc' x' 32).add (Utf8.decode s 0).1).first (Gr.begin ((0 : Nat) : Int) 0 (Utf8.decode s 0).1).first := by
          show AlikeF 32 ((Utf8.decode s 0).1 : Int)
          refine ⟨by rw [hc.2]; rfl, by decide, by omega, rfl, ?_, rfl, ?_⟩
          · cases hq : flagB ((Utf8.decode s 0).1 : Int)
            · rfl
            · exact absurd hw0 (flag_width hq)
          · cases hq : symB ((Utf8.decode s 0).1 : Int)
            · rfl
            · exact absurd hw0 (sym_width hq)
        have h := alike_run (blk a ++ s) a hE b' (Utf8.decode s 0).2 ((Gr.begin loc' x' 32).add (Utf8.decode s 0).1) (Gr.begin ((0 : Nat) : Int) 0 (Utf8.decode s 0).1) s.size (by omega) (by omega) (by omega) (by omega) hal
        rw [hx, alike_add (show symB (Gr.begin loc' x' 32).first = false from rfl) hw0] at h
        rw [show 0 + (Utf8.decode s 0).2 = (Utf8.decode s 0).2 from Nat.zero_add _]
        have c1 : (Gr.begin loc' x' 32).cells = 1 := by show widthI 32 = 1; decide
        have c2 : (Gr.begin ((0 : Nat) : Int) 0 ((Utf8.decode s 0).1 : Int)).cells = 0 := hw0
        rw [c1, c2] at h
        omega
      · rw [if_neg ht, cellsOf_cons]
        have h := shift_cells (blk a ++ s) a hE b' s.size 0 (Utf8.decode s 0).2 (Gr.begin loc' x' 32).to 0 (Utf8.decode s 0).1 (by omega) (by omega) (by omega) (by omega)
        rw [hx] at h
        rw [show (a : Int) = ((a + 0 : Nat) : Int) from rfl] at *
        rw [h, show 0 + (Utf8.decode s 0).2 = (Utf8.decode s 0).2 from Nat.zero_add _]
        show _ + (widthI 32 + _) = _
        rw [show widthI 32 = 1 by decide]
        omega
/-- Blanks ahead and behind. -/
theorem of_filled (a n : Nat) (s : ByteArray) : ofI (blk a ++ s ++ blk n) = ofI s + a + n := by
  have z0 : ofI ByteArray.empty = 0 := by unfold ofI; rw [clusters_zero _ rfl]; rfl
  by_cases ha : 1 ≤ a
  · rw [of_behind (blk a ++ s) n (by rw [ByteArray.size_append, blk_size]; omega), of_front a s ha]
    omega
  · obtain rfl : a = 0 := by omega
    have hb : blk 0 ++ s = s := by
      refine ba_ext ?_
      rw [ByteArray.data_append, Array.toList_append]
      simp [blk]
    rw [hb]
    by_cases h0 : 0 < s.size
    · rw [of_behind s n h0]
      omega
    · have he : s = ByteArray.empty := ba_ext (by
        have : s.data.toList.length = 0 := by rw [← Lib.size_eq]; omega
        rw [List.length_eq_zero_iff.1 this]
        rfl)
      subst he
      by_cases hn : 1 ≤ n
      · have h1 : ByteArray.empty ++ blk n = blk n ++ ByteArray.empty := ba_ext (by
          rw [ByteArray.data_append, ByteArray.data_append, Array.toList_append, Array.toList_append]
          simp)
        rw [h1, of_front n _ hn]
        omega
      · obtain rfl : n = 0 := by omega
        rw [blk_zero]
        omega
end Go.Proofs.YtgjkholmoamblaaDoor
