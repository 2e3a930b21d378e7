/- With what a cluster begins, and what it holds: plain facts on runes. -/
import Derived.Test.YtgjkholmoamblaaDoorCellM5
namespace Go.Proofs.YtgjkholmoamblaaDoor

/-- The runes of a text from a place on. -/
def runeF (s : ByteArray) : Nat → Nat → List Int
  | 0, _ => []
  | b + 1, pos => if pos < s.size then ((Utf8.decode s pos).1 : Int) :: runeF s b (pos + (Utf8.decode s pos).2) else []
def runesC (s : ByteArray) : List Int := runeF s s.size 0
theorem runeF_le (s : ByteArray) : ∀ b pos, (runeF s b pos).length ≤ b
  | 0, pos => by simp [runeF]
  | b + 1, pos => by
    unfold runeF
    split
    · have := runeF_le s b (pos + (Utf8.decode s pos).2)
      simp only [List.length_cons]
      omega
    · simp
theorem ctl_all : ((List.range 8298).all fun n => !ctlB (n : Int) || decide (widthI (n : Int) ≠ 2)) = true := by kernel_rfl
theorem ctl_width {r : Int} (h : ctlB r = true) : widthI r ≠ 2 := by
  have hb : 0 ≤ r ∧ r < 8298 := by
    unfold ctlB at h
    simp only [Bool.or_eq_true, Bool.and_eq_true, decide_eq_true_eq, beq_iff_eq] at h
    omega
  have := List.all_eq_true.1 ctl_all r.toNat (List.mem_range.2 (by omega))
  rw [show ((r.toNat : Nat) : Int) = r by omega, h] at this
  simpa using this
theorem flag_ctl {r : Int} (h : flagB r = true) : ctlB r = false := by
  unfold flagB at h
  unfold ctlB
  simp only [Bool.and_eq_true, decide_eq_true_eq] at h
  simp only [Bool.or_eq_false_iff, Bool.and_eq_false_iff, decide_eq_false_iff_not, beq_eq_false_iff_ne]
  omega
theorem takes_ctl {g : Gr} {r : Int} (h : g.takes r = true) : ctlB g.first = false ∧ ctlB r = false := by
  unfold Gr.takes at h
  split at h
  · simp only [Bool.and_eq_true, Bool.not_eq_true'] at h
    exact ⟨h.2, h.1⟩
  · split at h
    · rename_i h2
      simp only [Bool.and_eq_true, beq_iff_eq] at h
      constructor
      · cases hc : ctlB g.first
        · rfl
        · exact absurd h.2 (ctl_width hc)
      · cases hc : ctlB r
        · rfl
        · exact absurd h2 (ctl_width hc)
    · simp only [Bool.and_eq_true] at h
      exact ⟨flag_ctl h.1.2, flag_ctl h.1.1⟩
/-- What holds of the runes from f up to n, a cluster's. -/
def OkC (R : List Int) (f n : Nat) : Prop := f < n ∧ n ≤ R.length ∧ (ctlB (R.getD f 0) = true → n = f + 1) ∧ (widthI (R.getD f 0) = 0 → ctlB (R.getD f 0) = false → 0 < f → ctlB (R.getD (f - 1) 0) = true) ∧ ∀ k, f < k → k < n → ctlB (R.getD k 0) = false

theorem first_clus (s : ByteArray) (R : List Int) : ∀ (b pos : Nat) (g : Gr) (b2 f n : Nat) (pre : List Int), 0 < pos → s.size + 1 ≤ pos + b → pos ≤ s.size → R = pre ++ runeF s b2 pos → s.size ≤ pos + b2 → pre.length = n → g.fr = f → g.to = n → OkC R f n → R.getD f 0 = g.first →
    ∀ c ∈ clusF s b pos g, ∃ f' n' : Nat, c.fr = f' ∧ c.to = n' ∧ OkC R f' n'
  | 0, pos, g, b2, f, n, pre, h0, h1, h2, hR, hb2, hn, hf, ht, hok, hfi => by omega
  | b + 1, pos, g, b2, f, n, pre, h0, h1, h2, hR, hb2, hn, hf, ht, hok, hfi => by
    by_cases hp : pos < s.size
    · have hw := Lib.decode_width_pos s pos hp
      have hd := decode_fit s pos hp
      cases b2 with
      | zero => omega
      | succ b2 =>
        have hR2 : R = (pre ++ [((Utf8.decode s pos).1 : Int)]) ++ runeF s b2 (pos + (Utf8.decode s pos).2) := by
          rw [hR, runeF, if_pos hp]
          simp
        have hat : R.getD n 0 = ((Utf8.decode s pos).1 : Int) := by
          rw [hR2, ← hn]
          simp
        have hln : n + 1 ≤ R.length := by
          rw [hR2, ← hn]
          simp
        obtain ⟨k1, k2, k3, k4, k5⟩ := hok
        unfold clusF
        rw [if_pos hp, if_pos h0]
        by_cases htk : g.takes (Utf8.decode s pos).1 = true
        · rw [if_pos htk]
          obtain ⟨t1, t2⟩ := takes_ctl htk
          refine first_clus s R b _ _ b2 f (n + 1) _ (by omega) (by omega) (by omega) hR2 (by omega) (by simp [hn]) hf (by simp only [Gr.add]; omega) ⟨by omega, hln, fun hc => ?_, k4, fun k h3 h4 => ?_⟩ hfi
          · rw [hfi, t1] at hc
            cases hc
          · by_cases e : k = n
            · rw [e, hat]; exact t2
            · exact k5 k h3 (by omega)
        · rw [if_neg htk]
          intro c hc
          rcases List.mem_cons.1 hc with rfl | hc
          · exact ⟨f, n, hf, ht, k1, k2, k3, k4, k5⟩
          · refine first_clus s R b _ _ b2 n (n + 1) _ (by omega) (by omega) (by omega) hR2 (by omega) (by simp [hn]) ht (by simp only [Gr.begin]; omega) ⟨by omega, hln, fun _ => rfl, fun hw0 hc0 _ => ?_, fun k h3 h4 => by omega⟩ hat c hc
            rw [hat] at hw0 hc0
            have hcf : ctlB g.first = true := by
              cases hq : ctlB g.first
              · exfalso
                apply htk
                unfold Gr.takes
                rw [if_pos hw0, hc0, hq]
                rfl
              · rfl
            have hn1 := k3 (by rw [hfi]; exact hcf)
            rw [show n - 1 = f by omega, hfi]
            exact hcf
    · unfold clusF
      rw [if_neg hp, if_neg (by omega)]
      intro c hc
      simp only [List.mem_singleton] at hc
      subst hc
      exact ⟨f, n, hf, ht, hok⟩
theorem first_all (s : ByteArray) : ∀ c ∈ clusters s, ∃ f n : Nat, c.fr = f ∧ c.to = n ∧ OkC (runesC s) f n := by
  by_cases h0 : s.size = 0
  · rw [clusters_zero s h0]
    simp
  · have hp : 0 < s.size := by omega
    have hw := Lib.decode_width_pos s 0 hp
    have hd := decode_fit s 0 hp
    rw [clusters_go s hp]
    obtain ⟨b2, hb2⟩ : ∃ b2, s.size = b2 + 1 := ⟨s.size - 1, by omega⟩
    have hR : runesC s = [((Utf8.decode s 0).1 : Int)] ++ runeF s b2 (0 + (Utf8.decode s 0).2) := by
      unfold runesC
      rw [show runeF s s.size 0 = runeF s (b2 + 1) 0 by rw [← hb2], runeF, if_pos hp]
      rfl
    have hat : (runesC s).getD 0 0 = ((Utf8.decode s 0).1 : Int) := by rw [hR]; rfl
    exact first_clus s (runesC s) s.size _ _ b2 0 1 [((Utf8.decode s 0).1 : Int)] (by omega) (by omega) (by omega) hR (by omega) rfl rfl rfl ⟨by omega, by rw [hR]; simp, fun _ => rfl, fun _ _ h => by omega, fun k h3 h4 => by omega⟩ hat
end Go.Proofs.YtgjkholmoamblaaDoor
