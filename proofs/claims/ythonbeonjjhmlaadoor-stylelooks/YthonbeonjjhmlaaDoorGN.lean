/- Several texts, one behind the other. -/
import Derived.Test.YthonbeonjjhmlaaDoorGL
import Derived.Test.YthonbeonjjhmlaaDoorGR
import Derived.Test.YthonbeonjjhmlaaDoorLsD
/- style.Signs: what it tells to go over (P0710). -/
namespace Go.Proofs.YthonbeonjjhmlaaDoor
open Go.RowKit Go.Shelf
attribute [local go_sem] Oper.semAt_some

theorem rn_of_own2 {W : World} {base n : Nat} {v : Value} {L : List Rn} (h : W.ownsRow base 64 7 v n (flat7 L)) : ∃ o c, v = .slice o n c ∧ RnO W o L ∧ ∀ a, o = some a → base ≤ a.block := by
  obtain ⟨o, c, e, hc, hr⟩ := rn_of_own h
  refine ⟨o, c, e, hr, fun a ha => ?_⟩
  rcases h.2 with ⟨e0, _⟩ | ⟨g, cap, cur, e0, hb, _⟩
  · rw [e0] at e
    simp at e
    rw [ha] at e
    simp at e
  · rw [e0] at e
    simp at e
    rw [ha] at e
    have e1 := e.1
    simp at e1
    rw [← e1]
    exact hb
/-- The answer of Runs, and where its row lies. -/
theorem run_form2 {w w' : World} {s : ByteArray} {D : List Sp} {e : Ending} (h : RunAns w s D e w') : Below w.heap.size w w' ∧ ∃ v, e = .returned (.tuple #[v, .int .i64 (chkT s D)]) ∧ (chkT s D ≠ 0 → v = .slice none 0 0) ∧ (chkT s D = 0 → ∃ o c, v = .slice o (runsM (signs s).length (isort ltS D)).length c ∧ RnO w' o (runsM (signs s).length (isort ltS D)) ∧ ∀ a, o = some a → w.heap.size ≤ a.block) := by
  refine ⟨h.1, ?_⟩
  rcases h.2 with ⟨h1, h2⟩ | ⟨h1, v, h2, h3⟩
  · exact ⟨_, h2, fun _ => rfl, fun h => absurd h h1⟩
  · rw [h1]
    obtain ⟨o, c, e1, e2, e3⟩ := rn_of_own2 h3
    exact ⟨v, h2, fun h => absurd rfl h, fun _ => ⟨o, c, e1, e2, e3⟩⟩
/-- The bytes that are gone over. -/
def goS (s : ByteArray) (D : List Sp) : ByteArray := if chkT s D = 0 then s else ⟨#[]⟩
/-- Signs and how they look. -/
def goL (s : ByteArray) (D : List Sp) : List (Sg × At) := if chkT s D = 0 then (signs s).zip (alls D (signs s).length) else []
theorem BoxS.get {W : World} {B : Nat} {z : Value} {t : TypeId} (h : W.heap[B]? = some (.cells #[z] t (0, 0))) : W.cell? ⟨B, 0, none⟩ = some z ∧ W.frozen? ⟨B, 0, none⟩ = false := by simp [World.cell?, World.frozen?, h]
set_option maxRecDepth 100000 in
set_option maxHeartbeats 2000000 in
theorem smk_any (s : ByteArray) (D : List Sp) (oa : Option Addr) (ca : Nat) (hs : s.size ≤ 140737488355328) (hca : D.length ≤ ca ∧ ca ≤ maxLen) (hna : oa = none → D = [] ∧ ca = 0) (w : World) (hRa : SpO w oa D) :
    Calls Tryd.prog 11 #[.agg #[.string s, .slice oa D.length ca]] w fun e w' => ∃ (bl : Nat) (v : Value), e = .returned (.func (.func 28) #[] #[.pointer (some ⟨w.heap.size + 1, 0, none⟩), .pointer (some ⟨bl, 0, none⟩)]) ∧
      (w'.cell? ⟨w.heap.size + 1, 0, none⟩ = some (.string (goS s D)) ∧ w'.cell? ⟨bl, 0, none⟩ = some v ∧ w.heap.size + 1 < bl ∧ bl < w'.heap.size) ∧ (chkT s D ≠ 0 → v = .slice none 0 0) ∧
      (chkT s D = 0 → ∃ o c, v = .slice o (runsM (signs s).length (isort ltS D)).length c ∧ RnO w' o (runsM (signs s).length (isort ltS D)) ∧ ∀ a, o = some a → w.heap.size ≤ a.block) ∧ Below w.heap.size w w' := by
  have HR1 := hideS (fun (W : World) (h : Below w.heap.size w W) => runs_any s D oa ca hs hca hna W (hRa.keep h))
  obtain ⟨c1, hc1⟩ : ∃ c, chkT s D = c := ⟨_, rfl⟩
  obtain ⟨ND, hND⟩ : ∃ ND, D.length = ND := ⟨_, rfl⟩
  have HX := hideS hc1
  rw [hND] at HR1 ⊢
  clear hRa hna hca hND
  obtain ⟨PO, hPO⟩ : ∃ PO : Ending → World → Prop, PO = fun e w' => ∃ (bl : Nat) (v : Value), e = .returned (.func (.func 28) #[] #[.pointer (some ⟨w.heap.size + 1, 0, none⟩), .pointer (some ⟨bl, 0, none⟩)]) ∧
      (w'.cell? ⟨w.heap.size + 1, 0, none⟩ = some (.string (goS s D)) ∧ w'.cell? ⟨bl, 0, none⟩ = some v ∧ w.heap.size + 1 < bl ∧ bl < w'.heap.size) ∧ (chkT s D ≠ 0 → v = .slice none 0 0) ∧
      (chkT s D = 0 → ∃ o c, v = .slice o (runsM (signs s).length (isort ltS D)).length c ∧ RnO w' o (runsM (signs s).length (isort ltS D)) ∧ ∀ a, o = some a → w.heap.size ≤ a.block) ∧ Below w.heap.size w w' := ⟨_, rfl⟩
  rw [← hPO]
  have HPO := hideS hPO
  clear hPO hc1
  go_enter Tryd.func11, Tryd.ntmps11
  go_wp2_with fail
  obtain ⟨W0, hW0⟩ : ∃ W0, (w.alloc (.cells #[.string s, .slice oa ND ca] 24)).alloc (.cells #[.string s] 9) = W0 := ⟨_, rfl⟩
  have t0 : Tx W0 w.heap.size (.string s) (.slice oa ND ca) := by rw [← hW0]; exact (Tx.new w _ _).keep (bel1S _ _)
  have t1 : W0.heap[w.heap.size + 1]? = some (.cells #[.string s] 9 (0, 0)) := by
    rw [← hW0]
    have h9 := World.alloc_heap_new (w.alloc (.cells #[.string s, .slice oa ND ca] 24)) (.cells #[.string s] 9)
    rw [World.size_alloc] at h9
    exact h9
  have b0 : Below w.heap.size w W0 := by rw [← hW0]; exact bupS (bel1S _ _) (bel1S _ _)
  try rw [hW0]
  have H0 := hideS (And.intro t1 b0)
  have hl1 := (Array.getElem?_eq_some_iff.1 t1).1
  clear hW0 t0 t1 b0
  refine (HR1.out W0 H0.out.2).mono ?_
  intro e w1 hans
  obtain ⟨b1, v, rfl, hv0, hv1⟩ := run_form2 hans
  rw [HX.out] at hv0 hv1 ⊢
  obtain ⟨vo, vn, vc, rfl⟩ : ∃ o n c, v = .slice o n c := by
    by_cases e1 : c1 = 0
    · obtain ⟨o, c, q1, _⟩ := hv1 e1
      exact ⟨_, _, _, q1⟩
    · exact ⟨_, _, _, hv0 e1⟩
  have hs1 := (b1.block _ hl1).trans H0.out.1
  have hz1 : w.heap.size + 1 < w1.heap.size := (Array.getElem?_eq_some_iff.1 hs1).1
  obtain ⟨W2, hW2⟩ : ∃ W2, w1.alloc (.cells #[.slice vo vn vc] 33) = W2 := ⟨_, rfl⟩
  have b2 : Below w1.heap.size w1 W2 := by rw [← hW2]; exact bel1S _ _
  have n2 : W2.heap[w1.heap.size]? = some (.cells #[.slice vo vn vc] 33 (0, 0)) := by rw [← hW2]; exact World.alloc_heap_new w1 _
  have hs2 := (b2.block _ hz1).trans hs1
  have hbl := (Array.getElem?_eq_some_iff.1 n2).1
  obtain ⟨k0, f0⟩ := BoxS.get hs2
  obtain ⟨m0, _⟩ := BoxS.get n2
  have hbw : Below w.heap.size w W2 := bupS (bupS H0.out.2 b1) b2
  have hle : w.heap.size ≤ W0.heap.size := H0.out.2.size
  by_cases e1 : c1 = 0
  · have e1b : (c1 != 0) = false := by simpa using e1
    have HE : Hid (PO (.returned (.func (.func 28) #[] #[.pointer (some ⟨w.heap.size + 1, 0, none⟩), .pointer (some ⟨w1.heap.size, 0, none⟩)])) W2) := hideS (by
      rw [HPO.out]
      refine ⟨w1.heap.size, .slice vo vn vc, rfl, ⟨?_, m0, hz1, hbl⟩, fun h => absurd (HX.out.trans e1) h, fun h => ?_, hbw⟩
      · unfold goS; rw [if_pos (HX.out.trans e1)]; exact k0
      · obtain ⟨o, c, q1, q2, q3⟩ := hv1 e1
        exact ⟨o, c, q1, q2.keep b2, fun a ha => Nat.le_trans hle (q3 a ha)⟩)
    clear hv0 hv1 hans b1 b2 hs1 hs2 n2 hbw
    go_wp2_with fail
    try rw [hW2]
    exact HE.out
  · have e1b : (c1 != 0) = true := by simpa using e1
    obtain ⟨W3, hW3⟩ : ∃ W3, W2.setCell ⟨w.heap.size + 1, 0, none⟩ (.string ⟨#[]⟩) = W3 := ⟨_, rfl⟩
    have s3 : W3.cell? ⟨w.heap.size + 1, 0, none⟩ = some (.string ⟨#[]⟩) := by
      have h9 := set_atS hs2 0 (.string ⟨#[]⟩)
      rw [hW3] at h9
      simp [World.cell?, h9]
    have b3 : But (fun k => k = w.heap.size + 1) W2 W3 := by rw [← hW3]; exact But.set W2 ⟨w.heap.size + 1, 0, none⟩ _ rfl
    have m3 : W3.cell? ⟨w1.heap.size, 0, none⟩ = some (.slice vo vn vc) := (World.cell?_of_block (a := ⟨w1.heap.size, 0, none⟩) (b3.same w1.heap.size hbl (by omega))).trans m0
    have HE : Hid (PO (.returned (.func (.func 28) #[] #[.pointer (some ⟨w.heap.size + 1, 0, none⟩), .pointer (some ⟨w1.heap.size, 0, none⟩)])) W3) := hideS (by
      rw [HPO.out]
      have hne : chkT s D ≠ 0 := fun h => e1 (HX.out.symm.trans h)
      refine ⟨w1.heap.size, .slice vo vn vc, rfl, ⟨?_, m3, hz1, Nat.lt_of_lt_of_le hbl b3.size⟩, fun h => hv0 e1, fun h => absurd h hne, hbw.trans (b3.below hbw.size (fun k e => by omega))⟩
      unfold goS; rw [if_neg hne]; exact s3)
    clear hv0 hv1 hans b1 b2 hs1 hs2 n2 hbw s3 b3 m3
    go_wp2_with fail
    try rw [hW2]
    try rw [hW3]
    exact HE.out
end Go.Proofs.YthonbeonjjhmlaaDoor

/- What style.Signs tells to go over, in one form (P0710). -/
namespace Go.Proofs.YthonbeonjjhmlaaDoor
open Go.RowKit Go.Shelf
attribute [local go_sem] Oper.semAt_some

def rnS (s : ByteArray) (D : List Sp) : List Rn := if chkT s D = 0 then runsM (signs s).length (isort ltS D) else []
def goA (s : ByteArray) (D : List Sp) : List At := if chkT s D = 0 then alls D (signs s).length else []
theorem rnO_nil (W : World) (o : Option Addr) : RnO W o [] := fun i r h => by simp at h
theorem run_form3 {w w' : World} {s : ByteArray} {D : List Sp} {e : Ending} (h : RunAns w s D e w') : Below w.heap.size w w' ∧ ∃ o c, e = .returned (.tuple #[.slice o (rnS s D).length c, .int .i64 (chkT s D)]) ∧ RnO w' o (rnS s D) := by
  obtain ⟨h1, v, h2, h3, h4⟩ := run_form2 h
  refine ⟨h1, ?_⟩
  unfold rnS
  by_cases e1 : chkT s D = 0
  · obtain ⟨o, c, q1, q2, _⟩ := h4 e1
    rw [if_pos e1]
    exact ⟨o, c, by rw [h2, q1], q2⟩
  · rw [if_neg e1]
    exact ⟨none, 0, by rw [h2, h3 e1]; rfl, rnO_nil _ _⟩
theorem go_signs (s : ByteArray) (D : List Sp) : (goL s D).map Prod.fst = signs (goS s D) ∧ (goL s D).map Prod.snd = goA s D ∧ RP (goA s D) (rnS s D) (signs (goS s D)).length := by
  unfold goL goS goA rnS
  by_cases e1 : chkT s D = 0
  · simp only [if_pos e1]
    refine ⟨?_, ?_, ?_⟩
    · rw [List.map_fst_zip]; rw [alls_len]; exact Nat.le_refl _
    · rw [List.map_snd_zip]; rw [alls_len]; exact Nat.le_refl _
    · rw [runs_seg e1]
      have h := rp_all (alls D (signs s).length)
      rw [alls_len] at h
      exact h
  · simp only [if_neg e1]
    exact ⟨rfl, rfl, rp_nil _⟩
theorem go_size (s : ByteArray) (D : List Sp) : (goS s D).size ≤ 4096 := by
  unfold goS
  by_cases e1 : chkT s D = 0
  · rw [if_pos e1]; exact (chkT_ok e1).1
  · rw [if_neg e1]; simp [ByteArray.size]
/-- style.Signs in one form: a sequence that tells signs and looks. -/
theorem smk_seq (s : ByteArray) (D : List Sp) (oa : Option Addr) (ca : Nat) (hs : s.size ≤ 140737488355328) (hca : D.length ≤ ca ∧ ca ≤ maxLen) (hna : oa = none → D = [] ∧ ca = 0) (w : World) (hRa : SpO w oa D) :
    Calls Tryd.prog 11 #[.agg #[.string s, .slice oa D.length ca]] w fun e w' => ∃ (bl : Nat) (o : Option Addr), e = .returned (.func (.func 28) #[] #[.pointer (some ⟨w.heap.size + 1, 0, none⟩), .pointer (some ⟨bl, 0, none⟩)]) ∧
      Below w.heap.size w w' ∧ w.heap.size ≤ bl ∧ (∀ a, o = some a → w.heap.size ≤ a.block) ∧
      ∀ (n : Nat), 3 ≤ n → ∀ W : World, Below w'.heap.size w' W → SeqC n 7 Tryd.prog 28 #[.pointer (some ⟨w.heap.size + 1, 0, none⟩), .pointer (some ⟨bl, 0, none⟩)] (fun x : Sg × At => #[x.1.val, x.2.val]) (goL s D) (fun k => k ≠ w.heap.size + 1 ∧ k ≠ bl ∧ ∀ a, o = some a → k ≠ a.block) W := by
  refine (smk_any s D oa ca hs hca hna w hRa).mono ?_
  rintro e w' ⟨bl, v, rfl, ⟨h1, h2, h3, h4⟩, h5, h6, h7⟩
  obtain ⟨o, c, q1, q2, q3⟩ : ∃ o c, v = .slice o (rnS s D).length c ∧ RnO w' o (rnS s D) ∧ ∀ a, o = some a → w.heap.size ≤ a.block := by
    unfold rnS
    by_cases e1 : chkT s D = 0
    · rw [if_pos e1]; exact h6 e1
    · rw [if_neg e1]; exact ⟨none, 0, h5 e1, rnO_nil _ _, fun a h => by cases h⟩
  refine ⟨bl, o, rfl, h7, by omega, q3, fun n hn W hW => ?_⟩
  obtain ⟨g1, g2, g3⟩ := go_signs s D
  have hz := go_size s D
  have hsz := hW.size
  rw [q1] at h2
  exact looks_seq n hn (goS s D) (by omega) (goL s D) (goA s D) (rnS s D) g1 g2 g3 (w.heap.size + 1) bl o c W (by omega) (by omega) ((hW.cell (p := ⟨w.heap.size + 1, 0, none⟩) (show w.heap.size + 1 < w'.heap.size by omega)).trans h1) ((hW.cell (p := ⟨bl, 0, none⟩) h4).trans h2) (q2.keep hW)
end Go.Proofs.YthonbeonjjhmlaaDoor
