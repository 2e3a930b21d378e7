/- Several texts, one behind the other. -/
import Derived.Maps.AppendAt
import Derived.RangeFuncBox
import Derived.OwnWalkIn
import Derived.Test.YtkamjlpnenldbaaGreatDoorGL
import Derived.Test.YtkamjlpnenldbaaGreatDoorGN
import Derived.Test.YtkamjlpnenldbaaGreatDoorLsD
import Derived.Test.YtkamjlpnenldbaaGreatDoorRS
import Derived.Test.YtkamjlpnenldbaaGreatDoorSpJ
import Derived.Test.YtkamjlpnenldbaaGreatDoorW4
import Derived.Test.YtkamjlpnenldbaaGreatDoorW6
/- style.Signs: what it tells to go over (P0710). -/
namespace Go.Proofs.YtkamjlpnenldbaaGreatDoor
open Go.RowKit Go.Shelf
attribute [local go_sem] Oper.semAt_some

theorem rn_of_own2 {W : World} {base n : Nat} {v : Value} {L : List Rn} (h : W.ownsRow base 45 7 v n (flat7 L)) : ∃ o c, v = .slice o n c ∧ RnO W o L ∧ ∀ a, o = some a → base ≤ a.block := by
  obtain ⟨o, c, e, hc, hr⟩ := rn_of_own h
  refine ⟨o, c, e, hr, fun a ha => ?_⟩
  rcases h.2 with ⟨e0, _⟩ | ⟨g, cap, cur, e0, hb, _⟩
  · rw [e0] at e
    simp at e
    rw [ha] at e
    simp at e
  · rw [e0] at e
    simp at e
    rw [ha] at e
    have e1 := e.1
    simp at e1
    rw [← e1]
    exact hb
/-- The answer of Runs, and where its row lies. -/
theorem run_form2 {w w' : World} {s : ByteArray} {D : List Sp} {e : Ending} (h : RunAns w s D e w') : Below w.heap.size w w' ∧ ∃ v, e = .returned (.tuple #[v, .int .i64 (chkT s D)]) ∧ (chkT s D ≠ 0 → v = .slice none 0 0) ∧ (chkT s D = 0 → ∃ o c, v = .slice o (runsM (signs s).length (isort ltS D)).length c ∧ RnO w' o (runsM (signs s).length (isort ltS D)) ∧ ∀ a, o = some a → w.heap.size ≤ a.block) := by
  refine ⟨h.1, ?_⟩
  rcases h.2 with ⟨h1, h2⟩ | ⟨h1, v, h2, h3⟩
  · exact ⟨_, h2, fun _ => rfl, fun h => absurd h h1⟩
  · rw [h1]
    obtain ⟨o, c, e1, e2, e3⟩ := rn_of_own2 h3
    exact ⟨v, h2, fun h => absurd rfl h, fun _ => ⟨o, c, e1, e2, e3⟩⟩
/-- The bytes that are gone over. -/
def goS (s : ByteArray) (D : List Sp) : ByteArray := if chkT s D = 0 then s else ⟨#[]⟩
/-- Signs and how they look. -/
def goL (s : ByteArray) (D : List Sp) : List (Sg × At) := if chkT s D = 0 then (signs s).zip (alls D (signs s).length) else []
theorem BoxS.get {W : World} {B : Nat} {z : Value} {t : TypeId} (h : W.heap[B]? = some (.cells #[z] t (0, 0))) : W.cell? ⟨B, 0, none⟩ = some z ∧ W.frozen? ⟨B, 0, none⟩ = false := by simp [World.cell?, World.frozen?, h]
set_option maxRecDepth 100000 in
set_option maxHeartbeats 2000000 in
theorem smk_any (s : ByteArray) (D : List Sp) (oa : Option Addr) (ca : Nat) (hs : s.size ≤ 140737488355328) (hca : D.length ≤ ca ∧ ca ≤ maxLen) (hna : oa = none → D = [] ∧ ca = 0) (w : World) (hRa : SpO w oa D) :
    Calls Tryz.prog 24 #[.agg #[.string s, .slice oa D.length ca]] w fun e w' => ∃ (bl : Nat) (v : Value), e = .returned (.func (.func 39) #[] #[.pointer (some ⟨w.heap.size + 1, 0, none⟩), .pointer (some ⟨bl, 0, none⟩)]) ∧
      (w'.cell? ⟨w.heap.size + 1, 0, none⟩ = some (.string (goS s D)) ∧ w'.cell? ⟨bl, 0, none⟩ = some v ∧ w.heap.size + 1 < bl ∧ bl < w'.heap.size) ∧ (chkT s D ≠ 0 → v = .slice none 0 0) ∧
      (chkT s D = 0 → ∃ o c, v = .slice o (runsM (signs s).length (isort ltS D)).length c ∧ RnO w' o (runsM (signs s).length (isort ltS D)) ∧ ∀ a, o = some a → w.heap.size ≤ a.block) ∧ Below w.heap.size w w' := by
  have HR1 := hideS (fun (W : World) (h : Below w.heap.size w W) => runs_any s D oa ca hs hca hna W (hRa.keep h))
  obtain ⟨c1, hc1⟩ : ∃ c, chkT s D = c := ⟨_, rfl⟩
  obtain ⟨ND, hND⟩ : ∃ ND, D.length = ND := ⟨_, rfl⟩
  have HX := hideS hc1
  rw [hND] at HR1 ⊢
  clear hRa hna hca hND
  obtain ⟨PO, hPO⟩ : ∃ PO : Ending → World → Prop, PO = fun e w' => ∃ (bl : Nat) (v : Value), e = .returned (.func (.func 39) #[] #[.pointer (some ⟨w.heap.size + 1, 0, none⟩), .pointer (some ⟨bl, 0, none⟩)]) ∧
      (w'.cell? ⟨w.heap.size + 1, 0, none⟩ = some (.string (goS s D)) ∧ w'.cell? ⟨bl, 0, none⟩ = some v ∧ w.heap.size + 1 < bl ∧ bl < w'.heap.size) ∧ (chkT s D ≠ 0 → v = .slice none 0 0) ∧
      (chkT s D = 0 → ∃ o c, v = .slice o (runsM (signs s).length (isort ltS D)).length c ∧ RnO w' o (runsM (signs s).length (isort ltS D)) ∧ ∀ a, o = some a → w.heap.size ≤ a.block) ∧ Below w.heap.size w w' := ⟨_, rfl⟩
  rw [← hPO]
  have HPO := hideS hPO
  clear hPO hc1
  go_enter Tryz.func24, Tryz.ntmps24
  go_wp2_with fail
  obtain ⟨W0, hW0⟩ : ∃ W0, (w.alloc (.cells #[.string s, .slice oa ND ca] 24)).alloc (.cells #[.string s] 9) = W0 := ⟨_, rfl⟩
  have t0 : Tx W0 w.heap.size (.string s) (.slice oa ND ca) := by rw [← hW0]; exact (Tx.new w _ _).keep (bel1S _ _)
  have t1 : W0.heap[w.heap.size + 1]? = some (.cells #[.string s] 9 (0, 0)) := by
    rw [← hW0]
    have h9 := World.alloc_heap_new (w.alloc (.cells #[.string s, .slice oa ND ca] 24)) (.cells #[.string s] 9)
    rw [World.size_alloc] at h9
    exact h9
  have b0 : Below w.heap.size w W0 := by rw [← hW0]; exact bupS (bel1S _ _) (bel1S _ _)
  try rw [hW0]
  have H0 := hideS (And.intro t1 b0)
  have hl1 := (Array.getElem?_eq_some_iff.1 t1).1
  clear hW0 t0 t1 b0
  refine (HR1.out W0 H0.out.2).mono ?_
  intro e w1 hans
  obtain ⟨b1, v, rfl, hv0, hv1⟩ := run_form2 hans
  rw [HX.out] at hv0 hv1 ⊢
  obtain ⟨vo, vn, vc, rfl⟩ : ∃ o n c, v = .slice o n c := by
    by_cases e1 : c1 = 0
    · obtain ⟨o, c, q1, _⟩ := hv1 e1
      exact ⟨_, _, _, q1⟩
    · exact ⟨_, _, _, hv0 e1⟩
  have hs1 := (b1.block _ hl1).trans H0.out.1
  have hz1 : w.heap.size + 1 < w1.heap.size := (Array.getElem?_eq_some_iff.1 hs1).1
  obtain ⟨W2, hW2⟩ : ∃ W2, w1.alloc (.cells #[.slice vo vn vc] 36) = W2 := ⟨_, rfl⟩
  have b2 : Below w1.heap.size w1 W2 := by rw [← hW2]; exact bel1S _ _
  have n2 : W2.heap[w1.heap.size]? = some (.cells #[.slice vo vn vc] 36 (0, 0)) := by rw [← hW2]; exact World.alloc_heap_new w1 _
  have hs2 := (b2.block _ hz1).trans hs1
  have hbl := (Array.getElem?_eq_some_iff.1 n2).1
  obtain ⟨k0, f0⟩ := BoxS.get hs2
  obtain ⟨m0, _⟩ := BoxS.get n2
  have hbw : Below w.heap.size w W2 := bupS (bupS H0.out.2 b1) b2
  have hle : w.heap.size ≤ W0.heap.size := H0.out.2.size
  by_cases e1 : c1 = 0
  · have e1b : (c1 != 0) = false := by simpa using e1
    have HE : Hid (PO (.returned (.func (.func 39) #[] #[.pointer (some ⟨w.heap.size + 1, 0, none⟩), .pointer (some ⟨w1.heap.size, 0, none⟩)])) W2) := hideS (by
      rw [HPO.out]
      refine ⟨w1.heap.size, .slice vo vn vc, rfl, ⟨?_, m0, hz1, hbl⟩, fun h => absurd (HX.out.trans e1) h, fun h => ?_, hbw⟩
      · unfold goS; rw [if_pos (HX.out.trans e1)]; exact k0
      · obtain ⟨o, c, q1, q2, q3⟩ := hv1 e1
        exact ⟨o, c, q1, q2.keep b2, fun a ha => Nat.le_trans hle (q3 a ha)⟩)
    clear hv0 hv1 hans b1 b2 hs1 hs2 n2 hbw
    go_wp2_with fail
    try rw [hW2]
    exact HE.out
  · have e1b : (c1 != 0) = true := by simpa using e1
    obtain ⟨W3, hW3⟩ : ∃ W3, W2.setCell ⟨w.heap.size + 1, 0, none⟩ (.string ⟨#[]⟩) = W3 := ⟨_, rfl⟩
    have s3 : W3.cell? ⟨w.heap.size + 1, 0, none⟩ = some (.string ⟨#[]⟩) := by
      have h9 := set_atS hs2 0 (.string ⟨#[]⟩)
      rw [hW3] at h9
      simp [World.cell?, h9]
    have b3 : But (fun k => k = w.heap.size + 1) W2 W3 := by rw [← hW3]; exact But.set W2 ⟨w.heap.size + 1, 0, none⟩ _ rfl
    have m3 : W3.cell? ⟨w1.heap.size, 0, none⟩ = some (.slice vo vn vc) := (World.cell?_of_block (a := ⟨w1.heap.size, 0, none⟩) (b3.same w1.heap.size hbl (by omega))).trans m0
    have HE : Hid (PO (.returned (.func (.func 39) #[] #[.pointer (some ⟨w.heap.size + 1, 0, none⟩), .pointer (some ⟨w1.heap.size, 0, none⟩)])) W3) := hideS (by
      rw [HPO.out]
      have hne : chkT s D ≠ 0 := fun h => e1 (HX.out.symm.trans h)
      refine ⟨w1.heap.size, .slice vo vn vc, rfl, ⟨?_, m3, hz1, Nat.lt_of_lt_of_le hbl b3.size⟩, fun h => hv0 e1, fun h => absurd h hne, hbw.trans (b3.below hbw.size (fun k e => by omega))⟩
      unfold goS; rw [if_neg hne]; exact s3)
    clear hv0 hv1 hans b1 b2 hs1 hs2 n2 hbw s3 b3 m3
    go_wp2_with fail
    try rw [hW2]
    try rw [hW3]
    exact HE.out
end Go.Proofs.YtkamjlpnenldbaaGreatDoor

/- The contract of the statements' own all: the signs that utf.Signs goes over, as a list. -/
namespace Go.Proofs.YtkamjlpnenldbaaGreatDoor
open Go.RowKit Go.Shelf
attribute [local go_sem] Oper.semAt_some

/-- Signs as the cells of a list. -/
def flatS (l : List Sg) : List Value := l.flatMap fun x => [.int .i64 x.loc, .int .i64 x.len, .int .i32 x.rune, .bool x.bad]
theorem flatS_snoc (l : List Sg) (x : Sg) : flatS (l ++ [x]) = flatS l ++ [.int .i64 x.loc, .int .i64 x.len, .int .i32 x.rune, .bool x.bad] := by simp [flatS]
theorem infoSign : (Tryz.prog.info? 60).map (fun i => (i.zero, i.size, i.bytes)) = some (some (.agg #[.int .i64 0, .int .i64 0, .int .i32 0, .bool false]), 4, 24) := by kernel_rfl
def HoldsSigns (W : World) (base : Nat) (v : Value) (l : List Sg) : Prop := W.ownsRow base 60 4 v l.length (flatS l)
theorem cell_four_new (w : World) (a b c d : Value) (t : TypeId) : ∀ j u, [a, b, c, d][j]? = some u → (w.alloc (.cells #[a, b, c, d] t)).cell? ((⟨w.heap.size, 0, none⟩ : Addr).add j) = some u := by
  intro j u hj
  match j, hj with
  | 0, hj => simp at hj; subst hj; simp [Addr.add]
  | 1, hj => simp at hj; subst hj; simp [Addr.add]
  | 2, hj => simp at hj; subst hj; simp [Addr.add]
  | 3, hj => simp at hj; subst hj; simp [Addr.add]
  | j + 4, hj => simp at hj

end Go.Proofs.YtkamjlpnenldbaaGreatDoor

/- Contracts of the document's own Count, Pairs and all (surtitleref1), and of the statements' Alike. -/
namespace Go.Proofs.YtkamjlpnenldbaaGreatDoor
open Go.RowKit

theorem spotAt_zero (s : ByteArray) : spotAt s 0 = ⟨0, 0, 0⟩ := rfl

theorem flatS_get : ∀ (l : List Sg) (n : Nat) (h : n < l.length), (flatS l)[n * 4]? = some (.int .i64 l[n].loc) ∧ (flatS l)[n * 4 + 1]? = some (.int .i64 l[n].len) ∧ (flatS l)[n * 4 + 2]? = some (.int .i32 l[n].rune) ∧ (flatS l)[n * 4 + 3]? = some (.bool l[n].bad)
  | [], _, h => by simp at h
  | x :: r, 0, _ => by simp [flatS]
  | x :: r, n + 1, h => by
    have := flatS_get r n (by simpa using h)
    have e : flatS (x :: r) = .int .i64 x.loc :: .int .i64 x.len :: .int .i32 x.rune :: .bool x.bad :: flatS r := by simp [flatS]
    rw [e, show (n + 1) * 4 = n * 4 + 1 + 1 + 1 + 1 by omega]
    simpa using this
/-- The four cells of a sign of the program's list. -/
def SAt (W : World) (g n : Nat) (x : Sg) : Prop := W.cell? ⟨g, n * 4, none⟩ = some (.int .i64 x.loc) ∧ W.cell? ⟨g, n * 4 + 1, none⟩ = some (.int .i64 x.len) ∧ W.cell? ⟨g, n * 4 + 2, none⟩ = some (.int .i32 x.rune) ∧ W.cell? ⟨g, n * 4 + 3, none⟩ = some (.bool x.bad)
theorem SAt.below {W W' : World} {g n m : Nat} {x : Sg} (h : SAt W g n x) (hb : Below m W W') (hg : g < m) : SAt W' g n x :=
  ⟨(hb.cell (p := ⟨g, n * 4, none⟩) hg).trans h.1, (hb.cell (p := ⟨g, n * 4 + 1, none⟩) hg).trans h.2.1, (hb.cell (p := ⟨g, n * 4 + 2, none⟩) hg).trans h.2.2.1, (hb.cell (p := ⟨g, n * 4 + 3, none⟩) hg).trans h.2.2.2⟩
theorem alls_at {W : World} {base e : Nat} {v : Value} {l : List Sg} (h : W.ownsRow base e 4 v l.length (flatS l)) :
    ∃ oa cap, v = .slice oa l.length cap ∧ ∀ n (hn : n < l.length), ∃ g, oa = some ⟨g, 0, none⟩ ∧ g < W.heap.size ∧ base ≤ g ∧ SAt W g n l[n] := by
  obtain ⟨h1, ⟨rfl, h0⟩ | ⟨g, cap, cur, rfl, hg, hh, hn, hcap, hsz, htake⟩⟩ := h
  · exact ⟨none, 0, by rw [h0], fun n hn => by omega⟩
  · refine ⟨some ⟨g, 0, none⟩, cap, rfl, fun n hn => ⟨g, rfl, (Array.getElem?_eq_some_iff.1 hh).1, hg, ?_⟩⟩
    obtain ⟨f0, f1, f2, f3⟩ := flatS_get l n hn
    rw [← htake, List.getElem?_take, if_pos (by omega), Array.getElem?_toList] at f0 f1 f2 f3
    exact ⟨by simpa [World.cell?, hh] using f0, by simpa [World.cell?, hh] using f1, by simpa [World.cell?, hh] using f2, by simpa [World.cell?, hh] using f3⟩

theorem dec_bd (s : ByteArray) (p : Nat) : (Utf8.decode s p).1 ≤ 1114111 := by
  rw [Lib.decode_at]
  have k0 := (s.get! p).toNat_lt
  rcases Lib.decodeN_shape (s.size - p) (s.get! p).toNat (s.get! (p + 1)).toNat (s.get! (p + 2)).toNat (s.get! (p + 3)).toNat with ⟨c, e⟩ | ⟨c1, c2, c3, cv, e⟩ | ⟨c1, c2, c3, c4, cv, cs, e⟩ | ⟨c1, c2, c3, c4, c5, cv, cw, e⟩ | e
  all_goals
    rw [e]
    dsimp only
    omega
theorem lies_mem {s : ByteArray} {x : Sg} : ∀ {l : List Sg} {p e : Nat}, Lies s p l e → x ∈ l → ∃ q, q < s.size ∧ x = sgn s q
  | [], _, _, _, h => by simp at h
  | y :: l, p, e, h, hx => by
    obtain ⟨h1, h2, h3⟩ := h
    rcases List.mem_cons.1 hx with rfl | hx
    · exact ⟨p, h1, h2⟩
    · exact lies_mem h3 hx
theorem rune_bd {s : ByteArray} {x : Sg} (h : x ∈ signs s) : 0 ≤ x.rune ∧ x.rune ≤ 1114111 := by
  obtain ⟨q, h1, h2⟩ := lies_mem (signs_lies s) h
  have := dec_bd s q
  rw [h2, (sgn_dec s q h1).2.2.1]
  omega
end Go.Proofs.YtkamjlpnenldbaaGreatDoor

/- What style.Signs tells to go over, in one form (P0710). -/
namespace Go.Proofs.YtkamjlpnenldbaaGreatDoor
open Go.RowKit Go.Shelf
attribute [local go_sem] Oper.semAt_some

def rnS (s : ByteArray) (D : List Sp) : List Rn := if chkT s D = 0 then runsM (signs s).length (isort ltS D) else []
def goA (s : ByteArray) (D : List Sp) : List At := if chkT s D = 0 then alls D (signs s).length else []
theorem rnO_nil (W : World) (o : Option Addr) : RnO W o [] := fun i r h => by simp at h
theorem run_form3 {w w' : World} {s : ByteArray} {D : List Sp} {e : Ending} (h : RunAns w s D e w') : Below w.heap.size w w' ∧ ∃ o c, e = .returned (.tuple #[.slice o (rnS s D).length c, .int .i64 (chkT s D)]) ∧ RnO w' o (rnS s D) := by
  obtain ⟨h1, v, h2, h3, h4⟩ := run_form2 h
  refine ⟨h1, ?_⟩
  unfold rnS
  by_cases e1 : chkT s D = 0
  · obtain ⟨o, c, q1, q2, _⟩ := h4 e1
    rw [if_pos e1]
    exact ⟨o, c, by rw [h2, q1], q2⟩
  · rw [if_neg e1]
    exact ⟨none, 0, by rw [h2, h3 e1]; rfl, rnO_nil _ _⟩
theorem go_signs (s : ByteArray) (D : List Sp) : (goL s D).map Prod.fst = signs (goS s D) ∧ (goL s D).map Prod.snd = goA s D ∧ RP (goA s D) (rnS s D) (signs (goS s D)).length := by
  unfold goL goS goA rnS
  by_cases e1 : chkT s D = 0
  · simp only [if_pos e1]
    refine ⟨?_, ?_, ?_⟩
    · rw [List.map_fst_zip]; rw [alls_len]; exact Nat.le_refl _
    · rw [List.map_snd_zip]; rw [alls_len]; exact Nat.le_refl _
    · rw [runs_seg e1]
      have h := rp_all (alls D (signs s).length)
      rw [alls_len] at h
      exact h
  · simp only [if_neg e1]
    exact ⟨rfl, rfl, rp_nil _⟩
theorem go_size (s : ByteArray) (D : List Sp) : (goS s D).size ≤ 4096 := by
  unfold goS
  by_cases e1 : chkT s D = 0
  · rw [if_pos e1]; exact (chkT_ok e1).1
  · rw [if_neg e1]; simp [ByteArray.size]
/-- style.Signs in one form: a sequence that tells signs and looks. -/
theorem smk_seq (s : ByteArray) (D : List Sp) (oa : Option Addr) (ca : Nat) (hs : s.size ≤ 140737488355328) (hca : D.length ≤ ca ∧ ca ≤ maxLen) (hna : oa = none → D = [] ∧ ca = 0) (w : World) (hRa : SpO w oa D) :
    Calls Tryz.prog 24 #[.agg #[.string s, .slice oa D.length ca]] w fun e w' => ∃ (bl : Nat) (o : Option Addr), e = .returned (.func (.func 39) #[] #[.pointer (some ⟨w.heap.size + 1, 0, none⟩), .pointer (some ⟨bl, 0, none⟩)]) ∧
      Below w.heap.size w w' ∧ w.heap.size ≤ bl ∧ (∀ a, o = some a → w.heap.size ≤ a.block) ∧
      ∀ (n : Nat), 3 ≤ n → ∀ W : World, Below w'.heap.size w' W → SeqC n 7 Tryz.prog 39 #[.pointer (some ⟨w.heap.size + 1, 0, none⟩), .pointer (some ⟨bl, 0, none⟩)] (fun x : Sg × At => #[x.1.val, x.2.val]) (goL s D) (fun k => k ≠ w.heap.size + 1 ∧ k ≠ bl ∧ ∀ a, o = some a → k ≠ a.block) W := by
  refine (smk_any s D oa ca hs hca hna w hRa).mono ?_
  rintro e w' ⟨bl, v, rfl, ⟨h1, h2, h3, h4⟩, h5, h6, h7⟩
  obtain ⟨o, c, q1, q2, q3⟩ : ∃ o c, v = .slice o (rnS s D).length c ∧ RnO w' o (rnS s D) ∧ ∀ a, o = some a → w.heap.size ≤ a.block := by
    unfold rnS
    by_cases e1 : chkT s D = 0
    · rw [if_pos e1]; exact h6 e1
    · rw [if_neg e1]; exact ⟨none, 0, h5 e1, rnO_nil _ _, fun a h => by cases h⟩
  refine ⟨bl, o, rfl, h7, by omega, q3, fun n hn W hW => ?_⟩
  obtain ⟨g1, g2, g3⟩ := go_signs s D
  have hz := go_size s D
  have hsz := hW.size
  rw [q1] at h2
  exact looks_seq n hn (goS s D) (by omega) (goL s D) (goA s D) (rnS s D) g1 g2 g3 (w.heap.size + 1) bl o c W (by omega) (by omega) ((hW.cell (p := ⟨w.heap.size + 1, 0, none⟩) (show w.heap.size + 1 < w'.heap.size by omega)).trans h1) ((hW.cell (p := ⟨bl, 0, none⟩) h4).trans h2) (q2.keep hW)
end Go.Proofs.YtkamjlpnenldbaaGreatDoor

/- surtitlelaw7: looks (P0712): the looks that style.Signs tells, as a row. -/
namespace Go.Proofs.YtkamjlpnenldbaaGreatDoor
open Go.RowKit Go.Shelf
attribute [local go_sem] Oper.semAt_some

theorem own_keepsP {A B : World} {m hi : Nat} {e : TypeId} {size : Nat} {v : Value} {n : Nat} {xs : List Value} (h : A.ownsRow hi e size v n xs) (hk : Keeps m hi A B) : B.ownsRow hi e size v n xs := by
  refine ⟨h.1, ?_⟩
  rcases h.2 with hn | ⟨g, cap, cur, rfl, hb, hgg, rest⟩
  · exact .inl hn
  · exact .inr ⟨g, cap, cur, rfl, hb, (hk.same g (Array.getElem?_eq_some_iff.1 hgg).1 (.inr hb)).trans hgg, rest⟩
theorem but_grownP {M : Nat → Prop} {A B : World} {row : Option Nat} (h : A.grownBy B row) (hr : ∀ k, row = some k → M k) : But M A B := ⟨h.os, h.tape, h.output, h.size, fun k hk hm => h.block k hk (fun e => hm (hr k e.symm))⟩
theorem own_putP {A : World} {hi D : Nat} {e : TypeId} {size : Nat} {v : Value} {n : Nat} {xs : List Value} {o : Option (List Deferred)} {o' : Obj} (h : A.ownsRow hi e size v n xs) (hD : A.heap[D]? = some (.deferred o)) : (A.putObj D o').ownsRow hi e size v n xs := by
  refine ⟨h.1, ?_⟩
  rcases h.2 with hn | ⟨g, cap, cur, rfl, hb, hgg, rest⟩
  · exact .inl hn
  · refine .inr ⟨g, cap, cur, rfl, hb, (World.putObj_heap_other (fun e => ?_)).trans hgg, rest⟩
    subst e
    rw [hgg] at hD
    cases hD
/-- The looks that style.Signs tells, as a list: at every text. -/
theorem go_len (s : ByteArray) (D : List Sp) : (goL s D).length = (goA s D).length ∧ (goA s D).length ≤ 4096 := by
  obtain ⟨g1, g2, _⟩ := go_signs s D
  have h1 := go_size s D
  have h2 : (signs (goS s D)).length ≤ (goS s D).size := sgns_length _ _ 0
  have e1 : (goL s D).length = (signs (goS s D)).length := by rw [← g1, List.length_map]
  have e2 : (goL s D).length = (goA s D).length := by rw [← g2, List.length_map]
  exact ⟨e2, by omega⟩
set_option maxRecDepth 100000 in
set_option maxHeartbeats 4000000 in
theorem looks7_any (s : ByteArray) (D : List Sp) (oa : Option Addr) (ca : Nat) (hs : s.size ≤ 140737488355328) (hca : D.length ≤ ca ∧ ca ≤ maxLen) (hna : oa = none → D = [] ∧ ca = 0) (w : World) (hRa : SpO w oa D) :
    Calls Tryz.prog 11 #[.agg #[.string s, .slice oa D.length ca]] w fun e w' => ∃ v B, e = .returned v ∧ w.heap.size ≤ B ∧ w'.ownsRow B 43 5 v (goA s D).length (flat5 (goA s D)) ∧ Below w.heap.size w w' := by
  obtain ⟨i1, hi1, hy0, hy1, hy2⟩ := info_parts infoAt
  have HMk := hideS (fun (W : World) (h : Below w.heap.size w W) => smk_seq s D oa ca hs hca hna W (hRa.keep h))
  obtain ⟨N, hN⟩ : ∃ N, D.length = N := ⟨_, rfl⟩
  rw [hN] at HMk hca ⊢
  clear hRa hna hN
  refine (callsIn_wide (n := 9)).1 ?_
  refine callsIn_of_wp_marks Tryz.func11 rfl trivial ?_ rfl
  simp only [Tryz.ntmps11, List.size_toArray, List.length_cons, List.length_nil, Nat.reduceAdd, Nat.reduceSub, Array.replicate_succ, Array.replicate_zero, List.push_toArray, List.append_toArray, List.nil_append, List.cons_append]
  gi_upto_region 2 with fail
  obtain ⟨V1, hV1⟩ : ∃ V1, (w.alloc (.cells #[.string s, .slice oa N ca] 24)).alloc (.cells #[.slice none 0 0] 34) = V1 := ⟨_, rfl⟩
  have zV1 : V1.heap.size = w.heap.size + 2 := by rw [← hV1]; simp
  have bV1 : Below w.heap.size w V1 := by rw [← hV1]; exact bupS (bel1S _ _) (bel1S _ _)
  have tt : Tx V1 w.heap.size (.string s) (.slice oa N ca) := by rw [← hV1]; exact (Tx.new w _ _).keep (bel1S _ _)
  have x2 : Boxed V1 (w.heap.size + 1) 34 (.slice none 0 0) := by
    rw [← hV1]
    have h9 := Boxed.new (w.alloc (.cells #[.string s, .slice oa N ca] 24)) 34 (.slice none 0 0)
    rw [World.size_alloc] at h9
    exact h9
  try rw [hV1]
  clear hV1
  obtain ⟨m0, m1, _, _⟩ := tt.cells
  gi_wp2_with fail
  refine ⟨trivial, ?_⟩
  refine (callsIn_wide.2 (HMk.out V1 bV1)).mono ?_
  rintro e wS ⟨bl, oS, rfl, bS, hbl, hoS, hseq⟩
  have hzS := bS.size
  rw [zV1] at hseq hbl hoS hzS
  have x4 : Boxed wS (w.heap.size + 1) 34 (.slice none 0 0) := (bS.block _ x2.lt).trans x2
  have HS2 := hideS (bupS bV1 bS)
  clear m0 m1 x2 HMk bS bV1 tt
  gi_wp2_with fail
  have hgl := (go_len s D).2
  have hge := (go_len s D).1
  refine rangeFunc_boxC (α := Sg × At) (by omega) (gf := 39) (lb := #[.pointer (some ⟨w.heap.size + 2 + 1, 0, none⟩), .pointer (some ⟨bl, 0, none⟩)]) rfl (enters_of Tryz.func39 (by kernel_rfl) rfl)
    (hseq (9 - 1) (by omega) wS (Below.refl _ _)) (fun _ => rfl)
    (fun k => k = w.heap.size + 1) (fun k e => ⟨by omega, by omega, by omega, fun a ha => by have := hoS a ha; omega⟩)
    (fun pre X => ∃ v2, Boxed X (w.heap.size + 1) 34 v2 ∧ X.ownsRow (wS.heap.size + 2 + 7) 43 5 v2 pre.length (flat5 (pre.map Prod.snd))) (fun _ _ _ => False)
    (fun pre A B h hk => by
      obtain ⟨v2, h3, h4⟩ := h
      exact ⟨v2, (hk.same _ h3.lt (.inl (by omega))).trans h3, own_keepsP h4 hk⟩) (fun _ _ _ _ h _ => h) ⟨_, x4, World.ownsRow_nil _ _ _ _⟩ ?round ?done ?stop
  case round =>
    rintro l2 pre x X K hl2 hl2X hhi hl2h hBX - hpx hK
    obtain ⟨x, a⟩ := x
    have hpl : pre.length + 1 ≤ (goL s D).length := by have := hpx.length_le; simpa using this
    obtain ⟨a0, a1, a2, a3, a4⟩ := a
    simp only [Sg.val, At.val]
    gi_wp2
    refine hK _ _ ((Below.refl _ X).alloc (Nat.le_refl _) _) (fun X2 hbo hXz hB2 hi2 => ?_)
    have hXX : X.heap.size + 1 = X2.heap.size := by rw [hXz]; simp
    obtain ⟨v2, e3, e4⟩ := hi2
    have e5 : X2.heap[X.heap.size]? = some (.cells #[.bool a0, .bool a1, .bool a2, .bool a3, .int .i64 a4] 43 (0, 0)) := (hbo.same X.heap.size (by simp) (by omega)).trans (World.alloc_heap_new X _)
    have j0 : X2.cell? ⟨X.heap.size, 0, none⟩ = some (.bool a0) := by simp [World.cell?, e5]
    have j1 : X2.cell? ⟨X.heap.size, 1, none⟩ = some (.bool a1) := by simp [World.cell?, e5]
    have j2 : X2.cell? ⟨X.heap.size, 2, none⟩ = some (.bool a2) := by simp [World.cell?, e5]
    have j3 : X2.cell? ⟨X.heap.size, 3, none⟩ = some (.bool a3) := by simp [World.cell?, e5]
    have j4 : X2.cell? ⟨X.heap.size, 4, none⟩ = some (.int .i64 a4) := by simp [World.cell?, e5]
    have k1 := e3.cell
    clear hbo hB2 hpx hK hBX e5 hXz
    gi_wp2_with (gi_at_builtin; refine wpListIn_append_own _ rfl _ _ 34 rfl (wS.heap.size + 2 + 7) 43 i1 (.agg #[.bool false, .bool false, .bool false, .bool false, .int .i64 0]) 5 16 Tryz.underlying34 hi1 hy0 hy1 hy2 rfl (by decide) _ _ _ rfl (e4.alloc _) ⟨X2.heap.size, 0, none⟩ 1 1 [.bool a0, .bool a1, .bool a2, .bool a3, .int .i64 a4] rfl rfl (cell_fiveS _ _ _ _ _ _ _) (fun u hu => by simp at hu; rcases hu with rfl | rfl | rfl | rfl | rfl <;> rfl) (by unfold maxLen; omega) (by omega) (by simp; omega) ?_; intro v' Y1 hown' hgrow _; obtain ⟨g2, cap2, rfl⟩ := ownsRow_succ hown'; have c3 : Boxed Y1 (w.heap.size + 1) 34 v2 := (e3.alloc _).kept hgrow (fun e => by have := (e4.lt _ e.symm).1; omega); have k3 := c3.cell; have f3 := c3.frozen)
    have gZ := grownBy_setCell' Y1 (w.heap.size + 1) (.slice (some ⟨g2, 0, none⟩) (pre.length + 1) cap2)
    refine ⟨((((But.refl _ X2).alloc _).trans (but_grownP hgrow (fun k e => .inr (e4.lt k e).1)))).setCell (p := ⟨w.heap.size + 1, 0, none⟩) (.inl rfl) _, _, c3.set _, ?_⟩
    rw [List.length_append, List.map_append]
    show World.ownsRow _ _ _ _ _ _ (flat5 (pre.map Prod.snd ++ [(⟨a0, a1, a2, a3, a4⟩ : At)]))
    rw [flat5_snoc]
    exact hown'.kept gZ (.inr (fun e => by have := (hown'.lt _ e).1; omega))
  case done =>
    rintro Dd X hD ⟨v2, c2, row2⟩ hBX hK
    obtain ⟨_, g2, _⟩ := go_signs s D
    have bX : Below w.heap.size w X := HS2.out.trans (hBX.below HS2.out.size (fun k e => by omega))
    rw [hge, g2] at row2
    have kb := c2.cell
    have HD := hideS (And.intro row2 (And.intro hK bX))
    obtain ⟨o2, p2, rfl, _, _⟩ := at_of_own row2
    clear row2 hK bX hBX hseq x4
    gi_wp2
    refine ⟨by simp, .inl ⟨_, _, rfl, run_takeDeferred HD.out.2.1, ?_⟩⟩
    exact ⟨_, by simp [results, Tryz.f11, go_sem], _, wS.heap.size + 2 + 7, rfl, by omega, own_putP HD.out.1 HD.out.2.1, HD.out.2.2.trans ((putObj_belowL _ _ _).mono (by omega))⟩
  case stop => rintro D c pre W hD hpre h; exact h.elim
end Go.Proofs.YtkamjlpnenldbaaGreatDoor

/- surtitlelaw7: within, same (P0712). -/
namespace Go.Proofs.YtkamjlpnenldbaaGreatDoor
open Go.RowKit Go.Shelf
attribute [local go_sem] Oper.semAt_some

set_option maxRecDepth 100000 in
theorem within7_any (a m : Int) (hm : 0 < m ∧ m ≤ 4611686018427387904) (w : World) :
    Calls Tryz.prog 17 #[.int .i64 a, .int .i64 m] w fun e w' => e = .returned (.int .i64 (a % m)) ∧ w' = w := by
  obtain ⟨t, ht⟩ : ∃ t, a.tmod m = t := ⟨_, rfl⟩
  have zt : ∀ w, (Op.intDiv .rem .i64 a m).run Tryz.prog w = .ok (.int .i64 t) w := fun w => by
    unfold Op.intDiv
    rw [if_neg (by omega), ht]
    rfl
  have m0 := Int.emod_nonneg a (show m ≠ 0 by omega)
  have m1 := Int.emod_lt_of_pos a hm.1
  have tm : a % m = if t < 0 then t + m else t := by
    rw [← ht]
    by_cases c : 0 ≤ a
    · have e := Int.tmod_eq_emod_of_nonneg (b := m) c
      rw [e, if_neg (by omega)]
    · have e := Int.tmod_eq_emod (a := a) (b := m)
      have na : (m.natAbs : Int) = m := by omega
      by_cases dv : m ∣ a
      · rw [if_pos (.inr dv)] at e
        have : a % m = 0 := Int.emod_eq_zero_of_dvd dv
        rw [e, this]
        simp
      · rw [if_neg (fun x => x.elim c dv)] at e
        have : a % m ≠ 0 := fun x => dv (Int.dvd_of_emod_eq_zero x)
        rw [e, if_pos (by omega)]
        omega
  have tb : -4611686018427387904 ≤ t ∧ t ≤ 4611686018427387904 := by
    by_cases c : t < 0
    · rw [if_pos c] at tm; omega
    · rw [if_neg c] at tm; omega
  rw [tm]
  clear tm m0 m1
  by_cases c : t < 0
  · rw [if_pos c]
    go_enter Tryz.func17, Tryz.ntmps17
    go_wp2_with fail
    go_ret
    exact ⟨rfl, rfl⟩
  · rw [if_neg c]
    go_enter Tryz.func17, Tryz.ntmps17
    go_wp2_with fail
    go_ret
    exact ⟨rfl, rfl⟩

/-- A part of a row of looks. -/
theorem AtO.part {W : World} {a : Addr} {L : List At} (h : AtO W (some a) L) (i m : Nat) : AtO W (some (a.add (i * 5))) ((L.drop i).take m) := fun k r hr => by
  rw [List.getElem?_take] at hr
  by_cases hk : k < m
  · rw [if_pos hk, List.getElem?_drop] at hr
    obtain ⟨b, e, hb, c0, c1, c2, c3, c4⟩ := h (i + k) r hr
    obtain rfl : a = b := by simpa using e
    have ea : (a.add (i * 5)).add (k * 5) = a.add ((i + k) * 5) := by
      rw [show (i + k) * 5 = i * 5 + k * 5 by omega]
      unfold Addr.add
      by_cases h0 : i * 5 = 0
      · by_cases h1 : k * 5 = 0
        · simp [h0, h1]
        · simp [h0, h1]
      · by_cases h1 : k * 5 = 0
        · simp [h0, h1]
        · rw [if_neg h0, if_neg h1, if_neg (by omega)]
          simp [Nat.add_assoc]
    refine ⟨_, rfl, by rw [addrS_block]; exact hb, ?_⟩
    rw [ea]
    exact ⟨c0, c1, c2, c3, c4⟩
  · rw [if_neg hk] at hr
    simp at hr
theorem AtO.nil (W : World) (o : Option Addr) : AtO W o [] := fun i r h => by simp at h
set_option maxRecDepth 100000 in
set_option maxHeartbeats 2000000 in
theorem sameA_any (L : List At) (o1 o2 : Option Addr) (c1 c2 : Nat) (hl : L.length ≤ 1048576) (w : World) (h1 : AtO w o1 L) (h2 : AtO w o2 L) :
    Calls Tryz.prog 10 #[.slice o1 L.length c1, .slice o2 L.length c2] w fun e w' => e = .returned (.bool true) ∧ Below w.heap.size w w' := by
  obtain ⟨N, hN⟩ : ∃ N, L.length = N := ⟨_, rfl⟩
  have HN := hideS (And.intro hN (And.intro h1 h2))
  rw [hN] at hl ⊢
  clear hN h1 h2
  have hgd := at_guard
  go_enter Tryz.func10, Tryz.ntmps10
  go_wp2_with fail
  go_loopw [5] (fun iv wq => ∃ i : Nat, iv = .int .i64 (i : Nat) ∧ i ≤ N ∧ Below w.heap.size w wq) (fun iv _ => N - (intOf iv).toNat)
  case atStart => exact ⟨0, rfl, Nat.zero_le _, Below.refl _ _⟩
  case round =>
    obtain ⟨i, rfl, hiN, hb⟩ := hrel
    obtain ⟨wq, rfl⟩ : ∃ wq, wq = wr := ⟨_, rfl⟩
    by_cases hlt : i < N
    · obtain ⟨x, hx⟩ : ∃ x, L[i]? = some x := ⟨_, List.getElem?_eq_getElem (by rw [HN.out.1]; exact hlt)⟩
      obtain ⟨a, rfl, _, k0, k1, k2, k3, k4⟩ := HN.out.2.1.keep hb i x hx
      obtain ⟨d, rfl, _, e0, e1, e2, e3, e4⟩ := HN.out.2.2.keep hb i x hx
      have d1 : (i : Int) < (N : Int) := by omega
      have wi : IntKind.i64.wrap ((i : Int) + 1) = ((i + 1 : Nat) : Int) := by rw [show ((i + 1 : Nat) : Int) = (i : Int) + 1 by omega]; exact IntWalk.i64_in _ ⟨by omega, by omega⟩
      have HB := hideS hb
      have hne := fun W => at_neq x x W
      unfold At.val at hne
      rw [decide_eq_true rfl] at hne
      clear hb hx
      go_wp2_with fail
      go_quiet (fail)
      go_wp2_with fail
      go_roundw
      case rel => exact ⟨i + 1, by first | rfl | simp, by omega, HB.out.trans ((below_dnS (Below.refl _ _) nq).mono HB.out.size)⟩
      case measure => simp [intOf]; omega
    · have d1 : ¬ (i : Int) < (N : Int) := by omega
      have HB := hideS hb
      clear hb
      go_wp2_with fail
      go_ret
      exact ⟨rfl, HB.out⟩
end Go.Proofs.YtkamjlpnenldbaaGreatDoor

/- What a cut's signs look like, and those of texts that are joined (P0712, P0713), as mathematics. -/
namespace Go.Proofs.YtkamjlpnenldbaaGreatDoor
open Go.RowKit Go.Shelf

theorem isort_id : ∀ (l : List Sp), Srt ltS l → isort ltS l = l := by
  have key : ∀ (l : List Sp) (x : Sp), (∀ y ∈ l, ltS x y = false) → mg ltS l [x] = l ++ [x] := by
    intro l x
    induction l with
    | nil => intro _; rw [mg_left]; rfl
    | cons a l ih =>
      intro h
      rw [mg_ge _ _ (h a (by simp)), ih (fun y hy => h y (by simp [hy]))]
      rfl
  intro l
  induction l using snocI with
  | h0 => intro _; rfl
  | h1 l x ih =>
    intro h
    have hp := List.pairwise_append.1 h
    rw [isort_snoc, ih hp.1, key l x (fun y hy => hp.2.2 y hy x (by simp))]
/-- Spans that part as they should: in order, none crosses. -/
def OkL (n : Int) (L : List Sp) : Prop := (∀ x ∈ L, (0 ≤ x.fr ∧ x.fr < x.tt ∧ x.tt ≤ n) ∧ 1 ≤ x.kd ∧ x.kd ≤ 5) ∧ ∀ x ∈ L, ∀ y ∈ L, ¬ crS x y
theorem okL_sort {s : ByteArray} {D : List Sp} (h : chkT s D = 0) : OkL (signs s).length (isort ltS D) ∧ Srt ltS (isort ltS D) := by
  obtain ⟨h1, h2⟩ := chk_all h
  exact ⟨⟨fun x hx => h1 x ((isort_mem' ltS x D).1 hx), fun x hx y hy => h2 x ((isort_mem' ltS x D).1 hx) y ((isort_mem' ltS y D).1 hy)⟩, isort_sorted swoS D⟩
theorem su_mem {f t : Int} {L : List Sp} {z : Sp} (h : z ∈ suL f t L) : ∃ x ∈ L, z = suS f t x ∧ (suS f t x).fr < (suS f t x).tt := by
  unfold suL at h
  obtain ⟨h1, h2⟩ := List.mem_filter.1 h
  obtain ⟨x, hx, rfl⟩ := List.mem_map.1 h1
  exact ⟨x, hx, rfl, of_decide_eq_true h2⟩
theorem su_srt {n f t : Int} {L : List Sp} (hL : OkL n L) (hs : Srt ltS L) : Srt ltS (suL f t L) := by
  unfold suL
  have key : (L.map (suS f t)).Pairwise fun x y => fulS x = true → fulS y = true → ltS y x = false := by
    rw [List.pairwise_map]
    have h9 : L.Pairwise fun x y => (x ∈ L ∧ y ∈ L) ∧ ltS y x = false := by
      have := List.pairwise_iff_getElem.1 hs
      exact List.pairwise_iff_getElem.2 fun i j hi hj hij => ⟨⟨List.getElem_mem hi, List.getElem_mem hj⟩, this i j hi hj hij⟩
    refine h9.imp fun {x y} h k1 k2 => ?_
    obtain ⟨⟨mx, my⟩, hl⟩ := h
    have k1 := of_decide_eq_true k1
    have k2 := of_decide_eq_true k2
    have fx := (hL.1 x mx).1
    have fy := (hL.1 y my).1
    have hc := hL.2 x mx y my
    have hl : ¬ (y.fr < x.fr ∨ (y.fr = x.fr ∧ x.tt < y.tt)) := fun h => by rw [(ltS_iff y x).2 h] at hl; cases hl
    unfold crS at hc
    unfold suS at k1 k2 ⊢
    simp only at k1 k2
    cases hlt : ltS (⟨max y.fr f - f, min y.tt t - f, y.kd, y.vl⟩ : Sp) ⟨max x.fr f - f, min x.tt t - f, x.kd, x.vl⟩ with
    | false => rfl
    | true =>
      have := (ltS_iff _ _).1 hlt
      simp only at this
      omega
  refine List.pairwise_iff_getElem.2 fun i j hi hj hij => ?_
  have h1 := key.filter fulS
  have h2 := List.pairwise_iff_getElem.1 h1 i j hi hj hij
  exact h2 (List.mem_filter.1 (List.getElem_mem hi)).2 (List.mem_filter.1 (List.getElem_mem hj)).2
theorem su_kin {f t k c : Int} (h1 : f ≤ k) (h2 : k < t) (x : Sp) : kinB (k - f) c (suS f t x) = kinB k c x := by
  unfold kinB covB suS
  simp only
  congr 1
  rw [decide_eq_decide]
  omega
theorem su_full {f t k c : Int} {x : Sp} (h1 : f ≤ k) (h2 : k < t) (h : kinB k c x = true) : fulS (suS f t x) = true := by
  unfold kinB covB at h
  simp at h
  unfold fulS suS
  simp
  omega
theorem su_filter {f t k c : Int} (h1 : f ≤ k) (h2 : k < t) : ∀ (L : List Sp), (suL f t L).filter (kinB (k - f) c) = (L.filter (kinB k c)).map (suS f t)
  | [] => rfl
  | x :: L => by
    have ih := su_filter (c := c) h1 h2 L
    unfold suL at ih ⊢
    rw [List.map_cons, List.filter_cons, List.filter_cons]
    by_cases hk : kinB k c x = true
    · rw [if_pos (su_full h1 h2 hk), if_pos hk, List.filter_cons, if_pos (by rw [su_kin h1 h2]; exact hk), ih, List.map_cons]
    · rw [if_neg hk]
      by_cases hf : fulS (suS f t x) = true
      · rw [if_pos hf, List.filter_cons, if_neg (by rw [su_kin h1 h2]; exact hk), ih]
      · rw [if_neg hf, ih]
theorem any_filter (p : Sp → Bool) (L : List Sp) : L.any p = !(L.filter p).isEmpty := by
  induction L with
  | nil => rfl
  | cons x L ih =>
    rw [List.any_cons, List.filter_cons, ih]
    by_cases h : p x = true
    · simp [h]
    · simp [h]
/-- A sign of a cut looks as it did. -/
theorem su_look {f t k : Int} (h1 : f ≤ k) (h2 : k < t) (L : List Sp) : lookF (suL f t L) (k - f) = lookF L k := by
  unfold lookF
  simp only [any_filter, su_filter h1 h2]
  have hl : ((L.filter (kinB k 5)).map (suS f t)).getLast? = ((L.filter (kinB k 5)).getLast?).map (suS f t) := by rw [List.getLast?_map]
  rw [hl]
  simp only [List.isEmpty_map]
  congr 1
  cases (L.filter (kinB k 5)).getLast? with
  | none => rfl
  | some x => rfl
theorem su_ok {n f t : Int} {L : List Sp} (hL : OkL n L) : OkL (t - f) (suL f t L) := by
  refine ⟨fun z hz => ?_, fun z hz y hy hc => ?_⟩
  · obtain ⟨x, hx, rfl, hlt⟩ := su_mem hz
    have := hL.1 x hx
    unfold suS at hlt ⊢
    simp only at hlt ⊢
    omega
  · obtain ⟨x, hx, rfl, hlt⟩ := su_mem hz
    obtain ⟨u, hu, rfl, hlu⟩ := su_mem hy
    refine hL.2 x hx u hu ?_
    unfold crS at hc ⊢
    unfold suS at hc hlt hlu
    simp only at hc hlt hlu
    omega
theorem su_len (f t : Int) (L : List Sp) : (suL f t L).length ≤ L.length := by
  unfold suL
  exact Nat.le_trans (List.length_filter_le _ _) (by simp)
theorem chk_of {s : ByteArray} {D : List Sp} (h1 : s.size ≤ 4096) (h2 : D.length ≤ 256) (h3 : OkL (signs s).length D) (h4 : ∀ x ∈ D, 0 ≤ x.vl ∧ x.vl ≤ (if x.kd = 5 then 16777215 else 0)) : chkT s D = 0 := by
  unfold chkT
  rw [if_neg (by omega), if_neg (by omega), if_pos]
  refine ⟨List.all_eq_true.2 fun x hx => ?_, ?_⟩
  · have := h3.1 x hx
    have := h4 x hx
    unfold fitB
    exact decide_eq_true (by omega)
  · cases hc : crB D with
    | false => rfl
    | true =>
      obtain ⟨x, hx, y, hy, h⟩ := (crB_iff D (fun x hx => (h3.1 x hx).1.2.1)).1 hc
      exact absurd h (h3.2 y hy x hx)
end Go.Proofs.YtkamjlpnenldbaaGreatDoor

/- The looks of a normal form are those that it was made of (P0711), as mathematics. -/
namespace Go.Proofs.YtkamjlpnenldbaaGreatDoor
open Go.RowKit Go.Shelf

/-- Stretches of a kind over the first i signs. -/
structure StrL (k : Int) (C : List Sp) (l : List At) (i : Nat) (acc : List Sp) : Prop where
  ok : StrOK k i acc
  pos : ∀ x ∈ acc, 0 ≤ x.fr
  has : ∀ (j : Nat) (a : At), j < i → l[j]? = some a → 0 < hasK a k → ∃ x ∈ acc, x.fr ≤ (j : Int) ∧ (j : Int) < x.tt
  val : ∀ x ∈ acc, ∀ (j : Nat) (a : At), x.fr ≤ (j : Int) → (j : Int) < x.tt → l[j]? = some a → 0 < hasK a k ∧ x.vl = valK a k
  cut : ∀ x ∈ acc, ∀ p : Int, x.fr < p → p < x.tt → cutB C p = false
theorem strL_nil (k : Int) (C : List Sp) (l : List At) : StrL k C l 0 [] := ⟨⟨fun x hx => by simp at hx, List.Pairwise.nil⟩, fun x hx => by simp at hx, fun j a h => by omega, fun x hx => by simp at hx, fun x hx => by simp at hx⟩
theorem strL_step {k : Int} {C : List Sp} {l : List At} {i : Nat} {acc : List Sp} {a : At} (h : StrL k C l i acc) (ha : l[i]? = some a) : StrL k C l (i + 1) (strStep k C acc ⟨i, (i : Int) + 1, a⟩) := by
  have hok := step_ok (C := C) (r := ⟨i, (i : Int) + 1, a⟩) h.ok rfl (by simp only; omega)
  have hok : StrOK k ((i + 1 : Nat) : Int) (strStep k C acc ⟨i, (i : Int) + 1, a⟩) := by simpa using hok
  by_cases hh : 0 < hasK a k
  · rcases step_cases k C acc ⟨i, (i : Int) + 1, a⟩ hh with ⟨x, hx, hj, h9⟩ | ⟨hj, h9⟩
    · rw [h9] at hok ⊢
      simp only at hok hj ⊢
      have hxm := List.mem_of_getLast? hx
      have hxk := h.ok.kd x hxm
      have hsub : ∀ z ∈ acc.dropLast, z ∈ acc := fun z hz => List.dropLast_subset _ hz
      have hsp : ∀ z ∈ acc, z ∈ acc.dropLast ∨ z = x := fun z hz => by
        rw [last_some hx] at hz
        rcases List.mem_append.1 hz with hz | hz
        · exact .inl hz
        · exact .inr (by simpa using hz)
      refine ⟨hok, fun z hz => ?_, fun j b hjl hb hk => ?_, fun z hz j b h1 h2 hb => ?_, fun z hz p h1 h2 => ?_⟩
      · rcases List.mem_append.1 hz with hz | hz
        · exact h.pos z (hsub z hz)
        · obtain rfl : z = _ := by simpa using hz
          exact h.pos x hxm
      · by_cases e : j < i
        · obtain ⟨z, hz, z1, z2⟩ := h.has j b e hb hk
          rcases hsp z hz with hz | rfl
          · exact ⟨z, List.mem_append_left _ hz, z1, z2⟩
          · exact ⟨⟨z.fr, (i : Int) + 1, z.kd, z.vl⟩, by simp, z1, by simp only; omega⟩
        · exact ⟨⟨x.fr, (i : Int) + 1, x.kd, x.vl⟩, by simp, by simp only; omega, by simp only; omega⟩
      · rcases List.mem_append.1 hz with hz | hz
        · exact h.val z (hsub z hz) j b h1 h2 hb
        · obtain rfl : z = _ := by simpa using hz
          simp only at h1 h2 ⊢
          by_cases e : j < i
          · exact h.val x hxm j b h1 (by omega) hb
          · obtain rfl : j = i := by omega
            rw [ha] at hb
            obtain rfl := Option.some.inj hb
            exact ⟨hh, hj.2.1⟩
      · rcases List.mem_append.1 hz with hz | hz
        · exact h.cut z (hsub z hz) p h1 h2
        · obtain rfl : z = _ := by simpa using hz
          simp only at h1 h2
          by_cases e : p = i
          · subst e; exact hj.2.2
          · exact h.cut x hxm p h1 (by omega)
    · rw [h9] at hok ⊢
      simp only at hok hj ⊢
      refine ⟨hok, fun z hz => ?_, fun j b hjl hb hk => ?_, fun z hz j b h1 h2 hb => ?_, fun z hz p h1 h2 => ?_⟩
      · rcases List.mem_append.1 hz with hz | hz
        · exact h.pos z hz
        · obtain rfl : z = _ := by simpa using hz
          simp only; omega
      · by_cases e : j < i
        · obtain ⟨z, hz, z1, z2⟩ := h.has j b e hb hk
          exact ⟨z, List.mem_append_left _ hz, z1, z2⟩
        · exact ⟨⟨i, (i : Int) + 1, k, valK a k⟩, by simp, by simp only; omega, by simp only; omega⟩
      · rcases List.mem_append.1 hz with hz | hz
        · exact h.val z hz j b h1 h2 hb
        · obtain rfl : z = _ := by simpa using hz
          simp only at h1 h2 ⊢
          obtain rfl : j = i := by omega
          rw [ha] at hb
          obtain rfl := Option.some.inj hb
          exact ⟨hh, rfl⟩
      · rcases List.mem_append.1 hz with hz | hz
        · exact h.cut z hz p h1 h2
        · obtain rfl : z = _ := by simpa using hz
          simp only at h1 h2
          omega
  · rw [step_no hh] at hok ⊢
    refine ⟨hok, h.pos, fun j b hjl hb hk => ?_, h.val, h.cut⟩
    by_cases e : j < i
    · exact h.has j b e hb hk
    · obtain rfl : j = i := by omega
      rw [ha] at hb
      obtain rfl := Option.some.inj hb
      exact absurd hk hh
theorem strL_fold (k : Int) (C : List Sp) (l : List At) : ∀ (m : List At) (acc : List Sp) (i : Nat), StrL k C l i acc → (∀ j, m[j]? = l[i + j]?) → StrL k C l (i + m.length) ((unitR i m).foldl (strStep k C) acc)
  | [], acc, i, h, _ => by simpa [unitR] using h
  | a :: m, acc, i, h, hm => by
    have h0 : l[i]? = some a := by have := hm 0; simpa using this.symm
    have h2 := strL_fold k C l m _ (i + 1) (strL_step h h0) (fun j => by have := hm (j + 1); simp at this; rw [this]; congr 1; omega)
    rw [unitR, List.foldl_cons, show i + (a :: m).length = i + 1 + m.length by simp; omega]
    have e : ((i + 1 : Nat) : Int) = (i : Int) + 1 := by omega
    rw [e] at h2
    exact h2
theorem strL_all (k : Int) (C : List Sp) (l : List At) : StrL k C l l.length (strM k C (unitR 0 l)) := by
  have h := strL_fold k C l l [] 0 (strL_nil k C l) (fun j => by simp)
  unfold strM
  simpa using h
theorem ok_apart {k f : Int} {l : List Sp} (h : StrOK k f l) {x y : Sp} (hx : x ∈ l) (hy : y ∈ l) : x = y ∨ x.tt ≤ y.fr ∨ y.tt ≤ x.fr := by
  obtain ⟨A, B, rfl⟩ := List.append_of_mem hx
  have hu := h.up
  rw [List.pairwise_append, List.pairwise_cons] at hu
  rcases List.mem_append.1 hy with hm | hm
  · exact .inr (.inr (hu.2.2 y hm x (by simp)))
  · rcases List.mem_cons.1 hm with rfl | hm
    · exact .inl rfl
    · exact .inr (.inl (hu.2.1.1 y hm))
/-- Spans that say just how signs look. -/
structure SayL (K : List Int) (l : List At) (D : List Sp) : Prop where
  fit : ∀ x ∈ D, x.kd ∈ K ∧ 0 ≤ x.fr ∧ x.fr < x.tt ∧ x.tt ≤ l.length
  val : ∀ x ∈ D, ∀ (j : Nat) (a : At), x.fr ≤ (j : Int) → (j : Int) < x.tt → l[j]? = some a → 0 < hasK a x.kd ∧ x.vl = valK a x.kd
  has : ∀ k ∈ K, ∀ (j : Nat) (a : At), l[j]? = some a → 0 < hasK a k → ∃ x ∈ D, x.kd = k ∧ x.fr ≤ (j : Int) ∧ (j : Int) < x.tt
  apart : ∀ x ∈ D, ∀ y ∈ D, ¬ crS x y
theorem say_step {K : List Int} {l : List At} {D : List Sp} (h : SayL K l D) (k : Int) : SayL (K ++ [k]) l (norm1 (unitR 0 l) D k) := by
  have hs := strL_all k D l
  unfold norm1
  generalize strM k D (unitR 0 l) = S at *
  have mix : ∀ x ∈ D, ∀ y ∈ S, ¬ crS x y := fun x hx y hy hc => by
    have c1 := hs.cut y hy x.fr
    have c2 := hs.cut y hy x.tt
    have d1 : cutB D x.fr = true := (cutB_iff D _).2 ⟨x, hx, .inl rfl⟩
    have d2 : cutB D x.tt = true := (cutB_iff D _).2 ⟨x, hx, .inr rfl⟩
    rw [d1] at c1
    rw [d2] at c2
    have n1 : ¬ (y.fr < x.fr ∧ x.fr < y.tt) := fun h => by cases c1 h.1 h.2
    have n2 : ¬ (y.fr < x.tt ∧ x.tt < y.tt) := fun h => by cases c2 h.1 h.2
    unfold crS at hc
    omega
  refine ⟨fun x hx => ?_, fun x hx => ?_, fun q hq => ?_, fun x hx y hy => ?_⟩
  · rcases List.mem_append.1 hx with hx | hx
    · have := h.fit x hx
      exact ⟨List.mem_append_left _ this.1, this.2⟩
    · have h1 := hs.ok.kd x hx
      exact ⟨by rw [h1.1]; simp, hs.pos x hx, h1.2.1, h1.2.2⟩
  · rcases List.mem_append.1 hx with hx | hx
    · exact h.val x hx
    · rw [(hs.ok.kd x hx).1]
      exact hs.val x hx
  · intro j a ha hk
    rcases List.mem_append.1 hq with hq | hq
    · obtain ⟨x, hx, h1⟩ := h.has q hq j a ha hk
      exact ⟨x, List.mem_append_left _ hx, h1⟩
    · obtain rfl : q = k := by simpa using hq
      obtain ⟨x, hx, h1⟩ := hs.has j a (List.getElem?_eq_some_iff.1 ha).1 ha hk
      exact ⟨x, List.mem_append_right _ hx, (hs.ok.kd x hx).1, h1⟩
  · rcases List.mem_append.1 hx with hx | hx <;> rcases List.mem_append.1 hy with hy | hy
    · exact h.apart x hx y hy
    · exact mix x hx y hy
    · exact fun hc => mix y hy x hx (crS_symm hc)
    · intro hc
      rcases ok_apart hs.ok hx hy with rfl | h1 | h1
      · exact crS_irr _ hc
      · unfold crS at hc; omega
      · unfold crS at hc; omega
theorem say_all (l : List At) : SayL [1, 2, 3, 4, 5] l (normG (unitR 0 l)) := by
  have h0 : SayL [] l [] := ⟨fun x hx => by simp at hx, fun x hx => by simp at hx, fun k hk => by simp at hk, fun x hx => by simp at hx⟩
  have h5 := say_step (say_step (say_step (say_step (say_step h0 1) 2) 3) 4) 5
  unfold normG
  exact h5
theorem SayL.mem {K : List Int} {l : List At} {D E : List Sp} (h : SayL K l D) (he : ∀ x, x ∈ E ↔ x ∈ D) : SayL K l E :=
  ⟨fun x hx => h.fit x ((he x).1 hx), fun x hx => h.val x ((he x).1 hx), fun k hk j a ha h0 => by obtain ⟨x, hx, h1⟩ := h.has k hk j a ha h0; exact ⟨x, (he x).2 hx, h1⟩, fun x hx y hy => h.apart x ((he x).1 hx) y ((he y).1 hy)⟩
theorem say_any {l : List At} {D : List Sp} (h : SayL [1, 2, 3, 4, 5] l D) {j : Nat} {a : At} (ha : l[j]? = some a) {k : Int} (hk : k ∈ ([1, 2, 3, 4, 5] : List Int)) : D.any (kinB j k) = true ↔ 0 < hasK a k := by
  rw [List.any_eq_true]
  constructor
  · rintro ⟨x, hx, hc⟩
    unfold kinB covB at hc
    simp at hc
    have := (h.val x hx j a hc.1.1 hc.1.2 ha).1
    rwa [hc.2] at this
  · intro h0
    obtain ⟨x, hx, h1, h2, h3⟩ := h.has k hk j a ha h0
    refine ⟨x, hx, ?_⟩
    unfold kinB covB
    simp
    exact ⟨⟨h2, h3⟩, h1⟩
theorem say_look {l : List At} {D : List Sp} (h : SayL [1, 2, 3, 4, 5] l D) {j : Nat} {a : At} (ha : l[j]? = some a) (hc : 0 ≤ a.c ∧ a.c ≤ 16777216) : lookF D j = a := by
  have e1 := say_any h ha (k := 1) (by simp)
  have e2 := say_any h ha (k := 2) (by simp)
  have e3 := say_any h ha (k := 3) (by simp)
  have e4 := say_any h ha (k := 4) (by simp)
  have b1 : D.any (kinB j 1) = a.b := by rw [Bool.eq_iff_iff, e1]; unfold hasK; cases a.b <;> simp
  have b2 : D.any (kinB j 2) = a.i := by rw [Bool.eq_iff_iff, e2]; unfold hasK; cases a.i <;> simp
  have b3 : D.any (kinB j 3) = a.u := by rw [Bool.eq_iff_iff, e3]; unfold hasK; cases a.u <;> simp
  have b4 : D.any (kinB j 4) = a.s := by rw [Bool.eq_iff_iff, e4]; unfold hasK; cases a.s <;> simp
  have b5 : colC ((D.filter (kinB j 5)).getLast?) = a.c := by
    cases hl : (D.filter (kinB j 5)).getLast? with
    | none =>
      have hn : D.filter (kinB j 5) = [] := List.getLast?_eq_none_iff.1 hl
      show 0 = a.c
      by_cases h0 : 0 < a.c
      · obtain ⟨x, hx, h1, h2, h3⟩ := h.has 5 (by simp) j a ha (by unfold hasK; simpa using h0)
        have : x ∈ D.filter (kinB j 5) := List.mem_filter.2 ⟨hx, by unfold kinB covB; simp; exact ⟨⟨h2, h3⟩, h1⟩⟩
        rw [hn] at this
        simp at this
      · omega
    | some x =>
      obtain ⟨hx, hk⟩ := List.mem_filter.1 (List.mem_of_getLast? hl)
      unfold kinB covB at hk
      simp at hk
      have hv := h.val x hx j a hk.1.1 hk.1.2 ha
      rw [hk.2] at hv
      unfold valK at hv
      rw [if_pos rfl] at hv
      show IntKind.i64.wrap (x.vl + 1) = a.c
      rw [hv.2, show a.c - 1 + 1 = a.c by omega]
      exact IntWalk.i64_in _ ⟨by omega, by omega⟩
  unfold lookF
  rw [b1, b2, b3, b4, b5]
/-- A normal form is right, and looks as the signs that it was made of. -/
theorem nf_ok {s : ByteArray} {l : List At} (hl : l.length = (signs s).length) (hs : s.size ≤ 4096) (hc : ∀ a ∈ l, 0 ≤ a.c ∧ a.c ≤ 16777216) (hn : (normG (unitR 0 l)).length ≤ 256) :
    chkT s (isort ltN (normG (unitR 0 l))) = 0 ∧ alls (isort ltN (normG (unitR 0 l))) (signs s).length = l := by
  have h := (say_all l).mem (E := isort ltN (normG (unitR 0 l))) (fun x => isort_mem' ltN x _)
  have hlen : (isort ltN (normG (unitR 0 l))).length ≤ 256 := by rw [isort_length]; exact hn
  generalize isort ltN (normG (unitR 0 l)) = E at *
  have hz : chkT s E = 0 := by
    refine chk_of hs hlen ⟨fun x hx => ?_, h.apart⟩ fun x hx => ?_
    · have := h.fit x hx
      rw [hl] at this
      simp at this
      omega
    · have hf := h.fit x hx
      obtain ⟨j, hj⟩ : ∃ j : Nat, x.fr = j := ⟨x.fr.toNat, by omega⟩
      have hjl : j < l.length := by omega
      have hv := h.val x hx j l[j] (by omega) (by omega) (List.getElem?_eq_getElem hjl)
      have hcc := hc l[j] (List.getElem_mem hjl)
      generalize l[j] = a at *
      unfold valK at hv
      by_cases h5 : x.kd = 5
      · rw [if_pos h5] at hv ⊢
        have := hv.1
        unfold hasK at this
        rw [if_neg (by omega), if_neg (by omega), if_neg (by omega), if_neg (by omega)] at this
        omega
      · rw [if_neg h5] at hv ⊢
        omega
  refine ⟨hz, ?_⟩
  apply List.ext_getElem?
  intro j
  by_cases hj : j < (signs s).length
  · rw [allsS_at hz _ j hj, look_form]
    have hjl : j < l.length := by omega
    have h9 := h.mem (E := isort ltS E) (fun x => isort_mem' ltS x _)
    rw [say_look h9 (List.getElem?_eq_getElem hjl) (hc _ (List.getElem_mem hjl)), List.getElem?_eq_getElem hjl]
  · rw [List.getElem?_eq_none (by rw [alls_len]; omega), List.getElem?_eq_none (by omega)]
/-- A text whose normal form is made: it is told, is right, looks the same, and is its own normal form. -/
theorem mad_ok {s : ByteArray} {l : List At} (hl : l.length = (signs s).length) (hs : s.size ≤ 4096) (hc : ∀ a ∈ l, 0 ≤ a.c ∧ a.c ≤ 16777216) {E : List Sp} {u : ByteArray} (h : madM s l = (0, u, E)) :
    u = s ∧ chkT s E = 0 ∧ alls E (signs s).length = l ∧ norM s E = (0, s, E) := by
  have h0 := h
  unfold madM at h
  by_cases hn : 256 < (normG (unitR 0 l)).length
  · rw [if_pos hn] at h
    cases h
  · rw [if_neg hn] at h
    obtain ⟨e1, e2⟩ := Prod.mk.inj (Prod.mk.inj h).2
    obtain ⟨k1, k2⟩ := nf_ok hl hs hc (by omega)
    rw [e2] at k1 k2
    refine ⟨e1.symm, k1, k2, ?_⟩
    rw [nor_mad k1, k2, h0, e1]
theorem mad_err (s : ByteArray) (l : List At) : (madM s l).1 = 0 ∨ madM s l = (2, ByteArray.empty, []) := by
  unfold madM
  split
  · exact .inr rfl
  · exact .inl rfl
/-- Normal forms are the same just where the signs look alike. -/
theorem mad_inj {s : ByteArray} {l m : List At} (hl : l.length = (signs s).length) (hm : m.length = (signs s).length) (hs : s.size ≤ 4096) (hc : ∀ a ∈ l, 0 ≤ a.c ∧ a.c ≤ 16777216) (hd : ∀ a ∈ m, 0 ≤ a.c ∧ a.c ≤ 16777216) {E : List Sp} {u : ByteArray} (h : madM s l = (0, u, E)) (k : madM s m = (0, u, E)) : l = m := by
  rw [← (mad_ok hl hs hc h).2.2.1, ← (mad_ok hm hs hd k).2.2.1]
end Go.Proofs.YtkamjlpnenldbaaGreatDoor

/- Runs: no two side by side look alike; runs that are cut in two say the same (P0703, P0711), as mathematics. -/
namespace Go.Proofs.YtkamjlpnenldbaaGreatDoor
open Go.RowKit Go.Shelf

/-- No two side by side look alike. -/
def Ne2 (R : List Rn) : Prop := ∀ (k : Nat) (r q : Rn), R[k]? = some r → R[k + 1]? = some q → q.a ≠ r.a
theorem ne2_step {R : List Rn} (h : Ne2 R) (i e : Int) (a : At) : Ne2 (runStep R i e a) := by
  unfold runStep
  cases hl : R.getLast? with
  | none =>
    intro k r q h1 h2
    simp at h2
  | some r =>
    obtain ⟨A, rfl, hA⟩ := getLast_at hl
    simp only
    by_cases hr : r.a = a
    · rw [if_pos hr, List.dropLast_concat]
      intro k p q h1 h2
      have hk := (List.getElem?_eq_some_iff.1 h2).1
      simp at hk
      have h1' : (A ++ [r])[k]? = some p := by rw [List.getElem?_append_left (by omega)] at h1 ⊢; exact h1
      by_cases e : k + 1 < A.length
      · have h2' : (A ++ [r])[k + 1]? = some q := by rw [List.getElem?_append_left e] at h2 ⊢; exact h2
        exact h k p q h1' h2'
      · have e2 : k + 1 = A.length := by omega
        rw [e2] at h2
        simp at h2
        subst h2
        exact h k p r h1' (by rw [e2]; exact hA)
    · rw [if_neg hr]
      intro k p q h1 h2
      have hk := (List.getElem?_eq_some_iff.1 h2).1
      simp at hk
      by_cases e : k + 1 < (A ++ [r]).length
      · rw [List.getElem?_append_left e] at h2
        rw [List.getElem?_append_left (by omega)] at h1
        exact h k p q h1 h2
      · have e2 : k = A.length := by simp at e; omega
        subst e2
        rw [List.getElem?_append_left (by simp), hA] at h1
        rw [List.getElem?_append_right (by simp)] at h2
        simp at h2
        obtain rfl := Option.some.inj h1
        subst h2
        exact fun e => hr e.symm
theorem ne2_rle : ∀ (l : List At) (R : List Rn) (i : Int), Ne2 R → Ne2 (rleL R i l)
  | [], R, i, h => h
  | a :: l, R, i, h => by
    show Ne2 (rleL (runStep R i (i + 1) a) (i + 1) l)
    exact ne2_rle l _ _ (ne2_step h _ _ _)
theorem ne2_all (l : List At) : Ne2 (rleL [] 0 l) := ne2_rle l [] 0 (fun k r q h => by simp at h)
/-- Runs, cut in two at a place. -/
def cutR1 (p : Int) (x : Rn) : List Rn := if x.fr < p ∧ p < x.tt then [⟨x.fr, p, x.a⟩, ⟨p, x.tt, x.a⟩] else [x]
def cutR (p : Int) (L : List Rn) : List Rn := L.flatMap (cutR1 p)
theorem cutR_snoc (p : Int) (L : List Rn) (x : Rn) : cutR p (L ++ [x]) = cutR p L ++ cutR1 p x := by simp [cutR]
theorem cutR_ch (p : Int) : ∀ {L : List Rn} {f n : Int}, ChR f L n → ChR f (cutR p L) n ∧ expR (cutR p L) = expR L
  | [], f, n, h => ⟨h, rfl⟩
  | r :: L, f, n, h => by
    rw [ChR] at h
    obtain ⟨i1, i2⟩ := cutR_ch p h.2.2
    have e : cutR p (r :: L) = cutR1 p r ++ cutR p L := by simp [cutR]
    rw [e, cutR1]
    by_cases hc : r.fr < p ∧ p < r.tt
    · rw [if_pos hc]
      refine ⟨⟨h.1, hc.1, rfl, hc.2, i1⟩, ?_⟩
      rw [List.cons_append, List.cons_append, List.nil_append, exp_cons, exp_cons, exp_cons, i2, ← List.append_assoc]
      congr 1
      simp only
      rw [List.replicate_append_replicate]
      congr 1
      omega
    · rw [if_neg hc]
      refine ⟨⟨h.1, h.2.1, i1⟩, ?_⟩
      rw [List.cons_append, List.nil_append, exp_cons, exp_cons, i2]
theorem ch_len : ∀ {L : List Rn} {f n : Int}, ChR f L n → (L.length : Int) ≤ n - f
  | [], f, n, h => by rw [ChR] at h; simp; omega
  | r :: L, f, n, h => by
    rw [ChR] at h
    have := ch_len h.2.2
    simp
    omega
theorem cutR_mem {p : Int} {L : List Rn} {x : Rn} (h : x ∈ cutR p L) : ∃ q ∈ L, x.a = q.a := by
  unfold cutR at h
  obtain ⟨q, hq, hx⟩ := List.mem_flatMap.1 h
  refine ⟨q, hq, ?_⟩
  unfold cutR1 at hx
  split at hx
  · simp at hx
    rcases hx with rfl | rfl <;> rfl
  · simp at hx
    rw [hx]
/-- The runs of a right text. -/
theorem runs_ch {s : ByteArray} {D : List Sp} (h : chkT s D = 0) : ChR 0 (runsM (signs s).length (isort ltS D)) (signs s).length ∧ expR (runsM (signs s).length (isort ltS D)) = alls D (signs s).length ∧ (∀ r ∈ runsM (signs s).length (isort ltS D), 0 ≤ r.a.c ∧ r.a.c ≤ 16777216) ∧ Ne2 (runsM (signs s).length (isort ltS D)) ∧ RP (alls D (signs s).length) (runsM (signs s).length (isort ltS D)) (signs s).length := by
  rw [runs_seg h]
  have hc : ChR 0 (rleL [] 0 (alls D (signs s).length)) (signs s).length := by
    have h9 := ch_rle (alls D (signs s).length) [] 0 rfl
    rwa [alls_len, Int.zero_add] at h9
  refine ⟨hc, exp_all _, fun r hr => ?_, ne2_all _, ?_⟩
  · have h9 := mem_exp hc hr
    rw [exp_all] at h9
    exact alls_col h _ _ h9
  · have h9 := rp_all (alls D (signs s).length)
    rwa [alls_len] at h9
theorem mak_runs {s : ByteArray} {D : List Sp} (h : chkT s D = 0) : makM s (runsM (signs s).length (isort ltS D)) = madM s (alls D (signs s).length) := by
  obtain ⟨h1, h2, h3, _⟩ := runs_ch h
  rw [mak_mad (chkT_ok h).1 (part_of h1 h3), h2]
theorem mak_cut {s : ByteArray} {D : List Sp} (h : chkT s D = 0) (p : Int) : makM s (cutR p (runsM (signs s).length (isort ltS D))) = madM s (alls D (signs s).length) ∧ (cutR p (runsM (signs s).length (isort ltS D))).length ≤ 4096 := by
  obtain ⟨h1, h2, h3, _⟩ := runs_ch h
  obtain ⟨k1, k2⟩ := cutR_ch p h1
  have h4 := (chkT_ok h).1
  have h5 := signs_le s
  refine ⟨?_, ?_⟩
  · rw [mak_mad h4 (part_of k1 (fun r hr => by obtain ⟨q, hq, e⟩ := cutR_mem hr; rw [e]; exact h3 q hq)), k2, h2]
  · have := ch_len k1
    omega
/-- How a sign of a right text looks. -/
theorem lok_at {s : ByteArray} {D : List Sp} (h : chkT s D = 0) {k : Nat} {a : At} (ha : (alls D (signs s).length)[k]? = some a) : lokR s D k = (a, 0) := by
  have hk : k < (signs s).length := by have := (List.getElem?_eq_some_iff.1 ha).1; rwa [alls_len] at this
  rw [allsS_at h _ k hk] at ha
  unfold lokR
  rw [if_neg (by simp [h]), if_neg (by omega), ← Option.some.inj ha]
/-- A span that is laid over looks. -/
theorem lay_lay (a : At) (x : Sp) : layA (layA a x) x = layA a x := by
  unfold layA
  by_cases k1 : x.kd = 1
  · simp [k1]
  by_cases k2 : x.kd = 2
  · simp [k2]
  by_cases k3 : x.kd = 3
  · simp [k3]
  by_cases k4 : x.kd = 4
  · simp [k4]
  by_cases k5 : x.kd = 5
  · simp [k5]
  · simp [k1, k2, k3, k4, k5]
theorem set_two {s : ByteArray} {D E : List Sp} {x : Sp} (h : chkT s D = 0) (hf : fitB x (signs s).length = true) (hE : setM s D x = (0, s, E)) : chkT s E = 0 ∧ alls E (signs s).length = setL D x (signs s).length ∧ setM s E x = (0, s, E) ∧ norM s E = (0, s, E) := by
  rw [set_mad h hf] at hE
  obtain ⟨_, k1, k2, k3⟩ := mad_ok (setL_len _ _ _) (chkT_ok h).1 (setL_col h hf _) hE
  refine ⟨k1, k2, ?_, k3⟩
  rw [set_mad k1 hf, ← hE]
  congr 1
  apply List.ext_getElem?
  intro j
  by_cases hj : j < (signs s).length
  · have e2 : (alls E (signs s).length)[j]? = (setL D x (signs s).length)[j]? := by rw [k2]
    rw [allsS_at k1 _ j hj, setL_at D x _ j hj] at e2
    rw [setL_at E x _ j hj, setL_at D x _ j hj, Option.some.inj e2]
    by_cases hc : x.fr ≤ (j : Int) ∧ (j : Int) < x.tt
    · rw [if_pos hc, if_pos hc, lay_lay]
    · rw [if_neg hc, if_neg hc]
  · rw [List.getElem?_eq_none (by rw [setL_len]; omega), List.getElem?_eq_none (by rw [setL_len]; omega)]
theorem setL_of {s : ByteArray} {D : List Sp} {x : Sp} (h : chkT s D = 0) {n k : Nat} {a : At} (ha : (alls D n)[k]? = some a) : (setL D x n)[k]? = some (if x.fr ≤ (k : Int) ∧ (k : Int) < x.tt then layA a x else a) := by
  have hk : k < n := by have := (List.getElem?_eq_some_iff.1 ha).1; rwa [alls_len] at this
  rw [allsS_at h n k hk] at ha
  rw [setL_at D x n k hk, Option.some.inj ha]
end Go.Proofs.YtkamjlpnenldbaaGreatDoor

/- StyleLaid (P0712): the walk. -/
namespace Go.Proofs.YtkamjlpnenldbaaGreatDoor
open Go.RowKit Go.Shelf
attribute [local go_sem] Oper.semAt_some

theorem own_noneL {W : World} {base n c : Nat} {e : TypeId} {size : Nat} {o : Option Addr} {xs : List Value} (h : W.ownsRow base e size (.slice o n c) n xs) (ho : o = none) : n = 0 ∧ c = 0 := by
  subst ho
  rcases h.2 with ⟨q, _⟩ | ⟨g, cap, cur, q, _⟩
  · simp at q
    omega
  · simp at q
theorem set_ok {s : ByteArray} {D : List Sp} {x : Sp} {ss : ByteArray} {E : List Sp} (h : setM s D x = (0, ss, E)) : chkT s D = 0 ∧ fitB x (signs s).length = true ∧ ss = s := by
  have h0 := h
  unfold setM at h
  by_cases c : chkT s D ≠ 0
  · rw [if_pos c] at h
    exact absurd (Prod.mk.inj h).1 c
  · rw [if_neg c] at h
    have c : chkT s D = 0 := by simpa using c
    by_cases f : fitB x (signs s).length = false
    · rw [if_pos f] at h
      have := (Prod.mk.inj h).1
      omega
    · have f : fitB x (signs s).length = true := by simpa using f
      rw [set_mad c f] at h0
      exact ⟨c, f, (mad_ok (setL_len _ _ _) (chkT_ok c).1 (setL_col c f _) h0).1⟩
theorem go_all {s : ByteArray} {D : List Sp} (hb : chkT s D = 0) : goA s D = alls D (signs s).length := by unfold goA; rw [if_pos hb]
theorem atc_newL (w : World) (a : At) : AtC (w.alloc (.cells #[.bool a.b, .bool a.i, .bool a.u, .bool a.s, .int .i64 a.c] 43)) w.heap.size a := World.alloc_heap_new w _
theorem at_setL0 {W : World} {B : Nat} {a : At} (h : AtC W B a) : AtC (W.setCell ⟨B, 0, none⟩ (.bool true)) B ⟨true, a.i, a.u, a.s, a.c⟩ := set_atS h 0 _
theorem at_setL1 {W : World} {B : Nat} {a : At} (h : AtC W B a) : AtC (W.setCell ⟨B, 1, none⟩ (.bool true)) B ⟨a.b, true, a.u, a.s, a.c⟩ := set_atS h 1 _
theorem at_setL2 {W : World} {B : Nat} {a : At} (h : AtC W B a) : AtC (W.setCell ⟨B, 2, none⟩ (.bool true)) B ⟨a.b, a.i, true, a.s, a.c⟩ := set_atS h 2 _
theorem at_setL3 {W : World} {B : Nat} {a : At} (h : AtC W B a) : AtC (W.setCell ⟨B, 3, none⟩ (.bool true)) B ⟨a.b, a.i, a.u, true, a.c⟩ := set_atS h 3 _
theorem at_setL4 {W : World} {B : Nat} {a : At} (h : AtC W B a) (c : Int) : AtC (W.setCell ⟨B, 4, none⟩ (.int .i64 c)) B ⟨a.b, a.i, a.u, a.s, c⟩ := set_atS h 4 _
end Go.Proofs.YtkamjlpnenldbaaGreatDoor

/- surtitlelaw7: SameSpans, SameText of any two (chapter 7). -/
namespace Go.Proofs.YtkamjlpnenldbaaGreatDoor
open Go.RowKit Go.Shelf
attribute [local go_sem] Oper.semAt_some

instance spDec : DecidableEq Sp := fun x y => by
  obtain ⟨a, b, c, d⟩ := x
  obtain ⟨a', b', c', d'⟩ := y
  exact decidable_of_iff (a = a' ∧ b = b' ∧ c = c' ∧ d = d') (by simp)
set_option maxRecDepth 100000 in
theorem sp_neq2 (x y : Sp) (w : World) : (binOp .neq 26 x.val y.val).run Tryz.prog w = .ok (.bool (!decide (x = y))) w := by
  obtain ⟨a, b, c, d⟩ := x
  obtain ⟨a', b', c', d'⟩ := y
  unfold Sp.val
  rw [run_neq_struct, run_equalIn_agg _ _ _ _ _ sp_under sp_held]
  have hf := sp_fields
  match h : (Tryz.prog.fieldsOf 26).toList, hf with
  | [f0, f1, f2, f3], hf =>
    clear h
    simp only [List.map_cons, List.map_nil, List.cons.injEq, Prod.mk.injEq, and_true] at hf
    obtain ⟨⟨n0, t0, o0⟩, ⟨n1, t1, o1⟩, ⟨n2, t2, o2⟩, ⟨n3, t3, o3⟩⟩ := hf
    have u3 : Tryz.prog.underlying 3 = some (.int .i64) := Tryz.underlying3
    simp [Op.eqFields, n0, n1, n2, n3, t0, t1, t2, t3, o0, o1, o2, o3, go_sem, u3]
    by_cases h0 : a = a' <;> by_cases h1 : b = b' <;> by_cases h2 : c = c' <;> by_cases h3 : d = d' <;> simp [h0, h1, h2, h3]
  | [], hf => simp at hf
  | [_], hf => simp at hf
  | [_, _], hf => simp at hf
  | [_, _, _], hf => simp at hf
  | _ :: _ :: _ :: _ :: _ :: _, hf => simp at hf
set_option maxRecDepth 100000 in
set_option maxHeartbeats 2000000 in
theorem samesp_two (D E : List Sp) (o1 o2 : Option Addr) (c1 c2 : Nat) (hl : D.length ≤ 1048576) (hm : E.length ≤ 1048576) (w : World) (hR1 : SpO w o1 D) (hR2 : SpO w o2 E) :
    Calls Tryz.prog 22 #[.slice o1 D.length c1, .slice o2 E.length c2] w fun e w' => e = .returned (.bool (decide (D = E))) ∧ Below w.heap.size w w' := by
  obtain ⟨N, hN⟩ : ∃ N, D.length = N := ⟨_, rfl⟩
  obtain ⟨M, hM⟩ : ∃ M, E.length = M := ⟨_, rfl⟩
  have HN := hideS (And.intro hN (And.intro hM (And.intro hR1 hR2)))
  rw [hN] at hl ⊢
  rw [hM] at hm ⊢
  obtain ⟨q, hq⟩ : ∃ q, decide (D = E) = q := ⟨_, rfl⟩
  rw [hq]
  have HQ := hideS hq
  clear hN hM hR1 hR2 hq
  have hgd := sp_guard
  by_cases hNM : N = M
  · subst hNM
    go_enter Tryz.func22, Tryz.ntmps22
    go_wp2_with fail
    go_loopw [5] (fun iv wq => ∃ i : Nat, iv = .int .i64 (i : Nat) ∧ i ≤ N ∧ D.take i = E.take i ∧ Below w.heap.size w wq) (fun iv _ => N - (intOf iv).toNat)
    case atStart => exact ⟨0, rfl, Nat.zero_le _, rfl, Below.refl _ _⟩
    case round =>
      obtain ⟨i, rfl, hiN, htk, hb⟩ := hrel
      obtain ⟨wq, rfl⟩ : ∃ wq, wq = wr := ⟨_, rfl⟩
      by_cases hlt : i < N
      · obtain ⟨x, hx⟩ : ∃ x, D[i]? = some x := ⟨_, List.getElem?_eq_getElem (by rw [HN.out.1]; exact hlt)⟩
        obtain ⟨y, hy⟩ : ∃ y, E[i]? = some y := ⟨_, List.getElem?_eq_getElem (by rw [HN.out.2.1]; exact hlt)⟩
        obtain ⟨a, rfl, _, k0, k1, k2, k3⟩ := HN.out.2.2.1.keep hb i x hx
        obtain ⟨b, rfl, _, e0, e1, e2, e3⟩ := HN.out.2.2.2.keep hb i y hy
        have d1 : (i : Int) < (N : Int) := by omega
        have wi : IntKind.i64.wrap ((i : Int) + 1) = ((i + 1 : Nat) : Int) := by rw [show ((i + 1 : Nat) : Int) = (i : Int) + 1 by omega]; exact IntWalk.i64_in _ ⟨by omega, by omega⟩
        have hne := fun W => sp_neq2 x y W
        unfold Sp.val at hne
        by_cases hxy : x = y
        · have HT : Hid (D.take (i + 1) = E.take (i + 1)) := hideS (by rw [List.take_add_one, List.take_add_one, htk, hx, hy, hxy])
          have HB := hideS hb
          rw [decide_eq_true hxy] at hne
          simp only [Bool.not_true] at hne
          clear hb hx hy htk hxy
          go_wp2_with fail
          go_quiet (fail)
          go_wp2_with fail
          go_roundw
          case rel => exact ⟨i + 1, by first | rfl | simp, by omega, HT.out, HB.out.trans ((below_dnS (Below.refl _ _) nq).mono HB.out.size)⟩
          case measure => simp [intOf]; omega
        · have hq : q = false := by
            rw [← HQ.out]
            refine decide_eq_false fun h => hxy ?_
            rw [h, hy] at hx
            exact (Option.some.inj hx).symm
          subst hq
          have HB := hideS hb
          rw [decide_eq_false hxy] at hne
          simp only [Bool.not_false] at hne
          clear hb hx hy htk hxy
          go_wp2_with fail
          go_quiet (fail)
          go_wp2_with fail
          go_ret
          exact ⟨rfl, HB.out.trans ((below_dnS (Below.refl _ _) nq).mono HB.out.size)⟩
      · have d1 : ¬ (i : Int) < (N : Int) := by omega
        have hq : q = true := by
          rw [← HQ.out]
          refine decide_eq_true ?_
          have e : i = N := by omega
          rw [e, List.take_of_length_le (by rw [HN.out.1]; exact Nat.le_refl _), List.take_of_length_le (by rw [HN.out.2.1]; exact Nat.le_refl _)] at htk
          exact htk
        subst hq
        have HB := hideS hb
        clear hb htk
        go_wp2_with fail
        go_ret
        exact ⟨rfl, HB.out⟩
  · have hq : q = false := by
      rw [← HQ.out]
      refine decide_eq_false fun h => hNM ?_
      rw [← HN.out.1, ← HN.out.2.1, h]
    subst hq
    have d1 : ¬ (N : Int) = (M : Int) := by omega
    have d2 : ((N : Int) == (M : Int)) = false := by simp; omega
    go_enter Tryz.func22, Tryz.ntmps22
    go_wp2_with fail
    go_ret
    exact ⟨rfl, Below.refl _ _⟩
set_option maxRecDepth 100000 in
theorem sametx_two (s : ByteArray) (D E : List Sp) (o1 o2 : Option Addr) (c1 c2 : Nat) (hl : D.length ≤ 1048576) (hm : E.length ≤ 1048576) (w : World) (hR1 : SpO w o1 D) (hR2 : SpO w o2 E) :
    Calls Tryz.prog 8 #[.agg #[.string s, .slice o1 D.length c1], .agg #[.string s, .slice o2 E.length c2]] w fun e w' => e = .returned (.bool (decide (D = E))) ∧ Below w.heap.size w w' := by
  have HB0 := bupS (bel1S w (.cells #[.string s, .slice o1 D.length c1] 24)) (bel1S _ (.cells #[.string s, .slice o2 E.length c2] 24))
  have HS := hideS (fun (W : World) (h : Below w.heap.size w W) => samesp_two D E o1 o2 c1 c2 hl hm W (hR1.keep h) (hR2.keep h))
  have hss : (s.toList == s.toList) = true := by simp
  have HB := hideS HB0
  clear hR1 hR2 HB0
  obtain ⟨N, hN⟩ : ∃ N, D.length = N := ⟨_, rfl⟩
  obtain ⟨M, hM⟩ : ∃ M, E.length = M := ⟨_, rfl⟩
  obtain ⟨q, hq⟩ : ∃ q, decide (D = E) = q := ⟨_, rfl⟩
  rw [hN, hM, hq] at HS
  rw [hN, hM] at HB
  rw [hN, hM, hq]
  clear hN hM hq hl hm
  go_enter Tryz.func8, Tryz.ntmps8
  go_wp2_with fail
  refine (HS.out _ HB.out).mono ?_
  rintro e w1 ⟨rfl, b1⟩
  have H1 := hideS (bupS HB.out b1)
  clear b1
  cases q
  · go_wp2_with fail
    go_ret
    exact ⟨rfl, H1.out⟩
  · go_wp2_with fail
    go_ret
    exact ⟨rfl, H1.out⟩
end Go.Proofs.YtkamjlpnenldbaaGreatDoor
