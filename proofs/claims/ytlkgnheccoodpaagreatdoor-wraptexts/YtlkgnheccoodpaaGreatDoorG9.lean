import Derived.Test.YtlkgnheccoodpaaGreatDoorG8
import Derived.Test.YtlkgnheccoodpaaGreatDoorGK
import Derived.Test.YtlkgnheccoodpaaGreatDoorJnB
import Derived.Test.YtlkgnheccoodpaaGreatDoorWrO
import Derived.Test.YtlkgnheccoodpaaGreatDoorWtD
import Derived.Test.YtlkgnheccoodpaaGreatDoorWxB
namespace Go.Proofs.YtlkgnheccoodpaaGreatDoor
open Go.RowKit Go.Shelf
attribute [local go_sem] Oper.semAt_some
set_option maxRecDepth 100000 in
set_option maxHeartbeats 2000000 in
theorem wtext_bad (s : ByteArray) (o : Option Addr) (N cap : Nat) (wd : Int) (e1 e2 er : Int) (he : (¬ e1 = 0 ∧ er = e1) ∨ (e1 = 0 ∧ ¬ e2 = 0 ∧ er = e2)) (w : World)
  (HCk : ∀ W, Below w.heap.size w W → Calls Tryz.prog 12 #[.agg #[.string s, .slice o N cap]] W fun e w' => e = .returned (.int .i64 e1) ∧ Below W.heap.size W w')
  (HWc : ∀ W, Calls Tryz.prog 13 #[.string s, .int .i64 wd] W fun e w' => e = .returned (.int .i64 e2) ∧ w' = W) :
  Calls Tryz.prog 6 #[.agg #[.string s, .slice o N cap], .int .i64 wd] w (TxAns w (er, ByteArray.empty, [])) := by
 replace HCk := hideS HCk
 replace HWc := hideS HWc
 have HE := hideS he
 clear he
 go_enter Tryz.func6, Tryz.ntmps6
 go_wp2_with fail
 have hex : Below w.heap.size w ((w.alloc (.cells #[.string s, .slice o N cap] 24)).alloc (.cells #[.string ⟨#[]⟩, .slice none 0 0] 24)) ∧ Tx ((w.alloc (.cells #[.string s, .slice o N cap] 24)).alloc (.cells #[.string ⟨#[]⟩, .slice none 0 0] 24)) w.heap.size (.string s) (.slice o N cap) ∧ Tx ((w.alloc (.cells #[.string s, .slice o N cap] 24)).alloc (.cells #[.string ⟨#[]⟩, .slice none 0 0] 24)) (w.heap.size + 1) (.string ⟨#[]⟩) (.slice none 0 0) := by
  refine ⟨bupS (bel1S _ _) (bel1S _ _), (Tx.new w _ _).keep (bel1S _ _), ?_⟩
  have h9 := Tx.new (w.alloc (.cells #[.string s, .slice o N cap] 24)) (.string ⟨#[]⟩) (.slice none 0 0)
  rw [World.size_alloc] at h9
  exact h9
 obtain ⟨V, hV⟩ : ∃ V, (w.alloc (.cells #[.string s, .slice o N cap] 24)).alloc (.cells #[.string ⟨#[]⟩, .slice none 0 0] 24) = V := ⟨_, rfl⟩
 rw [hV] at hex
 try rw [hV]
 clear hV
 have HV := hideS hex
 clear hex
 refine (HCk.out _ HV.out.1).mono ?_
 rintro e w1 ⟨rfl, b1⟩
 replace HV := hideS (And.intro (bupS HV.out.1 b1) (And.intro (HV.out.2.1.keep b1) (HV.out.2.2.keep b1)))
 clear b1 HCk
 obtain ⟨c0, c1, c2, c3⟩ := HV.out.2.1.cells
 obtain ⟨r0, r1, r2, r3⟩ := HV.out.2.2.cells
 have hz := HV.out.2.2.lt
 by_cases g : e1 = 0
 ·subst g
  have hq : ¬ e2 = 0 ∧ er = e2 := by
   rcases HE.out with h | h
   ·exact absurd rfl h.1
   ·exact h.2
  obtain ⟨g2, rfl⟩ := hq
  have g' : (er != 0) = true := by simpa using g2
  go_wp2_with fail
  refine (HWc.out _).mono ?_
  rintro e w2 ⟨rfl, hq⟩
  obtain rfl : w2 = w1 := hq
  go_wp2_with fail
  have ⟨k0, k1, _⟩ := (HV.out.2.2.set (.string ⟨#[]⟩) (.slice none 0 0)).cells
  refine bodyPost_ret (v := .tuple #[.agg #[.string ⟨#[]⟩, .slice none 0 0], .int .i64 er]) (by simp [results, Tryz.results6, go_sem, k0, k1]) rfl ?_
  exact ⟨none, 0, rfl, ⟨Nat.le_refl _, Nat.zero_le _⟩, fun _ => ⟨rfl, rfl⟩, SpO.nil _ _, fun a h => (nomatch h), (HV.out.1.setCell (by simp) _).setCell (by simp) _⟩
 ·have hq : er = e1 := by
   rcases HE.out with h | h
   ·exact h.2
   ·exact absurd h.1 g
  subst hq
  have g' : (er != 0) = true := by simpa using g
  go_wp2_with fail
  have ⟨k0, k1, _⟩ := (HV.out.2.2.set (.string ⟨#[]⟩) (.slice none 0 0)).cells
  refine bodyPost_ret (v := .tuple #[.agg #[.string ⟨#[]⟩, .slice none 0 0], .int .i64 er]) (by simp [results, Tryz.results6, go_sem, k0, k1]) rfl ?_
  exact ⟨none, 0, rfl, ⟨Nat.le_refl _, Nat.zero_le _⟩, fun _ => ⟨rfl, rfl⟩, SpO.nil _ _, fun a h => (nomatch h), (HV.out.1.setCell (by simp) _).setCell (by simp) _⟩
theorem slay_any (x : St) (s : ByteArray) (D : List Sp) (o : Option Addr) (cap : Nat) (hs : s.size ≤ 140737488355328) (hk : x.kind = 0 ∨ x.kind = 1 ∨ x.kind = 2 ∨ x.kind = 3) (hb : 0 ≤ x.nxt.sg ∧ x.nxt.sg ≤ 100000) (hc : D.length ≤ cap ∧ cap ≤ maxLen) (hn : o = none → D = [] ∧ cap = 0) (w : World) (hw : 4 ≤ w.heap.size) (hU : Lib.Utf8Tabs 2 3 w) (hR : SpO w o D) :
  Calls Tryz.prog 17 #[.agg (cellsS x).toArray, .agg #[.string s, .slice o D.length cap]] w (LayAns w o (layM x s D)) :=
 lay_walk x.kind x.fin.loc x.fin.sg x.fin.ce x.nxt.loc x.nxt.sg x.nxt.ce s D o D.length cap rfl hk hb hc hn w hR
  (fun a b u hu W hW => splice_any s u D [] o none cap 0 a b hs (by rcases hu with rfl | rfl <;> decide) hc ⟨Nat.le_refl _, Nat.zero_le _⟩ hn (fun _ => ⟨rfl, rfl⟩) W (Nat.le_trans hw hW.size) (tabs_below hw hU hW) (hR.keep hW) (SpO.nil _ _))
theorem stp_fine (s : ByteArray) (hs : s.size ≤ 4096) (t : Nat) (ht : t ≤ (clusters s).length) (k : Int) (hk : 0 ≤ k ∧ k ≤ 3) : ((stpAt (partsL s) t k).kind = 0 ∨ (stpAt (partsL s) t k).kind = 1 ∨ (stpAt (partsL s) t k).kind = 2 ∨ (stpAt (partsL s) t k).kind = 3) ∧ 0 ≤ (stpAt (partsL s) t k).nxt.sg ∧ (stpAt (partsL s) t k).nxt.sg ≤ 100000 := by
 obtain ⟨n, h1, -, h3⟩ := loc_at s t ht
 have h4 := signs_sgs s
 have h5 := signs_le s
 refine ⟨by show k = 0 ∨ k = 1 ∨ k = 2 ∨ k = 3; omega, ?_⟩
 show 0 ≤ ((partsL s).getD t pt0).sg ∧ ((partsL s).getD t pt0).sg ≤ 100000
 rw [h1]
 omega
theorem way_fine (s : ByteArray) (hs : s.size ≤ 4096) (wd : Int) (hw : 2 ≤ wd ∧ wd ≤ 200) (way : List St) (x : St) (hway : wrapW s wd = way ++ [x]) : ∀ y ∈ way ++ [x], (y.kind = 0 ∨ y.kind = 1 ∨ y.kind = 2 ∨ y.kind = 3) ∧ 0 ≤ y.nxt.sg ∧ y.nxt.sg ≤ 100000 := by
 obtain ⟨ws, h1, h2, -⟩ := least_same s hs wd hw way x hway
 obtain ⟨rfl, -⟩ := best_all s hs wd hw way x hway
 intro y hy
 rcases List.mem_append.1 hy with h | h
 ·rw [h1] at h
  obtain ⟨t, ht, rfl⟩ := List.mem_map.1 h
  exact stp_fine s hs t (h2 t ht).2 _ ⟨(kindI_set _ _ _).2.1, (kindI_set _ _ _).2.2.1⟩
 ·obtain rfl := List.mem_singleton.1 h
  exact stp_fine s hs _ (by rw [partsL_len]; omega) 0 ⟨by omega, by omega⟩
theorem wtext_any (s : ByteArray) (D : List Sp) (o : Option Addr) (cap : Nat) (wd : Int) (hs : s.size ≤ 140737488355328) (hc : D.length ≤ cap ∧ cap ≤ maxLen) (hn : o = none → D = [] ∧ cap = 0) (N : Nat) (w : World) (hT : Tabs N w) (hw : 4 ≤ w.heap.size) (hU : Lib.Utf8Tabs 2 3 w) (hR : SpO w o D) :
  Calls Tryz.prog 6 #[.agg #[.string s, .slice o D.length cap], .int .i64 wd] w (TxAns w (wtxM s D wd)) := by
 have HCk := fun W (h : Below w.heap.size w W) => check7_any s D o cap hs hc hn W (hR.keep h)
 have HWc := fun W => wcheck_any s wd W
 unfold wtxM
 by_cases h1 : chkT s D = 0
 ·rw [if_neg (by simpa using h1)]
  rw [h1] at HCk
  obtain ⟨hs4, hD4⟩ := chkT_ok h1
  by_cases h2 : wcheckI s.size wd = 0
  ·rw [if_neg (by simpa using h2)]
   rw [h2] at HWc
   have hwd : 2 ≤ wd ∧ wd ≤ 200 := by
    unfold wcheckI at h2
    by_cases h3 : wd < 2 ∨ 200 < wd
    ·rw [if_pos h3] at h2; omega
    ·omega
   obtain ⟨a1, a2, a3, a4, way, x, a5, a6, a7⟩ := wrapW_all s hs4 wd hwd
   have hf := way_fine s hs4 wd hwd way x a5
   have hway := a5
   rw [a5]
   refine wtext_ok s D o D.length cap rfl hs4 hD4 wd hc hn (way ++ [x]) (by rw [List.length_append, List.length_singleton]; omega) w hR HCk HWc (fun W hW => ?_) (fun y hy s2 D2 o2 c2 q1 q2 q3 W hW q4 => slay_any y s2 D2 o2 c2 q1 (hf y hy).1 (hf y hy).2 q2 q3 W (Nat.le_trans hw hW.size) (tabs_below hw hU hW) q4)
   refine (stops_walk s (by omega) N W (hT.below hW)).mono ?_
   rintro e w2 ⟨v2, rfl, own2, b2⟩
   have e0 : stopsL (partsL s) = stopsW s := rfl
   rw [e0] at own2
   unfold wrapW at a5
   generalize stopsW s = L at *
   obtain ⟨n0, hn0⟩ : ∃ n, L.length = n + 1 := ⟨L.length - 1, by omega⟩
   rw [hn0] at own2
   obtain ⟨g2, cap2, rfl⟩ := ownsRow_succ own2
   obtain ⟨sr2, hg2, hcn2, hcm2⟩ := SRow.of_owns own2
   refine ⟨g2, _, cap2, rfl, b2, fun W2 hW2 => ?_⟩
   have HL := least_walk L g2 cap2 wd ⟨by omega, by omega⟩ a2 a1 a4 ⟨by omega, hcm2⟩ W2 (SRowO.of_row (sr2.keep hW2 sr2.1))
   rw [a5, hn0] at HL
   refine HL.mono ?_
   rintro e w3 ⟨v3, rfl, own3, b3⟩
   have own3' := own3
   rw [List.length_append] at own3'
   obtain ⟨g3, cap3, rfl⟩ := ownsRow_succ (show w3.ownsRow W2.heap.size 52 7 v3 (way.length + 0 + 1) _ from own3')
   obtain ⟨sr3, hg3, hcn3, hcm3⟩ := SRow.of_owns own3'
   exact ⟨g3, cap3, by simp, sr3, hg3, ⟨by simpa using hcn3, hcm3⟩, b3⟩
  ·rw [if_pos h2]
   exact wtext_bad s o D.length cap wd 0 _ _ (.inr ⟨rfl, h2, rfl⟩) w HCk HWc
 ·rw [if_pos h1]
  exact wtext_bad s o D.length cap wd _ _ _ (.inl ⟨h1, rfl⟩) w HCk HWc
end Go.Proofs.YtlkgnheccoodpaaGreatDoor
namespace Go.Proofs.YtlkgnheccoodpaaGreatDoor
theorem join_tenX (q r : Int) (one : Bool) : joinB 10 q r one = false := by
 have h1 : ctlB 10 = true := by decide
 have h2 : widthI 10 = 0 := by kernel_rfl
 have h3 : flagB 10 = false := by decide
 unfold joinB
 rw [h1, h2, h3]
 simp
theorem toF_tenX (R : Nat → Int) (n fr : Nat) (h : R fr = 10) : ∀ f, toF R n fr f (fr + 1) = fr + 1
 | 0 => rfl
 | f + 1 => by
  unfold toF
  rw [h, join_tenX, if_neg (by simp)]
theorem rclF_ten (R : Nat → Int) (A : Nat → Nat) (n : Nat) : ∀ b fr, ∀ c ∈ rclF R A n b fr, ∃ k : Nat, c.fr = (k : Int) ∧ (R k = 10 → c.to = (k : Int) + 1)
 | 0, _, c, h => by simp [rclF] at h
 | b + 1, fr, c, h => by
  unfold rclF at h
  split at h
  ·rcases List.mem_cons.1 h with rfl | h
   ·refine ⟨fr, rfl, fun hr => ?_⟩
    show ((toF R n fr n (fr + 1) : Nat) : Int) = _
    rw [toF_tenX R n fr hr]
    rfl
   ·exact rclF_ten R A n b _ c h
  ·simp at h
theorem piece_ten (s : ByteArray) (i : Nat) (h : i < (clusters s).length) (he : endsB ((piecesL s).getD i pc0) = true) : ((piecesL s).getD i pc0).tt = ((piecesL s).getD i pc0).fr + 1 := by
 obtain ⟨c, hc⟩ : ∃ c, (clusters s)[i]? = some c := ⟨_, List.getElem?_eq_getElem h⟩
 rw [getD_at (piecesL_at s i c hc)] at he ⊢
 have hm := List.mem_of_getElem? hc
 rw [← rcl_clusters] at hm
 obtain ⟨k, h1, h2⟩ := rclF_ten _ _ _ _ _ c hm
 have hr : runeAt s c.fr.toNat = 10 := by simpa [endsB, pcOf] using he
 rw [h1, Int.toNat_natCast] at hr
 show c.to = c.fr + 1
 rw [h1]
 exact h2 hr
def sgA (s : ByteArray) (n : Nat) : Int := ((partsL s).getD n pt0).sg
theorem sg_next (s : ByteArray) (n : Nat) (h : n < (clusters s).length) : sgA s n < sgA s (n + 1) := by
 unfold sgA
 have h1 := fr_sg s n h
 have h2 := tt_sg s n h
 obtain ⟨c, hc⟩ : ∃ c, (clusters s)[n]? = some c := ⟨_, List.getElem?_eq_getElem h⟩
 obtain ⟨k, t, e1, e2, _, e4, _⟩ := cl_ends s c (List.mem_of_getElem? hc)
 rw [getD_at (piecesL_at s n c hc)] at h1 h2
 have h1 : c.fr = _ := h1
 have h2 : c.to = _ := h2
 omega
theorem sg_ten (s : ByteArray) (n : Nat) (h : n < (clusters s).length) (he : endsB ((piecesL s).getD n pc0) = true) : sgA s n = sgA s (n + 1) - 1 := by
 unfold sgA
 have h1 := fr_sg s n h
 have h2 := tt_sg s n h
 have h3 := piece_ten s n h he
 omega
theorem sg_ltX (s : ByteArray) (a b : Nat) (h : a < b) (hb : b ≤ (clusters s).length) : sgA s a < sgA s b := by
 have h1 := sg_next s a (by omega)
 have h2 := sg_le s (a + 1) (b - (a + 1)) (by omega)
 rw [show a + 1 + (b - (a + 1)) = b by omega] at h2
 unfold sgA at h1 ⊢
 omega
theorem sg_inj (s : ByteArray) (a b : Nat) (h : a ≤ b) (hb : b ≤ (clusters s).length) : sgA s a = sgA s b ↔ a = b := by
 constructor
 ·intro e
  by_cases hl : a < b
  ·have := sg_ltX s a b hl hb
   omega
  ·omega
 ·rintro rfl
  rfl
theorem place_sg (s : ByteArray) (n : Nat) (h0 : 0 < (clusters s).length) (hn : n ≤ (clusters s).length) : placeR (piecesL s) n = sgA s n := by
 unfold placeR sgA
 rw [piecesL_len]
 by_cases h : n = (clusters s).length
 ·rw [if_pos h]
  have h2 := tt_sg s (n - 1) (by omega)
  rw [show n - 1 + 1 = n by omega] at h2
  exact h2
 ·rw [if_neg h]
  exact fr_sg s n (by omega)
def rlayM (P : List Pc) (fr t : Nat) (mk : Bool) (s : ByteArray) (D : List Sp) : Int × ByteArray × List Sp :=
 if lineT P fr t = (if fr < t ∧ endsB (P.getD (t - 1) pc0) = true then t - 1 else t) ∧ mk = false then (0, s, D)
 else splM s D (placeR P (lineT P fr t)) (placeR P (if fr < t ∧ endsB (P.getD (t - 1) pc0) = true then t - 1 else t)) (if mk = true then nlB else ByteArray.empty) []
theorem last_eq (s : ByteArray) (fr t : Nat) (k : Int) (hft : fr ≤ t) (ht : t ≤ (clusters s).length) (hk : fr < t → (k = 1 ↔ ((partsL s).getD (t - 1) pt0).cl = 1)) (he : fr = t → k ≠ 1) : (if fr < t ∧ endsB ((piecesL s).getD (t - 1) pc0) = true then t - 1 else t) = stopE k t := by
 unfold stopE
 by_cases h : fr < t
 ·have hen := (piece_cl s (t - 1) (by omega)).1
  by_cases h1 : k = 1
  ·rw [if_pos h1, if_pos ⟨h, by rw [hen]; exact decide_eq_true ((hk h).1 h1)⟩]
  ·rw [if_neg h1, if_neg (fun q => h1 ((hk h).2 (of_decide_eq_true (by rw [← hen]; exact q.2))))]
 ·rw [if_neg (fun q => h q.1), if_neg (he (by omega))]
theorem lay_same (s : ByteArray) (fr t : Nat) (k : Int) (h0 : 0 < (clusters s).length) (hb : BgOk (partsL s) fr) (hft : fr ≤ t) (ht : t ≤ (clusters s).length) (hk : fr < t → (k = 1 ↔ ((partsL s).getD (t - 1) pt0).cl = 1)) (he : fr = t → k ≠ 1 ∧ (fr = 0 ∨ ((partsL s).getD (fr - 1) pt0).cl ≠ 2)) (hk3 : k = 0 ∨ k = 1 ∨ k = 2 ∨ k = 3) (u : ByteArray) (D : List Sp) :
  rlayM (piecesL s) fr t (decide (k = 2 ∨ k = 3)) u D = layM (stpAt (partsL s) t k) u D := by
 obtain ⟨e1, e2, -⟩ := line_ce s fr t k hb hft ht hk he
 have e3 := last_eq s fr t k hft ht hk (fun h => (he h).1)
 unfold rlayM
 rw [e3, e1]
 have hle : stripB (partsL s) (stopE k t) ≤ stopE k t := stripB_le _ _
 have hse : stopE k t ≤ t := by unfold stopE; split <;> omega
 rw [place_sg s _ h0 (by omega), place_sg s _ h0 (by omega)]
 unfold layM layI
 show _ = if k = 1 then (if sgA s (stripB (partsL s) (stopE k t)) = sgA s t - 1 then _ else splM u D (sgA s (stripB (partsL s) (stopE k t))) (sgA s t - 1) ByteArray.empty []) else if k = 2 ∨ k = 3 then splM u D (sgA s (stripB (partsL s) (stopE k t))) (sgA s t) nlB [] else if sgA s (stripB (partsL s) (stopE k t)) = sgA s t then _ else splM u D (sgA s (stripB (partsL s) (stopE k t))) (sgA s t) ByteArray.empty []
 rcases hk3 with rfl | rfl | rfl | rfl
 ·rw [if_neg (show ¬ ((0 : Int) = 1) by decide), if_neg (show ¬ ((0 : Int) = 2 ∨ (0 : Int) = 3) by decide)]
  have : stopE 0 t = t := rfl
  rw [this] at hle ⊢
  by_cases h : stripB (partsL s) t = t
  ·rw [if_pos ⟨h, by decide⟩, if_pos (by rw [h])]
  ·rw [if_neg (fun q => h q.1), if_neg (fun q => h ((sg_inj s _ _ hle ht).1 q)), if_neg (by decide)]
 ·rw [if_pos (show (1 : Int) = 1 from rfl)]
  have hlt : fr < t := by
   by_cases h : fr < t
   ·exact h
   ·exact absurd rfl (he (by omega)).1
  have : stopE 1 t = t - 1 := rfl
  rw [this] at hle ⊢
  have hen : endsB ((piecesL s).getD (t - 1) pc0) = true := by rw [(piece_cl s (t - 1) (by omega)).1]; exact decide_eq_true ((hk hlt).1 rfl)
  have h9 := sg_ten s (t - 1) (by omega) hen
  rw [show t - 1 + 1 = t by omega] at h9
  rw [← h9]
  by_cases h : stripB (partsL s) (t - 1) = t - 1
  ·rw [if_pos ⟨h, by decide⟩, if_pos (by rw [h])]
  ·rw [if_neg (fun q => h q.1), if_neg (fun q => h ((sg_inj s _ _ hle (by omega)).1 q)), if_neg (by decide)]
 ·rw [if_neg (show ¬ ((2 : Int) = 1) by decide), if_pos (show ((2 : Int) = 2 ∨ (2 : Int) = 3) by decide), if_neg (fun q => by simp at q), if_pos (by decide)]
  rfl
 ·rw [if_neg (show ¬ ((3 : Int) = 1) by decide), if_pos (show ((3 : Int) = 2 ∨ (3 : Int) = 3) by decide), if_neg (fun q => by simp at q), if_pos (by decide)]
  rfl
end Go.Proofs.YtlkgnheccoodpaaGreatDoor
namespace Go.Proofs.YtlkgnheccoodpaaGreatDoor
open Go.RowKit Go.Shelf
attribute [local go_sem] Oper.semAt_some
theorem cand_nil (D : Tb) (T : Nat → Be) (wd : Int) (h0 : D.n = 0) (h1 : D.wd = wd) (h2 : D.wl 0 0 = 0) (hw : 2 ≤ wd) : candGo D T 0 1 0 = [⟨wd * wd, 0, 0⟩] := by
 unfold candGo
 rw [h1, h2, if_neg (by omega), if_neg (fun e => absurd e.1 (by decide)), if_pos ⟨h0.symm, .inl h0⟩, if_neg (fun e => absurd e.1 (by decide))]
 unfold fnC candGo
 rw [h0, h1, h2, Int.sub_zero]
 rfl
theorem row_nil (wd : Int) (hw : 2 ≤ wd) : rowT (tbS [] wd) ((tbS [] wd).n + 1) = [⟨wd * wd, 0, 0⟩] := by
 show [((candGo (tbS [] wd) (fun t => (rowT (tbS [] wd) 0).getD (t - 0 - 1) be0) 0 1 0).foldl updE none).getD be0] = _
 rw [cand_nil (tbS [] wd) _ wd rfl rfl rfl hw]
 rfl
end Go.Proofs.YtlkgnheccoodpaaGreatDoor
namespace Go.Proofs.YtlkgnheccoodpaaGreatDoor
open Go.RowKit Go.Shelf
attribute [local go_sem] Oper.semAt_some
set_option maxRecDepth 100000 in
set_option maxHeartbeats 400000 in
theorem rplaceX_any (L : List Pc) (g cap n : Nat) (h1 : 1 ≤ L.length) (hn : n ≤ L.length) (hl : L.length ≤ 5000) (w : World) (hR : PcR w g L) :
  Calls Tryz.prog 48 #[.slice (some ⟨g, 0, none⟩) L.length cap, .int .i64 n] w fun e w' => e = .returned (.int .i64 (placeR L n)) ∧ w' = w := by
 by_cases hl2 : n = L.length
 ·subst hl2
  obtain ⟨m, hm⟩ : ∃ m, m = L.length - 1 := ⟨_, rfl⟩
  obtain ⟨x0, x1, x2, x3⟩ := hR.2 (L.length - 1) _ (getD_some (d := pc0) (show L.length - 1 < L.length by omega))
  have hw1 : (L.length : Int) - 1 = (m : Int) := by omega
  have i1 : m < L.length := by omega
  have i5 : (m : Int) < (L.length : Int) := by omega
  have k1 : IntKind.i64.wrap (m : Int) = (m : Int) := IntWalk.i64_in _ ⟨by omega, by omega⟩
  unfold placeR
  rw [if_pos rfl]
  rw [← hm] at x0 x1 x2 x3 ⊢
  generalize L.getD m pc0 = x at *
  clear hm hR h1
  go_enter Tryz.func48, Tryz.ntmps48
  go_wp2
  go_ret
  exact ⟨rfl, rfl⟩
 ·obtain ⟨x0, x1, x2, x3⟩ := hR.2 n _ (getD_some (d := pc0) (show n < L.length by omega))
  have i1 : n < L.length := by omega
  have i5 : (n : Int) < (L.length : Int) := by omega
  have i8 : ((n : Int) == (L.length : Int)) = false := by simp; omega
  unfold placeR
  rw [if_neg hl2]
  generalize L.getD n pc0 = x at *
  clear hR h1
  go_enter Tryz.func48, Tryz.ntmps48
  go_wp2
  go_ret
  exact ⟨rfl, rfl⟩
set_option maxRecDepth 100000 in
set_option maxHeartbeats 400000 in
theorem rsign_any10 (L : List Pc) (g cap n : Nat) (h1 : 1 ≤ L.length) (hn : n ≤ L.length) (hl : L.length ≤ 5000) (w : World) (hR : PcR w g L) :
  Calls Tryz.prog 25 #[.slice (some ⟨g, 0, none⟩) L.length cap, .int .i64 n] w fun e w' => e = .returned (.int .i64 (placeR L n)) ∧ w' = w := by
 have HP := hideW (rplaceX_any L g cap n h1 hn hl w hR)
 have i8 : ((L.length : Int) == 0) = false := beq_eq_false_iff_ne.2 (by omega)
 clear hR
 go_enter Tryz.func25, Tryz.ntmps25
 go_wp2_with fail
 refine HP.out.mono ?_
 rintro e w1 ⟨rfl, hq⟩
 obtain rfl : w1 = w := hq
 go_wp2_with fail
 go_ret
 exact ⟨rfl, rfl⟩
end Go.Proofs.YtlkgnheccoodpaaGreatDoor
