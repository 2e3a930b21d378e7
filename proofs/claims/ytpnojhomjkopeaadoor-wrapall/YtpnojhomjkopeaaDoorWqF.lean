/- Chapter 10: from every place of a text on the next line can be made to fit: Wrap of every text. -/
import Derived.Test.YtpnojhomjkopeaaDoorWrW
import Derived.Test.YtpnojhomjkopeaaDoorWrE
namespace Go.Proofs.YtpnojhomjkopeaaDoor
open Go.RowKit Go.Shelf

theorem classI_six (r : Int) : classI r ≠ 6 := by
  unfold classI
  repeat' split
  all_goals decide
theorem parts_at (s : ByteArray) (k : Nat) (c : Cl) (h : (clusters s)[k]? = some c) : ∃ p : Pt, (partsL s)[k]? = some p ∧ p.cl = classI (Utf8.decode s c.loc.toNat).1 ∧ p.ce = cellsOf ((clusters s).take k) := by
  have hn : k < (clusters s).length := (List.getElem?_eq_some_iff.1 h).1
  unfold partsL
  rw [clsL_lt s _ _ _ _ hn]
  have e : (partsR s)[k]? = some ⟨(endG ((clusters s).take k) (0, 0, 0)).1, (endG ((clusters s).take k) (0, 0, 0)).2.1, (endG ((clusters s).take k) (0, 0, 0)).2.2, 0, c.cells == 2⟩ := by
    unfold partsR
    rw [List.getElem?_append_left (by rw [partsG_len]; exact hn)]
    exact partsG_at2 _ _ _ _ h
  rw [e]
  refine ⟨_, rfl, ?_, ?_⟩
  · show classI (Utf8.decode s ((clusters s).getD k cl0).loc.toNat).1 = _
    rw [getD_at h]
  · show (endG ((clusters s).take k) (0, 0, 0)).2.2 = _
    rw [endG_cells]
    simp
theorem parts_end (s : ByteArray) : ∃ p : Pt, (partsL s)[(clusters s).length]? = some p ∧ p.cl = 6 ∧ p.ce = cellsOf (clusters s) := by
  unfold partsL
  rw [clsL_ge s _ _ _ _ (Nat.le_refl _)]
  unfold partsR
  rw [List.getElem?_append_right (by rw [partsG_len]; exact Nat.le_refl _), partsG_len, Nat.sub_self]
  refine ⟨_, rfl, rfl, ?_⟩
  show (endG (clusters s) (0, 0, 0)).2.2 = _
  rw [endG_cells]
  simp
/-- Parts in their order: none but the last is the end; each has two cells at most. -/
structure Rise (L : List Pt) (N : Nat) : Prop where
  len : L.length = N + 1
  six : ∀ k, k < N → (L.getD k pt0).cl ≠ 6
  fin : (L.getD N pt0).cl = 6
  ce0 : (L.getD 0 pt0).ce = 0
  two : ∀ k, k < N → (L.getD k pt0).ce ≤ (L.getD (k + 1) pt0).ce ∧ (L.getD (k + 1) pt0).ce ≤ (L.getD k pt0).ce + 2
  top : ∀ k, k ≤ N → 0 ≤ (L.getD k pt0).ce ∧ (L.getD k pt0).ce ≤ 2 * (N : Int)
theorem ce_at (s : ByteArray) (k : Nat) (h : k ≤ (clusters s).length) : ((partsL s).getD k pt0).ce = cellsOf ((clusters s).take k) := by
  by_cases hl : k = (clusters s).length
  · obtain ⟨p, hp, _, h2⟩ := parts_end s
    rw [hl, getD_at hp, h2, List.take_length]
  · obtain ⟨c, hc⟩ : ∃ c, (clusters s)[k]? = some c := ⟨_, List.getElem?_eq_getElem (by omega)⟩
    obtain ⟨p, hp, _, h2⟩ := parts_at s k c hc
    rw [getD_at hp, h2]
theorem rise_of (s : ByteArray) : Rise (partsL s) (clusters s).length := by
  refine ⟨partsL_len s, fun k hk => ?_, ?_, ?_, fun k hk => ?_, fun k hk => ?_⟩
  · obtain ⟨p, hp, h1, _⟩ := parts_at s k _ (List.getElem?_eq_getElem hk)
    rw [getD_at hp, h1]
    exact classI_six _
  · obtain ⟨p, hp, h1, _⟩ := parts_end s
    rw [getD_at hp, h1]
  · rw [ce_at s 0 (by omega)]
    rfl
  · have hc := clusters_cells s _ (List.getElem_mem hk)
    rw [ce_at s k (by omega), ce_at s (k + 1) (by omega), List.take_add_one, List.getElem?_eq_getElem hk]
    show _ ≤ cellsOf (_ ++ [_]) ∧ cellsOf (_ ++ [_]) ≤ _
    rw [cellsOf_snoc]
    omega
  · rw [ce_at s k hk]
    have := cellsOf_bd ((clusters s).take k) (fun c hc => clusters_cells s c (List.mem_of_mem_take hc))
    rw [List.length_take] at this
    omega
theorem Rise.mono {L : List Pt} {N : Nat} (h : Rise L N) (j : Nat) : ∀ d, j + d ≤ N → (L.getD j pt0).ce ≤ (L.getD (j + d) pt0).ce
  | 0, _ => Int.le_refl _
  | d + 1, hd => by
    have a := h.mono j d (by omega)
    have b := (h.two (j + d) (by omega)).1
    rw [show j + (d + 1) = j + d + 1 by omega]
    omega
theorem Rise.le {L : List Pt} {N : Nat} (h : Rise L N) {j k : Nat} (hjk : j ≤ k) (hk : k ≤ N) : (L.getD j pt0).ce ≤ (L.getD k pt0).ce := by
  have := h.mono j (k - j) (by omega)
  rwa [show j + (k - j) = k by omega] at this
theorem strip_to (L : List Pt) (a : Nat) : ∀ e, (∀ j, a ≤ j → j < e → (L.getD j pt0).cl = 2) → stripB L e ≤ a
  | 0, _ => Nat.zero_le _
  | e + 1, h => by
    unfold stripB
    split
    · exact strip_to L a e (fun j h1 h2 => h j h1 (by omega))
    · rename_i hc
      exact Nat.lt_of_not_le (fun hle => hc (h e hle (by omega)))
theorem kindI_zero (d : Bool) (x y : Pt) (h : kindI d x y = 0) : x.cl ≠ 1 ∧ (y.cl = 1 ∨ y.cl = 2 ∨ y.cl = 6) := by
  unfold kindI at h
  by_cases h1 : x.cl = 1
  · rw [if_pos h1] at h
    exact absurd h (by decide)
  · rw [if_neg h1] at h
    by_cases h2 : y.cl = 1 ∨ y.cl = 2 ∨ y.cl = 6
    · exact ⟨h1, h2⟩
    · rw [if_neg h2] at h
      split at h
      · exact absurd h (by decide)
      · split at h
        · exact absurd h (by decide)
        · split at h
          · exact absurd h (by decide)
          · exact absurd h (by decide)
theorem kindI_hard (d : Bool) (x y : Pt) (h : x.cl = 1) : kindI d x y = 1 := by
  unfold kindI
  rw [if_pos h]
theorem kindL_zero (L : List Pt) (j : Nat) (h : kindL L j = 0) : (L.getD (j - 1) pt0).cl ≠ 1 ∧ ((L.getD j pt0).cl = 1 ∨ (L.getD j pt0).cl = 2 ∨ (L.getD j pt0).cl = 6) := kindI_zero _ _ _ h
theorem kindL_hard (L : List Pt) (j : Nat) (h : kindL L j ≠ 1) : (L.getD (j - 1) pt0).cl ≠ 1 := fun e => h (kindI_hard _ _ _ e)
/-- A line that begins at a place and ends at the next one has two cells at most. -/
theorem strip_near {L : List Pt} {N : Nat} (h : Rise L N) (n k1 : Nat) (K : Int) (hn : n ≤ N) (hk : k1 ≤ n) (hz : ∀ j, k1 < j → j < n → kindL L j = 0) (hK : K = 1 ∨ (k1 < n → (L.getD (n - 1) pt0).cl ≠ 1)) :
    (L.getD (stripB L (stopE K n)) pt0).ce ≤ (L.getD k1 pt0).ce + 2 := by
  have he : stopE K n ≤ n := by unfold stopE; split <;> omega
  have hl := stripB_le L (stopE K n)
  have hs : stripB L (stopE K n) ≤ k1 + 1 := by
    refine strip_to L (k1 + 1) _ (fun j h1 h2 => ?_)
    have z1 := (kindL_zero L j (hz j (by omega) (by omega))).2
    have z2 := h.six j (by omega)
    have z3 : (L.getD j pt0).cl ≠ 1 := by
      by_cases hj : j + 1 < n
      · have := (kindL_zero L (j + 1) (hz (j + 1) (by omega) hj)).1
        rwa [Nat.add_sub_cancel] at this
      · rcases hK with hK | hK
        · unfold stopE at h2
          rw [if_pos hK] at h2
          omega
        · have := hK (by omega)
          rwa [show n - 1 = j by omega] at this
    rcases z1 with z | z | z
    · exact absurd z z3
    · exact z
    · exact absurd z z2
  by_cases hk1 : k1 < N
  · have a := h.le hs (by omega)
    have b := (h.two k1 hk1).2
    omega
  · have a := h.le (show stripB L (stopE K n) ≤ k1 by omega) (by omega)
    omega
theorem fitsT_snoc (wd : Int) : ∀ (a : List St) (bg : Int) (x : St), FitsT wd bg a → (sbadI x.kind x.fin.ce (match a.getLast? with | none => bg | some y => y.nxt.ce) wd).2 = true → FitsT wd bg (a ++ [x])
  | [], bg, x, _, h => ⟨h, trivial⟩
  | y :: a, bg, x, h1, h2 => by
    refine ⟨h1.1, fitsT_snoc wd a y.nxt.ce x h1.2 ?_⟩
    cases a with
    | nil => exact h2
    | cons z a => rw [List.getLast?_cons_cons] at h2; cases he : (z :: a).getLast? with
      | none => simp at he
      | some u => rw [he] at h2; exact h2
theorem fitsT_split (wd : Int) : ∀ (a : List St) (x : St) (b : List St) (bg : Int), FitsT wd bg (a ++ x :: b) → FitsT wd bg (a ++ [x]) ∧ FitsT wd x.nxt.ce b
  | [], x, b, bg, h => ⟨⟨h.1, trivial⟩, h.2⟩
  | y :: a, x, b, bg, h => by
    obtain ⟨h1, h2⟩ := fitsT_split wd a x b y.nxt.ce h.2
    exact ⟨⟨h.1, h1⟩, h2⟩
theorem sbad_fits (k c b wd : Int) (h : c ≤ b + wd) : (sbadI k c b wd).2 = true := by
  unfold sbadI
  rw [if_neg (by omega)]
/-- From every place on the next stop fits. -/
theorem fits_to {L : List Pt} {N : Nat} (h : Rise L N) (wd : Int) (hw : 2 ≤ wd) : ∀ n, n ≤ N → ∃ k1, k1 ≤ n ∧ (match (stopsTo L (n + 1)).getLast? with | none => (0 : Int) | some y => y.nxt.ce) = (L.getD k1 pt0).ce ∧ (∀ j, k1 < j → j < n + 1 → kindL L j = 0) ∧ FitsT wd 0 (stopsTo L (n + 1))
  | 0, _ => by
    have e : stopsTo L (0 + 1) = [] := by unfold stopsTo; rw [if_pos (.inl rfl)]; rfl
    rw [e]
    exact ⟨0, Nat.le_refl _, h.ce0.symm, fun j h1 h2 => by omega, trivial⟩
  | n + 1, hn => by
    obtain ⟨k1, h1, h2, h3, h4⟩ := fits_to h wd hw n (by omega)
    unfold stopsTo
    by_cases hc : n + 1 = 0 ∨ kindL L (n + 1) = 0
    · rw [if_pos hc, List.append_nil]
      refine ⟨k1, by omega, h2, fun j a b => ?_, h4⟩
      by_cases hj : j = n + 1
      · rw [hj]
        rcases hc with hc | hc
        · omega
        · exact hc
      · exact h3 j a (by omega)
    · rw [if_neg hc]
      refine ⟨n + 1, Nat.le_refl _, by rw [List.getLast?_concat]; rfl, fun j a b => by omega, ?_⟩
      refine fitsT_snoc wd _ 0 _ h4 ?_
      rw [h2]
      refine sbad_fits _ _ _ _ ?_
      have := strip_near h (n + 1) k1 (kindL L (n + 1)) hn (by omega) (fun j a b => h3 j a b) (by
        by_cases hk : kindL L (n + 1) = 1
        · exact .inl hk
        · exact .inr fun _ => kindL_hard L (n + 1) hk)
      show (L.getD (stripB L (stopE (kindL L (n + 1)) (n + 1))) pt0).ce ≤ _
      omega
theorem fits_all {L : List Pt} {N : Nat} (h : Rise L N) (wd : Int) (hw : 2 ≤ wd) : FitsT wd 0 (stopsL L) := by
  obtain ⟨k1, h1, h2, h3, h4⟩ := fits_to h wd hw N (Nat.le_refl _)
  unfold stopsL
  rw [h.len, Nat.add_sub_cancel]
  refine fitsT_snoc wd _ 0 _ h4 ?_
  rw [h2]
  refine sbad_fits _ _ _ _ ?_
  have := strip_near h N k1 0 (Nat.le_refl _) h1 (fun j a b => h3 j a (by omega)) (.inr fun hk => (kindL_zero L N (h3 N hk (by omega))).1)
  show (L.getD (stripB L (stopE 0 N)) pt0).ce ≤ _
  omega
theorem strip_bd {L : List Pt} {N : Nat} (h : Rise L N) (n : Nat) (K : Int) (hn : n ≤ N) : 0 ≤ (L.getD (stripB L (stopE K n)) pt0).ce ∧ (L.getD (stripB L (stopE K n)) pt0).ce ≤ 2 * (N : Int) := by
  have he : stopE K n ≤ n := by unfold stopE; split <;> omega
  have hl := stripB_le L (stopE K n)
  exact h.top _ (by omega)
theorem sm_to {L : List Pt} {N : Nat} (h : Rise L N) (hN : N ≤ 5000) : ∀ n, n ≤ N + 1 → SmN (stopsTo L n)
  | 0, _ => fun x hx => by simp [stopsTo] at hx
  | n + 1, hn => fun x hx => by
    unfold stopsTo at hx
    rcases List.mem_append.1 hx with hx | hx
    · exact sm_to h hN n (by omega) x hx
    · split at hx
      · simp at hx
      · obtain rfl : x = _ := by simpa using hx
        have a := strip_bd h n (kindL L n) (by omega)
        have b := h.top n (by omega)
        show (0 ≤ (L.getD (stripB L (stopE (kindL L n) n)) pt0).ce ∧ (L.getD (stripB L (stopE (kindL L n) n)) pt0).ce ≤ 100000) ∧ 0 ≤ (L.getD n pt0).ce ∧ (L.getD n pt0).ce ≤ 100000
        omega
theorem sm_all {L : List Pt} {N : Nat} (h : Rise L N) (hN : N ≤ 5000) : SmN (stopsL L) := fun x hx => by
  unfold stopsL at hx
  rw [h.len, Nat.add_sub_cancel] at hx
  rcases List.mem_append.1 hx with hx | hx
  · exact sm_to h hN _ (Nat.le_refl _) x hx
  · obtain rfl : x = _ := by simpa using hx
    have a := strip_bd h N 0 (Nat.le_refl _)
    have b := h.top N (Nat.le_refl _)
    show (0 ≤ (L.getD (stripB L (stopE 0 N)) pt0).ce ∧ (L.getD (stripB L (stopE 0 N)) pt0).ce ≤ 100000) ∧ 0 ≤ (L.getD N pt0).ce ∧ (L.getD N pt0).ce ≤ 100000
    omega
theorem tabT_drop (wd : Int) : ∀ (l : List St) (bg : Int) (k : Nat) (x : St), l[k]? = some x → (tabT wd bg l).drop (k + 1) = tabT wd x.nxt.ce (l.drop (k + 1))
  | [], _, _, _, h => by simp at h
  | y :: l, bg, 0, x, h => by
    obtain rfl : y = x := by simpa using h
    rfl
  | y :: l, bg, k + 1, x, h => by
    show (tabT wd y.nxt.ce l).drop (k + 1) = _
    rw [tabT_drop wd l y.nxt.ce k x (by simpa using h)]
    rfl
theorem wayT_nil (wd bg : Int) : ∀ f, wayT f [] (tabT wd bg []) = []
  | 0 => rfl
  | f + 1 => by
    show wayT (f + 1) [] [zeroR] = []
    unfold wayT
    rw [List.drop_nil]
/-- The best way of a paragraph ends where that does. -/
theorem wayT_last (wd : Int) (hw : 0 ≤ wd ∧ wd ≤ 1000) : ∀ (f : Nat) (l : List St) (bg : Int) (x : St), l.length ≤ f → l.getLast? = some x → 0 ≤ bg ∧ bg ≤ 100000 → SmN l → FitsT wd bg l → l.length ≤ 5000 → ∃ Z, wayT f l (tabT wd bg l) = Z ++ [x]
  | 0, l, _, x, hf, hx, _, _, _, _ => by
    obtain rfl : l = [] := List.eq_nil_of_length_eq_zero (by omega)
    simp at hx
  | f + 1, l, bg, x, hf, hx, hb, hS, hF, hl => by
    have hl0 : 0 < l.length := by
      cases l with
      | nil => simp at hx
      | cons _ _ => simp
    have hlen := tabT_len wd bg l
    obtain ⟨r, hr⟩ : ∃ r, (tabT wd bg l)[0]? = some r := ⟨_, List.getElem?_eq_getElem (by omega)⟩
    have ok := (tab_ok wd hw l bg hb hS hF hl 0 r hr).2.2 hl0
    obtain ⟨k, hk⟩ : ∃ k : Nat, r.fst = k := ⟨r.fst.toNat, by omega⟩
    have hkl : k < l.length := by omega
    obtain ⟨y, hy⟩ : ∃ y, l[k]? = some y := ⟨_, List.getElem?_eq_getElem hkl⟩
    have e1 : tabT wd bg l = r :: (tabT wd bg l).drop 1 := by
      have := drop_get hr
      simpa using this
    have e2 : wayT (f + 1) l (tabT wd bg l) = y :: wayT f (l.drop (k + 1)) (tabT wd y.nxt.ce (l.drop (k + 1))) := by
      rw [← tabT_drop wd l bg k y hy]
      generalize tabT wd bg l = T at *
      rw [e1]
      show (match l.drop r.fst.toNat with | [] => [] | x :: l' => x :: wayT f l' ((r :: T.drop 1).drop (r.fst.toNat + 1))) = _
      rw [hk, Int.toNat_natCast, drop_get hy]
    rw [e2]
    by_cases hd : l.drop (k + 1) = []
    · rw [hd, wayT_nil]
      refine ⟨[], ?_⟩
      have h1 : l.length ≤ k + 1 := by simpa using hd
      rw [List.getLast?_eq_getElem?, show l.length - 1 = k by omega, hy] at hx
      rw [List.nil_append, Option.some.inj hx]
    · have hd1 : ¬ l.length ≤ k + 1 := by simpa using hd
      have hym := List.mem_of_getElem? hy
      obtain ⟨Z, hZ⟩ := wayT_last wd hw f (l.drop (k + 1)) y.nxt.ce x (by rw [List.length_drop]; omega) (by rw [List.getLast?_drop, if_neg hd1]; exact hx) (hS y hym).2 (hS.drop _) (fits_drop hF hy) (by rw [List.length_drop]; omega)
      exact ⟨y :: Z, by rw [hZ]; rfl⟩
theorem bgP_snoc (l : List St) (x : St) : bgP (l ++ [x]) = x.nxt := by unfold bgP; rw [List.getLast?_concat]
/-- What the best way asks holds of paragraphs whose stops fit. -/
theorem fitsP_paras (wd : Int) (hw : 0 ≤ wd ∧ wd ≤ 1000) : ∀ (l acc way : List St) (fr n : Nat), 0 ≤ (bgP way).ce ∧ (bgP way).ce ≤ 100000 → SmN (acc ++ l) → FitsT wd (bgP way).ce (acc ++ l) → (acc ++ l).length ≤ 5000 → FitsP wd way (parasG fr n acc l) ∧ (leastW wd way (parasG fr n acc l)).length ≤ way.length + (acc ++ l).length
  | [], acc, way, fr, n, _, _, _, _ => ⟨trivial, by show way.length ≤ _; omega⟩
  | x :: l, acc, way, fr, n, hb, hS, hF, hl => by
    unfold parasG
    have hS1 : SmN (acc ++ [x]) := fun y hy => hS y (by
      simp at hy ⊢
      rcases hy with hy | hy
      · exact .inl hy
      · exact .inr (.inl hy))
    have hS2 : SmN l := fun y hy => hS y (by simp [hy])
    have hlen : (acc ++ x :: l).length = acc.length + 1 + l.length := by simp; omega
    split
    · obtain ⟨f1, f2⟩ := fitsT_split wd acc x l _ hF
      obtain ⟨Z, hZ⟩ := wayT_last wd hw (acc ++ [x]).length (acc ++ [x]) (bgP way).ce x (Nat.le_refl _) List.getLast?_concat hb hS1 f1 (by simp; omega)
      have e : leastP wd (bgP way).ce (acc ++ [x]) = Z ++ [x] := hZ
      have hbg : bgP (way ++ (Z ++ [x])) = x.nxt := by rw [← List.append_assoc, bgP_snoc]
      have hll := leastP_len wd (bgP way).ce (acc ++ [x])
      obtain ⟨i1, i2⟩ := fitsP_paras wd hw l [] (way ++ (Z ++ [x])) (n + 1) (n + 1) (by rw [hbg]; exact (hS x (by simp)).2) hS2 (by rw [hbg]; exact f2) (by simp; omega)
      refine ⟨⟨⟨by simp, by show 1 ≤ (leastP wd (bgP way).ce (acc ++ [x])).length; rw [e]; simp, f1⟩, ?_⟩, ?_⟩
      · show FitsP wd (way ++ leastP wd (bgP way).ce (acc ++ [x])) _
        rw [e]
        exact i1
      · show (leastW wd (way ++ leastP wd (bgP way).ce (acc ++ [x])) _).length ≤ _
        rw [e] at hll ⊢
        simp only [List.length_append, List.length_cons, List.length_nil, List.nil_append] at i2 hll ⊢
        omega
    · have e : acc ++ x :: l = (acc ++ [x]) ++ l := by simp
      rw [e] at hS hF hl ⊢
      exact fitsP_paras wd hw l (acc ++ [x]) way fr (n + 1) hb hS hF hl
theorem paras_snoc : ∀ (l acc : List St) (fr n : Nat) (x : St), (x.kind = 1 ∨ x.kind = 0) → ∃ ps p, parasG fr n acc (l ++ [x]) = ps ++ [p] ∧ p.l.getLast? = some x
  | [], acc, fr, n, x, h => ⟨[], ⟨fr, acc ++ [x]⟩, by rw [List.nil_append, parasG, if_pos h]; rfl, by simp⟩
  | y :: l, acc, fr, n, x, h => by
    by_cases c : y.kind = 1 ∨ y.kind = 0
    · obtain ⟨ps, p, h1, h2⟩ := paras_snoc l [] (n + 1) (n + 1) x h
      exact ⟨⟨fr, acc ++ [y]⟩ :: ps, p, by rw [List.cons_append, parasG, if_pos c, h1]; rfl, h2⟩
    · obtain ⟨ps, p, h1, h2⟩ := paras_snoc l (acc ++ [y]) fr (n + 1) x h
      exact ⟨ps, p, by rw [List.cons_append, parasG, if_neg c, h1], h2⟩
theorem paras_mem : ∀ (l acc : List St) (fr n : Nat), ∀ p ∈ parasG fr n acc l, ∀ x ∈ p.l, x ∈ acc ++ l
  | [], acc, fr, n, p, h => by simp [parasG] at h
  | y :: l, acc, fr, n, p, h => by
    unfold parasG at h
    split at h
    · rcases List.mem_cons.1 h with rfl | h
      · intro x hx
        simp at hx ⊢
        rcases hx with hx | hx
        · exact .inl hx
        · exact .inr (.inl hx)
      · intro x hx
        have := paras_mem l [] (n + 1) (n + 1) p h x hx
        simp at this ⊢
        exact .inr (.inr this)
    · intro x hx
      have := paras_mem l (acc ++ [y]) fr (n + 1) p h x hx
      simpa using this
theorem fitsP_len (_wd : Int) : ∀ (L : List St) (p : Pg), p ∈ parasG 0 0 [] L → L.length ≤ 5000 → p.l.length ≤ 5000 := by
  intro L p hp hl
  have key : ∀ (l acc : List St) (fr n : Nat), ∀ q ∈ parasG fr n acc l, q.l.length ≤ acc.length + l.length := by
    intro l
    induction l with
    | nil => intro acc fr n q hq; simp [parasG] at hq
    | cons y l ih =>
      intro acc fr n q hq
      unfold parasG at hq
      split at hq
      · rcases List.mem_cons.1 hq with rfl | hq
        · simp
        · have := ih [] (n + 1) (n + 1) q hq
          simp only [List.length_nil, List.length_cons] at this ⊢
          omega
      · have := ih (acc ++ [y]) fr (n + 1) q hq
        simp only [List.length_append, List.length_nil, List.length_cons] at this ⊢
        omega
  have := key L [] 0 0 p hp
  simp at this
  omega
/-- The best way of every text: its last stop is the text's end. -/
theorem wrapW_all (s : ByteArray) (hs : s.size ≤ 4096) (wd : Int) (hw : 2 ≤ wd ∧ wd ≤ 200) : SmN (stopsW s) ∧ (stopsW s).length ≤ 5000 ∧ 1 ≤ (stopsW s).length ∧ FitsP wd [] (parasG 0 0 [] (stopsW s)) ∧ ∃ way x, wrapW s wd = way ++ [x] ∧ way.length + 1 ≤ 5000 ∧ SmN (way ++ [x]) := by
  have hR := rise_of s
  have hc := clusters_length s
  have hS : SmN (stopsW s) := sm_all hR (by omega)
  have hF : FitsT wd 0 (stopsW s) := fits_all hR wd hw.1
  have hlen : (stopsW s).length ≤ (clusters s).length + 2 := by
    unfold stopsW stopsL
    have := stopsTo_len (partsL s) (partsL s).length
    rw [partsL_len] at this ⊢
    rw [List.length_append, List.length_singleton]
    omega
  have hl : (stopsW s).length ≤ 5000 := by omega
  have hsn : stopsW s = stopsTo (partsL s) (partsL s).length ++ [stpAt (partsL s) ((partsL s).length - 1) 0] := rfl
  obtain ⟨F, hle⟩ := fitsP_paras wd ⟨by omega, by omega⟩ (stopsW s) [] [] 0 0 ⟨by decide, by decide⟩ hS hF hl
  refine ⟨hS, hl, by rw [hsn]; simp, F, ?_⟩
  obtain ⟨ps, p, h1, h2⟩ := paras_snoc (stopsTo (partsL s) (partsL s).length) [] 0 0 (stpAt (partsL s) ((partsL s).length - 1) 0) (.inr rfl)
  rw [← hsn] at h1
  have hmem := paras_mem (stopsW s) [] 0 0
  rw [h1] at F hle hmem
  obtain ⟨f1, f2, f3⟩ := FitsP.at F
  have hb : 0 ≤ (bgP (leastW wd [] ps)).ce ∧ (bgP (leastW wd [] ps)).ce ≤ 100000 := bgP_bd wd (stopsW s) hS ps (fun q hq x hx => by have := hmem q (by simp [hq]) x hx; simpa using this)
  have hpS : SmN p.l := fun x hx => hS x (by have := hmem p (by simp) x hx; simpa using this)
  have hpl : p.l.length ≤ 5000 := by
    exact fitsP_len wd (stopsW s) p (by rw [h1]; simp) hl
  obtain ⟨Z, hZ⟩ := wayT_last wd ⟨by omega, by omega⟩ p.l.length p.l (bgP (leastW wd [] ps)).ce _ (Nat.le_refl _) h2 hb hpS f3 hpl
  have e : wrapW s wd = (leastW wd [] ps ++ Z) ++ [stpAt (partsL s) ((partsL s).length - 1) 0] := by
    unfold wrapW
    rw [h1, leastW_snoc]
    show _ ++ wayT _ _ _ = _
    rw [hZ, List.append_assoc]
  refine ⟨_, _, e, ?_, ?_⟩
  · have : (wrapW s wd).length ≤ 0 + ([] ++ stopsW s).length := by unfold wrapW; rw [h1]; exact hle
    rw [e] at this
    simp only [List.length_append, List.length_cons, List.length_nil, List.nil_append] at this ⊢
    omega
  · rw [← e]
    unfold wrapW
    rw [h1]
    exact leastW_sub wd (fun x => (0 ≤ x.fin.ce ∧ x.fin.ce ≤ 100000) ∧ 0 ≤ x.nxt.ce ∧ x.nxt.ce ≤ 100000) _ _ (fun x hx => by simp at hx) (fun q hq x hx => hS x (by have := hmem q hq x hx; simpa using this))

end Go.Proofs.YtpnojhomjkopeaaDoor
