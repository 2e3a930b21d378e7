import Derived.Deep.RegionHeld3
import Derived.Deep.Cut
import Derived.Deep.CutBlock
import Derived.Deep.DeepCutAuto
import Derived.Laws.StructEq
import Derived.Deep.AppendLies
import Derived.Test.YtlkgnheccoodpaaGreatDoorG1
import Derived.Test.YtlkgnheccoodpaaGreatDoorG2
import Derived.Test.YtlkgnheccoodpaaGreatDoorGB
import Derived.Test.YtlkgnheccoodpaaGreatDoorGK
namespace Go.Proofs.YtlkgnheccoodpaaGreatDoor
open Go.RowKit Go.Shelf
theorem classI_six (r : Int) : classI r ≠ 6 := by
 unfold classI
 repeat' split
 all_goals decide
theorem parts_at (s : ByteArray) (k : Nat) (c : Cl) (h : (clusters s)[k]? = some c) : ∃ p : Pt, (partsL s)[k]? = some p ∧ p.cl = classI (Utf8.decode s c.loc.toNat).1 ∧ p.ce = cellsOf ((clusters s).take k) := by
 have hn : k < (clusters s).length := (List.getElem?_eq_some_iff.1 h).1
 unfold partsL
 rw [clsL_lt s _ _ _ _ hn]
 have e : (partsR s)[k]? = some ⟨(endG ((clusters s).take k) (0, 0, 0)).1, (endG ((clusters s).take k) (0, 0, 0)).2.1, (endG ((clusters s).take k) (0, 0, 0)).2.2, 0, c.cells == 2⟩ := by
  unfold partsR
  rw [List.getElem?_append_left (by rw [partsG_len]; exact hn)]
  exact partsG_at2 _ _ _ _ h
 rw [e]
 refine ⟨_, rfl, ?_, ?_⟩
 ·show classI (Utf8.decode s ((clusters s).getD k cl0).loc.toNat).1 = _
  rw [getD_at h]
 ·show (endG ((clusters s).take k) (0, 0, 0)).2.2 = _
  rw [endG_cells]
  simp
theorem parts_end (s : ByteArray) : ∃ p : Pt, (partsL s)[(clusters s).length]? = some p ∧ p.cl = 6 ∧ p.ce = cellsOf (clusters s) := by
 unfold partsL
 rw [clsL_ge s _ _ _ _ (Nat.le_refl _)]
 unfold partsR
 rw [List.getElem?_append_right (by rw [partsG_len]; exact Nat.le_refl _), partsG_len, Nat.sub_self]
 refine ⟨_, rfl, rfl, ?_⟩
 show (endG (clusters s) (0, 0, 0)).2.2 = _
 rw [endG_cells]
 simp
structure Rise (L : List Pt) (N : Nat) : Prop where
 len : L.length = N + 1
 six : ∀ k, k < N → (L.getD k pt0).cl ≠ 6
 fin : (L.getD N pt0).cl = 6
 ce0 : (L.getD 0 pt0).ce = 0
 two : ∀ k, k < N → (L.getD k pt0).ce ≤ (L.getD (k + 1) pt0).ce ∧ (L.getD (k + 1) pt0).ce ≤ (L.getD k pt0).ce + 2
 top : ∀ k, k ≤ N → 0 ≤ (L.getD k pt0).ce ∧ (L.getD k pt0).ce ≤ 2 * (N : Int)
theorem ce_at (s : ByteArray) (k : Nat) (h : k ≤ (clusters s).length) : ((partsL s).getD k pt0).ce = cellsOf ((clusters s).take k) := by
 by_cases hl : k = (clusters s).length
 ·obtain ⟨p, hp, _, h2⟩ := parts_end s
  rw [hl, getD_at hp, h2, List.take_length]
 ·obtain ⟨c, hc⟩ : ∃ c, (clusters s)[k]? = some c := ⟨_, List.getElem?_eq_getElem (by omega)⟩
  obtain ⟨p, hp, _, h2⟩ := parts_at s k c hc
  rw [getD_at hp, h2]
theorem rise_of (s : ByteArray) : Rise (partsL s) (clusters s).length := by
 refine ⟨partsL_len s, fun k hk => ?_, ?_, ?_, fun k hk => ?_, fun k hk => ?_⟩
 ·obtain ⟨p, hp, h1, _⟩ := parts_at s k _ (List.getElem?_eq_getElem hk)
  rw [getD_at hp, h1]
  exact classI_six _
 ·obtain ⟨p, hp, h1, _⟩ := parts_end s
  rw [getD_at hp, h1]
 ·rw [ce_at s 0 (by omega)]
  rfl
 ·have hc := clusters_cells s _ (List.getElem_mem hk)
  rw [ce_at s k (by omega), ce_at s (k + 1) (by omega), List.take_add_one, List.getElem?_eq_getElem hk]
  show _ ≤ cellsOf (_ ++ [_]) ∧ cellsOf (_ ++ [_]) ≤ _
  rw [cellsOf_snoc]
  omega
 ·rw [ce_at s k hk]
  have := cellsOf_bd ((clusters s).take k) (fun c hc => clusters_cells s c (List.mem_of_mem_take hc))
  rw [List.length_take] at this
  omega
theorem Rise.mono {L : List Pt} {N : Nat} (h : Rise L N) (j : Nat) : ∀ d, j + d ≤ N → (L.getD j pt0).ce ≤ (L.getD (j + d) pt0).ce
 | 0, _ => Int.le_refl _
 | d + 1, hd => by
  have a := h.mono j d (by omega)
  have b := (h.two (j + d) (by omega)).1
  rw [show j + (d + 1) = j + d + 1 by omega]
  omega
theorem Rise.le {L : List Pt} {N : Nat} (h : Rise L N) {j k : Nat} (hjk : j ≤ k) (hk : k ≤ N) : (L.getD j pt0).ce ≤ (L.getD k pt0).ce := by
 have := h.mono j (k - j) (by omega)
 rwa [show j + (k - j) = k by omega] at this
theorem strip_to (L : List Pt) (a : Nat) : ∀ e, (∀ j, a ≤ j → j < e → (L.getD j pt0).cl = 2) → stripB L e ≤ a
 | 0, _ => Nat.zero_le _
 | e + 1, h => by
  unfold stripB
  split
  ·exact strip_to L a e (fun j h1 h2 => h j h1 (by omega))
  ·rename_i hc
   exact Nat.lt_of_not_le (fun hle => hc (h e hle (by omega)))
theorem kindI_zero (d : Bool) (x y : Pt) (h : kindI d x y = 0) : x.cl ≠ 1 ∧ (y.cl = 1 ∨ y.cl = 2 ∨ y.cl = 6) := by
 unfold kindI at h
 by_cases h1 : x.cl = 1
 ·rw [if_pos h1] at h
  exact absurd h (by decide)
 ·rw [if_neg h1] at h
  by_cases h2 : y.cl = 1 ∨ y.cl = 2 ∨ y.cl = 6
  ·exact ⟨h1, h2⟩
  ·rw [if_neg h2] at h
   split at h
   ·exact absurd h (by decide)
   ·split at h
    ·exact absurd h (by decide)
    ·split at h
     ·exact absurd h (by decide)
     ·exact absurd h (by decide)
theorem kindI_hard (d : Bool) (x y : Pt) (h : x.cl = 1) : kindI d x y = 1 := by
 unfold kindI
 rw [if_pos h]
theorem kindL_zero (L : List Pt) (j : Nat) (h : kindL L j = 0) : (L.getD (j - 1) pt0).cl ≠ 1 ∧ ((L.getD j pt0).cl = 1 ∨ (L.getD j pt0).cl = 2 ∨ (L.getD j pt0).cl = 6) := kindI_zero _ _ _ h
theorem kindL_hard (L : List Pt) (j : Nat) (h : kindL L j ≠ 1) : (L.getD (j - 1) pt0).cl ≠ 1 := fun e => h (kindI_hard _ _ _ e)
theorem strip_near {L : List Pt} {N : Nat} (h : Rise L N) (n k1 : Nat) (K : Int) (hn : n ≤ N) (hk : k1 ≤ n) (hz : ∀ j, k1 < j → j < n → kindL L j = 0) (hK : K = 1 ∨ (k1 < n → (L.getD (n - 1) pt0).cl ≠ 1)) :
  (L.getD (stripB L (stopE K n)) pt0).ce ≤ (L.getD k1 pt0).ce + 2 := by
 have he : stopE K n ≤ n := by unfold stopE; split <;> omega
 have hl := stripB_le L (stopE K n)
 have hs : stripB L (stopE K n) ≤ k1 + 1 := by
  refine strip_to L (k1 + 1) _ (fun j h1 h2 => ?_)
  have z1 := (kindL_zero L j (hz j (by omega) (by omega))).2
  have z2 := h.six j (by omega)
  have z3 : (L.getD j pt0).cl ≠ 1 := by
   by_cases hj : j + 1 < n
   ·have := (kindL_zero L (j + 1) (hz (j + 1) (by omega) hj)).1
    rwa [Nat.add_sub_cancel] at this
   ·rcases hK with hK | hK
    ·unfold stopE at h2
     rw [if_pos hK] at h2
     omega
    ·have := hK (by omega)
     rwa [show n - 1 = j by omega] at this
  rcases z1 with z | z | z
  ·exact absurd z z3
  ·exact z
  ·exact absurd z z2
 by_cases hk1 : k1 < N
 ·have a := h.le hs (by omega)
  have b := (h.two k1 hk1).2
  omega
 ·have a := h.le (show stripB L (stopE K n) ≤ k1 by omega) (by omega)
  omega
theorem fitsT_snoc (wd : Int) : ∀ (a : List St) (bg : Int) (x : St), FitsT wd bg a → (sbadI x.kind x.fin.ce (match a.getLast? with | none => bg | some y => y.nxt.ce) wd).2 = true → FitsT wd bg (a ++ [x])
 | [], bg, x, _, h => ⟨h, trivial⟩
 | y :: a, bg, x, h1, h2 => by
  refine ⟨h1.1, fitsT_snoc wd a y.nxt.ce x h1.2 ?_⟩
  cases a with
  | nil => exact h2
  | cons z a => rw [List.getLast?_cons_cons] at h2; cases he : (z :: a).getLast? with
   | none => simp at he
   | some u => rw [he] at h2; exact h2
theorem fitsT_split (wd : Int) : ∀ (a : List St) (x : St) (b : List St) (bg : Int), FitsT wd bg (a ++ x :: b) → FitsT wd bg (a ++ [x]) ∧ FitsT wd x.nxt.ce b
 | [], x, b, bg, h => ⟨⟨h.1, trivial⟩, h.2⟩
 | y :: a, x, b, bg, h => by
  obtain ⟨h1, h2⟩ := fitsT_split wd a x b y.nxt.ce h.2
  exact ⟨⟨h.1, h1⟩, h2⟩
theorem sbad_fits (k c b wd : Int) (h : c ≤ b + wd) : (sbadI k c b wd).2 = true := by
 unfold sbadI
 rw [if_neg (by omega)]
theorem fits_to {L : List Pt} {N : Nat} (h : Rise L N) (wd : Int) (hw : 2 ≤ wd) : ∀ n, n ≤ N → ∃ k1, k1 ≤ n ∧ (match (stopsTo L (n + 1)).getLast? with | none => (0 : Int) | some y => y.nxt.ce) = (L.getD k1 pt0).ce ∧ (∀ j, k1 < j → j < n + 1 → kindL L j = 0) ∧ FitsT wd 0 (stopsTo L (n + 1))
 | 0, _ => by
  have e : stopsTo L (0 + 1) = [] := by unfold stopsTo; rw [if_pos (.inl rfl)]; rfl
  rw [e]
  exact ⟨0, Nat.le_refl _, h.ce0.symm, fun j h1 h2 => by omega, trivial⟩
 | n + 1, hn => by
  obtain ⟨k1, h1, h2, h3, h4⟩ := fits_to h wd hw n (by omega)
  unfold stopsTo
  by_cases hc : n + 1 = 0 ∨ kindL L (n + 1) = 0
  ·rw [if_pos hc, List.append_nil]
   refine ⟨k1, by omega, h2, fun j a b => ?_, h4⟩
   by_cases hj : j = n + 1
   ·rw [hj]
    rcases hc with hc | hc
    ·omega
    ·exact hc
   ·exact h3 j a (by omega)
  ·rw [if_neg hc]
   refine ⟨n + 1, Nat.le_refl _, by rw [List.getLast?_concat]; rfl, fun j a b => by omega, ?_⟩
   refine fitsT_snoc wd _ 0 _ h4 ?_
   rw [h2]
   refine sbad_fits _ _ _ _ ?_
   have := strip_near h (n + 1) k1 (kindL L (n + 1)) hn (by omega) (fun j a b => h3 j a b) (by
    by_cases hk : kindL L (n + 1) = 1
    ·exact .inl hk
    ·exact .inr fun _ => kindL_hard L (n + 1) hk)
   show (L.getD (stripB L (stopE (kindL L (n + 1)) (n + 1))) pt0).ce ≤ _
   omega
theorem fits_all {L : List Pt} {N : Nat} (h : Rise L N) (wd : Int) (hw : 2 ≤ wd) : FitsT wd 0 (stopsL L) := by
 obtain ⟨k1, h1, h2, h3, h4⟩ := fits_to h wd hw N (Nat.le_refl _)
 unfold stopsL
 rw [h.len, Nat.add_sub_cancel]
 refine fitsT_snoc wd _ 0 _ h4 ?_
 rw [h2]
 refine sbad_fits _ _ _ _ ?_
 have := strip_near h N k1 0 (Nat.le_refl _) h1 (fun j a b => h3 j a (by omega)) (.inr fun hk => (kindL_zero L N (h3 N hk (by omega))).1)
 show (L.getD (stripB L (stopE 0 N)) pt0).ce ≤ _
 omega
theorem strip_bd {L : List Pt} {N : Nat} (h : Rise L N) (n : Nat) (K : Int) (hn : n ≤ N) : 0 ≤ (L.getD (stripB L (stopE K n)) pt0).ce ∧ (L.getD (stripB L (stopE K n)) pt0).ce ≤ 2 * (N : Int) := by
 have he : stopE K n ≤ n := by unfold stopE; split <;> omega
 have hl := stripB_le L (stopE K n)
 exact h.top _ (by omega)
theorem sm_to {L : List Pt} {N : Nat} (h : Rise L N) (hN : N ≤ 5000) : ∀ n, n ≤ N + 1 → SmN (stopsTo L n)
 | 0, _ => fun x hx => by simp [stopsTo] at hx
 | n + 1, hn => fun x hx => by
  unfold stopsTo at hx
  rcases List.mem_append.1 hx with hx | hx
  ·exact sm_to h hN n (by omega) x hx
  ·split at hx
   ·simp at hx
   ·obtain rfl : x = _ := by simpa using hx
    have a := strip_bd h n (kindL L n) (by omega)
    have b := h.top n (by omega)
    show (0 ≤ (L.getD (stripB L (stopE (kindL L n) n)) pt0).ce ∧ (L.getD (stripB L (stopE (kindL L n) n)) pt0).ce ≤ 100000) ∧ 0 ≤ (L.getD n pt0).ce ∧ (L.getD n pt0).ce ≤ 100000
    omega
theorem sm_all {L : List Pt} {N : Nat} (h : Rise L N) (hN : N ≤ 5000) : SmN (stopsL L) := fun x hx => by
 unfold stopsL at hx
 rw [h.len, Nat.add_sub_cancel] at hx
 rcases List.mem_append.1 hx with hx | hx
 ·exact sm_to h hN _ (Nat.le_refl _) x hx
 ·obtain rfl : x = _ := by simpa using hx
  have a := strip_bd h N 0 (Nat.le_refl _)
  have b := h.top N (Nat.le_refl _)
  show (0 ≤ (L.getD (stripB L (stopE 0 N)) pt0).ce ∧ (L.getD (stripB L (stopE 0 N)) pt0).ce ≤ 100000) ∧ 0 ≤ (L.getD N pt0).ce ∧ (L.getD N pt0).ce ≤ 100000
  omega
theorem tabT_drop (wd : Int) : ∀ (l : List St) (bg : Int) (k : Nat) (x : St), l[k]? = some x → (tabT wd bg l).drop (k + 1) = tabT wd x.nxt.ce (l.drop (k + 1))
 | [], _, _, _, h => by simp at h
 | y :: l, bg, 0, x, h => by
  obtain rfl : y = x := by simpa using h
  rfl
 | y :: l, bg, k + 1, x, h => by
  show (tabT wd y.nxt.ce l).drop (k + 1) = _
  rw [tabT_drop wd l y.nxt.ce k x (by simpa using h)]
  rfl
theorem wayT_nil (wd bg : Int) : ∀ f, wayT f [] (tabT wd bg []) = []
 | 0 => rfl
 | f + 1 => by
  show wayT (f + 1) [] [zeroR] = []
  unfold wayT
  rw [List.drop_nil]
theorem wayT_last (wd : Int) (hw : 0 ≤ wd ∧ wd ≤ 1000) : ∀ (f : Nat) (l : List St) (bg : Int) (x : St), l.length ≤ f → l.getLast? = some x → 0 ≤ bg ∧ bg ≤ 100000 → SmN l → FitsT wd bg l → l.length ≤ 5000 → ∃ Z, wayT f l (tabT wd bg l) = Z ++ [x]
 | 0, l, _, x, hf, hx, _, _, _, _ => by
  obtain rfl : l = [] := List.eq_nil_of_length_eq_zero (by omega)
  simp at hx
 | f + 1, l, bg, x, hf, hx, hb, hS, hF, hl => by
  have hl0 : 0 < l.length := by
   cases l with
   | nil => simp at hx
   | cons _ _ => simp
  have hlen := tabT_len wd bg l
  obtain ⟨r, hr⟩ : ∃ r, (tabT wd bg l)[0]? = some r := ⟨_, List.getElem?_eq_getElem (by omega)⟩
  have ok := (tab_ok wd hw l bg hb hS hF hl 0 r hr).2.2 hl0
  obtain ⟨k, hk⟩ : ∃ k : Nat, r.fst = k := ⟨r.fst.toNat, by omega⟩
  have hkl : k < l.length := by omega
  obtain ⟨y, hy⟩ : ∃ y, l[k]? = some y := ⟨_, List.getElem?_eq_getElem hkl⟩
  have e1 : tabT wd bg l = r :: (tabT wd bg l).drop 1 := by
   have := drop_get hr
   simpa using this
  have e2 : wayT (f + 1) l (tabT wd bg l) = y :: wayT f (l.drop (k + 1)) (tabT wd y.nxt.ce (l.drop (k + 1))) := by
   rw [← tabT_drop wd l bg k y hy]
   generalize tabT wd bg l = T at *
   rw [e1]
   show (match l.drop r.fst.toNat with | [] => [] | x :: l' => x :: wayT f l' ((r :: T.drop 1).drop (r.fst.toNat + 1))) = _
   rw [hk, Int.toNat_natCast, drop_get hy]
  rw [e2]
  by_cases hd : l.drop (k + 1) = []
  ·rw [hd, wayT_nil]
   refine ⟨[], ?_⟩
   have h1 : l.length ≤ k + 1 := by simpa using hd
   rw [List.getLast?_eq_getElem?, show l.length - 1 = k by omega, hy] at hx
   rw [List.nil_append, Option.some.inj hx]
  ·have hd1 : ¬ l.length ≤ k + 1 := by simpa using hd
   have hym := List.mem_of_getElem? hy
   obtain ⟨Z, hZ⟩ := wayT_last wd hw f (l.drop (k + 1)) y.nxt.ce x (by rw [List.length_drop]; omega) (by rw [List.getLast?_drop, if_neg hd1]; exact hx) (hS y hym).2 (hS.drop _) (fits_drop hF hy) (by rw [List.length_drop]; omega)
   exact ⟨y :: Z, by rw [hZ]; rfl⟩
theorem bgP_snoc (l : List St) (x : St) : bgP (l ++ [x]) = x.nxt := by unfold bgP; rw [List.getLast?_concat]
theorem fitsP_paras (wd : Int) (hw : 0 ≤ wd ∧ wd ≤ 1000) : ∀ (l acc way : List St) (fr n : Nat), 0 ≤ (bgP way).ce ∧ (bgP way).ce ≤ 100000 → SmN (acc ++ l) → FitsT wd (bgP way).ce (acc ++ l) → (acc ++ l).length ≤ 5000 → FitsP wd way (parasG fr n acc l) ∧ (leastW wd way (parasG fr n acc l)).length ≤ way.length + (acc ++ l).length
 | [], acc, way, fr, n, _, _, _, _ => ⟨trivial, by show way.length ≤ _; omega⟩
 | x :: l, acc, way, fr, n, hb, hS, hF, hl => by
  unfold parasG
  have hS1 : SmN (acc ++ [x]) := fun y hy => hS y (by
   simp at hy ⊢
   rcases hy with hy | hy
   ·exact .inl hy
   ·exact .inr (.inl hy))
  have hS2 : SmN l := fun y hy => hS y (by simp [hy])
  have hlen : (acc ++ x :: l).length = acc.length + 1 + l.length := by simp; omega
  split
  ·obtain ⟨f1, f2⟩ := fitsT_split wd acc x l _ hF
   obtain ⟨Z, hZ⟩ := wayT_last wd hw (acc ++ [x]).length (acc ++ [x]) (bgP way).ce x (Nat.le_refl _) List.getLast?_concat hb hS1 f1 (by simp; omega)
   have e : leastP wd (bgP way).ce (acc ++ [x]) = Z ++ [x] := hZ
   have hbg : bgP (way ++ (Z ++ [x])) = x.nxt := by rw [← List.append_assoc, bgP_snoc]
   have hll := leastP_len wd (bgP way).ce (acc ++ [x])
   obtain ⟨i1, i2⟩ := fitsP_paras wd hw l [] (way ++ (Z ++ [x])) (n + 1) (n + 1) (by rw [hbg]; exact (hS x (by simp)).2) hS2 (by rw [hbg]; exact f2) (by simp; omega)
   refine ⟨⟨⟨by simp, by show 1 ≤ (leastP wd (bgP way).ce (acc ++ [x])).length; rw [e]; simp, f1⟩, ?_⟩, ?_⟩
   ·show FitsP wd (way ++ leastP wd (bgP way).ce (acc ++ [x])) _
    rw [e]
    exact i1
   ·show (leastW wd (way ++ leastP wd (bgP way).ce (acc ++ [x])) _).length ≤ _
    rw [e] at hll ⊢
    simp only [List.length_append, List.length_cons, List.length_nil, List.nil_append] at i2 hll ⊢
    omega
  ·have e : acc ++ x :: l = (acc ++ [x]) ++ l := by simp
   rw [e] at hS hF hl ⊢
   exact fitsP_paras wd hw l (acc ++ [x]) way fr (n + 1) hb hS hF hl
theorem paras_snoc : ∀ (l acc : List St) (fr n : Nat) (x : St), (x.kind = 1 ∨ x.kind = 0) → ∃ ps p, parasG fr n acc (l ++ [x]) = ps ++ [p] ∧ p.l.getLast? = some x
 | [], acc, fr, n, x, h => ⟨[], ⟨fr, acc ++ [x]⟩, by rw [List.nil_append, parasG, if_pos h]; rfl, by simp⟩
 | y :: l, acc, fr, n, x, h => by
  by_cases c : y.kind = 1 ∨ y.kind = 0
  ·obtain ⟨ps, p, h1, h2⟩ := paras_snoc l [] (n + 1) (n + 1) x h
   exact ⟨⟨fr, acc ++ [y]⟩ :: ps, p, by rw [List.cons_append, parasG, if_pos c, h1]; rfl, h2⟩
  ·obtain ⟨ps, p, h1, h2⟩ := paras_snoc l (acc ++ [y]) fr (n + 1) x h
   exact ⟨ps, p, by rw [List.cons_append, parasG, if_neg c, h1], h2⟩
theorem paras_mem : ∀ (l acc : List St) (fr n : Nat), ∀ p ∈ parasG fr n acc l, ∀ x ∈ p.l, x ∈ acc ++ l
 | [], acc, fr, n, p, h => by simp [parasG] at h
 | y :: l, acc, fr, n, p, h => by
  unfold parasG at h
  split at h
  ·rcases List.mem_cons.1 h with rfl | h
   ·intro x hx
    simp at hx ⊢
    rcases hx with hx | hx
    ·exact .inl hx
    ·exact .inr (.inl hx)
   ·intro x hx
    have := paras_mem l [] (n + 1) (n + 1) p h x hx
    simp at this ⊢
    exact .inr (.inr this)
  ·intro x hx
   have := paras_mem l (acc ++ [y]) fr (n + 1) p h x hx
   simpa using this
theorem fitsP_len (_wd : Int) : ∀ (L : List St) (p : Pg), p ∈ parasG 0 0 [] L → L.length ≤ 5000 → p.l.length ≤ 5000 := by
 intro L p hp hl
 have key : ∀ (l acc : List St) (fr n : Nat), ∀ q ∈ parasG fr n acc l, q.l.length ≤ acc.length + l.length := by
  intro l
  induction l with
  | nil => intro acc fr n q hq; simp [parasG] at hq
  | cons y l ih =>
   intro acc fr n q hq
   unfold parasG at hq
   split at hq
   ·rcases List.mem_cons.1 hq with rfl | hq
    ·simp
    ·have := ih [] (n + 1) (n + 1) q hq
     simp only [List.length_nil, List.length_cons] at this ⊢
     omega
   ·have := ih (acc ++ [y]) fr (n + 1) q hq
    simp only [List.length_append, List.length_nil, List.length_cons] at this ⊢
    omega
 have := key L [] 0 0 p hp
 simp at this
 omega
theorem wrapW_all (s : ByteArray) (hs : s.size ≤ 4096) (wd : Int) (hw : 2 ≤ wd ∧ wd ≤ 200) : SmN (stopsW s) ∧ (stopsW s).length ≤ 5000 ∧ 1 ≤ (stopsW s).length ∧ FitsP wd [] (parasG 0 0 [] (stopsW s)) ∧ ∃ way x, wrapW s wd = way ++ [x] ∧ way.length + 1 ≤ 5000 ∧ SmN (way ++ [x]) := by
 have hR := rise_of s
 have hc := clusters_length s
 have hS : SmN (stopsW s) := sm_all hR (by omega)
 have hF : FitsT wd 0 (stopsW s) := fits_all hR wd hw.1
 have hlen : (stopsW s).length ≤ (clusters s).length + 2 := by
  unfold stopsW stopsL
  have := stopsTo_len (partsL s) (partsL s).length
  rw [partsL_len] at this ⊢
  rw [List.length_append, List.length_singleton]
  omega
 have hl : (stopsW s).length ≤ 5000 := by omega
 have hsn : stopsW s = stopsTo (partsL s) (partsL s).length ++ [stpAt (partsL s) ((partsL s).length - 1) 0] := rfl
 obtain ⟨F, hle⟩ := fitsP_paras wd ⟨by omega, by omega⟩ (stopsW s) [] [] 0 0 ⟨by decide, by decide⟩ hS hF hl
 refine ⟨hS, hl, by rw [hsn]; simp, F, ?_⟩
 obtain ⟨ps, p, h1, h2⟩ := paras_snoc (stopsTo (partsL s) (partsL s).length) [] 0 0 (stpAt (partsL s) ((partsL s).length - 1) 0) (.inr rfl)
 rw [← hsn] at h1
 have hmem := paras_mem (stopsW s) [] 0 0
 rw [h1] at F hle hmem
 obtain ⟨f1, f2, f3⟩ := FitsP.at F
 have hb : 0 ≤ (bgP (leastW wd [] ps)).ce ∧ (bgP (leastW wd [] ps)).ce ≤ 100000 := bgP_bd wd (stopsW s) hS ps (fun q hq x hx => by have := hmem q (by simp [hq]) x hx; simpa using this)
 have hpS : SmN p.l := fun x hx => hS x (by have := hmem p (by simp) x hx; simpa using this)
 have hpl : p.l.length ≤ 5000 := by
  exact fitsP_len wd (stopsW s) p (by rw [h1]; simp) hl
 obtain ⟨Z, hZ⟩ := wayT_last wd ⟨by omega, by omega⟩ p.l.length p.l (bgP (leastW wd [] ps)).ce _ (Nat.le_refl _) h2 hb hpS f3 hpl
 have e : wrapW s wd = (leastW wd [] ps ++ Z) ++ [stpAt (partsL s) ((partsL s).length - 1) 0] := by
  unfold wrapW
  rw [h1, leastW_snoc]
  show _ ++ wayT _ _ _ = _
  rw [hZ, List.append_assoc]
 refine ⟨_, _, e, ?_, ?_⟩
 ·have : (wrapW s wd).length ≤ 0 + ([] ++ stopsW s).length := by unfold wrapW; rw [h1]; exact hle
  rw [e] at this
  simp only [List.length_append, List.length_cons, List.length_nil, List.nil_append] at this ⊢
  omega
 ·rw [← e]
  unfold wrapW
  rw [h1]
  exact leastW_sub wd (fun x => (0 ≤ x.fin.ce ∧ x.fin.ce ≤ 100000) ∧ 0 ≤ x.nxt.ce ∧ x.nxt.ce ≤ 100000) _ _ (fun x hx => by simp at hx) (fun q hq x hx => hS x (by have := hmem q hq x hx; simpa using this))
end Go.Proofs.YtlkgnheccoodpaaGreatDoor
namespace Go.Proofs.YtlkgnheccoodpaaGreatDoor
open Go.RowKit Go.Shelf
attribute [local go_sem] Oper.semAt_some
set_option maxRecDepth 100000 in
set_option maxHeartbeats 400000 in
theorem kinds_nil (oa : Option Addr) (ca : Nat) (w : World) :
  Calls Tryz.prog 21 #[.slice oa 0 ca] w fun e w' => e = .returned (.slice (some ⟨w.heap.size, 0, none⟩) 1 1) ∧ Below w.heap.size w w' := by
 obtain ⟨i0, hi, hz0, hz1, hz2⟩ := info_partsC infoI10
 go_enter Tryz.func21, Tryz.ntmps21
 go_wp2_with (at_make; refine wpList_make_full _ rfl _ _ 58 rfl w.heap.size 3 i0 (.int .i64 0) 1 Tryz.underlying58 hi hz0 hz1 .i64 .i64 _ _ 1 rfl rfl (by omega) (by omega) (by rw [hz2]; omega) (by unfold maxLen; omega) (by simp) ?_; intro w2 own2 gr2)
 have B2 := hideW (show Below w.heap.size w w2 from Below.grown (Below.refl _ _) gr2 (Nat.le_refl _) (fun k hk => by cases hk))
 clear own2 gr2
 go_loopw [4] (fun iv wq => iv = .int .i64 1 ∧ wq = w2) (fun iv _ => 0)
 case atStart => exact ⟨by first | rfl | go_num, rfl⟩
 case round =>
  obtain ⟨rfl, rfl⟩ := hrel
  go_wp2
  go_ret
  exact ⟨rfl, B2.out⟩
end Go.Proofs.YtlkgnheccoodpaaGreatDoor
namespace Go.Proofs.YtlkgnheccoodpaaGreatDoor
open Go.RowKit Go.Shelf
attribute [local go_sem] Oper.semAt_some
def stripR (L : List Pc) (fr : Nat) : Nat → Nat
 | 0 => 0
 | t + 1 => if fr < t + 1 ∧ blankB (L.getD t pc0) = true then stripR L fr t else t + 1
def lineT (L : List Pc) (fr tt : Nat) : Nat := stripR L fr (if fr < tt ∧ endsB (L.getD (tt - 1) pc0) = true then tt - 1 else tt)
def sumR (L : List Pc) (fr : Nat) : Nat → Int
 | 0 => 0
 | n + 1 => sumR L fr n + (L.getD (fr + n) pc0).ce
theorem stripR_le (L : List Pc) (fr : Nat) : ∀ t, stripR L fr t ≤ t
 | 0 => Nat.le_refl _
 | t + 1 => by
  unfold stripR
  split
  ·exact Nat.le_trans (stripR_le L fr t) (by omega)
  ·exact Nat.le_refl _
theorem sumR_bd (L : List Pc) (fr : Nat) (h : ∀ x ∈ L, 0 ≤ x.ce ∧ x.ce ≤ 2) : ∀ n, 0 ≤ sumR L fr n ∧ sumR L fr n ≤ 2 * (n : Int)
 | 0 => ⟨Int.le_refl _, Int.le_refl _⟩
 | n + 1 => by
  have ih := sumR_bd L fr h n
  have hx : 0 ≤ (L.getD (fr + n) pc0).ce ∧ (L.getD (fr + n) pc0).ce ≤ 2 := by
   by_cases hl : fr + n < L.length
   ·exact h _ (List.mem_of_getElem? (getD_some hl))
   ·have e : L.getD (fr + n) pc0 = pc0 := by rw [List.getD, List.getElem?_eq_none (by omega)]; rfl
    rw [e]
    decide
  unfold sumR
  omega
def PcR (W : World) (g : Nat) (L : List Pc) : Prop := g < W.heap.size ∧ ∀ (i : Nat) (x : Pc), L[i]? = some x → W.cell? ⟨g, i * 4, none⟩ = some (.int .i64 x.r) ∧ W.cell? ⟨g, i * 4 + 1, none⟩ = some (.int .i64 x.fr) ∧ W.cell? ⟨g, i * 4 + 2, none⟩ = some (.int .i64 x.tt) ∧ W.cell? ⟨g, i * 4 + 3, none⟩ = some (.int .i64 x.ce)
theorem PcR.keep {W U : World} {g : Nat} {L : List Pc} (h : PcR W g L) (b : Below W.heap.size W U) : PcR U g L := ⟨Nat.lt_of_lt_of_le h.1 b.size, fun i x hx => by
 obtain ⟨h1, h2, h3, h4⟩ := h.2 i x hx
 exact ⟨(b.cell (p := ⟨g, i * 4, none⟩) h.1).trans h1, (b.cell (p := ⟨g, i * 4 + 1, none⟩) h.1).trans h2, (b.cell (p := ⟨g, i * 4 + 2, none⟩) h.1).trans h3, (b.cell (p := ⟨g, i * 4 + 3, none⟩) h.1).trans h4⟩⟩
set_option maxRecDepth 100000 in
set_option maxHeartbeats 1000000 in
theorem line_any (L : List Pc) (g cap fr tt : Nat) (hl : L.length ≤ 5000) (htl : tt ≤ L.length) (hce : ∀ x ∈ L, 0 ≤ x.ce ∧ x.ce ≤ 2) (w : World) (hR : PcR w g L) :
  Calls Tryz.prog 24 #[.slice (some ⟨g, 0, none⟩) L.length cap, .int .i64 fr, .int .i64 tt] w fun e w' => e = .returned (.tuple #[.int .i64 (lineT L fr tt : Nat), .int .i64 (sumR L fr (lineT L fr tt - fr))]) ∧ Below w.heap.size w w' := by
 obtain ⟨Z, hZ⟩ : ∃ Z, lineT L fr tt = Z := ⟨_, rfl⟩
 rw [hZ]
 have HZ := hideW hZ
 have HR := hideW hR
 clear hZ hR
 go_enter Tryz.func24, Tryz.ntmps24
 by_cases hft0 : fr < tt
 ·obtain ⟨m, hm⟩ : ∃ m, tt = m + 1 := ⟨tt - 1, by omega⟩
  obtain ⟨x, hx⟩ : ∃ x, L[m]? = some x := ⟨_, List.getElem?_eq_getElem (by omega)⟩
  obtain ⟨y0, y1, y2, y3⟩ := HR.out.2 _ x hx
  have eg : L.getD m pc0 = x := by rw [List.getD, hx]; rfl
  have wt : (tt : Int) - 1 = (m : Int) := by omega
  have wm : IntKind.i64.wrap (m : Int) = (m : Int) := IntWalk.i64_in _ ⟨by omega, by omega⟩
  have ml : (m : Int) < (L.length : Int) := by omega
  have f0 : (fr : Int) < (tt : Int) := by omega
  have hmt : m ≤ tt := by omega
  have HEn := hideW (ends_any x)
  unfold Pc.val at HEn
  have hz := HZ.out
  unfold lineT at hz
  rw [show tt - 1 = m by omega, eg] at hz
  cases hen : endsB x with
  | true =>
   rw [hen] at HEn
   rw [if_pos ⟨hft0, hen⟩] at hz
   have HT := hideW hz
   clear hz hx eg hen hm
   go_wp2_with fail
   refine (HEn.out _).mono ?_
   rintro e w3 ⟨rfl, b3⟩
   have HB1 := hideW b3
   clear b3 HEn y0 y1 y2 y3
   go_wp2_with fail
   go_loopw [2] (fun tv wq => ∃ t : Nat, tv = .int .i64 (t : Nat) ∧ t ≤ tt ∧ stripR L fr t = Z ∧ Below w.heap.size w wq) (fun tv _ => (intOf tv).toNat)
   case atStart => exact ⟨m, rfl, hmt, HT.out, HB1.out⟩
   case round =>
    obtain ⟨t, rfl, htt, hst, hBt⟩ := hrel
    by_cases hft : fr < t
    ·obtain ⟨m, rfl⟩ : ∃ m, t = m + 1 := ⟨t - 1, by omega⟩
     obtain ⟨x, hx⟩ : ∃ x, L[m]? = some x := ⟨_, List.getElem?_eq_getElem (by omega)⟩
     obtain ⟨y0, y1, y2, y3⟩ := (HR.out.keep hBt).2 _ x hx
     have eg : L.getD m pc0 = x := by rw [List.getD, hx]; rfl
     obtain ⟨t, ht⟩ : ∃ t, m + 1 = t := ⟨_, rfl⟩
     have wt : (t : Int) - 1 = (m : Int) := by omega
     have wm : IntKind.i64.wrap (m : Int) = (m : Int) := IntWalk.i64_in _ ⟨by omega, by omega⟩
     have ml : (m : Int) < (L.length : Int) := by omega
     have f1 : (fr : Int) < (t : Int) := by omega
     have HBk := hideW (blank_any x)
     unfold Pc.val at HBk
     unfold stripR at hst
     rw [eg] at hst
     have HS := hideW (And.intro hst (And.intro hBt ht))
     rw [ht]
     rw [ht] at hft
     cases hbk : blankB x with
     | true =>
      rw [hbk] at HBk
      have HS2 : Hid (stripR L fr m = Z) := by
       have h := HS.out.1
       rw [if_pos ⟨by omega, hbk⟩] at h
       exact h
      clear hst hBt hx eg hbk ht
      go_wp2_with fail
      refine (HBk.out _).mono ?_
      rintro e w3 ⟨rfl, b3⟩
      have HB3 := hideW (bupW HS.out.2.1 b3)
      clear b3
      go_wp2_with fail
      go_roundw
      case rel => exact ⟨m, rfl, by omega, HS2.out, HB3.out⟩
      case measure => simp [intOf]; omega
     | false =>
      rw [hbk] at HBk
      have hZt : Z = t := by
       have h := HS.out.1
       rw [if_neg (by rw [hbk]; simp)] at h
       omega
      clear hst hBt hx eg hbk ht
      subst hZt
      go_wp2_with fail
      refine (HBk.out _).mono ?_
      rintro e w3 ⟨rfl, b3⟩
      have HBx := hideW (bupW HS.out.2.1 b3)
      clear b3 HBk y0 y1 y2 y3
      go_wp2_with fail
      go_loopw [8, 9] (fun nv iv wq => ∃ j : Nat, nv = .int .i64 (sumR L fr j) ∧ iv = .int .i64 ((fr + j : Nat) : Int) ∧ (fr + j ≤ Z ∨ j = 0) ∧ Below w.heap.size w wq) (fun _ iv _ => Z - (intOf iv).toNat)
      case atStart => exact ⟨0, rfl, rfl, .inr rfl, HBx.out⟩
      case round =>
       obtain ⟨j, rfl, rfl, hj, hBj⟩ := hrel
       have hsb := sumR_bd L fr hce j
       have ejf : ((fr + j : Nat) : Int) = (fr : Int) + (j : Int) := by omega
       by_cases hjZ : fr + j < Z
       ·obtain ⟨x, hx⟩ : ∃ x, L[fr + j]? = some x := ⟨_, List.getElem?_eq_getElem (by omega)⟩
        obtain ⟨_, _, _, y3⟩ := (HR.out.keep hBj).2 _ x hx
        have hxc := hce x (List.mem_of_getElem? hx)
        have es : sumR L fr (j + 1) = sumR L fr j + x.ce := by
         show sumR L fr j + (L.getD (fr + j) pc0).ce = _
         rw [show L.getD (fr + j) pc0 = x by rw [List.getD, hx]; rfl]
        obtain ⟨q, hq⟩ : ∃ q, fr + j = q := ⟨_, rfl⟩
        rw [hq] at y3 hjZ hj hx
        rw [hq]
        have qz : (q : Int) < (Z : Int) := by omega
        have ql : (q : Int) < (L.length : Int) := by omega
        have wq : IntKind.i64.wrap ((q : Int) + 1) = (q : Int) + 1 := IntWalk.i64_in _ ⟨by omega, by omega⟩
        have ws : IntKind.i64.wrap (sumR L fr j + x.ce) = sumR L fr j + x.ce := IntWalk.i64_in _ ⟨by omega, by omega⟩
        have HE := hideW (And.intro es hq)
        have HBj := hideW hBj
        clear es hx hBj ejf hq
        go_wp2_with fail
        go_roundw
        case rel => exact ⟨j + 1, by rw [HE.out.1], by rw [← HE.out.2]; simp; omega, .inl (by have := HE.out.2; omega), HBj.out⟩
        case measure => simp [intOf]; omega
       ·have ej : j = Z - fr := by omega
        obtain ⟨q, hq⟩ : ∃ q, fr + j = q := ⟨_, rfl⟩
        rw [hq] at hjZ
        rw [hq]
        have qz : ¬ (q : Int) < (Z : Int) := by omega
        have HBj := hideW hBj
        rw [ej]
        clear hBj ejf hq
        go_wp2_with fail
        refine bodyPost_ret (v := .tuple #[.int .i64 (Z : Nat), .int .i64 (sumR L fr (Z - fr))]) (by simp [results, Tryz.results24, go_sem]) rfl ⟨rfl, HBj.out⟩
    ·have hZt : Z = t := by
      cases t with
      | zero => exact hst.symm
      | succ u =>
       unfold stripR at hst
       rw [if_neg (fun e => hft e.1)] at hst
       exact hst.symm
     have f1 : ¬ (fr : Int) < (t : Int) := by omega
     have HBx := hideW hBt
     clear hst hBt
     subst hZt
     go_wp2_with fail
     go_loopw [8, 9] (fun nv iv wq => ∃ j : Nat, nv = .int .i64 (sumR L fr j) ∧ iv = .int .i64 ((fr + j : Nat) : Int) ∧ (fr + j ≤ Z ∨ j = 0) ∧ Below w.heap.size w wq) (fun _ iv _ => Z - (intOf iv).toNat)
     case atStart => exact ⟨0, rfl, rfl, .inr rfl, HBx.out⟩
     case round =>
      obtain ⟨j, rfl, rfl, hj, hBj⟩ := hrel
      have hsb := sumR_bd L fr hce j
      have ejf : ((fr + j : Nat) : Int) = (fr : Int) + (j : Int) := by omega
      by_cases hjZ : fr + j < Z
      ·exact absurd hjZ (by omega)
      ·have ej : j = Z - fr := by omega
       obtain ⟨q, hq⟩ : ∃ q, fr + j = q := ⟨_, rfl⟩
       rw [hq] at hjZ
       rw [hq]
       have qz : ¬ (q : Int) < (Z : Int) := by omega
       have HBj := hideW hBj
       rw [ej]
       clear hBj ejf hq
       go_wp2_with fail
       refine bodyPost_ret (v := .tuple #[.int .i64 (Z : Nat), .int .i64 (sumR L fr (Z - fr))]) (by simp [results, Tryz.results24, go_sem]) rfl ⟨rfl, HBj.out⟩
  | false =>
   rw [hen] at HEn
   rw [if_neg (by rw [hen]; simp)] at hz
   have HT := hideW hz
   clear hz hx eg hen hm
   go_wp2_with fail
   refine (HEn.out _).mono ?_
   rintro e w3 ⟨rfl, b3⟩
   have HB1 := hideW b3
   clear b3 HEn y0 y1 y2 y3
   go_wp2_with fail
   go_loopw [2] (fun tv wq => ∃ t : Nat, tv = .int .i64 (t : Nat) ∧ t ≤ tt ∧ stripR L fr t = Z ∧ Below w.heap.size w wq) (fun tv _ => (intOf tv).toNat)
   case atStart => exact ⟨tt, rfl, Nat.le_refl _, HT.out, HB1.out⟩
   case round =>
    obtain ⟨t, rfl, htt, hst, hBt⟩ := hrel
    by_cases hft : fr < t
    ·obtain ⟨m, rfl⟩ : ∃ m, t = m + 1 := ⟨t - 1, by omega⟩
     obtain ⟨x, hx⟩ : ∃ x, L[m]? = some x := ⟨_, List.getElem?_eq_getElem (by omega)⟩
     obtain ⟨y0, y1, y2, y3⟩ := (HR.out.keep hBt).2 _ x hx
     have eg : L.getD m pc0 = x := by rw [List.getD, hx]; rfl
     obtain ⟨t, ht⟩ : ∃ t, m + 1 = t := ⟨_, rfl⟩
     have wt : (t : Int) - 1 = (m : Int) := by omega
     have wm : IntKind.i64.wrap (m : Int) = (m : Int) := IntWalk.i64_in _ ⟨by omega, by omega⟩
     have ml : (m : Int) < (L.length : Int) := by omega
     have f1 : (fr : Int) < (t : Int) := by omega
     have HBk := hideW (blank_any x)
     unfold Pc.val at HBk
     unfold stripR at hst
     rw [eg] at hst
     have HS := hideW (And.intro hst (And.intro hBt ht))
     rw [ht]
     rw [ht] at hft
     cases hbk : blankB x with
     | true =>
      rw [hbk] at HBk
      have HS2 : Hid (stripR L fr m = Z) := by
       have h := HS.out.1
       rw [if_pos ⟨by omega, hbk⟩] at h
       exact h
      clear hst hBt hx eg hbk ht
      go_wp2_with fail
      refine (HBk.out _).mono ?_
      rintro e w3 ⟨rfl, b3⟩
      have HB3 := hideW (bupW HS.out.2.1 b3)
      clear b3
      go_wp2_with fail
      go_roundw
      case rel => exact ⟨m, rfl, by omega, HS2.out, HB3.out⟩
      case measure => simp [intOf]; omega
     | false =>
      rw [hbk] at HBk
      have hZt : Z = t := by
       have h := HS.out.1
       rw [if_neg (by rw [hbk]; simp)] at h
       omega
      clear hst hBt hx eg hbk ht
      subst hZt
      go_wp2_with fail
      refine (HBk.out _).mono ?_
      rintro e w3 ⟨rfl, b3⟩
      have HBx := hideW (bupW HS.out.2.1 b3)
      clear b3 HBk y0 y1 y2 y3
      go_wp2_with fail
      go_loopw [8, 9] (fun nv iv wq => ∃ j : Nat, nv = .int .i64 (sumR L fr j) ∧ iv = .int .i64 ((fr + j : Nat) : Int) ∧ (fr + j ≤ Z ∨ j = 0) ∧ Below w.heap.size w wq) (fun _ iv _ => Z - (intOf iv).toNat)
      case atStart => exact ⟨0, rfl, rfl, .inr rfl, HBx.out⟩
      case round =>
       obtain ⟨j, rfl, rfl, hj, hBj⟩ := hrel
       have hsb := sumR_bd L fr hce j
       have ejf : ((fr + j : Nat) : Int) = (fr : Int) + (j : Int) := by omega
       by_cases hjZ : fr + j < Z
       ·obtain ⟨x, hx⟩ : ∃ x, L[fr + j]? = some x := ⟨_, List.getElem?_eq_getElem (by omega)⟩
        obtain ⟨_, _, _, y3⟩ := (HR.out.keep hBj).2 _ x hx
        have hxc := hce x (List.mem_of_getElem? hx)
        have es : sumR L fr (j + 1) = sumR L fr j + x.ce := by
         show sumR L fr j + (L.getD (fr + j) pc0).ce = _
         rw [show L.getD (fr + j) pc0 = x by rw [List.getD, hx]; rfl]
        obtain ⟨q, hq⟩ : ∃ q, fr + j = q := ⟨_, rfl⟩
        rw [hq] at y3 hjZ hj hx
        rw [hq]
        have qz : (q : Int) < (Z : Int) := by omega
        have ql : (q : Int) < (L.length : Int) := by omega
        have wq : IntKind.i64.wrap ((q : Int) + 1) = (q : Int) + 1 := IntWalk.i64_in _ ⟨by omega, by omega⟩
        have ws : IntKind.i64.wrap (sumR L fr j + x.ce) = sumR L fr j + x.ce := IntWalk.i64_in _ ⟨by omega, by omega⟩
        have HE := hideW (And.intro es hq)
        have HBj := hideW hBj
        clear es hx hBj ejf hq
        go_wp2_with fail
        go_roundw
        case rel => exact ⟨j + 1, by rw [HE.out.1], by rw [← HE.out.2]; simp; omega, .inl (by have := HE.out.2; omega), HBj.out⟩
        case measure => simp [intOf]; omega
       ·have ej : j = Z - fr := by omega
        obtain ⟨q, hq⟩ : ∃ q, fr + j = q := ⟨_, rfl⟩
        rw [hq] at hjZ
        rw [hq]
        have qz : ¬ (q : Int) < (Z : Int) := by omega
        have HBj := hideW hBj
        rw [ej]
        clear hBj ejf hq
        go_wp2_with fail
        refine bodyPost_ret (v := .tuple #[.int .i64 (Z : Nat), .int .i64 (sumR L fr (Z - fr))]) (by simp [results, Tryz.results24, go_sem]) rfl ⟨rfl, HBj.out⟩
    ·have hZt : Z = t := by
      cases t with
      | zero => exact hst.symm
      | succ u =>
       unfold stripR at hst
       rw [if_neg (fun e => hft e.1)] at hst
       exact hst.symm
     have f1 : ¬ (fr : Int) < (t : Int) := by omega
     have HBx := hideW hBt
     clear hst hBt
     subst hZt
     go_wp2_with fail
     go_loopw [8, 9] (fun nv iv wq => ∃ j : Nat, nv = .int .i64 (sumR L fr j) ∧ iv = .int .i64 ((fr + j : Nat) : Int) ∧ (fr + j ≤ Z ∨ j = 0) ∧ Below w.heap.size w wq) (fun _ iv _ => Z - (intOf iv).toNat)
     case atStart => exact ⟨0, rfl, rfl, .inr rfl, HBx.out⟩
     case round =>
      obtain ⟨j, rfl, rfl, hj, hBj⟩ := hrel
      have hsb := sumR_bd L fr hce j
      have ejf : ((fr + j : Nat) : Int) = (fr : Int) + (j : Int) := by omega
      by_cases hjZ : fr + j < Z
      ·exact absurd hjZ (by omega)
      ·have ej : j = Z - fr := by omega
       obtain ⟨q, hq⟩ : ∃ q, fr + j = q := ⟨_, rfl⟩
       rw [hq] at hjZ
       rw [hq]
       have qz : ¬ (q : Int) < (Z : Int) := by omega
       have HBj := hideW hBj
       rw [ej]
       clear hBj ejf hq
       go_wp2_with fail
       refine bodyPost_ret (v := .tuple #[.int .i64 (Z : Nat), .int .i64 (sumR L fr (Z - fr))]) (by simp [results, Tryz.results24, go_sem]) rfl ⟨rfl, HBj.out⟩
 ·have f0 : ¬ (fr : Int) < (tt : Int) := by omega
  have hz := HZ.out
  unfold lineT at hz
  rw [if_neg (fun e => hft0 e.1)] at hz
  have HT := hideW hz
  have HB1 := hideW (Below.refl w.heap.size w)
  clear hz
  go_wp2_with fail
  go_loopw [2] (fun tv wq => ∃ t : Nat, tv = .int .i64 (t : Nat) ∧ t ≤ tt ∧ stripR L fr t = Z ∧ Below w.heap.size w wq) (fun tv _ => (intOf tv).toNat)
  case atStart => exact ⟨tt, rfl, Nat.le_refl _, HT.out, HB1.out⟩
  case round =>
   obtain ⟨t, rfl, htt, hst, hBt⟩ := hrel
   by_cases hft : fr < t
   ·exact absurd hft (by omega)
   ·have hZt : Z = t := by
     cases t with
     | zero => exact hst.symm
     | succ u =>
      unfold stripR at hst
      rw [if_neg (fun e => hft e.1)] at hst
      exact hst.symm
    have f1 : ¬ (fr : Int) < (t : Int) := by omega
    have HBx := hideW hBt
    clear hst hBt
    subst hZt
    go_wp2_with fail
    go_loopw [8, 9] (fun nv iv wq => ∃ j : Nat, nv = .int .i64 (sumR L fr j) ∧ iv = .int .i64 ((fr + j : Nat) : Int) ∧ (fr + j ≤ Z ∨ j = 0) ∧ Below w.heap.size w wq) (fun _ iv _ => Z - (intOf iv).toNat)
    case atStart => exact ⟨0, rfl, rfl, .inr rfl, HBx.out⟩
    case round =>
     obtain ⟨j, rfl, rfl, hj, hBj⟩ := hrel
     have hsb := sumR_bd L fr hce j
     have ejf : ((fr + j : Nat) : Int) = (fr : Int) + (j : Int) := by omega
     by_cases hjZ : fr + j < Z
     ·exact absurd hjZ (by omega)
     ·have ej : j = Z - fr := by omega
      obtain ⟨q, hq⟩ : ∃ q, fr + j = q := ⟨_, rfl⟩
      rw [hq] at hjZ
      rw [hq]
      have qz : ¬ (q : Int) < (Z : Int) := by omega
      have HBj := hideW hBj
      rw [ej]
      clear hBj ejf hq
      go_wp2_with fail
      refine bodyPost_ret (v := .tuple #[.int .i64 (Z : Nat), .int .i64 (sumR L fr (Z - fr))]) (by simp [results, Tryz.results24, go_sem]) rfl ⟨rfl, HBj.out⟩
end Go.Proofs.YtlkgnheccoodpaaGreatDoor
namespace Go.Proofs.YtlkgnheccoodpaaGreatDoor
def costW (wd : Int) : Int → List St → Int
 | _, [] => 0
 | bg, x :: V => (sbadI x.kind x.fin.ce bg wd).1 + costW wd x.nxt.ce V
def fitsW (wd : Int) : Int → List St → Bool
 | _, [] => true
 | bg, x :: V => (sbadI x.kind x.fin.ce bg wd).2 && fitsW wd x.nxt.ce V
theorem sum_cost (wd : Int) : ∀ (V : List St) (a b c : Int), sumB wd (linesG a b c V) = costW wd c V ∧ allBw wd (linesG a b c V) = fitsW wd c V
 | [], _, _, _ => ⟨rfl, rfl⟩
 | x :: V, a, b, c => by
  obtain ⟨h1, h2⟩ := sum_cost wd V x.nxt.loc x.nxt.sg x.nxt.ce
  refine ⟨?_, ?_⟩
  ·show (lnB wd ⟨a, b, c, x⟩).1 + sumB wd (linesG x.nxt.loc x.nxt.sg x.nxt.ce V) = _
   rw [h1]
   rfl
  ·show ((lnB wd ⟨a, b, c, x⟩).2 && allBw wd (linesG x.nxt.loc x.nxt.sg x.nxt.ce V)) = _
   rw [h2]
   rfl
theorem wayB_cost (wd : Int) (V : List St) : wayB wd V = if fitsW wd 0 V = true then (costW wd 0 V, true) else (0, false) := by
 unfold wayB
 rw [(sum_cost wd V 0 0 0).1, (sum_cost wd V 0 0 0).2]
def LEk (a b c d : Int) : Prop := a < c ∨ (a = c ∧ b ≤ d)
def LTk (a b c d : Int) : Prop := a < c ∨ (a = c ∧ b < d)
theorem better_iff (a b : Re) : betterB a b = true ↔ LTk a.bad a.cnt b.bad b.cnt := by
 unfold betterB LTk
 simp
def candR (bg wd : Int) (x : St) (t : Re) (n : Nat) : Re := ⟨(sbadI x.kind x.fin.ce bg wd).1 + t.bad, 1 + t.cnt, n⟩
theorem rest_spec (bg wd : Int) : ∀ (l : List St) (R : List Re) (n : Nat) (best : Re),
  (restGo bg wd n l R best = best ∨ ∃ (k : Nat) (x : St) (t : Re), l[k]? = some x ∧ R[k]? = some t ∧ (sbadI x.kind x.fin.ce bg wd).2 = true ∧ restGo bg wd n l R best = candR bg wd x t (n + k) ∧
   LTk (candR bg wd x t (n + k)).bad (candR bg wd x t (n + k)).cnt best.bad best.cnt ∧ ∀ (j : Nat) (y : St) (u : Re), j < k → l[j]? = some y → R[j]? = some u → LTk (candR bg wd x t (n + k)).bad (candR bg wd x t (n + k)).cnt (candR bg wd y u 0).bad (candR bg wd y u 0).cnt) ∧
  LEk (restGo bg wd n l R best).bad (restGo bg wd n l R best).cnt best.bad best.cnt ∧
  ∀ (k : Nat) (x : St) (t : Re), l[k]? = some x → R[k]? = some t → (∀ (j : Nat) (y : St), j ≤ k → l[j]? = some y → (sbadI y.kind y.fin.ce bg wd).2 = true) → LEk (restGo bg wd n l R best).bad (restGo bg wd n l R best).cnt (candR bg wd x t 0).bad (candR bg wd x t 0).cnt
 | [], R, n, best => by
  have e : restGo bg wd n [] R best = best := by unfold restGo; rfl
  rw [e]
  exact ⟨.inl rfl, .inr ⟨rfl, Int.le_refl _⟩, fun k x t h => by simp at h⟩
 | x :: l, [], n, best => by
  have e : restGo bg wd n (x :: l) [] best = best := by unfold restGo; rfl
  rw [e]
  exact ⟨.inl rfl, .inr ⟨rfl, Int.le_refl _⟩, fun k x t _ h => by simp at h⟩
 | x :: l, t :: R, n, best => by
  unfold restGo
  by_cases hf : (sbadI x.kind x.fin.ce bg wd).2 = true
  ·rw [if_pos hf]
   have ec : (⟨(sbadI x.kind x.fin.ce bg wd).1 + t.bad, 1 + t.cnt, n⟩ : Re) = candR bg wd x t n := rfl
   rw [ec]
   have eb : (candR bg wd x t 0).bad = (candR bg wd x t n).bad ∧ (candR bg wd x t 0).cnt = (candR bg wd x t n).cnt := ⟨rfl, rfl⟩
   generalize hb' : (if betterB (candR bg wd x t n) best = true then candR bg wd x t n else best) = b'
   obtain ⟨h1, h2, h3⟩ := rest_spec bg wd l R (n + 1) b'
   have hle : LEk b'.bad b'.cnt best.bad best.cnt := by
    by_cases hb : betterB (candR bg wd x t n) best = true
    ·rw [if_pos hb] at hb'
     rw [← hb']
     have := (better_iff _ _).1 hb
     unfold LTk at this
     unfold LEk
     omega
    ·rw [if_neg hb] at hb'
     rw [← hb']
     exact .inr ⟨rfl, Int.le_refl _⟩
   have hlc : LEk b'.bad b'.cnt (candR bg wd x t n).bad (candR bg wd x t n).cnt := by
    by_cases hb : betterB (candR bg wd x t n) best = true
    ·rw [if_pos hb] at hb'
     rw [← hb']
     exact .inr ⟨rfl, Int.le_refl _⟩
    ·rw [if_neg hb] at hb'
     rw [better_iff] at hb
     rw [← hb']
     unfold LTk at hb
     unfold LEk
     omega
   generalize restGo bg wd (n + 1) l R b' = r at *
   refine ⟨?_, ?_, ?_⟩
   ·rcases h1 with h1 | ⟨k, y, u, a1, a2, a3, a4, a5, a6⟩
    ·by_cases hb : betterB (candR bg wd x t n) best = true
     ·rw [if_pos hb] at hb'
      refine .inr ⟨0, x, t, rfl, rfl, hf, ?_, ?_, fun j y u hj => by omega⟩
      ·rw [h1, ← hb']
       rfl
      ·exact (better_iff _ _).1 hb
     ·rw [if_neg hb] at hb'
      exact .inl (by rw [h1, hb'])
    ·have en : n + 1 + k = n + (k + 1) := by omega
     rw [en] at a4 a5 a6
     refine .inr ⟨k + 1, y, u, by simpa using a1, by simpa using a2, a3, a4, ?_, fun j y' u' hj hy hu => ?_⟩
     ·unfold LTk at a5 ⊢
      unfold LEk at hle
      omega
     ·cases j with
      | zero =>
       obtain rfl : x = y' := by simpa using hy
       obtain rfl : t = u' := by simpa using hu
       rw [eb.1, eb.2]
       unfold LTk at a5 ⊢
       unfold LEk at hlc
       omega
      | succ j => exact a6 j y' u' (by omega) (by simpa using hy) (by simpa using hu)
   ·unfold LEk at h2 hle ⊢
    omega
   ·intro k y u hy hu hall
    cases k with
    | zero =>
     obtain rfl : x = y := by simpa using hy
     obtain rfl : t = u := by simpa using hu
     rw [eb.1, eb.2]
     unfold LEk at h2 hlc ⊢
     omega
    | succ k => exact h3 k y u (by simpa using hy) (by simpa using hu) (fun j y' hj hy' => hall (j + 1) y' (by omega) (by simpa using hy'))
  ·rw [if_neg hf]
   exact ⟨.inl rfl, .inr ⟨rfl, Int.le_refl _⟩, fun k y u hy hu hall => absurd (hall 0 x (by omega) rfl) hf⟩
inductive WayL : List St → List St → Prop
 | nil : WayL [] []
 | cons (k : Nat) (x : St) (V l : List St) : l[k]? = some x → WayL V (l.drop (k + 1)) → WayL (x :: V) l
def LexOk : List St → List St → Prop
 | x :: W, y :: V => (x = y ∧ LexOk W V) ∨ x.nxt.sg < y.nxt.sg
 | _, _ => True
def RiseS (l : List St) : Prop := ∀ (i j : Nat) (x y : St), i < j → l[i]? = some x → l[j]? = some y → (x.nxt.sg < y.nxt.sg ∨ x.kind = 1 ∨ x.kind = 0) ∧ x.fin.ce ≤ y.fin.ce
theorem RiseS.drop {l : List St} (h : RiseS l) (n : Nat) : RiseS (l.drop n) := fun i j x y hij hx hy => by
 rw [List.getElem?_drop] at hx hy
 exact h _ _ x y (by omega) hx hy
def NoK (l : List St) : Prop := ∀ (i j : Nat) (x y : St), i < j → l[i]? = some x → l[j]? = some y → ¬ (x.kind = 1 ∨ x.kind = 0)
theorem NoK.drop {l : List St} (h : NoK l) (n : Nat) : NoK (l.drop n) := fun i j x y hij hx hy => by
 rw [List.getElem?_drop] at hx hy
 exact h _ _ x y (by omega) hx hy
theorem NoK.of {A : List St} {z : St} (h : ∀ x ∈ A, ¬ (x.kind = 1 ∨ x.kind = 0)) : NoK (A ++ [z]) := fun i j x y hij hx hy => by
 have hj := (List.getElem?_eq_some_iff.1 hy).1
 rw [List.length_append, List.length_singleton] at hj
 rw [List.getElem?_append_left (by omega)] at hx
 exact h x (List.mem_of_getElem? hx)
theorem sbad_two (k c b wd : Int) : (sbadI k c b wd).2 = true ↔ c ≤ b + wd := by
 unfold sbadI
 by_cases h : wd - (c - b) < 0
 ·rw [if_pos h]
  exact ⟨fun e => (by cases e), fun e => (by omega)⟩
 ·rw [if_neg h]
  exact ⟨fun _ => (by omega), fun _ => rfl⟩
theorem tab_at (wd : Int) (l : List St) (bg : Int) (k : Nat) (x : St) (h : l[k]? = some x) : (tabT wd bg l)[k + 1]? = (tabT wd x.nxt.ce (l.drop (k + 1)))[0]? := by
 rw [← tabT_drop wd l bg k x h, List.getElem?_drop]
theorem opt_para (wd : Int) (hw : 0 ≤ wd ∧ wd ≤ 1000) : ∀ (f : Nat) (l : List St) (bg : Int), l.length ≤ f → 0 ≤ bg ∧ bg ≤ 100000 → SmN l → FitsT wd bg l → l.length ≤ 5000 → RiseS l → NoK l →
  ∃ t, (tabT wd bg l)[0]? = some t ∧ costW wd bg (wayT f l (tabT wd bg l)) = t.bad ∧ ((wayT f l (tabT wd bg l)).length : Int) = t.cnt ∧ fitsW wd bg (wayT f l (tabT wd bg l)) = true ∧ WayL (wayT f l (tabT wd bg l)) l ∧
   ∀ V, WayL V l → fitsW wd bg V = true → LEk t.bad t.cnt (costW wd bg V) V.length ∧ (t.bad = costW wd bg V ∧ t.cnt = (V.length : Int) → LexOk (wayT f l (tabT wd bg l)) V) := by
 intro f
 induction f with
 | zero =>
  intro l bg hf hb hS hF hl hR hNK
  obtain rfl : l = [] := List.eq_nil_of_length_eq_zero (by omega)
  refine ⟨zeroR, rfl, rfl, rfl, rfl, .nil, fun V hV _ => ?_⟩
  cases hV with
  | nil => exact ⟨.inr ⟨rfl, Int.le_refl _⟩, fun _ => trivial⟩
  | cons k x V l h1 h2 => simp at h1
 | succ f ih =>
  intro l bg hf hb hS hF hl hR hNK
  by_cases hl0 : l = []
  ·subst hl0
   rw [wayT_nil]
   refine ⟨zeroR, rfl, rfl, rfl, rfl, .nil, fun V hV _ => ?_⟩
   cases hV with
   | nil => exact ⟨.inr ⟨rfl, Int.le_refl _⟩, fun _ => trivial⟩
   | cons k x V l h1 h2 => simp at h1
  ·obtain ⟨a, l1, rfl⟩ := List.exists_cons_of_ne_nil hl0
   have hlen := tabT_len wd bg (a :: l1)
   have hT0 : (tabT wd bg (a :: l1))[0]? = some (restGo bg wd 0 (a :: l1) (tabT wd a.nxt.ce l1) topR) := rfl
   have hTk : ∀ k : Nat, (tabT wd a.nxt.ce l1)[k]? = (tabT wd bg (a :: l1))[k + 1]? := fun k => rfl
   obtain ⟨sp1, sp2, sp3⟩ := rest_spec bg wd (a :: l1) (tabT wd a.nxt.ce l1) 0 topR
   have ok0 := tab_ok wd hw (a :: l1) bg hb hS hF hl
   have ok := ok0 0 _ hT0
   generalize hr : restGo bg wd 0 (a :: l1) (tabT wd a.nxt.ce l1) topR = r at *
   have hne : ¬ r = topR := fun e => by
    have h1 := ok.1.2
    rw [e] at h1
    have : topR.bad = 9223372036854775807 := rfl
    omega
   rcases sp1 with sp1 | ⟨k, y, t, b1, b2, b3, b4, b5, b6⟩
   ·exact absurd sp1 hne
   rw [Nat.zero_add] at b4 b5 b6
   have hkl : k < (a :: l1).length := (List.getElem?_eq_some_iff.1 b1).1
   have hfst : r.fst = (k : Int) := by rw [b4]; rfl
   have hym := List.mem_of_getElem? b1
   have e1 : tabT wd bg (a :: l1) = r :: (tabT wd bg (a :: l1)).drop 1 := by
    have := drop_get hT0
    simpa using this
   have e2 : wayT (f + 1) (a :: l1) (tabT wd bg (a :: l1)) = y :: wayT f ((a :: l1).drop (k + 1)) (tabT wd y.nxt.ce ((a :: l1).drop (k + 1))) := by
    rw [← tabT_drop wd (a :: l1) bg k y b1]
    generalize tabT wd bg (a :: l1) = T at *
    rw [e1]
    show (match (a :: l1).drop r.fst.toNat with | [] => [] | x :: l' => x :: wayT f l' ((r :: T.drop 1).drop (r.fst.toNat + 1))) = _
    rw [hfst, Int.toNat_natCast, drop_get b1]
   have cond : ∀ (j : Nat) (z : St), (a :: l1)[j]? = some z → ∃ u, (tabT wd a.nxt.ce l1)[j]? = some u ∧ costW wd z.nxt.ce (wayT f ((a :: l1).drop (j + 1)) (tabT wd z.nxt.ce ((a :: l1).drop (j + 1)))) = u.bad ∧ ((wayT f ((a :: l1).drop (j + 1)) (tabT wd z.nxt.ce ((a :: l1).drop (j + 1)))).length : Int) = u.cnt ∧ fitsW wd z.nxt.ce (wayT f ((a :: l1).drop (j + 1)) (tabT wd z.nxt.ce ((a :: l1).drop (j + 1)))) = true ∧ WayL (wayT f ((a :: l1).drop (j + 1)) (tabT wd z.nxt.ce ((a :: l1).drop (j + 1)))) ((a :: l1).drop (j + 1)) ∧
     ∀ V, WayL V ((a :: l1).drop (j + 1)) → fitsW wd z.nxt.ce V = true → LEk u.bad u.cnt (costW wd z.nxt.ce V) V.length ∧ (u.bad = costW wd z.nxt.ce V ∧ u.cnt = (V.length : Int) → LexOk (wayT f ((a :: l1).drop (j + 1)) (tabT wd z.nxt.ce ((a :: l1).drop (j + 1)))) V) := by
    intro j z hz
    obtain ⟨u, q1, q2⟩ := ih ((a :: l1).drop (j + 1)) z.nxt.ce (by rw [List.length_drop]; omega) (hS z (List.mem_of_getElem? hz)).2 (hS.drop _) (fits_drop hF hz) (by rw [List.length_drop]; omega) (hR.drop _) (hNK.drop _)
    refine ⟨u, ?_, q2⟩
    rw [hTk, tab_at wd _ bg j z hz]
    exact q1
   obtain ⟨u, q1, q2, q3, q4, q5, q6⟩ := cond k y b1
   obtain rfl : t = u := by rw [b2] at q1; exact Option.some.inj q1
   rw [e2]
   have rb : r.bad = (sbadI y.kind y.fin.ce bg wd).1 + t.bad := by rw [b4]; rfl
   have rc : r.cnt = 1 + t.cnt := by rw [b4]; rfl
   refine ⟨r, hT0, ?_, ?_, ?_, .cons k y _ _ b1 q5, fun V hV hfV => ?_⟩
   ·show (sbadI y.kind y.fin.ce bg wd).1 + costW wd y.nxt.ce _ = _
    rw [q2, rb]
   ·rw [List.length_cons, rc, ← q3]
    omega
   ·show ((sbadI y.kind y.fin.ce bg wd).2 && fitsW wd y.nxt.ce _) = true
    rw [b3, q4]
    rfl
   ·cases hV with
    | cons j z V' _ hz hV' =>
     have hfV' : ((sbadI z.kind z.fin.ce bg wd).2 && fitsW wd z.nxt.ce V') = true := hfV
     rw [Bool.and_eq_true] at hfV'
     obtain ⟨u2, p1, p2, p3, p4, p5, p6⟩ := cond j z hz
     obtain ⟨g1, g2⟩ := p6 V' hV' hfV'.2
     have g3 := sp3 j z u2 hz p1 (fun i x hi hx => by
      rw [sbad_two]
      have h1 := (sbad_two _ _ _ _).1 hfV'.1
      by_cases hij : i = j
      ·subst hij
       rw [hx] at hz
       obtain rfl := Option.some.inj hz
       exact h1
      ·have := (hR i j x z (by omega) hx hz).2
       omega)
     have cb : (candR bg wd z u2 0).bad = (sbadI z.kind z.fin.ce bg wd).1 + u2.bad := rfl
     have cc : (candR bg wd z u2 0).cnt = 1 + u2.cnt := rfl
     rw [cb, cc] at g3
     have ec : costW wd bg (z :: V') = (sbadI z.kind z.fin.ce bg wd).1 + costW wd z.nxt.ce V' := rfl
     have el : ((z :: V').length : Int) = 1 + (V'.length : Int) := by simp; omega
     rw [ec, el]
     unfold LEk at g1 g3
     refine ⟨by unfold LEk; omega, fun heq => ?_⟩
     by_cases hkj : k = j
     ·subst hkj
      rw [hz] at b1
      obtain rfl := Option.some.inj b1
      rw [p1] at b2
      obtain rfl := Option.some.inj b2
      exact .inl ⟨rfl, g2 ⟨by omega, by omega⟩⟩
     ·by_cases hlt : k < j
      ·rcases (hR k j y z hlt b1 hz).1 with h8 | h8
       ·exact .inr h8
       ·exact absurd h8 (hNK k j y z hlt b1 hz)
      ·have h6 := b6 j z u2 (by omega) hz p1
       rw [cb, cc, ← b4] at h6
       unfold LTk at h6
       omega
inductive SubK : List St → List St → Prop
 | nil : SubK [] []
 | take (x : St) (V S : List St) : SubK V S → SubK (x :: V) (x :: S)
 | skip (x : St) (V S : List St) : ¬ (x.kind = 1 ∨ x.kind = 0) → SubK V S → SubK V (x :: S)
theorem SubK.split : ∀ {A : List St} {x : St} {B V : List St}, SubK V (A ++ x :: B) → (x.kind = 1 ∨ x.kind = 0) → ∃ V1 V2, V = V1 ++ x :: V2 ∧ SubK V1 A ∧ SubK V2 B
 | [], x, B, V, h, hx => by
  cases h with
  | take _ V' _ h => exact ⟨[], V', rfl, .nil, h⟩
  | skip _ _ _ hn h => exact absurd hx hn
 | a :: A, x, B, V, h, hx => by
  cases h with
  | take _ V' _ h =>
   obtain ⟨V1, V2, rfl, h1, h2⟩ := SubK.split h hx
   exact ⟨a :: V1, V2, rfl, .take a _ _ h1, h2⟩
  | skip _ _ _ hn h =>
   obtain ⟨V1, V2, rfl, h1, h2⟩ := SubK.split h hx
   exact ⟨V1, V2, rfl, .skip a _ _ hn h1, h2⟩
theorem SubK.append : ∀ {A V B U : List St}, SubK V A → SubK U B → SubK (V ++ U) (A ++ B)
 | _, _, _, _, .nil, h => h
 | _, _, _, _, .take x _ _ h1, h => .take x _ _ (SubK.append h1 h)
 | _, _, _, _, .skip x _ _ hn h1, h => .skip x _ _ hn (SubK.append h1 h)
theorem WayL.shift {V l : List St} (a : St) (h : WayL V l) (hne : V ≠ []) : WayL V (a :: l) := by
 cases h with
 | nil => exact absurd rfl hne
 | cons k x V l h1 h2 => exact .cons (k + 1) x V (a :: l) (by simpa using h1) (by simpa using h2)
theorem SubK.way : ∀ {A V : List St} (x : St), SubK V A → WayL (V ++ [x]) (A ++ [x])
 | _, _, x, .nil => .cons 0 x [] [x] rfl .nil
 | _, _, x, .take y V S h => .cons 0 y _ _ rfl (by simpa using SubK.way x h)
 | _, _, x, .skip y V S hn h => (SubK.way x h).shift y (by simp)
theorem wayL_skip : ∀ (k : Nat) (l : List St) (y : St) (V : List St), l[k]? = some y → (∀ z ∈ l.take k, ¬ (z.kind = 1 ∨ z.kind = 0)) → SubK V (l.drop (k + 1)) → SubK (y :: V) l
 | 0, [], y, V, h, _, _ => by simp at h
 | 0, a :: l, y, V, h, _, h3 => by
  obtain rfl : a = y := by simpa using h
  exact .take a V l (by simpa using h3)
 | k + 1, [], y, V, h, _, _ => by simp at h
 | k + 1, a :: l, y, V, h, h2, h3 => .skip a _ _ (h2 a (by simp)) (wayL_skip k l y V (by simpa using h) (fun z hz => h2 z (by simp [hz])) (by simpa using h3))
theorem WayL.sub {V l : List St} (h : WayL V l) : ∀ (A : List St) (x : St), l = A ++ [x] → (∀ z ∈ A, ¬ (z.kind = 1 ∨ z.kind = 0)) → SubK V l := by
 induction h with
 | nil => intro A x e; simp at e
 | cons k y V l h1 h2 ih =>
  rintro A x rfl hA
  have hk := (List.getElem?_eq_some_iff.1 h1).1
  rw [List.length_append, List.length_singleton] at hk
  by_cases hl : k = A.length
  ·subst hl
   have e : (A ++ [x]).drop (A.length + 1) = [] := by simp
   rw [e] at h2
   cases h2 with
   | nil => exact wayL_skip A.length _ y [] h1 (by simpa using hA) (by rw [e]; exact .nil)
   | cons k' x' V' _ g1 _ => simp at g1
  ·have e : (A ++ [x]).drop (k + 1) = A.drop (k + 1) ++ [x] := List.drop_append_of_le_length (by omega)
   refine wayL_skip k _ y V h1 (fun z hz => ?_) (ih (A.drop (k + 1)) x e (fun z hz => hA z (List.mem_of_mem_drop hz)))
   rw [List.take_append_of_le_length (by omega)] at hz
   exact hA z (List.mem_of_mem_take hz)
theorem cost_append (wd : Int) : ∀ (A : List St) (x : St) (B : List St) (bg : Int), costW wd bg (A ++ x :: B) = costW wd bg (A ++ [x]) + costW wd x.nxt.ce B ∧ fitsW wd bg (A ++ x :: B) = (fitsW wd bg (A ++ [x]) && fitsW wd x.nxt.ce B)
 | [], x, B, bg => by
  refine ⟨?_, ?_⟩
  ·show _ + costW wd x.nxt.ce B = (_ + 0) + _
   omega
  ·show (_ && fitsW wd x.nxt.ce B) = ((_ && true) && _)
   rw [Bool.and_true]
 | a :: A, x, B, bg => by
  obtain ⟨h1, h2⟩ := cost_append wd A x B a.nxt.ce
  refine ⟨?_, ?_⟩
  ·show _ + costW wd a.nxt.ce (A ++ x :: B) = (_ + costW wd a.nxt.ce (A ++ [x])) + _
   rw [h1]
   omega
  ·show (_ && fitsW wd a.nxt.ce (A ++ x :: B)) = ((_ && fitsW wd a.nxt.ce (A ++ [x])) && _)
   rw [h2, Bool.and_assoc]
theorem lexOk_append : ∀ (W V : List St) (W2 V2 : List St), W.length = V.length → LexOk W V → LexOk W2 V2 → LexOk (W ++ W2) (V ++ V2)
 | [], [], W2, V2, _, _, h => h
 | [], _ :: _, _, _, h, _, _ => by simp at h
 | _ :: _, [], _, _, h, _, _ => by simp at h
 | x :: W, y :: V, W2, V2, hl, h, h2 => by
  rcases h with ⟨e, h⟩ | h
  ·exact .inl ⟨e, lexOk_append W V W2 V2 (by simpa using hl) h h2⟩
  ·exact .inr h
theorem opt_paras (wd : Int) (hw : 0 ≤ wd ∧ wd ≤ 1000) : ∀ (l acc way : List St) (fr n : Nat) (zl : St), (∀ z ∈ acc, ¬ (z.kind = 1 ∨ z.kind = 0)) → (l = [] → acc = []) → (l ≠ [] → l.getLast? = some zl) → zl.kind = 1 ∨ zl.kind = 0 → 0 ≤ (bgP way).ce ∧ (bgP way).ce ≤ 100000 → SmN (acc ++ l) → FitsT wd (bgP way).ce (acc ++ l) → (acc ++ l).length ≤ 5000 → RiseS (acc ++ l) →
  ∃ W, leastW wd way (parasG fr n acc l) = way ++ W ∧ fitsW wd (bgP way).ce W = true ∧ SubK W (acc ++ l) ∧
   ∀ V, SubK V (acc ++ l) → fitsW wd (bgP way).ce V = true → LEk (costW wd (bgP way).ce W) W.length (costW wd (bgP way).ce V) V.length ∧ (costW wd (bgP way).ce W = costW wd (bgP way).ce V ∧ (W.length : Int) = V.length → LexOk W V)
 | [], acc, way, fr, n, zl, _, ha, _, _, _, _, _, _, _ => by
  obtain rfl := ha rfl
  refine ⟨[], (List.append_nil _).symm, rfl, .nil, fun V hV _ => ?_⟩
  cases hV with
  | nil => exact ⟨.inr ⟨rfl, Int.le_refl _⟩, fun _ => trivial⟩
 | x :: l, acc, way, fr, n, zl, hacc, _, hlast, hzl, hb, hS, hF, hl, hR => by
  have hlen : (acc ++ x :: l).length = acc.length + 1 + l.length := by simp; omega
  by_cases hx : x.kind = 1 ∨ x.kind = 0
  ·rw [parasG, if_pos hx]
   have hS1 : SmN (acc ++ [x]) := fun y hy => hS y (by
    simp at hy ⊢
    rcases hy with hy | hy
    ·exact .inl hy
    ·exact .inr (.inl hy))
   have hS2 : SmN l := fun y hy => hS y (by simp [hy])
   obtain ⟨f1, f2⟩ := fitsT_split wd acc x l _ hF
   have e3 : acc ++ x :: l = (acc ++ [x]) ++ l := by simp
   have hR1 : RiseS (acc ++ [x]) := fun i j p q hij hp hq => hR i j p q hij (by rw [e3, List.getElem?_append_left (List.getElem?_eq_some_iff.1 hp).1]; exact hp) (by rw [e3, List.getElem?_append_left (List.getElem?_eq_some_iff.1 hq).1]; exact hq)
   have hR2 : RiseS l := by
    have := hR.drop (acc.length + 1)
    rw [e3, List.drop_left' (by simp)] at this
    exact this
   obtain ⟨t, t1, t2, t3, t4, t5, t6⟩ := opt_para wd hw (acc ++ [x]).length (acc ++ [x]) (bgP way).ce (Nat.le_refl _) hb hS1 f1 (by simp; omega) hR1 (NoK.of hacc)
   obtain ⟨Z, hZ⟩ := wayT_last wd hw (acc ++ [x]).length (acc ++ [x]) (bgP way).ce x (Nat.le_refl _) List.getLast?_concat hb hS1 f1 (by simp; omega)
   rw [hZ] at t2 t3 t4 t5 t6
   have e : leastP wd (bgP way).ce (acc ++ [x]) = Z ++ [x] := hZ
   have hbg : bgP (way ++ (Z ++ [x])) = x.nxt := by rw [← List.append_assoc, bgP_snoc]
   obtain ⟨W, w1, w2, w3, w4⟩ := opt_paras wd hw l [] (way ++ (Z ++ [x])) (n + 1) (n + 1) zl (fun z hz => by simp at hz) (fun _ => rfl) (fun hne => by
    have := hlast (by simp)
    obtain ⟨b, l', rfl⟩ := List.exists_cons_of_ne_nil hne
    rwa [List.getLast?_cons_cons] at this) hzl (by rw [hbg]; exact (hS x (by simp)).2) hS2 (by rw [hbg]; exact f2) (by simp; omega) hR2
   rw [hbg] at w2 w4
   have c1 := cost_append wd Z x W (bgP way).ce
   refine ⟨Z ++ x :: W, ?_, ?_, ?_, fun V hV hfV => ?_⟩
   ·show leastW wd (way ++ leastP wd (bgP way).ce (acc ++ [x])) _ = _
    rw [e, w1]
    simp
   ·rw [c1.2, t4, w2]
    rfl
   ·rw [show Z ++ x :: W = (Z ++ [x]) ++ W by simp, e3]
    exact SubK.append (t5.sub acc x rfl hacc) w3
   ·obtain ⟨V1, V2, rfl, v1, v2⟩ := hV.split hx
    have c2 := cost_append wd V1 x V2 (bgP way).ce
    rw [c2.2, Bool.and_eq_true] at hfV
    obtain ⟨o1, o2⟩ := t6 (V1 ++ [x]) (v1.way x) hfV.1
    obtain ⟨o3, o4⟩ := w4 V2 v2 hfV.2
    rw [c1.1, c2.1, t2]
    have l1 : ((Z ++ x :: W).length : Int) = t.cnt + (W.length : Int) := by rw [← t3]; simp; omega
    have l2 : ((V1 ++ x :: V2).length : Int) = ((V1 ++ [x]).length : Int) + (V2.length : Int) := by simp; omega
    rw [l1, l2]
    unfold LEk at o1 o3
    refine ⟨by unfold LEk; omega, fun heq => ?_⟩
    rw [show Z ++ x :: W = (Z ++ [x]) ++ W by simp, show V1 ++ x :: V2 = (V1 ++ [x]) ++ V2 by simp]
    refine lexOk_append _ _ _ _ ?_ (o2 ⟨by omega, by omega⟩) (o4 ⟨by omega, by omega⟩)
    have : ((Z ++ [x]).length : Int) = ((V1 ++ [x]).length : Int) := by rw [t3]; omega
    omega
  ·rw [parasG, if_neg hx]
   have e3 : acc ++ x :: l = (acc ++ [x]) ++ l := by simp
   have hln : l ≠ [] := fun h0 => by
    have := hlast (by simp)
    rw [h0] at this
    obtain rfl : x = zl := by simpa using this
    exact hx hzl
   rw [e3] at hS hF hl hR ⊢
   exact opt_paras wd hw l (acc ++ [x]) way fr (n + 1) zl (fun z hz => by
    simp at hz
    rcases hz with hz | hz
    ·exact hacc z hz
    ·rw [hz]; exact hx) (fun h0 => absurd h0 hln) (fun hne => by
    have := hlast (by simp)
    obtain ⟨b, l', rfl⟩ := List.exists_cons_of_ne_nil hne
    rwa [List.getLast?_cons_cons] at this) hzl hb hS hF hl hR
end Go.Proofs.YtlkgnheccoodpaaGreatDoor
namespace Go.Proofs.YtlkgnheccoodpaaGreatDoor
open Go.RowKit
end Go.Proofs.YtlkgnheccoodpaaGreatDoor
namespace Go.Proofs.YtlkgnheccoodpaaGreatDoor
open Go.RowKit Go.Shelf
attribute [local go_sem] Oper.semAt_some
def BR (W : World) (oa : Option Addr) (B : List (Int × Int)) : Prop := ∀ (i : Nat) (b : Int × Int), B[i]? = some b → ∃ g o, oa = some ⟨g, o, none⟩ ∧ g < W.heap.size ∧ W.cell? ⟨g, o + i * 2, none⟩ = some (.int .i64 b.1) ∧ W.cell? ⟨g, o + i * 2 + 1, none⟩ = some (.int .i64 b.2)
theorem BR.keep {W U : World} {oa : Option Addr} {B : List (Int × Int)} (h : BR W oa B) (b : Below W.heap.size W U) : BR U oa B := by
 intro i x hx
 obtain ⟨g, o, h1, h2, h3, h4⟩ := h i x hx
 exact ⟨g, o, h1, Nat.lt_of_lt_of_le h2 b.size, (b.cell (p := ⟨g, o + i * 2, none⟩) h2).trans h3, (b.cell (p := ⟨g, o + i * 2 + 1, none⟩) h2).trans h4⟩
end Go.Proofs.YtlkgnheccoodpaaGreatDoor
namespace Go.Proofs.YtlkgnheccoodpaaGreatDoor
open Go.RowKit Go.Shelf
attribute [local go_sem] Oper.semAt_some
def plS (s : ByteArray) : List St := stopsTo (partsL s) (partsL s).length
def fnS (s : ByteArray) : St := stpAt (partsL s) ((partsL s).length - 1) 0
theorem stopsW_eq (s : ByteArray) : stopsW s = plS s ++ [fnS s] := rfl
end Go.Proofs.YtlkgnheccoodpaaGreatDoor
namespace Go.Proofs.YtlkgnheccoodpaaGreatDoor
theorem endG_last : ∀ (l : List Cl) (e : Int × Int × Int), (endG l e).2.1 = lastTo l e.2.1
 | [], _ => rfl
 | x :: l, e => by
  show (endG l _).2.1 = lastTo l x.to
  rw [endG_last l]
theorem sg_at (s : ByteArray) (k : Nat) (h : k ≤ (clusters s).length) : ((partsL s).getD k pt0).sg = lastTo ((clusters s).take k) 0 := by
 have e : ∃ p : Pt, (partsL s)[k]? = some p ∧ p.sg = (endG ((clusters s).take k) (0, 0, 0)).2.1 := by
  unfold partsL
  by_cases hl : k = (clusters s).length
  ·subst hl
   rw [clsL_ge s _ _ _ _ (Nat.le_refl _)]
   unfold partsR
   rw [List.getElem?_append_right (by rw [partsG_len]; exact Nat.le_refl _), partsG_len, Nat.sub_self, List.take_length]
   exact ⟨_, rfl, rfl⟩
  ·have hn : k < (clusters s).length := by omega
   rw [clsL_lt s _ _ _ _ hn]
   unfold partsR
   rw [List.getElem?_append_left (by rw [partsG_len]; exact hn), partsG_at2 _ _ _ _ (List.getElem?_eq_getElem hn)]
   exact ⟨_, rfl, rfl⟩
 obtain ⟨p, hp, h2⟩ := e
 rw [getD_at hp, h2, endG_last]
theorem sg_step (s : ByteArray) (k : Nat) (h : k < (clusters s).length) : ((partsL s).getD k pt0).sg < ((partsL s).getD (k + 1) pt0).sg := by
 rw [sg_at s k (by omega), sg_at s (k + 1) (by omega), List.take_add_one, List.getElem?_eq_getElem h]
 show _ < lastTo (_ ++ [_]) 0
 rw [lastTo_snoc]
 have := chain_at (s := s) (pre := (clusters s).take k) (c := (clusters s)[k]) (r := (clusters s).drop (k + 1)) (by rw [← List.drop_eq_getElem_cons h, List.take_append_drop])
 omega
theorem sg_lt (s : ByteArray) (j : Nat) : ∀ d, j + d + 1 ≤ (clusters s).length → ((partsL s).getD j pt0).sg < ((partsL s).getD (j + d + 1) pt0).sg
 | 0, h => sg_step s j (by omega)
 | d + 1, h => by
  have a := sg_lt s j d (by omega)
  have b := sg_step s (j + d + 1) (by omega)
  rw [show j + (d + 1) + 1 = j + d + 1 + 1 by omega]
  omega
theorem strip_mono (L : List Pt) (e : Nat) : ∀ d, stripB L e ≤ stripB L (e + d)
 | 0 => Nat.le_refl _
 | d + 1 => by
  have a := strip_mono L e d
  have b := stripB_le L e
  rw [show e + (d + 1) = (e + d) + 1 by omega]
  show _ ≤ (if _ then stripB L (e + d) else e + d + 1)
  split
  ·exact a
  ·show stripB L e ≤ e + d + 1
   exact Nat.le_trans b (by omega)
theorem fin_le {L : List Pt} {N : Nat} (h : Rise L N) (a b : Nat) (ka kb : Int) (hab : a < b) (hb : b ≤ N) : (L.getD (stripB L (stopE ka a)) pt0).ce ≤ (L.getD (stripB L (stopE kb b)) pt0).ce := by
 have h1 : stopE ka a ≤ a := by unfold stopE; split <;> omega
 have h2 : b - 1 ≤ stopE kb b ∧ stopE kb b ≤ b := by unfold stopE; split <;> omega
 have h3 := strip_mono L (stopE ka a) (stopE kb b - stopE ka a)
 rw [show stopE ka a + (stopE kb b - stopE ka a) = stopE kb b by omega] at h3
 have h4 := stripB_le L (stopE kb b)
 exact h.le h3 (by omega)
theorem stop_at (L : List Pt) : ∀ m, ∀ x ∈ stopsTo L m, ∃ k, 1 ≤ k ∧ k < m ∧ kindL L k ≠ 0 ∧ x = stpAt L k (kindL L k)
 | 0, x, h => by simp [stopsTo] at h
 | m + 1, x, h => by
  unfold stopsTo at h
  rcases List.mem_append.1 h with h | h
  ·obtain ⟨k, h0, h1, h2⟩ := stop_at L m x h
   exact ⟨k, h0, by omega, h2⟩
  ·split at h
   ·simp at h
   ·rename_i hc
    obtain rfl : x = _ := by simpa using h
    exact ⟨m, by omega, by omega, fun e => hc (.inr e), rfl⟩
theorem stops_two (L : List Pt) : ∀ m, (stopsTo L m).Pairwise fun x y => ∃ a b, a < b ∧ b < m ∧ x = stpAt L a (kindL L a) ∧ y = stpAt L b (kindL L b)
 | 0 => .nil
 | m + 1 => by
  have ih := (stops_two L m).imp (S := fun x y => ∃ a b, a < b ∧ b < m + 1 ∧ x = stpAt L a (kindL L a) ∧ y = stpAt L b (kindL L b)) (fun ⟨a, b, h1, h2, h3⟩ => ⟨a, b, h1, by omega, h3⟩)
  unfold stopsTo
  split
  ·rw [List.append_nil]
   exact ih
  ·refine List.pairwise_append.2 ⟨ih, List.pairwise_singleton _ _, fun x hx y hy => ?_⟩
   obtain rfl : y = _ := by simpa using hy
   obtain ⟨k, _, h1, _, h3⟩ := stop_at L m x hx
   exact ⟨k, m, h1, by omega, h3, rfl⟩
theorem plS_rise (s : ByteArray) : (plS s).Pairwise fun x y => x.nxt.sg < y.nxt.sg ∧ x.fin.ce ≤ y.fin.ce := by
 unfold plS
 rw [partsL_len]
 refine (stops_two (partsL s) ((clusters s).length + 1)).imp ?_
 rintro x y ⟨a, b, h1, h2, rfl, rfl⟩
 refine ⟨?_, fin_le (rise_of s) a b _ _ h1 (by omega)⟩
 have := sg_lt s a (b - a - 1) (by omega)
 rwa [show a + (b - a - 1) + 1 = b by omega] at this
theorem stopsW_rise (s : ByteArray) : RiseS (stopsW s) := by
 rw [stopsW_eq]
 intro i j x y hij hx hy
 have hp := List.pairwise_iff_getElem.1 (plS_rise s)
 have hj := (List.getElem?_eq_some_iff.1 hy).1
 rw [List.length_append, List.length_singleton] at hj
 have hi : i < (plS s).length := by omega
 rw [List.getElem?_append_left hi] at hx
 obtain ⟨_, ex⟩ := List.getElem?_eq_some_iff.1 hx
 by_cases hjl : j < (plS s).length
 ·rw [List.getElem?_append_left hjl] at hy
  obtain ⟨_, ey⟩ := List.getElem?_eq_some_iff.1 hy
  have := hp i j hi hjl hij
  rw [ex, ey] at this
  exact ⟨.inl this.1, this.2⟩
 ·obtain rfl : j = (plS s).length := by omega
  rw [List.getElem?_append_right (Nat.le_refl _), Nat.sub_self] at hy
  obtain rfl : fnS s = y := by simpa using hy
  obtain ⟨k, k1, k2, k3, rfl⟩ := stop_at _ _ x (List.mem_of_getElem? hx)
  rw [partsL_len] at k2
  have hR := rise_of s
  have ef : fnS s = stpAt (partsL s) (clusters s).length 0 := by unfold fnS; rw [partsL_len, Nat.add_sub_cancel]
  rw [ef]
  by_cases hk : k < (clusters s).length
  ·refine ⟨.inl ?_, fin_le hR k _ _ _ hk (Nat.le_refl _)⟩
   have := sg_lt s k ((clusters s).length - k - 1) (by omega)
   rwa [show k + ((clusters s).length - k - 1) + 1 = (clusters s).length by omega] at this
  ·obtain rfl : k = (clusters s).length := by omega
   have h1 : kindL (partsL s) (clusters s).length = 1 := by
    have h6 := hR.fin
    apply Classical.byContradiction
    intro hne
    apply k3
    unfold kindL kindI
    have e1 : ((partsL s).getD ((clusters s).length - 1) pt0).cl ≠ 1 := kindL_hard _ _ hne
    exact (if_neg e1).trans (if_pos (.inr (.inr h6)))
   refine ⟨.inr (.inl h1), ?_⟩
   have h2 := strip_mono (partsL s) (stopE (kindL (partsL s) (clusters s).length) (clusters s).length) ((clusters s).length - stopE (kindL (partsL s) (clusters s).length) (clusters s).length)
   have h3 : stopE (kindL (partsL s) (clusters s).length) (clusters s).length ≤ (clusters s).length := by unfold stopE; split <;> omega
   rw [show stopE (kindL (partsL s) (clusters s).length) (clusters s).length + ((clusters s).length - stopE (kindL (partsL s) (clusters s).length) (clusters s).length) = (clusters s).length by omega] at h2
   have h4 : stopE 0 (clusters s).length = (clusters s).length := rfl
   show ((partsL s).getD (stripB (partsL s) (stopE _ _)) pt0).ce ≤ ((partsL s).getD (stripB (partsL s) (stopE 0 _)) pt0).ce
   rw [h4]
   exact hR.le h2 (stripB_le _ _)
theorem SubK.snoc {V S : List St} (h : SubK V S) (z : St) : SubK (V ++ [z]) (S ++ [z]) := h.append (.take z _ _ .nil)
theorem best_all (s : ByteArray) (hs : s.size ≤ 4096) (wd : Int) (hw : 2 ≤ wd ∧ wd ≤ 200) (way : List St) (x : St) (hway : wrapW s wd = way ++ [x]) :
  x = fnS s ∧ SubK way (plS s) ∧ fitsW wd 0 (way ++ [fnS s]) = true ∧ ∀ V, SubK V (plS s) → fitsW wd 0 (V ++ [fnS s]) = true →
   LEk (costW wd 0 (way ++ [fnS s])) (way ++ [fnS s]).length (costW wd 0 (V ++ [fnS s])) (V ++ [fnS s]).length ∧ (costW wd 0 (way ++ [fnS s]) = costW wd 0 (V ++ [fnS s]) ∧ ((way ++ [fnS s]).length : Int) = (V ++ [fnS s]).length → LexOk (way ++ [fnS s]) (V ++ [fnS s])) := by
 obtain ⟨hS, hl, hl1, _⟩ := wrapW_all s hs wd hw
 have hF : FitsT wd 0 (stopsW s) := fits_all (rise_of s) wd hw.1
 have hz : (fnS s).kind = 1 ∨ (fnS s).kind = 0 := .inr rfl
 obtain ⟨W, w1, w2, w3, w4⟩ := opt_paras wd ⟨by omega, by omega⟩ (stopsW s) [] [] 0 0 (fnS s) (fun z hz => by simp at hz) (fun _ => rfl) (fun _ => by rw [stopsW_eq, List.getLast?_concat]) hz ⟨by decide, by decide⟩ hS hF hl (stopsW_rise s)
 have ew : wrapW s wd = W := w1
 have eb : (bgP []).ce = 0 := rfl
 rw [eb] at w2 w4
 rw [List.nil_append, stopsW_eq] at w3 w4
 obtain ⟨V1, V2, e1, e2, e3⟩ := w3.split hz
 cases e3 with
 | nil =>
  rw [← ew, hway] at e1
  have e4 : way = V1 ∧ x = fnS s := by
   have := List.append_inj' e1 rfl
   exact ⟨this.1, by simpa using this.2⟩
  obtain ⟨rfl, rfl⟩ := e4
  rw [← ew, hway] at w2 w4
  exact ⟨rfl, e2, w2, fun V hV hf => w4 _ (hV.snoc _) hf⟩
end Go.Proofs.YtlkgnheccoodpaaGreatDoor
namespace Go.Proofs.YtlkgnheccoodpaaGreatDoor
structure Be where
 bad : Int
 cnt : Int
 nxt : Nat
def be0 : Be := ⟨0, 0, 0⟩
def lessE (a b : Be) : Bool := if a.bad = b.bad then decide (a.cnt < b.cnt) else decide (a.bad < b.bad)
theorem lessE_iff (a b : Be) : lessE a b = true ↔ LTk a.bad a.cnt b.bad b.cnt := by
 unfold lessE LTk
 by_cases h : a.bad = b.bad
 ·rw [if_pos h]
  simp
  omega
 ·rw [if_neg h]
  simp
  omega
def updE : Option Be → Be → Option Be
 | none, x => some x
 | some y, x => if lessE x y = true then some x else some y
theorem upd_spec : ∀ (l : List Be) (b : Option Be),
  (l.foldl updE b = b ∨ ∃ p x q, l = p ++ x :: q ∧ l.foldl updE b = some x ∧ (∀ y ∈ p, LTk x.bad x.cnt y.bad y.cnt) ∧ ∀ y, b = some y → LTk x.bad x.cnt y.bad y.cnt) ∧
  ∀ y, (b = some y ∨ y ∈ l) → ∃ r, l.foldl updE b = some r ∧ LEk r.bad r.cnt y.bad y.cnt
 | [], b => ⟨.inl rfl, fun y h => by
   rcases h with h | h
   ·exact ⟨y, h, .inr ⟨rfl, Int.le_refl _⟩⟩
   ·simp at h⟩
 | a :: l, b => by
  have ih := upd_spec l (updE b a)
  rw [List.foldl_cons]
  generalize hb' : updE b a = b' at *
  obtain ⟨h1, h2⟩ := ih
  cases b with
  | none =>
   obtain rfl : some a = b' := hb'
   refine ⟨.inr ?_, fun y h => ?_⟩
   ·rcases h1 with h1 | ⟨p, x, q, e, h3, h4, h5⟩
    ·exact ⟨[], a, l, rfl, h1, fun y hy => by simp at hy, fun y e => by cases e⟩
    ·refine ⟨a :: p, x, q, by rw [e]; rfl, h3, fun y hy => ?_, fun y e => by cases e⟩
     rcases List.mem_cons.1 hy with rfl | hy
     ·exact h5 _ rfl
     ·exact h4 y hy
   ·rcases h with h | h
    ·cases h
    ·rcases List.mem_cons.1 h with rfl | h
     ·exact h2 _ (.inl rfl)
     ·exact h2 y (.inr h)
  | some y0 =>
   have hb2 : (if lessE a y0 = true then some a else some y0) = b' := hb'
   by_cases hl : lessE a y0 = true
   ·rw [if_pos hl] at hb2
    subst hb2
    have hlt := (lessE_iff _ _).1 hl
    refine ⟨.inr ?_, fun y h => ?_⟩
    ·rcases h1 with h1 | ⟨p, x, q, e, h3, h4, h5⟩
     ·exact ⟨[], a, l, rfl, h1, fun y hy => by simp at hy, fun y e => by obtain rfl := Option.some.inj e; exact hlt⟩
     ·have hxa := h5 _ rfl
      refine ⟨a :: p, x, q, by rw [e]; rfl, h3, fun y hy => ?_, fun y e => ?_⟩
      ·rcases List.mem_cons.1 hy with rfl | hy
       ·exact hxa
       ·exact h4 y hy
      ·obtain rfl := Option.some.inj e
       unfold LTk at hxa hlt ⊢
       omega
    ·obtain ⟨r, hr, hle⟩ := h2 a (.inl rfl)
     rcases h with h | h
     ·obtain rfl := Option.some.inj h
      refine ⟨r, hr, ?_⟩
      unfold LEk at hle ⊢
      unfold LTk at hlt
      omega
     ·rcases List.mem_cons.1 h with rfl | h
      ·exact ⟨r, hr, hle⟩
      ·exact h2 y (.inr h)
   ·rw [if_neg hl] at hb2
    subst hb2
    rw [lessE_iff] at hl
    refine ⟨?_, fun y h => ?_⟩
    ·rcases h1 with h1 | ⟨p, x, q, e, h3, h4, h5⟩
     ·exact .inl h1
     ·have hxy := h5 _ rfl
      refine .inr ⟨a :: p, x, q, by rw [e]; rfl, h3, fun y hy => ?_, h5⟩
      rcases List.mem_cons.1 hy with rfl | hy
      ·unfold LTk at hl hxy ⊢
       omega
      ·exact h4 y hy
    ·obtain ⟨r, hr, hle⟩ := h2 y0 (.inl rfl)
     rcases h with h | h
     ·obtain rfl := Option.some.inj h
      exact ⟨r, hr, hle⟩
     ·rcases List.mem_cons.1 h with rfl | h
      ·refine ⟨r, hr, ?_⟩
       unfold LEk at hle ⊢
       unfold LTk at hl
       omega
      ·exact h2 y (.inr h)
structure Tb where
 k : Nat → Int
 wl : Nat → Nat → Int
 wd : Int
 n : Nat
 en : Bool
def plC (D : Tb) (T : Nat → Be) (fr t : Nat) : Be := ⟨(D.wd - D.wl fr t) * (D.wd - D.wl fr t) + (T t).bad + (if D.k t = 3 then 1048576 else 0), 1 + (T t).cnt, t⟩
def fnC (D : Tb) (fr : Nat) : Be := ⟨(D.wd - D.wl fr D.n) * (D.wd - D.wl fr D.n), 0, 0⟩
def candGo (D : Tb) (T : Nat → Be) (fr : Nat) : Nat → Nat → List Be
 | 0, _ => []
 | f + 1, t => if D.wd < D.wl fr t then [] else (if fr < t ∧ 0 < D.k t then [plC D T fr t] else []) ++ ((if t = D.n ∧ (D.n = fr ∨ D.en = false) then [fnC D fr] else []) ++ (if fr < t ∧ D.k t = 1 then [] else candGo D T fr f (t + 1)))
theorem cand_congr (D : Tb) (T T' : Nat → Be) (fr : Nat) (h : ∀ t, fr < t → t ≤ D.n → T t = T' t) : ∀ f t, f + t = D.n + 1 → candGo D T fr f t = candGo D T' fr f t
 | 0, _, _ => rfl
 | f + 1, t, e => by
  have ih := cand_congr D T T' fr h f (t + 1) (by omega)
  unfold candGo
  rw [ih]
  by_cases h1 : fr < t
  ·have : plC D T fr t = plC D T' fr t := by unfold plC; rw [h t h1 (by omega)]
   rw [this]
  ·rw [if_neg (show ¬ (fr < t ∧ 0 < D.k t) from fun x => h1 x.1), if_neg (show ¬ (fr < t ∧ 0 < D.k t) from fun x => h1 x.1)]
def rowT (D : Tb) : Nat → List Be
 | 0 => []
 | m + 1 => ((candGo D (fun t => (rowT D m).getD (t - (D.n - m) - 1) be0) (D.n - m) (m + 1) (D.n - m)).foldl updE none).getD be0 :: rowT D m
theorem rowT_len (D : Tb) : ∀ m, (rowT D m).length = m
 | 0 => rfl
 | m + 1 => by rw [rowT, List.length_cons, rowT_len D m]
theorem rowT_drop (D : Tb) : ∀ j m, (rowT D (m + j)).drop j = rowT D m
 | 0, m => by rw [Nat.add_zero, List.drop_zero]
 | j + 1, m => by
  rw [show m + (j + 1) = (m + j) + 1 by omega, rowT, List.drop_succ_cons]
  exact rowT_drop D j m
def tabE (D : Tb) (t : Nat) : Be := (rowT D (D.n + 1)).getD t be0
theorem tabE_row (D : Tb) (m t : Nat) (h : m + t = D.n + 1) (i : Nat) : (rowT D m).getD i be0 = tabE D (t + i) := by
 have := rowT_drop D t m
 rw [h] at this
 unfold tabE
 rw [← this, List.getD, List.getD, List.getElem?_drop]
theorem tabE_eq (D : Tb) (fr : Nat) (h : fr ≤ D.n) : tabE D fr = ((candGo D (tabE D) fr (D.n + 1 - fr) fr).foldl updE none).getD be0 := by
 have h0 : (rowT D (D.n - fr + 1)).getD 0 be0 = tabE D fr := tabE_row D (D.n - fr + 1) fr (by omega) 0
 rw [← h0, rowT]
 rw [show D.n - (D.n - fr) = fr by omega, show D.n - fr + 1 = D.n + 1 - fr by omega]
 show (List.foldl updE none _).getD be0 = (List.foldl updE none _).getD be0
 congr 2
 refine cand_congr D _ _ fr (fun t h1 h2 => ?_) (D.n + 1 - fr) fr (by omega)
 have := tabE_row D (D.n - fr) (fr + 1) (by omega) (t - fr - 1)
 rw [show fr + 1 + (t - fr - 1) = t by omega] at this
 exact this
inductive Rd (D : Tb) : Nat → List Nat → Prop
 | nil (fr : Nat) : (∀ j, fr < j → j ≤ D.n → D.k j ≠ 1) → Rd D fr []
 | cons (fr t : Nat) (ws : List Nat) : fr < t → t ≤ D.n → 0 < D.k t → (∀ j, fr < j → j < t → D.k j ≠ 1) → Rd D t ws → Rd D fr (t :: ws)
def cstE (D : Tb) : Nat → List Nat → Option Int
 | fr, [] => if D.wd < D.wl fr D.n then none else some ((D.wd - D.wl fr D.n) * (D.wd - D.wl fr D.n))
 | fr, t :: ws => if D.wd < D.wl fr t then none else (cstE D t ws).map (fun r => (D.wd - D.wl fr t) * (D.wd - D.wl fr t) + (if D.k t = 3 then 1048576 else 0) + r)
def LexN : List Nat → List Nat → Prop
 | x :: W, y :: V => (x = y ∧ LexN W V) ∨ x < y
 | _, _ => True
def Fol (D : Tb) : Be → List Nat → Prop
 | b, [] => b.nxt = 0
 | b, t :: ws => b.nxt = t ∧ 0 < t ∧ Fol D (tabE D t) ws
theorem cand_mem (D : Tb) (T : Nat → Be) (fr : Nat) (x : Be) : ∀ f t0, f + t0 = D.n + 1 → fr ≤ t0 → x ∈ candGo D T fr f t0 →
  (∃ t, t0 ≤ t ∧ t ≤ D.n ∧ fr < t ∧ 0 < D.k t ∧ D.wl fr t ≤ D.wd ∧ (∀ j, t0 ≤ j → fr < j → j < t → D.k j ≠ 1) ∧ x = plC D T fr t) ∨
  (x = fnC D fr ∧ D.wl fr D.n ≤ D.wd ∧ (D.n = fr ∨ D.en = false) ∧ ∀ j, t0 ≤ j → fr < j → j < D.n → D.k j ≠ 1)
 | 0, _, _, _, h => by simp [candGo] at h
 | f + 1, t0, e, hf, h => by
  unfold candGo at h
  by_cases hw : D.wd < D.wl fr t0
  ·rw [if_pos hw] at h
   simp at h
  ·rw [if_neg hw, List.mem_append, List.mem_append] at h
   rcases h with h | h | h
   ·split at h
    ·rename_i hc
     obtain rfl := List.mem_singleton.1 h
     exact .inl ⟨t0, Nat.le_refl _, by omega, hc.1, hc.2, by omega, fun j _ _ _ => by omega, rfl⟩
    ·simp at h
   ·split at h
    ·rename_i hc
     obtain rfl := List.mem_singleton.1 h
     exact .inr ⟨rfl, by rw [← hc.1]; omega, hc.2, fun j _ _ _ => by omega⟩
    ·simp at h
   ·split at h
    ·simp at h
    ·rename_i hc
     rcases cand_mem D T fr x f (t0 + 1) (by omega) (by omega) h with ⟨t, a1, a2, a3, a4, a5, a6, a7⟩ | ⟨b1, b2, b3, b4⟩
     ·refine .inl ⟨t, by omega, a2, a3, a4, a5, fun j j1 j2 j3 => ?_, a7⟩
      by_cases hj : j = t0
      ·subst hj
       exact fun e => hc ⟨j2, e⟩
      ·exact a6 j (by omega) j2 j3
     ·refine .inr ⟨b1, b2, b3, fun j j1 j2 j3 => ?_⟩
      by_cases hj : j = t0
      ·subst hj
       exact fun e => hc ⟨j2, e⟩
      ·exact b4 j (by omega) j2 j3
theorem cand_in (D : Tb) (T : Nat → Be) (fr t : Nat) (h1 : t ≤ D.n) (h2 : fr < t) (h3 : 0 < D.k t) : ∀ f t0, f + t0 = D.n + 1 → fr ≤ t0 → t0 ≤ t → (∀ j, t0 ≤ j → j ≤ t → D.wl fr j ≤ D.wd) → (∀ j, t0 ≤ j → fr < j → j < t → D.k j ≠ 1) → plC D T fr t ∈ candGo D T fr f t0
 | 0, t0, e, _, h, _, _ => by omega
 | f + 1, t0, e, hf, h, hw, hk => by
  unfold candGo
  rw [if_neg (by have := hw t0 (Nat.le_refl _) h; omega), List.mem_append, List.mem_append]
  by_cases hc : t0 = t
  ·subst hc
   rw [if_pos ⟨h2, h3⟩]
   exact .inl (List.mem_singleton.2 rfl)
  ·refine .inr (.inr ?_)
   rw [if_neg (fun x => hk t0 (Nat.le_refl _) x.1 (by omega) x.2)]
   exact cand_in D T fr t h1 h2 h3 f (t0 + 1) (by omega) (by omega) (by omega) (fun j a b => hw j (by omega) b) (fun j a b c => hk j (by omega) b c)
theorem cand_fin (D : Tb) (T : Nat → Be) (fr : Nat) (h2 : D.n = fr ∨ D.en = false) : ∀ f t0, f + t0 = D.n + 1 → fr ≤ t0 → t0 ≤ D.n → (∀ j, t0 ≤ j → j ≤ D.n → D.wl fr j ≤ D.wd) → (∀ j, t0 ≤ j → fr < j → j < D.n → D.k j ≠ 1) → fnC D fr ∈ candGo D T fr f t0
 | 0, t0, e, _, h, _, _ => by omega
 | f + 1, t0, e, hf, h, hw, hk => by
  unfold candGo
  rw [if_neg (by have := hw t0 (Nat.le_refl _) h; omega), List.mem_append, List.mem_append]
  by_cases hc : t0 = D.n
  ·rw [if_pos (show t0 = D.n ∧ (D.n = fr ∨ D.en = false) from ⟨hc, h2⟩)]
   exact .inr (.inl (List.mem_singleton.2 rfl))
  ·refine .inr (.inr ?_)
   rw [if_neg (fun x => hk t0 (Nat.le_refl _) x.1 (by omega) x.2)]
   exact cand_fin D T fr h2 f (t0 + 1) (by omega) (by omega) (by omega) (fun j a b => hw j (by omega) b) (fun j a b c => hk j (by omega) b c)
theorem cand_rise (D : Tb) (T : Nat → Be) (fr : Nat) : ∀ f t0, f + t0 = D.n + 1 → fr ≤ t0 → (candGo D T fr f t0).Pairwise (fun x y => x.nxt < y.nxt ∨ y.nxt = 0)
 | 0, _, _, _ => .nil
 | f + 1, t0, e, hf => by
  have ih := cand_rise D T fr f (t0 + 1) (by omega) (by omega)
  have hmem := fun x => cand_mem D T fr x f (t0 + 1) (by omega) (by omega)
  have low : ∀ y ∈ candGo D T fr f (t0 + 1), t0 < y.nxt ∨ y.nxt = 0 := fun y hy => by
   rcases hmem y hy with ⟨t, a1, _, _, _, _, _, rfl⟩ | ⟨rfl, _⟩
   ·exact .inl (show t0 < t by omega)
   ·exact .inr rfl
  unfold candGo
  by_cases hw : D.wd < D.wl fr t0
  ·rw [if_pos hw]
   exact .nil
  ·rw [if_neg hw]
   have two : ((if t0 = D.n ∧ (D.n = fr ∨ D.en = false) then [fnC D fr] else []) ++ (if fr < t0 ∧ D.k t0 = 1 then [] else candGo D T fr f (t0 + 1))).Pairwise (fun x y => x.nxt < y.nxt ∨ y.nxt = 0) := by
    refine List.pairwise_append.2 ⟨?_, ?_, ?_⟩
    ·split
     ·exact List.pairwise_singleton _ _
     ·exact .nil
    ·split
     ·exact .nil
     ·exact ih
    ·intro x hx y hy
     split at hx
     ·rename_i hc
      split at hy
      ·simp at hy
      ·obtain rfl : f = 0 := by omega
       simp [candGo] at hy
     ·simp at hx
   refine List.pairwise_append.2 ⟨?_, two, ?_⟩
   ·split
    ·exact List.pairwise_singleton _ _
    ·exact .nil
   ·intro x hx y hy
    split at hx
    ·obtain rfl := List.mem_singleton.1 hx
     rcases List.mem_append.1 hy with hy | hy
     ·split at hy
      ·obtain rfl := List.mem_singleton.1 hy
       exact .inr rfl
      ·simp at hy
     ·split at hy
      ·simp at hy
      ·exact low y hy
    ·simp at hx
def OptE (D : Tb) (fr : Nat) (ws : List Nat) : Prop := Rd D fr ws ∧ cstE D fr ws = some (tabE D fr).bad ∧ (ws.length : Int) = (tabE D fr).cnt ∧ Fol D (tabE D fr) ws ∧
 ∀ vs c, Rd D fr vs → cstE D fr vs = some c → LEk (tabE D fr).bad (tabE D fr).cnt c vs.length ∧ ((tabE D fr).bad = c ∧ (tabE D fr).cnt = (vs.length : Int) → LexN ws vs)
theorem opt_step (D : Tb) (fr : Nat) (hfn : fr ≤ D.n) (hmono : ∀ a b, fr ≤ a → a ≤ b → b ≤ D.n → D.wl fr a ≤ D.wl fr b)
  (hex : ∃ vs c, Rd D fr vs ∧ cstE D fr vs = some c) (hen : 0 < D.n → (D.k D.n = 1 ↔ D.en = true)) (ih : ∀ t, fr < t → t ≤ D.n → 0 < D.k t → ∃ ws, OptE D t ws) : ∃ ws, OptE D fr ws := by
 have hT := tabE_eq D fr hfn
 obtain ⟨u1, u2⟩ := upd_spec (candGo D (tabE D) fr (D.n + 1 - fr) fr) none
 have hmem := fun x => cand_mem D (tabE D) fr x (D.n + 1 - fr) fr (by omega) (Nat.le_refl _)
 have hri := cand_rise D (tabE D) fr (D.n + 1 - fr) fr (by omega) (Nat.le_refl _)
 have row : ∀ vs c, Rd D fr vs → cstE D fr vs = some c → ∃ y ∈ candGo D (tabE D) fr (D.n + 1 - fr) fr, LEk y.bad y.cnt c vs.length ∧
   ((vs = [] ∧ y = fnC D fr) ∨ ∃ t vs' c', vs = t :: vs' ∧ fr < t ∧ t ≤ D.n ∧ 0 < D.k t ∧ y = plC D (tabE D) fr t ∧ Rd D t vs' ∧ cstE D t vs' = some c' ∧ c = (D.wd - D.wl fr t) * (D.wd - D.wl fr t) + (if D.k t = 3 then 1048576 else 0) + c') := by
  intro vs c hR hc
  cases hR with
  | nil _ hk =>
   unfold cstE at hc
   by_cases hw : D.wd < D.wl fr D.n
   ·rw [if_pos hw] at hc
    cases hc
   ·rw [if_neg hw] at hc
    obtain rfl := Option.some.inj hc
    have hl : D.n = fr ∨ D.en = false := by
     by_cases h : D.n = fr
     ·exact .inl h
     ·refine .inr ?_
      have h1 := hk D.n (by omega) (Nat.le_refl _)
      have h2 := hen (by omega)
      cases hb : D.en with
      | false => rfl
      | true => exact absurd (h2.2 hb) h1
    refine ⟨fnC D fr, cand_fin D _ fr hl _ _ (by omega) (Nat.le_refl _) hfn (fun j a b => by have := hmono j D.n a b (Nat.le_refl _); omega) (fun j a b c => hk j b (by omega)), .inr ⟨rfl, Int.le_refl _⟩, .inl ⟨rfl, rfl⟩⟩
  | cons _ t vs' h1 h2 h3 h4 h5 =>
   unfold cstE at hc
   by_cases hw : D.wd < D.wl fr t
   ·rw [if_pos hw] at hc
    cases hc
   ·rw [if_neg hw] at hc
    obtain ⟨c', e1, e2⟩ := Option.map_eq_some_iff.1 hc
    obtain ⟨wt, o1, o2, o3, o4, o5⟩ := ih t h1 h2 h3
    obtain ⟨g1, _⟩ := o5 vs' c' h5 e1
    refine ⟨plC D (tabE D) fr t, cand_in D _ fr t h2 h1 h3 _ _ (by omega) (Nat.le_refl _) (by omega) (fun j a b => by have := hmono j t a b h2; omega) (fun j a b c => h4 j b c), ?_, .inr ⟨t, vs', c', rfl, h1, h2, h3, rfl, h5, e1, e2.symm⟩⟩
    show LEk ((D.wd - D.wl fr t) * (D.wd - D.wl fr t) + (tabE D t).bad + (if D.k t = 3 then 1048576 else 0)) (1 + (tabE D t).cnt) c ((vs'.length + 1 : Nat) : Int)
    unfold LEk at g1 ⊢
    generalize (D.wd - D.wl fr t) * (D.wd - D.wl fr t) = sq at *
    generalize (if D.k t = 3 then (1048576 : Int) else 0) = ct at *
    omega
 generalize candGo D (tabE D) fr (D.n + 1 - fr) fr = l at *
 obtain ⟨v0, c0, hv0, hc0⟩ := hex
 obtain ⟨y0, hy0, _⟩ := row v0 c0 hv0 hc0
 rcases u1 with u1 | ⟨p, x, q, el, ex, xp, _⟩
 ·obtain ⟨r, hr, _⟩ := u2 y0 (.inr hy0)
  rw [u1] at hr
  cases hr
 rw [ex] at hT u2
 have hT : tabE D fr = x := hT
 have hxl : x ∈ l := by rw [el]; simp
 have best : ∀ vs c, Rd D fr vs → cstE D fr vs = some c → LEk x.bad x.cnt c vs.length := fun vs c hR hc => by
  obtain ⟨y, hy, h1, _⟩ := row vs c hR hc
  obtain ⟨r, hr, h2⟩ := u2 y (.inr hy)
  obtain rfl := Option.some.inj hr
  unfold LEk at h1 h2 ⊢
  omega
 have tie : ∀ y ∈ l, LEk y.bad y.cnt x.bad x.cnt → y = x ∨ x.nxt < y.nxt ∨ y.nxt = 0 := fun y hy hle => by
  rw [el] at hy hri
  rcases List.mem_append.1 hy with hy | hy
  ·have := xp y hy
   unfold LTk at this
   unfold LEk at hle
   omega
  ·rcases List.mem_cons.1 hy with hy | hy
   ·exact .inl hy
   ·exact .inr ((List.pairwise_cons.1 (List.pairwise_append.1 hri).2.1).1 y hy)
 rcases hmem x hxl with ⟨t, a1, a2, a3, a4, a5, a6, a7⟩ | ⟨b1, b2, b3, b4⟩
 ·obtain ⟨wt, o1, o2, o3, o4, o5⟩ := ih t a3 a2 a4
  have xb : x.bad = (D.wd - D.wl fr t) * (D.wd - D.wl fr t) + (tabE D t).bad + (if D.k t = 3 then 1048576 else 0) := by rw [a7]; rfl
  have xc : x.cnt = 1 + (tabE D t).cnt := by rw [a7]; rfl
  have xn : x.nxt = t := by rw [a7]; rfl
  refine ⟨t :: wt, .cons fr t wt a3 a2 a4 (fun j j1 j2 => a6 j (by omega) j1 j2) o1, ?_, ?_, ?_, fun vs c hR hc => ?_⟩
  ·unfold cstE
   rw [if_neg (by omega), o2, hT, xb]
   show some ((D.wd - D.wl fr t) * (D.wd - D.wl fr t) + (if D.k t = 3 then 1048576 else 0) + (tabE D t).bad) = some _
   congr 1
   omega
  ·rw [hT, xc, ← o3, List.length_cons]
   omega
  ·rw [hT]
   exact ⟨xn, by omega, o4⟩
  ·rw [hT]
   refine ⟨best vs c hR hc, fun heq => ?_⟩
   obtain ⟨y, hy, h1, h2⟩ := row vs c hR hc
   have hyx : LEk y.bad y.cnt x.bad x.cnt := by
    unfold LEk at h1 ⊢
    omega
   obtain ⟨r, hr, h3⟩ := u2 y (.inr hy)
   obtain rfl := Option.some.inj hr
   rcases h2 with ⟨rfl, _⟩ | ⟨t', vs', c', rfl, g1, g2, g3, g4, g5, g6, g7⟩
   ·exact trivial
   ·have yn : y.nxt = t' := by rw [g4]; rfl
    by_cases htt : t = t'
    ·subst htt
     refine .inl ⟨rfl, ?_⟩
     refine (o5 vs' c' g5 g6).2 ?_
     have hl : (((t :: vs').length : Nat) : Int) = (vs'.length : Int) + 1 := by simp
     rw [hl] at heq
     generalize (D.wd - D.wl fr t) * (D.wd - D.wl fr t) = sq at *
     generalize (if D.k t = 3 then (1048576 : Int) else 0) = ct at *
     omega
    ·rcases tie y hy hyx with h | h | h
     ·exact absurd (by rw [← xn, ← yn, h]) htt
     ·exact .inr (by omega)
     ·omega
 ·have xb : x.bad = (D.wd - D.wl fr D.n) * (D.wd - D.wl fr D.n) := by rw [b1]; rfl
  have xc : x.cnt = 0 := by rw [b1]; rfl
  have xn : x.nxt = 0 := by rw [b1]; rfl
  have hk : ∀ j, fr < j → j ≤ D.n → D.k j ≠ 1 := fun j j1 j2 => by
   by_cases hj : j = D.n
   ·subst hj
    intro e
    have := (hen (by omega)).1 e
    rcases b3 with b3 | b3
    ·omega
    ·rw [b3] at this
     cases this
   ·exact b4 j (by omega) j1 (by omega)
  refine ⟨[], .nil fr hk, ?_, ?_, ?_, fun vs c hR hc => ?_⟩
  ·unfold cstE
   rw [if_neg (by omega), hT, xb]
  ·rw [hT, xc]
   rfl
  ·rw [hT]
   exact xn
  ·rw [hT]
   exact ⟨best vs c hR hc, fun _ => trivial⟩
theorem opt_tab (D : Tb) (hmono : ∀ fr a b, (fr = 0 ∨ 0 < D.k fr) → fr ≤ a → a ≤ b → b ≤ D.n → D.wl fr a ≤ D.wl fr b)
  (hex : ∀ fr, (fr = 0 ∨ 0 < D.k fr) → fr ≤ D.n → ∃ vs c, Rd D fr vs ∧ cstE D fr vs = some c) (hen : 0 < D.n → (D.k D.n = 1 ↔ D.en = true)) :
  ∀ m fr, D.n - fr ≤ m → fr ≤ D.n → (fr = 0 ∨ 0 < D.k fr) → ∃ ws, OptE D fr ws
 | 0, fr, hm, hfn, hst => opt_step D fr hfn (fun a b => hmono fr a b hst) (hex fr hst hfn) hen (fun t h1 h2 _ => by omega)
 | m + 1, fr, hm, hfn, hst => opt_step D fr hfn (fun a b => hmono fr a b hst) (hex fr hst hfn) hen (fun t h1 h2 h3 => opt_tab D hmono hex hen m t (by omega) h2 (.inr h3))
end Go.Proofs.YtlkgnheccoodpaaGreatDoor
