/- Several texts, one behind the other. -/
import Derived.Test.YtbiodfeanngkdaaDoorGL
/- What the signs of a spliced text look like (P0708, P0712, P0713), as mathematics. -/
namespace Go.Proofs.YtbiodfeanngkdaaDoor
open Go.RowKit Go.Shelf

/-- Where a span lies around a hole. -/
def beK (f t m a : Int) : Int := if t ≤ a then a - t + f + m else if a ≤ f then a else f + m
def enK (f t m a : Int) : Int := if a ≤ f then a else if t ≤ a then a - t + f + m else f
def arS (f t m : Int) (x : Sp) : Sp := ⟨beK f t m x.fr, enK f t m x.tt, x.kd, x.vl⟩
theorem be_eq {f t m a : Int} (h1 : 0 ≤ f ∧ f ≤ t ∧ t ≤ 1000000) (h2 : 0 ≤ m ∧ m ≤ 1000000) (h3 : 0 ≤ a ∧ a ≤ 1000000) : begI f t m a = beK f t m a ∧ endI f t m a = enK f t m a := by
  have w : ∀ z : Int, -9000000 ≤ z ∧ z ≤ 9000000 → IntKind.i64.wrap z = z := fun z hz => IntWalk.i64_in _ ⟨by omega, by omega⟩
  unfold begI endI beK enK
  rw [w (a - t) (by omega), w (a - t + f) (by omega), w (a - t + f + m) (by omega), w (f + m) (by omega)]
  exact ⟨rfl, rfl⟩
theorem around_ar {f t m n : Int} (h1 : 0 ≤ f ∧ f ≤ t ∧ t ≤ 1000000) (h2 : 0 ≤ m ∧ m ≤ 1000000) (hn : n ≤ 1000000) : ∀ (L : List Sp), (∀ x ∈ L, 0 ≤ x.fr ∧ x.fr < x.tt ∧ x.tt ≤ n) → aroundM f t m L = (L.map (arS f t m)).filter fulS := by
  intro L hL
  unfold aroundM fulS
  congr 1
  refine List.map_congr_left fun x hx => ?_
  have := hL x hx
  obtain ⟨e1, _⟩ := be_eq (a := x.fr) h1 h2 (by omega)
  obtain ⟨_, e2⟩ := be_eq (a := x.tt) h1 h2 (by omega)
  unfold arS
  rw [e1, e2]
/-- The three parts of the signs. -/
theorem ar_kin1 {f t m k c : Int} (h1 : 0 ≤ f ∧ f ≤ t) (h2 : 0 ≤ m) (hk : k < f) (x : Sp) : kinB k c (arS f t m x) = kinB k c x := by
  unfold kinB covB arS beK enK
  simp only
  congr 1
  rw [decide_eq_decide]
  split <;> split <;> omega
theorem ar_kin2 {f t m k c : Int} (h1 : 0 ≤ f ∧ f ≤ t) (h2 : 0 ≤ m) (hk : t ≤ k) (x : Sp) (hx : x.fr < x.tt) : kinB (k - t + f + m) c (arS f t m x) = kinB k c x := by
  unfold kinB covB arS beK enK
  simp only
  congr 1
  rw [decide_eq_decide]
  split <;> split <;> omega
/-- Does a span reach over a part? -/
def ovB (f t c : Int) (x : Sp) : Bool := decide (x.fr < t ∧ x.fr ≤ f ∧ t ≤ x.tt ∧ f < x.tt) && decide (x.kd = c)
theorem ar_kin3 {f t m k c : Int} (_h1 : 0 ≤ f ∧ f ≤ t) (hk : f ≤ k ∧ k < f + m) (x : Sp) : kinB k c (arS f t m x) = ovB f t c x := by
  unfold kinB covB arS beK enK ovB
  simp only
  congr 1
  rw [decide_eq_decide]
  split <;> split <;> omega
theorem ar_filter {p q : Sp → Bool} {f t m : Int} (h : ∀ x, q (arS f t m x) = true → fulS (arS f t m x) = true) : ∀ (L : List Sp), (∀ x ∈ L, q (arS f t m x) = p x) → ((L.map (arS f t m)).filter fulS).filter q = (L.filter p).map (arS f t m)
  | [], _ => rfl
  | x :: L, hp => by
    have ih := ar_filter h L (fun y hy => hp y (List.mem_cons_of_mem _ hy))
    have hx := hp x (by simp)
    rw [List.map_cons, List.filter_cons, List.filter_cons]
    by_cases hk : p x = true
    · rw [hk] at hx
      rw [if_pos (h x hx), if_pos hk, List.filter_cons, if_pos hx, ih, List.map_cons]
    · have hx2 : ¬ q (arS f t m x) = true := by rw [hx]; exact hk
      rw [if_neg hk]
      by_cases hf : fulS (arS f t m x) = true
      · rw [if_pos hf, List.filter_cons, if_neg hx2, ih]
      · rw [if_neg hf, ih]
theorem kin_ful {k c : Int} {x : Sp} (h : kinB k c x = true) : fulS x = true := by
  unfold kinB covB at h
  simp at h
  unfold fulS
  simp
  omega
/-- The look that some of a row of spans give. -/
def lookP (p : Int → Sp → Bool) (L : List Sp) : At := ⟨L.any (p 1), L.any (p 2), L.any (p 3), L.any (p 4), colC ((L.filter (p 5)).getLast?)⟩
theorem look_P (L : List Sp) (k : Int) : lookF L k = lookP (kinB k) L := rfl
theorem ar_look {p : Int → Sp → Bool} {f t m k : Int} (L : List Sp) (hp : ∀ x ∈ L, ∀ c, kinB k c (arS f t m x) = p c x) : lookF ((L.map (arS f t m)).filter fulS) k = lookP p L := by
  have hf : ∀ c, ((L.map (arS f t m)).filter fulS).filter (kinB k c) = (L.filter (p c)).map (arS f t m) := fun c => ar_filter (fun x hx => kin_ful hx) L (fun x hx => hp x hx c)
  unfold lookF lookP
  simp only [any_filter, hf]
  simp only [List.isEmpty_map]
  congr 1
  rw [List.getLast?_map]
  cases (L.filter (p 5)).getLast? with
  | none => rfl
  | some x => rfl
theorem ar_mem {f t m : Int} {L : List Sp} {z : Sp} (h : z ∈ (L.map (arS f t m)).filter fulS) : ∃ x ∈ L, z = arS f t m x ∧ beK f t m x.fr < enK f t m x.tt := by
  obtain ⟨h1, h2⟩ := List.mem_filter.1 h
  obtain ⟨x, hx, rfl⟩ := List.mem_map.1 h1
  exact ⟨x, hx, rfl, of_decide_eq_true h2⟩
theorem ar_ok {n f t m : Int} {L : List Sp} (h1 : 0 ≤ f ∧ f ≤ t ∧ t ≤ n) (h2 : 0 ≤ m) (hL : OkL n L) : OkL (n - t + f + m) ((L.map (arS f t m)).filter fulS) := by
  refine ⟨fun z hz => ?_, fun z hz y hy hc => ?_⟩
  · obtain ⟨x, hx, rfl, hlt⟩ := ar_mem hz
    have := hL.1 x hx
    unfold arS
    simp only
    unfold beK enK at hlt ⊢
    split at hlt <;> split at hlt <;> (try split at hlt) <;> (try split) <;> (try split) <;> (try split) <;> omega
  · obtain ⟨x, hx, rfl, hlt⟩ := ar_mem hz
    obtain ⟨u, hu, rfl, hlu⟩ := ar_mem hy
    have fx := (hL.1 x hx).1
    have fu := (hL.1 u hu).1
    have hcc := hL.2 x hx u hu
    have mb : ∀ a b : Int, a ≤ b → beK f t m a ≤ beK f t m b := fun a b h => by unfold beK; split <;> split <;> (try split) <;> (try split) <;> omega
    have me : ∀ a b : Int, a ≤ b → enK f t m a ≤ enK f t m b := fun a b h => by unfold enK; split <;> split <;> (try split) <;> (try split) <;> omega
    have bn : ∀ a b : Int, a ≤ b → enK f t m a ≤ beK f t m b := fun a b h => by unfold beK enK; split <;> split <;> (try split) <;> (try split) <;> omega
    unfold crS arS at hc
    simp only at hc
    obtain ⟨c1, c2, c3, c4⟩ := hc
    apply hcc
    unfold crS
    refine ⟨?_, ?_, fun h => c3 ⟨mb _ _ h.1, me _ _ h.2⟩, fun h => c4 ⟨mb _ _ h.1, me _ _ h.2⟩⟩
    · by_cases q : x.fr < u.tt
      · exact q
      · have := bn u.tt x.fr (by omega)
        omega
    · by_cases q : u.fr < x.tt
      · exact q
      · have := bn x.tt u.fr (by omega)
        omega
theorem ar_srt {n f t m : Int} {L : List Sp} (_h1 : 0 ≤ f ∧ f ≤ t) (h2 : 0 ≤ m) (hL : OkL n L) (hs : Srt ltS L) : Srt ltS ((L.map (arS f t m)).filter fulS) := by
  have mb : ∀ a b : Int, a ≤ b → beK f t m a ≤ beK f t m b := fun a b h => by unfold beK; split <;> split <;> (try split) <;> (try split) <;> omega
  have me : ∀ a b : Int, a ≤ b → enK f t m a ≤ enK f t m b := fun a b h => by unfold enK; split <;> split <;> (try split) <;> (try split) <;> omega
  have bn : ∀ a b : Int, a ≤ b → enK f t m a ≤ beK f t m b := fun a b h => by unfold beK enK; split <;> split <;> (try split) <;> (try split) <;> omega
  have key : (L.map (arS f t m)).Pairwise fun x y => fulS x = true → fulS y = true → ltS y x = false := by
    rw [List.pairwise_map]
    have h9 : L.Pairwise fun x y => (x ∈ L ∧ y ∈ L) ∧ ltS y x = false := by
      have := List.pairwise_iff_getElem.1 hs
      exact List.pairwise_iff_getElem.2 fun i j hi hj hij => ⟨⟨List.getElem_mem hi, List.getElem_mem hj⟩, this i j hi hj hij⟩
    refine h9.imp fun {x y} h k1 k2 => ?_
    obtain ⟨⟨mx, my⟩, hl⟩ := h
    have k1 := of_decide_eq_true k1
    have k2 := of_decide_eq_true k2
    have fx := (hL.1 x mx).1
    have fy := (hL.1 y my).1
    have hc := hL.2 x mx y my
    have hl : ¬ (y.fr < x.fr ∨ (y.fr = x.fr ∧ x.tt < y.tt)) := fun h => by rw [(ltS_iff y x).2 h] at hl; cases hl
    unfold crS at hc
    have hm := mb x.fr y.fr (by omega)
    unfold arS at k1 k2 ⊢
    simp only at k1 k2
    cases hlt : ltS (⟨beK f t m y.fr, enK f t m y.tt, y.kd, y.vl⟩ : Sp) ⟨beK f t m x.fr, enK f t m x.tt, x.kd, x.vl⟩ with
    | false => rfl
    | true =>
      have h3 := (ltS_iff _ _).1 hlt
      simp only at h3
      by_cases q : y.tt ≤ x.tt
      · have := me y.tt x.tt q
        omega
      · have := bn x.tt y.fr (by omega)
        omega
  refine List.pairwise_iff_getElem.2 fun i j hi hj hij => ?_
  have h1 := key.filter fulS
  have h2 := List.pairwise_iff_getElem.1 h1 i j hi hj hij
  exact h2 (List.mem_filter.1 (List.getElem_mem hi)).2 (List.mem_filter.1 (List.getElem_mem hj)).2
/-- What the reference's way tells of spans around a hole. -/
theorem ar_fold {n f t m k : Int} {L : List Sp} (h1 : 0 ≤ f ∧ f ≤ t ∧ t ≤ n) (h2 : 0 ≤ m) (hL : OkL n L) (hs : Srt ltS L) : rfoldA ((L.map (arS f t m)).filter fulS) k = (lookF ((L.map (arS f t m)).filter fulS) k, (((L.map (arS f t m)).filter fulS).filter (kinB k 5)).getLast?) := by
  have hok := ar_ok h1 h2 hL
  have h9 := look_ref k _ (fun x hx => (hok.1 x hx).2) hok.2
  rwa [isort_id _ (ar_srt ⟨h1.1, h1.2.1⟩ h2 hL hs)] at h9
/-- One look over another. -/
def mixA (a e : At) (z : Bool) : At := ⟨a.b || e.b, a.i || e.i, a.u || e.u, a.s || e.s, if z then e.c else a.c⟩
theorem fold_over (k : Int) (a : At) (o : Option Sp) (E : List Sp) : (∀ x ∈ E, 1 ≤ x.kd ∧ x.kd ≤ 5) → (∀ x ∈ E, x.fr ≤ k ∧ k < x.tt → ∀ y, o = some y → inB x y = true) →
    E.foldl (rstep k) (a, o) = (mixA a (rfoldA E k).1 (rfoldA E k).2.isSome, (rfoldA E k).2.or o) := by
  induction E using snocI with
  | h0 => intro _ _; cases a; simp [mixA, rfoldA, at0]
  | h1 l x ih =>
    intro hk hy
    have ih := ih (fun y hy => hk y (List.mem_append_left _ hy)) (fun z hz => hy z (List.mem_append_left _ hz))
    have hkx := hk x (by simp)
    rw [List.foldl_append, ih, rfold_snoc]
    show rstep k _ x = _
    obtain ⟨e, q⟩ := rfoldA l k
    unfold rstep
    by_cases hc : x.fr ≤ k ∧ k < x.tt
    · rw [if_pos hc, if_pos hc]
      by_cases k1 : x.kd = 1
      · simp [k1, mixA]
      by_cases k2 : x.kd = 2
      · simp [k2, mixA]
      by_cases k3 : x.kd = 3
      · simp [k3, mixA]
      by_cases k4 : x.kd = 4
      · simp [k4, mixA]
      rw [if_neg k1, if_neg k2, if_neg k3, if_neg k4, if_neg k1, if_neg k2, if_neg k3, if_neg k4]
      cases q with
      | none =>
        cases o with
        | none => simp [mixA]
        | some y =>
          have := hy x (by simp) hc y rfl
          simp [mixA, this]
      | some z =>
        by_cases hz : inB x z = true
        · simp [mixA, hz]
        · simp [mixA, hz]
    · rw [if_neg hc, if_neg hc]
/-- The spans of a spliced text. -/
def spZ (D : List Sp) (f t m : Int) (E : List Sp) : List Sp := ((isort ltS D).map (arS f t m)).filter fulS ++ E.map (mvS f)
theorem mv_mem {f m : Int} {E : List Sp} (hf : 0 ≤ f ∧ f ≤ 1000000) (hm : m ≤ 1000000) (hE : ∀ x ∈ E, 0 ≤ x.fr ∧ x.fr < x.tt ∧ x.tt ≤ m) {z : Sp} (hz : z ∈ E.map (mvS f)) : ∃ x ∈ E, z = ⟨x.fr + f, x.tt + f, x.kd, x.vl⟩ ∧ 0 ≤ x.fr ∧ x.fr < x.tt ∧ x.tt ≤ m := by
  obtain ⟨x, hx, rfl⟩ := List.mem_map.1 hz
  exact ⟨x, hx, mv_in hf hm (hE x hx), hE x hx⟩
theorem col_pos {x : Sp} (h : 0 ≤ x.vl ∧ x.vl ≤ 16777215) : 0 < IntKind.i64.wrap (x.vl + 1) := by
  rw [IntWalk.i64_in _ ⟨by omega, by omega⟩]
  omega
theorem spl_looks {s u : ByteArray} {D E : List Sp} (h1 : chkT s D = 0) (h2 : chkT u E = 0) {f t : Nat} (hf : f ≤ t) (ht : t ≤ (signs s).length) :
    (∀ k : Nat, k < f → (rfoldA (spZ D f t (signs u).length E) (k : Int)).1 = (rfoldA D (k : Int)).1) ∧
    (∀ k : Nat, t ≤ k → (rfoldA (spZ D f t (signs u).length E) ((k : Int) - t + f + (signs u).length)).1 = (rfoldA D (k : Int)).1) ∧
    (∀ i : Nat, i < (signs u).length → (rfoldA (spZ D f t (signs u).length E) ((f : Int) + i)).1 = mixA (lookP (ovB f t) (isort ltS D)) (rfoldA E (i : Int)).1 (rfoldA E (i : Int)).2.isSome) := by
  obtain ⟨a1, a2⟩ := chk_all h1
  obtain ⟨b1, b2⟩ := chk_all h2
  obtain ⟨hL, hS⟩ := okL_sort h1
  have n1 := signs_le s
  have n2 := signs_le u
  have k1 := (chkT_ok h1).1
  have k2 := (chkT_ok h2).1
  generalize (signs s).length = n at *
  generalize (signs u).length = m at *
  have hD : ∀ k : Int, (rfoldA D k).1 = lookF (isort ltS D) k := fun k => by rw [look_ref k D (fun x hx => (a1 x hx).2) a2]
  have hE : ∀ x ∈ E, 0 ≤ x.fr ∧ x.fr < x.tt ∧ x.tt ≤ (m : Int) := fun x hx => (b1 x hx).1
  have hA : ∀ k : Int, rfoldA (((isort ltS D).map (arS f t m)).filter fulS) k = _ := fun k => ar_fold (n := n) (k := k) (by omega) (by omega) hL hS
  have hsp : ∀ k : Int, rfoldA (spZ D f t m E) k = (E.map (mvS f)).foldl (rstep k) (rfoldA (((isort ltS D).map (arS f t m)).filter fulS) k) := fun k => by unfold spZ rfoldA; rw [List.foldl_append]
  refine ⟨fun k hk => ?_, fun k hk => ?_, fun i hi => ?_⟩
  · rw [hsp, fold_skip _ _ _ (fun z hz => by
      obtain ⟨x, hx, rfl, h9⟩ := mv_mem (m := m) (by omega) (by omega) hE hz
      simp only
      omega), hA, hD, ar_look (p := kinB k) _ (fun x hx c => ar_kin1 (by omega) (by omega) (by omega) x)]
    rfl
  · rw [hsp, fold_skip _ _ _ (fun z hz => by
      obtain ⟨x, hx, rfl, h9⟩ := mv_mem (m := m) (by omega) (by omega) hE hz
      simp only
      omega), hA, hD, ar_look (p := kinB k) _ (fun x hx c => ar_kin2 (by omega) (by omega) (by omega) x (hL.1 x hx).1.2.1)]
    rfl
  · rw [hsp, hA, fold_over _ _ _ _ (fun z hz => by
      obtain ⟨x, hx, rfl, h9⟩ := mv_mem (m := m) (by omega) (by omega) hE hz
      exact (b1 x hx).2) (fun z hz hc y hy => by
      obtain ⟨x, hx, rfl, h9⟩ := mv_mem (m := m) (by omega) (by omega) hE hz
      obtain ⟨hy1, hy2⟩ := List.mem_filter.1 (List.mem_of_getLast? hy)
      obtain ⟨v, hv, rfl, hlt⟩ := ar_mem hy1
      rw [ar_kin3 (by omega) (by omega)] at hy2
      unfold ovB at hy2
      simp at hy2
      unfold inB arS beK enK
      simp only
      rw [if_neg (by omega), if_pos (by omega), if_neg (by omega), if_pos (by omega)]
      exact decide_eq_true (by omega))]
    have h9 := fold_mv (n := f) (m := m) (k := i) (by omega) (by omega) E at0 none hE (fun y h => by cases h)
    simp only [Option.map_none] at h9
    have e9 : rfoldA (E.map (mvS f)) ((f : Int) + i) = ((rfoldA E i).1, (rfoldA E i).2.map (mvS f)) := h9
    rw [e9, ar_look (p := ovB f t) _ (fun x hx c => ar_kin3 (by omega) (by omega) x)]
    simp
/-- What spans that reach over a part give to what is laid in. -/
def arnd (D : List Sp) (f t : Int) : At := ⟨D.any (ovB f t 1), D.any (ovB f t 2), D.any (ovB f t 3), D.any (ovB f t 4), if D.any (ovB f t 5) then 1 else 0⟩
theorem spl_mid {s u : ByteArray} {D E : List Sp} (h1 : chkT s D = 0) (h2 : chkT u E = 0) (f t : Int) (i : Int) (a e b : At) (he : e = (rfoldA E i).1) (hb : b = arnd D f t) (ha : a = mixA (lookP (ovB f t) (isort ltS D)) (rfoldA E i).1 (rfoldA E i).2.isSome) :
    a.b = (e.b || b.b) ∧ a.i = (e.i || b.i) ∧ a.u = (e.u || b.u) ∧ a.s = (e.s || b.s) ∧ 0 ≤ e.c ∧ (0 < e.c → a.c = e.c) ∧ (e.c = 0 → (0 < a.c ↔ 0 < b.c)) := by
  obtain ⟨b1, b2⟩ := chk_all h2
  rw [look_ref i E (fun x hx => (b1 x hx).2) b2] at he ha
  subst ha he hb
  unfold mixA lookP arnd
  simp only [any_isort, Bool.or_comm, true_and]
  have hce : (lookF (isort ltS E) i).c = colC (((isort ltS E).filter (kinB i 5)).getLast?) := rfl
  rw [hce]
  cases hl : ((isort ltS E).filter (kinB i 5)).getLast? with
  | none =>
    refine ⟨Int.le_refl _, fun h => absurd h (by simp [colC]), fun _ => ?_⟩
    simp only [Option.isSome_none, Bool.false_eq_true, if_false]
    cases hm : ((isort ltS D).filter (ovB f t 5)).getLast? with
    | none =>
      have hn : (isort ltS D).filter (ovB f t 5) = [] := List.getLast?_eq_none_iff.1 hm
      have : D.any (ovB f t 5) = false := by rw [← any_isort, any_filter, hn]; rfl
      rw [this]
      simp [colC]
    | some x =>
      obtain ⟨hx, hk⟩ := List.mem_filter.1 (List.mem_of_getLast? hm)
      have hx2 := (isort_mem' ltS x D).1 hx
      have : D.any (ovB f t 5) = true := List.any_eq_true.2 ⟨x, hx2, hk⟩
      rw [this]
      have k5 : x.kd = 5 := by unfold ovB at hk; simp at hk; exact hk.2
      have hv := chk_vl h1 x hx2
      rw [if_pos k5] at hv
      have := col_pos hv
      simp [colC]
      try exact this
  | some x =>
    obtain ⟨hx, hk⟩ := List.mem_filter.1 (List.mem_of_getLast? hl)
    have hx2 := (isort_mem' ltS x E).1 hx
    have k5 : x.kd = 5 := by unfold kinB at hk; simp at hk; exact hk.2
    have hv := chk_vl h2 x hx2
    rw [if_pos k5] at hv
    have hp := col_pos hv
    have hcc : colC (some x) = IntKind.i64.wrap (x.vl + 1) := rfl
    rw [hcc]
    refine ⟨by omega, fun _ => ?_, fun h => by omega⟩
    simp only [Option.isSome_some, if_true]
    try (rw [hce, hl]; rfl)
/-- A spliced text is right. -/
theorem spl_right {s u : ByteArray} {D E : List Sp} (h1 : chkT s D = 0) (h2 : chkT u E = 0) {f t : Nat} (hf : f ≤ t) (ht : t ≤ (signs s).length) (hm1 : meltsB (cutM s 0 f) u = false) (hm2 : meltsB (cutM s 0 f ++ u) (cutM s t (signs s).length) = false)
    (hz : (cutM s 0 f ++ u ++ cutM s t (signs s).length).size ≤ 4096) (hl : (spZ D f t (signs u).length E).length ≤ 256) :
    (signs (cutM s 0 f ++ u ++ cutM s t (signs s).length)).length = f + (signs u).length + ((signs s).length - t) ∧ chkT (cutM s 0 f ++ u ++ cutM s t (signs s).length) (spZ D f t (signs u).length E) = 0 := by
  have e1 : (signs (cutM s 0 f ++ u ++ cutM s t (signs s).length)).length = f + (signs u).length + ((signs s).length - t) := by
    rw [join_signs _ _ hm2, join_signs _ _ hm1, cut_signs s 0 f (by omega) (by omega), cut_signs s t _ ht (Nat.le_refl _)]
    omega
  refine ⟨e1, ?_⟩
  obtain ⟨b1, b2⟩ := chk_all h2
  obtain ⟨hL, hS⟩ := okL_sort h1
  have n1 := signs_le s
  have n2 := signs_le u
  have k1 := (chkT_ok h1).1
  have k2 := (chkT_ok h2).1
  have hE : ∀ x ∈ E, 0 ≤ x.fr ∧ x.fr < x.tt ∧ x.tt ≤ ((signs u).length : Int) := fun x hx => (b1 x hx).1
  have hA := ar_ok (n := (signs s).length) (f := f) (t := t) (m := (signs u).length) (by omega) (by omega) hL
  refine chk_of hz hl ⟨fun z hz => ?_, fun z hz y hy => ?_⟩ fun z hz => ?_
  · rw [e1]
    unfold spZ at hz
    rcases List.mem_append.1 hz with hz | hz
    · have := hA.1 z hz
      omega
    · obtain ⟨x, hx, rfl, h9⟩ := mv_mem (m := (signs u).length) (by omega) (by omega) hE hz
      have := b1 x hx
      simp only
      omega
  · have mix : ∀ z ∈ ((isort ltS D).map (arS f t (signs u).length)).filter fulS, ∀ y ∈ E.map (mvS f), ¬ crS z y := fun z hz y hy hc => by
      obtain ⟨x, hx, rfl, hlt⟩ := ar_mem hz
      obtain ⟨v, hv, rfl, h9⟩ := mv_mem (m := (signs u).length) (by omega) (by omega) hE hy
      have o1 : beK f t (signs u).length x.fr ≤ f ∨ (f : Int) + (signs u).length ≤ beK f t (signs u).length x.fr := by unfold beK; split <;> (try split) <;> omega
      have o2 : enK f t (signs u).length x.tt ≤ f ∨ (f : Int) + (signs u).length ≤ enK f t (signs u).length x.tt := by unfold enK; split <;> (try split) <;> omega
      unfold crS arS at hc
      simp only at hc
      omega
    unfold spZ at hz hy
    rcases List.mem_append.1 hz with hz | hz <;> rcases List.mem_append.1 hy with hy | hy
    · exact hA.2 z hz y hy
    · exact mix z hz y hy
    · exact fun hc => mix y hy z hz (crS_symm hc)
    · intro hc
      obtain ⟨x, hx, rfl, _⟩ := mv_mem (m := (signs u).length) (by omega) (by omega) hE hz
      obtain ⟨v, hv, rfl, _⟩ := mv_mem (m := (signs u).length) (by omega) (by omega) hE hy
      refine b2 x hx v hv ?_
      unfold crS at hc ⊢
      simp only at hc
      omega
  · unfold spZ at hz
    rcases List.mem_append.1 hz with hz | hz
    · obtain ⟨x, hx, rfl, _⟩ := ar_mem hz
      exact chk_vl h1 x ((isort_mem' ltS x D).1 hx)
    · obtain ⟨x, hx, rfl, _⟩ := mv_mem (m := (signs u).length) (by omega) (by omega) hE hz
      exact chk_vl h2 x hx
/-- What Splice tells of right texts. -/
theorem spl_form {s u : ByteArray} {D E : List Sp} (h1 : chkT s D = 0) (h2 : chkT u E = 0) {f t : Nat} (hf : f ≤ t) (ht : t ≤ (signs s).length) :
    splM s D f t u E = if 4096 < (cutM s 0 f ++ u ++ cutM s t (signs s).length).size then (3, ByteArray.empty, []) else if meltsB (cutM s 0 f) u = true then (22, ByteArray.empty, []) else if meltsB (cutM s 0 f ++ u) (cutM s t (signs s).length) = true then (22, ByteArray.empty, [])
      else if 256 < (spZ D f t (signs u).length E).length then (2, ByteArray.empty, []) else (0, cutM s 0 f ++ u ++ cutM s t (signs s).length, spZ D f t (signs u).length E) := by
  obtain ⟨hL, hS⟩ := okL_sort h1
  have n1 := signs_le s
  have n2 := signs_le u
  have k1 := (chkT_ok h1).1
  have k2 := (chkT_ok h2).1
  have e : aroundM (f : Int) t (signs u).length (isort ltS D) ++ E.map (mvS f) = spZ D f t (signs u).length E := by
    unfold spZ
    rw [around_ar (n := (signs s).length) (by omega) (by omega) (by omega) _ (fun x hx => (hL.1 x hx).1)]
  unfold splM
  rw [if_neg (by simp [h1]), if_neg (by simp [h2]), if_neg (by unfold betB; simp; omega)]
  simp only [Int.toNat_natCast]
  rw [e, glue3]
  split
  · simp
  · split
    · simp
    · split
      · simp
      · simp
end Go.Proofs.YtbiodfeanngkdaaDoor

/- surtitlelaw7: around (P0713): what spans that reach over a part give to what is laid in. -/
namespace Go.Proofs.YtbiodfeanngkdaaDoor
open Go.RowKit Go.Shelf
attribute [local go_sem] Oper.semAt_some

/-- One more kind. -/
def setK (a : At) (k : Int) : At := if k = 1 then { a with b := true } else if k = 2 then { a with i := true } else if k = 3 then { a with u := true } else if k = 4 then { a with s := true } else { a with c := 1 }
theorem arnd_snoc (L : List Sp) (x : Sp) (f t : Int) (hk : 1 ≤ x.kd ∧ x.kd ≤ 5) : arnd (L ++ [x]) f t = if x.fr < t ∧ x.fr ≤ f ∧ t ≤ x.tt ∧ f < x.tt then setK (arnd L f t) x.kd else arnd L f t := by
  unfold arnd
  simp only [List.any_append, List.any_cons, List.any_nil, Bool.or_false]
  by_cases h : x.fr < t ∧ x.fr ≤ f ∧ t ≤ x.tt ∧ f < x.tt
  · rw [if_pos h]
    have e : ∀ c, ovB f t c x = decide (x.kd = c) := fun c => by unfold ovB; rw [decide_eq_true h, Bool.true_and]
    simp only [e]
    unfold setK
    by_cases k1 : x.kd = 1
    · simp [k1]
    by_cases k2 : x.kd = 2
    · simp [k2]
    by_cases k3 : x.kd = 3
    · simp [k3]
    by_cases k4 : x.kd = 4
    · simp [k4]
    have k5 : x.kd = 5 := by omega
    simp [k5]
  · rw [if_neg h]
    have e : ∀ c, ovB f t c x = false := fun c => by unfold ovB; rw [decide_eq_false h, Bool.false_and]
    simp only [e, Bool.or_false]
theorem spfourK (wk : World) (P : Nat) (x : Sp) (h : wk.heap[P]? = some (.cells #[.int .i64 x.fr, .int .i64 x.tt, .int .i64 x.kd, .int .i64 x.vl] 45 (0, 0))) : wk.cell? ⟨P, 0, none⟩ = some (.int .i64 x.fr) ∧ wk.cell? ⟨P, 1, none⟩ = some (.int .i64 x.tt) ∧ wk.cell? ⟨P, 2, none⟩ = some (.int .i64 x.kd) ∧ wk.cell? ⟨P, 3, none⟩ = some (.int .i64 x.vl) := by
  simp [World.cell?, h]
set_option maxRecDepth 100000 in
set_option maxHeartbeats 4000000 in
theorem around7_any (s : ByteArray) (D : List Sp) (oa : Option Addr) (ca : Nat) (f t : Int) (hl : D.length ≤ 5000) (hk : ∀ x ∈ D, 1 ≤ x.kd ∧ x.kd ≤ 5) (w : World) (hR : SpO w oa D) :
    Calls Tryd.prog 12 #[.agg #[.string s, .slice oa D.length ca], .int .i64 f, .int .i64 t] w fun e w' => e = .returned (arnd D f t).val ∧ Below w.heap.size w w' := by
  obtain ⟨N, hN⟩ : ∃ N, D.length = N := ⟨_, rfl⟩
  obtain ⟨R, hRv⟩ : ∃ R, arnd D f t = R := ⟨_, rfl⟩
  have HN := hideS (And.intro hN (And.intro hRv (And.intro hR hk)))
  rw [hN] at hl
  rw [hRv, hN]
  clear hR hN hRv hk
  unfold At.val
  go_enter Tryd.func12, Tryd.ntmps12
  go_upto_region 2 with fail
  obtain ⟨W1, hW1⟩ : ∃ W1, w.alloc (.cells #[.string s, .slice oa N ca] 24) = W1 := ⟨_, rfl⟩
  have t1 : Tx W1 w.heap.size (.string s) (.slice oa N ca) := by rw [← hW1]; exact Tx.new w _ _
  have z1 : W1.heap.size = w.heap.size + 1 := by rw [← hW1]; simp
  have b1 : Below w.heap.size w W1 := by rw [← hW1]; exact bel1S w _
  obtain ⟨W2, hW2⟩ : ∃ W2, W1.alloc (.cells #[.bool false, .bool false, .bool false, .bool false, .int .i64 0] 38) = W2 := ⟨_, rfl⟩
  have a2 : AtC W2 (w.heap.size + 1) at0 := by rw [← hW2, ← z1]; exact atc_new W1
  have b2 : Below W1.heap.size W1 W2 := by rw [← hW2]; exact bel1S W1 _
  have z2 : W2.heap.size = w.heap.size + 2 := by rw [← hW2, World.size_alloc, z1]
  obtain ⟨V, hV⟩ : ∃ V, W2.alloc (.cells #[.bool false, .bool false, .bool false, .bool false, .int .i64 0] 38) = V := ⟨_, rfl⟩
  have a3 : AtC V (w.heap.size + 2) at0 := by rw [← hV, ← z2]; exact atc_new W2
  have b3 : Below W2.heap.size W2 V := by rw [← hV]; exact bel1S W2 _
  have z3 : V.heap.size = w.heap.size + 3 := by rw [← hV, World.size_alloc, z2]
  have HV := hideS (And.intro ((t1.keep b2).keep b3) (And.intro (a2.keep b3) (And.intro a3 (bupS (bupS b1 b2) b3))))
  try rw [hW1]
  try rw [hW2]
  try rw [hV]
  clear hW1 hW2 hV t1 b1 b2 b3 a2 a3 z1
  go_wp2_with fail
  go_loopw [8] (fun iv wq => ∃ i : Nat, iv = .int .i64 (i : Nat) ∧ i ≤ N ∧ AtC wq (w.heap.size + 2) (arnd (D.take i) f t) ∧ But (fun k => k = w.heap.size + 2) V wq) (fun iv _ => N - (intOf iv).toNat)
  case atStart => exact ⟨0, rfl, Nat.zero_le _, HV.out.2.2.1, But.refl _ _⟩
  case round =>
    obtain ⟨i, rfl, hiN, hA, hb⟩ := hrel
    obtain ⟨wq, rfl⟩ : ∃ wq, wq = wr := ⟨_, rfl⟩
    have hbw : Below w.heap.size w wq := HV.out.2.2.2.trans (hb.below (by omega) (fun k e => by omega))
    have tq : Tx wq w.heap.size (.string s) (.slice oa N ca) := (hb.same _ HV.out.1.lt (by omega)).trans HV.out.1
    have sq := hb.size
    by_cases hlt : i < N
    · obtain ⟨x, hx⟩ : ∃ x, D[i]? = some x := ⟨_, List.getElem?_eq_getElem (by rw [HN.out.1]; exact hlt)⟩
      have hkx := HN.out.2.2.2 x (List.mem_of_getElem? hx)
      have hsn : arnd (D.take (i + 1)) f t = if x.fr < t ∧ x.fr ≤ f ∧ t ≤ x.tt ∧ f < x.tt then setK (arnd (D.take i) f t) x.kd else arnd (D.take i) f t := by rw [List.take_add_one, hx]; exact arnd_snoc _ x f t hkx
      obtain ⟨A, rfl, hA0, k0, k1, k2, k3⟩ := HN.out.2.2.1.keep hbw i x hx
      obtain ⟨c0, c1, _, _⟩ := tq.cells
      have d1 : (i : Int) < (N : Int) := by omega
      have wi : IntKind.i64.wrap ((i : Int) + 1) = ((i + 1 : Nat) : Int) := by rw [show ((i + 1 : Nat) : Int) = (i : Int) + 1 by omega]; exact IntWalk.i64_in _ ⟨by omega, by omega⟩
      obtain ⟨xf, xt, xk, xv⟩ := x
      simp only at hsn hkx k0 k1 k2 k3
      obtain ⟨ar, har⟩ : ∃ a, arnd (D.take i) f t = a := ⟨_, rfl⟩
      rw [har] at hA hsn
      obtain ⟨W3, hW3⟩ : ∃ W3, wq.alloc (.cells #[.int .i64 xf, .int .i64 xt, .int .i64 xk, .int .i64 xv] 45) = W3 := ⟨_, rfl⟩
      have b3 : Below wq.heap.size wq W3 := by rw [← hW3]; exact bel1S _ _
      have n3 : W3.heap[wq.heap.size]? = some (.cells #[.int .i64 xf, .int .i64 xt, .int .i64 xk, .int .i64 xv] 45 (0, 0)) := by rw [← hW3]; exact World.alloc_heap_new wq _
      have HA3 := hideS (hA.keep b3)
      have HB3 := hideS (hb.below_trans b3)
      obtain ⟨p0, p1, p2, p3, p4⟩ := (hA.keep b3).five
      obtain ⟨q0, q1, q2, q3, q4⟩ := (hA.keep b3).free
      have HS := hideS hsn
      go_upto_region 6 with fail
      try rw [hW3]
      obtain ⟨x0, x1, x2, x3⟩ := spfourK W3 wq.heap.size ⟨xf, xt, xk, xv⟩ n3
      simp only at x0 x1 x2 x3
      clear hW3 b3 n3 hA hb hx hsn har c0 c1 k0 k1 k2 k3 tq hbw
      by_cases g0 : xf < t
      rotate_left
      · skip
        rw [if_neg (by omega)] at HS
        go_wp2_with fail
        go_roundw
        case rel => exact ⟨i + 1, by first | rfl | simp, by omega, by rw [HS.out]; exact HA3.out, HB3.out⟩
        case measure => simp [intOf]; omega
      by_cases g1 : xf ≤ f
      rotate_left
      · skip
        rw [if_neg (by omega)] at HS
        go_wp2_with fail
        go_roundw
        case rel => exact ⟨i + 1, by first | rfl | simp, by omega, by rw [HS.out]; exact HA3.out, HB3.out⟩
        case measure => simp [intOf]; omega
      by_cases g2 : t ≤ xt
      rotate_left
      · skip
        have g2' : ¬ xt ≥ t := g2
        rw [if_neg (by omega)] at HS
        go_wp2_with fail
        go_roundw
        case rel => exact ⟨i + 1, by first | rfl | simp, by omega, by rw [HS.out]; exact HA3.out, HB3.out⟩
        case measure => simp [intOf]; omega
      by_cases g3 : f < xt
      rotate_left
      · skip
        have g3' : ¬ xt > f := g3
        rw [if_neg (by omega)] at HS
        go_wp2_with fail
        go_roundw
        case rel => exact ⟨i + 1, by first | rfl | simp, by omega, by rw [HS.out]; exact HA3.out, HB3.out⟩
        case measure => simp [intOf]; omega
      rw [if_pos ⟨g0, g1, g2, g3⟩] at HS
      have g2' : xt ≥ t := g2
      have g3' : xt > f := g3
      by_cases h1 : xk = 1
      · subst h1
        simp [setK] at HS
        go_wp2_with fail
        go_roundw
        case rel => exact ⟨i + 1, by first | rfl | simp, by omega, (by rw [HS.out]; have h9 := set_atS HA3.out 0 (.bool true); first | exact h9 | (simpa [AtC] using h9)), HB3.out.setCell (p := ⟨w.heap.size + 2, 0, none⟩) rfl _⟩
        case measure => simp [intOf]; omega
      by_cases h2 : xk = 2
      · subst h2
        simp [setK] at HS
        go_wp2_with fail
        go_roundw
        case rel => exact ⟨i + 1, by first | rfl | simp, by omega, (by rw [HS.out]; have h9 := set_atS HA3.out 1 (.bool true); first | exact h9 | (simpa [AtC] using h9)), HB3.out.setCell (p := ⟨w.heap.size + 2, 1, none⟩) rfl _⟩
        case measure => simp [intOf]; omega
      by_cases h3 : xk = 3
      · subst h3
        simp [setK] at HS
        go_wp2_with fail
        go_roundw
        case rel => exact ⟨i + 1, by first | rfl | simp, by omega, (by rw [HS.out]; have h9 := set_atS HA3.out 2 (.bool true); first | exact h9 | (simpa [AtC] using h9)), HB3.out.setCell (p := ⟨w.heap.size + 2, 2, none⟩) rfl _⟩
        case measure => simp [intOf]; omega
      by_cases h4 : xk = 4
      · subst h4
        simp [setK] at HS
        go_wp2_with fail
        go_roundw
        case rel => exact ⟨i + 1, by first | rfl | simp, by omega, (by rw [HS.out]; have h9 := set_atS HA3.out 3 (.bool true); first | exact h9 | (simpa [AtC] using h9)), HB3.out.setCell (p := ⟨w.heap.size + 2, 3, none⟩) rfl _⟩
        case measure => simp [intOf]; omega
      obtain rfl : xk = 5 := by omega
      simp [setK] at HS
      go_wp2_with fail
      go_roundw
      case rel => exact ⟨i + 1, by first | rfl | simp, by omega, (by rw [HS.out]; have h9 := set_atS HA3.out 4 (.int .i64 1); first | exact h9 | (simpa [AtC] using h9)), HB3.out.setCell (p := ⟨w.heap.size + 2, 4, none⟩) rfl _⟩
      case measure => simp [intOf]; omega
    · have d1 : ¬ (i : Int) < (N : Int) := by omega
      rw [List.take_of_length_le (by rw [HN.out.1]; omega), HN.out.2.1] at hA
      obtain ⟨c0, c1, _, _⟩ := tq.cells
      have a6 : AtC wq (w.heap.size + 1) at0 := (hb.same _ HV.out.2.1.lt (by omega)).trans HV.out.2.1
      obtain ⟨p0, p1, p2, p3, p4⟩ := hA.five
      obtain ⟨e0, e1, e2, e3, e4⟩ := a6.five
      obtain ⟨f0, f1, f2, f3, f4⟩ := a6.free
      simp only [at0] at e0 e1 e2 e3 e4
      have HB := hideS (And.intro hbw a6)
      clear hA hb hbw tq a6
      go_wp2_with fail
      have a9 := at_all HB.out.2 (b0 := R.b) (b1 := R.i) (b2 := R.u) (b3 := R.s) (c4 := R.c)
      have HB9 := hideS (((((HB.out.1.setCell (p := ⟨w.heap.size + 1, 0, none⟩) (by show w.heap.size ≤ w.heap.size + 1; omega) (.bool R.b)).setCell (p := ⟨w.heap.size + 1, 1, none⟩) (by show w.heap.size ≤ w.heap.size + 1; omega) (.bool R.i)).setCell (p := ⟨w.heap.size + 1, 2, none⟩) (by show w.heap.size ≤ w.heap.size + 1; omega) (.bool R.u)).setCell (p := ⟨w.heap.size + 1, 3, none⟩) (by show w.heap.size ≤ w.heap.size + 1; omega) (.bool R.s)).setCell (p := ⟨w.heap.size + 1, 4, none⟩) (by show w.heap.size ≤ w.heap.size + 1; omega) (.int .i64 R.c))
      generalize (((((wq.setCell ⟨w.heap.size + 1, 0, none⟩ (.bool R.b)).setCell ⟨w.heap.size + 1, 1, none⟩ (.bool R.i)).setCell ⟨w.heap.size + 1, 2, none⟩ (.bool R.u)).setCell ⟨w.heap.size + 1, 3, none⟩ (.bool R.s)).setCell ⟨w.heap.size + 1, 4, none⟩ (.int .i64 R.c)) = W9 at *
      obtain ⟨r0, r1, r2, r3, r4⟩ := a9.five
      simp only at r0 r1 r2 r3 r4
      exact bodyPost_ret (v := .agg #[.bool R.b, .bool R.i, .bool R.u, .bool R.s, .int .i64 R.c]) (by simp [results, Tryd.results12, go_sem, r0, r1, r2, r3, r4]) rfl ⟨rfl, HB9.out⟩
end Go.Proofs.YtbiodfeanngkdaaDoor

/- What StyleKeeps asks of the looks of a spliced text (P0712), as mathematics. -/
namespace Go.Proofs.YtbiodfeanngkdaaDoor
open Go.RowKit Go.Shelf

theorem allK_at (D : List Sp) (n k : Nat) (h : k < n) : (alls D n)[k]? = some (rfoldA D (k : Int)).1 := by
  unfold alls
  rw [List.getElem?_map, List.getElem?_range h]
  rfl
/-- What is asked of a sign that was laid in. -/
def MidK (a e b : At) : Prop := a.b = (e.b || b.b) ∧ a.i = (e.i || b.i) ∧ a.u = (e.u || b.u) ∧ a.s = (e.s || b.s) ∧ 0 ≤ e.c ∧ (0 < e.c → a.c = e.c) ∧ (e.c = 0 → (0 < a.c ↔ 0 < b.c))
theorem spl_all {s u : ByteArray} {D E : List Sp} (h1 : chkT s D = 0) (h2 : chkT u E = 0) {f t n m : Nat} (hf : f ≤ t) (ht : t ≤ n) (hn : (signs s).length = n) (hm : (signs u).length = m) :
    (alls (spZ D f t m E) (f + m + (n - t))).take f = (alls D n).take f ∧ (alls (spZ D f t m E) (f + m + (n - t))).drop (f + m) = (alls D n).drop t ∧
    ∀ i, i < m → ∃ a e, (alls (spZ D f t m E) (f + m + (n - t)))[f + i]? = some a ∧ (alls E m)[i]? = some e ∧ MidK a e (arnd D f t) := by
  subst hn hm
  obtain ⟨a1, a2, a3⟩ := spl_looks h1 h2 hf ht
  refine ⟨?_, ?_, fun i hi => ?_⟩
  · apply List.ext_getElem?
    intro k
    rw [List.getElem?_take, List.getElem?_take]
    by_cases hk : k < f
    · rw [if_pos hk, if_pos hk, allK_at _ _ k (by omega), allK_at _ _ k (by omega), a1 k hk]
    · rw [if_neg hk, if_neg hk]
  · apply List.ext_getElem?
    intro k
    rw [List.getElem?_drop, List.getElem?_drop]
    by_cases hk : t + k < (signs s).length
    · rw [allK_at _ _ (f + (signs u).length + k) (by omega), allK_at _ _ (t + k) hk, ← a2 (t + k) (by omega)]
      congr 2
      congr 1
      omega
    · rw [List.getElem?_eq_none (by rw [alls_len]; omega), List.getElem?_eq_none (by rw [alls_len]; omega)]
  · refine ⟨_, _, allK_at _ _ (f + i) (by omega), allK_at _ _ i hi, ?_⟩
    refine spl_mid h1 h2 f t i _ _ _ rfl rfl ?_
    rw [show ((f + i : Nat) : Int) = (f : Int) + i by omega]
    exact a3 i hi
theorem spZ_len (D : List Sp) (f t m : Int) (E : List Sp) : (spZ D f t m E).length ≤ D.length + E.length := by
  unfold spZ
  rw [List.length_append, List.length_map]
  have h9 := List.length_filter_le fulS ((isort ltS D).map (arS f t m))
  rw [List.length_map, isort_length] at h9
  omega
/-- A row of looks, sliced. -/
theorem AtO.front {W : World} {a : Addr} {L : List At} (h : AtO W (some a) L) (k : Nat) : AtO W (some a) (L.take k) := by
  have h9 := h.part 0 k
  rw [List.drop_zero, Nat.zero_mul] at h9
  simpa [Addr.add] using h9
theorem AtO.back {W : World} {a : Addr} {L : List At} {c : Nat} (h : AtO W (some a) L) (hc : L.length ≤ c) (k : Nat) (o : Option Addr) (e : (if c = k then some a else some (a.add (k * 5))) = o) : AtO W o (L.drop k) := by
  by_cases ec : c = k
  · rw [List.drop_of_length_le (by omega)]
    exact AtO.nil _ _
  · rw [if_neg ec] at e
    subst e
    have h9 := h.part k (L.length - k)
    rwa [List.take_of_length_le (by rw [List.length_drop]; omega)] at h9
end Go.Proofs.YtbiodfeanngkdaaDoor

/- surtitlelaw7.SameText of two texts that are the same (chapter 7). -/
namespace Go.Proofs.YtbiodfeanngkdaaDoor
open Go.RowKit Go.Shelf
attribute [local go_sem] Oper.semAt_some

end Go.Proofs.YtbiodfeanngkdaaDoor

/- Texts in memory: rows read, blocks kept. -/
namespace Go.Proofs.YtbiodfeanngkdaaDoor
open Go.RowKit Go.Shelf

theorem front_spoB {W : World} {B g c n : Nat} {D : List Sp} (h : W.ownsRow B 45 4 (.slice (some ⟨g, 0, none⟩) (n + 1) c) (n + 1) (flat4 (D ++ [mkS]))) (hn : D.length = n) : SpO W (some ⟨g, 0, none⟩) D ∧ B ≤ g ∧ (n ≤ c ∧ c ≤ maxLen) := by
  obtain ⟨o9, c9, e9, hc9, _, hsc, _⟩ := own_sc h (by simp [hn])
  obtain ⟨rfl, rfl⟩ : some (⟨g, 0, none⟩ : Addr) = o9 ∧ c = c9 := by simpa using e9
  obtain ⟨g9, e8, hBg, hSC⟩ := hsc _ rfl
  obtain rfl : g = g9 := by simpa using e8
  exact ⟨fun i p hp => hSC.spo i p (by rw [List.getElem?_append_left (List.getElem?_eq_some_iff.1 hp).1]; exact hp), hBg, by omega, hc9.2⟩
theorem own_ltB {W : World} {base g n c : Nat} {e : TypeId} {size : Nat} {xs : List Value} (h : W.ownsRow base e size (.slice (some ⟨g, 0, none⟩) n c) n xs) : g < W.heap.size := by
  rcases h.2 with ⟨e0, _⟩ | ⟨g2, c2, cur, e0, _, hg, _⟩
  · simp at e0
  · obtain ⟨rfl, rfl⟩ : g = g2 ∧ c = c2 := by simpa using e0
    exact (Array.getElem?_eq_some_iff.1 hg).1
theorem Tx.butB {W V : World} {P g : Nat} {a b : Value} (h : Tx W P a b) (k : But (fun k => k = g) W V) (hne : P ≠ g) : Tx V P a b := (k.same P h.lt hne).trans h
theorem own_readB {W : World} {base n : Nat} {v : Value} {Q : List Sp} (h : W.ownsRow base 45 4 v n (flat4 Q)) (hn : Q.length = n) : ∃ o cap, v = .slice o n cap ∧ (n ≤ cap ∧ cap ≤ maxLen) ∧ SpO W o Q ∧ (∀ a, o = some a → base ≤ a.block) := by
  obtain ⟨o, cap, e, hc, _, hs, hel⟩ := own_sc h hn
  refine ⟨o, cap, e, hc, ?_, fun a ha => ?_⟩
  · cases o with
    | none => rw [hel rfl]; exact SpO.nil _ _
    | some ad =>
      obtain ⟨g, rfl, _, hsc⟩ := hs ad rfl
      exact hsc.spo
  · obtain ⟨g, rfl, hg, _⟩ := hs a ha
    exact hg
end Go.Proofs.YtbiodfeanngkdaaDoor
