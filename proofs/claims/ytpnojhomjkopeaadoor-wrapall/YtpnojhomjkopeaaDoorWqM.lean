/- The best way of a text (chapter 10, P1002, P1006): mathematics. -/
import Derived.Test.YtpnojhomjkopeaaDoorWqF
namespace Go.Proofs.YtpnojhomjkopeaaDoor

def costW (wd : Int) : Int → List St → Int
  | _, [] => 0
  | bg, x :: V => (sbadI x.kind x.fin.ce bg wd).1 + costW wd x.nxt.ce V
def fitsW (wd : Int) : Int → List St → Bool
  | _, [] => true
  | bg, x :: V => (sbadI x.kind x.fin.ce bg wd).2 && fitsW wd x.nxt.ce V
theorem sum_cost (wd : Int) : ∀ (V : List St) (a b c : Int), sumB wd (linesG a b c V) = costW wd c V ∧ allB wd (linesG a b c V) = fitsW wd c V
  | [], _, _, _ => ⟨rfl, rfl⟩
  | x :: V, a, b, c => by
    obtain ⟨h1, h2⟩ := sum_cost wd V x.nxt.loc x.nxt.sg x.nxt.ce
    refine ⟨?_, ?_⟩
    · show (lnB wd ⟨a, b, c, x⟩).1 + sumB wd (linesG x.nxt.loc x.nxt.sg x.nxt.ce V) = _
      rw [h1]
      rfl
    · show ((lnB wd ⟨a, b, c, x⟩).2 && allB wd (linesG x.nxt.loc x.nxt.sg x.nxt.ce V)) = _
      rw [h2]
      rfl
theorem wayB_cost (wd : Int) (V : List St) : wayB wd V = if fitsW wd 0 V = true then (costW wd 0 V, true) else (0, false) := by
  unfold wayB
  rw [(sum_cost wd V 0 0 0).1, (sum_cost wd V 0 0 0).2]
/-- No worse; better. -/
def LEk (a b c d : Int) : Prop := a < c ∨ (a = c ∧ b ≤ d)
def LTk (a b c d : Int) : Prop := a < c ∨ (a = c ∧ b < d)
theorem better_iff (a b : Re) : betterB a b = true ↔ LTk a.bad a.cnt b.bad b.cnt := by
  unfold betterB LTk
  simp
def candR (bg wd : Int) (x : St) (t : Re) (n : Nat) : Re := ⟨(sbadI x.kind x.fin.ce bg wd).1 + t.bad, 1 + t.cnt, n⟩
/-- What is taken is the first of the best. -/
theorem rest_spec (bg wd : Int) : ∀ (l : List St) (R : List Re) (n : Nat) (best : Re),
    (restGo bg wd n l R best = best ∨ ∃ (k : Nat) (x : St) (t : Re), l[k]? = some x ∧ R[k]? = some t ∧ (sbadI x.kind x.fin.ce bg wd).2 = true ∧ restGo bg wd n l R best = candR bg wd x t (n + k) ∧
      LTk (candR bg wd x t (n + k)).bad (candR bg wd x t (n + k)).cnt best.bad best.cnt ∧ ∀ (j : Nat) (y : St) (u : Re), j < k → l[j]? = some y → R[j]? = some u → LTk (candR bg wd x t (n + k)).bad (candR bg wd x t (n + k)).cnt (candR bg wd y u 0).bad (candR bg wd y u 0).cnt) ∧
    LEk (restGo bg wd n l R best).bad (restGo bg wd n l R best).cnt best.bad best.cnt ∧
    ∀ (k : Nat) (x : St) (t : Re), l[k]? = some x → R[k]? = some t → (∀ (j : Nat) (y : St), j ≤ k → l[j]? = some y → (sbadI y.kind y.fin.ce bg wd).2 = true) → LEk (restGo bg wd n l R best).bad (restGo bg wd n l R best).cnt (candR bg wd x t 0).bad (candR bg wd x t 0).cnt
  | [], R, n, best => by
    have e : restGo bg wd n [] R best = best := by unfold restGo; rfl
    rw [e]
    exact ⟨.inl rfl, .inr ⟨rfl, Int.le_refl _⟩, fun k x t h => by simp at h⟩
  | x :: l, [], n, best => by
    have e : restGo bg wd n (x :: l) [] best = best := by unfold restGo; rfl
    rw [e]
    exact ⟨.inl rfl, .inr ⟨rfl, Int.le_refl _⟩, fun k x t _ h => by simp at h⟩
  | x :: l, t :: R, n, best => by
    unfold restGo
    by_cases hf : (sbadI x.kind x.fin.ce bg wd).2 = true
    · rw [if_pos hf]
      have ec : (⟨(sbadI x.kind x.fin.ce bg wd).1 + t.bad, 1 + t.cnt, n⟩ : Re) = candR bg wd x t n := rfl
      rw [ec]
      have eb : (candR bg wd x t 0).bad = (candR bg wd x t n).bad ∧ (candR bg wd x t 0).cnt = (candR bg wd x t n).cnt := ⟨rfl, rfl⟩
      generalize hb' : (if betterB (candR bg wd x t n) best = true then candR bg wd x t n else best) = b'
      obtain ⟨h1, h2, h3⟩ := rest_spec bg wd l R (n + 1) b'
      have hle : LEk b'.bad b'.cnt best.bad best.cnt := by
        by_cases hb : betterB (candR bg wd x t n) best = true
        · rw [if_pos hb] at hb'
          rw [← hb']
          have := (better_iff _ _).1 hb
          unfold LTk at this
          unfold LEk
          omega
        · rw [if_neg hb] at hb'
          rw [← hb']
          exact .inr ⟨rfl, Int.le_refl _⟩
      have hlc : LEk b'.bad b'.cnt (candR bg wd x t n).bad (candR bg wd x t n).cnt := by
        by_cases hb : betterB (candR bg wd x t n) best = true
        · rw [if_pos hb] at hb'
          rw [← hb']
          exact .inr ⟨rfl, Int.le_refl _⟩
        · rw [if_neg hb] at hb'
          rw [better_iff] at hb
          rw [← hb']
          unfold LTk at hb
          unfold LEk
          omega
      generalize restGo bg wd (n + 1) l R b' = r at *
      refine ⟨?_, ?_, ?_⟩
      · rcases h1 with h1 | ⟨k, y, u, a1, a2, a3, a4, a5, a6⟩
        · by_cases hb : betterB (candR bg wd x t n) best = true
          · rw [if_pos hb] at hb'
            refine .inr ⟨0, x, t, rfl, rfl, hf, ?_, ?_, fun j y u hj => by omega⟩
            · rw [h1, ← hb']
              rfl
            · exact (better_iff _ _).1 hb
          · rw [if_neg hb] at hb'
            exact .inl (by rw [h1, hb'])
        · have en : n + 1 + k = n + (k + 1) := by omega
          rw [en] at a4 a5 a6
          refine .inr ⟨k + 1, y, u, by simpa using a1, by simpa using a2, a3, a4, ?_, fun j y' u' hj hy hu => ?_⟩
          · unfold LTk at a5 ⊢
            unfold LEk at hle
            omega
          · cases j with
            | zero =>
              obtain rfl : x = y' := by simpa using hy
              obtain rfl : t = u' := by simpa using hu
              rw [eb.1, eb.2]
              unfold LTk at a5 ⊢
              unfold LEk at hlc
              omega
            | succ j => exact a6 j y' u' (by omega) (by simpa using hy) (by simpa using hu)
      · unfold LEk at h2 hle ⊢
        omega
      · intro k y u hy hu hall
        cases k with
        | zero =>
          obtain rfl : x = y := by simpa using hy
          obtain rfl : t = u := by simpa using hu
          rw [eb.1, eb.2]
          unfold LEk at h2 hlc ⊢
          omega
        | succ k => exact h3 k y u (by simpa using hy) (by simpa using hu) (fun j y' hj hy' => hall (j + 1) y' (by omega) (by simpa using hy'))
    · rw [if_neg hf]
      exact ⟨.inl rfl, .inr ⟨rfl, Int.le_refl _⟩, fun k y u hy hu hall => absurd (hall 0 x (by omega) rfl) hf⟩
/-- The ways of a paragraph: some of its stops, its last one among them. -/
inductive WayL : List St → List St → Prop
  | nil : WayL [] []
  | cons (k : Nat) (x : St) (V l : List St) : l[k]? = some x → WayL V (l.drop (k + 1)) → WayL (x :: V) l
/-- Of two ways, as good as one another, the one whose first other place is the lesser. -/
def LexOk : List St → List St → Prop
  | x :: W, y :: V => (x = y ∧ LexOk W V) ∨ x.nxt.sg < y.nxt.sg
  | _, _ => True
def RiseS (l : List St) : Prop := ∀ (i j : Nat) (x y : St), i < j → l[i]? = some x → l[j]? = some y → (x.nxt.sg < y.nxt.sg ∨ x.kind = 1 ∨ x.kind = 0) ∧ x.fin.ce ≤ y.fin.ce
theorem RiseS.drop {l : List St} (h : RiseS l) (n : Nat) : RiseS (l.drop n) := fun i j x y hij hx hy => by
  rw [List.getElem?_drop] at hx hy
  exact h _ _ x y (by omega) hx hy
def NoK (l : List St) : Prop := ∀ (i j : Nat) (x y : St), i < j → l[i]? = some x → l[j]? = some y → ¬ (x.kind = 1 ∨ x.kind = 0)
theorem NoK.drop {l : List St} (h : NoK l) (n : Nat) : NoK (l.drop n) := fun i j x y hij hx hy => by
  rw [List.getElem?_drop] at hx hy
  exact h _ _ x y (by omega) hx hy
theorem NoK.of {A : List St} {z : St} (h : ∀ x ∈ A, ¬ (x.kind = 1 ∨ x.kind = 0)) : NoK (A ++ [z]) := fun i j x y hij hx hy => by
  have hj := (List.getElem?_eq_some_iff.1 hy).1
  rw [List.length_append, List.length_singleton] at hj
  rw [List.getElem?_append_left (by omega)] at hx
  exact h x (List.mem_of_getElem? hx)
theorem sbad_two (k c b wd : Int) : (sbadI k c b wd).2 = true ↔ c ≤ b + wd := by
  unfold sbadI
  by_cases h : wd - (c - b) < 0
  · rw [if_pos h]
    exact ⟨fun e => (by cases e), fun e => (by omega)⟩
  · rw [if_neg h]
    exact ⟨fun _ => (by omega), fun _ => rfl⟩
theorem tab_at (wd : Int) (l : List St) (bg : Int) (k : Nat) (x : St) (h : l[k]? = some x) : (tabT wd bg l)[k + 1]? = (tabT wd x.nxt.ce (l.drop (k + 1)))[0]? := by
  rw [← tabT_drop wd l bg k x h, List.getElem?_drop]
/-- The best way of a paragraph is the best. -/
theorem opt_para (wd : Int) (hw : 0 ≤ wd ∧ wd ≤ 1000) : ∀ (f : Nat) (l : List St) (bg : Int), l.length ≤ f → 0 ≤ bg ∧ bg ≤ 100000 → SmN l → FitsT wd bg l → l.length ≤ 5000 → RiseS l → NoK l →
    ∃ t, (tabT wd bg l)[0]? = some t ∧ costW wd bg (wayT f l (tabT wd bg l)) = t.bad ∧ ((wayT f l (tabT wd bg l)).length : Int) = t.cnt ∧ fitsW wd bg (wayT f l (tabT wd bg l)) = true ∧ WayL (wayT f l (tabT wd bg l)) l ∧
      ∀ V, WayL V l → fitsW wd bg V = true → LEk t.bad t.cnt (costW wd bg V) V.length ∧ (t.bad = costW wd bg V ∧ t.cnt = (V.length : Int) → LexOk (wayT f l (tabT wd bg l)) V) := by
  intro f
  induction f with
  | zero =>
    intro l bg hf hb hS hF hl hR hNK
    obtain rfl : l = [] := List.eq_nil_of_length_eq_zero (by omega)
    refine ⟨zeroR, rfl, rfl, rfl, rfl, .nil, fun V hV _ => ?_⟩
    cases hV with
    | nil => exact ⟨.inr ⟨rfl, Int.le_refl _⟩, fun _ => trivial⟩
    | cons k x V l h1 h2 => simp at h1
  | succ f ih =>
    intro l bg hf hb hS hF hl hR hNK
    by_cases hl0 : l = []
    · subst hl0
      rw [wayT_nil]
      refine ⟨zeroR, rfl, rfl, rfl, rfl, .nil, fun V hV _ => ?_⟩
      cases hV with
      | nil => exact ⟨.inr ⟨rfl, Int.le_refl _⟩, fun _ => trivial⟩
      | cons k x V l h1 h2 => simp at h1
    · obtain ⟨a, l1, rfl⟩ := List.exists_cons_of_ne_nil hl0
      have hlen := tabT_len wd bg (a :: l1)
      have hT0 : (tabT wd bg (a :: l1))[0]? = some (restGo bg wd 0 (a :: l1) (tabT wd a.nxt.ce l1) topR) := rfl
      have hTk : ∀ k : Nat, (tabT wd a.nxt.ce l1)[k]? = (tabT wd bg (a :: l1))[k + 1]? := fun k => rfl
      obtain ⟨sp1, sp2, sp3⟩ := rest_spec bg wd (a :: l1) (tabT wd a.nxt.ce l1) 0 topR
      have ok0 := tab_ok wd hw (a :: l1) bg hb hS hF hl
      have ok := ok0 0 _ hT0
      generalize hr : restGo bg wd 0 (a :: l1) (tabT wd a.nxt.ce l1) topR = r at *
      have hne : ¬ r = topR := fun e => by
        have h1 := ok.1.2
        rw [e] at h1
        have : topR.bad = 9223372036854775807 := rfl
        omega
      rcases sp1 with sp1 | ⟨k, y, t, b1, b2, b3, b4, b5, b6⟩
      · exact absurd sp1 hne
      rw [Nat.zero_add] at b4 b5 b6
      have hkl : k < (a :: l1).length := (List.getElem?_eq_some_iff.1 b1).1
      have hfst : r.fst = (k : Int) := by rw [b4]; rfl
      have hym := List.mem_of_getElem? b1
      have e1 : tabT wd bg (a :: l1) = r :: (tabT wd bg (a :: l1)).drop 1 := by
        have := drop_get hT0
        simpa using this
      have e2 : wayT (f + 1) (a :: l1) (tabT wd bg (a :: l1)) = y :: wayT f ((a :: l1).drop (k + 1)) (tabT wd y.nxt.ce ((a :: l1).drop (k + 1))) := by
        rw [← tabT_drop wd (a :: l1) bg k y b1]
        generalize tabT wd bg (a :: l1) = T at *
        rw [e1]
        show (match (a :: l1).drop r.fst.toNat with | [] => [] | x :: l' => x :: wayT f l' ((r :: T.drop 1).drop (r.fst.toNat + 1))) = _
        rw [hfst, Int.toNat_natCast, drop_get b1]
      have cond : ∀ (j : Nat) (z : St), (a :: l1)[j]? = some z → ∃ u, (tabT wd a.nxt.ce l1)[j]? = some u ∧ costW wd z.nxt.ce (wayT f ((a :: l1).drop (j + 1)) (tabT wd z.nxt.ce ((a :: l1).drop (j + 1)))) = u.bad ∧ ((wayT f ((a :: l1).drop (j + 1)) (tabT wd z.nxt.ce ((a :: l1).drop (j + 1)))).length : Int) = u.cnt ∧ fitsW wd z.nxt.ce (wayT f ((a :: l1).drop (j + 1)) (tabT wd z.nxt.ce ((a :: l1).drop (j + 1)))) = true ∧ WayL (wayT f ((a :: l1).drop (j + 1)) (tabT wd z.nxt.ce ((a :: l1).drop (j + 1)))) ((a :: l1).drop (j + 1)) ∧
          ∀ V, WayL V ((a :: l1).drop (j + 1)) → fitsW wd z.nxt.ce V = true → LEk u.bad u.cnt (costW wd z.nxt.ce V) V.length ∧ (u.bad = costW wd z.nxt.ce V ∧ u.cnt = (V.length : Int) → LexOk (wayT f ((a :: l1).drop (j + 1)) (tabT wd z.nxt.ce ((a :: l1).drop (j + 1)))) V) := by
        intro j z hz
        obtain ⟨u, q1, q2⟩ := ih ((a :: l1).drop (j + 1)) z.nxt.ce (by rw [List.length_drop]; omega) (hS z (List.mem_of_getElem? hz)).2 (hS.drop _) (fits_drop hF hz) (by rw [List.length_drop]; omega) (hR.drop _) (hNK.drop _)
        refine ⟨u, ?_, q2⟩
        rw [hTk, tab_at wd _ bg j z hz]
        exact q1
      obtain ⟨u, q1, q2, q3, q4, q5, q6⟩ := cond k y b1
      obtain rfl : t = u := by rw [b2] at q1; exact Option.some.inj q1
      rw [e2]
      have rb : r.bad = (sbadI y.kind y.fin.ce bg wd).1 + t.bad := by rw [b4]; rfl
      have rc : r.cnt = 1 + t.cnt := by rw [b4]; rfl
      refine ⟨r, hT0, ?_, ?_, ?_, .cons k y _ _ b1 q5, fun V hV hfV => ?_⟩
      · show (sbadI y.kind y.fin.ce bg wd).1 + costW wd y.nxt.ce _ = _
        rw [q2, rb]
      · rw [List.length_cons, rc, ← q3]
        omega
      · show ((sbadI y.kind y.fin.ce bg wd).2 && fitsW wd y.nxt.ce _) = true
        rw [b3, q4]
        rfl
      · cases hV with
        | cons j z V' _ hz hV' =>
          have hfV' : ((sbadI z.kind z.fin.ce bg wd).2 && fitsW wd z.nxt.ce V') = true := hfV
          rw [Bool.and_eq_true] at hfV'
          obtain ⟨u2, p1, p2, p3, p4, p5, p6⟩ := cond j z hz
          obtain ⟨g1, g2⟩ := p6 V' hV' hfV'.2
          have g3 := sp3 j z u2 hz p1 (fun i x hi hx => by
            rw [sbad_two]
            have h1 := (sbad_two _ _ _ _).1 hfV'.1
            by_cases hij : i = j
            · subst hij
              rw [hx] at hz
              obtain rfl := Option.some.inj hz
              exact h1
            · have := (hR i j x z (by omega) hx hz).2
              omega)
          have cb : (candR bg wd z u2 0).bad = (sbadI z.kind z.fin.ce bg wd).1 + u2.bad := rfl
          have cc : (candR bg wd z u2 0).cnt = 1 + u2.cnt := rfl
          rw [cb, cc] at g3
          have ec : costW wd bg (z :: V') = (sbadI z.kind z.fin.ce bg wd).1 + costW wd z.nxt.ce V' := rfl
          have el : ((z :: V').length : Int) = 1 + (V'.length : Int) := by simp; omega
          rw [ec, el]
          unfold LEk at g1 g3
          refine ⟨by unfold LEk; omega, fun heq => ?_⟩
          by_cases hkj : k = j
          · subst hkj
            rw [hz] at b1
            obtain rfl := Option.some.inj b1
            rw [p1] at b2
            obtain rfl := Option.some.inj b2
            exact .inl ⟨rfl, g2 ⟨by omega, by omega⟩⟩
          · by_cases hlt : k < j
            · rcases (hR k j y z hlt b1 hz).1 with h8 | h8
              · exact .inr h8
              · exact absurd h8 (hNK k j y z hlt b1 hz)
            · have h6 := b6 j z u2 (by omega) hz p1
              rw [cb, cc, ← b4] at h6
              unfold LTk at h6
              omega

/-- The ways of a text: all places that every way has are in it. -/
inductive SubK : List St → List St → Prop
  | nil : SubK [] []
  | take (x : St) (V S : List St) : SubK V S → SubK (x :: V) (x :: S)
  | skip (x : St) (V S : List St) : ¬ (x.kind = 1 ∨ x.kind = 0) → SubK V S → SubK V (x :: S)
theorem SubK.split : ∀ {A : List St} {x : St} {B V : List St}, SubK V (A ++ x :: B) → (x.kind = 1 ∨ x.kind = 0) → ∃ V1 V2, V = V1 ++ x :: V2 ∧ SubK V1 A ∧ SubK V2 B
  | [], x, B, V, h, hx => by
    cases h with
    | take _ V' _ h => exact ⟨[], V', rfl, .nil, h⟩
    | skip _ _ _ hn h => exact absurd hx hn
  | a :: A, x, B, V, h, hx => by
    cases h with
    | take _ V' _ h =>
      obtain ⟨V1, V2, rfl, h1, h2⟩ := SubK.split h hx
      exact ⟨a :: V1, V2, rfl, .take a _ _ h1, h2⟩
    | skip _ _ _ hn h =>
      obtain ⟨V1, V2, rfl, h1, h2⟩ := SubK.split h hx
      exact ⟨V1, V2, rfl, .skip a _ _ hn h1, h2⟩
theorem SubK.append : ∀ {A V B U : List St}, SubK V A → SubK U B → SubK (V ++ U) (A ++ B)
  | _, _, _, _, .nil, h => h
  | _, _, _, _, .take x _ _ h1, h => .take x _ _ (SubK.append h1 h)
  | _, _, _, _, .skip x _ _ hn h1, h => .skip x _ _ hn (SubK.append h1 h)
theorem WayL.shift {V l : List St} (a : St) (h : WayL V l) (hne : V ≠ []) : WayL V (a :: l) := by
  cases h with
  | nil => exact absurd rfl hne
  | cons k x V l h1 h2 => exact .cons (k + 1) x V (a :: l) (by simpa using h1) (by simpa using h2)
theorem SubK.way : ∀ {A V : List St} (x : St), SubK V A → WayL (V ++ [x]) (A ++ [x])
  | _, _, x, .nil => .cons 0 x [] [x] rfl .nil
  | _, _, x, .take y V S h => .cons 0 y _ _ rfl (by simpa using SubK.way x h)
  | _, _, x, .skip y V S hn h => (SubK.way x h).shift y (by simp)
theorem wayL_skip : ∀ (k : Nat) (l : List St) (y : St) (V : List St), l[k]? = some y → (∀ z ∈ l.take k, ¬ (z.kind = 1 ∨ z.kind = 0)) → SubK V (l.drop (k + 1)) → SubK (y :: V) l
  | 0, [], y, V, h, _, _ => by simp at h
  | 0, a :: l, y, V, h, _, h3 => by
    obtain rfl : a = y := by simpa using h
    exact .take a V l (by simpa using h3)
  | k + 1, [], y, V, h, _, _ => by simp at h
  | k + 1, a :: l, y, V, h, h2, h3 => .skip a _ _ (h2 a (by simp)) (wayL_skip k l y V (by simpa using h) (fun z hz => h2 z (by simp [hz])) (by simpa using h3))
theorem WayL.sub {V l : List St} (h : WayL V l) : ∀ (A : List St) (x : St), l = A ++ [x] → (∀ z ∈ A, ¬ (z.kind = 1 ∨ z.kind = 0)) → SubK V l := by
  induction h with
  | nil => intro A x e; simp at e
  | cons k y V l h1 h2 ih =>
    rintro A x rfl hA
    have hk := (List.getElem?_eq_some_iff.1 h1).1
    rw [List.length_append, List.length_singleton] at hk
    by_cases hl : k = A.length
    · subst hl
      have e : (A ++ [x]).drop (A.length + 1) = [] := by simp
      rw [e] at h2
      cases h2 with
      | nil => exact wayL_skip A.length _ y [] h1 (by simpa using hA) (by rw [e]; exact .nil)
      | cons k' x' V' _ g1 _ => simp at g1
    · have e : (A ++ [x]).drop (k + 1) = A.drop (k + 1) ++ [x] := List.drop_append_of_le_length (by omega)
      refine wayL_skip k _ y V h1 (fun z hz => ?_) (ih (A.drop (k + 1)) x e (fun z hz => hA z (List.mem_of_mem_drop hz)))
      rw [List.take_append_of_le_length (by omega)] at hz
      exact hA z (List.mem_of_mem_take hz)
theorem cost_append (wd : Int) : ∀ (A : List St) (x : St) (B : List St) (bg : Int), costW wd bg (A ++ x :: B) = costW wd bg (A ++ [x]) + costW wd x.nxt.ce B ∧ fitsW wd bg (A ++ x :: B) = (fitsW wd bg (A ++ [x]) && fitsW wd x.nxt.ce B)
  | [], x, B, bg => by
    refine ⟨?_, ?_⟩
    · show _ + costW wd x.nxt.ce B = (_ + 0) + _
      omega
    · show (_ && fitsW wd x.nxt.ce B) = ((_ && true) && _)
      rw [Bool.and_true]
  | a :: A, x, B, bg => by
    obtain ⟨h1, h2⟩ := cost_append wd A x B a.nxt.ce
    refine ⟨?_, ?_⟩
    · show _ + costW wd a.nxt.ce (A ++ x :: B) = (_ + costW wd a.nxt.ce (A ++ [x])) + _
      rw [h1]
      omega
    · show (_ && fitsW wd a.nxt.ce (A ++ x :: B)) = ((_ && fitsW wd a.nxt.ce (A ++ [x])) && _)
      rw [h2, Bool.and_assoc]
theorem lexOk_append : ∀ (W V : List St) (W2 V2 : List St), W.length = V.length → LexOk W V → LexOk W2 V2 → LexOk (W ++ W2) (V ++ V2)
  | [], [], W2, V2, _, _, h => h
  | [], _ :: _, _, _, h, _, _ => by simp at h
  | _ :: _, [], _, _, h, _, _ => by simp at h
  | x :: W, y :: V, W2, V2, hl, h, h2 => by
    rcases h with ⟨e, h⟩ | h
    · exact .inl ⟨e, lexOk_append W V W2 V2 (by simpa using hl) h h2⟩
    · exact .inr h
/-- The best way of paragraphs is the best. -/
theorem opt_paras (wd : Int) (hw : 0 ≤ wd ∧ wd ≤ 1000) : ∀ (l acc way : List St) (fr n : Nat) (zl : St), (∀ z ∈ acc, ¬ (z.kind = 1 ∨ z.kind = 0)) → (l = [] → acc = []) → (l ≠ [] → l.getLast? = some zl) → zl.kind = 1 ∨ zl.kind = 0 → 0 ≤ (bgP way).ce ∧ (bgP way).ce ≤ 100000 → SmN (acc ++ l) → FitsT wd (bgP way).ce (acc ++ l) → (acc ++ l).length ≤ 5000 → RiseS (acc ++ l) →
    ∃ W, leastW wd way (parasG fr n acc l) = way ++ W ∧ fitsW wd (bgP way).ce W = true ∧ SubK W (acc ++ l) ∧
      ∀ V, SubK V (acc ++ l) → fitsW wd (bgP way).ce V = true → LEk (costW wd (bgP way).ce W) W.length (costW wd (bgP way).ce V) V.length ∧ (costW wd (bgP way).ce W = costW wd (bgP way).ce V ∧ (W.length : Int) = V.length → LexOk W V)
  | [], acc, way, fr, n, zl, _, ha, _, _, _, _, _, _, _ => by
    obtain rfl := ha rfl
    refine ⟨[], (List.append_nil _).symm, rfl, .nil, fun V hV _ => ?_⟩
    cases hV with
    | nil => exact ⟨.inr ⟨rfl, Int.le_refl _⟩, fun _ => trivial⟩
  | x :: l, acc, way, fr, n, zl, hacc, _, hlast, hzl, hb, hS, hF, hl, hR => by
    have hlen : (acc ++ x :: l).length = acc.length + 1 + l.length := by simp; omega
    by_cases hx : x.kind = 1 ∨ x.kind = 0
    · rw [parasG, if_pos hx]
      have hS1 : SmN (acc ++ [x]) := fun y hy => hS y (by
        simp at hy ⊢
        rcases hy with hy | hy
        · exact .inl hy
        · exact .inr (.inl hy))
      have hS2 : SmN l := fun y hy => hS y (by simp [hy])
      obtain ⟨f1, f2⟩ := fitsT_split wd acc x l _ hF
      have e3 : acc ++ x :: l = (acc ++ [x]) ++ l := by simp
      have hR1 : RiseS (acc ++ [x]) := fun i j p q hij hp hq => hR i j p q hij (by rw [e3, List.getElem?_append_left (List.getElem?_eq_some_iff.1 hp).1]; exact hp) (by rw [e3, List.getElem?_append_left (List.getElem?_eq_some_iff.1 hq).1]; exact hq)
      have hR2 : RiseS l := by
        have := hR.drop (acc.length + 1)
        rw [e3, List.drop_left' (by simp)] at this
        exact this
      obtain ⟨t, t1, t2, t3, t4, t5, t6⟩ := opt_para wd hw (acc ++ [x]).length (acc ++ [x]) (bgP way).ce (Nat.le_refl _) hb hS1 f1 (by simp; omega) hR1 (NoK.of hacc)
      obtain ⟨Z, hZ⟩ := wayT_last wd hw (acc ++ [x]).length (acc ++ [x]) (bgP way).ce x (Nat.le_refl _) List.getLast?_concat hb hS1 f1 (by simp; omega)
      rw [hZ] at t2 t3 t4 t5 t6
      have e : leastP wd (bgP way).ce (acc ++ [x]) = Z ++ [x] := hZ
      have hbg : bgP (way ++ (Z ++ [x])) = x.nxt := by rw [← List.append_assoc, bgP_snoc]
      obtain ⟨W, w1, w2, w3, w4⟩ := opt_paras wd hw l [] (way ++ (Z ++ [x])) (n + 1) (n + 1) zl (fun z hz => by simp at hz) (fun _ => rfl) (fun hne => by
        have := hlast (by simp)
        obtain ⟨b, l', rfl⟩ := List.exists_cons_of_ne_nil hne
        rwa [List.getLast?_cons_cons] at this) hzl (by rw [hbg]; exact (hS x (by simp)).2) hS2 (by rw [hbg]; exact f2) (by simp; omega) hR2
      rw [hbg] at w2 w4
      have c1 := cost_append wd Z x W (bgP way).ce
      refine ⟨Z ++ x :: W, ?_, ?_, ?_, fun V hV hfV => ?_⟩
      · show leastW wd (way ++ leastP wd (bgP way).ce (acc ++ [x])) _ = _
        rw [e, w1]
        simp
      · rw [c1.2, t4, w2]
        rfl
      · rw [show Z ++ x :: W = (Z ++ [x]) ++ W by simp, e3]
        exact SubK.append (t5.sub acc x rfl hacc) w3
      · obtain ⟨V1, V2, rfl, v1, v2⟩ := hV.split hx
        have c2 := cost_append wd V1 x V2 (bgP way).ce
        rw [c2.2, Bool.and_eq_true] at hfV
        obtain ⟨o1, o2⟩ := t6 (V1 ++ [x]) (v1.way x) hfV.1
        obtain ⟨o3, o4⟩ := w4 V2 v2 hfV.2
        rw [c1.1, c2.1, t2]
        have l1 : ((Z ++ x :: W).length : Int) = t.cnt + (W.length : Int) := by rw [← t3]; simp; omega
        have l2 : ((V1 ++ x :: V2).length : Int) = ((V1 ++ [x]).length : Int) + (V2.length : Int) := by simp; omega
        rw [l1, l2]
        unfold LEk at o1 o3
        refine ⟨by unfold LEk; omega, fun heq => ?_⟩
        rw [show Z ++ x :: W = (Z ++ [x]) ++ W by simp, show V1 ++ x :: V2 = (V1 ++ [x]) ++ V2 by simp]
        refine lexOk_append _ _ _ _ ?_ (o2 ⟨by omega, by omega⟩) (o4 ⟨by omega, by omega⟩)
        have : ((Z ++ [x]).length : Int) = ((V1 ++ [x]).length : Int) := by rw [t3]; omega
        omega
    · rw [parasG, if_neg hx]
      have e3 : acc ++ x :: l = (acc ++ [x]) ++ l := by simp
      have hln : l ≠ [] := fun h0 => by
        have := hlast (by simp)
        rw [h0] at this
        obtain rfl : x = zl := by simpa using this
        exact hx hzl
      rw [e3] at hS hF hl hR ⊢
      exact opt_paras wd hw l (acc ++ [x]) way fr (n + 1) zl (fun z hz => by
        simp at hz
        rcases hz with hz | hz
        · exact hacc z hz
        · rw [hz]; exact hx) (fun h0 => absurd h0 hln) (fun hne => by
        have := hlast (by simp)
        obtain ⟨b, l', rfl⟩ := List.exists_cons_of_ne_nil hne
        rwa [List.getLast?_cons_cons] at this) hzl hb hS hF hl hR

end Go.Proofs.YtpnojhomjkopeaaDoor
