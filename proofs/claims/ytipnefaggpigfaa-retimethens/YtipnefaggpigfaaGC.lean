/- Several texts, one behind the other. -/
import Derived.OwnWalkIn
import Derived.Test.YtipnefaggpigfaaGB
import Derived.Test.YtipnefaggpigfaaKnR
/- All of some times: retime's each, All; the law's fine, knots (chapter 6). -/
namespace Go.Proofs.Ytipnefaggpigfaa
open Go.RowKit Go.Shelf

/-- What all tell: the first error and its place, or all. -/
def allI (f : Rt → Rt × Int) : Nat → List Rt → Int × Int
  | _, [] => (0, 0)
  | k, t :: T => if (f t).2 = 0 then allI f (k + 1) T else ((k : Int), (f t).2)
def allQ (f : Rt → Rt × Int) (T : List Rt) : List Rt := if (allI f 0 T).2 = 0 then T.map fun t => (f t).1 else []
theorem allI_drop (f : Rt → Rt × Int) {T : List Rt} {i : Nat} {t : Rt} (h : T[i]? = some t) : allI f i (T.drop i) = if (f t).2 = 0 then allI f (i + 1) (T.drop (i + 1)) else ((i : Int), (f t).2) := by
  obtain ⟨h1, e1⟩ := List.getElem?_eq_some_iff.1 h
  rw [List.drop_eq_getElem_cons h1, e1]
  rfl
set_option maxRecDepth 100000 in
set_option maxHeartbeats 2000000 in
theorem each_any6 (f : Rt → Rt × Int) (B : Nat) (T : List Rt) (ot : Option Addr) (c : Nat) (hc : T.length ≤ c ∧ c ≤ maxLen) (hn : T.length ≤ 1000000) (w : World) (hO : RtO w ot T)
    (H : ∀ t ∈ T, ∀ W, Below w.heap.size w W → Calls Try.prog 16 #[.pointer (some ⟨B, 0, none⟩), .agg #[.int .i64 t.N, .int .i64 t.D]] W fun e w' => e = .returned (.tuple #[.agg #[.int .i64 (f t).1.N, .int .i64 (f t).1.D], .int .i64 (f t).2]) ∧ Below W.heap.size W w') :
    Calls Try.prog 33 #[.slice ot T.length c, .func (.func 16) #[.pointer (some ⟨B, 0, none⟩)] #[]] w fun e w' => ∃ v, e = .returned (.tuple #[v, .int .i64 (allI f 0 T).1, .int .i64 (allI f 0 T).2]) ∧ w'.ownsRow w.heap.size 42 2 v (allQ f T).length (flatRt (allQ f T)) ∧ Below w.heap.size w w' := by
  obtain ⟨i0, hI, hz0, hz1, hz2⟩ := info_partsK infoRtK
  have hmx : maxLen ≤ 9223372036854775807 := by decide
  obtain ⟨n, hn'⟩ : ∃ n, T.length = n := ⟨_, rfl⟩
  have HN := hideK hn'
  have HO := hideK hO
  have HH := hideK H
  rw [hn'] at hc hn ⊢
  clear hn' hO H
  obtain ⟨PO, hPO⟩ : ∃ PO : Ending → World → Prop, (fun e w' => ∃ v, e = .returned (.tuple #[v, .int .i64 (allI f 0 T).1, .int .i64 (allI f 0 T).2]) ∧ w'.ownsRow w.heap.size 42 2 v (allQ f T).length (flatRt (allQ f T)) ∧ Below w.heap.size w w') = PO := ⟨_, rfl⟩
  have HP := hideK hPO
  rw [hPO]
  clear hPO
  go_enter Try.func33, Try.ntmps33
  go_wp2_with fail
  go_loopw [7, 14] (fun lv iv wq => ∃ i : Nat, iv = .int .i64 (i : Nat) ∧ i ≤ n ∧ wq.ownsRow w.heap.size 42 2 lv i (flatRt ((T.take i).map fun t => (f t).1)) ∧ allI f 0 T = allI f i (T.drop i) ∧ Below w.heap.size w wq) (fun _ iv _ => n - (intOf iv).toNat)
  case atStart => exact ⟨0, rfl, Nat.zero_le _, World.ownsRow_nil _ _ _ _, rfl, Below.refl _ _⟩
  case round =>
    obtain ⟨i, rfl, hi, hown, hs, hb⟩ := hrel
    obtain ⟨wq, rfl⟩ : ∃ wq, wq = wr := ⟨_, rfl⟩
    by_cases hlt : i < n
    · obtain ⟨t, ht⟩ : ∃ t, T[i]? = some t := ⟨_, List.getElem?_eq_getElem (by rw [HN.out]; omega)⟩
      obtain ⟨A, rfl, hA, a0, a1⟩ := (HO.out.keep hb).get ht
      have HC := hideK (HH.out t (List.mem_of_getElem? ht))
      have HS := hideK (hs.trans (allI_drop f ht))
      have HTk := hideK (show (T.take (i + 1)).map (fun t => (f t).1) = (T.take i).map (fun t => (f t).1) ++ [(f t).1] by rw [List.take_add_one, ht, List.map_append]; rfl)
      obtain ⟨r, hr⟩ : ∃ r, f t = r := ⟨_, rfl⟩
      rw [hr] at HC HS HTk
      have HA := hideK (And.intro hown hb)
      clear hr hown hs hb ht
      have di : (i : Int) < (n : Int) := by omega
      have wk : IntKind.i64.wrap ((i : Int) + 1) = ((i + 1 : Nat) : Int) := by rw [show ((i + 1 : Nat) : Int) = (i : Int) + 1 by omega]; exact IntWalk.i64_in _ ⟨by omega, by omega⟩
      go_wp2_with fail
      obtain ⟨V, hV⟩ : ∃ V, wq.alloc (.cells #[.int .i64 t.N, .int .i64 t.D] 42) = V := ⟨_, rfl⟩
      have HV : Hid (Below wq.heap.size wq V) := hideK (by rw [← hV]; exact bel1 _ _)
      rw [hV]
      clear hV a0 a1
      refine (HC.out V (bup HA.out.2 HV.out)).mono ?_
      rintro e w2 ⟨rfl, b2⟩
      have HB := hideK (bup HV.out b2)
      clear b2 HC
      go_upto_region 6 with fail
      obtain ⟨W, hW⟩ : ∃ W, w2.alloc (.cells #[.int .i64 r.1.N, .int .i64 r.1.D] 42) = W := ⟨_, rfl⟩
      have HW : Hid (Below wq.heap.size wq W ∧ Two W w2.heap.size (.int .i64 r.1.N) (.int .i64 r.1.D)) := hideK (by
        rw [← hW]
        exact ⟨bup HB.out (bel1 _ _), Two.new _ _ _ _⟩)
      rw [hW]
      clear hW
      by_cases hre : r.2 = 0
      · obtain ⟨_, k0, k1, _, _⟩ := HW.out.2
        have hownW := own_growK HA.out.1 HW.out.1
        have hzW := HW.out.1.size
        have hz9 := HA.out.2.size
        go_wp2_with (at_builtin; refine wpList_append_lies _ rfl _ _ 23 rfl w.heap.size 42 i0 _ 2 16 Try.underlying23 hI hz0 hz1 ‹_› rfl (by decide) _ i (flatRt ((T.take i).map fun t => (f t).1)) rfl (hownW.alloc _) ⟨W.heap.size, 0, none⟩ 1 1 [.int .i64 r.1.N, .int .i64 r.1.D] rfl rfl (World.news_of_block (cs := #[.int .i64 r.1.N, .int .i64 r.1.D]) (t := 42) (fr := (0, 0)) (World.alloc_heap_new W _)) (by simp [Value.oneCell']) (by omega) (by unfold maxLen; omega) (by omega) (by simp; omega) (W.heap.size + 1) (by simp) ?_; intro gg cap2 w6 hown6 hgrow6 hat6 hlt6)
        go_roundw
        case rel =>
          refine ⟨i + 1, by first | rfl | simp, by omega, ?_, ?_, ?_⟩
          · rw [HTk.out, flatRt_app]
            exact hown6
          · rw [HS.out, if_pos hre]
          · exact Below.grown ((HA.out.2.trans (HW.out.1.mono hz9)).alloc (by omega) _) hgrow6 (by rw [World.size_alloc]; omega) (fun k hk => (hownW.lt k hk).1)
        case measure => simp [intOf]; omega
      · have hbb : allI f 0 T = ((i : Int), r.2) := by rw [HS.out, if_neg hre]
        have HBB := hideK hbb
        clear hbb
        go_wp2_with fail
        refine bodyPost_ret (v := .tuple #[.slice none 0 0, .int .i64 (i : Int), .int .i64 r.2]) (by simp [results, Try.results33, go_sem]) rfl ?_
        rw [← HP.out]
        refine ⟨.slice none 0 0, by rw [HBB.out], ?_, bup HA.out.2 HW.out.1⟩
        unfold allQ
        rw [HBB.out, if_neg hre]
        exact World.ownsRow_nil _ _ _ _
    · obtain rfl : i = n := by omega
      have d2 : ¬ (i : Int) < (i : Int) := by omega
      have hk : T.take i = T := List.take_of_length_le (by rw [HN.out]; exact Nat.le_refl _)
      have hk2 : T.drop i = [] := List.drop_eq_nil_of_le (by rw [HN.out]; exact Nat.le_refl _)
      rw [hk] at hown
      rw [hk2] at hs
      have hs : allI f 0 T = (0, 0) := hs
      have HA := hideK (And.intro hown (And.intro hs hb))
      clear hk hk2 hown hs hb
      go_wp2_with fail
      refine bodyPost_ret (v := .tuple #[_, .int .i64 0, .int .i64 0]) (by simp [results, Try.results33, go_sem]; rfl) rfl ?_
      rw [← HP.out]
      refine ⟨_, by rw [HA.out.2.1], ?_, HA.out.2.2⟩
      unfold allQ
      rw [HA.out.2.1, if_pos rfl, List.length_map, HN.out]
      exact HA.out.1
theorem all_any6 (f : Rt → Rt × Int) (B : Nat) (T : List Rt) (ot : Option Addr) (c : Nat) (hc : T.length ≤ c ∧ c ≤ maxLen) (hn : T.length ≤ 1000000) (w : World) (hO : RtO w ot T)
    (H : ∀ t ∈ T, ∀ W, Below w.heap.size w W → Calls Try.prog 16 #[.pointer (some ⟨B, 0, none⟩), .agg #[.int .i64 t.N, .int .i64 t.D]] W fun e w' => e = .returned (.tuple #[.agg #[.int .i64 (f t).1.N, .int .i64 (f t).1.D], .int .i64 (f t).2]) ∧ Below W.heap.size W w') :
    Calls Try.prog 41 #[.pointer (some ⟨B, 0, none⟩), .slice ot T.length c] w fun e w' => ∃ v, e = .returned (.tuple #[v, .int .i64 (allI f 0 T).1, .int .i64 (allI f 0 T).2]) ∧ w'.ownsRow w.heap.size 42 2 v (allQ f T).length (flatRt (allQ f T)) ∧ Below w.heap.size w w' := by
  have he := hideK (each_any6 f B T ot c hc hn w hO H)
  obtain ⟨n, hn'⟩ : ∃ n, T.length = n := ⟨_, rfl⟩
  rw [hn'] at he ⊢
  generalize (allI f 0 T).1 = a1 at *
  generalize (allI f 0 T).2 = a2 at *
  generalize allQ f T = Q at *
  clear hO H hc hn hn'
  go_enter Try.func41, Try.ntmps41
  go_wp2_with fail
  refine he.out.mono ?_
  rintro e w2 ⟨v, rfl, hown, b2⟩
  have HA := hideK (And.intro hown b2)
  clear hown b2
  go_wp2_with fail
  refine bodyPost_ret (v := .tuple #[v, .int .i64 a1, .int .i64 a2]) (by simp [results, Try.results41, go_sem]) rfl ?_
  exact ⟨v, rfl, HA.out.1, HA.out.2⟩
end Go.Proofs.Ytipnefaggpigfaa

/- One map behind another: its line (chapter 6). -/
namespace Go.Proofs.Ytipnefaggpigfaa

/-- A function that is straight on a set. -/
def Aff (F : Rat → Rat) (I : Rat → Prop) : Prop := ∃ a b, ∀ t, I t → F t = a + t * b
/-- A set on one side of a point. -/
def Side (I : Rat → Prop) (b : Rat) : Prop := (∀ t, I t → b ≤ t) ∨ (∀ t, I t → t ≤ b)
theorem hev_aff : ∀ (R : List (Rat × Rat)) (x0 o0 s0 : Rat) (I : Rat → Prop), RisB R → (∀ y ∈ R, Side I y.1) → Aff (hev x0 o0 s0 R) I
  | [], x0, o0, s0, I, _, _ => ⟨o0 - x0 * s0, s0, fun t _ => by rw [hev_nil]; grind⟩
  | (i, s) :: R, x0, o0, s0, I, hp, h => by
    have hp' := List.pairwise_cons.1 hp
    rcases h (i, s) (List.mem_cons_self ..) with h1 | h1
    · obtain ⟨a, b, hab⟩ := hev_aff R i (o0 + (i - x0) * s0) s I hp'.2 (fun y hy => h y (List.mem_cons_of_mem _ hy))
      refine ⟨a, b, fun t ht => ?_⟩
      rw [hev_cons]
      by_cases hti : t ≤ i
      · obtain rfl : t = i := Rat.le_antisymm hti (h1 t ht)
        rw [if_pos hti, ← hab t ht, hev_first _ _ _ _ _ (fun y hy => by
          have := hp'.1 y (List.mem_of_getElem? hy)
          grind)]
        grind
      · rw [if_neg hti]
        exact hab t ht
    · refine ⟨o0 - x0 * s0, s0, fun t ht => ?_⟩
      rw [hev_cons, if_pos (h1 t ht)]
      grind
theorem aff_from (F : Rat → Rat) : ∀ (B : List Rat) (c : Rat), (c :: B).Pairwise (· < ·) → (∀ I : Rat → Prop, (∀ t, I t → c ≤ t) → (∀ b ∈ B, Side I b) → Aff F I) → ∃ s0 S, S.length = B.length ∧ ∀ t, c ≤ t → F t = hev c (F c) s0 (B.zip S) t
  | [], c, _, h => by
    obtain ⟨a, b, hab⟩ := h (fun t => c ≤ t) (fun t ht => ht) (fun _ h => by cases h)
    refine ⟨b, [], rfl, fun t ht => ?_⟩
    show F t = hev c (F c) b [] t
    rw [hev_nil, hab t ht, hab c Rat.le_refl]
    grind
  | b :: B, c, hp, h => by
    have hp' := List.pairwise_cons.1 hp
    have hpb := List.pairwise_cons.1 hp'.2
    have hcb := hp'.1 b (List.mem_cons_self ..)
    obtain ⟨a, s0, hab⟩ := h (fun t => c ≤ t ∧ t ≤ b) (fun t ht => ht.1) (fun d hd => by
      rcases List.mem_cons.1 hd with rfl | hd
      · exact .inr fun t ht => ht.2
      · have := hpb.1 d hd
        exact .inr fun t ht => by have := ht.2; grind)
    obtain ⟨s, S, hS, hs⟩ := aff_from F B b hp'.2 (fun I hI hB => h I (fun t ht => by have := hI t ht; grind) (fun d hd => by
      rcases List.mem_cons.1 hd with rfl | hd
      · exact .inl hI
      · exact hB d hd))
    refine ⟨s0, s :: S, by simp [hS], fun t ht => ?_⟩
    have hc := hab c ⟨Rat.le_refl, by grind⟩
    have hb := hab b ⟨by grind, Rat.le_refl⟩
    have e : F c + (b - c) * s0 = F b := by grind
    show F t = hev c (F c) s0 ((b, s) :: B.zip S) t
    rw [hev_cons, e]
    by_cases htb : t ≤ b
    · rw [if_pos htb, hab t ⟨ht, htb⟩]
      grind
    · rw [if_neg htb]
      exact hs t (by grind)
theorem aff_all (F : Rat → Rat) (b : Rat) (B : List Rat) (hp : (b :: B).Pairwise (· < ·)) (h : ∀ I : Rat → Prop, (∀ d ∈ b :: B, Side I d) → Aff F I) : ∃ x0 o0 s0 s S, S.length = B.length ∧ ∀ t, F t = hev x0 o0 s0 ((b, s) :: B.zip S) t := by
  have hp' := List.pairwise_cons.1 hp
  obtain ⟨a, s0, hab⟩ := h (fun t => t ≤ b) (fun d hd => by
    rcases List.mem_cons.1 hd with rfl | hd
    · exact .inr fun t ht => ht
    · have := hp'.1 d hd
      exact .inr fun t (ht : t ≤ b) => by grind)
  obtain ⟨s, S, hS, hs⟩ := aff_from F B b hp (fun I hI hB => h I (fun d hd => by
    rcases List.mem_cons.1 hd with rfl | hd
    · exact .inl hI
    · exact hB d hd))
  refine ⟨0, a, s0, s, S, hS, fun t => ?_⟩
  have hb := hab b Rat.le_refl
  have e : a + (b - 0) * s0 = F b := by grind
  rw [hev_cons, e]
  by_cases htb : t ≤ b
  · rw [if_pos htb, hab t htb]
    grind
  · rw [if_neg htb]
    exact hs t (by grind)
/-- Knots at the points of bends lie on a line that has no other bends. -/
theorem pts_line {F : Rat → Rat} {B : List Rt} {l : List Kn} (hB : RisL B) (hF : ∀ I : Rat → Prop, (∀ b ∈ B, Side I (valQ b)) → Aff F I) (hins : l.map (fun x => valQ x.i) = ptV B) (hr : RisQ (·.i) l) (he : slE l = 0)
    (ho : ∀ x ∈ l, rightB x.o = true ∧ F (valQ x.i) = valQ x.o) : LineOf F l (slsK l) := by
  cases B with
  | nil =>
    obtain ⟨a, b, hab⟩ := hF (fun _ => True) (fun _ h => by cases h)
    refine own_slopes (q := (0, b)) (Q0 := []) (e := 1) (x0 := 0) (o0 := a) (by rw [hins]; rfl) hr he ho (fun t => ?_)
    show F t = hev _ _ b [(0, b), (1, b)] t
    rw [hev_drop _ _ _ _ _ _ (fun y hy => by rw [List.mem_singleton.1 hy]; exact (by decide +kernel : (0 : Rat) ≤ 1)), hev_drop _ _ _ _ _ _ (fun _ h => by cases h), hev_nil, hab t trivial]
    grind
  | cons b L =>
    have hpw : (valQ b :: L.map valQ).Pairwise (· < ·) := by
      have := hB.2
      rw [← List.map_cons, List.pairwise_map]
      exact this
    obtain ⟨x0, o0, s0, s, S, hS, hh⟩ := aff_all F (valQ b) (L.map valQ) hpw (fun I hI => hF I (fun d hd => hI _ (by rw [← List.map_cons]; exact List.mem_map.2 ⟨d, hd, rfl⟩)))
    have hz : ((L.map valQ).zip S).map (·.1) = L.map valQ := List.map_fst_zip (by omega)
    have hmem : ∀ y ∈ (valQ b, s) :: (L.map valQ).zip S, valQ b ≤ y.1 := fun y hy => by
      rcases List.mem_cons.1 hy with rfl | hy
      · exact Rat.le_refl
      · have h1 : y.1 ∈ L.map valQ := by rw [← hz]; exact List.mem_map.2 ⟨y, hy, rfl⟩
        have := (List.pairwise_cons.1 hpw).1 _ h1
        grind
    have hlast : valQ b ≤ valQ ((b :: L).getLastD b) := by
      rw [List.getLastD_cons]
      rcases List.mem_cons.1 (lastD_mem b L) with e | e
      · rw [e]; exact Rat.le_refl
      · have := (List.pairwise_cons.1 hB.2).1 _ e
        grind
    refine own_slopes (q := (valQ b - 1, s0)) (Q0 := (valQ b, s) :: (L.map valQ).zip S) (e := valQ ((b :: L).getLastD b) + 1) (x0 := x0) (o0 := o0) ?_ hr he ho (fun t => ?_)
    · rw [hins]
      show (valQ b - 1) :: (((valQ b, s) :: (L.map valQ).zip S ++ [_]).map (Prod.fst (α := Rat) (β := Rat))) = (valQ b - 1) :: ((b :: L).map valQ ++ [_])
      rw [List.map_append, List.map_cons, hz]
      rfl
    · rw [hh]
      show _ = hev _ _ s0 ((_, s0) :: ((valQ b, s) :: (L.map valQ).zip S ++ [_])) t
      rw [hev_drop, hev_end]
      intro y hy
      rcases List.mem_append.1 hy with hy | hy
      · have := hmem y hy
        show valQ b - 1 ≤ y.1
        grind
      · rw [List.mem_singleton.1 hy]
        show valQ b - 1 ≤ _ + 1
        grind
theorem bnd_val {L : List Kn} : ((bntK L (slsK L)).map pqK).map (·.1) = (bndK L).map valQ := by
  unfold bndK bndI
  rw [List.map_map, List.map_map]
  rfl
theorem line_aff {h : Rat → Rat} {L : List Kn} (hl : LineOf h L (slsK L)) (I : Rat → Prop) (hI : ∀ b ∈ bndK L, Side I (valQ b)) : Aff h I := by
  obtain ⟨x0, o0, hh⟩ := line_bnt hl
  obtain ⟨a, b, hab⟩ := hev_aff ((bntK L (slsK L)).map pqK) x0 o0 (valQ ((slsK L).headD ⟨1, 1⟩)) I (bnt_ris hl.ris.2 _) (fun y hy => by
    have h1 : y.1 ∈ (bndK L).map valQ := by rw [← bnd_val]; exact List.mem_map.2 ⟨y, hy, rfl⟩
    obtain ⟨d, hd, e⟩ := List.mem_map.1 h1
    rw [← e]
    exact hI d hd)
  exact ⟨a, b, fun t ht => by rw [hh]; exact hab t ht⟩
theorem mono_le {h : Rat → Rat} (hm : ∀ t u, t < u → h t < h u) {t u : Rat} (htu : t ≤ u) : h t ≤ h u := by
  by_cases e : t = u
  · rw [e]; exact Rat.le_refl
  · have := hm t u (by grind)
    grind
theorem mono_inj {h : Rat → Rat} (hm : ∀ t u, t < u → h t < h u) {t u : Rat} (e : h t = h u) : t = u := by
  by_cases h1 : t < u
  · have := hm _ _ h1; grind
  · by_cases h2 : u < t
    · have := hm _ _ h2; grind
    · grind
theorem aff_comp {f1 f2 : Rat → Rat} {K1 K2 : List Kn} {B : List Rt} (l1 : LineOf f1 K1 (slsK K1)) (l2 : LineOf f2 K2 (slsK K2)) (hm : ∀ t u, t < u → f1 t < f1 u) (c1 : ∀ b ∈ bndK K1, ∃ x ∈ B, valQ x = valQ b) (c2 : ∀ b ∈ bndK K2, ∃ x ∈ B, f1 (valQ x) = valQ b)
    (I : Rat → Prop) (hI : ∀ b ∈ B, Side I (valQ b)) : Aff (fun t => f2 (f1 t)) I := by
  obtain ⟨a1, b1, h1⟩ := line_aff l1 I (fun b hb => by
    obtain ⟨x, hx, e⟩ := c1 b hb
    rw [← e]
    exact hI x hx)
  obtain ⟨a2, b2, h2⟩ := line_aff l2 (fun u => ∃ t, I t ∧ f1 t = u) (fun b hb => by
    obtain ⟨x, hx, e⟩ := c2 b hb
    rw [← e]
    rcases hI x hx with h | h
    · exact .inl fun u ⟨t, ht, e⟩ => by rw [← e]; exact mono_le hm (h t ht)
    · exact .inr fun u ⟨t, ht, e⟩ => by rw [← e]; exact mono_le hm (h t ht))
  refine ⟨a2 + a1 * b2, b1 * b2, fun t ht => ?_⟩
  show f2 (f1 t) = _
  rw [h2 (f1 t) ⟨t, ht, rfl⟩, h1 t ht]
  grind
theorem line_next {h : Rat → Rat} {K : List Kn} {S : List Rt} (hl : LineOf h K S) {k : Nat} {x y : Kn} {s : Rt} (hx : K[k]? = some x) (hy : K[k + 1]? = some y) (hs : S[k + 1]? = some s) : h (valQ y.i) = h (valQ x.i) + (valQ y.i - valQ x.i) * valQ s := by
  obtain ⟨x0, o0, s0, T, rfl, hT, hh⟩ := hl.line
  have hxy : valQ x.i < valQ y.i := by
    obtain ⟨a1, e1⟩ := List.getElem?_eq_some_iff.1 hx
    obtain ⟨a2, e2⟩ := List.getElem?_eq_some_iff.1 hy
    have := List.pairwise_iff_getElem.1 hl.ris.2 k (k + 1) a1 a2 (by omega)
    rw [e1, e2] at this
    exact this
  rw [hh, hh]
  refine hev_seg (lnK K T) x0 o0 (valQ s0) k (valQ y.i) (valQ x.i) (valQ s) (lnK_ris hl.ris.2 T) (lnK_get hx (by simpa using hs)) (by grind) (fun z hz => ?_)
  obtain ⟨z', hz', e⟩ := lnK_of hz
  rw [hy] at hz'
  cases hz'
  rw [e]
  exact Rat.le_refl
theorem recD_ok {t fr tw sl : Rt} (hr : rightB sl = true) (hp : 0 < valQ sl) (h : (recA divA t fr tw sl).2 = 0) : rightB t = true ∧ rightB (recA divA t fr tw sl).1 = true ∧ valQ (recA divA t fr tw sl).1 = valQ tw + (valQ t - valQ fr) / valQ sl := by
  unfold recA at *
  by_cases h1 : (subA t fr).2 = 0
  · rw [if_neg (fun e => e h1)] at h ⊢
    obtain ⟨r1, _, r2, v1⟩ := subA_ok h1
    have hn : sl.N ≠ 0 := by
      intro e
      have : valQ sl = 0 := by unfold valQ; rw [e]; exact Rat.zero_divInt _
      grind
    by_cases h2 : (divA (subA t fr).1 sl).2 = 0
    · rw [if_neg (fun e => e h2)] at h ⊢
      have h2' := h2
      rw [divA_right r2 hr hn] at h2'
      obtain ⟨_, v2⟩ := low_ok_right _ h2'
      obtain ⟨_, _, r3, v3⟩ := addA_ok h
      exact ⟨r1, r3, by rw [v3, divA_right r2 hr hn, v2, v1]⟩
    · rw [if_pos h2] at h
      exact absurd h h2
  · rw [if_pos h1] at h
    exact absurd h h1
theorem div_mulK {a s : Rat} (hs : 0 < s) : a / s * s = a := Rat.div_mul_cancel (by grind)
/-- Undo without error tells where a time comes from. -/
theorem line_und {h : Rat → Rat} {K : List Kn} {S : List Rt} {t : Rt} (hl : LineOf h K S) (hpos : ∀ s ∈ S, 0 < valQ s) (h1 : 1 ≤ K.length) (h0 : (undF K S t).2 = 0) : rightB t = true ∧ rightB (undF K S t).1 = true ∧ h (valQ (undF K S t).1) = valQ t := by
  have ht : rightB t = true := by
    unfold undF at h0
    by_cases hr : rightB t = true
    · exact hr
    · rw [if_neg hr] at h0
      cases h0
  have hS : S.length = K.length + 1 := by
    obtain ⟨x0, o0, s0, T, rfl, hT, _⟩ := hl.line
    rw [List.length_cons, hT]
  have hp := piece_ix (·.o) K S t h1 hS
  unfold undF at h0 ⊢
  rw [if_pos ht] at h0 ⊢
  generalize (K[pIx (·.o) K t - 1]?).getD ⟨⟨0, 0⟩, ⟨0, 0⟩⟩ = x at *
  generalize (S[pIx (·.o) K t]?).getD ⟨0, 0⟩ = s at *
  obtain ⟨k, k1, k2, k3, k4, k5⟩ := hp
  have hsr := hl.slp s (List.mem_of_getElem? k3)
  have hsp := hpos s (List.mem_of_getElem? k3)
  have hxm := List.mem_of_getElem? k2
  have ho := hl.outs x hxm
  obtain ⟨_, r1, v1⟩ := recD_ok hsr hsp h0
  refine ⟨ht, r1, ?_⟩
  generalize (recA divA t x.o x.i s).1 = r at *
  have hd := div_mulK (a := valQ t - valQ x.o) hsp
  have hrs : (valQ r - valQ x.i) * valQ s = valQ t - valQ x.o := by rw [v1]; grind
  have hpc : PieceOf (·.i) K S r x s := by
    refine ⟨k, k1, k2, k3, fun hk hc => ?_, fun y hy => ?_⟩
    · have hlt := (cmp_pos (hl.ris.1 x hxm) r1).1 hc
      refine k4 hk ((cmp_pos ho.1 ht).2 ?_)
      have := mul_risesH (show valQ r - valQ x.i < 0 by grind) hsp
      grind
    · refine (cmp_pos (hl.ris.1 y (List.mem_of_getElem? hy)) r1).2 ?_
      have hoy := hl.outs y (List.mem_of_getElem? hy)
      have hlt := (cmp_pos hoy.1 ht).1 (k5 y hy)
      cases k with
      | zero =>
        have k2' : K[0]? = some x := k2
        rw [k2'] at hy
        cases hy
        by_cases hc : valQ r < valQ x.i
        · exact hc
        · have := mul_leK (show 0 ≤ valQ r - valQ x.i by grind) hsp
          grind
      | succ k =>
        have k2' : K[k]? = some x := by simpa using k2
        have e := line_next hl k2' hy k3
        rw [ho.2, hoy.2] at e
        by_cases hc : valQ r < valQ y.i
        · exact hc
        · have := mul_leK (show valQ y.i - valQ x.i ≤ valQ r - valQ x.i by grind) hsp
          grind
  rw [line_piece hl r1 hpc]
  grind
/-- Two rising rows, as one. -/
def mrgR : List Rt → List Rt → List Rt
  | [], C => C
  | a :: A, [] => a :: A
  | a :: A, c :: C => if cmpI a c < 0 then a :: mrgR A (c :: C) else if cmpI a c = 0 then a :: mrgR A C else c :: mrgR (a :: A) C
termination_by A C => A.length + C.length
theorem mrg_nil (A : List Rt) : mrgR A [] = A := by cases A <;> simp [mrgR]
theorem mrg_mem : ∀ (A C : List Rt), ∀ x ∈ mrgR A C, x ∈ A ∨ x ∈ C
  | [], C, x, hx => .inr (by simpa [mrgR] using hx)
  | a :: A, [], x, hx => .inl (by simpa [mrgR] using hx)
  | a :: A, c :: C, x, hx => by
    rw [mrgR] at hx
    split at hx
    · rcases List.mem_cons.1 hx with rfl | hx
      · exact .inl (List.mem_cons_self ..)
      · rcases mrg_mem A (c :: C) x hx with h | h
        · exact .inl (List.mem_cons_of_mem _ h)
        · exact .inr h
    · split at hx
      · rcases List.mem_cons.1 hx with rfl | hx
        · exact .inl (List.mem_cons_self ..)
        · rcases mrg_mem A C x hx with h | h
          · exact .inl (List.mem_cons_of_mem _ h)
          · exact .inr (List.mem_cons_of_mem _ h)
      · rcases List.mem_cons.1 hx with rfl | hx
        · exact .inr (List.mem_cons_self ..)
        · rcases mrg_mem (a :: A) C x hx with h | h
          · exact .inl h
          · exact .inr (List.mem_cons_of_mem _ h)
termination_by A C => A.length + C.length
theorem mrg_has : ∀ (A C : List Rt), (∀ x ∈ A, rightB x = true) → (∀ x ∈ C, rightB x = true) → (∀ y ∈ A, ∃ x ∈ mrgR A C, valQ x = valQ y) ∧ ∀ y ∈ C, ∃ x ∈ mrgR A C, valQ x = valQ y
  | [], C, _, _ => ⟨fun _ h => (by cases h), fun y hy => ⟨y, by simpa [mrgR] using hy, rfl⟩⟩
  | a :: A, [], _, _ => ⟨fun y hy => ⟨y, by simpa [mrgR] using hy, rfl⟩, fun _ h => (by cases h)⟩
  | a :: A, c :: C, hA, hC => by
    have ha := hA a (List.mem_cons_self ..)
    have hc := hC c (List.mem_cons_self ..)
    have hA' : ∀ x ∈ A, rightB x = true := fun x hx => hA x (List.mem_cons_of_mem _ hx)
    have hC' : ∀ x ∈ C, rightB x = true := fun x hx => hC x (List.mem_cons_of_mem _ hx)
    rw [mrgR]
    split
    · obtain ⟨i1, i2⟩ := mrg_has A (c :: C) hA' hC
      refine ⟨fun y hy => ?_, fun y hy => ?_⟩
      · rcases List.mem_cons.1 hy with rfl | hy
        · exact ⟨_, List.mem_cons_self .., rfl⟩
        · obtain ⟨x, hx, e⟩ := i1 y hy
          exact ⟨x, List.mem_cons_of_mem _ hx, e⟩
      · obtain ⟨x, hx, e⟩ := i2 y hy
        exact ⟨x, List.mem_cons_of_mem _ hx, e⟩
    · split
      · rename_i h1 h2
        have hv : valQ a = valQ c := by
          rw [cmp_right ha hc] at h2
          split at h2
          · cases h2
          · split at h2
            · cases h2
            · grind
        obtain ⟨i1, i2⟩ := mrg_has A C hA' hC'
        refine ⟨fun y hy => ?_, fun y hy => ?_⟩
        · rcases List.mem_cons.1 hy with rfl | hy
          · exact ⟨_, List.mem_cons_self .., rfl⟩
          · obtain ⟨x, hx, e⟩ := i1 y hy
            exact ⟨x, List.mem_cons_of_mem _ hx, e⟩
        · rcases List.mem_cons.1 hy with rfl | hy
          · exact ⟨_, List.mem_cons_self .., hv⟩
          · obtain ⟨x, hx, e⟩ := i2 y hy
            exact ⟨x, List.mem_cons_of_mem _ hx, e⟩
      · obtain ⟨i1, i2⟩ := mrg_has (a :: A) C hA hC'
        refine ⟨fun y hy => ?_, fun y hy => ?_⟩
        · obtain ⟨x, hx, e⟩ := i1 y hy
          exact ⟨x, List.mem_cons_of_mem _ hx, e⟩
        · rcases List.mem_cons.1 hy with rfl | hy
          · exact ⟨_, List.mem_cons_self .., rfl⟩
          · obtain ⟨x, hx, e⟩ := i2 y hy
            exact ⟨x, List.mem_cons_of_mem _ hx, e⟩
termination_by A C => A.length + C.length
theorem mrg_ris : ∀ (A C : List Rt), RisL A → RisL C → (mrgR A C).Pairwise fun a b => valQ a < valQ b
  | [], C, _, hC => by simpa [mrgR] using hC.2
  | a :: A, [], hA, _ => by simpa [mrgR] using hA.2
  | a :: A, c :: C, hA, hC => by
    have ha := hA.1 a (List.mem_cons_self ..)
    have hc := hC.1 c (List.mem_cons_self ..)
    have pA := List.pairwise_cons.1 hA.2
    have pC := List.pairwise_cons.1 hC.2
    have hA' : RisL A := ⟨fun x hx => hA.1 x (List.mem_cons_of_mem _ hx), pA.2⟩
    have hC' : RisL C := ⟨fun x hx => hC.1 x (List.mem_cons_of_mem _ hx), pC.2⟩
    have hcm := cmp_right ha hc
    rw [mrgR]
    split
    · rename_i h1
      have hlt : valQ a < valQ c := by
        rw [hcm] at h1
        split at h1
        · assumption
        · split at h1 <;> omega
      refine List.pairwise_cons.2 ⟨fun x hx => ?_, mrg_ris A (c :: C) hA' hC⟩
      rcases mrg_mem A (c :: C) x hx with h | h
      · exact pA.1 x h
      · rcases List.mem_cons.1 h with rfl | h
        · exact hlt
        · have := pC.1 x h
          grind
    · split
      · rename_i h1 h2
        have hv : valQ a = valQ c := by
          rw [hcm] at h2
          split at h2
          · cases h2
          · split at h2
            · cases h2
            · grind
        refine List.pairwise_cons.2 ⟨fun x hx => ?_, mrg_ris A C hA' hC'⟩
        rcases mrg_mem A C x hx with h | h
        · exact pA.1 x h
        · have := pC.1 x h
          grind
      · rename_i h1 h2
        have hlt : valQ c < valQ a := by
          rw [hcm] at h1 h2
          split at h1
          · omega
          · split at h1
            · assumption
            · rename_i h3 h4
              rw [if_neg h3, if_neg h4] at h2
              omega
        refine List.pairwise_cons.2 ⟨fun x hx => ?_, mrg_ris (a :: A) C hA hC'⟩
        rcases mrg_mem (a :: A) C x hx with h | h
        · rcases List.mem_cons.1 h with rfl | h
          · exact hlt
          · have := pA.1 x h
            grind
        · exact pC.1 x h
termination_by A C => A.length + C.length
end Go.Proofs.Ytipnefaggpigfaa

/- Two rising rows made one: retime's merge (chapter 6). -/
namespace Go.Proofs.Ytipnefaggpigfaa
open Go.RowKit Go.Shelf

theorem cmp6_any (a b : Rt) (ha : RtIn a) (hb : RtIn b) (w : World) : Calls Try.prog 35 #[.agg #[.int .i64 a.N, .int .i64 a.D], .agg #[.int .i64 b.N, .int .i64 b.D]] w fun e w' => e = .returned (.int .i64 (cmpI a b)) ∧ Below w.heap.size w w' := cmp_any a b ha hb w
def lnV : Value → Nat
  | .slice _ n _ => n
  | _ => 0
theorem own_slM {W : World} {b : Nat} {e : TypeId} {sz n : Nat} {v : Value} {xs : List Value} (h : W.ownsRow b e sz v n xs) : ∃ o c, v = .slice o n c := by
  rcases h.2 with ⟨rfl, rfl⟩ | ⟨g, cap, cur, rfl, _⟩
  · exact ⟨none, 0, rfl⟩
  · exact ⟨_, cap, rfl⟩
/-- Any row, an empty one too, is put behind one's own. -/
theorem wpList_append_anyM {P : Program} {w : World} {ops : Array Oper} {rest : List Oper} {o : Oper} {a : Act} {Q : Exit → Act → World → Prop} (hgd : o.guard = none) (s x : Operand) (t : TypeId)
    (ho : o.op = .call { callee := .builtin .append, args := #[s, x], argTypes := #[t, t] })
    (base : Nat) (e : TypeId) (i : TypeInfo) (z : Value) (size bytes : Nat) (ht : P.underlying t = some (.slice e)) (hi : P.info? e = some i) (hz : i.zero = some z) (hsize : i.size = size) (hby : i.bytes = bytes) (hzs : z.cells.size = size) (hsz : 0 < size)
    (v : Value) (n : Nat) (xs : List Value) (hs : a.eval s = v) (hown : w.ownsRow base e size v n xs) (oa : Option Addr) (m c : Nat) (news : List Value) (hx : a.eval x = .slice oa m c) (hn : oa = none → m = 0 ∧ c = 0) (hl : news.length = m * size)
    (hnews : ∀ ad, oa = some ad → ∀ j u, news[j]? = some u → w.cell? (ad.add j) = some u) (h1 : ∀ u ∈ news, u.oneCell' = true) (h63 : n + m ≤ maxLen) (hbytes : (n + m) * bytes ≤ 140737488355328) (hbase : base ≤ w.heap.size)
    (h : ∀ o' c' w', w'.ownsRow base e size (.slice o' (n + m) c') (n + m) (xs ++ news) → w.grownBy w' v.ownBlock → wpList P ops Q rest (a.put o.dst (.slice o' (n + m) c')) w') : wpList P ops Q (o :: rest) a w := by
  refine wpList_plain hgd fun K hK => ?_
  cases oa with
  | none =>
    obtain ⟨rfl, rfl⟩ := hn rfl
    have hnil : news = [] := List.length_eq_zero_iff.1 (by simpa using hl)
    subst hnil
    have hrun := run_append_owned_none (P := P) (w := w) base t o.type e i size ht hi v n xs hown
    obtain ⟨o', c', rfl⟩ := own_slM hown
    unfold Oper.wp
    simp [execOp, ho, resolve, invoke, builtin, hs, hx, hrun, Result.andThen]
    exact hK _ _ (h _ _ _ (by simpa using hown) (World.grownBy.refl _ _))
  | some ad =>
    obtain ⟨v', w', hr, o1, o2, _⟩ := run_append_own (P := P) w base t o.type e i z size bytes ht hi hz hsize hby hzs hsz v n xs hown ad m c news hl (hnews ad rfl) h1 h63 hbytes hbase
    obtain ⟨o', c', rfl⟩ := own_slM o1
    unfold Oper.wp
    simp [execOp, ho, resolve, invoke, builtin, hs, hx, hr, Result.andThen]
    exact hK _ _ (h _ _ _ o1 o2)
theorem RtO.newsM {W : World} {oa : Option Addr} {Q : List Rt} (h : RtO W oa Q) : ∀ ad, oa = some ad → ∀ j u, (flatRt Q)[j]? = some u → W.cell? (ad.add j) = some u := fun ad e j u hu => by
  subst e
  have hj : j < Q.length * 2 := by rw [← flatRt_len]; exact (List.getElem?_eq_some_iff.1 hu).1
  obtain ⟨x, hx⟩ : ∃ x, Q[j / 2]? = some x := ⟨_, List.getElem?_eq_getElem (by omega)⟩
  obtain ⟨k0, k1⟩ := flatRt_get hx
  obtain ⟨b, hb, _, h0, h1⟩ := h (j / 2) x hx
  cases hb
  have hm : j = j / 2 * 2 ∨ j = j / 2 * 2 + 1 := by omega
  rcases hm with e | e
  · rw [e] at hu ⊢
    rw [k0] at hu
    rw [h0, hu]
  · rw [e] at hu ⊢
    rw [k1] at hu
    rw [addr_next, h1, hu]
theorem flatRt_app2 (A C : List Rt) : flatRt (A ++ C) = flatRt A ++ flatRt C := by
  unfold flatRt
  rw [List.flatMap_append]
theorem RtO.tail {V : World} {pa : Addr} {a : Rt} {Q : List Rt} {ca : Nat} (h : RtO V (some pa) (a :: Q)) (hc : Q.length + 1 ≤ ca) : RtO V (if ca = 1 then some pa else some ⟨pa.block, pa.off + 2, none⟩) Q := by
  by_cases h1 : ca = 1
  · have : Q = [] := List.length_eq_zero_iff.1 (by omega)
    subst this
    intro i x hx
    cases hx
  · rw [if_neg h1]
    intro i x hx
    obtain ⟨b, e, hb, k0, k1⟩ := h (i + 1) x (by simpa using hx)
    cases e
    have e2 : (⟨pa.block, pa.off + 2, none⟩ : Addr).add (i * 2) = pa.add ((i + 1) * 2) := by
      unfold Addr.add
      rw [if_neg (show ¬ (i + 1) * 2 = 0 by omega)]
      split
      · rename_i h0
        rw [show (i + 1) * 2 = 2 by omega]
      · simp
        omega
    refine ⟨_, rfl, ?_, ?_, ?_⟩
    · exact hb
    · rw [e2]
      exact k0
    · rw [e2]
      exact k1
theorem flatRt_one (Q : List Rt) : ∀ u ∈ flatRt Q, u.oneCell' = true := fun u hu => by
  obtain ⟨x, _, h⟩ := List.mem_flatMap.1 hu
  simp at h
  rcases h with rfl | rfl <;> rfl
set_option maxRecDepth 100000 in
set_option maxHeartbeats 2000000 in
theorem merge_any6 (A C : List Rt) (oa oc : Option Addr) (ca cc : Nat) (hA : ∀ x ∈ A, RtIn x) (hC : ∀ x ∈ C, RtIn x) (hca : A.length ≤ ca ∧ ca ≤ maxLen) (hcc : C.length ≤ cc ∧ cc ≤ maxLen) (hla : A.length ≤ 1000) (hlc : C.length ≤ 1000) (hna0 : oa = none → ca = 0) (hnc0 : oc = none → cc = 0) (w : World) (hOA : RtO w oa A) (hOC : RtO w oc C) :
    Calls Try.prog 34 #[.slice oa A.length ca, .slice oc C.length cc, .func (.func 35) #[] #[]] w fun e w' => ∃ v, e = .returned v ∧ w'.ownsRow w.heap.size 42 2 v (mrgR A C).length (flatRt (mrgR A C)) ∧ Below w.heap.size w w' := by
  obtain ⟨i0, hI, hz0, hz1, hz2⟩ := info_partsK infoRtK
  have hmx : maxLen ≤ 9223372036854775807 := by decide
  obtain ⟨PO, hPO⟩ : ∃ PO : Ending → World → Prop, (fun e w' => ∃ v, e = .returned v ∧ w'.ownsRow w.heap.size 42 2 v (mrgR A C).length (flatRt (mrgR A C)) ∧ Below w.heap.size w w') = PO := ⟨_, rfl⟩
  have HP := hideK hPO
  rw [hPO]
  obtain ⟨na, hna⟩ : ∃ n, A.length = n := ⟨_, rfl⟩
  obtain ⟨nc, hnc⟩ : ∃ n, C.length = n := ⟨_, rfl⟩
  have HNa := hideK hna
  have HNc := hideK hnc
  have HA := hideK hA
  have HC := hideK hC
  have HOA := hideK hOA
  have HOC := hideK hOC
  rw [hna] at hca hla ⊢
  rw [hnc] at hcc hlc ⊢
  clear hPO hna hnc hA hC hOA hOC
  have wk : IntKind.i64.wrap ((na : Int) + (nc : Int)) = ((na + nc : Nat) : Int) := by rw [show ((na + nc : Nat) : Int) = (na : Int) + nc by omega]; exact IntWalk.i64_in _ ⟨by omega, by omega⟩
  go_enter Try.func34, Try.ntmps34
  go_wp2_with (at_make; refine wpList_make_own _ rfl _ _ 23 rfl w.heap.size 42 i0 (.agg #[.int .i64 0, .int .i64 0]) 2 Try.underlying23 hI hz0 hz1 .i64 .i64 _ (na + nc) rfl rfl (by first | rfl | simp) (by rw [hz2]; omega) (by unfold maxLen; omega) (Nat.le_refl _) ?_; intro w1 own1 gr1)
  have B1 : Below w.heap.size w w1 := Below.grown (Below.refl _ _) gr1 (Nat.le_refl _) (fun k hk => by cases hk)
  have HW1 := hideK (And.intro own1 B1)
  clear own1 gr1 B1
  go_loopw [0, 1, 7] (fun av cv lv wq => ∃ (oa oc : Option Addr) (ca cc : Nat) (A' C' M : List Rt), av = .slice oa A'.length ca ∧ cv = .slice oc C'.length cc ∧ (A'.length ≤ ca ∧ ca ≤ maxLen) ∧ (C'.length ≤ cc ∧ cc ≤ maxLen) ∧ RtO w oa A' ∧ RtO w oc C' ∧ ((oa = none → ca = 0) ∧ (oc = none → cc = 0)) ∧ ((∀ x ∈ A', RtIn x) ∧ (∀ x ∈ C', RtIn x)) ∧ M.length + A'.length + C'.length ≤ na + nc ∧ M ++ mrgR A' C' = mrgR A C ∧ wq.ownsRow w.heap.size 42 2 lv M.length (flatRt M) ∧ Below w.heap.size w wq) (fun av cv _ _ => lnV av + lnV cv)
  case atStart => exact ⟨oa, oc, ca, cc, A, C, [], by rw [HNa.out], by rw [HNc.out], by rw [HNa.out]; exact hca, by rw [HNc.out]; exact hcc, HOA.out, HOC.out, ⟨hna0, hnc0⟩, ⟨HA.out, HC.out⟩, by rw [HNa.out, HNc.out]; simp, rfl, by simpa [flatRt] using HW1.out.1, HW1.out.2⟩
  case round =>
    obtain ⟨oa, oc, ca, cc, A', C', M, rfl, rfl, hca, hcc, hOA, hOC, hnn, hin, hlen, hmr, hown, hb⟩ := hrel
    obtain ⟨wq, rfl⟩ : ∃ wq, wq = wr := ⟨_, rfl⟩
    have hzq := hb.size
    by_cases hend : A'.length = 0 ∨ C'.length = 0
    · have hres : M ++ A' ++ C' = mrgR A C := by
        rw [← hmr, List.append_assoc]
        rcases hend with h | h
        · rw [List.length_eq_zero_iff.1 h]
          simp [mrgR]
        · rw [List.length_eq_zero_iff.1 h, mrg_nil]
          simp
      have HRes := hideK hres
      have hnA : oa = none → A'.length = 0 ∧ ca = 0 := fun e => ⟨by have := hnn.1 e; omega, hnn.1 e⟩
      have hnC : oc = none → C'.length = 0 ∧ cc = 0 := fun e => ⟨by have := hnn.2 e; omega, hnn.2 e⟩
      have HNA := hideK (And.intro hnA hnC)
      have HOA' := hideK hOA
      have HOC' := hideK hOC
      have HB := hideK hb
      have hlA := flatRt_len A'
      have hlC := flatRt_len C'
      have HLL := hideK (And.intro hlA hlC)
      obtain ⟨ka, hka⟩ : ∃ k, A'.length = k := ⟨_, rfl⟩
      obtain ⟨kc, hkc⟩ : ∃ k, C'.length = k := ⟨_, rfl⟩
      have HK := hideK (And.intro hka hkc)
      rw [hka] at hend hlen hca hlA HNA ⊢
      rw [hkc] at hend hlen hcc hlC HNA ⊢
      clear hOA hOC hnn hin hmr hres hnA hnC hka hkc hb
      by_cases h0 : ka = 0
      · subst h0
        have d1 : ¬ (0 : Int) < ((0 : Nat) : Int) := by omega
        go_upto_region 10 with fail
        go_wp2_with (first | (at_builtin; refine wpList_append_anyM rfl _ _ 23 rfl w.heap.size 42 i0 _ 2 16 Try.underlying23 hI hz0 hz1 hz2 rfl (by decide) _ M.length (flatRt M) rfl hown oa 0 ca (flatRt A') rfl HNA.out.1 hlA (fun ad e => (HOA'.out.keep HB.out).newsM ad e) (flatRt_one A') (by unfold maxLen; omega) (by omega) hzq ?_; intro o5 c5 w5 own5 gr5; have B5 := Below.grown HB.out gr5 (by omega) (fun k hk => (hown.lt k hk).1); have z5 := B5.size) | (at_builtin; refine wpList_append_anyM rfl _ _ 23 rfl w.heap.size 42 i0 _ 2 16 Try.underlying23 hI hz0 hz1 hz2 rfl (by decide) _ (M.length + 0) (flatRt M ++ flatRt A') rfl own5 oc kc cc (flatRt C') rfl HNA.out.2 hlC (fun ad e => (HOC'.out.keep B5).newsM ad e) (flatRt_one C') (by unfold maxLen; omega) (by omega) z5 ?_; intro o6 c6 w6 own6 gr6; have B6 := Below.grown B5 gr6 z5 (fun k hk => (own5.lt k hk).1)))
        rw [← HP.out, ← HRes.out]
        refine ⟨_, rfl, ?_, B6⟩
        rw [List.append_assoc, flatRt_app2, flatRt_app2, List.length_append, List.length_append, HK.out.1, HK.out.2, ← List.append_assoc, Nat.zero_add]
        rw [Nat.add_zero] at own6
        exact own6
      · obtain rfl : kc = 0 := by omega
        have d1 : (0 : Int) < (ka : Int) := by omega
        have d2 : ¬ (0 : Int) < ((0 : Nat) : Int) := by omega
        go_upto_region 10 with fail
        go_wp2_with (first | (at_builtin; refine wpList_append_anyM rfl _ _ 23 rfl w.heap.size 42 i0 _ 2 16 Try.underlying23 hI hz0 hz1 hz2 rfl (by decide) _ M.length (flatRt M) rfl hown oa ka ca (flatRt A') rfl HNA.out.1 hlA (fun ad e => (HOA'.out.keep HB.out).newsM ad e) (flatRt_one A') (by unfold maxLen; omega) (by omega) hzq ?_; intro o5 c5 w5 own5 gr5; have B5 := Below.grown HB.out gr5 (by omega) (fun k hk => (hown.lt k hk).1); have z5 := B5.size) | (at_builtin; refine wpList_append_anyM rfl _ _ 23 rfl w.heap.size 42 i0 _ 2 16 Try.underlying23 hI hz0 hz1 hz2 rfl (by decide) _ (M.length + ka) (flatRt M ++ flatRt A') rfl own5 oc 0 cc (flatRt C') rfl HNA.out.2 hlC (fun ad e => (HOC'.out.keep B5).newsM ad e) (flatRt_one C') (by unfold maxLen; omega) (by omega) z5 ?_; intro o6 c6 w6 own6 gr6; have B6 := Below.grown B5 gr6 z5 (fun k hk => (own5.lt k hk).1)))
        rw [← HP.out, ← HRes.out]
        refine ⟨_, rfl, ?_, B6⟩
        rw [List.append_assoc, flatRt_app2, flatRt_app2, List.length_append, List.length_append, HK.out.1, HK.out.2, ← List.append_assoc]
        exact own6
    · obtain ⟨a, A'', rfl⟩ : ∃ a T, A' = a :: T := by
        cases A' with
        | nil => exact absurd (.inl rfl) hend
        | cons a T => exact ⟨a, T, rfl⟩
      obtain ⟨c, C'', rfl⟩ : ∃ a T, C' = a :: T := by
        cases C' with
        | nil => exact absurd (.inr rfl) hend
        | cons a T => exact ⟨a, T, rfl⟩
      obtain ⟨pa, rfl, hpa, a0, a1⟩ := (hOA.keep hb).get (i := 0) (x := a) rfl
      obtain ⟨pc, rfl, hpc, c0, c1⟩ := (hOC.keep hb).get (i := 0) (x := c) rfl
      rw [addM0] at a0 a1 c0 c1
      have HC := hideK (fun (W : World) => cmp6_any a c (hin.1 a (List.mem_cons_self ..)) (hin.2 c (List.mem_cons_self ..)) W)
      obtain ⟨cc6, hcc6⟩ : ∃ z, cmpI a c = z := ⟨_, rfl⟩
      rw [hcc6] at HC
      rw [mrgR, hcc6] at hmr
      have p0 : ∀ q : GrownQ wq, q.V.cell? pa = some (.int .i64 a.N) := fun q => (q.h.cell hpa).trans a0
      have p1 : ∀ q : GrownQ wq, q.V.cell? ⟨pa.block, pa.off + 1, none⟩ = some (.int .i64 a.D) := fun q => (q.h.cell (p := ⟨pa.block, pa.off + 1, none⟩) hpa).trans a1
      have q0 : ∀ q : GrownQ wq, q.V.cell? pc = some (.int .i64 c.N) := fun q => (q.h.cell hpc).trans c0
      have q1 : ∀ q : GrownQ wq, q.V.cell? ⟨pc.block, pc.off + 1, none⟩ = some (.int .i64 c.D) := fun q => (q.h.cell (p := ⟨pc.block, pc.off + 1, none⟩) hpc).trans c1
      have HKA : Hid (∀ W, Below wq.heap.size wq W → W.cell? pa = some (.int .i64 a.N) ∧ W.cell? ⟨pa.block, pa.off + 1, none⟩ = some (.int .i64 a.D) ∧ W.cell? pc = some (.int .i64 c.N) ∧ W.cell? ⟨pc.block, pc.off + 1, none⟩ = some (.int .i64 c.D)) := hideK (fun W q => ⟨(q.cell hpa).trans a0, (q.cell (p := ⟨pa.block, pa.off + 1, none⟩) hpa).trans a1, (q.cell hpc).trans c0, (q.cell (p := ⟨pc.block, pc.off + 1, none⟩) hpc).trans c1⟩)
      have HB := hideK (And.intro hown hb)
      have HM := hideK hmr
      have HIn := hideK hin
      have HOO := hideK (And.intro hOA hOC)
      obtain ⟨ka, hka⟩ : ∃ k, A''.length = k := ⟨_, rfl⟩
      obtain ⟨kc, hkc⟩ : ∃ k, C''.length = k := ⟨_, rfl⟩
      have HK := hideK (And.intro hka hkc)
      rw [List.length_cons, hka] at hlen hca ⊢
      rw [List.length_cons, hkc] at hlen hcc ⊢
      clear hown hb hmr hin hOA hOC hnn hend hka hkc hcc6 hpa hpc a0 a1 c0 c1
      have d1 : (0 : Int) < ((ka + 1 : Nat) : Int) := by omega
      have d2 : (0 : Int) < ((kc + 1 : Nat) : Int) := by omega
      have d3 : (0 : Int) < (ka : Int) + 1 := by omega
      have d4 : (0 : Int) < (kc : Int) + 1 := by omega
      go_upto_region 3 with fail
      refine region_grown wq wq (by kernel_rfl) (by kernel_rfl) (Below.refl _ _) ?_
      repeat (go_big_quiet_step (first
        | (rename_i q; (with_reducible refine (HC.out _).mono ?_); rintro e V1 ⟨rfl, h1⟩; exact ⟨rfl, ⟨V1, q.h.trans (h1.mono q.h.size)⟩, rfl⟩)))
      refine wpQuiet_nil ?_
      rintro W9 ⟨⟨V9, hb9⟩, hv9⟩
      have hv9 : W9 = V9 := hv9
      subst hv9
      have HB9 := hideK hb9
      clear hv9 hb9 p0 p1 q0 q1 HC
      have hz9 := HB9.out.size
      obtain ⟨k0, k1, k2, k3⟩ := HKA.out W9 HB9.out
      have hownX := own_growK HB.out.1 HB9.out
      have HBX := hideK (bup HB.out.2 HB9.out)
      by_cases hlt : cc6 < 0
      · have y1 : cc6 ≤ 0 := by omega
        have y2 : ¬ 0 ≤ cc6 := by omega
        go_wp2_with (at_builtin; refine wpList_append_lies _ rfl _ _ 23 rfl w.heap.size 42 i0 _ 2 16 Try.underlying23 hI hz0 hz1 ‹_› rfl (by decide) _ M.length (flatRt M) rfl (hownX.alloc _) ⟨W9.heap.size, 0, none⟩ 1 1 [.int .i64 a.N, .int .i64 a.D] rfl rfl (World.news_of_block (cs := #[.int .i64 a.N, .int .i64 a.D]) (t := 42) (fr := (0, 0)) (World.alloc_heap_new W9 _)) (by simp [Value.oneCell']) (by omega) (by unfold maxLen; omega) (by omega) (by simp; omega) (W9.heap.size + 1) (by simp) ?_; intro gg cap2 w6 hown6 hgrow6 hat6 hlt6)
        go_roundw
        case rel =>
          refine ⟨_, _, _, _, A'', c :: C'', M ++ [a], by rw [HK.out.1], by rw [List.length_cons, HK.out.2], by rw [HK.out.1]; omega, by rw [List.length_cons, HK.out.2]; exact hcc, HOO.out.1.tail (by rw [HK.out.1]; omega), HOO.out.2, ⟨fun e => (by split at e <;> cases e), fun e => (by cases e)⟩, ⟨fun x hx => HIn.out.1 x (List.mem_cons_of_mem _ hx), HIn.out.2⟩, ?_, ?_, ?_, ?_⟩
          · simp only [List.length_append, List.length_cons, List.length_nil, HK.out.1, HK.out.2]
            omega
          · rw [List.append_assoc, List.singleton_append, ← HM.out]
            rw [if_pos hlt]
          · rw [flatRt_app, List.length_append]
            exact hown6
          · exact Below.grown (HBX.out.alloc (by omega) _) hgrow6 (by rw [World.size_alloc]; omega) (fun k hk => (hownX.lt k hk).1)
        case measure => simp [lnV]
      · by_cases heq : cc6 = 0
        · subst heq
          go_wp2_with (at_builtin; refine wpList_append_lies _ rfl _ _ 23 rfl w.heap.size 42 i0 _ 2 16 Try.underlying23 hI hz0 hz1 ‹_› rfl (by decide) _ M.length (flatRt M) rfl (hownX.alloc _) ⟨W9.heap.size, 0, none⟩ 1 1 [.int .i64 a.N, .int .i64 a.D] rfl rfl (World.news_of_block (cs := #[.int .i64 a.N, .int .i64 a.D]) (t := 42) (fr := (0, 0)) (World.alloc_heap_new W9 _)) (by simp [Value.oneCell']) (by omega) (by unfold maxLen; omega) (by omega) (by simp; omega) (W9.heap.size + 1) (by simp) ?_; intro gg cap2 w6 hown6 hgrow6 hat6 hlt6)
          go_roundw
          case rel =>
            refine ⟨_, _, _, _, A'', C'', M ++ [a], by rw [HK.out.1], by rw [HK.out.2], by rw [HK.out.1]; omega, by rw [HK.out.2]; omega, HOO.out.1.tail (by rw [HK.out.1]; omega), HOO.out.2.tail (by rw [HK.out.2]; omega), ⟨fun e => (by split at e <;> cases e), fun e => (by split at e <;> cases e)⟩, ⟨fun x hx => HIn.out.1 x (List.mem_cons_of_mem _ hx), fun x hx => HIn.out.2 x (List.mem_cons_of_mem _ hx)⟩, ?_, ?_, ?_, ?_⟩
            · simp only [List.length_append, List.length_cons, List.length_nil, HK.out.1, HK.out.2]
              omega
            · rw [List.append_assoc, List.singleton_append, ← HM.out]
              rw [if_neg hlt, if_pos rfl]
            · rw [flatRt_app, List.length_append]
              exact hown6
            · exact Below.grown (HBX.out.alloc (by omega) _) hgrow6 (by rw [World.size_alloc]; omega) (fun k hk => (hownX.lt k hk).1)
          case measure => simp [lnV]; omega
        · have y1 : ¬ cc6 ≤ 0 := by omega
          have y2 : 0 ≤ cc6 := by omega
          go_wp2_with (at_builtin; refine wpList_append_lies _ rfl _ _ 23 rfl w.heap.size 42 i0 _ 2 16 Try.underlying23 hI hz0 hz1 ‹_› rfl (by decide) _ M.length (flatRt M) rfl (hownX.alloc _) ⟨W9.heap.size, 0, none⟩ 1 1 [.int .i64 c.N, .int .i64 c.D] rfl rfl (World.news_of_block (cs := #[.int .i64 c.N, .int .i64 c.D]) (t := 42) (fr := (0, 0)) (World.alloc_heap_new W9 _)) (by simp [Value.oneCell']) (by omega) (by unfold maxLen; omega) (by omega) (by simp; omega) (W9.heap.size + 1) (by simp) ?_; intro gg cap2 w6 hown6 hgrow6 hat6 hlt6)
          go_roundw
          case rel =>
            refine ⟨_, _, _, _, a :: A'', C'', M ++ [c], by rw [List.length_cons, HK.out.1], by rw [HK.out.2], by rw [List.length_cons, HK.out.1]; exact hca, by rw [HK.out.2]; omega, HOO.out.1, HOO.out.2.tail (by rw [HK.out.2]; omega), ⟨fun e => (by cases e), fun e => (by split at e <;> cases e)⟩, ⟨HIn.out.1, fun x hx => HIn.out.2 x (List.mem_cons_of_mem _ hx)⟩, ?_, ?_, ?_, ?_⟩
            · simp only [List.length_append, List.length_cons, List.length_nil, HK.out.1, HK.out.2]
              omega
            · rw [List.append_assoc, List.singleton_append, ← HM.out]
              rw [if_neg hlt, if_neg heq]
            · rw [flatRt_app, List.length_append]
              exact hown6
            · exact Below.grown (HBX.out.alloc (by omega) _) hgrow6 (by rw [World.size_alloc]; omega) (fun k hk => (hownX.lt k hk).1)
          case measure => simp [lnV]
end Go.Proofs.Ytipnefaggpigfaa

/- What Undo makes of all of some times: retime's each once more (chapter 6). -/
namespace Go.Proofs.Ytipnefaggpigfaa
open Go.RowKit Go.Shelf

set_option maxRecDepth 100000 in
set_option maxHeartbeats 2000000 in
theorem eachU_any6 (f : Rt → Rt × Int) (B : Nat) (T : List Rt) (ot : Option Addr) (c : Nat) (hc : T.length ≤ c ∧ c ≤ maxLen) (hn : T.length ≤ 1000000) (w : World) (hO : RtO w ot T)
    (H : ∀ t ∈ T, ∀ W, Below w.heap.size w W → Calls Try.prog 17 #[.pointer (some ⟨B, 0, none⟩), .agg #[.int .i64 t.N, .int .i64 t.D]] W fun e w' => e = .returned (.tuple #[.agg #[.int .i64 (f t).1.N, .int .i64 (f t).1.D], .int .i64 (f t).2]) ∧ Below W.heap.size W w') :
    Calls Try.prog 33 #[.slice ot T.length c, .func (.func 17) #[.pointer (some ⟨B, 0, none⟩)] #[]] w fun e w' => ∃ v, e = .returned (.tuple #[v, .int .i64 (allI f 0 T).1, .int .i64 (allI f 0 T).2]) ∧ w'.ownsRow w.heap.size 42 2 v (allQ f T).length (flatRt (allQ f T)) ∧ Below w.heap.size w w' := by
  obtain ⟨i0, hI, hz0, hz1, hz2⟩ := info_partsK infoRtK
  have hmx : maxLen ≤ 9223372036854775807 := by decide
  obtain ⟨n, hn'⟩ : ∃ n, T.length = n := ⟨_, rfl⟩
  have HN := hideK hn'
  have HO := hideK hO
  have HH := hideK H
  rw [hn'] at hc hn ⊢
  clear hn' hO H
  obtain ⟨PO, hPO⟩ : ∃ PO : Ending → World → Prop, (fun e w' => ∃ v, e = .returned (.tuple #[v, .int .i64 (allI f 0 T).1, .int .i64 (allI f 0 T).2]) ∧ w'.ownsRow w.heap.size 42 2 v (allQ f T).length (flatRt (allQ f T)) ∧ Below w.heap.size w w') = PO := ⟨_, rfl⟩
  have HP := hideK hPO
  rw [hPO]
  clear hPO
  go_enter Try.func33, Try.ntmps33
  go_wp2_with fail
  go_loopw [7, 14] (fun lv iv wq => ∃ i : Nat, iv = .int .i64 (i : Nat) ∧ i ≤ n ∧ wq.ownsRow w.heap.size 42 2 lv i (flatRt ((T.take i).map fun t => (f t).1)) ∧ allI f 0 T = allI f i (T.drop i) ∧ Below w.heap.size w wq) (fun _ iv _ => n - (intOf iv).toNat)
  case atStart => exact ⟨0, rfl, Nat.zero_le _, World.ownsRow_nil _ _ _ _, rfl, Below.refl _ _⟩
  case round =>
    obtain ⟨i, rfl, hi, hown, hs, hb⟩ := hrel
    obtain ⟨wq, rfl⟩ : ∃ wq, wq = wr := ⟨_, rfl⟩
    by_cases hlt : i < n
    · obtain ⟨t, ht⟩ : ∃ t, T[i]? = some t := ⟨_, List.getElem?_eq_getElem (by rw [HN.out]; omega)⟩
      obtain ⟨A, rfl, hA, a0, a1⟩ := (HO.out.keep hb).get ht
      have HC := hideK (HH.out t (List.mem_of_getElem? ht))
      have HS := hideK (hs.trans (allI_drop f ht))
      have HTk := hideK (show (T.take (i + 1)).map (fun t => (f t).1) = (T.take i).map (fun t => (f t).1) ++ [(f t).1] by rw [List.take_add_one, ht, List.map_append]; rfl)
      obtain ⟨r, hr⟩ : ∃ r, f t = r := ⟨_, rfl⟩
      rw [hr] at HC HS HTk
      have HA := hideK (And.intro hown hb)
      clear hr hown hs hb ht
      have di : (i : Int) < (n : Int) := by omega
      have wk : IntKind.i64.wrap ((i : Int) + 1) = ((i + 1 : Nat) : Int) := by rw [show ((i + 1 : Nat) : Int) = (i : Int) + 1 by omega]; exact IntWalk.i64_in _ ⟨by omega, by omega⟩
      go_wp2_with fail
      obtain ⟨V, hV⟩ : ∃ V, wq.alloc (.cells #[.int .i64 t.N, .int .i64 t.D] 42) = V := ⟨_, rfl⟩
      have HV : Hid (Below wq.heap.size wq V) := hideK (by rw [← hV]; exact bel1 _ _)
      rw [hV]
      clear hV a0 a1
      refine (HC.out V (bup HA.out.2 HV.out)).mono ?_
      rintro e w2 ⟨rfl, b2⟩
      have HB := hideK (bup HV.out b2)
      clear b2 HC
      go_upto_region 6 with fail
      obtain ⟨W, hW⟩ : ∃ W, w2.alloc (.cells #[.int .i64 r.1.N, .int .i64 r.1.D] 42) = W := ⟨_, rfl⟩
      have HW : Hid (Below wq.heap.size wq W ∧ Two W w2.heap.size (.int .i64 r.1.N) (.int .i64 r.1.D)) := hideK (by
        rw [← hW]
        exact ⟨bup HB.out (bel1 _ _), Two.new _ _ _ _⟩)
      rw [hW]
      clear hW
      by_cases hre : r.2 = 0
      · obtain ⟨_, k0, k1, _, _⟩ := HW.out.2
        have hownW := own_growK HA.out.1 HW.out.1
        have hzW := HW.out.1.size
        have hz9 := HA.out.2.size
        go_wp2_with (at_builtin; refine wpList_append_lies _ rfl _ _ 23 rfl w.heap.size 42 i0 _ 2 16 Try.underlying23 hI hz0 hz1 ‹_› rfl (by decide) _ i (flatRt ((T.take i).map fun t => (f t).1)) rfl (hownW.alloc _) ⟨W.heap.size, 0, none⟩ 1 1 [.int .i64 r.1.N, .int .i64 r.1.D] rfl rfl (World.news_of_block (cs := #[.int .i64 r.1.N, .int .i64 r.1.D]) (t := 42) (fr := (0, 0)) (World.alloc_heap_new W _)) (by simp [Value.oneCell']) (by omega) (by unfold maxLen; omega) (by omega) (by simp; omega) (W.heap.size + 1) (by simp) ?_; intro gg cap2 w6 hown6 hgrow6 hat6 hlt6)
        go_roundw
        case rel =>
          refine ⟨i + 1, by first | rfl | simp, by omega, ?_, ?_, ?_⟩
          · rw [HTk.out, flatRt_app]
            exact hown6
          · rw [HS.out, if_pos hre]
          · exact Below.grown ((HA.out.2.trans (HW.out.1.mono hz9)).alloc (by omega) _) hgrow6 (by rw [World.size_alloc]; omega) (fun k hk => (hownW.lt k hk).1)
        case measure => simp [intOf]; omega
      · have hbb : allI f 0 T = ((i : Int), r.2) := by rw [HS.out, if_neg hre]
        have HBB := hideK hbb
        clear hbb
        go_wp2_with fail
        refine bodyPost_ret (v := .tuple #[.slice none 0 0, .int .i64 (i : Int), .int .i64 r.2]) (by simp [results, Try.results33, go_sem]) rfl ?_
        rw [← HP.out]
        refine ⟨.slice none 0 0, by rw [HBB.out], ?_, bup HA.out.2 HW.out.1⟩
        unfold allQ
        rw [HBB.out, if_neg hre]
        exact World.ownsRow_nil _ _ _ _
    · obtain rfl : i = n := by omega
      have d2 : ¬ (i : Int) < (i : Int) := by omega
      have hk : T.take i = T := List.take_of_length_le (by rw [HN.out]; exact Nat.le_refl _)
      have hk2 : T.drop i = [] := List.drop_eq_nil_of_le (by rw [HN.out]; exact Nat.le_refl _)
      rw [hk] at hown
      rw [hk2] at hs
      have hs : allI f 0 T = (0, 0) := hs
      have HA := hideK (And.intro hown (And.intro hs hb))
      clear hk hk2 hown hs hb
      go_wp2_with fail
      refine bodyPost_ret (v := .tuple #[_, .int .i64 0, .int .i64 0]) (by simp [results, Try.results33, go_sem]; rfl) rfl ?_
      rw [← HP.out]
      refine ⟨_, by rw [HA.out.2.1], ?_, HA.out.2.2⟩
      unfold allQ
      rw [HA.out.2.1, if_pos rfl, List.length_map, HN.out]
      exact HA.out.1
end Go.Proofs.Ytipnefaggpigfaa
