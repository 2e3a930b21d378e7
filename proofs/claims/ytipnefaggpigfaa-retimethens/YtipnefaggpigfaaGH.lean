/- Several texts, one behind the other. -/
import Derived.Test.YtipnefaggpigfaaGC
import Derived.Test.YtipnefaggpigfaaGD
import Derived.Test.YtipnefaggpigfaaGF
import Derived.Test.YtipnefaggpigfaaGG
import Derived.Test.YtipnefaggpigfaaKnR
/- The reference's bends, with, and what they come to (chapter 6). -/
namespace Go.Proofs.Ytipnefaggpigfaa
open Go.RowKit Go.Shelf

/-- A row with a ratio more, each once: as the reference does it. -/
def wthR : List Rt → Rt → List Rt
  | [], t => [t]
  | a :: A, t => if 0 < cmpI a t then t :: a :: A else if cmpI a t = 0 then a :: A else a :: wthR A t
theorem wth_mem : ∀ (A : List Rt) (t : Rt), ∀ x ∈ wthR A t, x ∈ A ∨ x = t
  | [], t, x, h => .inr (List.mem_singleton.1 h)
  | a :: A, t, x, h => by
    unfold wthR at h
    split at h
    · rcases List.mem_cons.1 h with rfl | h
      · exact .inr rfl
      · exact .inl h
    · split at h
      · exact .inl h
      · rcases List.mem_cons.1 h with rfl | h
        · exact .inl (List.mem_cons_self ..)
        · rcases wth_mem A t x h with h | h
          · exact .inl (List.mem_cons_of_mem _ h)
          · exact .inr h
theorem wth_len : ∀ (A : List Rt) (t : Rt), (wthR A t).length ≤ A.length + 1
  | [], t => by simp [wthR]
  | a :: A, t => by
    unfold wthR
    have := wth_len A t
    split
    · simp
    · split <;> simp <;> omega
theorem wth_mrg : ∀ (A : List Rt) (c : Rt) (C : List Rt), (∀ x ∈ A, rightB x = true) → RisL (c :: C) → mrgR A (c :: C) = mrgR (wthR A c) C
  | [], c, C, _, hC => by
    have e0 : mrgR [] (c :: C) = c :: C := by rw [mrgR]
    rw [e0]
    show c :: C = mrgR [c] C
    cases C with
    | nil => rw [mrg_nil]
    | cons d D =>
      have hc := hC.1 c (List.mem_cons_self ..)
      have hd := hC.1 d (List.mem_cons_of_mem _ (List.mem_cons_self ..))
      have hcd := (List.pairwise_cons.1 hC.2).1 d (List.mem_cons_self ..)
      rw [mrgR.eq_3, cmp_right hc hd, if_pos hcd, if_pos (by decide), mrgR]
  | a :: A, c, C, hA, hC => by
    have ha := hA a (List.mem_cons_self ..)
    have hA' : ∀ x ∈ A, rightB x = true := fun x hx => hA x (List.mem_cons_of_mem _ hx)
    have hc := hC.1 c (List.mem_cons_self ..)
    have ih := fun D h => wth_mrg A c D hA' h
    unfold wthR
    rw [mrgR, cmp_right ha hc]
    by_cases h1 : valQ a < valQ c
    · rw [if_pos h1, if_pos (by decide), if_neg (by decide), if_neg (by decide), ih C hC]
      cases C with
      | nil => rw [mrg_nil, mrg_nil]
      | cons d D =>
        have hd := hC.1 d (List.mem_cons_of_mem _ (List.mem_cons_self ..))
        have hcd := (List.pairwise_cons.1 hC.2).1 d (List.mem_cons_self ..)
        rw [mrgR.eq_3, cmp_right ha hd, if_pos (show valQ a < valQ d by grind), if_pos (by decide)]
    · rw [if_neg h1]
      by_cases h2 : valQ c < valQ a
      · rw [if_pos h2, if_neg (by decide), if_neg (by decide), if_pos (by decide)]
        cases C with
        | nil => rw [mrg_nil, mrg_nil]
        | cons d D =>
          have hd := hC.1 d (List.mem_cons_of_mem _ (List.mem_cons_self ..))
          have hcd := (List.pairwise_cons.1 hC.2).1 d (List.mem_cons_self ..)
          conv => rhs; rw [mrgR.eq_3, cmp_right hc hd, if_pos hcd, if_pos (by decide)]
      · rw [if_neg h2, if_neg (by decide), if_pos rfl, if_neg (by decide), if_pos rfl]
        cases C with
        | nil => rw [mrg_nil, mrg_nil]
        | cons d D =>
          have hd := hC.1 d (List.mem_cons_of_mem _ (List.mem_cons_self ..))
          have hcd := (List.pairwise_cons.1 hC.2).1 d (List.mem_cons_self ..)
          conv => rhs; rw [mrgR.eq_3, cmp_right ha hd, if_pos (show valQ a < valQ d by grind), if_pos (by decide)]
theorem fold_mrg : ∀ (C A : List Rt), (∀ x ∈ A, rightB x = true) → RisL C → C.foldl wthR A = mrgR A C
  | [], A, _, _ => (mrg_nil A).symm
  | c :: C, A, hA, hC => by
    rw [List.foldl_cons, wth_mrg A c C hA hC]
    refine fold_mrg C _ (fun x hx => ?_) ⟨fun x hx => hC.1 x (List.mem_cons_of_mem _ hx), (List.pairwise_cons.1 hC.2).2⟩
    rcases wth_mem A c x hx with h | rfl
    · exact hA x h
    · exact hC.1 _ (List.mem_cons_self ..)
/-- The ins between a map's first and its last knot. -/
def innK (K : List Kn) : List Rt := ((K.drop 1).take (K.length - 2)).map (·.i)
theorem inn_new (L : List Kn) : innK (newK L) = bndK L := by
  have hp : ∀ B : List Rt, (((ptsA B).map (·.1)).drop 1).take ((ptsA B).length - 2) = B := fun B => by
    cases B with
    | nil => rfl
    | cons b B =>
      have hl : (ptsA (b :: B)).length = B.length + 3 := by simp [ptsA]
      rw [hl]
      unfold ptsA
      rw [List.map_cons, List.drop_one, List.tail_cons, List.map_append, List.map_map]
      have he : (List.map ((fun x : Rt × Int => x.1) ∘ fun t => (t, (0 : Int))) (b :: B)) = b :: B := List.map_id' _ |>.symm ▸ rfl
      rw [he, List.take_left' (by simp)]
  have h1 : (newK L).map (·.i) = (ptsA (bndK L)).map (·.1) := by
    unfold newK kntK ownP
    rw [List.map_map]
    rfl
  have h2 : (newK L).length = (ptsA (bndK L)).length := by
    have := congrArg List.length h1
    rwa [List.length_map, List.length_map] at this
  unfold innK
  rw [List.map_take, List.map_drop, h1, h2]
  exact hp _
theorem own_lowP {W : World} {b b2 : Nat} {e : TypeId} {sz n : Nat} {v : Value} {xs : List Value} (h : W.ownsRow b e sz v n xs) (hb : b2 ≤ b) : W.ownsRow b2 e sz v n xs := by
  refine ⟨h.1, ?_⟩
  rcases h.2 with q | ⟨g, cap, cur, rfl, hg, rest⟩
  · exact .inl q
  · exact .inr ⟨g, cap, cur, rfl, Nat.le_trans hb hg, rest⟩
set_option maxRecDepth 100000 in
set_option maxHeartbeats 2000000 in
theorem rbends6 (K : List Kn) (S : List Rt) (B : Nat) (hl : K.length ≤ 1000) (w : World) (hM : RMapAt w B K S) :
    Calls Try.prog 37 #[.pointer (some ⟨B, 0, none⟩)] w fun e w' => ∃ v, e = .returned v ∧ w'.ownsRow w.heap.size 42 2 v (innK K).length (flatRt (innK K)) ∧ Below w.heap.size w w' := by
  obtain ⟨i0, hI, hz0, hz1, hz2⟩ := info_partsK infoRtK
  have hmx : maxLen ≤ 9223372036854775807 := by decide
  obtain ⟨oa, c1, os2, c2, hat, hc1, hc2, hkb, -⟩ := hM
  have hzB : B < w.heap.size := (Array.getElem?_eq_some_iff.1 hat).1
  have HO := hideK hkb
  obtain ⟨n, hn⟩ : ∃ n, K.length = n := ⟨_, rfl⟩
  have hil : (innK K).length = n - 2 := by
    unfold innK
    rw [List.length_map, List.length_take, List.length_drop, hn]
    omega
  have HIn : Hid (innK K = ((K.drop 1).take (n - 2)).map (·.i)) := hideK (by unfold innK; rw [hn])
  have HC : Hid (∀ W, Below w.heap.size w W → W.cell? ⟨B, 0, none⟩ = some (.slice oa n c1)) := hideK (fun W q => (q.cell (p := ⟨B, 0, none⟩) hzB).trans (by rw [← hn]; simp [World.cell?, hat]))
  have HN := hideK hn
  rw [hn] at hl hc1
  rw [hil]
  clear hn hat hkb hil hc2
  obtain ⟨PO, hPO⟩ : ∃ PO : Ending → World → Prop, (fun e w' => ∃ v, e = .returned v ∧ w'.ownsRow w.heap.size 42 2 v (n - 2) (flatRt (innK K)) ∧ Below w.heap.size w w') = PO := ⟨_, rfl⟩
  have HP := hideK hPO
  rw [hPO]
  clear hPO
  go_enter Try.func37, Try.ntmps37
  go_wp2_with fail
  go_loopw [3, 4] (fun lv iv wq => ∃ i : Nat, iv = .int .i64 ((i + 1 : Nat) : Int) ∧ i ≤ n - 2 ∧ wq.ownsRow w.heap.size 42 2 lv i (flatRt (((K.drop 1).take i).map (·.i))) ∧ Below w.heap.size w wq) (fun _ iv _ => n - (intOf iv).toNat)
  case atStart => exact ⟨0, rfl, Nat.zero_le _, World.ownsRow_nil _ _ _ _, Below.refl _ _⟩
  case round =>
    obtain ⟨i, rfl, hi, hown, hb⟩ := hrel
    obtain ⟨wq, rfl⟩ : ∃ wq, wq = wr := ⟨_, rfl⟩
    have k0 := HC.out wq hb
    have wk : IntKind.i64.wrap ((i : Int) + 1 + 1) = ((i + 1 + 1 : Nat) : Int) := by rw [show ((i + 1 + 1 : Nat) : Int) = (i : Int) + 1 + 1 by omega]; exact IntWalk.i64_in _ ⟨by omega, by omega⟩
    have wk2 : IntKind.i64.wrap (((i + 1 : Nat) : Int) + 1) = ((i + 1 + 1 : Nat) : Int) := by rw [show ((i + 1 : Nat) : Int) + 1 = (i : Int) + 1 + 1 by omega]; exact wk
    by_cases hlt : i + 1 + 1 < n
    · obtain ⟨x, hx⟩ : ∃ x, K[i + 1]? = some x := ⟨_, List.getElem?_eq_getElem (by rw [HN.out]; omega)⟩
      obtain ⟨A, rfl, hA, a0, a1, a2, a3⟩ := (HO.out.keep hb).get hx
      have hT := hideK (show ((K.drop 1).take (i + 1)).map (fun y : Kn => y.i) = ((K.drop 1).take i).map (·.i) ++ [x.i] by
        rw [List.take_add_one, List.getElem?_drop, Nat.add_comm 1 i, hx, List.map_append]
        rfl)
      have HA := hideK (And.intro hown hb)
      have hzw := hb.size
      clear hown hb hx a2 a3
      have d1 : ((i + 1 + 1 : Nat) : Int) < (n : Int) := by omega
      have d2 : ((i + 1 : Nat) : Int) < (n : Int) := by omega
      have d3 : (i : Int) + 1 < (n : Int) := by omega
      have d4 : (i : Int) + 1 + 1 < (n : Int) := by omega
      go_wp2_with (at_builtin; refine wpList_append_lies _ rfl _ _ 23 rfl w.heap.size 42 i0 _ 2 16 Try.underlying23 hI hz0 hz1 hz2 rfl (by decide) _ i (flatRt (((K.drop 1).take i).map (·.i))) rfl (HA.out.1.alloc _) ⟨wq.heap.size, 0, none⟩ 1 1 [.int .i64 x.i.N, .int .i64 x.i.D] rfl rfl (World.news_of_block (cs := #[.int .i64 x.i.N, .int .i64 x.i.D]) (t := 42) (fr := (0, 0)) (World.alloc_heap_new wq _)) (by simp [Value.oneCell']) (by omega) (by unfold maxLen; omega) (by omega) (by simp; omega) (wq.heap.size + 1) (by simp) ?_; intro gg cap2 w6 hown6 hgrow6 hat6 hlt6)
      go_roundw
      case rel =>
        refine ⟨i + 1, by first | rfl | simp, by omega, ?_, ?_⟩
        · rw [hT.out, flatRt_app]
          exact hown6
        · exact Below.grown (HA.out.2.alloc (by omega) _) hgrow6 (by rw [World.size_alloc]; omega) (fun k hk => (HA.out.1.lt k hk).1)
      case measure => simp [intOf]; omega
    · obtain rfl : i = n - 2 := by omega
      have d1 : ¬ ((n - 2 + 1 + 1 : Nat) : Int) < (n : Int) := by omega
      have HA := hideK (And.intro hown hb)
      clear hown hb
      go_wp2_with fail
      first
        | (rw [← HP.out]; exact ⟨_, rfl, by rw [HIn.out]; exact HA.out.1, HA.out.2⟩)
        | (go_ret; rw [← HP.out]; exact ⟨_, rfl, by rw [HIn.out]; exact HA.out.1, HA.out.2⟩)
end Go.Proofs.Ytipnefaggpigfaa

/- Then's points and errors, as the reference has them (chapter 6). -/
namespace Go.Proofs.Ytipnefaggpigfaa
open Go.RowKit Go.Shelf

theorem low_errQ (q : Rat) : (low q).2 = 0 ∨ (low q).2 = 12 := by
  unfold low
  split
  · exact .inl rfl
  · exact .inr rfl
theorem add_errQ (a b : Rt) : (addA a b).2 = 0 ∨ (addA a b).2 = 12 := by
  unfold addA
  split
  · exact low_errQ _
  · exact .inr rfl
theorem sub_errQ (a b : Rt) : (subA a b).2 = 0 ∨ (subA a b).2 = 12 := by
  unfold subA
  split
  · exact low_errQ _
  · exact .inr rfl
theorem mul_errQ (a b : Rt) : (mulA a b).2 = 0 ∨ (mulA a b).2 = 12 := by
  unfold mulA
  split
  · exact low_errQ _
  · exact .inr rfl
theorem rec_errQ (t fr tw sl : Rt) : (recA mulA t fr tw sl).2 = 0 ∨ (recA mulA t fr tw sl).2 = 12 := by
  unfold recA
  split
  · exact sub_errQ _ _
  · split
    · exact mul_errQ _ _
    · exact add_errQ _ _
theorem app_errQ (K : List Kn) (S : List Rt) (t : Rt) : (appF K S t).2 = 0 ∨ (appF K S t).2 = 12 := by
  unfold appF
  split
  · exact rec_errQ _ _ _ _
  · exact .inr rfl
theorem both_errQ (K1 K2 : List Kn) (t : Rt) : (bothF K1 K2 t).2 = 0 ∨ (bothF K1 K2 t).2 = 12 := by
  unfold bothF
  split
  · exact app_errQ _ _ _
  · exact app_errQ _ _ _
theorem errK_12 {f : Rt → Rt × Int} (hf : ∀ t, (f t).2 = 0 ∨ (f t).2 = 12) : ∀ P : List (Rt × Int), (∀ x ∈ P, x.2 = 0 ∨ x.2 = 12) → errK f P = 0 ∨ errK f P = 12
  | [], _ => .inl rfl
  | x :: P, h => by
    have hE : errK f (x :: P) = (if ¬ x.2 = 0 then x.2 else if ¬ (f x.1).2 = 0 then (f x.1).2 else errK f P) := rfl
    rw [hE]
    have h1 := h x (List.mem_cons_self ..)
    have h2 := hf x.1
    have h3 := errK_12 hf P (fun y hy => h y (List.mem_cons_of_mem _ hy))
    by_cases e1 : x.2 = 0
    · rw [if_neg (fun e => e e1)]
      by_cases e2 : (f x.1).2 = 0
      · rw [if_neg (fun e => e e2)]
        exact h3
      · rw [if_pos e2]
        exact h2
    · rw [if_pos e1]
      exact h1
/-- The points, and the error in making them. -/
def ptsR : List Rt → List Rt
  | [] => [⟨0, 1⟩, ⟨1, 1⟩]
  | b :: L => (subA b ⟨1, 1⟩).1 :: ((b :: L) ++ [(addA ((b :: L).getLastD b) ⟨1, 1⟩).1])
def preE : List Rt → Int
  | [] => 0
  | b :: L => if ¬ (subA b ⟨1, 1⟩).2 = 0 then (subA b ⟨1, 1⟩).2 else (addA ((b :: L).getLastD b) ⟨1, 1⟩).2
def errZ (f : Rt → Rt × Int) (T : List Rt) : Int := errK f (T.map fun t => (t, (0 : Int)))
theorem errZ_cons (f : Rt → Rt × Int) (t : Rt) (T : List Rt) : errZ f (t :: T) = if ¬ (f t).2 = 0 then (f t).2 else errZ f T := by
  show (if ¬ (0 : Int) = 0 then (0 : Int) else if ¬ (f t).2 = 0 then (f t).2 else errZ f T) = _
  rw [if_neg (by simp)]
theorem preE_cons (b : Rt) (L : List Rt) : preE (b :: L) = if ¬ (subA b ⟨1, 1⟩).2 = 0 then (subA b ⟨1, 1⟩).2 else (addA ((b :: L).getLastD b) ⟨1, 1⟩).2 := rfl
theorem pts_zero {P : List Rt} (h : preE P = 0) : ptsA P = (ptsR P).map fun t => (t, (0 : Int)) := by
  cases P with
  | nil => rfl
  | cons b L =>
    rw [preE_cons] at h
    by_cases h1 : (subA b ⟨1, 1⟩).2 = 0
    · rw [if_neg (fun e => e h1)] at h
      unfold ptsA ptsR
      have ea : subA b ⟨1, 1⟩ = ((subA b ⟨1, 1⟩).1, 0) := Prod.ext rfl h1
      have ez : addA ((b :: L).getLastD b) ⟨1, 1⟩ = ((addA ((b :: L).getLastD b) ⟨1, 1⟩).1, 0) := Prod.ext rfl h
      rw [List.map_cons, List.map_append, List.map_singleton]
      show _ = ((subA b ⟨1, 1⟩).1, (0 : Int)) :: (_ ++ [((addA ((b :: L).getLastD b) ⟨1, 1⟩).1, (0 : Int))])
      rw [← ea, ← ez]
    · rw [if_pos h1] at h
      exact absurd h h1
theorem pts_err {f : Rt → Rt × Int} (hf : ∀ t, (f t).2 = 0 ∨ (f t).2 = 12) (P : List Rt) : errK f (ptsA P) = if ¬ preE P = 0 then preE P else errZ f (ptsR P) := by
  by_cases h : preE P = 0
  · rw [if_neg (fun e => e h), pts_zero h]
    rfl
  · rw [if_pos h]
    cases P with
    | nil => exact absurd rfl h
    | cons b L =>
      rw [preE_cons] at h ⊢
      by_cases h1 : (subA b ⟨1, 1⟩).2 = 0
      · rw [if_neg (fun e => e h1)] at h ⊢
        have hz : (addA ((b :: L).getLastD b) ⟨1, 1⟩).2 = 12 := (add_errQ _ _).resolve_left h
        rw [hz]
        refine (errK_12 hf _ (fun x hx => ?_)).resolve_left (fun e => ?_)
        · unfold ptsA at hx
          rcases List.mem_cons.1 hx with rfl | hx
          · exact sub_errQ _ _
          · rcases List.mem_append.1 hx with hx | hx
            · obtain ⟨t, -, rfl⟩ := List.mem_map.1 hx
              exact .inl rfl
            · rw [List.mem_singleton.1 hx]
              exact add_errQ _ _
        · exact h (errK_all e _ (by unfold ptsA; exact List.mem_cons_of_mem _ (List.mem_append_right _ (List.mem_singleton.2 rfl)))).1
      · rw [if_pos h1]
        unfold ptsA
        show (if ¬ (subA b ⟨1, 1⟩).2 = 0 then (subA b ⟨1, 1⟩).2 else _) = _
        rw [if_pos h1]
theorem ptsR_len (P : List Rt) : (ptsR P).length ≤ P.length + 2 := by
  cases P <;> simp [ptsR]
theorem ptsR_in {P : List Rt} (h : ∀ x ∈ P, RtIn x) : ∀ x ∈ ptsR P, RtIn x := by
  intro x hx
  cases P with
  | nil =>
    rcases List.mem_cons.1 hx with rfl | hx
    · exact zero_in
    · rw [List.mem_singleton.1 hx]
      exact one_in
  | cons b L =>
    rcases List.mem_cons.1 hx with rfl | hx
    · exact subA_inK _ _
    · rcases List.mem_append.1 hx with hx | hx
      · exact h x hx
      · rw [List.mem_singleton.1 hx]
        exact addA_inK _ _
/-- What Then of two made maps tells, in the reference's words. -/
theorem thn_facts {L1 L2 : List Kn} (h1 : newE L1 = 0) (h2 : newE L2 = 0) :
    bndK (newK L1) = bndK L1 ∧ bndK (newK L2) = bndK L2 ∧
    ((allI (undF (newK L1) (slsK (newK L1))) 0 (bndK (newK L2))).2 = 0 → ((bndK (newK L2)).map fun t => (undF (newK L1) (slsK (newK L1)) t).1).foldl wthR (bndK (newK L1)) = thnB (newK L1) (newK L2)) := by
  obtain ⟨f1, m1⟩ := Mp.of h1
  obtain ⟨f2, m2⟩ := Mp.of h2
  have e1 : bndK (newK L1) = bndK L1 := by
    unfold bndK
    rw [(bnt_canon m1.given m1.own).1]
  have e2 : bndK (newK L2) = bndK L2 := by
    unfold bndK
    rw [(bnt_canon m2.given m2.own).1]
  refine ⟨e1, e2, fun z1 => ?_⟩
  have hu := allI_all _ _ z1
  have hC : thnC (newK L1) (newK L2) = (bndK (newK L2)).map fun t => (undF (newK L1) (slsK (newK L1)) t).1 := by unfold thnC allQ; rw [if_pos z1]
  have hb2 := bnd_ris m2.own.ris
  have hCr : RisL (thnC (newK L1) (newK L2)) := by
    rw [hC]
    refine ⟨fun x hx => ?_, ?_⟩
    · obtain ⟨t, ht, rfl⟩ := List.mem_map.1 hx
      exact (m1.und (hu t ht)).2.1
    · rw [List.pairwise_map]
      refine List.Pairwise.imp_of_mem (fun {a b} ha hb hab => ?_) hb2.2
      have ea := (m1.und (hu a ha)).2.2
      have eb := (m1.und (hu b hb)).2.2
      by_cases hc : valQ (undF (newK L1) (slsK (newK L1)) a).1 < valQ (undF (newK L1) (slsK (newK L1)) b).1
      · exact hc
      · have := mono_le m1.mono (show valQ (undF (newK L1) (slsK (newK L1)) b).1 ≤ valQ (undF (newK L1) (slsK (newK L1)) a).1 by grind)
        grind
  rw [← hC, fold_mrg _ _ (bnd_ris m1.own.ris).1 hCr]
  rfl
end Go.Proofs.Ytipnefaggpigfaa
