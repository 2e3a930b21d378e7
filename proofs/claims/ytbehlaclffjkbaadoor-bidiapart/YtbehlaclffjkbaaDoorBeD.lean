/- bidi: the levels of a text's clusters (chapter 4). -/
import Derived.Deep.RegionWith
import Derived.Laws.OwnMore
import Derived.OwnWalk
import Derived.Test.YtbehlaclffjkbaaDoorBeL
import Derived.Test.YtbehlaclffjkbaaDoorBeC
namespace Go.Proofs.YtbehlaclffjkbaaDoor
open Go.RowKit Go.Shelf

/-- How many clusters a paragraph has, its end among them. -/
def parL : List Int → Nat
  | [] => 0
  | c :: r => if c = 1 then 1 else 1 + parL r
theorem parL_le : ∀ C : List Int, parL C ≤ C.length
  | [] => Nat.le_refl _
  | c :: r => by
    have := parL_le r
    unfold parL
    split <;> first | (simp; done) | (simp; omega)
theorem parL_pos {C : List Int} (h : C ≠ []) : 1 ≤ parL C := by
  cases C with
  | nil => exact absurd rfl h
  | cons c r => unfold parL; split <;> omega
theorem idx_par : ∀ (C : List Int) (i : Nat), (Lib.idxFrom C 1 i < 0 ∧ parL C = C.length) ∨ ((0 : Int) ≤ Lib.idxFrom C 1 i ∧ Lib.idxFrom C 1 i + 1 = (i : Int) + parL C)
  | [], i => by left; simp [Lib.idxFrom, parL]
  | c :: r, i => by
    unfold Lib.idxFrom parL
    by_cases h : c = 1
    · right
      rw [if_pos h, if_pos h]
      omega
    · rw [if_neg h, if_neg h]
      rcases idx_par r (i + 1) with ⟨a, b⟩ | ⟨a, b⟩
      · left
        exact ⟨a, by rw [b]; simp; omega⟩
      · right
        exact ⟨a, by omega⟩
/-- The levels of paragraphs, one behind the other. -/
def levW (base : Int) : Nat → List Int → List Int
  | 0, _ => []
  | f + 1, C => if C = [] then [] else parN base (C.take (parL C)) (List.replicate (parL C) 0) ++ levW base f (C.drop (parL C))
/-- What Levels tells. -/
def levN (base : Int) (C : List Int) : List Int := levW base C.length C
theorem levW_len (base : Int) : ∀ (f : Nat) (C : List Int), C.length ≤ f → (levW base f C).length = C.length
  | 0, C, h => by
    have : C = [] := List.length_eq_zero_iff.1 (by omega)
    subst this
    rfl
  | f + 1, C, h => by
    rw [levW]
    split
    · rename_i e
      subst e
      rfl
    · rename_i e
      have h1 := parL_le C
      have h2 := parL_pos e
      rw [List.length_append, parN_len, List.length_replicate, levW_len base f _ (by simp; omega), List.length_drop]
      omega
theorem levN_len (base : Int) (C : List Int) : (levN base C).length = C.length := levW_len base _ C (Nat.le_refl _)
theorem levW_fuel (base : Int) : ∀ (f g : Nat) (C : List Int), C.length ≤ f → C.length ≤ g → levW base f C = levW base g C
  | 0, g, C, h, _ => by
    have : C = [] := List.length_eq_zero_iff.1 (by omega)
    subst this
    cases g <;> simp [levW]
  | f + 1, g, C, h, h2 => by
    cases g with
    | zero =>
      have : C = [] := List.length_eq_zero_iff.1 (by omega)
      subst this
      simp [levW]
    | succ g =>
      rw [levW, levW]
      split
      · rfl
      · rename_i e
        have h1 := parL_le C
        have h3 := parL_pos e
        rw [levW_fuel base f g _ (by simp; omega) (by simp; omega)]
theorem parlen_any (C : List Int) (hC : C ≠ []) (hn : C.length ≤ 1000000000000) (ob : Option Addr) (capb : Nat) (w : World) (h : RdA w ob C) :
    Calls Tryd.prog 10 #[.slice ob C.length capb] w fun e w' => e = .returned (.int .i64 (parL C : Nat)) ∧ w' = w := by
  obtain ⟨x, hx⟩ : ∃ x, C[0]? = some x := ⟨_, List.getElem?_eq_getElem (List.length_pos_iff.2 hC)⟩
  obtain ⟨g, off, rfl, _⟩ := h 0 x hx
  have hI := idx_any g off C.length capb C 1 w (Nat.le_refl _) (by omega) (fun j hj => by
    obtain ⟨y, hy⟩ : ∃ y, C[j]? = some y := ⟨_, List.getElem?_eq_getElem hj⟩
    obtain ⟨g2, off2, e2, hc⟩ := h j y hy
    cases e2
    rw [hc, List.getD_eq_getElem?_getD, hy]
    rfl)
  rw [List.take_length] at hI
  have hp := idx_par C 0
  have hle := parL_le C
  change Calls Tryd.prog 18 #[.slice (some ⟨g, off, none⟩) C.length capb, .int .i64 1] w fun e w' => e = .returned (.int .i64 (Lib.idxFrom C 1 0)) ∧ w' = w at hI
  have HI := hideB hI
  generalize Lib.idxFrom C 1 0 = z at *
  generalize parL C = p at *
  generalize C.length = n at *
  clear hI h hx hC
  go_enter Tryd.func10, Tryd.ntmps10
  go_wp2_with fail
  refine HI.out.mono ?_
  rintro e v5 ⟨rfl, rfl⟩
  rcases hp with ⟨a, b⟩ | ⟨a, b⟩
  · subst b
    go_wp2_with fail
    go_ret
    exact ⟨rfl, rfl⟩
  · have d : ¬ z < 0 := by omega
    have wz : IntKind.i64.wrap (z + 1) = (p : Int) := by rw [show z + 1 = (p : Int) by omega]; exact IntWalk.i64_in _ ⟨by omega, by omega⟩
    go_wp2_with fail
    go_ret
    exact ⟨rfl, rfl⟩
theorem levels_bad (s : ByteArray) (b : Int) (hb : b ≠ 0 ∧ b ≠ 1) (w : World) : Calls Tryd.prog 5 #[.string s, .int .i64 b] w fun e w' => e = .returned (.tuple #[.slice none 0 0, .int .i64 1]) ∧ w' = w := by
  have b0 : (b != 0) = true := by simp [hb.1]
  have b1 : (b != 1) = true := by simp [hb.2]
  clear hb
  go_enter Tryd.func5, Tryd.ntmps5
  go_wp2_with fail
  refine bodyPost_ret (v := .tuple #[.slice none 0 0, .int .i64 1]) (by simp [results, Tryd.results5, go_sem]) rfl ?_
  exact ⟨rfl, rfl⟩
theorem clsI_b (r : Int) : 1 ≤ classI r ∧ classI r ≤ 17 := by
  unfold classI othI
  repeat' split
  all_goals omega
theorem clsS_B (s : ByteArray) : ClsB (clsS s) := by
  intro c hc
  unfold clsS at hc
  obtain ⟨x, _, rfl⟩ := List.mem_map.1 hc
  exact clsI_b _
theorem flatJ_zeros (n : Nat) : flatJ (List.replicate n 0) = List.replicate n (.int .i64 0) := by unfold flatJ; rw [List.map_replicate]
theorem put_zeros (D X : List Int) (f p n : Nat) (hD : D.length = f) (hX : X.length = p) (hn : f + p ≤ n) : putJ (D ++ List.replicate (n - f) 0) f X = (D ++ X) ++ List.replicate (n - (f + p)) 0 := by
  unfold putJ
  rw [List.take_append, hD, Nat.sub_self, List.take_zero, List.append_nil, List.take_of_length_le (by omega), hX, List.drop_append, hD, List.drop_eq_nil_of_le (by omega), List.nil_append, List.drop_replicate, List.append_assoc]
  congr 3
  omega
theorem put_start (D : List Int) (f p n : Nat) (hD : D.length = f) (hn : f + p ≤ n) : putJ (D ++ List.replicate (n - f) 0) f (List.replicate p 0) = D ++ List.replicate (n - f) 0 := by
  rw [put_zeros D _ f p n hD (List.length_replicate) hn, List.append_assoc, List.replicate_append_replicate]
  congr 2
  omega
theorem levW_step (base : Int) (C : List Int) (f : Nat) (n : Nat) (hn : C.length = n) (hf : f < n) : levW base (n - f) (C.drop f) = parN base ((C.drop f).take (parL (C.drop f))) (List.replicate (parL (C.drop f)) 0) ++ levW base (n - (f + parL (C.drop f))) (C.drop (f + parL (C.drop f))) := by
  obtain ⟨k, hk⟩ : ∃ k, n - f = k + 1 := ⟨n - f - 1, by omega⟩
  have hne : C.drop f ≠ [] := by
    intro e
    have := congrArg List.length e
    simp at this
    omega
  have h1 := parL_pos hne
  have h2 := parL_le (C.drop f)
  rw [hk, levW, if_neg hne, List.drop_drop]
  congr 1
  refine levW_fuel base _ _ _ ?_ ?_ <;> (rw [List.length_drop]; omega)
set_option maxRecDepth 100000 in
set_option maxHeartbeats 4000000 in
theorem levels_any (s : ByteArray) (hs : s.size ≤ 2097152) (base : Int) (hb : base = 0 ∨ base = 1) (N : Nat) (w : World) (hT : Tabs N w) (hU : ∀ W, Below w.heap.size w W → Lib.Utf8Tabs 0 1 W) :
    Calls Tryd.prog 5 #[.string s, .int .i64 base] w fun e w' => ∃ v, e = .returned (.tuple #[v, .int .i64 0]) ∧ w'.ownsRow w.heap.size 3 1 v (clsS s).length (flatJ (levN base (clsS s))) ∧ Below w.heap.size w w' := by
  obtain ⟨i0, hi0, hz0, hz1, hz2⟩ := info_partsC infoJ
  have HI := hideB (And.intro hi0 (And.intro hz0 (And.intro hz1 hz2)))
  clear hi0 hz0 hz1 hz2
  have HCls := hideB (classesOf_any s hs N w hT hU)
  have hCB := clsS_B s
  have hln : (clsS s).length ≤ 2097153 := by have := clusters_length s; unfold clsS; rw [List.length_map]; omega
  generalize clsS s = C at *
  obtain ⟨n, hn'⟩ : ∃ n, C.length = n := ⟨_, rfl⟩
  have HN := hideB hn'
  rw [hn'] at HCls hln ⊢
  obtain ⟨PO, hPO⟩ : ∃ PO : Ending → World → Prop, (fun e w' => ∃ v, e = .returned (.tuple #[v, .int .i64 0]) ∧ w'.ownsRow w.heap.size 3 1 v n (flatJ (levN base C)) ∧ Below w.heap.size w w') = PO := ⟨_, rfl⟩
  have HPO := hideB hPO
  rw [hPO]
  clear hPO hT hU hn'
  go_enter Tryd.func5, Tryd.ntmps5
  go_upto_region 1 with fail
  rename_i K2 hK2 K hK
  have HT : Hid (∀ (v10 v11 v12 v13 v14 v15 : Value), K2 ⟨#[.string s, .int .i64 base, undef, undef, .slice none 0 0, .int .i64 0, undef, undef, undef, undef, v10, v11, v12, v13, v14, v15, undef, undef, undef, undef, undef, undef, undef, undef, undef, undef, undef, undef, undef, undef, undef, undef, undef, undef, undef, undef, undef, undef, undef, undef, undef, undef, undef], []⟩ w) := hideB (by
    intro v10 v11 v12 v13 v14 v15
    refine hK2 _ _ ?_
    go_wp2_with fail
    refine HCls.out.mono ?_
    rintro e w1 ⟨v, rfl, ho1, hb1⟩
    clear hK2 hK HCls
    obtain ⟨oc, cc, rfl⟩ : ∃ o c, v = .slice o n c := by
      rcases own_formB ho1 with ⟨e, rfl⟩ | ⟨g, cap, e⟩
      · exact ⟨none, 0, by rw [e]⟩
      · exact ⟨_, cap, e⟩
    have HO := hideB (And.intro (RdA.of_own ho1 HN.out) (And.intro hb1 ho1))
    clear ho1 hb1
    go_wp2_with (at_make; refine wpList_make_full _ rfl _ _ 23 rfl w.heap.size 3 i0 (.int .i64 0) 1 Tryd.underlying23 HI.out.1 HI.out.2.1 HI.out.2.2.1 .i64 .i64 _ _ n rfl rfl rfl rfl (by rw [HI.out.2.2.2]; omega) (by unfold maxLen; omega) HO.out.2.1.size ?_; intro w2 own2 gr2)
    have HO2 : Hid (w2.ownsRow w.heap.size 3 1 (.slice (some ⟨w1.heap.size, 0, none⟩) n n) n (flatJ ([] ++ List.replicate (n - 0) 0)) ∧ Below w.heap.size w w2 ∧ w1.heap.size < w2.heap.size ∧ RdA w2 oc C ∧ w2.ownsRow w.heap.size 3 1 (.slice oc n cc) n (flatJ C)) := hideB (by
      have b2 : Below w1.heap.size w1 w2 := Below.grown (Below.refl _ _) gr2 (Nat.le_refl _) (fun k hk => by cases hk)
      have o2 := own2
      rw [Nat.mul_one, show (Value.int .i64 0).cells = #[Value.int .i64 0] from rfl, toList_madeCells_one, ← flatJ_zeros] at o2
      exact ⟨o2, HO.out.2.1.trans (b2.mono HO.out.2.1.size), (own2.lt w1.heap.size (by simp [Value.ownBlock])).2, HO.out.1.keep b2, own_keepB HO.out.2.2 b2⟩)
    obtain ⟨gl, hgl⟩ : ∃ gl, w1.heap.size = gl := ⟨_, rfl⟩
    have hglw : w.heap.size ≤ gl := by rw [← hgl]; exact HO.out.2.1.size
    have HG : Hid (∀ a, oc = some a → a.block < gl) := hideB (fun a ha => by rw [← hgl]; have := (HO.out.2.2.lt a.block (by rw [ha]; simp [Value.ownBlock])).2; exact this)
    rw [hgl] at HO2 ⊢
    clear own2 gr2 HO hgl
    go_loopw [8] (fun v8 wr => ∃ (f : Nat) (D : List Int), v8 = .int .i64 (f : Nat) ∧ f ≤ n ∧ D.length = f ∧ Hid (D ++ levW base (n - f) (C.drop f) = levN base C) ∧ wr.ownsRow w.heap.size 3 1 (.slice (some ⟨gl, 0, none⟩) n n) n (flatJ (D ++ List.replicate (n - f) 0)) ∧ But (fun k => k = gl) w2 wr) (fun v8 _ => n - (intOf v8).toNat)
    case atStart => exact ⟨0, [], rfl, Nat.zero_le _, rfl, hideB (by rw [levN, HN.out]; rfl), HO2.out.1, But.refl _ _⟩
    case round =>
      obtain ⟨f, D, rfl, hfn, hD, HE, hown, hbt⟩ := hrel
      obtain ⟨wq, rfl⟩ : ∃ wq, wq = wr := ⟨_, rfl⟩
      by_cases hlt : f < n
      · obtain ⟨gc, cc2, e2⟩ : ∃ g cap2, Value.slice oc n cc = .slice (some ⟨g, 0, none⟩) n cap2 := by
          rcases own_formB HO2.out.2.2.2.2 with ⟨e, _⟩ | ⟨g, cap, e⟩
          · omega
          · exact ⟨g, cap, e⟩
        cases e2
        have hgc := HG.out _ rfl
        have hcc : n ≤ cc := by
          rcases HO2.out.2.2.2.2.2 with ⟨e, _⟩ | ⟨g1, cap1, cur, e, _, _, h1, _⟩
          · cases e
          · cases e
            exact h1
        have hcl : (C.drop f).length = n - f := by rw [List.length_drop, HN.out]
        have hne : C.drop f ≠ [] := fun e => by rw [e] at hcl; simp at hcl; omega
        have hrd : RdA wq (some ⟨gc, 0 + f, none⟩) ((C.drop f).take (n - f)) := (HO2.out.2.2.2.1.but hbt (fun a ha e => by cases ha; have h8 : gc = gl := e; have h9 : gc < gl := hgc; omega)).part rfl f (n - f)
        rw [Nat.zero_add, List.take_of_length_le (by omega)] at hrd
        have hp1 := parL_pos hne
        have hp2 := parL_le (C.drop f)
        have HPar := hideB (parlen_any (C.drop f) hne (by omega) _ (cc - f) wq hrd)
        have HStep := hideB (levW_step base C f n HN.out hlt)
        obtain ⟨p, hp⟩ : ∃ p, parL (C.drop f) = p := ⟨_, rfl⟩
        rw [hp] at HPar hp1 hp2 HStep
        rw [hcl] at HPar hp2
        have htl : ((C.drop f).take p).length = p := by rw [List.length_take, hcl]; omega
        have hrd2 := hrd.part rfl 0 p
        rw [Nat.add_zero, List.drop_zero] at hrd2
        have hAl : (D ++ List.replicate (n - f) 0).length = n := by rw [List.length_append, hD, List.length_replicate]; omega
        have hLay := fun (W : World) (h1 : W.ownsRow w.heap.size 3 1 (.slice (some ⟨gl, 0, none⟩) n n) n (flatJ (D ++ List.replicate (n - f) 0))) (h2 : RdA W (some ⟨gc, f, none⟩) ((C.drop f).take p)) =>
          laylev_any ((C.drop f).take p) (D ++ List.replicate (n - f) 0) (List.replicate p 0) (fun c hc => hCB c (List.mem_of_mem_drop (List.mem_of_mem_take hc))) (by rw [List.length_replicate, htl]) f (by rw [htl, hAl]; omega) (by rw [hAl]; omega) base hb w.heap.size gl n (n - f) (cc - f) (some ⟨gc, f, none⟩) W (by rw [hAl, put_start D f p n hD (by omega)]; exact h1) h2 (fun a ha => by cases ha; show gc ≠ gl; have h9 : gc < gl := hgc; omega)
        rw [htl, hAl, put_zeros D _ f p n hD (by rw [parN_len, List.length_replicate]) (by omega)] at hLay
        have HLay := hideB (hLay wq.drew hown.drew (hrd2.keep (Below.refl wq.heap.size wq).drew))
        have HF := hideB (And.intro hown (And.intro hbt hD))
        have df : (f : Int) < (n : Int) := by omega
        have d1 : (0 : Int) ≤ (f : Int) := by omega
        have d2 : (f : Int) ≤ (n : Int) := by omega
        have d3 : (f : Int) ≤ ((f + p : Nat) : Int) := by omega
        have d4 : ((f + p : Nat) : Int) ≤ (n : Int) := by omega
        have d5 : ((f + p : Nat) : Int) ≤ (cc : Int) := by omega
        have d6 : (f : Int) ≤ (cc : Int) := by omega
        have wf : IntKind.i64.wrap ((f : Int) + (p : Int)) = ((f + p : Nat) : Int) := by rw [show ((f + p : Nat) : Int) = (f : Int) + (p : Int) by omega]; exact IntWalk.i64_in _ ⟨by omega, by omega⟩
        clear hown hbt hcl hne hrd hrd2 htl hAl hLay hp
        go_wp2_with fail
        refine HPar.out.mono ?_
        rintro e v5 ⟨rfl, rfl⟩
        clear HPar
        go_wp2_with fail
        go_region_with (go_at_call 11; refine HLay.out.mono ?_; rintro e9 w9 ⟨⟨u, rfl⟩, ho9, hb9⟩)
        all_goals
          have HQ := hideB (And.intro ho9 (HF.out.2.1.trans ((But.grown (Below.refl v5.heap.size v5).drew).trans hb9)))
          have HE2 : Hid ((D ++ parN base ((C.drop f).take p) (List.replicate p 0)) ++ levW base (n - (f + p)) (C.drop (f + p)) = levN base C) := hideB (by rw [List.append_assoc, ← HStep.out, HE.out])
          have HD2 : Hid ((D ++ parN base ((C.drop f).take p) (List.replicate p 0)).length = f + p) := hideB (by rw [List.length_append, parN_len, List.length_replicate, HF.out.2.2])
          clear ho9 hb9
          go_wp2_with fail
          go_roundw
          case rel => exact ⟨f + p, _, by first | rfl | simp, by omega, HD2.out, HE2, HQ.out⟩
          case measure => (simp [intOf] <;> omega)
      · obtain rfl : n = f := by omega
        have d2 : ¬ (n : Int) < (n : Int) := by omega
        have HQ : Hid (PO (.returned (.tuple #[.slice (some ⟨gl, 0, none⟩) n n, .int .i64 0])) wq) := hideB (by
          rw [← HPO.out]
          refine ⟨_, rfl, ?_, HO2.out.2.1.trans (hbt.below HO2.out.2.1.size (fun k e => by have h9 : k = gl := e; omega))⟩
          have h9 := HE.out
          rw [Nat.sub_self] at h9 hown
          rw [← h9]
          exact hown)
        clear hown hbt
        go_wp2_with fail
        exact HQ.out)
  clear hK2
  rcases hb with rfl | rfl
  · go_wp2_with fail
    exact HT.out _ _ _ _ _ _
  · go_wp2_with fail
    exact HT.out _ _ _ _ _ _
end Go.Proofs.YtbehlaclffjkbaaDoor
