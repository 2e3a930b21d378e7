/- The walk of SpeedMore up to its loop: rules turned into the program's; both lists asked for. -/
import Derived.Test.YthhhglfcacoejabDoorGT
import Derived.Test.YthhhglfcacoejabDoorGS
import Derived.Test.YthhhglfcacoejabDoorGD
import Derived.Deep.RegionHeld3
namespace Go.Proofs.YthhhglfcacoejabDoor
open Go.RowKit Go.Shelf

set_option maxRecDepth 100000 in
set_option maxHeartbeats 1000000 in
theorem as11_any (a0 a1 a2 a3 a4 a5 : Int) (w : World) :
    Calls Tryd.prog 7 #[.agg #[.int .i64 a0, .int .i64 a1, .int .i64 a2, .int .i64 a3, .int .i64 a4, .int .i64 a5]] w fun e w' => e = .returned (.agg #[.int .i64 a0, .int .i64 a1, .int .i64 a2, .int .i64 a3, .int .i64 a4, .int .i64 a5]) ∧ Below w.heap.size w w' := by
  go_enter Tryd.func7, Tryd.ntmps7
  go_wp2_with fail
  refine bodyPost_ret (v := .agg #[.int .i64 a0, .int .i64 a1, .int .i64 a2, .int .i64 a3, .int .i64 a4, .int .i64 a5]) (by simp [results, Tryd.results7, go_sem]) rfl ⟨rfl, ?_⟩
  exact ((Below.refl _ w).alloc (Nat.le_refl _) _).alloc (by simp) _
theorem fast_in (S L : Rt) (Q : List Cu) : ∀ p ∈ fastG S L 0 Q, RtIn p.2 := fun p hp => by
  obtain ⟨i, y⟩ := p
  obtain ⟨j, x, _, _, _, h4⟩ := (fastG_mem S L Q 0 i y).1 hp
  show RtIn y
  rw [h4]
  exact lackA_in S L x
theorem badC_noneM (f : Cu → Int) : ∀ (L : List Cu) (i : Nat), badC f i L = none → ∀ x ∈ L, f x = 0
  | [], _, _, x, hx => by simp at hx
  | y :: L, i, h, x, hx => by
    unfold badC at h
    split at h
    · rename_i h0
      rcases List.mem_cons.1 hx with rfl | hx
      · exact h0
      · exact badC_noneM f L (i + 1) h x hx
    · cases h
theorem lookR_none {sp : Cu → List Sp} {S L G : Rt} {Q : List Cu} (h : lookR sp S L G Q = none) : (∀ x ∈ Q, chkF sp x = 0) ∧ (rightB S = true ∧ 0 < S.N ∧ timeA L = 0) ∧ ∀ x ∈ Q, (lackA S L x).2 = 0 := by
  unfold lookR at h
  split at h
  · cases h
  · rename_i hd
    split at h
    · rename_i hr
      simp only [Bool.and_eq_true, decide_eq_true_eq] at hr
      refine ⟨?_, ⟨hr.1.1.1, hr.1.1.2, hr.1.2⟩, badC_noneM _ Q 0 h⟩
      unfold docC at hd
      split at hd
      · cases hd
      · split at hd
        · cases hd
        · rename_i h2
          exact badC_noneM _ Q 0 h2
    · cases h
theorem chkF_tmM {sp : Cu → List Sp} {x : Cu} (h : chkF sp x = 0) : timeA ⟨x.a, x.b⟩ = 0 ∧ timeA ⟨x.c, x.d⟩ = 0 := by
  unfold chkF chkC at h
  by_cases h1 : timeA ⟨x.a, x.b⟩ = 0
  · rw [if_pos h1] at h
    refine ⟨h1, ?_⟩
    by_cases h2 : timeA ⟨x.c, x.d⟩ = 0
    · exact h2
    · rw [if_pos h2] at h
      exact absurd h h2
  · rw [if_neg h1] at h
    rw [if_pos h1] at h
    exact absurd h h1
/-- With more signs a second, a lesser least time: each cue that is named then was named ahead, and lacked no less. -/
theorem more_math {sp : Cu → List Sp} {S L G M K S2 L2 : Rt} {Q : List Cu} (h1 : lookR sp S L G Q = none) (h2 : lookR sp S2 L2 G Q = none) (hS : S2 = S ∨ (S2 = M ∧ rightB M = true ∧ 0 < cmpI M S)) (hL : L2 = L ∨ (L2 = K ∧ timeA K = 0 ∧ cmpI K L < 0)) (hs : ∀ x ∈ Q, x.s.size ≤ 140737488355328) :
    ∀ b ∈ fastG S2 L2 0 Q, ∃ p ∈ fastG S L 0 Q, p.1 = b.1 ∧ ¬ cmpI p.2 b.2 < 0 := by
  intro b hb
  obtain ⟨i, y⟩ := b
  obtain ⟨j, x, g1, g2, g3, g4⟩ := (fastG_mem S2 L2 Q 0 i y).1 hb
  obtain ⟨a1, ⟨a2, a3, a4⟩, a5⟩ := lookR_none h1
  obtain ⟨_, ⟨b2, b3, b4⟩, b5⟩ := lookR_none h2
  have hm := List.mem_of_getElem? g1
  have hle := signs_leL x.s
  have hrl := readN_le (signs x.s)
  have hsx := hs x hm
  have hSS : valQ S ≤ valQ S2 := by
    rcases hS with rfl | ⟨rfl, k1, k2⟩
    · exact Rat.le_refl
    · exact (cmp_le a2 k1).1 (by rw [cmp_turn]; omega)
  have hLL : valQ L2 ≤ valQ L := by
    rcases hL with rfl | ⟨rfl, k1, k2⟩
    · exact Rat.le_refl
    · exact (cmp_le (time_rightM k1) (time_rightM a4)).1 (by omega)
  obtain ⟨c1, c2⟩ := lack_mono (x := x) (by omega) a2 a3 a4 b2 b3 b4 hSS hLL (chkF_tmM (a1 x hm)) (a5 x hm) (b5 x hm) g3
  exact ⟨(i, (lackA S L x).1), (fastG_mem S L Q 0 i _).2 ⟨j, x, g1, g2, c1, rfl⟩, rfl, by rw [g4]; exact c2⟩
/-- What lies in memory: the document, the rules, the two ratios, as they were handed in. -/
structure MoS (w : World) (oa : Option Addr) (N cap : Nat) (S L G M K : Rt) (W : World) : Prop where
  below : Below w.heap.size w W
  room : w.heap.size + 1 + 1 + 1 < W.heap.size
  doc : W.cell? ⟨w.heap.size, 0, none⟩ = some (.slice oa N cap)
  six : SixC W (w.heap.size + 1) 28 S.N S.D L.N L.D G.N G.D
  more : Two W (w.heap.size + 1 + 1) (.int .i64 M.N) (.int .i64 M.D)
  less : Two W (w.heap.size + 1 + 1 + 1) (.int .i64 K.N) (.int .i64 K.D)
theorem MoS.keep {w W V : World} {oa : Option Addr} {N cap : Nat} {S L G M K : Rt} (h : MoS w oa N cap S L G M K W) (b : Below W.heap.size W V) : MoS w oa N cap S L G M K V :=
  ⟨bup h.below b, Nat.lt_of_lt_of_le h.room b.size, (b.cell (p := ⟨w.heap.size, 0, none⟩) (by show w.heap.size < _; have := h.room; omega)).trans h.doc, h.six.keep b, h.more.keep b, h.less.keep b⟩
theorem MoS.but {w W V : World} {oa : Option Addr} {N cap B : Nat} {S L G M K : Rt} (h : MoS w oa N cap S L G M K W) (b : But (fun k => k = B) W V) (hB : ∀ k, k ≤ w.heap.size + 1 + 1 + 1 → ¬ k = B) : MoS w oa N cap S L G M K V := by
  have hr := h.room
  have k0 : ∀ k, k ≤ w.heap.size + 1 + 1 + 1 → V.heap[k]? = W.heap[k]? := fun k hk => b.same k (by omega) (hB k hk)
  have bw : Below w.heap.size W V := b.below (by omega) (fun k hk => by
    subst hk
    exact Nat.le_of_lt (Nat.lt_of_not_le fun e => hB k (by omega) rfl))
  have two : ∀ {R : Nat} {x y : Value}, R ≤ w.heap.size + 1 + 1 + 1 → Two W R x y → Two V R x y := fun hR ht => by
    obtain ⟨t1, t2, t3, t4, t5⟩ := ht
    exact ⟨Nat.lt_of_lt_of_le t1 b.size, (World.cell?_of_block (k0 _ hR)).trans t2, (World.cell?_of_block (k0 _ hR)).trans t3, (World.frozen?_of_block (k0 _ hR)).trans t4, (World.frozen?_of_block (k0 _ hR)).trans t5⟩
  exact ⟨h.below.trans bw, Nat.lt_of_lt_of_le hr b.size, (World.cell?_of_block (k0 _ (by show w.heap.size ≤ _; omega))).trans h.doc, (k0 _ (by omega)).trans h.six, two (by omega) h.more, two (by omega) h.less⟩

set_option maxRecDepth 100000 in
set_option maxHeartbeats 2000000 in
theorem more_walk (sp : Cu → List Sp) (S L G M K : Rt) (Q : List Cu) (oa : Option Addr) (cap : Nat) (hc : Q.length ≤ cap ∧ cap ≤ maxLen) (hS : RtIn S) (hL : RtIn L) (hG : RtIn G) (hM : RtIn M) (hK : RtIn K) (T : Nat) (w : World) (hT : Tabs T w) (hR : CuO w oa Q) (hP : ∀ x ∈ Q, CuP w sp x) :
    Calls Tryd.prog 3 #[.agg #[.slice oa Q.length cap], .agg #[.int .i64 S.N, .int .i64 S.D, .int .i64 L.N, .int .i64 L.D, .int .i64 G.N, .int .i64 G.D], .agg #[.int .i64 M.N, .int .i64 M.D], .agg #[.int .i64 K.N, .int .i64 K.D]] w fun e w' => e = .returned (.bool true) ∧ Below w.heap.size w w' := by
  have HF := hideC (fun (W : World) (b : Below w.heap.size w W) => few_any Q oa cap hc W (hR.keep b))
  have HKn := hideC (fun (W : World) (b : Below w.heap.size w W) => known11 T W (hT.below b))
  have HLk := hideC (fun (hn : Q.length ≤ 1000000) (S2 L2 : Rt) (hS2 : RtIn S2) (hL2 : RtIn L2) (W : World) (b : Below w.heap.size w W) => look11_any sp S2 L2 G Q oa cap hc hn hS2 hL2 hG T W (hT.below b) (hR.keep b) (fun x hx => (hP x hx).keep b))
  have HLa : Hid (∀ W, Calls Tryd.prog 7 #[.agg #[.int .i64 S.N, .int .i64 S.D, .int .i64 L.N, .int .i64 L.D, .int .i64 G.N, .int .i64 G.D]] W fun e w' => e = .returned (.agg #[.int .i64 S.N, .int .i64 S.D, .int .i64 L.N, .int .i64 L.D, .int .i64 G.N, .int .i64 G.D]) ∧ Below W.heap.size W w') := hideC (fun W => as11_any S.N S.D L.N L.D G.N G.D W)
  have HI := hideC (And.intro hS (And.intro hL (And.intro hM hK)))
  have HP := hideC hP
  obtain ⟨N, hN⟩ : ∃ N, Q.length = N := ⟨_, rfl⟩
  have HN := hideC hN
  rw [hN] at HF HLk hc ⊢
  clear hN hS hL hG hM hK hT hR hP
  go_enter Tryd.func3, Tryd.ntmps3
  go_wp2_with fail
  obtain ⟨V, hV⟩ : ∃ V, (((w.alloc (.cells #[.slice oa N cap] 24)).alloc (.cells #[.int .i64 S.N, .int .i64 S.D, .int .i64 L.N, .int .i64 L.D, .int .i64 G.N, .int .i64 G.D] 28)).alloc (.cells #[.int .i64 M.N, .int .i64 M.D] 26)).alloc (.cells #[.int .i64 K.N, .int .i64 K.D] 26) = V := ⟨_, rfl⟩
  have HV : Hid (MoS w oa N cap S L G M K V) := hideC (by
    rw [← hV]
    have h1 := World.alloc_heap_new (w.alloc (.cells #[.slice oa N cap] 24)) (.cells #[.int .i64 S.N, .int .i64 S.D, .int .i64 L.N, .int .i64 L.D, .int .i64 G.N, .int .i64 G.D] 28)
    rw [World.size_alloc] at h1
    have h2 := Two.new ((w.alloc (.cells #[.slice oa N cap] 24)).alloc (.cells #[.int .i64 S.N, .int .i64 S.D, .int .i64 L.N, .int .i64 L.D, .int .i64 G.N, .int .i64 G.D] 28)) (.int .i64 M.N) (.int .i64 M.D) 26
    rw [World.size_alloc, World.size_alloc] at h2
    have h3 := Two.new (((w.alloc (.cells #[.slice oa N cap] 24)).alloc (.cells #[.int .i64 S.N, .int .i64 S.D, .int .i64 L.N, .int .i64 L.D, .int .i64 G.N, .int .i64 G.D] 28)).alloc (.cells #[.int .i64 M.N, .int .i64 M.D] 26)) (.int .i64 K.N) (.int .i64 K.D) 26
    rw [World.size_alloc, World.size_alloc, World.size_alloc] at h3
    have h0 := World.alloc_heap_new w (.cells #[.slice oa N cap] 24)
    refine ⟨bup (bup (bup (bel1 _ _) (bel1 _ _)) (bel1 _ _)) (bel1 _ _), by rw [World.size_alloc, World.size_alloc, World.size_alloc, World.size_alloc]; omega, ?_, ?_, h2.alloc _, h3⟩
    · rw [World.cell?, (Below.heap_alloc _ _ _ (by rw [World.size_alloc, World.size_alloc, World.size_alloc]; omega)).trans ((Below.heap_alloc _ _ _ (by rw [World.size_alloc, World.size_alloc]; omega)).trans ((Below.heap_alloc _ _ _ (by rw [World.size_alloc]; omega)).trans h0))]
      rfl
    · exact (Below.heap_alloc _ _ _ (by rw [World.size_alloc, World.size_alloc, World.size_alloc]; omega)).trans ((Below.heap_alloc _ _ _ (by rw [World.size_alloc, World.size_alloc]; omega)).trans h1))
  rw [hV]
  clear hV
  refine (HKn.out V HV.out.below).mono ?_
  rintro e w1 ⟨rfl, b1⟩
  have H1 := hideC (HV.out.keep b1)
  have c1 := H1.out.doc
  clear b1 HKn HV
  go_wp2_with fail
  refine (HF.out w1 H1.out.below).mono ?_
  rintro e w2 ⟨⟨bb, rfl, hbb⟩, b2⟩
  have H2 := hideC (H1.out.keep b2)
  have c2 := H2.out.doc
  clear b2 c1 HF H1
  cases bb with
  | false =>
    go_wp2_with fail
    go_ret
    exact ⟨rfl, H2.out.below⟩
  | true =>
    have hN3 := hbb rfl
    clear hbb
    go_upto_region 5 with fail
    have ⟨s0, s1, s2, s3, s4, s5⟩ := H2.out.six.cells
    have HL1 := hideC (fun (W : World) (b : Below w2.heap.size w2 W) => HLk.out (by omega) S L HI.out.1 HI.out.2.1 W (bup H2.out.below b))
    go_cut [9, 10] (fun v er wx => ∃ wb, LkV wb wx (lookR sp S L G Q) (fastG S L 0 Q) v er ∧ Below w2.heap.size w2 wb ∧ Below wb.heap.size wb wx)
    case first =>
      go_region_held3 (fun w' => w'.cell? ⟨w.heap.size, 0, none⟩ = some (.slice oa N cap) ∧ w'.cell? ⟨w.heap.size + 1, 0, none⟩ = some (.int .i64 S.N) ∧ w'.cell? ⟨w.heap.size + 1, 1, none⟩ = some (.int .i64 S.D) ∧ w'.cell? ⟨w.heap.size + 1, 2, none⟩ = some (.int .i64 L.N) ∧ w'.cell? ⟨w.heap.size + 1, 3, none⟩ = some (.int .i64 L.D) ∧ w'.cell? ⟨w.heap.size + 1, 4, none⟩ = some (.int .i64 G.N) ∧ w'.cell? ⟨w.heap.size + 1, 5, none⟩ = some (.int .i64 G.D)) (first | go_keep | assumption | exact k5 | exact k6) (first
        | (go_at_call 7; (with_reducible refine (HLa.out _).mono ?_); rintro e w5 ⟨rfl, b5⟩; have b5 : Below w2.heap.size w2 w5 := (by first | exact ⟨b5.os, b5.tape, b5.output, b5.size, b5.block⟩ | exact b5); have k5 := And.intro (H2.out.keep b5).doc (H2.out.keep b5).six.cells; have HL2 := hideC (HL1.out w5 b5))
        | (go_at_call 6; (with_reducible refine HL2.out.mono ?_); rintro e w6 ⟨v6, er6, rfl, hk6, b6⟩; have k6 := And.intro (H2.out.keep (bup b5 b6)).doc (H2.out.keep (bup b5 b6)).six.cells))
      all_goals
        go_wp2_with fail
        go_meet
        case rel => exact ⟨w5, hk6, b5, b6⟩
    case rest =>
      obtain ⟨wb, hk, bA, bB⟩ := hcut
      obtain ⟨w3, rfl⟩ : ∃ w3, w3 = wc := ⟨_, rfl⟩
      have H3 := hideC (H2.out.keep (bup bA bB))
      have hwb : w2.heap.size ≤ wb.heap.size := bA.size
      clear bA c2 s0 s1 s2 s3 s4 s5 HL1 H2
      obtain ⟨R1, hR1⟩ : ∃ R1, lookR sp S L G Q = R1 := ⟨_, rfl⟩
      rw [hR1] at hk
      have HR1 := hideC hR1
      clear hR1
      cases R1 with
      | some p =>
        obtain ⟨i, k⟩ := p
        obtain ⟨⟨g, rfl, _, _⟩, _, _⟩ := hk
        clear bB
        go_wp2_with fail
        go_ret
        exact ⟨rfl, H3.out.below⟩
      | none =>
        obtain ⟨rfl, ho, _⟩ := hk
        have hoA := ho rfl
        have HA := hideC hoA
        clear ho hoA bB
        have ⟨s0, s1, s2, s3, s4, s5⟩ := H3.out.six.cells
        go_upto_region 9 with fail
        obtain ⟨V3, hV3⟩ : ∃ V3, w3.alloc (.cells #[.int .i64 S.N, .int .i64 S.D, .int .i64 L.N, .int .i64 L.D, .int .i64 G.N, .int .i64 G.D] 28) = V3 := ⟨_, rfl⟩
        have H4 : Hid (MoS w oa N cap S L G M K V3 ∧ SixC V3 w3.heap.size 28 S.N S.D L.N L.D G.N G.D ∧ Below w3.heap.size w3 V3 ∧ w.heap.size + 1 + 1 + 1 < w3.heap.size ∧ w3.heap.size < V3.heap.size) := hideC (by
          rw [← hV3]
          exact ⟨H3.out.keep (bel1 _ _), World.alloc_heap_new _ _, bel1 _ _, H3.out.room, by simp⟩)
        rw [hV3]
        clear hV3 s0 s1 s2 s3 s4 s5
        have HRi := hideC (fun W => rright_r M HI.out.2.2.1 W)
        have HCi := hideC (fun W => rcmp_any M S HI.out.2.2.1 HI.out.1 W)
        have HTi := hideC (fun W => rtime_any K HI.out.2.2.2 W)
        have HDi := hideC (fun W => rcmp_any K L HI.out.2.2.2 HI.out.2.1 W)
        unfold rtv at HRi HCi HTi HDi
        obtain ⟨B1, hB1⟩ : ∃ B1, (rightB M && decide (0 < cmpI M S)) = B1 := ⟨_, rfl⟩
        have HB1 := hideC hB1
        clear hB1
        go_cut [39] (fun tv wx => tv = .bool B1 ∧ Below V3.heap.size V3 wx)
        case first =>
          obtain ⟨_, m0, m1, _, _⟩ := H4.out.1.more
          go_wp2_with fail
          refine (HRi.out V3).mono ?_
          rintro e x1 ⟨rfl, b1⟩
          obtain ⟨rb, hrb⟩ : ∃ rb, rightB M = rb := ⟨_, rfl⟩
          rw [hrb]
          have h1 := HB1.out
          rw [hrb] at h1
          cases rb with
          | false =>
            have e1 : B1 = false := by rw [← h1]; rfl
            have HZ := hideC (And.intro e1 b1)
            clear h1 e1 b1 hrb m0 m1
            go_wp2_with fail
            go_meet
            case rel => exact ⟨by rw [HZ.out.1], HZ.out.2⟩
          | true =>
            have HX := hideC (H4.out.1.keep b1)
            obtain ⟨_, m2, m3, _, _⟩ := HX.out.more
            have ⟨q0, q1, _, _, _, _⟩ := HX.out.six.cells
            have HZ1 : Hid (0 < cmpI M S → B1 = true) := hideC (fun h => by rw [← h1]; simp [h])
            have HZ2 : Hid (¬ 0 < cmpI M S → B1 = false) := hideC (fun h => by rw [← h1]; simp [h])
            have HZ := hideC b1
            clear h1 b1 hrb m0 m1
            go_wp2_with fail
            refine (HCi.out x1).mono ?_
            rintro e x2 ⟨rfl, b2⟩
            clear q0 q1 m2 m3
            by_cases hcm : 0 < cmpI M S
            · have e1 := hideC (HZ1.out (by omega))
              go_wp2_with fail
              go_meet
              case rel => exact ⟨by rw [e1.out]; first | done | rfl | rw [decide_eq_false (by omega)] | rw [decide_eq_true (by omega)], bup HZ.out b2⟩
            · have e1 := hideC (HZ2.out (by omega))
              go_wp2_with fail
              go_meet
              case rel => exact ⟨by rw [e1.out]; first | done | rfl | rw [decide_eq_false (by omega)] | rw [decide_eq_true (by omega)], bup HZ.out b2⟩
        case rest =>
          obtain ⟨rfl, b4⟩ := hcut
          obtain ⟨w4, rfl⟩ : ∃ w4, w4 = wc := ⟨_, rfl⟩
          have H5 : Hid (MoS w oa N cap S L G M K w4 ∧ SixC w4 w3.heap.size 28 S.N S.D L.N L.D G.N G.D ∧ Below w3.heap.size w3 w4 ∧ w.heap.size + 1 + 1 + 1 < w3.heap.size ∧ w3.heap.size < w4.heap.size) := hideC ⟨H4.out.1.keep b4, H4.out.2.1.keep b4, bup H4.out.2.2.1 b4, H4.out.2.2.2.1, Nat.lt_of_lt_of_le H4.out.2.2.2.2 b4.size⟩
          clear b4 H4
          go_upto_if 39 with fail
          go_cut [] (fun wx => ∃ S2, MoS w oa N cap S L G M K wx ∧ SixC wx w3.heap.size 28 S2.N S2.D L.N L.D G.N G.D ∧ Below w3.heap.size w3 wx ∧ w3.heap.size < wx.heap.size ∧ ((S2 = S) ∨ (S2 = M ∧ rightB M = true ∧ 0 < cmpI M S)))
          case first =>
            cases B1 with
            | false =>
              go_wp2_with fail
              go_meet
              case rel => exact ⟨S, H5.out.1, H5.out.2.1, H5.out.2.2.1, H5.out.2.2.2.2, .inl rfl⟩
            | true =>
              have hBB := HB1.out
              simp only [Bool.and_eq_true, decide_eq_true_eq] at hBB
              have HBB := hideC hBB
              clear hBB
              obtain ⟨_, m0, m1, _, _⟩ := H5.out.1.more
              have ⟨q0, q1, _, _, _, _⟩ := H5.out.2.1.cells
              have f0 : w4.frozen? ⟨w3.heap.size, 0, none⟩ = false := by simp [World.frozen?, show w4.heap[w3.heap.size]? = _ from H5.out.2.1]
              have f1 : w4.frozen? ⟨w3.heap.size, 1, none⟩ = false := by simp [World.frozen?, show w4.heap[w3.heap.size]? = _ from H5.out.2.1]
              go_wp2_with fail
              go_meet
              case rel =>
                have hb : But (fun k => k = w3.heap.size) w4 ((w4.setCell ⟨w3.heap.size, 0, none⟩ (.int .i64 M.N)).setCell ⟨w3.heap.size, 1, none⟩ (.int .i64 M.D)) := ((But.refl (fun k => k = w3.heap.size) w4).setCell (p := ⟨w3.heap.size, 0, none⟩) rfl _).setCell (p := ⟨w3.heap.size, 1, none⟩) rfl _
                have hroom := H5.out.2.2.2.1
                refine ⟨M, ?_, ?_, H5.out.2.2.1.trans (hb.below (by have := H5.out.2.2.2.2; omega) (fun k hk => by omega)), Nat.lt_of_lt_of_le H5.out.2.2.2.2 hb.size, .inr ⟨rfl, HBB.out⟩⟩
                · have hsm := H5.out.1
                  exact hsm.but hb (fun k hk => by omega)
                · show ((w4.setCell ⟨w3.heap.size, 0, none⟩ (.int .i64 M.N)).setCell ⟨w3.heap.size, 1, none⟩ (.int .i64 M.D)).heap[w3.heap.size]? = _
                  simp [World.setCell, Array.getElem?_modify, show w4.heap[w3.heap.size]? = _ from H5.out.2.1]
          case rest =>
            obtain ⟨S2, h6⟩ := hcut
            obtain ⟨w5, rfl⟩ : ∃ w5, w5 = wc := ⟨_, rfl⟩
            have H6 := hideC h6
            clear h6 H5
            go_upto_region 11 with fail
            obtain ⟨B2, hB2⟩ : ∃ B2, (decide (timeA K = 0) && decide (cmpI K L < 0)) = B2 := ⟨_, rfl⟩
            have HB2 := hideC hB2
            clear hB2
            go_cut [51] (fun tv wx => tv = .bool B2 ∧ Below w5.heap.size w5 wx)
            case first =>
              obtain ⟨_, m0, m1, _, _⟩ := H6.out.1.less
              go_wp2_with fail
              refine (HTi.out w5).mono ?_
              rintro e x1 ⟨rfl, b1⟩
              by_cases htk : timeA K = 0
              · have HX := hideC (H6.out.1.keep b1)
                obtain ⟨_, m2, m3, _, _⟩ := HX.out.less
                have ⟨_, _, q2, q3, _, _⟩ := HX.out.six.cells
                have htb : (timeA K == 0) = true := by rw [htk]; rfl
                have HZ1 : Hid (cmpI K L < 0 → B2 = true) := hideC (fun h => by rw [← HB2.out]; simp [h, htk])
                have HZ2 : Hid (¬ cmpI K L < 0 → B2 = false) := hideC (fun h => by rw [← HB2.out]; simp [h])
                have HZ := hideC b1
                clear b1 m0 m1
                go_wp2_with fail
                refine (HDi.out x1).mono ?_
                rintro e x2 ⟨rfl, b2⟩
                clear q2 q3 m2 m3
                by_cases hcm : cmpI K L < 0
                · have e1 := hideC (HZ1.out (by omega))
                  go_wp2_with fail
                  go_meet
                  case rel => exact ⟨by rw [e1.out]; first | done | rfl | rw [decide_eq_true (by omega)], bup HZ.out b2⟩
                · have e1 := hideC (HZ2.out (by omega))
                  go_wp2_with fail
                  go_meet
                  case rel => exact ⟨by rw [e1.out]; first | done | rfl | rw [decide_eq_false (by omega)], bup HZ.out b2⟩
              · have htb : (timeA K == 0) = false := by simpa using htk
                have HZ2 : Hid (B2 = false) := hideC (by rw [← HB2.out]; simp [htk])
                have HZ := hideC b1
                clear b1 m0 m1
                go_wp2_with fail
                go_meet
                case rel => exact ⟨by rw [HZ2.out], HZ.out⟩
            case rest =>
              obtain ⟨rfl, b4⟩ := hcut
              obtain ⟨w6, rfl⟩ : ∃ w6, w6 = wc := ⟨_, rfl⟩
              have H7 : Hid (MoS w oa N cap S L G M K w6 ∧ SixC w6 w3.heap.size 28 S2.N S2.D L.N L.D G.N G.D ∧ Below w3.heap.size w3 w6 ∧ w3.heap.size < w6.heap.size) := hideC ⟨H6.out.1.keep b4, H6.out.2.1.keep b4, H6.out.2.2.1.trans (b4.mono (Nat.le_of_lt H6.out.2.2.2.1)), Nat.lt_of_lt_of_le H6.out.2.2.2.1 b4.size⟩
              have HS2 := hideC H6.out.2.2.2.2
              have hroom := H3.out.room
              clear b4 H6
              go_upto_if 51 with fail
              go_cut [] (fun wx => ∃ L2, MoS w oa N cap S L G M K wx ∧ SixC wx w3.heap.size 28 S2.N S2.D L2.N L2.D G.N G.D ∧ Below w3.heap.size w3 wx ∧ w3.heap.size < wx.heap.size ∧ ((L2 = L) ∨ (L2 = K ∧ timeA K = 0 ∧ cmpI K L < 0)))
              case first =>
                cases B2 with
                | false =>
                  go_wp2_with fail
                  go_meet
                  case rel => exact ⟨L, H7.out.1, H7.out.2.1, H7.out.2.2.1, H7.out.2.2.2, .inl rfl⟩
                | true =>
                  have hBB := HB2.out
                  simp only [Bool.and_eq_true, decide_eq_true_eq] at hBB
                  have HBB := hideC hBB
                  clear hBB
                  obtain ⟨_, m0, m1, _, _⟩ := H7.out.1.less
                  have ⟨_, _, q2, q3, _, _⟩ := H7.out.2.1.cells
                  have f0 : w6.frozen? ⟨w3.heap.size, 2, none⟩ = false := by simp [World.frozen?, show w6.heap[w3.heap.size]? = _ from H7.out.2.1]
                  have f1 : w6.frozen? ⟨w3.heap.size, 3, none⟩ = false := by simp [World.frozen?, show w6.heap[w3.heap.size]? = _ from H7.out.2.1]
                  go_wp2_with fail
                  go_meet
                  case rel =>
                    have hb : But (fun k => k = w3.heap.size) w6 ((w6.setCell ⟨w3.heap.size, 2, none⟩ (.int .i64 K.N)).setCell ⟨w3.heap.size, 3, none⟩ (.int .i64 K.D)) := ((But.refl (fun k => k = w3.heap.size) w6).setCell (p := ⟨w3.heap.size, 2, none⟩) rfl _).setCell (p := ⟨w3.heap.size, 3, none⟩) rfl _
                    refine ⟨K, H7.out.1.but hb (fun k hk => by omega), ?_, H7.out.2.2.1.trans (hb.below (by have := H7.out.2.2.2; omega) (fun k hk => by omega)), Nat.lt_of_lt_of_le H7.out.2.2.2 hb.size, .inr ⟨rfl, HBB.out⟩⟩
                    show ((w6.setCell ⟨w3.heap.size, 2, none⟩ (.int .i64 K.N)).setCell ⟨w3.heap.size, 3, none⟩ (.int .i64 K.D)).heap[w3.heap.size]? = _
                    simp [World.setCell, Array.getElem?_modify, show w6.heap[w3.heap.size]? = _ from H7.out.2.1]
              case rest =>
                obtain ⟨L2, h8⟩ := hcut
                obtain ⟨w7, rfl⟩ : ∃ w7, w7 = wc := ⟨_, rfl⟩
                have H8 := hideC h8
                clear h8 H7
                go_upto_region 13 with fail
                have c7 := H8.out.1.doc
                have ⟨s0, s1, s2, s3, s4, s5⟩ := H8.out.2.1.cells
                have hS2 : RtIn S2 := by rcases HS2.out with h | h; (rw [h]; exact HI.out.1); (rw [h.1]; exact HI.out.2.2.1)
                have hL2 : RtIn L2 := by rcases H8.out.2.2.2.2 with h | h; (rw [h]; exact HI.out.2.1); (rw [h.1]; exact HI.out.2.2.2)
                have HLb : Hid (∀ W, Calls Tryd.prog 7 #[.agg #[.int .i64 S2.N, .int .i64 S2.D, .int .i64 L2.N, .int .i64 L2.D, .int .i64 G.N, .int .i64 G.D]] W fun e w' => e = .returned (.agg #[.int .i64 S2.N, .int .i64 S2.D, .int .i64 L2.N, .int .i64 L2.D, .int .i64 G.N, .int .i64 G.D]) ∧ Below W.heap.size W w') := hideC (fun W => as11_any S2.N S2.D L2.N L2.D G.N G.D W)
                have HL1 := hideC (fun (W : World) (b : Below w7.heap.size w7 W) => HLk.out (by omega) S2 L2 hS2 hL2 W (bup H8.out.1.below b))
                clear hS2 hL2
                go_cut [12, 13] (fun v er wx => ∃ wb, LkV wb wx (lookR sp S2 L2 G Q) (fastG S2 L2 0 Q) v er ∧ Below w7.heap.size w7 wb ∧ Below wb.heap.size wb wx)
                case first =>
                  go_region_held3 (fun w' => w'.cell? ⟨w.heap.size, 0, none⟩ = some (.slice oa N cap) ∧ w'.cell? ⟨w3.heap.size, 0, none⟩ = some (.int .i64 S2.N) ∧ w'.cell? ⟨w3.heap.size, 1, none⟩ = some (.int .i64 S2.D) ∧ w'.cell? ⟨w3.heap.size, 2, none⟩ = some (.int .i64 L2.N) ∧ w'.cell? ⟨w3.heap.size, 3, none⟩ = some (.int .i64 L2.D) ∧ w'.cell? ⟨w3.heap.size, 4, none⟩ = some (.int .i64 G.N) ∧ w'.cell? ⟨w3.heap.size, 5, none⟩ = some (.int .i64 G.D)) (first | go_keep | assumption | exact k5 | exact k6) (first
                    | (go_at_call 7; (with_reducible refine (HLb.out _).mono ?_); rintro e w5 ⟨rfl, b5⟩; have b5 : Below w7.heap.size w7 w5 := (by first | exact ⟨b5.os, b5.tape, b5.output, b5.size, b5.block⟩ | exact b5); have k5 := And.intro (H8.out.1.keep b5).doc (H8.out.2.1.keep b5).cells; have HL2 := hideC (HL1.out w5 b5))
                    | (go_at_call 6; (with_reducible refine HL2.out.mono ?_); rintro e w6 ⟨v6, er6, rfl, hk6, b6⟩; have k6 := And.intro (H8.out.1.keep (bup b5 b6)).doc (H8.out.2.1.keep (bup b5 b6)).cells))
                  all_goals
                    go_wp2_with fail
                    go_meet
                    case rel => exact ⟨w5, hk6, b5, b6⟩
                case rest =>
                  obtain ⟨wb2, hk, bA, bB⟩ := hcut
                  obtain ⟨w8, rfl⟩ : ∃ w8, w8 = wc := ⟨_, rfl⟩
                  have H9 : Hid (Below w.heap.size w w8 ∧ Below w3.heap.size w3 w8) := hideC ⟨bup H8.out.1.below (bup bA bB), H8.out.2.2.1.trans ((bup bA bB).mono (Nat.le_of_lt H8.out.2.2.2.1))⟩
                  have HL2 := hideC H8.out.2.2.2.2
                  clear bA bB c7 s0 s1 s2 s3 s4 s5 HL1 HLb H8
                  obtain ⟨R2, hR2⟩ : ∃ R2, lookR sp S2 L2 G Q = R2 := ⟨_, rfl⟩
                  rw [hR2] at hk
                  have HR2 := hideC hR2
                  clear hR2
                  cases R2 with
                  | some p =>
                    obtain ⟨i, k⟩ := p
                    obtain ⟨⟨g, rfl, _, _⟩, _, _⟩ := hk
                    go_wp2_with fail
                    go_ret
                    exact ⟨rfl, H9.out.1⟩
                  | none =>
                    obtain ⟨rfl, ho, _⟩ := hk
                    obtain ⟨oB, cB, rfl, hcB, hfB⟩ := fao_own (ho rfl) rfl
                    obtain ⟨oA, cA, rfl, hcA, hfA⟩ := fao_own HA.out rfl
                    have hfA8 := hfA.keep H9.out.2
                    have hrA := fastG_rise S L Q 0
                    have hrB := fastG_rise S2 L2 Q 0
                    have hex := more_math HR1.out HR2.out HS2.out HL2.out (fun x hx => (HP.out x hx).2.2.1)
                    have hiA : ∀ p ∈ fastG S L 0 Q, RtIn p.2 := fast_in S L Q
                    have hiB : ∀ p ∈ fastG S2 L2 0 Q, RtIn p.2 := fast_in S2 L2 Q
                    have hlA := fastG_len S L Q 0
                    have hlB := fastG_len S2 L2 Q 0
                    rw [HN.out] at hlA hlB
                    generalize fastG S L 0 Q = A at *
                    generalize fastG S2 L2 0 Q = B at *
                    have HD := hideC (And.intro hfA8 (And.intro hfB (And.intro hrA (And.intro hrB (And.intro hex (And.intro hiA hiB))))))
                    clear ho hfA hfA8 hfB hrA hrB hex hiA hiB HA
                    obtain ⟨nA, hnA⟩ : ∃ nA, A.length = nA := ⟨_, rfl⟩
                    obtain ⟨nB, hnB⟩ : ∃ nB, B.length = nB := ⟨_, rfl⟩
                    rw [hnA] at hcA hlA
                    rw [hnB] at hcB hlB
                    rw [hnA, hnB]
                    have HNN := hideC (And.intro hnA hnB)
                    clear hnA hnB
                    have hA7 : cA ≤ 9223372036854775807 := hcA.2
                    have hB7 : cB ≤ 9223372036854775807 := hcB.2
                    go_wp2_with fail
                    go_loopw [14, 15] (fun kv iv wq => ∃ i k : Nat, iv = .int .i64 (i : Nat) ∧ kv = .int .i64 (k : Nat) ∧ i ≤ nB ∧ k ≤ nA ∧ (∀ (j : Nat) (p b : Nat × Rt), j < k → A[j]? = some p → B[i]? = some b → p.1 < b.1) ∧ Below w8.heap.size w8 wq) (fun _ iv _ => nB - (intOf iv).toNat)
                    case atStart => exact ⟨0, 0, rfl, rfl, Nat.zero_le _, Nat.zero_le _, fun j p b h => by omega, Below.refl _ _⟩
                    case round =>
                      obtain ⟨i, k, rfl, rfl, hi, hk, hlo, hb⟩ := hrel
                      obtain ⟨wq, rfl⟩ : ∃ wq, wq = wr := ⟨_, rfl⟩
                      by_cases hlt : i < nB
                      · obtain ⟨b, hbi⟩ : ∃ b, B[i]? = some b := ⟨_, List.getElem?_eq_getElem (by rw [HNN.out.2]; exact hlt)⟩
                        obtain ⟨ab, rfl, habb, e0, e1, e2⟩ := HD.out.2.1.keep hb i b hbi
                        have d2 : (i : Int) < (nB : Int) := by omega
                        have wi : IntKind.i64.wrap ((i : Int) + 1) = ((i + 1 : Nat) : Int) := by rw [show ((i + 1 : Nat) : Int) = (i : Int) + 1 by omega]; exact IntWalk.i64_in _ ⟨by omega, by omega⟩
                        have HB0 := hideC (And.intro hb (And.intro hbi (And.intro hlo (And.intro e1 e2))))
                        clear hb hbi hlo e1 e2
                        go_upto_block 2 with fail
                        go_cut [14] (fun kv wx => ∃ k2 : Nat, kv = .int .i64 (k2 : Nat) ∧ k2 ≤ nA ∧ (∀ (j : Nat) (p : Nat × Rt), j < k2 → A[j]? = some p → p.1 < b.1) ∧ (∀ p, A[k2]? = some p → ¬ p.1 < b.1) ∧ Below wq.heap.size wq wx)
                        case first =>
                          go_wp2_with fail
                          go_loopw [14] (fun kv wz => ∃ k3 : Nat, kv = .int .i64 (k3 : Nat) ∧ k3 ≤ nA ∧ (∀ (j : Nat) (p : Nat × Rt), j < k3 → A[j]? = some p → p.1 < b.1) ∧ Below wq.heap.size wq wz) (fun kv _ => nA - (intOf kv).toNat)
                          case atStart => exact ⟨k, rfl, hk, fun j p h hp => HB0.out.2.2.1 j p b h hp HB0.out.2.1, Below.refl _ _⟩
                          case round =>
                            obtain ⟨k3, rfl, hk3, hlo3, hb3⟩ := hrel
                            obtain ⟨wz, rfl⟩ : ∃ wz, wz = wr := ⟨_, rfl⟩
                            have e0z : wz.cell? (ab.add (i * 3)) = some (.int .i64 (b.1 : Int)) := (hb3.cell (by rw [addrK_block]; exact habb)).trans e0
                            by_cases hkl : k3 < nA
                            · obtain ⟨p, hpa⟩ : ∃ p, A[k3]? = some p := ⟨_, List.getElem?_eq_getElem (by rw [HNN.out.1]; exact hkl)⟩
                              obtain ⟨aa, rfl, haab, f0, _, _⟩ := HD.out.1.keep (bup HB0.out.1 hb3) k3 p hpa
                              have d3 : (k3 : Int) < (nA : Int) := by omega
                              have wk : IntKind.i64.wrap ((k3 : Int) + 1) = ((k3 + 1 : Nat) : Int) := by rw [show ((k3 + 1 : Nat) : Int) = (k3 : Int) + 1 by omega]; exact IntWalk.i64_in _ ⟨by omega, by omega⟩
                              have HC3 := hideC (And.intro hb3 (And.intro hpa hlo3))
                              clear hb3 hpa hlo3
                              obtain ⟨p1, p2⟩ := p
                              obtain ⟨b1, b2⟩ := b
                              simp only at f0 e0z
                              by_cases hpb : p1 < b1
                              · have d4 : (p1 : Int) < (b1 : Int) := by omega
                                go_upto_region 20 with fail
                                go_quiet (fail)
                                go_wp2_with fail
                                go_roundw
                                case rel =>
                                  refine ⟨k3 + 1, by first | rfl | simp, by omega, fun j q hj hq => ?_, below_dnF HC3.out.1 nq⟩
                                  by_cases hjk : j < k3
                                  · exact HC3.out.2.2 j q hjk hq
                                  · obtain rfl : j = k3 := by omega
                                    rw [HC3.out.2.1] at hq
                                    cases hq
                                    exact hpb
                                case measure => simp [intOf]; omega
                              · have d4 : ¬ (p1 : Int) < (b1 : Int) := by omega
                                go_upto_region 20 with fail
                                go_quiet (fail)
                                go_wp2_with fail
                                go_meet
                                case rel =>
                                  refine ⟨k3, rfl, hk3, HC3.out.2.2, fun q hq => ?_, below_dnF HC3.out.1 nq⟩
                                  rw [HC3.out.2.1] at hq
                                  cases hq
                                  exact hpb
                            · obtain rfl : k3 = nA := by omega
                              have d3 : ¬ (k3 : Int) < (k3 : Int) := by omega
                              have HC3 := hideC (And.intro hb3 hlo3)
                              clear hb3 hlo3
                              go_upto_region 20 with fail
                              go_quiet (fail)
                              go_wp2_with fail
                              go_meet
                              case rel =>
                                refine ⟨k3, rfl, Nat.le_refl _, HC3.out.2, fun q hq => ?_, below_dnF HC3.out.1 nq⟩
                                have := (List.getElem?_eq_some_iff.1 hq).1
                                rw [HNN.out.1] at this
                                omega
                        case rest =>
                          obtain ⟨k2, rfl, hk2, hlo2, hend, hb2⟩ := hcut
                          obtain ⟨wy, rfl⟩ : ∃ wy, wy = wc := ⟨_, rfl⟩
                          obtain ⟨p, hpa, hp1, hp2⟩ := found_at HD.out.2.2.1 (b := b) (by rw [HNN.out.1]; exact hk2) hlo2 (by obtain ⟨z, z1, z2, z3⟩ := HD.out.2.2.2.2.1 b (List.mem_of_getElem? HB0.out.2.1); exact ⟨z, z1, z2, by omega⟩) hend
                          have hkl : k2 < nA := by rw [← HNN.out.1]; exact (List.getElem?_eq_some_iff.1 hpa).1
                          have HCm := hideC (fun W => rcmp_any p.2 b.2 (HD.out.2.2.2.2.2.1 p (List.mem_of_getElem? hpa)) (HD.out.2.2.2.2.2.2 b (List.mem_of_getElem? HB0.out.2.1)) W)
                          unfold rtv at HCm
                          have hbq := bup HB0.out.1 hb2
                          obtain ⟨aa, rfl, haab, f0, f1, f2⟩ := HD.out.1.keep hbq k2 p hpa
                          obtain ⟨ab', hab', -, e0', e1', e2'⟩ := HD.out.2.1.keep hbq i b HB0.out.2.1
                          obtain rfl : ab = ab' := by cases hab'; rfl
                          have d3 : (k2 : Int) < (nA : Int) := by omega
                          have hlo5 := HB0.out.2.2.1
                          have HC5 := hideC (And.intro hbq (And.intro hlo2 HB0.out.2.1))
                          have hzz : (aa.add (k2 * 3)).block < wy.heap.size ∧ (ab.add (i * 3)).block < wy.heap.size := ⟨by rw [addrK_block]; exact haab, by rw [addrK_block]; exact Nat.lt_of_lt_of_le habb hb2.size⟩
                          rw [hp1] at f0
                          obtain ⟨p1, p2⟩ := p
                          obtain ⟨b1, b2⟩ := b
                          simp only at f0 f1 f2 e0' e1' e2' hp2 HCm
                          have g0 : ∀ q : GrownQ wy, q.V.cell? (aa.add (k2 * 3)) = some (.int .i64 (b1 : Int)) := fun q => (q.h.cell hzz.1).trans f0
                          have g1 : ∀ q : GrownQ wy, q.V.cell? ⟨(aa.add (k2 * 3)).block, (aa.add (k2 * 3)).off + 1, none⟩ = some (.int .i64 p2.N) := fun q => (q.h.cell (p := ⟨(aa.add (k2 * 3)).block, (aa.add (k2 * 3)).off + 1, none⟩) hzz.1).trans f1
                          have g2 : ∀ q : GrownQ wy, q.V.cell? ⟨(aa.add (k2 * 3)).block, (aa.add (k2 * 3)).off + 2, none⟩ = some (.int .i64 p2.D) := fun q => (q.h.cell (p := ⟨(aa.add (k2 * 3)).block, (aa.add (k2 * 3)).off + 2, none⟩) hzz.1).trans f2
                          have g3 : ∀ q : GrownQ wy, q.V.cell? (ab.add (i * 3)) = some (.int .i64 (b1 : Int)) := fun q => (q.h.cell hzz.2).trans e0'
                          have g4 : ∀ q : GrownQ wy, q.V.cell? ⟨(ab.add (i * 3)).block, (ab.add (i * 3)).off + 1, none⟩ = some (.int .i64 b2.N) := fun q => (q.h.cell (p := ⟨(ab.add (i * 3)).block, (ab.add (i * 3)).off + 1, none⟩) hzz.2).trans e1'
                          have g5 : ∀ q : GrownQ wy, q.V.cell? ⟨(ab.add (i * 3)).block, (ab.add (i * 3)).off + 2, none⟩ = some (.int .i64 b2.D) := fun q => (q.h.cell (p := ⟨(ab.add (i * 3)).block, (ab.add (i * 3)).off + 2, none⟩) hzz.2).trans e2'
                          generalize cmpI p2 b2 = cc at *
                          clear f0 f1 f2 e0' e1' e2' hpa hp1 hlo2 hend hb2 hbq hab' e0 hlo5
                          have z1 : ¬ (nA : Int) ≤ (k2 : Int) := by omega
                          have z2 : decide ((nA : Int) ≤ (k2 : Int)) = false := decide_eq_false z1
                          have z3 : decide (nA ≤ k2) = false := decide_eq_false (by omega)
                          have z4 : ((b1 : Int) != (b1 : Int)) = false := by simp
                          have z5 : decide (cc < 0) = false := decide_eq_false hp2
                          go_upto_region 22 with fail
                          refine region_grown wy wy (by kernel_rfl) (by kernel_rfl) (Below.refl _ _) ?_
                          repeat (go_big_quiet_step (first
                            | (go_at_call 9; rename_i q; (with_reducible refine (HCm.out _).mono ?_); rintro e V1 ⟨rfl, h1⟩; exact ⟨rfl, ⟨V1, q.h.trans (h1.mono q.h.size)⟩, rfl⟩)))
                          refine wpQuiet_nil ?_
                          rintro W9 ⟨⟨V9, hb9⟩, hv9⟩
                          have hv9 : W9 = V9 := hv9
                          subst hv9
                          have HB9 := hideC (bup HC5.out.1 hb9)
                          clear hv9 hb9 g0 g1 g2 g3 g4 g5
                          go_wp2_with fail
                          go_roundw
                          case rel =>
                            refine ⟨i + 1, k2, by first | rfl | simp, rfl, by omega, hk2, fun j q c hj hq hc => ?_, HB9.out⟩
                            have h1 := HC5.out.2.1 j q hj hq
                            have h2 := pw_at HD.out.2.2.2.1 (Nat.lt_succ_self i) HC5.out.2.2 hc
                            simp only at h1 h2
                            omega
                          case measure => simp [intOf]; omega
                      · obtain rfl : i = nB := by omega
                        have d2 : ¬ (i : Int) < (i : Int) := by omega
                        have HB9 := hideC (bup H9.out.1 hb)
                        clear hb hlo
                        go_wp2_with fail
                        go_ret
                        exact ⟨rfl, HB9.out⟩
end Go.Proofs.YthhhglfcacoejabDoor
