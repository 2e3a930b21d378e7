/- bidi: layLevels at every paragraph (chapter 4). -/
import Derived.Test.YtbehlaclffjkbaaDoorBeB
namespace Go.Proofs.YtbehlaclffjkbaaDoor
open Go.RowKit Go.Shelf

theorem map_at {RL : List (Value × RwM)} {R : List RwM} (h : RL.map Prod.snd = R) {i : Nat} {p : Value} {r : RwM} (hr : RL[i]? = some (p, r)) : R[i]? = some r := by rw [← h, List.getElem?_map, hr]; rfl
set_option maxRecDepth 100000 in
set_option maxHeartbeats 4000000 in
theorem laylev_any (C A L : List Int) (hC : ClsB C) (hl : L.length = C.length) (off : Nat) (hA : off + C.length ≤ A.length) (hn : A.length ≤ 1000000000000) (base : Int) (hb : base = 0 ∨ base = 1)
    (b1 ga capA cap capb : Nat) (ob : Option Addr) (w : World) (h1 : w.ownsRow b1 3 1 (.slice (some ⟨ga, 0, none⟩) A.length capA) A.length (flatJ (putJ A off L))) (h2 : RdA w ob C) (hd : ∀ a, ob = some a → a.block ≠ ga) :
    Calls Tryd.prog 11 #[.slice (some ⟨ga, off, none⟩) C.length cap, .slice ob C.length capb, .int .i64 base] w fun r w' => (∃ u, r = .returned u) ∧ w'.ownsRow b1 3 1 (.slice (some ⟨ga, 0, none⟩) A.length capA) A.length (flatJ (putJ A off (parN base C L))) ∧ But (fun k => k = ga) w w' := by
  obtain ⟨n, hn'⟩ : ∃ n, C.length = n := ⟨_, rfl⟩
  obtain ⟨M, hM'⟩ : ∃ M, A.length = M := ⟨_, rfl⟩
  have hgaw := (h1.lt ga (by simp [Value.ownBlock])).2
  have HRows := hideB (rows_any C hC (by omega) ob capb w h2)
  have HLay := hideB (fun (P L' : List Int) (hP : ∀ x ∈ P, 0 ≤ x ∧ x < (C.length : Int)) (hm : P.length ≤ 1000000000000) (hl' : L'.length = C.length) (outer opener e : Int) (he : 0 ≤ e ∧ e ≤ 100000000000000) (b0 : Nat) (pv : Value) (W : World) (h0 : W.ownsRow b0 3 1 pv P.length (flatJ P)) (h1 : W.ownsRow b1 3 1 (.slice (some ⟨ga, 0, none⟩) A.length capA) A.length (flatJ (putJ A off L'))) (h2 : RdA W ob C) (hd2 : pv.ownBlock ≠ some ga) =>
    rowlay_any C P A L' hC hP hm hl' off hA outer opener e he b0 b1 ga capA cap capb pv ob W h0 h1 h2 hd hd2)
  have HEnds := hideB (fun (L' : List Int) (hl' : L'.length = C.length) (W : World) (h1 : W.ownsRow b1 3 1 (.slice (some ⟨ga, 0, none⟩) A.length capA) A.length (flatJ (putJ A off L'))) (h2 : RdA W ob C) =>
    ends_any C L' A hC hl' off hA hn base b1 ga capA cap capb ob W h1 h2 hd)
  have HGoes := hideB (fun (P : List Int) (hm : P.length ≤ 1000000000000) (hP : ∀ x ∈ P, 0 ≤ x ∧ x < (C.length : Int)) (outer opener level : Int) (b0 : Nat) (pv : Value) (W : World) (h1 : W.ownsRow b0 3 1 pv P.length (flatJ P)) (h2 : RdA W ob C) =>
    goes_any C P hC hm hP outer opener level b0 pv ob capb W h1 h2)
  rw [hn', hM'] at HLay HEnds
  rw [hn'] at HRows HGoes
  rw [hn', hM'] at hA
  rw [hM'] at hn h1
  rw [hn'] at hl
  rw [hn', hM']
  have HN := hideB hn'
  have HLl := hideB hl
  obtain ⟨PO, hPO⟩ : ∃ PO : Ending → World → Prop, (fun r w' => (∃ u, r = .returned u) ∧ w'.ownsRow b1 3 1 (.slice (some ⟨ga, 0, none⟩) M capA) M (flatJ (putJ A off (parN base C L))) ∧ But (fun k => k = ga) w w') = PO := ⟨_, rfl⟩
  have HPO := hideB hPO
  rw [hPO]
  have H1 := hideB h1
  have H2 := hideB h2
  have HD := hideB hd
  clear hPO hn' hM' hl hC h1 h2 hd
  go_enter Tryd.func11, Tryd.ntmps11
  go_wp2_with fail
  refine HRows.out.mono ?_
  rintro r w1 ⟨v3, RL0, rfl, hm1, hs1, hb1⟩
  clear HRows
  have hne := rowsN_ne C
  have hrn : (rowsN C).length ≤ n + 1 := by have := (rowsT_wf C C.length).rl; rw [HN.out] at this; unfold rowsN; rw [HN.out]; exact this
  have hRl : RL0.length = (rowsN C).length := by rw [← hs1, List.length_map]
  obtain ⟨m, hm'⟩ : ∃ m, RL0.length = m := ⟨_, rfl⟩
  obtain ⟨gr, cr, rfl⟩ : ∃ g cap, v3 = .slice (some ⟨g, 0, none⟩) RL0.length cap := by
    rcases own_formB hm1.own with ⟨e, _⟩ | ⟨g, cap, e⟩
    · omega
    · exact ⟨g, cap, e⟩
  have hgr := (hm1.own.lt gr (by simp [Value.ownBlock]))
  obtain ⟨⟨p0, r0⟩, hpr0⟩ : ∃ x, RL0[0]? = some x := ⟨_, List.getElem?_eq_getElem (by omega)⟩
  have k3 := hm1.own.cellAt 3 (by omega)
  have hg0 := (flatRw_get RL0 0 (p0, r0) hpr0).2.2.2
  rw [show 0 * 4 + 3 = 3 by omega] at hg0
  rw [hg0] at k3
  have f3 := hm1.own.frozenAt 3
  have HM1 := hideB (hm1.level hpr0 base)
  have HR0 : Hid ((RL0.set 0 (p0, { r0 with e := base })).map Prod.snd = rowsE C base 0) := hideB (by
    rw [List.map_set, hs1, rowsE, map_at hs1 hpr0]
    rfl)
  have HB1 := hideB hb1
  have HRl := hideB hRl
  rw [hm', show 0 * 4 + 3 = 3 by omega] at HM1
  rw [hm'] at HRl ⊢
  have dm : (0 : Int) < (m : Int) := by omega
  have HMm := hideB hm'
  have hmn : m ≤ n + 1 := by have := HRl.out; omega
  clear hm1 hs1 hb1 hpr0 hg0 hRl hm'
  go_wp2_with fail
  have HStart : Hid (RowsM w.heap.size (.slice (some ⟨gr, 0, none⟩) m cr) (RL0.set 0 (p0, { r0 with e := base })) (w1.setCell ⟨gr, 3, none⟩ (.int .i64 base)) ∧ (w1.setCell ⟨gr, 3, none⟩ (.int .i64 base)).ownsRow b1 3 1 (.slice (some ⟨ga, 0, none⟩) M capA) M (flatJ (putJ A off (levT C base L 0))) ∧ But (fun k => k = ga) w (w1.setCell ⟨gr, 3, none⟩ (.int .i64 base))) := hideB (by
    have hbs : But (fun k => k = gr) w1 (w1.setCell ⟨gr, 3, none⟩ (.int .i64 base)) := But.set w1 _ _ rfl
    exact ⟨HM1.out, own_butB (own_keepB H1.out HB1.out) hbs (fun k hk e => by have h9 : ga = k := (by simpa [Value.ownBlock] using hk); have h8 : k = gr := e; omega), (But.grown HB1.out).newer hbs (fun j e => by have h8 : j = gr := e; omega)⟩)
  generalize w1.setCell ⟨gr, 3, none⟩ (.int .i64 base) = w2 at *
  go_loopw [17] (fun iv wr => ∃ (i : Nat) (RL : List (Value × RwM)), iv = .int .i64 (i : Nat) ∧ i ≤ m ∧ RowsM w.heap.size (.slice (some ⟨gr, 0, none⟩) m cr) RL wr ∧ RL.map Prod.snd = rowsE C base i ∧ wr.ownsRow b1 3 1 (.slice (some ⟨ga, 0, none⟩) M capA) M (flatJ (putJ A off (levT C base L i))) ∧ But (fun k => k = ga) w wr) (fun iv _ => m - (intOf iv).toNat)
  case atStart => exact ⟨0, _, rfl, Nat.zero_le _, HStart.out.1, HR0.out, HStart.out.2⟩
  case round =>
    obtain ⟨i, RL, rfl, him, hrm, hrs, hown, hbt⟩ := hrel
    obtain ⟨wq, rfl⟩ : ∃ wq, wq = wr := ⟨_, rfl⟩
    by_cases hlt : i < m
    · have hlen : RL.length = m := by
        have := congrArg List.length hrs
        rw [List.length_map, rowsE_len, ← HRl.out] at this
        exact this
      obtain ⟨⟨p, r⟩, hpr⟩ : ∃ x, RL[i]? = some x := ⟨_, List.getElem?_eq_getElem (by omega)⟩
      have hri := map_at hrs hpr
      have hwf := rowsE_wf C base hb i (by have := HRl.out; omega)
      have hps := hwf.ps r (List.mem_of_getElem? hri)
      rw [HN.out] at hps
      have hro := hrm.own
      rw [hlen] at hro
      obtain ⟨g0, g1, g2, g3⟩ := flatRw_get RL i (p, r) hpr
      have l0 := hro.cellAt (i * 4) (by omega)
      have l1 := hro.cellAt (i * 4 + 1) (by omega)
      have l2 := hro.cellAt (i * 4 + 2) (by omega)
      have l3 := hro.cellAt (i * 4 + 3) (by omega)
      rw [g0] at l0
      rw [g1] at l1
      rw [g2] at l2
      rw [g3] at l3
      have hgz := hbt.size
      have hsub := hrm.sub i p r hpr
      have hpo : ∃ oq cq, p = .slice oq r.ps.length cq := by
        rcases own_formB hsub with ⟨e, e2⟩ | ⟨g, cap, e⟩
        · exact ⟨none, 0, by rw [e, e2]⟩
        · exact ⟨_, cap, e⟩
      obtain ⟨oq, cq, rfl⟩ := hpo
      obtain ⟨X, hX⟩ : ∃ X, wq.alloc (.cells #[.slice oq r.ps.length cq, .int .i64 (r.o : Int), .int .i64 r.k, .int .i64 r.e] 51) = X := ⟨_, rfl⟩
      have bX : Below wq.heap.size wq X := by rw [← hX]; exact bel1B _ _
      have zX : X.heap.size = wq.heap.size + 1 := by rw [← hX, World.size_alloc]
      have xX : X.heap[wq.heap.size]? = some (.cells #[.slice oq r.ps.length cq, .int .i64 (r.o : Int), .int .i64 r.k, .int .i64 r.e] 51) := by rw [← hX]; exact World.alloc_heap_new _ _
      have HX := hideB (And.intro bX (And.intro zX xX))
      have HXe := hideB hX
      have di : (i : Int) < (m : Int) := by omega
      have wk : IntKind.i64.wrap ((i : Int) + 1) = ((i + 1 : Nat) : Int) := by rw [show ((i + 1 : Nat) : Int) = (i : Int) + 1 by omega]; exact IntWalk.i64_in _ ⟨by omega, by omega⟩
      have HW := hideB (And.intro hrm (And.intro hrs (And.intro hown (And.intro hbt (And.intro hpr (And.intro hri (And.intro hwf (And.intro hps (And.intro hsub hlen)))))))))
      clear hX bX zX xX hrm hrs hown hbt hpr hri hwf hps hsub hlen hro g0 g1 g2 g3
      go_upto_region 5 with fail
      rw [HXe.out]
      rename_i K2 hK2 K hK
      have HT : Hid (∀ (v22 v23 v24 v25 v26 v27 v28 v29 v30 v31 v32 v33 v34 v35 v36 v37 v38 v39 v40 : Value) (e' : Int) (X7 : World) (RL' : List (Value × RwM)), X7.heap[wq.heap.size]? = some (.cells #[.slice oq r.ps.length cq, .int .i64 (r.o : Int), .int .i64 r.k, .int .i64 e'] 51) → RowsM w.heap.size (.slice (some ⟨gr, 0, none⟩) m cr) RL' X7 → RL'.map Prod.snd = rowsE C base (i + 1) → RL'[i]? = some (.slice oq r.ps.length cq, { r with e := e' }) →
          X7.ownsRow b1 3 1 (.slice (some ⟨ga, 0, none⟩) M capA) M (flatJ (putJ A off (levT C base L i))) → But (fun k => k = ga) w X7 → 0 ≤ e' ∧ e' ≤ 100000000000000 → K2 ⟨#[.slice (some ⟨ga, off, none⟩) n cap, .slice ob n capb, .int .i64 base, undef, undef, undef, .slice (some ⟨gr, 0, none⟩) m cr, .int .i64 (i : Nat), .pointer (some ⟨wq.heap.size, 0, none⟩), .slice ob n capb, .slice (some ⟨gr, 0, none⟩) m cr, .slice (some ⟨gr, 0, none⟩) m cr, .int .i64 base, .pointer (some ⟨gr, 0, none⟩), .pointer (some ⟨gr, 3, none⟩), .slice (some ⟨gr, 0, none⟩) m cr, .int .i64 (m : Nat), .int .i64 (i : Nat), .bool true, .int .i64 (i : Nat), .pointer (some ⟨gr, i * 4, none⟩), .agg #[.slice oq r.ps.length cq, .int .i64 (r.o : Int), .int .i64 r.k, .int .i64 r.e], v22, v23, v24, v25, v26, v27, v28, v29, v30, v31, v32, v33, v34, v35, v36, v37, v38, v39, v40, u41, u42, u43, u44, u45, undef, undef, undef, undef], []⟩ X7) := hideB (by
        intro v22 v23 v24 v25 v26 v27 v28 v29 v30 v31 v32 v33 v34 v35 v36 v37 v38 v39 v40 e' X7 RL' hbx hm7 hs7 hr7 ho7 hb7 he'
        obtain ⟨y1, y2, y3, y4, y5, y6, y7, y8, y9, y10⟩ := HW.out
        have hrow := map_at hs7 hr7
        have hlv : levT C base L (i + 1) = layR e' C r.ps (levT C base L i) := by rw [levT, hrow]; rfl
        have hpg : ∀ (j : Nat) (p' : Value) (r' : RwM), RL'[j]? = some (p', r') → ∀ k, p'.ownBlock = some k → ¬ k = ga := fun j p' r' hj k hk e => by have := ((hm7.sub j p' r' hj).lt k hk).1; omega
        have HC := hideB (HLay.out r.ps (levT C base L i) y8.2 (by have := y8.1; omega) (by rw [levT_len, HLl.out]) (r.o : Int) r.k e' he' w.heap.size (.slice oq r.ps.length cq) X7 (hm7.sub i (.slice oq r.ps.length cq) { r with e := e' } hr7) ho7 (H2.out.butL hb7 (fun a ha _ e => HD.out a ha e)) (fun e => hpg i _ _ hr7 ga e rfl))
        have k0 : X7.cell? ⟨wq.heap.size, 0, none⟩ = some (.slice oq r.ps.length cq) := by simp [World.cell?, hbx]
        have k1 : X7.cell? ⟨wq.heap.size, 1, none⟩ = some (.int .i64 (r.o : Int)) := by simp [World.cell?, hbx]
        have k2 : X7.cell? ⟨wq.heap.size, 2, none⟩ = some (.int .i64 r.k) := by simp [World.cell?, hbx]
        have k3 : X7.cell? ⟨wq.heap.size, 3, none⟩ = some (.int .i64 e') := by simp [World.cell?, hbx]
        have HF := hideB (And.intro hm7 (And.intro hs7 (And.intro hlv (And.intro hb7 hpg))))
        clear hbx hm7 hs7 hr7 ho7 hb7 y1 y2 y3 y4 y5 y6 y7 y8 y9 y10 hrow hlv hpg l0 l1 l2 l3
        refine hK2 _ _ ?_
        go_wp2_with fail
        refine HC.out.mono ?_
        rintro r8 w8 ⟨⟨u, rfl⟩, ho8, hb8⟩
        have HG := hideB (And.intro ho8 hb8)
        clear ho8 hb8 HC k0 k1 k2 k3
        go_wp2_with fail
        go_roundw
        case rel => exact ⟨i + 1, RL', by first | rfl | simp, by omega, HF.out.1.but HG.out.2 (fun k hk e => by have h9 : gr = k := (by simpa [Value.ownBlock] using hk); have h8 : k = ga := e; omega) HF.out.2.2.2.2, HF.out.2.1, by rw [HF.out.2.2.1]; exact HG.out.1, HF.out.2.2.2.1.trans HG.out.2⟩
        case measure => (simp [intOf] <;> omega))
      clear hK2
      by_cases h0 : i = 0
      · subst h0
        obtain ⟨y1, y2, y3, y4, y5, y6, y7, y8, y9, y10⟩ := HW.out
        have he := y7.le 0 r y6 (.inr rfl)
        have HQ := hideB (fun v22 v23 v24 v25 v26 v27 v28 v29 v30 v31 v32 v33 v34 v35 v36 v37 v38 v39 v40 => HT.out v22 v23 v24 v25 v26 v27 v28 v29 v30 v31 v32 v33 v34 v35 v36 v37 v38 v39 v40 r.e X RL HX.out.2.2 (y1.keep HX.out.1) (y2.trans (show rowsE C base 0 = rowsE C base (0 + 1) from (if_pos rfl).symm)) y5 (own_keepB y3 HX.out.1) (y4.trans (But.grown HX.out.1)) (by omega))
        clear y1 y2 y3 y4 y5 y6 y7 y8 y9 y10 he l0 l1 l2 l3
        go_wp2_with fail
        exact HQ.out _ _ _ _ _ _ _ _ _ _ _ _ _ _ _ _ _ _ _
      · obtain ⟨y1, y2, y3, y4, y5, y6, y7, y8, y9, y10⟩ := HW.out
        have h0' : 0 < i := by omega
        have ho := y7.ou i r y6 h0'
        obtain ⟨⟨p2, q⟩, hpq⟩ : ∃ x, RL[r.o]? = some x := ⟨_, List.getElem?_eq_getElem (by omega)⟩
        have hqr := map_at y2 hpq
        have he := y7.le r.o q hqr (.inl ho)
        obtain ⟨e2, he2⟩ : ∃ e, insI q.e (goesS C r.ps r.k) = e := ⟨_, rfl⟩
        have heb := ins_le (l := goesS C r.ps r.k) he.1
        rw [he2] at heb
        have hrx := (y1.keep HX.out.1).own
        rw [y10] at hrx
        have hbox := HX.out.2.2
        have HK : Hid (∀ W, Below X.heap.size X W → W.cell? ⟨wq.heap.size, 1, none⟩ = some (.int .i64 (r.o : Int)) ∧ W.cell? ⟨gr, r.o * 4 + 3, none⟩ = some (.int .i64 q.e) ∧ W.cell? ⟨wq.heap.size, 3, none⟩ = some (.int .i64 r.e) ∧ W.frozen? ⟨wq.heap.size, 3, none⟩ = false ∧ W.cell? ⟨wq.heap.size, 0, none⟩ = some (.slice oq r.ps.length cq) ∧ W.cell? ⟨wq.heap.size, 2, none⟩ = some (.int .i64 r.k)) := hideB (fun W hW => by
          have hb := (hW.block wq.heap.size (Array.getElem?_eq_some_iff.1 hbox).1).trans hbox
          have k := (own_keepB hrx hW).cellAt (r.o * 4 + 3) (by omega)
          rw [(flatRw_get RL r.o (p2, q) hpq).2.2.2] at k
          exact ⟨by simp [World.cell?, hb], k, by simp [World.cell?, hb], by simp [World.frozen?, hb], by simp [World.cell?, hb], by simp [World.cell?, hb]⟩)
        have HGo : Hid (∀ W, Below X.heap.size X W → Calls Tryd.prog 21 #[.agg #[.slice oq r.ps.length cq, .int .i64 (r.o : Int), .int .i64 r.k, .int .i64 r.e], .slice ob n capb] W fun e w' => e = .returned (.bool (goesS C r.ps r.k)) ∧ Below W.heap.size W w') := hideB (fun W hW =>
          HGoes.out r.ps (by have := y8.1; omega) y8.2 (r.o : Int) r.k r.e w.heap.size (.slice oq r.ps.length cq) W (own_keepB (own_keepB y9 HX.out.1) hW) (((H2.out.butL y4 (fun a ha _ e => HD.out a ha e)).keep HX.out.1).keep hW))
        have HIn := hideB (fun W => ins_any q.e (goesS C r.ps r.k) (by omega) W)
        rw [he2] at HIn
        have HE := hideB (And.intro he2 (And.intro hpq (And.intro hqr (And.intro heb ho))))
        obtain ⟨left, hleft⟩ : ∃ left, goesS C r.ps r.k = left := ⟨_, rfl⟩
        have HLf := hideB hleft
        rw [hleft] at HGo HIn
        clear hleft
        obtain ⟨k1, k2, k3, f3, k4, k5⟩ := HK.out _ (Below.refl X.heap.size X)
        have do1 : ((r.o : Nat) : Int) < (m : Int) := by omega
        have di0 : (0 : Int) < (i : Int) := by omega
        clear y1 y2 y3 y4 y5 y6 y7 y8 y9 y10 ho hpq hqr he heb hrx hbox he2 l0 l1 l2 l3
        go_wp2_with fail
        go_region_with (first
          | (go_at_call 21; refine (HGo.out _ (Below.refl X.heap.size X).drew).mono ?_; rintro r7 v7 ⟨rfl, hb7⟩; have hb8 : Below X.heap.size X v7 := (Below.refl X.heap.size X).drew.trans hb7; obtain ⟨j1, j2, j3, j4, j5, j6⟩ := HK.out v7 hb8)
          | (go_at_call 20; refine (HIn.out _).mono ?_; rintro r9 v9 ⟨rfl, rfl⟩))
        all_goals
          have hB9 : Below wq.heap.size wq v9 := HX.out.1.trans (hb8.mono HX.out.1.size)
          obtain ⟨y1, y2, y3, y4, y5, y6, y7, y8, y9, y10⟩ := HW.out
          obtain ⟨e1, e2', e3, e4, e5⟩ := HE.out
          have hbs : But (fun k => k = wq.heap.size) v9 (v9.setCell ⟨wq.heap.size, 3, none⟩ (.int .i64 e2)) := But.set v9 _ _ rfl
          have hBY : But (fun k => k = ga) w (v9.setCell ⟨wq.heap.size, 3, none⟩ (.int .i64 e2)) := (y4.trans (But.grown hB9)).newer hbs (fun j e => by have h9 : j = wq.heap.size := e; have := y4.size; omega)
          have hYb : (v9.setCell ⟨wq.heap.size, 3, none⟩ (.int .i64 e2)).heap[wq.heap.size]? = some (.cells #[.slice oq r.ps.length cq, .int .i64 (r.o : Int), .int .i64 r.k, .int .i64 e2] 51) := heap_setCell_same v9 _ 3 _ _ _ ((hb8.block wq.heap.size (by have := HX.out.2.1; omega)).trans HX.out.2.2)
          have hYr : RowsM w.heap.size (.slice (some ⟨gr, 0, none⟩) m cr) RL (v9.setCell ⟨wq.heap.size, 3, none⟩ (.int .i64 e2)) := (y1.keep hB9).but hbs (fun k hk e => by have := (y1.own.lt k hk).2; have h9 : k = wq.heap.size := e; omega) (fun j p' r' hj k hk e => by have := ((y1.sub j p' r' hj).lt k hk).2; have h9 : k = wq.heap.size := e; omega)
          have hYo := own_butB (own_keepB y3 hB9) hbs (fun k hk e => by have := (y3.lt k hk).2; have h9 : k = wq.heap.size := e; omega)
          have hYm := hYr.own
          rw [y10] at hYm
          obtain ⟨Y, hY⟩ : ∃ Y, v9.setCell ⟨wq.heap.size, 3, none⟩ (.int .i64 e2) = Y := ⟨_, rfl⟩
          rw [hY] at hBY hYb hYr hYo hYm ⊢
          have m0 : Y.cell? ⟨wq.heap.size, 3, none⟩ = some (.int .i64 e2) := by simp [World.cell?, hYb]
          have m1 := hYm.cellAt (i * 4 + 3) (by omega)
          rw [(flatRw_get RL i _ y5).2.2.2] at m1
          have m2 := hYm.frozenAt (i * 4 + 3)
          have hgrw := (y1.own.lt gr (by simp [Value.ownBlock]))
          have hbz : But (fun k => k = gr) Y (Y.setCell ⟨gr, i * 4 + 3, none⟩ (.int .i64 e2)) := But.set Y _ _ rfl
          have hi9 : rowsE C base (i + 1) = (rowsE C base i).set i { r with e := e2 } := by
            rw [rowsE, if_neg h0, y6]
            show (rowsE C base i).set i { r with e := insI (((rowsE C base i)[r.o]?).getD rw0).e (goesS C r.ps r.k) } = _
            rw [e3]
            show (rowsE C base i).set i { r with e := insI q.e (goesS C r.ps r.k) } = _
            first | rw [e1] | rw [HLf.out, e1]
          have HQ := hideB (fun v22 v23 v24 v25 v26 v27 v28 v29 v30 v31 v32 v33 v34 v35 v36 v37 v38 v39 v40 => HT.out v22 v23 v24 v25 v26 v27 v28 v29 v30 v31 v32 v33 v34 v35 v36 v37 v38 v39 v40 e2 (Y.setCell ⟨gr, i * 4 + 3, none⟩ (.int .i64 e2)) (RL.set i (.slice oq r.ps.length cq, { r with e := e2 }))
            ((hbz.same _ (Array.getElem?_eq_some_iff.1 hYb).1 (by omega)).trans hYb) (hYr.level y5 e2) (by rw [List.map_set, y2, hi9]) (by rw [List.getElem?_set, if_pos rfl, if_pos (by omega)])
            (own_butB hYo hbz (fun k hk e => by have h9 : ga = k := (by simpa [Value.ownBlock] using hk); have h8 : k = gr := e; omega))
            (hBY.newer hbz (fun j e => by have h8 : j = gr := e; omega)) (by have := y7.le r.o q e3 (.inl e5); omega))
          clear y1 y2 y3 y4 y5 y6 y7 y8 y9 y10 e1 e2' e3 e4 e5 hbs hBY hYb hYr hYo hYm hbz hi9 hB9 hb7 hb8 j1 j2 j3 j4 j5 j6 k1 k2 k3 f3 k4 k5 hY
          go_wp2_with fail
          exact HQ.out _ _ _ _ _ _ _ _ _ _ _ _ _ _ _ _ _ _ _
    · obtain rfl : m = i := by omega
      have d2 : ¬ (m : Int) < (m : Int) := by omega
      have HQ := hideB (HEnds.out (levT C base L m) (by rw [levT_len, HLl.out]) wq hown (H2.out.butL hbt (fun a ha _ e => HD.out a ha e)))
      have HF : Hid (∀ u w9, wq.ownsRow b1 3 1 (.slice (some ⟨ga, 0, none⟩) M capA) M (flatJ (putJ A off (levT C base L m))) → w9.ownsRow b1 3 1 (.slice (some ⟨ga, 0, none⟩) M capA) M (flatJ (putJ A off (endsF base C (levT C base L m) 0))) → But (fun k => k = ga) wq w9 → PO (.returned u) w9) := hideB (fun u w9 _ h2 h3 => by
        rw [← HPO.out]
        refine ⟨⟨u, rfl⟩, ?_, hbt.trans h3⟩
        unfold parN
        rw [← HRl.out]
        exact h2)
      have HO := hideB hown
      clear hrm hrs hown hbt
      go_wp2_with fail
      refine HQ.out.mono ?_
      rintro r9 w9 ⟨⟨u, rfl⟩, h8, h9⟩
      have HR := hideB (fun u => HF.out u w9 HO.out h8 h9)
      clear h8 h9 HF HQ
      go_wp2_with fail
      first | exact HR.out _ | (refine bodyPost_ret (v := .tuple #[]) (by simp [results, Tryd.results11, go_sem]) rfl ?_; exact HR.out _)
end Go.Proofs.YtbehlaclffjkbaaDoor
