/- bidi: rowsOf at every row of classes (chapter 4). -/
import Derived.Test.YtbehlaclffjkbaaDoorBdY
namespace Go.Proofs.YtbehlaclffjkbaaDoor
open Go.RowKit Go.Shelf

theorem infoRw : (Tryd.prog.info? 51).map (fun i => (i.zero, i.size, i.bytes)) = some (some (.agg #[.slice none 0 0, .int .i64 0, .int .i64 0, .int .i64 0]), 4, 48) := by kernel_rfl
def natJ (l : List Nat) : List Int := l.map fun k : Nat => (k : Int)
theorem own_newRw (W : World) (base : Nat) (hb : base ≤ W.heap.size) (p : Value) (o k e : Int) : (W.alloc (.cells #[p, .int .i64 o, .int .i64 k, .int .i64 e] 51)).ownsRow base 51 4 (.slice (some ⟨W.heap.size, 0, none⟩) 1 1) 1 [p, .int .i64 o, .int .i64 k, .int .i64 e] :=
  ⟨rfl, .inr ⟨W.heap.size, 1, _, rfl, hb, World.alloc_heap_new W _, Nat.le_refl _, by unfold maxLen; omega, rfl, rfl⟩⟩
theorem own_newJ (W : World) (base : Nat) (hb : base ≤ W.heap.size) (x : Int) : (W.alloc (.cells #[.int .i64 x] 3)).ownsRow base 3 1 (.slice (some ⟨W.heap.size, 0, none⟩) 1 1) 1 [.int .i64 x] :=
  ⟨rfl, .inr ⟨W.heap.size, 1, _, rfl, hb, World.alloc_heap_new W _, Nat.le_refl _, by unfold maxLen; omega, rfl, rfl⟩⟩
theorem natJ_len (l : List Nat) : (natJ l).length = l.length := List.length_map _
/-- What rowsOf's rounds keep. -/
structure RwJ (w : World) (v3 v4 : Value) (RL : List (Value × RwM)) (R : List RwM) (op : List Nat) (W : World) : Prop where
  m : RowsM w.heap.size v3 RL W
  rs : RL.map Prod.snd = R
  op : W.ownsRow w.heap.size 3 1 v4 op.length (flatJ (natJ op))
  dis : ∀ (j : Nat) (p : Value) (r : RwM), RL[j]? = some (p, r) → ∀ g, p.ownBlock = some g → v4.ownBlock ≠ some g
  bel : Below w.heap.size w W
theorem RwJ.keep {w : World} {v3 v4 : Value} {RL : List (Value × RwM)} {R : List RwM} {op : List Nat} {W X : World} (h : RwJ w v3 v4 RL R op W) (hb : Below W.heap.size W X) : RwJ w v3 v4 RL R op X :=
  ⟨h.m.keep hb, h.rs, own_keepB h.op hb, h.dis, bupB h.bel (hb.mono (Nat.le_refl _))⟩
theorem RwJ.pop {w : World} {v3 : Value} {go n co k : Nat} {RL : List (Value × RwM)} {R : List RwM} {op : List Nat} {W : World} (h : RwJ w v3 (.slice (some ⟨go, 0, none⟩) n co) RL R op W) (hk : k ≤ op.length) : RwJ w v3 (.slice (some ⟨go, 0, none⟩) k co) RL R (op.take k) W := by
  have hn : n = op.length := by
    rcases h.op.2 with ⟨e, _⟩ | ⟨g1, cap1, cur, e, _⟩
    · cases e
    · cases e; rfl
  subst hn
  refine ⟨h.m, h.rs, ?_, h.dis, h.bel⟩
  have := own_prefB h.op hk
  rw [List.length_take, Nat.min_eq_left hk]
  unfold flatJ natJ at this ⊢
  rw [← List.map_take, ← List.map_take] at this
  exact this
theorem RwJ.add {w : World} {gr m cr g1 cap1 : Nat} {v4 : Value} {RL : List (Value × RwM)} {R : List RwM} {op : List Nat} {W W1 : World} (h : RwJ w (.slice (some ⟨gr, 0, none⟩) m cr) v4 RL R op W) {l : Nat} {p : Value} {r : RwM} (hr : RL[l]? = some (p, r)) (i : Nat)
    (h1 : W1.ownsRow w.heap.size 3 1 (.slice (some ⟨g1, 0, none⟩) (r.ps.length + 1) cap1) (r.ps.length + 1) (flatJ r.ps ++ [.int .i64 (i : Int)])) (hb : But (fun k => p.ownBlock = some k) W W1) (hat : p.ownBlock = some g1 ∨ W.heap.size ≤ g1) :
    RwJ w (.slice (some ⟨gr, 0, none⟩) m cr) v4 (RL.set l (.slice (some ⟨g1, 0, none⟩) (r.ps.length + 1) cap1, addR r i)) (addP R l i) op (W1.setCell ⟨gr, l * 4, none⟩ (.slice (some ⟨g1, 0, none⟩) (r.ps.length + 1) cap1)) := by
  have hl : l < RL.length := (List.getElem?_eq_some_iff.1 hr).1
  have hpw : ∀ k, p.ownBlock = some k → w.heap.size ≤ k := fun k e => ((h.m.sub l p r hr).lt k e).1
  have hq : (Value.slice (some ⟨g1, 0, none⟩) (r.ps.length + 1) cap1).ownBlock = p.ownBlock ∨ ∀ k, (Value.slice (some ⟨g1, 0, none⟩) (r.ps.length + 1) cap1).ownBlock = some k → W.heap.size ≤ k := by
    rcases hat with e | e
    · exact .inl (by rw [e]; rfl)
    · exact .inr (fun k hk => by have h9 : g1 = k := (by simpa [Value.ownBlock] using hk); omega)
  have o3 := h.m.own
  have hgr : w.heap.size ≤ gr := (o3.lt gr (by simp [Value.ownBlock])).1
  have hv4 : ∀ k, v4.ownBlock = some k → ¬ k = gr := fun k e e2 => own_apartB h.op o3 (by decide) k e (by rw [e2]; rfl)
  refine ⟨h.m.place hr rfl rfl rfl ?_ hb hq, ?_, ?_, fun j p' r' hj => ?_, ?_⟩
  · show W1.ownsRow w.heap.size 3 1 _ (r.ps ++ [(i : Int)]).length (flatJ (r.ps ++ [(i : Int)]))
    rw [flatJ_snoc, List.length_append]
    exact h1
  · rw [List.map_set, h.rs]
    unfold addP
    have : R[l]? = some r := by rw [← h.rs, List.getElem?_map, hr]; rfl
    rw [this]
    rfl
  · exact own_butB (own_butB h.op hb (fun k e e2 => h.dis l p r hr k e2 e)) (But.set (M := fun k => k = gr) W1 _ _ rfl) hv4
  · rw [List.getElem?_set] at hj
    split at hj
    · rename_i e
      subst e
      try rw [if_pos hl] at hj
      cases hj
      intro k hk e4
      rcases hq with hq | hq
      · rw [hq] at hk
        exact h.dis l p r hr k hk e4
      · have h5 := hq k hk
        have := (h.op.lt k e4).2
        omega
    · exact h.dis j p' r' hj
  · have hz := h.bel.size
    exact (h.bel.trans (hb.below hz (fun k e => hpw k e))).trans ((But.set (M := fun k => k = gr) W1 ⟨gr, l * 4, none⟩ _ rfl).below (by have := hb.size; omega) (fun k e => by omega))
theorem RwJ.opn {w : World} {v3 v4 v4' : Value} {RL : List (Value × RwM)} {R : List RwM} {op : List Nat} {W W1 : World} (h : RwJ w v3 v4 RL R op W) (x : Nat)
    (h1 : W1.ownsRow w.heap.size 3 1 v4' (op.length + 1) (flatJ (natJ op) ++ [.int .i64 (x : Int)])) (hb : But (fun k => v4.ownBlock = some k) W W1) (hat : v4'.ownBlock = v4.ownBlock ∨ ∀ k, v4'.ownBlock = some k → W.heap.size ≤ k) :
    RwJ w v3 v4' RL R (op ++ [x]) W1 := by
  refine ⟨h.m.but hb (fun k e e2 => own_apartB h.op h.m.own (by decide) k e2 e) (fun i p r hi k e e2 => h.dis i p r hi k e e2), h.rs, ?_, fun j p r hj k hk e4 => ?_, h.bel.trans (hb.below h.bel.size (fun k e => (h.op.lt k e).1))⟩
  · rw [List.length_append, show natJ (op ++ [x]) = natJ op ++ [(x : Int)] by simp [natJ], flatJ_snoc]
    exact h1
  · rcases hat with e | e
    · rw [e] at e4
      exact h.dis j p r hj k hk e4
    · have h5 := e k e4
      have := ((h.m.sub j p r hj).lt k hk).2
      omega
theorem RwJ.push {w : World} {v3 v3' v4 : Value} {RL : List (Value × RwM)} {R : List RwM} {op : List Nat} {W W1 : World} (h : RwJ w v3 v4 RL R op W) (o : Nat) (k : Int)
    (h1 : W1.ownsRow w.heap.size 51 4 v3' (RL.length + 1) (flatRw RL ++ [.slice none 0 0, .int .i64 (o : Nat), .int .i64 k, .int .i64 0])) (hb : But (fun k => v3.ownBlock = some k) W W1) :
    RwJ w v3' v4 (RL ++ [(.slice none 0 0, ⟨[], o, k, 0⟩)]) (R ++ [⟨[], o, k, 0⟩]) op W1 := by
  refine ⟨h.m.push o k h1 hb, by rw [List.map_append, h.rs]; rfl, own_butB h.op hb (fun k e e2 => own_apartB h.op h.m.own (by decide) k e e2), fun j p r hj => ?_, h.bel.trans (hb.below h.bel.size (fun k e => (h.m.own.lt k e).1))⟩
  rw [List.getElem?_append] at hj
  split at hj
  · exact h.dis j p r hj
  · have := List.mem_of_getElem? hj
    obtain ⟨rfl, rfl⟩ : p = .slice none 0 0 ∧ r = ⟨[], o, k, 0⟩ := by simpa using this
    intro g hg
    cases hg
theorem stepR_no {S : RwS} {c : Nat} {i : Nat} (h : (3584 : Nat).testBit c = false) : stepR S (c : Int) i = ⟨addP S.rows ((popO (c : Int) S.op S.pl).getLast?.getD 0) i, popO (c : Int) S.op S.pl, popP (c : Int) S.pl⟩ := by
  unfold stepR
  rw [Int.toNat_natCast, h]
  rfl
theorem stepR_deep {S : RwS} {c : Nat} {i : Nat} (h : (3584 : Nat).testBit c = true) (h2 : 60 < (popO (c : Int) S.op S.pl).length) : stepR S (c : Int) i = ⟨addP S.rows ((popO (c : Int) S.op S.pl).getLast?.getD 0) i, popO (c : Int) S.op S.pl, popP (c : Int) S.pl + 1⟩ := by
  unfold stepR
  rw [Int.toNat_natCast, if_pos h, if_pos h2]
theorem stepR_open {S : RwS} {c : Nat} {i : Nat} (h : (3584 : Nat).testBit c = true) (h2 : ¬ 60 < (popO (c : Int) S.op S.pl).length) : stepR S (c : Int) i = ⟨addP S.rows ((popO (c : Int) S.op S.pl).getLast?.getD 0) i ++ [⟨[], (popO (c : Int) S.op S.pl).getLast?.getD 0, (c : Int), 0⟩], popO (c : Int) S.op S.pl ++ [S.rows.length], popP (c : Int) S.pl⟩ := by
  unfold stepR
  rw [Int.toNat_natCast, if_pos h, if_neg h2]
set_option maxRecDepth 100000 in
set_option maxHeartbeats 4000000 in
theorem rows_any (C : List Int) (hC : ClsB C) (hn : C.length ≤ 1000000000000) (ob : Option Addr) (capb : Nat) (w : World) (h : RdA w ob C) :
    Calls Tryd.prog 19 #[.slice ob C.length capb] w fun e w' => ∃ v RL, e = .returned v ∧ RowsM w.heap.size v RL w' ∧ RL.map Prod.snd = rowsN C ∧ Below w.heap.size w w' := by
  obtain ⟨i0, hi0, hz0, hz1, hz2⟩ := info_partsC infoJ
  obtain ⟨j0, hj0, hy0, hy1, hy2⟩ := info_partsC infoRw
  obtain ⟨n, hn'⟩ : ∃ n, C.length = n := ⟨_, rfl⟩
  have HN := hideB hn'
  rw [hn'] at hn ⊢
  obtain ⟨PO, hPO⟩ : ∃ PO : Ending → World → Prop, (fun e w' => ∃ v RL, e = .returned v ∧ RowsM w.heap.size v RL w' ∧ RL.map Prod.snd = rowsN C ∧ Below w.heap.size w w') = PO := ⟨_, rfl⟩
  have HP := hideB hPO
  rw [hPO]
  have HI := hideB (And.intro hi0 (And.intro hz0 (And.intro hz1 hz2)))
  have HJ2 := hideB (And.intro hj0 (And.intro hy0 (And.intro hy1 hy2)))
  have HCl := hideB hC
  have HRd := hideB h
  clear hPO hn' hi0 hz0 hz1 hz2 hj0 hy0 hy1 hy2 hC h
  go_enter Tryd.func19, Tryd.ntmps19
  go_wp2_with fail
  obtain ⟨V, hV⟩ : ∃ V, (w.alloc (.cells #[.slice none 0 0, .int .i64 0, .int .i64 0, .int .i64 0] 51)).alloc (.cells #[.int .i64 0] 3) = V := ⟨_, rfl⟩
  have HV : Hid (RwJ w (.slice (some ⟨w.heap.size, 0, none⟩) 1 1) (.slice (some ⟨w.heap.size + 1, 0, none⟩) 1 1) [(.slice none 0 0, ⟨[], 0, 0, 0⟩)] (rowsT C 0).rows (rowsT C 0).op V) := hideB (by
    rw [← hV]
    have o1 := own_newRw w w.heap.size (Nat.le_refl _) (.slice none 0 0) 0 0 0
    have o2 := own_newJ (w.alloc (.cells #[.slice none 0 0, .int .i64 0, .int .i64 0, .int .i64 0] 51)) w.heap.size (by simp) 0
    rw [World.size_alloc] at o2
    refine ⟨⟨o1.alloc _, fun i p r hi => ?_, fun i j p q r s hi hj hij => ?_⟩, rfl, o2, fun j p r hi => ?_, bupB (bel1B _ _) (bel1B _ _)⟩
    · have := List.mem_of_getElem? hi
      obtain ⟨rfl, rfl⟩ : p = .slice none 0 0 ∧ r = ⟨[], 0, 0, 0⟩ := by simpa using this
      exact World.ownsRow_nil _ _ _ _
    · have := List.mem_of_getElem? hi
      obtain ⟨rfl, rfl⟩ : p = .slice none 0 0 ∧ r = ⟨[], 0, 0, 0⟩ := by simpa using this
      intro g hg
      cases hg
    · have := List.mem_of_getElem? hi
      obtain ⟨rfl, rfl⟩ : p = .slice none 0 0 ∧ r = ⟨[], 0, 0, 0⟩ := by simpa using this
      intro g hg
      cases hg)
  rw [hV]
  clear hV
  go_loopw [3, 4, 5, 14] (fun v3 v4 v5 v14 wr => ∃ (i : Nat) (RL : List (Value × RwM)), v14 = .int .i64 (i : Nat) ∧ i ≤ n ∧ v5 = .int .i64 ((rowsT C i).pl : Nat) ∧ RwJ w v3 v4 RL (rowsT C i).rows (rowsT C i).op wr) (fun _ _ _ v14 _ => n - (intOf v14).toNat)
  case atStart => exact ⟨0, _, rfl, Nat.zero_le _, rfl, HV.out⟩
  case round =>
    obtain ⟨i, RL, rfl, hin, rfl, hR⟩ := hrel
    obtain ⟨wq, rfl⟩ : ∃ wq, wq = wr := ⟨_, rfl⟩
    by_cases hlt : i < n
    · have di : (i : Int) < (n : Int) := by omega
      obtain ⟨x, hx⟩ : ∃ x, C[i]? = some x := ⟨_, List.getElem?_eq_getElem (by rw [HN.out]; omega)⟩
      have hxb := HCl.out x (List.mem_of_getElem? hx)
      obtain ⟨c, rfl⟩ : ∃ c : Nat, x = (c : Int) := ⟨x.toNat, by omega⟩
      obtain ⟨gb, offb, rfl, l0⟩ := HRd.out i _ hx
      have hgw := World.block_lt_of_cell? _ _ l0
      have l0 := (hR.bel.cell (p := ⟨gb, offb + i, none⟩) hgw).trans l0
      have wk : IntKind.i64.wrap ((i : Int) + 1) = ((i + 1 : Nat) : Int) := by rw [show ((i + 1 : Nat) : Int) = (i : Int) + 1 by omega]; exact IntWalk.i64_in _ ⟨by omega, by omega⟩
      have HX : Hid (rowsT C (i + 1) = stepR (rowsT C i) (c : Int) i) := hideB (by rw [rowsT, hx]; rfl)
      have HR := hideB hR
      obtain ⟨S, hS⟩ : ∃ S, rowsT C i = S := ⟨_, rfl⟩
      have HS := hideB hS
      rw [hS] at HX ⊢
      have HW := hideB (hS ▸ rowsT_wf C i)
      clear hS hR hx
      go_upto_region 7 with fail
      rename_i K2 hK2 K hK
      have HT : Hid (∀ (v4 v19 v20 v21 v22 v23 v24 v25 v26 v27 v28 v29 v30 v31 v32 v33 v34 v35 v36 v37 v38 v39 v40 v41 v42 v43 v44 v45 : Value) (op1 : List Nat) (pl1 : Nat), op1 = popO (c : Int) S.op S.pl → pl1 = popP (c : Int) S.pl → RwJ w u3 v4 RL S.rows op1 wq → K2 ⟨#[.slice (some ⟨gb, offb, none⟩) n capb, undef, .slice none 0 0, u3, v4, .int .i64 (pl1 : Nat), .int .i64 (i : Nat), .int .i64 (c : Nat), u8, .agg #[.slice none 0 0, .int .i64 0, .int .i64 0, .int .i64 0], .slice (some ⟨w.heap.size, 0, none⟩) 1 1, .slice (some ⟨w.heap.size + 1, 0, none⟩) 1 1, .slice (some ⟨gb, offb, none⟩) n capb, .int .i64 (n : Nat), .int .i64 (i : Nat), .bool true, .int .i64 (i : Nat), .pointer (some ⟨gb, offb + i, none⟩), .int .i64 (c : Nat), v19, v20, v21, v22, v23, v24, v25, v26, v27, v28, v29, v30, v31, v32, v33, v34, v35, v36, v37, v38, v39, v40, v41, v42, v43, v44, v45, u46, u47, u48, u49, u50, u51, u52, u53, u54, u55, u56, u57, u58, u59, u60, u61, u62, u63, u64, u65, u66, u67, u68, u69, u70, u71, u72, u73, u74, u75, u76, u77, u78, u79, u80, u81, u82, u83, u84, u85, undef], []⟩ wq) := hideB (by
        intro v4 v19 v20 v21 v22 v23 v24 v25 v26 v27 v28 v29 v30 v31 v32 v33 v34 v35 v36 v37 v38 v39 v40 v41 v42 v43 v44 v45 op1 pl1 e1 e2 hJ
        have hne : op1 ≠ [] := by rw [e1]; exact pop_ne HW.out.ne
        obtain ⟨lo, hlo⟩ : ∃ lo, op1.length = lo + 1 := ⟨op1.length - 1, by have := List.length_pos_iff.2 hne; omega⟩
        obtain ⟨last, hla⟩ : ∃ last, op1.getLast?.getD 0 = last := ⟨_, rfl⟩
        have hlx : op1[lo]? = some last := by
          rw [← hla, List.getLast?_eq_getElem?, hlo, Nat.add_sub_cancel, List.getElem?_eq_getElem (by omega)]
          rfl
        have hlS : last < S.rows.length := HW.out.lt _ ((pop_pre (c : Int) S.op S.pl).mem (by rw [← e1]; exact List.mem_of_getElem? hlx))
        have hRl : RL.length = S.rows.length := by rw [← hJ.rs, List.length_map]
        obtain ⟨⟨p, r⟩, hpr⟩ : ∃ x, RL[last]? = some x := ⟨_, List.getElem?_eq_getElem (by omega)⟩
        obtain ⟨go, co, rfl⟩ : ∃ g cap, v4 = .slice (some ⟨g, 0, none⟩) (lo + 1) cap := by
          rcases own_formB hJ.op with ⟨e, _⟩ | ⟨g, cap, e⟩
          · omega
          · exact ⟨g, cap, by rw [← hlo]; exact e⟩
        obtain ⟨gr, cr, rfl⟩ : ∃ g cap, u3 = .slice (some ⟨g, 0, none⟩) RL.length cap := by
          rcases own_formB hJ.m.own with ⟨e, _⟩ | ⟨g, cap, e⟩
          · omega
          · exact ⟨g, cap, e⟩
        have hrm : r ∈ S.rows := by rw [← hJ.rs]; exact List.mem_map.2 ⟨(p, r), List.mem_of_getElem? hpr, rfl⟩
        have hps := (HW.out.ps r hrm).1
        have hRn := HW.out.rl
        have hPn := HW.out.pl
        have HRL := hideB hRl
        obtain ⟨M, hM⟩ : ∃ M, RL.length = M := ⟨_, rfl⟩
        have HM := hideB hM
        rw [hM] at hRl ⊢
        have hop := hJ.op
        rw [hlo] at hop
        have k4 := hop.cellAt lo (by omega)
        rw [flatJ_get (c := (last : Int)) (by unfold natJ; rw [List.getElem?_map, hlx]; rfl)] at k4
        have hJo := hJ.m.own
        have k3 := hJo.cellAt (last * 4) (by have := hM; omega)
        rw [(flatRw_get RL last (p, r) hpr).1] at k3
        have hsub := hJ.m.sub last p r hpr
        have hpo : ∃ oq cq, p = .slice oq r.ps.length cq := by
          rcases own_formB hsub with ⟨e, e2⟩ | ⟨g, cap, e⟩
          · exact ⟨none, 0, by rw [e, e2]⟩
          · exact ⟨_, cap, e⟩
        have HBel := hJ.bel.size
        have HJ := hideB (And.intro hJ (And.intro hlx (And.intro hpr hsub)))
        obtain ⟨pn, hpn⟩ : ∃ pn, r.ps.length = pn := ⟨_, rfl⟩
        rw [hpn] at hsub hps hpo
        have HPn := hideB hpn
        obtain ⟨oq, cq, rfl⟩ := hpo
        have dl : (last : Int) < (M : Int) := by omega
        have dl0 : (0 : Int) ≤ (last : Int) := by omega
        have dg : (lo : Int) < ((lo + 1 : Nat) : Int) := by omega
        have hOl := HW.out.ol
        have hOl2 : lo + 1 ≤ i + 1 := by rw [← hlo, e1]; exact Nat.le_trans (pop_pre (c : Int) S.op S.pl).length_le hOl
        have wl1 : IntKind.i64.wrap ((lo : Int) + 1 - 1) = (lo : Int) := by rw [show (lo : Int) + 1 - 1 = (lo : Int) by omega]; exact IntWalk.i64_in _ ⟨by omega, by omega⟩
        have wl2 : IntKind.i64.wrap (lo : Int) = (lo : Int) := IntWalk.i64_in _ ⟨by omega, by omega⟩
        have HH := hideB (fun (W : World) => has_any 3584 c (by omega) (by omega) W)
        have HE := hideB (And.intro hlo (And.intro hla (And.intro e1 e2)))
        clear hJ hJo hop hlx hpr hM hpn hrm e1 e2 hla hRl hRn hPn hOl
        refine hK2 _ _ ?_
        go_wp2_with (at_builtin; refine wpList_append_lies _ rfl _ _ 23 rfl w.heap.size 3 i0 _ 1 8 Tryd.underlying23 HI.out.1 HI.out.2.1 HI.out.2.2.1 HI.out.2.2.2 rfl (by decide) (.slice oq pn cq) pn (flatJ r.ps) rfl (hsub.alloc _) ⟨wq.heap.size, 0, none⟩ 1 1 [.int .i64 (i : Int)] rfl rfl (World.news_of_block (cs := #[.int .i64 (i : Int)]) (t := 3) (fr := (0, 0)) (World.alloc_heap_new wq _)) (by simp [Value.oneCell']) (by omega) (by unfold maxLen; omega) (by omega) (by simp; omega) (wq.heap.size + 1) (by simp) ?_; intro g1 cap1 w1 hown1 hgrow1 hat1 hlt1; have hb1 := (But.grown (M := fun k => (Value.slice oq pn cq).ownBlock = some k) (bel1B wq (.cells #[.int .i64 (i : Int)] 3))).trans (but_grownB hgrow1); have o1 := own_butB HJ.out.1.m.own hb1 (fun k hk e => HJ.out.1.m.far HJ.out.2.2.1 k e hk); have k5 := o1.cellAt (last * 4) (by rw [HM.out]; omega); rw [(flatRw_get RL last _ HJ.out.2.2.1).1] at k5; have f5 := o1.frozenAt (last * 4))
        have hA := HJ.out.1.add HJ.out.2.2.1 i (by rw [HPn.out]; exact hown1) hb1 (hat1.imp id (fun e => by omega))
        rw [HPn.out] at hA
        obtain ⟨RL1, hRL1⟩ : ∃ X, RL.set last (.slice (some ⟨g1, 0, none⟩) (pn + 1) cap1, addR r i) = X := ⟨_, rfl⟩
        have hRM : RL1.length = M := by rw [← hRL1, List.length_set]; exact HM.out
        obtain ⟨X, hX⟩ : ∃ X, w1.setCell ⟨gr, last * 4, none⟩ (.slice (some ⟨g1, 0, none⟩) (pn + 1) cap1) = X := ⟨_, rfl⟩
        rw [hRL1, hX, HM.out] at hA
        rw [hX]
        have HA := hideB (And.intro hA hRM)
        clear hX hRL1 hA hRM hown1 hgrow1 hat1 hlt1 hb1 o1 k5 f5 k3 k4 hsub HJ HPn hps
        refine (HH.out _).mono ?_
        rintro e v5 ⟨rfl, rfl⟩
        clear HH
        obtain ⟨t, ht⟩ : ∃ t, (3584 : Nat).testBit c = t := ⟨_, rfl⟩
        have Ht := hideB ht
        rw [ht]
        clear ht
        cases t with
        | false =>
          have HQ : Hid (rowsT C (i + 1) = ⟨addP S.rows last i, op1, pl1⟩) := hideB (by rw [HX.out, stepR_no Ht.out, ← HE.out.2.2.1, ← HE.out.2.2.2, HE.out.2.1])
          go_wp2_with fail
          go_roundw
          case rel => exact ⟨i + 1, RL1, by first | rfl | simp, by omega, by rw [HQ.out], by rw [HQ.out]; exact HA.out.1⟩
          case measure => (simp [intOf] <;> omega)
        | true =>
          by_cases h60 : 60 < lo + 1
          · have HQ : Hid (rowsT C (i + 1) = ⟨addP S.rows last i, op1, pl1 + 1⟩) := hideB (by rw [HX.out, stepR_deep Ht.out (by rw [← HE.out.2.2.1, HE.out.1]; exact h60), ← HE.out.2.2.1, ← HE.out.2.2.2, HE.out.2.1])
            have d60 : (60 : Int) < ((lo + 1 : Nat) : Int) := by omega
            have hpl : pl1 ≤ i + 1 := by
              have := HW.out.pl
              rw [HE.out.2.2.2]
              unfold popP
              split <;> omega
            have wp1 : IntKind.i64.wrap ((pl1 : Int) + 1) = ((pl1 + 1 : Nat) : Int) := by rw [show ((pl1 + 1 : Nat) : Int) = (pl1 : Int) + 1 by omega]; exact IntWalk.i64_in _ ⟨by omega, by omega⟩
            go_wp2_with fail
            go_roundw
            case rel => exact ⟨i + 1, RL1, by first | rfl | simp, by omega, by rw [HQ.out]; first | rfl | simp, by rw [HQ.out]; exact HA.out.1⟩
            case measure => (simp [intOf] <;> omega)
          · have HQ : Hid (rowsT C (i + 1) = ⟨addP S.rows last i ++ [⟨[], last, (c : Int), 0⟩], op1 ++ [M], pl1⟩) := hideB (by rw [HX.out, stepR_open Ht.out (by rw [← HE.out.2.2.1, HE.out.1]; exact h60), ← HE.out.2.2.1, ← HE.out.2.2.2, HE.out.2.1, ← HRL.out, HM.out])
            have d60 : ¬ (60 : Int) < ((lo + 1 : Nat) : Int) := by omega
            have hMi : M ≤ i + 1 := by have := HW.out.rl; have := HRL.out; have := HM.out; omega
            have hzv := HA.out.1.bel.size
            have hop := HA.out.1.op
            rw [HE.out.1] at hop
            go_wp2_with (first
              | (at_builtin; refine wpList_append_lies _ rfl _ _ 23 rfl w.heap.size 3 i0 _ 1 8 Tryd.underlying23 HI.out.1 HI.out.2.1 HI.out.2.2.1 HI.out.2.2.2 rfl (by decide) (.slice (some ⟨go, 0, none⟩) (lo + 1) co) (lo + 1) (flatJ (natJ op1)) rfl (hop.alloc _) ⟨v5.heap.size, 0, none⟩ 1 1 [.int .i64 (M : Int)] rfl rfl (World.news_of_block (cs := #[.int .i64 (M : Int)]) (t := 3) (fr := (0, 0)) (World.alloc_heap_new v5 _)) (by simp [Value.oneCell']) (by omega) (by unfold maxLen; omega) (by omega) (by simp; omega) (v5.heap.size + 1) (by simp) ?_; intro g2 cap2 w2 hown2 hgrow2 hat2 hlt2; have hB := HA.out.1.opn M (v4' := .slice (some ⟨g2, 0, none⟩) (lo + 1 + 1) cap2) (by rw [HE.out.1]; exact hown2) ((But.grown (bel1B v5 (.cells #[.int .i64 (M : Int)] 3))).trans (but_grownB hgrow2)) (hat2.imp (fun e => e.symm) (fun e k hk => by have h9 : g2 = k := (by simpa [Value.ownBlock] using hk); omega)); have hzw := hB.bel.size; have HB := hideB hB; have hrow := HB.out.m.own; rw [HA.out.2] at hrow; clear hB)
              | (at_builtin; refine wpList_append_lies _ rfl _ _ 48 rfl w.heap.size 51 j0 _ 4 48 Tryd.underlying48 HJ2.out.1 HJ2.out.2.1 HJ2.out.2.2.1 HJ2.out.2.2.2 rfl (by decide) (.slice (some ⟨gr, 0, none⟩) M cr) M (flatRw RL1) rfl (hrow.alloc _) ⟨w2.heap.size, 0, none⟩ 1 1 [.slice none 0 0, .int .i64 (last : Int), .int .i64 (c : Int), .int .i64 0] rfl rfl (World.news_of_block (cs := #[.slice none 0 0, .int .i64 (last : Int), .int .i64 (c : Int), .int .i64 0]) (t := 51) (fr := (0, 0)) (World.alloc_heap_new w2 _)) (by simp [Value.oneCell']) (by omega) (by unfold maxLen; omega) (by omega) (by simp; omega) (w2.heap.size + 1) (by simp) ?_; intro g3 cap3 w3 hown3 hgrow3 hat3 hlt3; have HC3 := hideB (HB.out.push last (c : Int) (v3' := .slice (some ⟨g3, 0, none⟩) (M + 1) cap3) (by rw [HA.out.2]; exact hown3) ((But.grown (bel1B w2 (.cells #[.slice none 0 0, .int .i64 (last : Int), .int .i64 (c : Int), .int .i64 0] 51))).trans (but_grownB hgrow3)))))
            go_roundw
            case rel => exact ⟨i + 1, _, by first | rfl | simp, by omega, by rw [HQ.out], by rw [HQ.out]; exact HC3.out⟩
            case measure => (simp [intOf] <;> omega))
      obtain ⟨op0, hop0⟩ : ∃ o, S.op = o := ⟨_, rfl⟩
      obtain ⟨pl0, hpl0⟩ : ∃ o, S.pl = o := ⟨_, rfl⟩
      have hne := HW.out.ne
      have hoi := HW.out.ol
      have hpi := HW.out.pl
      have hR2 : RwJ w u3 u4 RL S.rows op0 wq := by
        have := HR.out
        rw [HS.out, hop0] at this
        exact this
      rw [hop0] at HT hne hoi
      rw [hpl0] at HT hpi ⊢
      obtain ⟨lo, hlo⟩ : ∃ lo, op0.length = lo + 1 := ⟨op0.length - 1, by have := List.length_pos_iff.2 hne; omega⟩
      obtain ⟨go, co, rfl⟩ : ∃ g cap, u4 = .slice (some ⟨g, 0, none⟩) (lo + 1) cap := by
        rcases own_formB hR2.op with ⟨e, _⟩ | ⟨g, cap, e⟩
        · omega
        · exact ⟨g, cap, by rw [← hlo]; exact e⟩
      have hco : lo + 1 ≤ co := by
        have hop := hR2.op
        rw [hlo] at hop
        rcases hop.2 with ⟨e, _⟩ | ⟨g1, cap1, cur, e, _, _, h1, _⟩
        · cases e
        · cases e
          exact h1
      have HR2 := hideB hR2
      have HLo := hideB hlo
      have HOp := hideB (And.intro hop0 hpl0)
      clear hR2 hne hop0 hpl0 HX HW l0 wk hK2
      by_cases h1 : c = 1
      · subst h1
        have d1 : (1 : Int) ≤ (co : Int) := by omega
        have d2 : 1 ≤ co := by omega
        have d3 : (1 : Int) ≤ ((lo + 1 : Nat) : Int) := by omega
        go_wp2_with fail
        exact HT.out _ _ _ _ _ _ _ _ _ _ _ _ _ _ _ _ _ _ _ _ _ _ _ _ _ _ _ _ (op0.take 1) pl0 (by unfold popO; rw [if_pos (show ((1 : Nat) : Int) = 1 from rfl)]) (by unfold popP; rw [if_neg (by omega)]) (HR2.out.pop (by rw [HLo.out]; omega))
      · have b1 : ((c : Int) == 1) = false := by simp; omega
        by_cases h12 : c = 12
        · subst h12
          rcases Nat.eq_zero_or_pos pl0 with hp | hp
          · subst hp
            by_cases hl : 1 < lo + 1
            · obtain ⟨l2, rfl⟩ : ∃ l2, lo = l2 + 1 := ⟨lo - 1, by omega⟩
              have d1 : (1 : Int) < ((l2 + 1 + 1 : Nat) : Int) := by omega
              have wl1 : IntKind.i64.wrap (((l2 + 1 + 1 : Nat) : Int) - 1) = ((l2 + 1 : Nat) : Int) := by rw [show ((l2 + 1 + 1 : Nat) : Int) - 1 = ((l2 + 1 : Nat) : Int) by omega]; exact IntWalk.i64_in _ ⟨by omega, by omega⟩
              go_wp2_with fail
              exact HT.out _ _ _ _ _ _ _ _ _ _ _ _ _ _ _ _ _ _ _ _ _ _ _ _ _ _ _ _ (op0.take (op0.length - 1)) 0 (by unfold popO; rw [if_neg (by omega), if_neg (by omega), if_pos ⟨rfl, by rw [HLo.out]; omega⟩]) (by unfold popP; rw [if_neg (by omega)]) (by rw [HLo.out]; exact HR2.out.pop (by rw [HLo.out]; omega))
            · have d1 : ¬ (1 : Int) < ((lo + 1 : Nat) : Int) := by omega
              go_wp2_with fail
              exact HT.out _ _ _ _ _ _ _ _ _ _ _ _ _ _ _ _ _ _ _ _ _ _ _ _ _ _ _ _ op0 0 (by unfold popO; rw [if_neg (by omega), if_neg (by omega), if_neg (by rw [HLo.out]; omega)]) (by unfold popP; rw [if_neg (by omega)]) HR2.out
          · obtain ⟨q, rfl⟩ : ∃ q, pl0 = q + 1 := ⟨pl0 - 1, by omega⟩
            have d1 : (0 : Int) < ((q + 1 : Nat) : Int) := by omega
            have wq1 : IntKind.i64.wrap ((q : Int) + 1 - 1) = (q : Int) := by rw [show (q : Int) + 1 - 1 = (q : Int) by omega]; exact IntWalk.i64_in _ ⟨by omega, by omega⟩
            have wq2 : IntKind.i64.wrap (q : Int) = (q : Int) := IntWalk.i64_in _ ⟨by omega, by omega⟩
            go_wp2_with fail
            exact HT.out _ _ _ _ _ _ _ _ _ _ _ _ _ _ _ _ _ _ _ _ _ _ _ _ _ _ _ _ op0 q (by unfold popO; rw [if_neg (by omega), if_pos ⟨rfl, by omega⟩]) (by unfold popP; rw [if_pos ⟨rfl, by omega⟩]; rfl) HR2.out
        · have b12 : ((c : Int) == 12) = false := by simp; omega
          go_wp2_with fail
          exact HT.out _ _ _ _ _ _ _ _ _ _ _ _ _ _ _ _ _ _ _ _ _ _ _ _ _ _ _ _ op0 pl0 (by unfold popO; rw [if_neg (by omega), if_neg (by omega), if_neg (by omega)]) (by unfold popP; rw [if_neg (by omega)]) HR2.out
    · obtain rfl : n = i := by omega
      have d2 : ¬ (n : Int) < (n : Int) := by omega
      have HQ : Hid (PO (.returned u3) wq) := hideB (by
        rw [← HP.out]
        exact ⟨u3, RL, rfl, hR.m, by rw [hR.rs, rowsN, HN.out], hR.bel⟩)
      clear hR
      go_wp2_with fail
      first | exact HQ.out | (go_ret; exact HQ.out)
end Go.Proofs.YtbehlaclffjkbaaDoor
