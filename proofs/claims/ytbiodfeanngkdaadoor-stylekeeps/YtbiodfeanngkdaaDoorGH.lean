/- Several texts, one behind the other. -/
import Derived.Lib.AppendZerosOnto
import Derived.Laws.AppendOwnNone
import Derived.Test.YtbiodfeanngkdaaDoorSoM
/- style's hole: begin, end, around; style.moved (chapter 7). -/
namespace Go.Proofs.YtbiodfeanngkdaaDoor
open Go.RowKit Go.Shelf
attribute [local go_sem] Oper.semAt_some

/-- Where a span begins, ends behind a splice. -/
def begI (fr tq room at_ : Int) : Int := if tq ≤ at_ then IntKind.i64.wrap (IntKind.i64.wrap (IntKind.i64.wrap (at_ - tq) + fr) + room) else if at_ ≤ fr then at_ else IntKind.i64.wrap (fr + room)
def endI (fr tq room at_ : Int) : Int := if at_ ≤ fr then at_ else if tq ≤ at_ then IntKind.i64.wrap (IntKind.i64.wrap (IntKind.i64.wrap (at_ - tq) + fr) + room) else fr
set_option maxRecDepth 100000 in
set_option maxHeartbeats 1000000 in
theorem beg_any (fr tq room at_ : Int) (w : World) : Calls Tryd.prog 36 #[.agg #[.int .i64 fr, .int .i64 tq, .int .i64 room], .int .i64 at_] w fun e w' => e = .returned (.int .i64 (begI fr tq room at_)) ∧ Below w.heap.size w w' := by
  obtain ⟨v1, h1⟩ : ∃ v1, IntKind.i64.wrap (at_ - tq) = v1 := ⟨_, rfl⟩
  obtain ⟨v2, h2⟩ : ∃ v2, IntKind.i64.wrap (v1 + fr) = v2 := ⟨_, rfl⟩
  obtain ⟨v3, h3⟩ : ∃ v3, IntKind.i64.wrap (v2 + room) = v3 := ⟨_, rfl⟩
  obtain ⟨v4, h4⟩ : ∃ v4, IntKind.i64.wrap (fr + room) = v4 := ⟨_, rfl⟩
  unfold begI
  rw [h1, h2, h3, h4]
  by_cases c1 : tq ≤ at_
  · rw [if_pos c1]
    go_enter Tryd.func36, Tryd.ntmps36
    go_wp2_with fail
    go_ret
    exact ⟨rfl, bel1S w _⟩
  · rw [if_neg c1]
    by_cases c2 : at_ ≤ fr
    · rw [if_pos c2]
      go_enter Tryd.func36, Tryd.ntmps36
      go_wp2_with fail
      go_ret
      exact ⟨rfl, bel1S w _⟩
    · rw [if_neg c2]
      go_enter Tryd.func36, Tryd.ntmps36
      go_wp2_with fail
      go_ret
      exact ⟨rfl, bel1S w _⟩
set_option maxRecDepth 100000 in
set_option maxHeartbeats 1000000 in
theorem end_any (fr tq room at_ : Int) (w : World) : Calls Tryd.prog 37 #[.agg #[.int .i64 fr, .int .i64 tq, .int .i64 room], .int .i64 at_] w fun e w' => e = .returned (.int .i64 (endI fr tq room at_)) ∧ Below w.heap.size w w' := by
  obtain ⟨v1, h1⟩ : ∃ v1, IntKind.i64.wrap (at_ - tq) = v1 := ⟨_, rfl⟩
  obtain ⟨v2, h2⟩ : ∃ v2, IntKind.i64.wrap (v1 + fr) = v2 := ⟨_, rfl⟩
  obtain ⟨v3, h3⟩ : ∃ v3, IntKind.i64.wrap (v2 + room) = v3 := ⟨_, rfl⟩
  obtain ⟨v4, h4⟩ : ∃ v4, IntKind.i64.wrap (fr + room) = v4 := ⟨_, rfl⟩
  unfold endI
  rw [h1, h2, h3]
  by_cases c1 : at_ ≤ fr
  · rw [if_pos c1]
    go_enter Tryd.func37, Tryd.ntmps37
    go_wp2_with fail
    go_ret
    exact ⟨rfl, bel1S w _⟩
  · rw [if_neg c1]
    by_cases c2 : tq ≤ at_
    · rw [if_pos c2]
      go_enter Tryd.func37, Tryd.ntmps37
      go_wp2_with fail
      go_ret
      exact ⟨rfl, bel1S w _⟩
    · rw [if_neg c2]
      go_enter Tryd.func37, Tryd.ntmps37
      go_wp2_with fail
      go_ret
      exact ⟨rfl, bel1S w _⟩
/-- The spans around a hole, those that are left. -/
def aroundM (fr tq room : Int) (D : List Sp) : List Sp := (D.map fun x => (⟨begI fr tq room x.fr, endI fr tq room x.tt, x.kd, x.vl⟩ : Sp)).filter fun x => decide (x.fr < x.tt)
theorem aroundM_snoc (fr tq room : Int) (D : List Sp) (x : Sp) : aroundM fr tq room (D ++ [x]) = aroundM fr tq room D ++ (if begI fr tq room x.fr < endI fr tq room x.tt then [⟨begI fr tq room x.fr, endI fr tq room x.tt, x.kd, x.vl⟩] else []) := by
  unfold aroundM
  rw [List.map_append, List.filter_append]
  congr 1
  by_cases h : begI fr tq room x.fr < endI fr tq room x.tt
  · simp [h]
  · simp [h]
theorem cell_fourS (w : World) (a b c d : Value) (t : TypeId) : ∀ j u, [a, b, c, d][j]? = some u → (w.alloc (.cells #[a, b, c, d] t)).cell? ((⟨w.heap.size, 0, none⟩ : Addr).add j) = some u := by
  intro j u hj
  have e0 : (w.alloc (.cells #[a, b, c, d] t)).heap[w.heap.size]? = _ := World.alloc_heap_new w _
  match j, hj with
  | 0, hj | 1, hj | 2, hj | 3, hj =>
    simp at hj
    subst hj
    unfold World.cell?
    rw [addrS_block, e0]
    rfl
  | n + 4, hj => simp at hj
theorem own_keepS {W V : World} {base : Nat} {e : TypeId} {size : Nat} {v : Value} {n : Nat} {xs : List Value} (h : W.ownsRow base e size v n xs) (b : Below W.heap.size W V) : V.ownsRow base e size v n xs := by
  refine ⟨h.1, ?_⟩
  rcases h.2 with hn | ⟨g, cap, cur, rfl, hb, hgg, rest⟩
  · exact .inl hn
  · exact .inr ⟨g, cap, cur, rfl, hb, (b.block g (Array.getElem?_eq_some_iff.1 hgg).1).trans hgg, rest⟩
theorem own_fromS {A : World} {m hi : Nat} {e : TypeId} {size : Nat} {v : Value} {n : Nat} {xs : List Value} (h : A.ownsRow hi e size v n xs) (hm : m ≤ hi) : A.ownsRow m e size v n xs := by
  refine ⟨h.1, ?_⟩
  rcases h.2 with hn | ⟨g, cap, cur, rfl, hb, rest⟩
  · exact .inl hn
  · exact .inr ⟨g, cap, cur, rfl, Nat.le_trans hm hb, rest⟩
set_option maxRecDepth 100000 in
set_option maxHeartbeats 4000000 in
theorem around_any (D : List Sp) (oa : Option Addr) (cap : Nat) (fr tq room : Int) (hl : D.length ≤ 5000) (hn : oa = none → D = [] ∧ cap = 0) (w : World) (hR : SpO w oa D) :
    Calls Tryd.prog 23 #[.agg #[.int .i64 fr, .int .i64 tq, .int .i64 room], .slice oa D.length cap] w fun e w' => ∃ v, e = .returned v ∧ w'.ownsRow w.heap.size 45 4 v (aroundM fr tq room (isort ltS D)).length (flat4 (aroundM fr tq room (isort ltS D))) ∧ Below w.heap.size w w' := by
  obtain ⟨i0, hi, hz0, hz1, hz2⟩ := info_parts infoSp
  have HC := hideS (fun (W : World) (h : Below w.heap.size w W) => outer_any D oa cap hl hn W (hR.keep h))
  have hL : (isort ltS D).length = D.length := isort_length ltS D
  generalize isort ltS D = L at *
  obtain ⟨N, hN⟩ : ∃ N, L.length = N := ⟨_, rfl⟩
  have HN := hideS hN
  rw [hN] at hL
  rw [← hL] at HC hl ⊢
  obtain ⟨PO, hPO⟩ : ∃ PO : Ending → World → Prop, PO = fun e w' => ∃ v, e = .returned v ∧ w'.ownsRow w.heap.size 45 4 v (aroundM fr tq room L).length (flat4 (aroundM fr tq room L)) ∧ Below w.heap.size w w' := ⟨_, rfl⟩
  rw [← hPO]
  have HPO := hideS hPO
  clear hR hn hN hL hPO
  go_enter Tryd.func23, Tryd.ntmps23
  go_wp2_with fail
  obtain ⟨W0, hW0⟩ : ∃ W0, w.alloc (.cells #[.int .i64 fr, .int .i64 tq, .int .i64 room] 60) = W0 := ⟨_, rfl⟩
  have n0 : W0.heap[w.heap.size]? = some (.cells #[.int .i64 fr, .int .i64 tq, .int .i64 room] 60) := by rw [← hW0]; exact World.alloc_heap_new w _
  have b0 : Below w.heap.size w W0 := by rw [← hW0]; exact bel1S w _
  rw [hW0]
  have H0 := hideS (And.intro n0 b0)
  clear hW0 n0 b0
  refine (HC.out W0 H0.out.2).mono ?_
  rintro e w1 ⟨o, c, rfl, hc, _, _, hS1, b1⟩
  have n1 : w1.heap[w.heap.size]? = some (.cells #[.int .i64 fr, .int .i64 tq, .int .i64 room] 60) := (b1.block w.heap.size (Array.getElem?_eq_some_iff.1 H0.out.1).1).trans H0.out.1
  have HB1 := hideS (And.intro (bupS H0.out.2 b1) (And.intro n1 hS1))
  clear HC hS1 b1 n1 H0
  have hwl : w.heap.size < w1.heap.size := (Array.getElem?_eq_some_iff.1 HB1.out.2.1).1
  go_wp2_with fail
  go_loopw [5, 11] (fun v iv wq => ∃ (i : Nat), iv = .int .i64 (i : Nat) ∧ i ≤ N ∧ (aroundM fr tq room (L.take i)).length ≤ i ∧ wq.ownsRow w1.heap.size 45 4 v (aroundM fr tq room (L.take i)).length (flat4 (aroundM fr tq room (L.take i))) ∧ Below w1.heap.size w1 wq) (fun _ iv _ => N - (intOf iv).toNat)
  case atStart => exact ⟨0, rfl, Nat.zero_le _, Nat.le_refl _, World.ownsRow_nil _ _ _ _, Below.refl _ _⟩
  case round =>
    obtain ⟨i, rfl, hiN, hal, hO, hb⟩ := hrel
    obtain ⟨wq, rfl⟩ : ∃ wq, wq = wr := ⟨_, rfl⟩
    by_cases hlt : i < N
    · obtain ⟨x, hx⟩ : ∃ x, L[i]? = some x := ⟨_, List.getElem?_eq_getElem (by rw [HN.out]; exact hlt)⟩
      obtain ⟨a, rfl, hab, c0, c1, c2, c3⟩ := HB1.out.2.2.keep hb i x hx
      have d1 : (i : Int) < (N : Int) := by omega
      have wi : IntKind.i64.wrap ((i : Int) + 1) = ((i + 1 : Nat) : Int) := by rw [show ((i + 1 : Nat) : Int) = (i : Int) + 1 by omega]; exact IntWalk.i64_in _ ⟨by omega, by omega⟩
      have hnx : aroundM fr tq room (L.take (i + 1)) = aroundM fr tq room (L.take i) ++ (if begI fr tq room x.fr < endI fr tq room x.tt then [⟨begI fr tq room x.fr, endI fr tq room x.tt, x.kd, x.vl⟩] else []) := by rw [List.take_add_one, hx]; exact aroundM_snoc fr tq room _ x
      obtain ⟨V, hV⟩ : ∃ V, wq.alloc (.cells #[.int .i64 x.fr, .int .i64 x.tt, .int .i64 x.kd, .int .i64 x.vl] 45) = V := ⟨_, rfl⟩
      have bV : Below wq.heap.size wq V := by rw [← hV]; exact bel1S _ _
      have nV : V.heap[wq.heap.size]? = some (.cells #[.int .i64 x.fr, .int .i64 x.tt, .int .i64 x.kd, .int .i64 x.vl] 45) := by rw [← hV]; exact World.alloc_heap_new wq _
      have mV : V.heap[w.heap.size]? = some (.cells #[.int .i64 fr, .int .i64 tq, .int .i64 room] 60) := (bV.block w.heap.size (by have := hb.size; omega)).trans ((hb.block w.heap.size hwl).trans HB1.out.2.1)
      have hPl : wq.heap.size < V.heap.size := (Array.getElem?_eq_some_iff.1 nV).1
      have h0 : V.cell? ⟨w.heap.size, 0, none⟩ = some (.int .i64 fr) := by simp [World.cell?, mV]
      have h1 : V.cell? ⟨w.heap.size, 1, none⟩ = some (.int .i64 tq) := by simp [World.cell?, mV]
      have h2 : V.cell? ⟨w.heap.size, 2, none⟩ = some (.int .i64 room) := by simp [World.cell?, mV]
      have x0 : V.cell? ⟨wq.heap.size, 0, none⟩ = some (.int .i64 x.fr) := by simp [World.cell?, nV]
      have x1 : V.cell? ⟨wq.heap.size, 1, none⟩ = some (.int .i64 x.tt) := by simp [World.cell?, nV]
      have hPne : w.heap.size < wq.heap.size := by have := hb.size; omega
      have hwV : w.heap.size < V.heap.size := Nat.lt_trans hPne hPl
      have Hbg := hideS (beg_any fr tq room x.fr)
      have Hen := hideS (end_any fr tq room x.tt)
      generalize begI fr tq room x.fr = bv at *
      generalize endI fr tq room x.tt = ev at *
      have HA := hideS (And.intro hO (And.intro hnx (And.intro hb (And.intro bV nV))))
      clear hO hnx hb hx bV nV mV
      go_upto_region 5 with fail
      clear hV c0 c1 c2 c3
      have HLf : Hid (∀ wB : World, Below V.heap.size V wB → ((wB.setCell ⟨wq.heap.size, 0, none⟩ (.int .i64 bv)).setCell ⟨wq.heap.size, 1, none⟩ (.int .i64 ev)).heap[wq.heap.size]? = some (.cells #[.int .i64 bv, .int .i64 ev, .int .i64 x.kd, .int .i64 x.vl] 45) ∧ But (fun k => k = wq.heap.size) V ((wB.setCell ⟨wq.heap.size, 0, none⟩ (.int .i64 bv)).setCell ⟨wq.heap.size, 1, none⟩ (.int .i64 ev))) := hideS (fun wB hB => ⟨by have h9 := set_atS (set_atS ((hB.block wq.heap.size hPl).trans HA.out.2.2.2.2) 0 (.int .i64 bv)) 1 (.int .i64 ev); simpa using h9, ((But.grown (M := fun k => k = wq.heap.size) hB).setCell (p := ⟨wq.heap.size, 0, none⟩) rfl _).setCell (p := ⟨wq.heap.size, 1, none⟩) rfl _⟩)
      have hne : wq.heap.size ≠ w.heap.size := by omega
      go_cut [] (fun wx => wx.heap[wq.heap.size]? = some (.cells #[.int .i64 bv, .int .i64 ev, .int .i64 x.kd, .int .i64 x.vl] 45) ∧ But (fun k => k = wq.heap.size) V wx)
      case first =>
        refine wp_region_held_drew (S := fun w' => w'.cell? ⟨w.heap.size, 0, none⟩ = some (.int .i64 fr) ∧ w'.cell? ⟨w.heap.size, 1, none⟩ = some (.int .i64 tq) ∧ w'.cell? ⟨w.heap.size, 2, none⟩ = some (.int .i64 room)) (by kernel_rfl) ?_ (fun hHeld => ?_)
        · exact ⟨h0, h1, h2⟩
        refine wpAnyH_take (i := 0) (oi := ({ dst := some 15, op := Op.load 60 (Operand.tmp 2), type := 60, pos := "part.go:114", after := #[], guard := none } : Oper)) (v := .agg #[.int .i64 fr, .int .i64 tq, .int .i64 room]) rfl (by kernel_rfl) (by kernel_rfl) (by kernel_rfl) (fun _ _ _ h => h) (Or.inl ⟨by rfl, ?_⟩) (by assumption) ?_
        · intro w9 hSw
          try dsimp only at hSw
          go_simp
        try simp only [Act.put, List.setIfInBounds_toArray, List.set_cons_zero, List.set_cons_succ]
        refine wpAnyH_take (i := 1) (oi := ({ dst := some 16, op := Op.fieldAddr 45 (Operand.tmp 7) 0, type := 0, pos := "part.go:114", after := #[], guard := none } : Oper)) (v := .pointer (some ⟨wq.heap.size, 0, none⟩)) rfl (by kernel_rfl) (by kernel_rfl) (by kernel_rfl) (fun _ _ _ h => h) (Or.inl ⟨by rfl, ?_⟩) (by assumption) ?_
        · intro w9 hSw
          try dsimp only at hSw
          go_simp
        try simp only [Act.put, List.setIfInBounds_toArray, List.set_cons_zero, List.set_cons_succ]
        refine wpAnyH_take (i := 4) (oi := ({ dst := some 19, op := Op.load 60 (Operand.tmp 2), type := 60, pos := "part.go:114", after := #[], guard := none } : Oper)) (v := .agg #[.int .i64 fr, .int .i64 tq, .int .i64 room]) rfl (by kernel_rfl) (by kernel_rfl) (by kernel_rfl) (fun _ _ _ h => h) (Or.inl ⟨by rfl, ?_⟩) (by assumption) ?_
        · intro w9 hSw
          try dsimp only at hSw
          go_simp
        try simp only [Act.put, List.setIfInBounds_toArray, List.set_cons_zero, List.set_cons_succ]
        refine wpAnyH_take (i := 5) (oi := ({ dst := some 20, op := Op.fieldAddr 45 (Operand.tmp 7) 1, type := 0, pos := "part.go:114", after := #[], guard := none } : Oper)) (v := .pointer (some ⟨wq.heap.size, 1, none⟩)) rfl (by kernel_rfl) (by kernel_rfl) (by kernel_rfl) (fun _ _ _ h => h) (Or.inl ⟨by rfl, ?_⟩) (by assumption) ?_
        · intro w9 hSw
          try dsimp only at hSw
          go_simp
        try simp only [Act.put, List.setIfInBounds_toArray, List.set_cons_zero, List.set_cons_succ]
        refine wpAnyH_ready (rs := [2, 6]) (by kernel_rfl) (by simp) ?_
        refine AllReadyH.cons (o := ({ dst := some 17, op := Op.load 3 (Operand.tmp 16), type := 3, pos := "part.go:114", after := #[{ on := 1, ground := Ground.data }], guard := none } : Oper)) rfl (fun K hK => ?_) ?_
        · go_simp
          refine hK.out _ _ ?_ (fun hHeld => ?_)
          · assumption
          clear hK K
          try simp only [Act.put, List.setIfInBounds_toArray, List.set_cons_zero, List.set_cons_succ]
          refine wpAnyH_ready (rs := [3, 6]) (by kernel_rfl) (by simp) ?_
          refine AllReadyH.cons (o := ({ dst := some 18, op := Op.call { callee := Callee.value (Operand.func 36), args := #[Operand.tmp 15, Operand.tmp 17], argTypes := #[60, 3] }, type := 3, pos := "part.go:114", after := #[{ on := 0, ground := Ground.data }, { on := 2, ground := Ground.data }], guard := none } : Oper)) rfl (fun K hK => ?_) ?_
          · go_simp
            (with_reducible refine (Hbg.out _).mono ?_); rintro e wA ⟨rfl, bA⟩; have bA : Below V.heap.size V wA := (by first | exact ⟨bA.os, bA.tape, bA.output, bA.size, bA.block⟩ | exact bA); have kA1 : wA.cell? ⟨wq.heap.size, 1, none⟩ = some (.int .i64 x.tt) := (bA.cell (p := ⟨wq.heap.size, 1, none⟩) hPl).trans x1; have kA9 : wA.cell? ⟨w.heap.size, 0, none⟩ = some (.int .i64 fr) ∧ wA.cell? ⟨w.heap.size, 1, none⟩ = some (.int .i64 tq) ∧ wA.cell? ⟨w.heap.size, 2, none⟩ = some (.int .i64 room) := ⟨(bA.cell (p := ⟨w.heap.size, 0, none⟩) hwV).trans h0, (bA.cell (p := ⟨w.heap.size, 1, none⟩) hwV).trans h1, (bA.cell (p := ⟨w.heap.size, 2, none⟩) hwV).trans h2⟩; have HbA := hideS bA; clear bA
            go_wp2_with fail
            refine hK.out _ _ ?_ (fun hHeld => ?_)
            · exact kA9
            clear hK K
            try simp only [Act.put, List.setIfInBounds_toArray, List.set_cons_zero, List.set_cons_succ]
            refine wpAnyH_ready (rs := [6]) (by kernel_rfl) (by simp) ?_
            refine AllReadyH.cons (o := ({ dst := some 21, op := Op.load 3 (Operand.tmp 20), type := 3, pos := "part.go:114", after := #[{ on := 5, ground := Ground.data }], guard := none } : Oper)) rfl (fun K hK => ?_) ?_
            · go_simp
              refine hK.out _ _ ?_ (fun hHeld => ?_)
              · assumption
              clear hK K
              try simp only [Act.put, List.setIfInBounds_toArray, List.set_cons_zero, List.set_cons_succ]
              refine wpAnyH_take (i := 8) (oi := ({ dst := some 23, op := Op.fieldAddr 45 (Operand.tmp 7) 0, type := 0, pos := "part.go:114", after := #[{ on := 0, ground := Ground.phase }, { on := 1, ground := Ground.phase }, { on := 2, ground := Ground.phase }, { on := 3, ground := Ground.phase }, { on := 4, ground := Ground.textOnly Departure.lateStores }, { on := 5, ground := Ground.phase }, { on := 6, ground := Ground.phase }, { on := 7, ground := Ground.textOnly Departure.lateStoresUnsure }], guard := none } : Oper)) (v := .pointer (some ⟨wq.heap.size, 0, none⟩)) rfl (by kernel_rfl) (by kernel_rfl) (by kernel_rfl) (fun _ _ _ h => h) (Or.inl ⟨by rfl, ?_⟩) (by assumption) ?_
              · intro w9 hSw
                try dsimp only at hSw
                go_simp
              try simp only [Act.put, List.setIfInBounds_toArray, List.set_cons_zero, List.set_cons_succ]
              refine wpAnyH_ready (rs := [7]) (by kernel_rfl) (by simp) ?_
              refine AllReadyH.cons (o := ({ dst := some 22, op := Op.call { callee := Callee.value (Operand.func 37), args := #[Operand.tmp 19, Operand.tmp 21], argTypes := #[60, 3] }, type := 3, pos := "part.go:114", after := #[{ on := 4, ground := Ground.data }, { on := 6, ground := Ground.data }, { on := 3, ground := Ground.chain }], guard := none } : Oper)) rfl (fun K hK => ?_) ?_
              · go_simp
                (with_reducible refine (Hen.out _).mono ?_); rintro e wB ⟨rfl, bB⟩; have bB : Below V.heap.size V wB := bupS HbA.out bB; have nB := (bB.block wq.heap.size hPl).trans HA.out.2.2.2.2; have f0 : wB.frozen? ⟨wq.heap.size, 0, none⟩ = false := (by simp [World.frozen?, nB]); have f1 : wB.frozen? ⟨wq.heap.size, 1, none⟩ = false := (by simp [World.frozen?, nB]); have e0 : wB.cell? ⟨wq.heap.size, 0, none⟩ = some (.int .i64 x.fr) := (by simp [World.cell?, nB]); have e1 : wB.cell? ⟨wq.heap.size, 1, none⟩ = some (.int .i64 x.tt) := (by simp [World.cell?, nB]); have kB9 : wB.cell? ⟨w.heap.size, 0, none⟩ = some (.int .i64 fr) ∧ wB.cell? ⟨w.heap.size, 1, none⟩ = some (.int .i64 tq) ∧ wB.cell? ⟨w.heap.size, 2, none⟩ = some (.int .i64 room) := ⟨(bB.cell (p := ⟨w.heap.size, 0, none⟩) hwV).trans h0, (bB.cell (p := ⟨w.heap.size, 1, none⟩) hwV).trans h1, (bB.cell (p := ⟨w.heap.size, 2, none⟩) hwV).trans h2⟩; have HbB := hideS bB; clear bB nB
                go_wp2_with fail
                refine hK.out _ _ ?_ (fun hHeld => ?_)
                · exact kB9
                clear hK K
                try simp only [Act.put, List.setIfInBounds_toArray, List.set_cons_zero, List.set_cons_succ]
                refine wpAnyH_ready (rs := [9]) (by kernel_rfl) (by simp) ?_
                refine AllReadyH.cons (o := ({ dst := none, op := Op.store 3 (Operand.tmp 23) (Operand.tmp 18), type := 0, pos := "part.go:114", after := #[{ on := 8, ground := Ground.data }, { on := 3, ground := Ground.data }, { on := 7, ground := Ground.chain }, { on := 0, ground := Ground.phase }, { on := 1, ground := Ground.phase }, { on := 2, ground := Ground.phase }, { on := 3, ground := Ground.phase }, { on := 4, ground := Ground.textOnly Departure.lateStores }, { on := 5, ground := Ground.phase }, { on := 6, ground := Ground.phase }, { on := 7, ground := Ground.textOnly Departure.lateStoresUnsure }], guard := none } : Oper)) rfl (fun K hK => ?_) ?_
                · go_simp
                  refine hK.out _ _ ?_ (fun hHeld => ?_)
                  · simp [*, World.cell?_setCell_far]
                  clear hK K
                  try simp only [Act.put, List.setIfInBounds_toArray, List.set_cons_zero, List.set_cons_succ]
                  refine wpAnyH_take (i := 10) (oi := ({ dst := some 24, op := Op.fieldAddr 45 (Operand.tmp 7) 1, type := 0, pos := "part.go:114", after := #[{ on := 0, ground := Ground.phase }, { on := 1, ground := Ground.phase }, { on := 2, ground := Ground.phase }, { on := 3, ground := Ground.phase }, { on := 4, ground := Ground.phase }, { on := 5, ground := Ground.phase }, { on := 6, ground := Ground.phase }, { on := 7, ground := Ground.phase }, { on := 8, ground := Ground.phase }, { on := 9, ground := Ground.phase }], guard := none } : Oper)) (v := .pointer (some ⟨wq.heap.size, 1, none⟩)) rfl (by kernel_rfl) (by kernel_rfl) (by kernel_rfl) (fun _ _ _ h => h) (Or.inl ⟨by rfl, ?_⟩) (by assumption) ?_
                  · intro w9 hSw
                    try dsimp only at hSw
                    go_simp
                  try simp only [Act.put, List.setIfInBounds_toArray, List.set_cons_zero, List.set_cons_succ]
                  refine wpAnyH_ready (rs := [11]) (by kernel_rfl) (by simp) ?_
                  refine AllReadyH.cons (o := ({ dst := none, op := Op.store 3 (Operand.tmp 24) (Operand.tmp 22), type := 0, pos := "part.go:114", after := #[{ on := 10, ground := Ground.data }, { on := 7, ground := Ground.data }, { on := 9, ground := Ground.chain }, { on := 0, ground := Ground.phase }, { on := 1, ground := Ground.phase }, { on := 2, ground := Ground.phase }, { on := 3, ground := Ground.phase }, { on := 4, ground := Ground.phase }, { on := 5, ground := Ground.phase }, { on := 6, ground := Ground.phase }, { on := 7, ground := Ground.phase }, { on := 8, ground := Ground.phase }, { on := 9, ground := Ground.phase }], guard := none } : Oper)) rfl (fun K hK => ?_) ?_
                  · go_simp
                    refine hK.out _ _ ?_ (fun hHeld => ?_)
                    · simp [*, World.cell?_setCell_far]
                    clear hK K
                    try simp only [Act.put, List.setIfInBounds_toArray, List.set_cons_zero, List.set_cons_succ]
                    refine wpAnyH_done (by kernel_rfl) ?_ _
                    first | go_wp2_with fail | skip
                    go_meet
                    exact HLf.out wB HbB.out
                  exact AllReadyH.nil
                exact AllReadyH.nil
              exact AllReadyH.nil
            exact AllReadyH.nil
          refine AllReadyH.cons (o := ({ dst := some 21, op := Op.load 3 (Operand.tmp 20), type := 3, pos := "part.go:114", after := #[{ on := 5, ground := Ground.data }], guard := none } : Oper)) rfl (fun K hK => ?_) ?_
          · go_simp
            refine hK.out _ _ ?_ (fun hHeld => ?_)
            · assumption
            clear hK K
            try simp only [Act.put, List.setIfInBounds_toArray, List.set_cons_zero, List.set_cons_succ]
            refine wpAnyH_ready (rs := [3]) (by kernel_rfl) (by simp) ?_
            refine AllReadyH.cons (o := ({ dst := some 18, op := Op.call { callee := Callee.value (Operand.func 36), args := #[Operand.tmp 15, Operand.tmp 17], argTypes := #[60, 3] }, type := 3, pos := "part.go:114", after := #[{ on := 0, ground := Ground.data }, { on := 2, ground := Ground.data }], guard := none } : Oper)) rfl (fun K hK => ?_) ?_
            · go_simp
              (with_reducible refine (Hbg.out _).mono ?_); rintro e wA ⟨rfl, bA⟩; have bA : Below V.heap.size V wA := (by first | exact ⟨bA.os, bA.tape, bA.output, bA.size, bA.block⟩ | exact bA); have kA1 : wA.cell? ⟨wq.heap.size, 1, none⟩ = some (.int .i64 x.tt) := (bA.cell (p := ⟨wq.heap.size, 1, none⟩) hPl).trans x1; have kA9 : wA.cell? ⟨w.heap.size, 0, none⟩ = some (.int .i64 fr) ∧ wA.cell? ⟨w.heap.size, 1, none⟩ = some (.int .i64 tq) ∧ wA.cell? ⟨w.heap.size, 2, none⟩ = some (.int .i64 room) := ⟨(bA.cell (p := ⟨w.heap.size, 0, none⟩) hwV).trans h0, (bA.cell (p := ⟨w.heap.size, 1, none⟩) hwV).trans h1, (bA.cell (p := ⟨w.heap.size, 2, none⟩) hwV).trans h2⟩; have HbA := hideS bA; clear bA
              go_wp2_with fail
              refine hK.out _ _ ?_ (fun hHeld => ?_)
              · exact kA9
              clear hK K
              try simp only [Act.put, List.setIfInBounds_toArray, List.set_cons_zero, List.set_cons_succ]
              refine wpAnyH_take (i := 8) (oi := ({ dst := some 23, op := Op.fieldAddr 45 (Operand.tmp 7) 0, type := 0, pos := "part.go:114", after := #[{ on := 0, ground := Ground.phase }, { on := 1, ground := Ground.phase }, { on := 2, ground := Ground.phase }, { on := 3, ground := Ground.phase }, { on := 4, ground := Ground.textOnly Departure.lateStores }, { on := 5, ground := Ground.phase }, { on := 6, ground := Ground.phase }, { on := 7, ground := Ground.textOnly Departure.lateStoresUnsure }], guard := none } : Oper)) (v := .pointer (some ⟨wq.heap.size, 0, none⟩)) rfl (by kernel_rfl) (by kernel_rfl) (by kernel_rfl) (fun _ _ _ h => h) (Or.inl ⟨by rfl, ?_⟩) (by assumption) ?_
              · intro w9 hSw
                try dsimp only at hSw
                go_simp
              try simp only [Act.put, List.setIfInBounds_toArray, List.set_cons_zero, List.set_cons_succ]
              refine wpAnyH_ready (rs := [7]) (by kernel_rfl) (by simp) ?_
              refine AllReadyH.cons (o := ({ dst := some 22, op := Op.call { callee := Callee.value (Operand.func 37), args := #[Operand.tmp 19, Operand.tmp 21], argTypes := #[60, 3] }, type := 3, pos := "part.go:114", after := #[{ on := 4, ground := Ground.data }, { on := 6, ground := Ground.data }, { on := 3, ground := Ground.chain }], guard := none } : Oper)) rfl (fun K hK => ?_) ?_
              · go_simp
                (with_reducible refine (Hen.out _).mono ?_); rintro e wB ⟨rfl, bB⟩; have bB : Below V.heap.size V wB := bupS HbA.out bB; have nB := (bB.block wq.heap.size hPl).trans HA.out.2.2.2.2; have f0 : wB.frozen? ⟨wq.heap.size, 0, none⟩ = false := (by simp [World.frozen?, nB]); have f1 : wB.frozen? ⟨wq.heap.size, 1, none⟩ = false := (by simp [World.frozen?, nB]); have e0 : wB.cell? ⟨wq.heap.size, 0, none⟩ = some (.int .i64 x.fr) := (by simp [World.cell?, nB]); have e1 : wB.cell? ⟨wq.heap.size, 1, none⟩ = some (.int .i64 x.tt) := (by simp [World.cell?, nB]); have kB9 : wB.cell? ⟨w.heap.size, 0, none⟩ = some (.int .i64 fr) ∧ wB.cell? ⟨w.heap.size, 1, none⟩ = some (.int .i64 tq) ∧ wB.cell? ⟨w.heap.size, 2, none⟩ = some (.int .i64 room) := ⟨(bB.cell (p := ⟨w.heap.size, 0, none⟩) hwV).trans h0, (bB.cell (p := ⟨w.heap.size, 1, none⟩) hwV).trans h1, (bB.cell (p := ⟨w.heap.size, 2, none⟩) hwV).trans h2⟩; have HbB := hideS bB; clear bB nB
                go_wp2_with fail
                refine hK.out _ _ ?_ (fun hHeld => ?_)
                · exact kB9
                clear hK K
                try simp only [Act.put, List.setIfInBounds_toArray, List.set_cons_zero, List.set_cons_succ]
                refine wpAnyH_ready (rs := [9]) (by kernel_rfl) (by simp) ?_
                refine AllReadyH.cons (o := ({ dst := none, op := Op.store 3 (Operand.tmp 23) (Operand.tmp 18), type := 0, pos := "part.go:114", after := #[{ on := 8, ground := Ground.data }, { on := 3, ground := Ground.data }, { on := 7, ground := Ground.chain }, { on := 0, ground := Ground.phase }, { on := 1, ground := Ground.phase }, { on := 2, ground := Ground.phase }, { on := 3, ground := Ground.phase }, { on := 4, ground := Ground.textOnly Departure.lateStores }, { on := 5, ground := Ground.phase }, { on := 6, ground := Ground.phase }, { on := 7, ground := Ground.textOnly Departure.lateStoresUnsure }], guard := none } : Oper)) rfl (fun K hK => ?_) ?_
                · go_simp
                  refine hK.out _ _ ?_ (fun hHeld => ?_)
                  · simp [*, World.cell?_setCell_far]
                  clear hK K
                  try simp only [Act.put, List.setIfInBounds_toArray, List.set_cons_zero, List.set_cons_succ]
                  refine wpAnyH_take (i := 10) (oi := ({ dst := some 24, op := Op.fieldAddr 45 (Operand.tmp 7) 1, type := 0, pos := "part.go:114", after := #[{ on := 0, ground := Ground.phase }, { on := 1, ground := Ground.phase }, { on := 2, ground := Ground.phase }, { on := 3, ground := Ground.phase }, { on := 4, ground := Ground.phase }, { on := 5, ground := Ground.phase }, { on := 6, ground := Ground.phase }, { on := 7, ground := Ground.phase }, { on := 8, ground := Ground.phase }, { on := 9, ground := Ground.phase }], guard := none } : Oper)) (v := .pointer (some ⟨wq.heap.size, 1, none⟩)) rfl (by kernel_rfl) (by kernel_rfl) (by kernel_rfl) (fun _ _ _ h => h) (Or.inl ⟨by rfl, ?_⟩) (by assumption) ?_
                  · intro w9 hSw
                    try dsimp only at hSw
                    go_simp
                  try simp only [Act.put, List.setIfInBounds_toArray, List.set_cons_zero, List.set_cons_succ]
                  refine wpAnyH_ready (rs := [11]) (by kernel_rfl) (by simp) ?_
                  refine AllReadyH.cons (o := ({ dst := none, op := Op.store 3 (Operand.tmp 24) (Operand.tmp 22), type := 0, pos := "part.go:114", after := #[{ on := 10, ground := Ground.data }, { on := 7, ground := Ground.data }, { on := 9, ground := Ground.chain }, { on := 0, ground := Ground.phase }, { on := 1, ground := Ground.phase }, { on := 2, ground := Ground.phase }, { on := 3, ground := Ground.phase }, { on := 4, ground := Ground.phase }, { on := 5, ground := Ground.phase }, { on := 6, ground := Ground.phase }, { on := 7, ground := Ground.phase }, { on := 8, ground := Ground.phase }, { on := 9, ground := Ground.phase }], guard := none } : Oper)) rfl (fun K hK => ?_) ?_
                  · go_simp
                    refine hK.out _ _ ?_ (fun hHeld => ?_)
                    · simp [*, World.cell?_setCell_far]
                    clear hK K
                    try simp only [Act.put, List.setIfInBounds_toArray, List.set_cons_zero, List.set_cons_succ]
                    refine wpAnyH_done (by kernel_rfl) ?_ _
                    first | go_wp2_with fail | skip
                    go_meet
                    exact HLf.out wB HbB.out
                  exact AllReadyH.nil
                exact AllReadyH.nil
              exact AllReadyH.nil
            exact AllReadyH.nil
          exact AllReadyH.nil
        refine AllReadyH.cons (o := ({ dst := some 21, op := Op.load 3 (Operand.tmp 20), type := 3, pos := "part.go:114", after := #[{ on := 5, ground := Ground.data }], guard := none } : Oper)) rfl (fun K hK => ?_) ?_
        · go_simp
          refine hK.out _ _ ?_ (fun hHeld => ?_)
          · assumption
          clear hK K
          try simp only [Act.put, List.setIfInBounds_toArray, List.set_cons_zero, List.set_cons_succ]
          refine wpAnyH_ready (rs := [2]) (by kernel_rfl) (by simp) ?_
          refine AllReadyH.cons (o := ({ dst := some 17, op := Op.load 3 (Operand.tmp 16), type := 3, pos := "part.go:114", after := #[{ on := 1, ground := Ground.data }], guard := none } : Oper)) rfl (fun K hK => ?_) ?_
          · go_simp
            refine hK.out _ _ ?_ (fun hHeld => ?_)
            · assumption
            clear hK K
            try simp only [Act.put, List.setIfInBounds_toArray, List.set_cons_zero, List.set_cons_succ]
            refine wpAnyH_ready (rs := [3]) (by kernel_rfl) (by simp) ?_
            refine AllReadyH.cons (o := ({ dst := some 18, op := Op.call { callee := Callee.value (Operand.func 36), args := #[Operand.tmp 15, Operand.tmp 17], argTypes := #[60, 3] }, type := 3, pos := "part.go:114", after := #[{ on := 0, ground := Ground.data }, { on := 2, ground := Ground.data }], guard := none } : Oper)) rfl (fun K hK => ?_) ?_
            · go_simp
              (with_reducible refine (Hbg.out _).mono ?_); rintro e wA ⟨rfl, bA⟩; have bA : Below V.heap.size V wA := (by first | exact ⟨bA.os, bA.tape, bA.output, bA.size, bA.block⟩ | exact bA); have kA1 : wA.cell? ⟨wq.heap.size, 1, none⟩ = some (.int .i64 x.tt) := (bA.cell (p := ⟨wq.heap.size, 1, none⟩) hPl).trans x1; have kA9 : wA.cell? ⟨w.heap.size, 0, none⟩ = some (.int .i64 fr) ∧ wA.cell? ⟨w.heap.size, 1, none⟩ = some (.int .i64 tq) ∧ wA.cell? ⟨w.heap.size, 2, none⟩ = some (.int .i64 room) := ⟨(bA.cell (p := ⟨w.heap.size, 0, none⟩) hwV).trans h0, (bA.cell (p := ⟨w.heap.size, 1, none⟩) hwV).trans h1, (bA.cell (p := ⟨w.heap.size, 2, none⟩) hwV).trans h2⟩; have HbA := hideS bA; clear bA
              go_wp2_with fail
              refine hK.out _ _ ?_ (fun hHeld => ?_)
              · exact kA9
              clear hK K
              try simp only [Act.put, List.setIfInBounds_toArray, List.set_cons_zero, List.set_cons_succ]
              refine wpAnyH_take (i := 8) (oi := ({ dst := some 23, op := Op.fieldAddr 45 (Operand.tmp 7) 0, type := 0, pos := "part.go:114", after := #[{ on := 0, ground := Ground.phase }, { on := 1, ground := Ground.phase }, { on := 2, ground := Ground.phase }, { on := 3, ground := Ground.phase }, { on := 4, ground := Ground.textOnly Departure.lateStores }, { on := 5, ground := Ground.phase }, { on := 6, ground := Ground.phase }, { on := 7, ground := Ground.textOnly Departure.lateStoresUnsure }], guard := none } : Oper)) (v := .pointer (some ⟨wq.heap.size, 0, none⟩)) rfl (by kernel_rfl) (by kernel_rfl) (by kernel_rfl) (fun _ _ _ h => h) (Or.inl ⟨by rfl, ?_⟩) (by assumption) ?_
              · intro w9 hSw
                try dsimp only at hSw
                go_simp
              try simp only [Act.put, List.setIfInBounds_toArray, List.set_cons_zero, List.set_cons_succ]
              refine wpAnyH_ready (rs := [7]) (by kernel_rfl) (by simp) ?_
              refine AllReadyH.cons (o := ({ dst := some 22, op := Op.call { callee := Callee.value (Operand.func 37), args := #[Operand.tmp 19, Operand.tmp 21], argTypes := #[60, 3] }, type := 3, pos := "part.go:114", after := #[{ on := 4, ground := Ground.data }, { on := 6, ground := Ground.data }, { on := 3, ground := Ground.chain }], guard := none } : Oper)) rfl (fun K hK => ?_) ?_
              · go_simp
                (with_reducible refine (Hen.out _).mono ?_); rintro e wB ⟨rfl, bB⟩; have bB : Below V.heap.size V wB := bupS HbA.out bB; have nB := (bB.block wq.heap.size hPl).trans HA.out.2.2.2.2; have f0 : wB.frozen? ⟨wq.heap.size, 0, none⟩ = false := (by simp [World.frozen?, nB]); have f1 : wB.frozen? ⟨wq.heap.size, 1, none⟩ = false := (by simp [World.frozen?, nB]); have e0 : wB.cell? ⟨wq.heap.size, 0, none⟩ = some (.int .i64 x.fr) := (by simp [World.cell?, nB]); have e1 : wB.cell? ⟨wq.heap.size, 1, none⟩ = some (.int .i64 x.tt) := (by simp [World.cell?, nB]); have kB9 : wB.cell? ⟨w.heap.size, 0, none⟩ = some (.int .i64 fr) ∧ wB.cell? ⟨w.heap.size, 1, none⟩ = some (.int .i64 tq) ∧ wB.cell? ⟨w.heap.size, 2, none⟩ = some (.int .i64 room) := ⟨(bB.cell (p := ⟨w.heap.size, 0, none⟩) hwV).trans h0, (bB.cell (p := ⟨w.heap.size, 1, none⟩) hwV).trans h1, (bB.cell (p := ⟨w.heap.size, 2, none⟩) hwV).trans h2⟩; have HbB := hideS bB; clear bB nB
                go_wp2_with fail
                refine hK.out _ _ ?_ (fun hHeld => ?_)
                · exact kB9
                clear hK K
                try simp only [Act.put, List.setIfInBounds_toArray, List.set_cons_zero, List.set_cons_succ]
                refine wpAnyH_ready (rs := [9]) (by kernel_rfl) (by simp) ?_
                refine AllReadyH.cons (o := ({ dst := none, op := Op.store 3 (Operand.tmp 23) (Operand.tmp 18), type := 0, pos := "part.go:114", after := #[{ on := 8, ground := Ground.data }, { on := 3, ground := Ground.data }, { on := 7, ground := Ground.chain }, { on := 0, ground := Ground.phase }, { on := 1, ground := Ground.phase }, { on := 2, ground := Ground.phase }, { on := 3, ground := Ground.phase }, { on := 4, ground := Ground.textOnly Departure.lateStores }, { on := 5, ground := Ground.phase }, { on := 6, ground := Ground.phase }, { on := 7, ground := Ground.textOnly Departure.lateStoresUnsure }], guard := none } : Oper)) rfl (fun K hK => ?_) ?_
                · go_simp
                  refine hK.out _ _ ?_ (fun hHeld => ?_)
                  · simp [*, World.cell?_setCell_far]
                  clear hK K
                  try simp only [Act.put, List.setIfInBounds_toArray, List.set_cons_zero, List.set_cons_succ]
                  refine wpAnyH_take (i := 10) (oi := ({ dst := some 24, op := Op.fieldAddr 45 (Operand.tmp 7) 1, type := 0, pos := "part.go:114", after := #[{ on := 0, ground := Ground.phase }, { on := 1, ground := Ground.phase }, { on := 2, ground := Ground.phase }, { on := 3, ground := Ground.phase }, { on := 4, ground := Ground.phase }, { on := 5, ground := Ground.phase }, { on := 6, ground := Ground.phase }, { on := 7, ground := Ground.phase }, { on := 8, ground := Ground.phase }, { on := 9, ground := Ground.phase }], guard := none } : Oper)) (v := .pointer (some ⟨wq.heap.size, 1, none⟩)) rfl (by kernel_rfl) (by kernel_rfl) (by kernel_rfl) (fun _ _ _ h => h) (Or.inl ⟨by rfl, ?_⟩) (by assumption) ?_
                  · intro w9 hSw
                    try dsimp only at hSw
                    go_simp
                  try simp only [Act.put, List.setIfInBounds_toArray, List.set_cons_zero, List.set_cons_succ]
                  refine wpAnyH_ready (rs := [11]) (by kernel_rfl) (by simp) ?_
                  refine AllReadyH.cons (o := ({ dst := none, op := Op.store 3 (Operand.tmp 24) (Operand.tmp 22), type := 0, pos := "part.go:114", after := #[{ on := 10, ground := Ground.data }, { on := 7, ground := Ground.data }, { on := 9, ground := Ground.chain }, { on := 0, ground := Ground.phase }, { on := 1, ground := Ground.phase }, { on := 2, ground := Ground.phase }, { on := 3, ground := Ground.phase }, { on := 4, ground := Ground.phase }, { on := 5, ground := Ground.phase }, { on := 6, ground := Ground.phase }, { on := 7, ground := Ground.phase }, { on := 8, ground := Ground.phase }, { on := 9, ground := Ground.phase }], guard := none } : Oper)) rfl (fun K hK => ?_) ?_
                  · go_simp
                    refine hK.out _ _ ?_ (fun hHeld => ?_)
                    · simp [*, World.cell?_setCell_far]
                    clear hK K
                    try simp only [Act.put, List.setIfInBounds_toArray, List.set_cons_zero, List.set_cons_succ]
                    refine wpAnyH_done (by kernel_rfl) ?_ _
                    first | go_wp2_with fail | skip
                    go_meet
                    exact HLf.out wB HbB.out
                  exact AllReadyH.nil
                exact AllReadyH.nil
              exact AllReadyH.nil
            exact AllReadyH.nil
          exact AllReadyH.nil
        exact AllReadyH.nil
      case rest =>
        obtain ⟨nc, bc⟩ := hcut
        have s0 : wc.cell? ⟨wq.heap.size, 0, none⟩ = some (.int .i64 bv) := by simp [World.cell?, nc]
        have s1 : wc.cell? ⟨wq.heap.size, 1, none⟩ = some (.int .i64 ev) := by simp [World.cell?, nc]
        have s2 : wc.cell? ⟨wq.heap.size, 2, none⟩ = some (.int .i64 x.kd) := by simp [World.cell?, nc]
        have s3 : wc.cell? ⟨wq.heap.size, 3, none⟩ = some (.int .i64 x.vl) := by simp [World.cell?, nc]
        have bq : Below wq.heap.size wq wc := HA.out.2.2.2.1.trans (bc.below (by omega) (fun k e => by omega))
        have hbx : Below w1.heap.size w1 wc := HA.out.2.2.1.trans (bq.mono HA.out.2.2.1.size)
        have sx := hbx.size
        have HGx := hideS (own_keepS HA.out.1 bq)
        have HBx := hideS hbx
        clear bq hbx nc bc h0 h1 h2 x0 x1 Hbg Hen HLf
        by_cases hbe : bv < ev
        · go_wp2_with (at_builtin; refine wpList_append_own _ rfl _ _ 22 rfl w1.heap.size 45 i0 (.agg #[.int .i64 0, .int .i64 0, .int .i64 0, .int .i64 0]) 4 32 Tryd.underlying22 hi hz0 hz1 hz2 rfl (by decide) _ _ _ rfl (HGx.out.alloc _) ⟨wc.heap.size, 0, none⟩ 1 1 [.int .i64 bv, .int .i64 ev, .int .i64 x.kd, .int .i64 x.vl] rfl rfl (cell_fourS _ _ _ _ _ _) (fun u hu => by simp at hu; rcases hu with rfl | rfl | rfl | rfl <;> rfl) (by unfold maxLen; omega) (by omega) (by simp; omega) ?_; intro v' w3 hown' hgrow _)
          have hB3 := Below.grown (HBx.out.alloc sx (.cells #[.int .i64 bv, .int .i64 ev, .int .i64 x.kd, .int .i64 x.vl] 45)) hgrow (by simp; omega) (fun j hj => (HGx.out.lt j hj).1)
          go_roundw
          case rel =>
            have e9 := HA.out.2.1
            rw [if_pos hbe] at e9
            refine ⟨i + 1, by first | rfl | simp, by omega, ?_, ?_, hB3⟩
            · rw [e9, List.length_append]
              simp
              omega
            · rw [e9, List.length_append, flat4_snoc]
              exact hown'
          case measure => simp [intOf]; omega
        · go_wp2_with fail
          go_roundw
          case rel =>
            have e9 := HA.out.2.1
            rw [if_neg (by omega), List.append_nil] at e9
            refine ⟨i + 1, by first | rfl | simp, by omega, ?_, ?_, HBx.out⟩
            · rw [e9]
              omega
            · rw [e9]
              exact HGx.out
          case measure => simp [intOf]; omega
    · have d1 : ¬ (i : Int) < (N : Int) := by omega
      rw [List.take_of_length_le (by rw [HN.out]; omega)] at hO
      have HA := hideS (And.intro hO hb)
      clear hO hb
      go_wp2_with fail
      rw [HPO.out]
      exact ⟨_, rfl, own_fromS HA.out.1 HB1.out.1.size, HB1.out.1.trans (HA.out.2.mono HB1.out.1.size)⟩
end Go.Proofs.YtbiodfeanngkdaaDoor

/- style.moved; slices.Grow, slices.Concat of two rows of spans (chapter 7). -/
namespace Go.Proofs.YtbiodfeanngkdaaDoor
open Go.RowKit Go.Shelf
attribute [local go_sem] Oper.semAt_some

/-- A span, by as many signs behind. -/
def mvS (by_ : Int) (x : Sp) : Sp := ⟨IntKind.i64.wrap (x.fr + by_), IntKind.i64.wrap (x.tt + by_), x.kd, x.vl⟩
theorem own_setS {W : World} {base g n cap : Nat} {e : TypeId} {size : Nat} {xs : List Value} (h : W.ownsRow base e size (.slice (some ⟨g, 0, none⟩) n cap) n xs) (i : Nat) (v : Value) : (W.setCell ⟨g, i, none⟩ v).ownsRow base e size (.slice (some ⟨g, 0, none⟩) n cap) n (xs.set i v) := by
  refine ⟨by rw [List.length_set]; exact h.1, ?_⟩
  rcases h.2 with ⟨e0, _⟩ | ⟨g2, cap2, cur, e0, hb, hg, hcn, hcm, hs, h4⟩
  · simp at e0
  · obtain ⟨rfl, rfl⟩ : g = g2 ∧ cap = cap2 := by simpa using e0
    refine .inr ⟨g, cap, cur.setIfInBounds i v, rfl, hb, set_atS hg i v, hcn, hcm, by rw [Array.size_setIfInBounds]; exact hs, ?_⟩
    rw [Array.toList_setIfInBounds, List.take_set, h4]
theorem own_cellsS {W : World} {base g n cap : Nat} {e : TypeId} {size : Nat} {xs : List Value} (h : W.ownsRow base e size (.slice (some ⟨g, 0, none⟩) n cap) n xs) (i : Nat) (v : Value) (hv : xs[i]? = some v) : W.cell? ⟨g, i, none⟩ = some v ∧ W.frozen? ⟨g, i, none⟩ = false ∧ g < W.heap.size ∧ base ≤ g := by
  rcases h.2 with ⟨e0, _⟩ | ⟨g2, cap2, cur, e0, hb, hg, hcn, hcm, hs, h4⟩
  · simp at e0
  · obtain ⟨rfl, rfl⟩ : g = g2 ∧ cap = cap2 := by simpa using e0
    have hi := (List.getElem?_eq_some_iff.1 hv).1
    rw [h.1] at hi
    rw [← h4, List.getElem?_take, if_pos hi, Array.getElem?_toList] at hv
    have hgl := (Array.getElem?_eq_some_iff.1 hg).1
    exact ⟨by simp [World.cell?, hg, hv], by simp [World.frozen?, hg], hgl, hb⟩
theorem flat4_set (A B : List Sp) (x y : Sp) (m : Nat) (hm : A.length = m) (h1 : y.kd = x.kd) (h2 : y.vl = x.vl) : ((flat4 (A ++ x :: B)).set (m * 4) (.int .i64 y.fr)).set (m * 4 + 1) (.int .i64 y.tt) = flat4 (A ++ y :: B) := by
  have e : ∀ z : Sp, flat4 (A ++ z :: B) = flat4 A ++ ([.int .i64 z.fr, .int .i64 z.tt, .int .i64 z.kd, .int .i64 z.vl] ++ flat4 B) := fun z => by simp [flat4]
  rw [e, e, List.set_append_right _ _ (by rw [flat4_len, hm]; omega), flat4_len, hm, Nat.sub_self, List.set_append_right _ _ (by rw [flat4_len, hm]; omega), flat4_len, hm, show m * 4 + 1 - m * 4 = 1 by omega]
  simp [h1, h2]
set_option maxRecDepth 100000 in
set_option maxHeartbeats 2000000 in
theorem moved_any (D : List Sp) (oa : Option Addr) (cap : Nat) (by_ : Int) (hl : D.length ≤ 5000) (hn : oa = none → D = [] ∧ cap = 0) (w : World) (hR : SpO w oa D) :
    Calls Tryd.prog 24 #[.slice oa D.length cap, .int .i64 by_] w fun e w' => ∃ v, e = .returned v ∧ w'.ownsRow w.heap.size 45 4 v D.length (flat4 (D.map (mvS by_))) ∧ Below w.heap.size w w' := by
  have HC := hideS (spclone_any D oa cap (by omega) hn w hR)
  clear hR hn
  obtain ⟨N, hN⟩ : ∃ N, D.length = N := ⟨_, rfl⟩
  have HN := hideS hN
  rw [hN] at HC hl ⊢
  obtain ⟨PO, hPO⟩ : ∃ PO : Ending → World → Prop, PO = fun e w' => ∃ v, e = .returned v ∧ w'.ownsRow w.heap.size 45 4 v N (flat4 (D.map (mvS by_))) ∧ Below w.heap.size w w' := ⟨_, rfl⟩
  rw [← hPO]
  have HPO := hideS hPO
  clear hN hPO
  go_enter Tryd.func24, Tryd.ntmps24
  go_wp2_with fail
  refine HC.out.mono ?_
  rintro e w1 ⟨v, rfl, own, b1⟩
  obtain ⟨o, c, rfl⟩ : ∃ o c, v = .slice o N c := by
    rcases own.2 with ⟨e0, e1⟩ | ⟨g, cp, cur, e0, _⟩
    · exact ⟨_, _, by rw [e0, e1]⟩
    · exact ⟨_, _, e0⟩
  have H1 := hideS (And.intro own b1)
  clear own b1 HC
  go_wp2_with fail
  go_loopw [11] (fun iv wq => ∃ i : Nat, iv = .int .i64 (i : Nat) ∧ i ≤ N ∧ wq.ownsRow w.heap.size 45 4 (.slice o N c) N (flat4 ((D.take i).map (mvS by_) ++ D.drop i)) ∧ Below w.heap.size w wq) (fun iv _ => N - (intOf iv).toNat)
  case atStart => exact ⟨0, rfl, Nat.zero_le _, by simpa using H1.out.1, H1.out.2⟩
  case round =>
    obtain ⟨i, rfl, hiN, hO, hb⟩ := hrel
    clear H1
    obtain ⟨wq, rfl⟩ : ∃ wq, wq = wr := ⟨_, rfl⟩
    by_cases hlt : i < N
    · obtain ⟨x, hx⟩ : ∃ x, D[i]? = some x := ⟨_, List.getElem?_eq_getElem (by rw [HN.out]; exact hlt)⟩
      have hdr : D.drop i = x :: D.drop (i + 1) := by rw [← (List.getElem?_eq_some_iff.1 hx).2]; exact List.drop_eq_getElem_cons (by rw [HN.out]; exact hlt)
      rw [hdr] at hO
      have hAl : ((D.take i).map (mvS by_)).length = i := by rw [List.length_map, List.length_take, HN.out]; omega
      have hat : ((D.take i).map (mvS by_) ++ x :: D.drop (i + 1))[i]? = some x := by rw [List.getElem?_append_right (by omega), hAl, Nat.sub_self]; rfl
      obtain ⟨g, rfl⟩ : ∃ g, o = some ⟨g, 0, none⟩ := by
        rcases hO.2 with ⟨e0, e1⟩ | ⟨g, cp, cur, e0, _⟩
        · omega
        · exact ⟨g, by simp at e0; exact e0.1⟩
      obtain ⟨k0, k1, _, _⟩ := flat4_at _ i x hat
      obtain ⟨c0, f0, hg, hgb⟩ := own_cellsS hO _ _ k0
      obtain ⟨c1, f1, _, _⟩ := own_cellsS hO _ _ k1
      have hN1 := flat4_set ((D.take i).map (mvS by_)) (D.drop (i + 1)) x (mvS by_ x) i hAl rfl rfl
      have hnx : (D.take (i + 1)).map (mvS by_) ++ D.drop (i + 1) = (D.take i).map (mvS by_) ++ mvS by_ x :: D.drop (i + 1) := by rw [List.take_add_one, hx, List.map_append]; simp
      rw [← hnx] at hN1
      change ((flat4 ((D.take i).map (mvS by_) ++ x :: D.drop (i + 1))).set (i * 4) (.int .i64 (IntKind.i64.wrap (x.fr + by_)))).set (i * 4 + 1) (.int .i64 (IntKind.i64.wrap (x.tt + by_))) = _ at hN1
      obtain ⟨v0, hv0⟩ : ∃ v0, IntKind.i64.wrap (x.fr + by_) = v0 := ⟨_, rfl⟩
      obtain ⟨v1, hv1⟩ : ∃ v1, IntKind.i64.wrap (x.tt + by_) = v1 := ⟨_, rfl⟩
      rw [hv0, hv1] at hN1
      have hcn : N ≤ c := by
        rcases hO.2 with ⟨e0, e1⟩ | ⟨g2, cp, cur, e0, _, _, h3, _⟩
        · omega
        · simp at e0; omega
      have d1 : (i : Int) < (N : Int) := by omega
      have wi : IntKind.i64.wrap ((i : Int) + 1) = ((i + 1 : Nat) : Int) := by rw [show ((i + 1 : Nat) : Int) = (i : Int) + 1 by omega]; exact IntWalk.i64_in _ ⟨by omega, by omega⟩
      have HA := hideS (And.intro hO (And.intro hb (And.intro hN1 hgb)))
      clear hO hb hN1 hnx hdr hx hat k0 k1 hAl
      go_wp2_with fail
      go_roundw
      case rel =>
        refine ⟨i + 1, by first | rfl | simp, by omega, ?_, (HA.out.2.1.setCell (p := ⟨g, i * 4, none⟩) HA.out.2.2.2 _).setCell (p := ⟨g, i * 4 + 1, none⟩) HA.out.2.2.2 _⟩
        have h9 := own_setS (own_setS HA.out.1 (i * 4) (.int .i64 v0)) (i * 4 + 1) (.int .i64 v1)
        rw [HA.out.2.2.1] at h9
        exact h9
      case measure => simp [intOf]; omega
    · have d1 : ¬ (i : Int) < (N : Int) := by omega
      obtain rfl : i = N := by omega
      rw [List.take_of_length_le (by rw [HN.out]; exact Nat.le_refl _), List.drop_eq_nil_of_le (by rw [HN.out]; exact Nat.le_refl _), List.append_nil] at hO
      have HA := hideS (And.intro hO hb)
      clear hO hb
      go_wp2_with fail
      rw [HPO.out]
      exact ⟨_, rfl, HA.out.1, HA.out.2⟩
set_option maxRecDepth 100000 in
set_option maxHeartbeats 2000000 in
theorem spgrow_zero (w : World) : Calls Tryd.prog 35 #[.slice none 0 0, .int .i64 0] w fun e w' => e = .returned (.slice none 0 0) ∧ w' = w := by
  go_enter Tryd.func35, Tryd.ntmps35
  go_wp2_with fail
  go_ret
  exact ⟨rfl, rfl⟩
theorem wpList_append_run {P : Program} {w : World} {ops : Array Oper} {rest : List Oper} {o : Oper} {a : Act} {Q : Exit → Act → World → Prop} (hgd : o.guard = none) (s x : Operand) (t tn : TypeId)
    (ho : o.op = .call { callee := .builtin .append, args := #[s, x], argTypes := #[t, tn] }) (v u r : Value) (w' : World) (hs : a.eval s = v) (hx : a.eval x = u) (hrun : (Builtin.append_ #[t, tn] o.type #[v, u]).run P w = .ok r w')
    (h : wpList P ops Q rest (a.put o.dst r) w') : wpList P ops Q (o :: rest) a w := by
  refine wpList_plain hgd fun K hK => ?_
  unfold Oper.wp
  simp [execOp, ho, resolve, invoke, builtin, hs, hx, hrun, Result.andThen]
  exact hK _ _ h
set_option maxRecDepth 100000 in
set_option maxHeartbeats 2000000 in
theorem spgrow_some (n : Nat) (h0 : 0 < n) (hn : n ≤ 1048576) (w : World) : Calls Tryd.prog 35 #[.slice none 0 0, .int .i64 n] w fun e w' => ∃ v, e = .returned v ∧ w'.ownsRow w.heap.size 45 4 v 0 [] ∧ Below w.heap.size w w' := by
  obtain ⟨i0, hi, hz0, hz1, hz2⟩ := info_parts infoSp
  have hrz : ∀ ty, (Builtin.append_ #[22, 3] ty #[.slice none 0 0, .int .i64 n]).run Tryd.prog w = _ := fun ty =>
    Lib.run_append_grow_zeros w 22 3 ty 45 i0 _ .i64 .i64 Tryd.underlying22 Tryd.underlying3 hi hz0 none 0 0 [] (run_firstCells_none w.drew i0.size 0 0 0) n h0 (by rw [hz1]; decide) (by omega) (by omega) (by rw [hz2]; omega) (growslice_fits (by omega) (by rw [hz2]; omega))
  have hG : 0 + n ≤ grownCap w (0 + n) 0 45 := grownCap_ge w _ _ _
  have hG2 : grownCap w (0 + n) 0 45 ≤ maxLen := grownCap_le_maxLen w _ _ _ (by unfold maxLen; omega)
  obtain ⟨G, hGd⟩ : ∃ G, grownCap w (0 + n) 0 45 = G := ⟨_, rfl⟩
  rw [hGd] at hrz hG hG2
  obtain ⟨cs, hcs⟩ : ∃ cs, (([] : List Value).toArray ++ Builtin.zeroCells (Value.agg #[.int .i64 0, .int .i64 0, .int .i64 0, .int .i64 0]).cells n ++ Builtin.zeroCells (Value.agg #[.int .i64 0, .int .i64 0, .int .i64 0, .int .i64 0]).cells (G - (0 + n))) = cs := ⟨_, rfl⟩
  rw [hcs] at hrz
  have hsz : cs.size = G * 4 := by
    rw [← hcs]
    simp [Builtin.zeroCells, Value.cells]
    omega
  rw [Nat.zero_add] at hrz hG
  have own : (w.drew.alloc (.cells cs 45)).ownsRow w.heap.size 45 4 (.slice (some ⟨w.heap.size, 0, none⟩) 0 G) 0 [] :=
    ⟨rfl, .inr ⟨w.heap.size, G, cs, rfl, Nat.le_refl _, World.alloc_heap_new w.drew _, Nat.zero_le _, hG2, hsz, by simp⟩⟩
  have HF := hideS (And.intro own ((Below.refl w.heap.size w).drew.alloc (Nat.le_refl _) (.cells cs 45)))
  clear own hsz hcs hGd
  have d1 : ¬ ((n : Int) < 0) := by omega
  have d2 : (0 : Int) < (n : Int) := by omega
  have d3 : IntKind.i64.wrap (n : Int) = (n : Int) := IntWalk.i64_in _ ⟨by omega, by omega⟩
  have d4 : (n : Int) ≤ (G : Int) := by omega
  obtain ⟨PO, hPO⟩ : ∃ PO : Ending → World → Prop, PO = fun e w' => ∃ v, e = .returned v ∧ w'.ownsRow w.heap.size 45 4 v 0 [] ∧ Below w.heap.size w w' := ⟨_, rfl⟩
  rw [← hPO]
  have HPO := hideS hPO
  clear hPO
  go_enter Tryd.func35, Tryd.ntmps35
  have HRz := hideS hrz
  clear hrz
  go_wp2_with (at_builtin; refine wpList_append_run rfl _ _ 22 3 rfl _ _ _ _ rfl rfl (HRz.out _) ?_)
  rw [HPO.out]
  exact ⟨_, rfl, HF.out.1, HF.out.2⟩
theorem spgrow_any (n : Nat) (hn : n ≤ 1048576) (w : World) : Calls Tryd.prog 35 #[.slice none 0 0, .int .i64 n] w fun e w' => ∃ v, e = .returned v ∧ w'.ownsRow w.heap.size 45 4 v 0 [] ∧ Below w.heap.size w w' := by
  cases n with
  | zero =>
    refine (spgrow_zero w).mono ?_
    rintro e w' ⟨rfl, rfl⟩
    exact ⟨_, rfl, World.ownsRow_nil _ _ _ _, Below.refl _ _⟩
  | succ n => exact spgrow_some (n + 1) (by omega) hn w
end Go.Proofs.YtbiodfeanngkdaaDoor

/- slices.Concat of two rows of spans (chapter 7). -/
namespace Go.Proofs.YtbiodfeanngkdaaDoor
open Go.RowKit Go.Shelf
attribute [local go_sem] Oper.semAt_some

theorem flat4_append (A B : List Sp) : flat4 (A ++ B) = flat4 A ++ flat4 B := by simp [flat4]
/-- A row of one's own, and what it takes on. -/
theorem own_flat {W : World} {base n : Nat} {v : Value} {Q : List Sp} (h : W.ownsRow base 45 4 v n (flat4 Q)) (hn : Q.length = n) : ∃ o cap, v = .slice o n cap ∧ (n ≤ cap ∧ cap ≤ maxLen) ∧ (o = none → Q = [] ∧ cap = 0) ∧ SpO W o Q := by
  obtain ⟨o, cap, rfl, hc, h0, hs, hq⟩ := own_sc h hn
  refine ⟨o, cap, rfl, hc, fun e => ⟨hq e, h0 e⟩, ?_⟩
  cases o with
  | none => rw [hq rfl]; exact SpO.nil _ _
  | some a =>
    obtain ⟨g, rfl, _, hS⟩ := hs a rfl
    exact hS.spo
set_option maxRecDepth 100000 in
set_option maxHeartbeats 4000000 in
theorem concat_any (A B : List Sp) (oa ob : Option Addr) (ca cb G : Nat) (hA : A.length ≤ 5000) (hB : B.length ≤ 5000) (hna : oa = none → A = [] ∧ ca = 0) (hnb : ob = none → B = [] ∧ cb = 0) (w : World) (hRa : SpO w oa A) (hRb : SpO w ob B)
    (g0 : w.cell? ⟨G, 0, none⟩ = some (.slice oa A.length ca)) (g1 : w.cell? ⟨G, 1, none⟩ = some (.slice ob B.length cb)) (hG : G < w.heap.size) :
    Calls Tryd.prog 22 #[.slice (some ⟨G, 0, none⟩) 2 2] w fun e w' => ∃ v, e = .returned v ∧ w'.ownsRow w.heap.size 45 4 v (A ++ B).length (flat4 (A ++ B)) ∧ Below w.heap.size w w' := by
  obtain ⟨i0, hi, hz0, hz1, hz2⟩ := info_parts infoSp
  obtain ⟨NA, hNA⟩ : ∃ NA, A.length = NA := ⟨_, rfl⟩
  obtain ⟨NB, hNB⟩ : ∃ NB, B.length = NB := ⟨_, rfl⟩
  have HR := hideS (And.intro (And.intro hRa hRb) (And.intro (And.intro hna hnb) (And.intro hNA hNB)))
  rw [hNA] at g0 hA
  rw [hNB] at g1 hB
  obtain ⟨M, hM⟩ : ∃ M, NA + NB = M := ⟨_, rfl⟩
  rw [List.length_append, hNA, hNB, hM]
  have H0 := hideS (And.intro g0 g1)
  obtain ⟨PO, hPO⟩ : ∃ PO : Ending → World → Prop, PO = fun e w' => ∃ v, e = .returned v ∧ w'.ownsRow w.heap.size 45 4 v M (flat4 (A ++ B)) ∧ Below w.heap.size w w' := ⟨_, rfl⟩
  rw [← hPO]
  have HPO := hideS hPO
  clear hRa hRb hna hnb hNA hNB hPO g0 g1
  have w1 : IntKind.i64.wrap (NA : Int) = (NA : Int) := IntWalk.i64_in _ ⟨by omega, by omega⟩
  have w2 : (NA : Int) + (NB : Int) = (M : Int) := by omega
  have w5 : IntKind.i64.wrap (M : Int) = (M : Int) := IntWalk.i64_in _ ⟨by omega, by omega⟩
  have HM := hideS hM
  have hM5 : M ≤ 10000 := by omega
  clear hM
  have w3 : ¬ (NA : Int) < 0 := by omega
  have w4 : ¬ (M : Int) < 0 := by omega
  go_enter Tryd.func22, Tryd.ntmps22
  go_wp2_with fail
  go_loopw [3, 11] (fun sv iv wq => wq = w ∧ ((iv = .int .i64 0 ∧ sv = .int .i64 0) ∨ (iv = .int .i64 1 ∧ sv = .int .i64 (NA : Nat)) ∨ (iv = .int .i64 2 ∧ sv = .int .i64 (M : Nat)))) (fun _ iv _ => 2 - (intOf iv).toNat)
  case atStart => exact ⟨rfl, .inl ⟨rfl, rfl⟩⟩
  case round =>
    obtain ⟨rfl, ⟨rfl, rfl⟩ | ⟨rfl, rfl⟩ | ⟨rfl, rfl⟩⟩ := hrel
    · obtain ⟨g0, g1⟩ := H0.out
      go_wp2_with fail
      go_roundw
      case rel => exact ⟨by first | rfl | trivial, .inr (.inl ⟨by first | rfl | simp | trivial, by first | rfl | simp | trivial⟩)⟩
      case measure => decide
    · obtain ⟨g0, g1⟩ := H0.out
      go_wp2_with fail
      go_roundw
      case rel => exact ⟨by first | rfl | trivial, .inr (.inr ⟨by first | rfl | simp | trivial, by first | rfl | simp | trivial⟩)⟩
      case measure => decide
    · have HGr := hideS (spgrow_any M (by omega) wr)
      go_wp2_with (first | (go_at_call 35; (with_reducible refine HGr.out.mono ?_); rintro e wg ⟨v, rfl, own, bg⟩; have Hg := hideS (And.intro own bg); clear own bg))
      obtain ⟨wr0, rfl⟩ : ∃ wr0, wr0 = wr := ⟨_, rfl⟩
      go_loopw [6, 27] (fun nv iv wq => (iv = .int .i64 0 ∧ wq.ownsRow wr0.heap.size 45 4 nv 0 [] ∧ Below wr0.heap.size wr0 wq) ∨ (iv = .int .i64 1 ∧ wq.ownsRow wr0.heap.size 45 4 nv NA (flat4 A) ∧ Below wr0.heap.size wr0 wq) ∨ (iv = .int .i64 2 ∧ wq.ownsRow wr0.heap.size 45 4 nv M (flat4 (A ++ B)) ∧ Below wr0.heap.size wr0 wq)) (fun _ iv _ => 2 - (intOf iv).toNat)
      case atStart => exact .inl ⟨rfl, Hg.out.1, Hg.out.2⟩
      case round =>
        clear Hg
        obtain ⟨wz, rfl⟩ : ∃ wz, wz = wr := ⟨_, rfl⟩
        rcases hrel with ⟨rfl, own, bz⟩ | ⟨rfl, own, bz⟩ | ⟨rfl, own, bz⟩
        · have g0 := (bz.cell (p := ⟨G, 0, none⟩) hG).trans H0.out.1
          have g1 := (bz.cell (p := ⟨G, 1, none⟩) hG).trans H0.out.2
          have Hz := hideS (And.intro own bz)
          have hRz := HR.out.1.1.keep bz
          have hnz := HR.out.2.1.1
          have hNz := HR.out.2.2.1
          clear own bz
          cases oa with
          | none =>
            obtain ⟨rfl, rfl⟩ := hnz rfl
            obtain rfl : 0 = NA := hNz
            go_wp2_with (at_builtin; refine wpList_append_own_none rfl _ _ 22 rfl wr0.heap.size 45 i0 4 Tryd.underlying22 hi _ _ _ rfl Hz.out.1 rfl ?_)
            go_roundw
            case rel => exact .inr (.inl ⟨by first | rfl | simp, Hz.out.1, Hz.out.2⟩)
            case measure => decide
          | some ad =>
            have HFl := hideS hRz.flat
            have HL : Hid ((flat4 A).length = NA * 4) := hideS (by rw [flat4_len, hNz])
            clear hRz hnz
            go_wp2_with (at_builtin; refine wpList_append_own _ rfl _ _ 22 rfl wr0.heap.size 45 i0 (.agg #[.int .i64 0, .int .i64 0, .int .i64 0, .int .i64 0]) 4 32 Tryd.underlying22 hi hz0 hz1 hz2 rfl (by decide) _ _ _ rfl Hz.out.1 ad NA ca (flat4 A) rfl HL.out HFl.out (flat4_one A) (by unfold maxLen; omega) (by omega) Hz.out.2.size ?_; intro v' w3 hown' hgrow _)
            have hB3 := Below.grown Hz.out.2 hgrow Hz.out.2.size (fun j hj => (Hz.out.1.lt j hj).1)
            go_roundw
            case rel => exact .inr (.inl ⟨by first | rfl | simp, by have h9 := hown'; rw [Nat.zero_add, List.nil_append] at h9; exact h9, hB3⟩)
            case measure => decide
        · have g0 := (bz.cell (p := ⟨G, 0, none⟩) hG).trans H0.out.1
          have g1 := (bz.cell (p := ⟨G, 1, none⟩) hG).trans H0.out.2
          have Hz := hideS (And.intro own bz)
          have hRz := HR.out.1.2.keep bz
          have hnz := HR.out.2.1.2
          have hNz := HR.out.2.2.2
          clear own bz
          cases ob with
          | none =>
            obtain ⟨rfl, rfl⟩ := hnz rfl
            obtain rfl : 0 = NB := hNz
            go_wp2_with (at_builtin; refine wpList_append_own_none rfl _ _ 22 rfl wr0.heap.size 45 i0 4 Tryd.underlying22 hi _ _ _ rfl Hz.out.1 rfl ?_)
            go_roundw
            case rel => exact .inr (.inr ⟨by first | rfl | simp, by have h9 := Hz.out.1; rw [List.append_nil]; have e9 := HM.out; rw [Nat.add_zero] at e9; rw [← e9]; exact h9, Hz.out.2⟩)
            case measure => decide
          | some ad =>
            have HFl := hideS hRz.flat
            have HL : Hid ((flat4 B).length = NB * 4) := hideS (by rw [flat4_len, hNz])
            clear hRz hnz
            go_wp2_with (at_builtin; refine wpList_append_own _ rfl _ _ 22 rfl wr0.heap.size 45 i0 (.agg #[.int .i64 0, .int .i64 0, .int .i64 0, .int .i64 0]) 4 32 Tryd.underlying22 hi hz0 hz1 hz2 rfl (by decide) _ _ _ rfl Hz.out.1 ad NB cb (flat4 B) rfl HL.out HFl.out (flat4_one B) (by unfold maxLen; omega) (by omega) Hz.out.2.size ?_; intro v' w3 hown' hgrow _)
            have hB3 := Below.grown Hz.out.2 hgrow Hz.out.2.size (fun j hj => (Hz.out.1.lt j hj).1)
            go_roundw
            case rel => exact .inr (.inr ⟨by first | rfl | simp, by have h9 := hown'; rw [← flat4_append, HM.out] at h9; exact h9, hB3⟩)
            case measure => decide
        · have Hz := hideS (And.intro own bz)
          clear own bz
          go_wp2_with fail
          rw [HPO.out]
          exact ⟨_, rfl, Hz.out.1, Hz.out.2⟩
end Go.Proofs.YtbiodfeanngkdaaDoor
