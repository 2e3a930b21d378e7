/- style's hole: begin, end, around; style.moved (chapter 7). -/
import Derived.Test.YtjfhlddbkdkjbaaGreatDoorSoM
namespace Go.Proofs.YtjfhlddbkdkjbaaGreatDoor
open Go.RowKit Go.Shelf
attribute [local go_sem] Oper.semAt_some

/-- Where a span begins, ends behind a splice. -/
def begI (fr tq room at_ : Int) : Int := if tq ≤ at_ then IntKind.i64.wrap (IntKind.i64.wrap (IntKind.i64.wrap (at_ - tq) + fr) + room) else if at_ ≤ fr then at_ else IntKind.i64.wrap (fr + room)
def endI (fr tq room at_ : Int) : Int := if at_ ≤ fr then at_ else if tq ≤ at_ then IntKind.i64.wrap (IntKind.i64.wrap (IntKind.i64.wrap (at_ - tq) + fr) + room) else fr
set_option maxRecDepth 100000 in
set_option maxHeartbeats 1000000 in
theorem beg_any (fr tq room at_ : Int) (w : World) : Calls Tryz.prog 62 #[.agg #[.int .i64 fr, .int .i64 tq, .int .i64 room], .int .i64 at_] w fun e w' => e = .returned (.int .i64 (begI fr tq room at_)) ∧ Below w.heap.size w w' := by
  obtain ⟨v1, h1⟩ : ∃ v1, IntKind.i64.wrap (at_ - tq) = v1 := ⟨_, rfl⟩
  obtain ⟨v2, h2⟩ : ∃ v2, IntKind.i64.wrap (v1 + fr) = v2 := ⟨_, rfl⟩
  obtain ⟨v3, h3⟩ : ∃ v3, IntKind.i64.wrap (v2 + room) = v3 := ⟨_, rfl⟩
  obtain ⟨v4, h4⟩ : ∃ v4, IntKind.i64.wrap (fr + room) = v4 := ⟨_, rfl⟩
  unfold begI
  rw [h1, h2, h3, h4]
  by_cases c1 : tq ≤ at_
  · rw [if_pos c1]
    go_enter Tryz.func62, Tryz.ntmps62
    go_wp2_with fail
    go_ret
    exact ⟨rfl, bel1S w _⟩
  · rw [if_neg c1]
    by_cases c2 : at_ ≤ fr
    · rw [if_pos c2]
      go_enter Tryz.func62, Tryz.ntmps62
      go_wp2_with fail
      go_ret
      exact ⟨rfl, bel1S w _⟩
    · rw [if_neg c2]
      go_enter Tryz.func62, Tryz.ntmps62
      go_wp2_with fail
      go_ret
      exact ⟨rfl, bel1S w _⟩
set_option maxRecDepth 100000 in
set_option maxHeartbeats 1000000 in
theorem end_any (fr tq room at_ : Int) (w : World) : Calls Tryz.prog 63 #[.agg #[.int .i64 fr, .int .i64 tq, .int .i64 room], .int .i64 at_] w fun e w' => e = .returned (.int .i64 (endI fr tq room at_)) ∧ Below w.heap.size w w' := by
  obtain ⟨v1, h1⟩ : ∃ v1, IntKind.i64.wrap (at_ - tq) = v1 := ⟨_, rfl⟩
  obtain ⟨v2, h2⟩ : ∃ v2, IntKind.i64.wrap (v1 + fr) = v2 := ⟨_, rfl⟩
  obtain ⟨v3, h3⟩ : ∃ v3, IntKind.i64.wrap (v2 + room) = v3 := ⟨_, rfl⟩
  obtain ⟨v4, h4⟩ : ∃ v4, IntKind.i64.wrap (fr + room) = v4 := ⟨_, rfl⟩
  unfold endI
  rw [h1, h2, h3]
  by_cases c1 : at_ ≤ fr
  · rw [if_pos c1]
    go_enter Tryz.func63, Tryz.ntmps63
    go_wp2_with fail
    go_ret
    exact ⟨rfl, bel1S w _⟩
  · rw [if_neg c1]
    by_cases c2 : tq ≤ at_
    · rw [if_pos c2]
      go_enter Tryz.func63, Tryz.ntmps63
      go_wp2_with fail
      go_ret
      exact ⟨rfl, bel1S w _⟩
    · rw [if_neg c2]
      go_enter Tryz.func63, Tryz.ntmps63
      go_wp2_with fail
      go_ret
      exact ⟨rfl, bel1S w _⟩
/-- The spans around a hole, those that are left. -/
def aroundM (fr tq room : Int) (D : List Sp) : List Sp := (D.map fun x => (⟨begI fr tq room x.fr, endI fr tq room x.tt, x.kd, x.vl⟩ : Sp)).filter fun x => decide (x.fr < x.tt)
theorem aroundM_snoc (fr tq room : Int) (D : List Sp) (x : Sp) : aroundM fr tq room (D ++ [x]) = aroundM fr tq room D ++ (if begI fr tq room x.fr < endI fr tq room x.tt then [⟨begI fr tq room x.fr, endI fr tq room x.tt, x.kd, x.vl⟩] else []) := by
  unfold aroundM
  rw [List.map_append, List.filter_append]
  congr 1
  by_cases h : begI fr tq room x.fr < endI fr tq room x.tt
  · simp [h]
  · simp [h]
theorem cell_fourS (w : World) (a b c d : Value) (t : TypeId) : ∀ j u, [a, b, c, d][j]? = some u → (w.alloc (.cells #[a, b, c, d] t)).cell? ((⟨w.heap.size, 0, none⟩ : Addr).add j) = some u := by
  intro j u hj
  have e0 : (w.alloc (.cells #[a, b, c, d] t)).heap[w.heap.size]? = _ := World.alloc_heap_new w _
  match j, hj with
  | 0, hj | 1, hj | 2, hj | 3, hj =>
    simp at hj
    subst hj
    unfold World.cell?
    rw [addrS_block, e0]
    rfl
  | n + 4, hj => simp at hj
theorem own_keepS {W V : World} {base : Nat} {e : TypeId} {size : Nat} {v : Value} {n : Nat} {xs : List Value} (h : W.ownsRow base e size v n xs) (b : Below W.heap.size W V) : V.ownsRow base e size v n xs := by
  refine ⟨h.1, ?_⟩
  rcases h.2 with hn | ⟨g, cap, cur, rfl, hb, hgg, rest⟩
  · exact .inl hn
  · exact .inr ⟨g, cap, cur, rfl, hb, (b.block g (Array.getElem?_eq_some_iff.1 hgg).1).trans hgg, rest⟩
theorem own_fromS {A : World} {m hi : Nat} {e : TypeId} {size : Nat} {v : Value} {n : Nat} {xs : List Value} (h : A.ownsRow hi e size v n xs) (hm : m ≤ hi) : A.ownsRow m e size v n xs := by
  refine ⟨h.1, ?_⟩
  rcases h.2 with hn | ⟨g, cap, cur, rfl, hb, rest⟩
  · exact .inl hn
  · exact .inr ⟨g, cap, cur, rfl, Nat.le_trans hm hb, rest⟩
set_option maxRecDepth 100000 in
set_option maxHeartbeats 4000000 in
theorem around_any (D : List Sp) (oa : Option Addr) (cap : Nat) (fr tq room : Int) (hl : D.length ≤ 5000) (hn : oa = none → D = [] ∧ cap = 0) (w : World) (hR : SpO w oa D) :
    Calls Tryz.prog 40 #[.agg #[.int .i64 fr, .int .i64 tq, .int .i64 room], .slice oa D.length cap] w fun e w' => ∃ v, e = .returned v ∧ w'.ownsRow w.heap.size 44 4 v (aroundM fr tq room (isort ltS D)).length (flat4 (aroundM fr tq room (isort ltS D))) ∧ Below w.heap.size w w' := by
  obtain ⟨i0, hi, hz0, hz1, hz2⟩ := info_parts infoSp
  have HC := hideS (fun (W : World) (h : Below w.heap.size w W) => outer_any D oa cap hl hn W (hR.keep h))
  have hL : (isort ltS D).length = D.length := isort_length ltS D
  generalize isort ltS D = L at *
  obtain ⟨N, hN⟩ : ∃ N, L.length = N := ⟨_, rfl⟩
  have HN := hideS hN
  rw [hN] at hL
  rw [← hL] at HC hl ⊢
  obtain ⟨PO, hPO⟩ : ∃ PO : Ending → World → Prop, PO = fun e w' => ∃ v, e = .returned v ∧ w'.ownsRow w.heap.size 44 4 v (aroundM fr tq room L).length (flat4 (aroundM fr tq room L)) ∧ Below w.heap.size w w' := ⟨_, rfl⟩
  rw [← hPO]
  have HPO := hideS hPO
  clear hR hn hN hL hPO
  go_enter Tryz.func40, Tryz.ntmps40
  go_wp2_with fail
  obtain ⟨W0, hW0⟩ : ∃ W0, w.alloc (.cells #[.int .i64 fr, .int .i64 tq, .int .i64 room] 71) = W0 := ⟨_, rfl⟩
  have n0 : W0.heap[w.heap.size]? = some (.cells #[.int .i64 fr, .int .i64 tq, .int .i64 room] 71) := by rw [← hW0]; exact World.alloc_heap_new w _
  have b0 : Below w.heap.size w W0 := by rw [← hW0]; exact bel1S w _
  rw [hW0]
  have H0 := hideS (And.intro n0 b0)
  clear hW0 n0 b0
  refine (HC.out W0 H0.out.2).mono ?_
  rintro e w1 ⟨o, c, rfl, hc, _, _, hS1, b1⟩
  have n1 : w1.heap[w.heap.size]? = some (.cells #[.int .i64 fr, .int .i64 tq, .int .i64 room] 71) := (b1.block w.heap.size (Array.getElem?_eq_some_iff.1 H0.out.1).1).trans H0.out.1
  have HB1 := hideS (And.intro (bupS H0.out.2 b1) (And.intro n1 hS1))
  clear HC hS1 b1 n1 H0
  have hwl : w.heap.size < w1.heap.size := (Array.getElem?_eq_some_iff.1 HB1.out.2.1).1
  go_wp2_with fail
  go_loopw [5, 11] (fun v iv wq => ∃ (i : Nat), iv = .int .i64 (i : Nat) ∧ i ≤ N ∧ (aroundM fr tq room (L.take i)).length ≤ i ∧ wq.ownsRow w1.heap.size 44 4 v (aroundM fr tq room (L.take i)).length (flat4 (aroundM fr tq room (L.take i))) ∧ Below w1.heap.size w1 wq) (fun _ iv _ => N - (intOf iv).toNat)
  case atStart => exact ⟨0, rfl, Nat.zero_le _, Nat.le_refl _, World.ownsRow_nil _ _ _ _, Below.refl _ _⟩
  case round =>
    obtain ⟨i, rfl, hiN, hal, hO, hb⟩ := hrel
    obtain ⟨wq, rfl⟩ : ∃ wq, wq = wr := ⟨_, rfl⟩
    by_cases hlt : i < N
    · obtain ⟨x, hx⟩ : ∃ x, L[i]? = some x := ⟨_, List.getElem?_eq_getElem (by rw [HN.out]; exact hlt)⟩
      obtain ⟨a, rfl, hab, c0, c1, c2, c3⟩ := HB1.out.2.2.keep hb i x hx
      have d1 : (i : Int) < (N : Int) := by omega
      have wi : IntKind.i64.wrap ((i : Int) + 1) = ((i + 1 : Nat) : Int) := by rw [show ((i + 1 : Nat) : Int) = (i : Int) + 1 by omega]; exact IntWalk.i64_in _ ⟨by omega, by omega⟩
      have hnx : aroundM fr tq room (L.take (i + 1)) = aroundM fr tq room (L.take i) ++ (if begI fr tq room x.fr < endI fr tq room x.tt then [⟨begI fr tq room x.fr, endI fr tq room x.tt, x.kd, x.vl⟩] else []) := by rw [List.take_add_one, hx]; exact aroundM_snoc fr tq room _ x
      obtain ⟨V, hV⟩ : ∃ V, wq.alloc (.cells #[.int .i64 x.fr, .int .i64 x.tt, .int .i64 x.kd, .int .i64 x.vl] 44) = V := ⟨_, rfl⟩
      have bV : Below wq.heap.size wq V := by rw [← hV]; exact bel1S _ _
      have nV : V.heap[wq.heap.size]? = some (.cells #[.int .i64 x.fr, .int .i64 x.tt, .int .i64 x.kd, .int .i64 x.vl] 44) := by rw [← hV]; exact World.alloc_heap_new wq _
      have mV : V.heap[w.heap.size]? = some (.cells #[.int .i64 fr, .int .i64 tq, .int .i64 room] 71) := (bV.block w.heap.size (by have := hb.size; omega)).trans ((hb.block w.heap.size hwl).trans HB1.out.2.1)
      have hPl : wq.heap.size < V.heap.size := (Array.getElem?_eq_some_iff.1 nV).1
      have h0 : V.cell? ⟨w.heap.size, 0, none⟩ = some (.int .i64 fr) := by simp [World.cell?, mV]
      have h1 : V.cell? ⟨w.heap.size, 1, none⟩ = some (.int .i64 tq) := by simp [World.cell?, mV]
      have h2 : V.cell? ⟨w.heap.size, 2, none⟩ = some (.int .i64 room) := by simp [World.cell?, mV]
      have x0 : V.cell? ⟨wq.heap.size, 0, none⟩ = some (.int .i64 x.fr) := by simp [World.cell?, nV]
      have x1 : V.cell? ⟨wq.heap.size, 1, none⟩ = some (.int .i64 x.tt) := by simp [World.cell?, nV]
      have hPne : w.heap.size < wq.heap.size := by have := hb.size; omega
      have hwV : w.heap.size < V.heap.size := Nat.lt_trans hPne hPl
      have Hbg := hideS (beg_any fr tq room x.fr)
      have Hen := hideS (end_any fr tq room x.tt)
      generalize begI fr tq room x.fr = bv at *
      generalize endI fr tq room x.tt = ev at *
      have HA := hideS (And.intro hO (And.intro hnx (And.intro hb (And.intro bV nV))))
      clear hO hnx hb hx bV nV mV
      go_upto_region 5 with fail
      clear hV c0 c1 c2 c3
      have HLf : Hid (∀ wB : World, Below V.heap.size V wB → ((wB.setCell ⟨wq.heap.size, 0, none⟩ (.int .i64 bv)).setCell ⟨wq.heap.size, 1, none⟩ (.int .i64 ev)).heap[wq.heap.size]? = some (.cells #[.int .i64 bv, .int .i64 ev, .int .i64 x.kd, .int .i64 x.vl] 44) ∧ But (fun k => k = wq.heap.size) V ((wB.setCell ⟨wq.heap.size, 0, none⟩ (.int .i64 bv)).setCell ⟨wq.heap.size, 1, none⟩ (.int .i64 ev))) := hideS (fun wB hB => ⟨by have h9 := set_atS (set_atS ((hB.block wq.heap.size hPl).trans HA.out.2.2.2.2) 0 (.int .i64 bv)) 1 (.int .i64 ev); simpa using h9, ((But.grown (M := fun k => k = wq.heap.size) hB).setCell (p := ⟨wq.heap.size, 0, none⟩) rfl _).setCell (p := ⟨wq.heap.size, 1, none⟩) rfl _⟩)
      have hne : wq.heap.size ≠ w.heap.size := by omega
      go_cut [] (fun wx => wx.heap[wq.heap.size]? = some (.cells #[.int .i64 bv, .int .i64 ev, .int .i64 x.kd, .int .i64 x.vl] 44) ∧ But (fun k => k = wq.heap.size) V wx)
      case first =>
        refine wp_region_held_drew (S := fun w' => w'.cell? ⟨w.heap.size, 0, none⟩ = some (.int .i64 fr) ∧ w'.cell? ⟨w.heap.size, 1, none⟩ = some (.int .i64 tq) ∧ w'.cell? ⟨w.heap.size, 2, none⟩ = some (.int .i64 room)) (by kernel_rfl) ?_ (fun hHeld => ?_)
        · exact ⟨h0, h1, h2⟩
        refine wpAnyH_take (i := 0) (oi := ({ dst := some 15, op := Op.load 71 (Operand.tmp 2), type := 71, pos := "part.go:114", after := #[], guard := none } : Oper)) (v := .agg #[.int .i64 fr, .int .i64 tq, .int .i64 room]) rfl (by kernel_rfl) (by kernel_rfl) (by kernel_rfl) (fun _ _ _ h => h) (Or.inl ⟨by rfl, ?_⟩) (by assumption) ?_
        · intro w9 hSw
          try dsimp only at hSw
          go_simp
        try simp only [Act.put, List.setIfInBounds_toArray, List.set_cons_zero, List.set_cons_succ]
        refine wpAnyH_take (i := 1) (oi := ({ dst := some 16, op := Op.fieldAddr 44 (Operand.tmp 7) 0, type := 0, pos := "part.go:114", after := #[], guard := none } : Oper)) (v := .pointer (some ⟨wq.heap.size, 0, none⟩)) rfl (by kernel_rfl) (by kernel_rfl) (by kernel_rfl) (fun _ _ _ h => h) (Or.inl ⟨by rfl, ?_⟩) (by assumption) ?_
        · intro w9 hSw
          try dsimp only at hSw
          go_simp
        try simp only [Act.put, List.setIfInBounds_toArray, List.set_cons_zero, List.set_cons_succ]
        refine wpAnyH_take (i := 4) (oi := ({ dst := some 19, op := Op.load 71 (Operand.tmp 2), type := 71, pos := "part.go:114", after := #[], guard := none } : Oper)) (v := .agg #[.int .i64 fr, .int .i64 tq, .int .i64 room]) rfl (by kernel_rfl) (by kernel_rfl) (by kernel_rfl) (fun _ _ _ h => h) (Or.inl ⟨by rfl, ?_⟩) (by assumption) ?_
        · intro w9 hSw
          try dsimp only at hSw
          go_simp
        try simp only [Act.put, List.setIfInBounds_toArray, List.set_cons_zero, List.set_cons_succ]
        refine wpAnyH_take (i := 5) (oi := ({ dst := some 20, op := Op.fieldAddr 44 (Operand.tmp 7) 1, type := 0, pos := "part.go:114", after := #[], guard := none } : Oper)) (v := .pointer (some ⟨wq.heap.size, 1, none⟩)) rfl (by kernel_rfl) (by kernel_rfl) (by kernel_rfl) (fun _ _ _ h => h) (Or.inl ⟨by rfl, ?_⟩) (by assumption) ?_
        · intro w9 hSw
          try dsimp only at hSw
          go_simp
        try simp only [Act.put, List.setIfInBounds_toArray, List.set_cons_zero, List.set_cons_succ]
        refine wpAnyH_ready (rs := [2, 6]) (by kernel_rfl) (by simp) ?_
        refine AllReadyH.cons (o := ({ dst := some 17, op := Op.load 3 (Operand.tmp 16), type := 3, pos := "part.go:114", after := #[{ on := 1, ground := Ground.data }], guard := none } : Oper)) rfl (fun K hK => ?_) ?_
        · go_simp
          refine hK.out _ _ ?_ (fun hHeld => ?_)
          · assumption
          clear hK K
          try simp only [Act.put, List.setIfInBounds_toArray, List.set_cons_zero, List.set_cons_succ]
          refine wpAnyH_ready (rs := [3, 6]) (by kernel_rfl) (by simp) ?_
          refine AllReadyH.cons (o := ({ dst := some 18, op := Op.call { callee := Callee.value (Operand.func 62), args := #[Operand.tmp 15, Operand.tmp 17], argTypes := #[71, 3] }, type := 3, pos := "part.go:114", after := #[{ on := 0, ground := Ground.data }, { on := 2, ground := Ground.data }], guard := none } : Oper)) rfl (fun K hK => ?_) ?_
          · go_simp
            (with_reducible refine (Hbg.out _).mono ?_); rintro e wA ⟨rfl, bA⟩; have bA : Below V.heap.size V wA := (by first | exact ⟨bA.os, bA.tape, bA.output, bA.size, bA.block⟩ | exact bA); have kA1 : wA.cell? ⟨wq.heap.size, 1, none⟩ = some (.int .i64 x.tt) := (bA.cell (p := ⟨wq.heap.size, 1, none⟩) hPl).trans x1; have kA9 : wA.cell? ⟨w.heap.size, 0, none⟩ = some (.int .i64 fr) ∧ wA.cell? ⟨w.heap.size, 1, none⟩ = some (.int .i64 tq) ∧ wA.cell? ⟨w.heap.size, 2, none⟩ = some (.int .i64 room) := ⟨(bA.cell (p := ⟨w.heap.size, 0, none⟩) hwV).trans h0, (bA.cell (p := ⟨w.heap.size, 1, none⟩) hwV).trans h1, (bA.cell (p := ⟨w.heap.size, 2, none⟩) hwV).trans h2⟩; have HbA := hideS bA; clear bA
            go_wp2_with fail
            refine hK.out _ _ ?_ (fun hHeld => ?_)
            · exact kA9
            clear hK K
            try simp only [Act.put, List.setIfInBounds_toArray, List.set_cons_zero, List.set_cons_succ]
            refine wpAnyH_ready (rs := [6]) (by kernel_rfl) (by simp) ?_
            refine AllReadyH.cons (o := ({ dst := some 21, op := Op.load 3 (Operand.tmp 20), type := 3, pos := "part.go:114", after := #[{ on := 5, ground := Ground.data }], guard := none } : Oper)) rfl (fun K hK => ?_) ?_
            · go_simp
              refine hK.out _ _ ?_ (fun hHeld => ?_)
              · assumption
              clear hK K
              try simp only [Act.put, List.setIfInBounds_toArray, List.set_cons_zero, List.set_cons_succ]
              refine wpAnyH_take (i := 8) (oi := ({ dst := some 23, op := Op.fieldAddr 44 (Operand.tmp 7) 0, type := 0, pos := "part.go:114", after := #[{ on := 0, ground := Ground.phase }, { on := 1, ground := Ground.phase }, { on := 2, ground := Ground.phase }, { on := 3, ground := Ground.phase }, { on := 4, ground := Ground.textOnly Departure.lateStores }, { on := 5, ground := Ground.phase }, { on := 6, ground := Ground.phase }, { on := 7, ground := Ground.textOnly Departure.lateStoresUnsure }], guard := none } : Oper)) (v := .pointer (some ⟨wq.heap.size, 0, none⟩)) rfl (by kernel_rfl) (by kernel_rfl) (by kernel_rfl) (fun _ _ _ h => h) (Or.inl ⟨by rfl, ?_⟩) (by assumption) ?_
              · intro w9 hSw
                try dsimp only at hSw
                go_simp
              try simp only [Act.put, List.setIfInBounds_toArray, List.set_cons_zero, List.set_cons_succ]
              refine wpAnyH_ready (rs := [7]) (by kernel_rfl) (by simp) ?_
              refine AllReadyH.cons (o := ({ dst := some 22, op := Op.call { callee := Callee.value (Operand.func 63), args := #[Operand.tmp 19, Operand.tmp 21], argTypes := #[71, 3] }, type := 3, pos := "part.go:114", after := #[{ on := 4, ground := Ground.data }, { on := 6, ground := Ground.data }, { on := 3, ground := Ground.chain }], guard := none } : Oper)) rfl (fun K hK => ?_) ?_
              · go_simp
                (with_reducible refine (Hen.out _).mono ?_); rintro e wB ⟨rfl, bB⟩; have bB : Below V.heap.size V wB := bupS HbA.out bB; have nB := (bB.block wq.heap.size hPl).trans HA.out.2.2.2.2; have f0 : wB.frozen? ⟨wq.heap.size, 0, none⟩ = false := (by simp [World.frozen?, nB]); have f1 : wB.frozen? ⟨wq.heap.size, 1, none⟩ = false := (by simp [World.frozen?, nB]); have e0 : wB.cell? ⟨wq.heap.size, 0, none⟩ = some (.int .i64 x.fr) := (by simp [World.cell?, nB]); have e1 : wB.cell? ⟨wq.heap.size, 1, none⟩ = some (.int .i64 x.tt) := (by simp [World.cell?, nB]); have kB9 : wB.cell? ⟨w.heap.size, 0, none⟩ = some (.int .i64 fr) ∧ wB.cell? ⟨w.heap.size, 1, none⟩ = some (.int .i64 tq) ∧ wB.cell? ⟨w.heap.size, 2, none⟩ = some (.int .i64 room) := ⟨(bB.cell (p := ⟨w.heap.size, 0, none⟩) hwV).trans h0, (bB.cell (p := ⟨w.heap.size, 1, none⟩) hwV).trans h1, (bB.cell (p := ⟨w.heap.size, 2, none⟩) hwV).trans h2⟩; have HbB := hideS bB; clear bB nB
                go_wp2_with fail
                refine hK.out _ _ ?_ (fun hHeld => ?_)
                · exact kB9
                clear hK K
                try simp only [Act.put, List.setIfInBounds_toArray, List.set_cons_zero, List.set_cons_succ]
                refine wpAnyH_ready (rs := [9]) (by kernel_rfl) (by simp) ?_
                refine AllReadyH.cons (o := ({ dst := none, op := Op.store 3 (Operand.tmp 23) (Operand.tmp 18), type := 0, pos := "part.go:114", after := #[{ on := 8, ground := Ground.data }, { on := 3, ground := Ground.data }, { on := 7, ground := Ground.chain }, { on := 0, ground := Ground.phase }, { on := 1, ground := Ground.phase }, { on := 2, ground := Ground.phase }, { on := 3, ground := Ground.phase }, { on := 4, ground := Ground.textOnly Departure.lateStores }, { on := 5, ground := Ground.phase }, { on := 6, ground := Ground.phase }, { on := 7, ground := Ground.textOnly Departure.lateStoresUnsure }], guard := none } : Oper)) rfl (fun K hK => ?_) ?_
                · go_simp
                  refine hK.out _ _ ?_ (fun hHeld => ?_)
                  · simp [*, World.cell?_setCell_far]
                  clear hK K
                  try simp only [Act.put, List.setIfInBounds_toArray, List.set_cons_zero, List.set_cons_succ]
                  refine wpAnyH_take (i := 10) (oi := ({ dst := some 24, op := Op.fieldAddr 44 (Operand.tmp 7) 1, type := 0, pos := "part.go:114", after := #[{ on := 0, ground := Ground.phase }, { on := 1, ground := Ground.phase }, { on := 2, ground := Ground.phase }, { on := 3, ground := Ground.phase }, { on := 4, ground := Ground.phase }, { on := 5, ground := Ground.phase }, { on := 6, ground := Ground.phase }, { on := 7, ground := Ground.phase }, { on := 8, ground := Ground.phase }, { on := 9, ground := Ground.phase }], guard := none } : Oper)) (v := .pointer (some ⟨wq.heap.size, 1, none⟩)) rfl (by kernel_rfl) (by kernel_rfl) (by kernel_rfl) (fun _ _ _ h => h) (Or.inl ⟨by rfl, ?_⟩) (by assumption) ?_
                  · intro w9 hSw
                    try dsimp only at hSw
                    go_simp
                  try simp only [Act.put, List.setIfInBounds_toArray, List.set_cons_zero, List.set_cons_succ]
                  refine wpAnyH_ready (rs := [11]) (by kernel_rfl) (by simp) ?_
                  refine AllReadyH.cons (o := ({ dst := none, op := Op.store 3 (Operand.tmp 24) (Operand.tmp 22), type := 0, pos := "part.go:114", after := #[{ on := 10, ground := Ground.data }, { on := 7, ground := Ground.data }, { on := 9, ground := Ground.chain }, { on := 0, ground := Ground.phase }, { on := 1, ground := Ground.phase }, { on := 2, ground := Ground.phase }, { on := 3, ground := Ground.phase }, { on := 4, ground := Ground.phase }, { on := 5, ground := Ground.phase }, { on := 6, ground := Ground.phase }, { on := 7, ground := Ground.phase }, { on := 8, ground := Ground.phase }, { on := 9, ground := Ground.phase }], guard := none } : Oper)) rfl (fun K hK => ?_) ?_
                  · go_simp
                    refine hK.out _ _ ?_ (fun hHeld => ?_)
                    · simp [*, World.cell?_setCell_far]
                    clear hK K
                    try simp only [Act.put, List.setIfInBounds_toArray, List.set_cons_zero, List.set_cons_succ]
                    refine wpAnyH_done (by kernel_rfl) ?_ _
                    first | go_wp2_with fail | skip
                    go_meet
                    exact HLf.out wB HbB.out
                  exact AllReadyH.nil
                exact AllReadyH.nil
              exact AllReadyH.nil
            exact AllReadyH.nil
          refine AllReadyH.cons (o := ({ dst := some 21, op := Op.load 3 (Operand.tmp 20), type := 3, pos := "part.go:114", after := #[{ on := 5, ground := Ground.data }], guard := none } : Oper)) rfl (fun K hK => ?_) ?_
          · go_simp
            refine hK.out _ _ ?_ (fun hHeld => ?_)
            · assumption
            clear hK K
            try simp only [Act.put, List.setIfInBounds_toArray, List.set_cons_zero, List.set_cons_succ]
            refine wpAnyH_ready (rs := [3]) (by kernel_rfl) (by simp) ?_
            refine AllReadyH.cons (o := ({ dst := some 18, op := Op.call { callee := Callee.value (Operand.func 62), args := #[Operand.tmp 15, Operand.tmp 17], argTypes := #[71, 3] }, type := 3, pos := "part.go:114", after := #[{ on := 0, ground := Ground.data }, { on := 2, ground := Ground.data }], guard := none } : Oper)) rfl (fun K hK => ?_) ?_
            · go_simp
              (with_reducible refine (Hbg.out _).mono ?_); rintro e wA ⟨rfl, bA⟩; have bA : Below V.heap.size V wA := (by first | exact ⟨bA.os, bA.tape, bA.output, bA.size, bA.block⟩ | exact bA); have kA1 : wA.cell? ⟨wq.heap.size, 1, none⟩ = some (.int .i64 x.tt) := (bA.cell (p := ⟨wq.heap.size, 1, none⟩) hPl).trans x1; have kA9 : wA.cell? ⟨w.heap.size, 0, none⟩ = some (.int .i64 fr) ∧ wA.cell? ⟨w.heap.size, 1, none⟩ = some (.int .i64 tq) ∧ wA.cell? ⟨w.heap.size, 2, none⟩ = some (.int .i64 room) := ⟨(bA.cell (p := ⟨w.heap.size, 0, none⟩) hwV).trans h0, (bA.cell (p := ⟨w.heap.size, 1, none⟩) hwV).trans h1, (bA.cell (p := ⟨w.heap.size, 2, none⟩) hwV).trans h2⟩; have HbA := hideS bA; clear bA
              go_wp2_with fail
              refine hK.out _ _ ?_ (fun hHeld => ?_)
              · exact kA9
              clear hK K
              try simp only [Act.put, List.setIfInBounds_toArray, List.set_cons_zero, List.set_cons_succ]
              refine wpAnyH_take (i := 8) (oi := ({ dst := some 23, op := Op.fieldAddr 44 (Operand.tmp 7) 0, type := 0, pos := "part.go:114", after := #[{ on := 0, ground := Ground.phase }, { on := 1, ground := Ground.phase }, { on := 2, ground := Ground.phase }, { on := 3, ground := Ground.phase }, { on := 4, ground := Ground.textOnly Departure.lateStores }, { on := 5, ground := Ground.phase }, { on := 6, ground := Ground.phase }, { on := 7, ground := Ground.textOnly Departure.lateStoresUnsure }], guard := none } : Oper)) (v := .pointer (some ⟨wq.heap.size, 0, none⟩)) rfl (by kernel_rfl) (by kernel_rfl) (by kernel_rfl) (fun _ _ _ h => h) (Or.inl ⟨by rfl, ?_⟩) (by assumption) ?_
              · intro w9 hSw
                try dsimp only at hSw
                go_simp
              try simp only [Act.put, List.setIfInBounds_toArray, List.set_cons_zero, List.set_cons_succ]
              refine wpAnyH_ready (rs := [7]) (by kernel_rfl) (by simp) ?_
              refine AllReadyH.cons (o := ({ dst := some 22, op := Op.call { callee := Callee.value (Operand.func 63), args := #[Operand.tmp 19, Operand.tmp 21], argTypes := #[71, 3] }, type := 3, pos := "part.go:114", after := #[{ on := 4, ground := Ground.data }, { on := 6, ground := Ground.data }, { on := 3, ground := Ground.chain }], guard := none } : Oper)) rfl (fun K hK => ?_) ?_
              · go_simp
                (with_reducible refine (Hen.out _).mono ?_); rintro e wB ⟨rfl, bB⟩; have bB : Below V.heap.size V wB := bupS HbA.out bB; have nB := (bB.block wq.heap.size hPl).trans HA.out.2.2.2.2; have f0 : wB.frozen? ⟨wq.heap.size, 0, none⟩ = false := (by simp [World.frozen?, nB]); have f1 : wB.frozen? ⟨wq.heap.size, 1, none⟩ = false := (by simp [World.frozen?, nB]); have e0 : wB.cell? ⟨wq.heap.size, 0, none⟩ = some (.int .i64 x.fr) := (by simp [World.cell?, nB]); have e1 : wB.cell? ⟨wq.heap.size, 1, none⟩ = some (.int .i64 x.tt) := (by simp [World.cell?, nB]); have kB9 : wB.cell? ⟨w.heap.size, 0, none⟩ = some (.int .i64 fr) ∧ wB.cell? ⟨w.heap.size, 1, none⟩ = some (.int .i64 tq) ∧ wB.cell? ⟨w.heap.size, 2, none⟩ = some (.int .i64 room) := ⟨(bB.cell (p := ⟨w.heap.size, 0, none⟩) hwV).trans h0, (bB.cell (p := ⟨w.heap.size, 1, none⟩) hwV).trans h1, (bB.cell (p := ⟨w.heap.size, 2, none⟩) hwV).trans h2⟩; have HbB := hideS bB; clear bB nB
                go_wp2_with fail
                refine hK.out _ _ ?_ (fun hHeld => ?_)
                · exact kB9
                clear hK K
                try simp only [Act.put, List.setIfInBounds_toArray, List.set_cons_zero, List.set_cons_succ]
                refine wpAnyH_ready (rs := [9]) (by kernel_rfl) (by simp) ?_
                refine AllReadyH.cons (o := ({ dst := none, op := Op.store 3 (Operand.tmp 23) (Operand.tmp 18), type := 0, pos := "part.go:114", after := #[{ on := 8, ground := Ground.data }, { on := 3, ground := Ground.data }, { on := 7, ground := Ground.chain }, { on := 0, ground := Ground.phase }, { on := 1, ground := Ground.phase }, { on := 2, ground := Ground.phase }, { on := 3, ground := Ground.phase }, { on := 4, ground := Ground.textOnly Departure.lateStores }, { on := 5, ground := Ground.phase }, { on := 6, ground := Ground.phase }, { on := 7, ground := Ground.textOnly Departure.lateStoresUnsure }], guard := none } : Oper)) rfl (fun K hK => ?_) ?_
                · go_simp
                  refine hK.out _ _ ?_ (fun hHeld => ?_)
                  · simp [*, World.cell?_setCell_far]
                  clear hK K
                  try simp only [Act.put, List.setIfInBounds_toArray, List.set_cons_zero, List.set_cons_succ]
                  refine wpAnyH_take (i := 10) (oi := ({ dst := some 24, op := Op.fieldAddr 44 (Operand.tmp 7) 1, type := 0, pos := "part.go:114", after := #[{ on := 0, ground := Ground.phase }, { on := 1, ground := Ground.phase }, { on := 2, ground := Ground.phase }, { on := 3, ground := Ground.phase }, { on := 4, ground := Ground.phase }, { on := 5, ground := Ground.phase }, { on := 6, ground := Ground.phase }, { on := 7, ground := Ground.phase }, { on := 8, ground := Ground.phase }, { on := 9, ground := Ground.phase }], guard := none } : Oper)) (v := .pointer (some ⟨wq.heap.size, 1, none⟩)) rfl (by kernel_rfl) (by kernel_rfl) (by kernel_rfl) (fun _ _ _ h => h) (Or.inl ⟨by rfl, ?_⟩) (by assumption) ?_
                  · intro w9 hSw
                    try dsimp only at hSw
                    go_simp
                  try simp only [Act.put, List.setIfInBounds_toArray, List.set_cons_zero, List.set_cons_succ]
                  refine wpAnyH_ready (rs := [11]) (by kernel_rfl) (by simp) ?_
                  refine AllReadyH.cons (o := ({ dst := none, op := Op.store 3 (Operand.tmp 24) (Operand.tmp 22), type := 0, pos := "part.go:114", after := #[{ on := 10, ground := Ground.data }, { on := 7, ground := Ground.data }, { on := 9, ground := Ground.chain }, { on := 0, ground := Ground.phase }, { on := 1, ground := Ground.phase }, { on := 2, ground := Ground.phase }, { on := 3, ground := Ground.phase }, { on := 4, ground := Ground.phase }, { on := 5, ground := Ground.phase }, { on := 6, ground := Ground.phase }, { on := 7, ground := Ground.phase }, { on := 8, ground := Ground.phase }, { on := 9, ground := Ground.phase }], guard := none } : Oper)) rfl (fun K hK => ?_) ?_
                  · go_simp
                    refine hK.out _ _ ?_ (fun hHeld => ?_)
                    · simp [*, World.cell?_setCell_far]
                    clear hK K
                    try simp only [Act.put, List.setIfInBounds_toArray, List.set_cons_zero, List.set_cons_succ]
                    refine wpAnyH_done (by kernel_rfl) ?_ _
                    first | go_wp2_with fail | skip
                    go_meet
                    exact HLf.out wB HbB.out
                  exact AllReadyH.nil
                exact AllReadyH.nil
              exact AllReadyH.nil
            exact AllReadyH.nil
          exact AllReadyH.nil
        refine AllReadyH.cons (o := ({ dst := some 21, op := Op.load 3 (Operand.tmp 20), type := 3, pos := "part.go:114", after := #[{ on := 5, ground := Ground.data }], guard := none } : Oper)) rfl (fun K hK => ?_) ?_
        · go_simp
          refine hK.out _ _ ?_ (fun hHeld => ?_)
          · assumption
          clear hK K
          try simp only [Act.put, List.setIfInBounds_toArray, List.set_cons_zero, List.set_cons_succ]
          refine wpAnyH_ready (rs := [2]) (by kernel_rfl) (by simp) ?_
          refine AllReadyH.cons (o := ({ dst := some 17, op := Op.load 3 (Operand.tmp 16), type := 3, pos := "part.go:114", after := #[{ on := 1, ground := Ground.data }], guard := none } : Oper)) rfl (fun K hK => ?_) ?_
          · go_simp
            refine hK.out _ _ ?_ (fun hHeld => ?_)
            · assumption
            clear hK K
            try simp only [Act.put, List.setIfInBounds_toArray, List.set_cons_zero, List.set_cons_succ]
            refine wpAnyH_ready (rs := [3]) (by kernel_rfl) (by simp) ?_
            refine AllReadyH.cons (o := ({ dst := some 18, op := Op.call { callee := Callee.value (Operand.func 62), args := #[Operand.tmp 15, Operand.tmp 17], argTypes := #[71, 3] }, type := 3, pos := "part.go:114", after := #[{ on := 0, ground := Ground.data }, { on := 2, ground := Ground.data }], guard := none } : Oper)) rfl (fun K hK => ?_) ?_
            · go_simp
              (with_reducible refine (Hbg.out _).mono ?_); rintro e wA ⟨rfl, bA⟩; have bA : Below V.heap.size V wA := (by first | exact ⟨bA.os, bA.tape, bA.output, bA.size, bA.block⟩ | exact bA); have kA1 : wA.cell? ⟨wq.heap.size, 1, none⟩ = some (.int .i64 x.tt) := (bA.cell (p := ⟨wq.heap.size, 1, none⟩) hPl).trans x1; have kA9 : wA.cell? ⟨w.heap.size, 0, none⟩ = some (.int .i64 fr) ∧ wA.cell? ⟨w.heap.size, 1, none⟩ = some (.int .i64 tq) ∧ wA.cell? ⟨w.heap.size, 2, none⟩ = some (.int .i64 room) := ⟨(bA.cell (p := ⟨w.heap.size, 0, none⟩) hwV).trans h0, (bA.cell (p := ⟨w.heap.size, 1, none⟩) hwV).trans h1, (bA.cell (p := ⟨w.heap.size, 2, none⟩) hwV).trans h2⟩; have HbA := hideS bA; clear bA
              go_wp2_with fail
              refine hK.out _ _ ?_ (fun hHeld => ?_)
              · exact kA9
              clear hK K
              try simp only [Act.put, List.setIfInBounds_toArray, List.set_cons_zero, List.set_cons_succ]
              refine wpAnyH_take (i := 8) (oi := ({ dst := some 23, op := Op.fieldAddr 44 (Operand.tmp 7) 0, type := 0, pos := "part.go:114", after := #[{ on := 0, ground := Ground.phase }, { on := 1, ground := Ground.phase }, { on := 2, ground := Ground.phase }, { on := 3, ground := Ground.phase }, { on := 4, ground := Ground.textOnly Departure.lateStores }, { on := 5, ground := Ground.phase }, { on := 6, ground := Ground.phase }, { on := 7, ground := Ground.textOnly Departure.lateStoresUnsure }], guard := none } : Oper)) (v := .pointer (some ⟨wq.heap.size, 0, none⟩)) rfl (by kernel_rfl) (by kernel_rfl) (by kernel_rfl) (fun _ _ _ h => h) (Or.inl ⟨by rfl, ?_⟩) (by assumption) ?_
              · intro w9 hSw
                try dsimp only at hSw
                go_simp
              try simp only [Act.put, List.setIfInBounds_toArray, List.set_cons_zero, List.set_cons_succ]
              refine wpAnyH_ready (rs := [7]) (by kernel_rfl) (by simp) ?_
              refine AllReadyH.cons (o := ({ dst := some 22, op := Op.call { callee := Callee.value (Operand.func 63), args := #[Operand.tmp 19, Operand.tmp 21], argTypes := #[71, 3] }, type := 3, pos := "part.go:114", after := #[{ on := 4, ground := Ground.data }, { on := 6, ground := Ground.data }, { on := 3, ground := Ground.chain }], guard := none } : Oper)) rfl (fun K hK => ?_) ?_
              · go_simp
                (with_reducible refine (Hen.out _).mono ?_); rintro e wB ⟨rfl, bB⟩; have bB : Below V.heap.size V wB := bupS HbA.out bB; have nB := (bB.block wq.heap.size hPl).trans HA.out.2.2.2.2; have f0 : wB.frozen? ⟨wq.heap.size, 0, none⟩ = false := (by simp [World.frozen?, nB]); have f1 : wB.frozen? ⟨wq.heap.size, 1, none⟩ = false := (by simp [World.frozen?, nB]); have e0 : wB.cell? ⟨wq.heap.size, 0, none⟩ = some (.int .i64 x.fr) := (by simp [World.cell?, nB]); have e1 : wB.cell? ⟨wq.heap.size, 1, none⟩ = some (.int .i64 x.tt) := (by simp [World.cell?, nB]); have kB9 : wB.cell? ⟨w.heap.size, 0, none⟩ = some (.int .i64 fr) ∧ wB.cell? ⟨w.heap.size, 1, none⟩ = some (.int .i64 tq) ∧ wB.cell? ⟨w.heap.size, 2, none⟩ = some (.int .i64 room) := ⟨(bB.cell (p := ⟨w.heap.size, 0, none⟩) hwV).trans h0, (bB.cell (p := ⟨w.heap.size, 1, none⟩) hwV).trans h1, (bB.cell (p := ⟨w.heap.size, 2, none⟩) hwV).trans h2⟩; have HbB := hideS bB; clear bB nB
                go_wp2_with fail
                refine hK.out _ _ ?_ (fun hHeld => ?_)
                · exact kB9
                clear hK K
                try simp only [Act.put, List.setIfInBounds_toArray, List.set_cons_zero, List.set_cons_succ]
                refine wpAnyH_ready (rs := [9]) (by kernel_rfl) (by simp) ?_
                refine AllReadyH.cons (o := ({ dst := none, op := Op.store 3 (Operand.tmp 23) (Operand.tmp 18), type := 0, pos := "part.go:114", after := #[{ on := 8, ground := Ground.data }, { on := 3, ground := Ground.data }, { on := 7, ground := Ground.chain }, { on := 0, ground := Ground.phase }, { on := 1, ground := Ground.phase }, { on := 2, ground := Ground.phase }, { on := 3, ground := Ground.phase }, { on := 4, ground := Ground.textOnly Departure.lateStores }, { on := 5, ground := Ground.phase }, { on := 6, ground := Ground.phase }, { on := 7, ground := Ground.textOnly Departure.lateStoresUnsure }], guard := none } : Oper)) rfl (fun K hK => ?_) ?_
                · go_simp
                  refine hK.out _ _ ?_ (fun hHeld => ?_)
                  · simp [*, World.cell?_setCell_far]
                  clear hK K
                  try simp only [Act.put, List.setIfInBounds_toArray, List.set_cons_zero, List.set_cons_succ]
                  refine wpAnyH_take (i := 10) (oi := ({ dst := some 24, op := Op.fieldAddr 44 (Operand.tmp 7) 1, type := 0, pos := "part.go:114", after := #[{ on := 0, ground := Ground.phase }, { on := 1, ground := Ground.phase }, { on := 2, ground := Ground.phase }, { on := 3, ground := Ground.phase }, { on := 4, ground := Ground.phase }, { on := 5, ground := Ground.phase }, { on := 6, ground := Ground.phase }, { on := 7, ground := Ground.phase }, { on := 8, ground := Ground.phase }, { on := 9, ground := Ground.phase }], guard := none } : Oper)) (v := .pointer (some ⟨wq.heap.size, 1, none⟩)) rfl (by kernel_rfl) (by kernel_rfl) (by kernel_rfl) (fun _ _ _ h => h) (Or.inl ⟨by rfl, ?_⟩) (by assumption) ?_
                  · intro w9 hSw
                    try dsimp only at hSw
                    go_simp
                  try simp only [Act.put, List.setIfInBounds_toArray, List.set_cons_zero, List.set_cons_succ]
                  refine wpAnyH_ready (rs := [11]) (by kernel_rfl) (by simp) ?_
                  refine AllReadyH.cons (o := ({ dst := none, op := Op.store 3 (Operand.tmp 24) (Operand.tmp 22), type := 0, pos := "part.go:114", after := #[{ on := 10, ground := Ground.data }, { on := 7, ground := Ground.data }, { on := 9, ground := Ground.chain }, { on := 0, ground := Ground.phase }, { on := 1, ground := Ground.phase }, { on := 2, ground := Ground.phase }, { on := 3, ground := Ground.phase }, { on := 4, ground := Ground.phase }, { on := 5, ground := Ground.phase }, { on := 6, ground := Ground.phase }, { on := 7, ground := Ground.phase }, { on := 8, ground := Ground.phase }, { on := 9, ground := Ground.phase }], guard := none } : Oper)) rfl (fun K hK => ?_) ?_
                  · go_simp
                    refine hK.out _ _ ?_ (fun hHeld => ?_)
                    · simp [*, World.cell?_setCell_far]
                    clear hK K
                    try simp only [Act.put, List.setIfInBounds_toArray, List.set_cons_zero, List.set_cons_succ]
                    refine wpAnyH_done (by kernel_rfl) ?_ _
                    first | go_wp2_with fail | skip
                    go_meet
                    exact HLf.out wB HbB.out
                  exact AllReadyH.nil
                exact AllReadyH.nil
              exact AllReadyH.nil
            exact AllReadyH.nil
          exact AllReadyH.nil
        exact AllReadyH.nil
      case rest =>
        obtain ⟨nc, bc⟩ := hcut
        have s0 : wc.cell? ⟨wq.heap.size, 0, none⟩ = some (.int .i64 bv) := by simp [World.cell?, nc]
        have s1 : wc.cell? ⟨wq.heap.size, 1, none⟩ = some (.int .i64 ev) := by simp [World.cell?, nc]
        have s2 : wc.cell? ⟨wq.heap.size, 2, none⟩ = some (.int .i64 x.kd) := by simp [World.cell?, nc]
        have s3 : wc.cell? ⟨wq.heap.size, 3, none⟩ = some (.int .i64 x.vl) := by simp [World.cell?, nc]
        have bq : Below wq.heap.size wq wc := HA.out.2.2.2.1.trans (bc.below (by omega) (fun k e => by omega))
        have hbx : Below w1.heap.size w1 wc := HA.out.2.2.1.trans (bq.mono HA.out.2.2.1.size)
        have sx := hbx.size
        have HGx := hideS (own_keepS HA.out.1 bq)
        have HBx := hideS hbx
        clear bq hbx nc bc h0 h1 h2 x0 x1 Hbg Hen HLf
        by_cases hbe : bv < ev
        · go_wp2_with (at_builtin; refine wpList_append_own _ rfl _ _ 28 rfl w1.heap.size 44 i0 (.agg #[.int .i64 0, .int .i64 0, .int .i64 0, .int .i64 0]) 4 32 Tryz.underlying28 hi hz0 hz1 hz2 rfl (by decide) _ _ _ rfl (HGx.out.alloc _) ⟨wc.heap.size, 0, none⟩ 1 1 [.int .i64 bv, .int .i64 ev, .int .i64 x.kd, .int .i64 x.vl] rfl rfl (cell_fourS _ _ _ _ _ _) (fun u hu => by simp at hu; rcases hu with rfl | rfl | rfl | rfl <;> rfl) (by unfold maxLen; omega) (by omega) (by simp; omega) ?_; intro v' w3 hown' hgrow _)
          have hB3 := Below.grown (HBx.out.alloc sx (.cells #[.int .i64 bv, .int .i64 ev, .int .i64 x.kd, .int .i64 x.vl] 44)) hgrow (by simp; omega) (fun j hj => (HGx.out.lt j hj).1)
          go_roundw
          case rel =>
            have e9 := HA.out.2.1
            rw [if_pos hbe] at e9
            refine ⟨i + 1, by first | rfl | simp, by omega, ?_, ?_, hB3⟩
            · rw [e9, List.length_append]
              simp
              omega
            · rw [e9, List.length_append, flat4_snoc]
              exact hown'
          case measure => simp [intOf]; omega
        · go_wp2_with fail
          go_roundw
          case rel =>
            have e9 := HA.out.2.1
            rw [if_neg (by omega), List.append_nil] at e9
            refine ⟨i + 1, by first | rfl | simp, by omega, ?_, ?_, HBx.out⟩
            · rw [e9]
              omega
            · rw [e9]
              exact HGx.out
          case measure => simp [intOf]; omega
    · have d1 : ¬ (i : Int) < (N : Int) := by omega
      rw [List.take_of_length_le (by rw [HN.out]; omega)] at hO
      have HA := hideS (And.intro hO hb)
      clear hO hb
      go_wp2_with fail
      rw [HPO.out]
      exact ⟨_, rfl, own_fromS HA.out.1 HB1.out.1.size, HB1.out.1.trans (HA.out.2.mono HB1.out.1.size)⟩
end Go.Proofs.YtjfhlddbkdkjbaaGreatDoor
