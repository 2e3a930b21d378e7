/- style.runsOf, style.Runs (chapter 7). -/
import Derived.Test.YtbiodfeanngkdaaDoorSpD
import Derived.Test.YtbiodfeanngkdaaDoorSoO
import Derived.Laws.StructEq
namespace Go.Proofs.YtbiodfeanngkdaaDoor
open Go.RowKit Go.Shelf
attribute [local go_sem] Oper.semAt_some

/-- A run. -/
structure Rn where
  fr : Int
  tt : Int
  a : At
deriving DecidableEq
def Rn.cells (r : Rn) : List Value := [.int .i64 r.fr, .int .i64 r.tt, .bool r.a.b, .bool r.a.i, .bool r.a.u, .bool r.a.s, .int .i64 r.a.c]
def flat7 (L : List Rn) : List Value := L.flatMap Rn.cells
theorem flat7_len (L : List Rn) : (flat7 L).length = L.length * 7 := by
  induction L with
  | nil => rfl
  | cons x L ih =>
    show (Rn.cells x ++ flat7 L).length = _
    rw [List.length_append, ih]
    simp [Rn.cells]
    omega
theorem flat7_snoc (L : List Rn) (x : Rn) : flat7 (L ++ [x]) = flat7 L ++ x.cells := by simp [flat7]
theorem flat7_at : ∀ (Q : List Rn) (i : Nat) (p : Rn), Q[i]? = some p → ∀ j v, p.cells[j]? = some v → (flat7 Q)[i * 7 + j]? = some v
  | [], i, p, h => by simp at h
  | x :: Q, 0, p, h => by
    obtain rfl : x = p := by simpa using h
    intro j v hj
    show (Rn.cells x ++ flat7 Q)[0 * 7 + j]? = _
    rw [Nat.zero_mul, Nat.zero_add, List.getElem?_append_left (List.getElem?_eq_some_iff.1 hj).1]
    exact hj
  | x :: Q, i + 1, p, h => by
    intro j v hj
    have ih := flat7_at Q i p (by simpa using h) j v hj
    show (Rn.cells x ++ flat7 Q)[(i + 1) * 7 + j]? = _
    rw [List.getElem?_append_right (by simp [Rn.cells]; omega)]
    rw [← ih]
    congr 1
    simp [Rn.cells]
    omega
/-- A row of one's own, a cell of it written. -/
theorem own_set {W : World} {base g n cap : Nat} {e : TypeId} {size : Nat} {xs : List Value} (h : W.ownsRow base e size (.slice (some ⟨g, 0, none⟩) n cap) n xs) (i : Nat) (v : Value) : (W.setCell ⟨g, i, none⟩ v).ownsRow base e size (.slice (some ⟨g, 0, none⟩) n cap) n (xs.set i v) := by
  refine ⟨by rw [List.length_set]; exact h.1, ?_⟩
  rcases h.2 with ⟨e0, _⟩ | ⟨g2, cap2, cur, e0, hb, hg, hcn, hcm, hs, h4⟩
  · simp at e0
  · obtain ⟨rfl, rfl⟩ : g = g2 ∧ cap = cap2 := by simpa using e0
    refine .inr ⟨g, cap, cur.setIfInBounds i v, rfl, hb, set_atS hg i v, hcn, hcm, by rw [Array.size_setIfInBounds]; exact hs, ?_⟩
    rw [Array.toList_setIfInBounds, List.take_set, h4]
theorem own_cells {W : World} {base g n cap : Nat} {e : TypeId} {size : Nat} {xs : List Value} (h : W.ownsRow base e size (.slice (some ⟨g, 0, none⟩) n cap) n xs) (i : Nat) (v : Value) (hv : xs[i]? = some v) : W.cell? ⟨g, i, none⟩ = some v ∧ W.frozen? ⟨g, i, none⟩ = false ∧ g < W.heap.size ∧ base ≤ g := by
  rcases h.2 with ⟨e0, _⟩ | ⟨g2, cap2, cur, e0, hb, hg, hcn, hcm, hs, h4⟩
  · simp at e0
  · obtain ⟨rfl, rfl⟩ : g = g2 ∧ cap = cap2 := by simpa using e0
    have hi := (List.getElem?_eq_some_iff.1 hv).1
    rw [h.1] at hi
    rw [← h4, List.getElem?_take, if_pos hi, Array.getElem?_toList] at hv
    have hgl := (Array.getElem?_eq_some_iff.1 hg).1
    exact ⟨by simp [World.cell?, hg, hv], by simp [World.frozen?, hg], hgl, hb⟩
/-- One more stretch. -/
def runStep (acc : List Rn) (fr te : Int) (a : At) : List Rn :=
  match acc.getLast? with
  | none => [⟨fr, te, a⟩]
  | some r => if r.a = a then acc.dropLast ++ [⟨r.fr, te, r.a⟩] else acc ++ [⟨fr, te, a⟩]
/-- The runs between bounds. -/
def runGo (D : List Sp) : List Rn → Int → List Int → List Rn
  | acc, _, [] => acc
  | acc, fr, te :: l => runGo D (runStep acc fr te (lookA D fr)) te l
def runsM (n : Int) (D : List Sp) : List Rn := runGo D [] 0 (bndM n D)
theorem infoRn : (Tryd.prog.info? 50).map (fun i => (i.zero, i.size, i.bytes)) = some (some (.agg #[.int .i64 0, .int .i64 0, .bool false, .bool false, .bool false, .bool false, .int .i64 0]), 7, 32) := by kernel_rfl
theorem at_under : Tryd.prog.underlying 38 = some (.struct (Tryd.prog.fieldsOf 38)) := by kernel_rfl
theorem at_held : Tryd.prog.stoodInHeld 38 = false := by kernel_rfl
theorem at_fields : (Tryd.prog.fieldsOf 38).toList.map (fun f => (f.name, f.type, f.offset)) = [("Bold", 4, 0), ("Italic", 4, 1), ("Under", 4, 2), ("Strike", 4, 3), ("Colour", 3, 4)] := by kernel_rfl
set_option maxRecDepth 100000 in
theorem at_eq (x y : At) (w : World) : (binOp .eql 38 x.val y.val).run Tryd.prog w = .ok (.bool (decide (x = y))) w := by
  obtain ⟨a, b, c, d, f⟩ := x
  obtain ⟨a', b', c', d', f'⟩ := y
  unfold At.val
  rw [run_eql_struct, run_equalIn_agg _ _ _ _ _ at_under at_held]
  have hf := at_fields
  match h : (Tryd.prog.fieldsOf 38).toList, hf with
  | [f0, f1, f2, f3, f4], hf =>
    clear h
    simp only [List.map_cons, List.map_nil, List.cons.injEq, Prod.mk.injEq, and_true] at hf
    obtain ⟨⟨n0, t0, o0⟩, ⟨n1, t1, o1⟩, ⟨n2, t2, o2⟩, ⟨n3, t3, o3⟩, ⟨n4, t4, o4⟩⟩ := hf
    have u3 : Tryd.prog.underlying 3 = some (.int .i64) := Tryd.underlying3
    have u4 : Tryd.prog.underlying 4 = some .bool := Tryd.underlying4
    simp [Op.eqFields, n0, n1, n2, n3, n4, t0, t1, t2, t3, t4, o0, o1, o2, o3, o4, go_sem, u3, u4]
    by_cases h0 : a = a' <;> by_cases h1 : b = b' <;> by_cases h2 : c = c' <;> by_cases h3 : d = d' <;> by_cases h4 : f = f' <;> simp [h0, h1, h2, h3, h4]
  | [], hf => simp at hf
  | [_], hf => simp at hf
  | [_, _], hf => simp at hf
  | [_, _, _], hf => simp at hf
  | [_, _, _, _], hf => simp at hf
  | _ :: _ :: _ :: _ :: _ :: _ :: _, hf => simp at hf
theorem at_guard : Tryd.prog.eqGuardType Tryd.prog.depth 38 = false := by kernel_rfl
theorem own_from {A : World} {m hi : Nat} {e : TypeId} {size : Nat} {v : Value} {n : Nat} {xs : List Value} (h : A.ownsRow hi e size v n xs) (hm : m ≤ hi) : A.ownsRow m e size v n xs := by
  refine ⟨h.1, ?_⟩
  rcases h.2 with hn | ⟨g, cap, cur, rfl, hb, rest⟩
  · exact .inl hn
  · exact .inr ⟨g, cap, cur, rfl, Nat.le_trans hm hb, rest⟩
theorem cell_sevenS (w : World) (a b c d e f h : Value) (t : TypeId) : ∀ j u, [a, b, c, d, e, f, h][j]? = some u → (w.alloc (.cells #[a, b, c, d, e, f, h] t)).cell? ((⟨w.heap.size, 0, none⟩ : Addr).add j) = some u := by
  intro j u hj
  have e0 : (w.alloc (.cells #[a, b, c, d, e, f, h] t)).heap[w.heap.size]? = _ := World.alloc_heap_new w _
  match j, hj with
  | 0, hj | 1, hj | 2, hj | 3, hj | 4, hj | 5, hj | 6, hj =>
    simp at hj
    subst hj
    unfold World.cell?
    rw [addrS_block, e0]
    rfl
  | n + 7, hj => simp at hj
set_option maxRecDepth 100000 in
set_option maxHeartbeats 4000000 in
theorem runsOf_any (D : List Sp) (oa : Option Addr) (cap : Nat) (n : Int) (hl : D.length ≤ 5000) (hc : D.length ≤ cap ∧ cap ≤ maxLen) (w : World) (hR : SpO w oa D) :
    Calls Tryd.prog 32 #[.int .i64 n, .slice oa D.length cap] w fun e w' => ∃ v, e = .returned v ∧ w'.ownsRow w.heap.size 50 7 v (runsM n D).length (flat7 (runsM n D)) ∧ Below w.heap.size w w' := by
  obtain ⟨i0, hi, hz0, hz1, hz2⟩ := info_parts infoRn
  have HBd := hideS (bounds_any D oa cap n hl hc w hR)
  have HLk := hideS (fun (W : World) (h : Below w.heap.size w W) (f : Int) => look_any D oa cap f hc W (hR.keep h))
  have hbl : (bndM n D).length ≤ 20000 := by
    unfold bndM bndC
    rw [List.length_tail]
    have h1 := compact_le (bndS n D)
    rw [bndS_len] at h1
    omega
  obtain ⟨R, hRv⟩ : ∃ R, runsM n D = R := ⟨_, rfl⟩
  rw [hRv]
  unfold runsM at hRv
  generalize bndM n D = Q at *
  obtain ⟨N, hN⟩ : ∃ N, D.length = N := ⟨_, rfl⟩
  rw [hN] at HBd HLk hc ⊢
  obtain ⟨QN, hQN⟩ : ∃ QN, Q.length = QN := ⟨_, rfl⟩
  have HQ := hideS (And.intro hRv hQN)
  rw [hQN] at HBd hbl
  obtain ⟨PO, hPO⟩ : ∃ PO : Ending → World → Prop, PO = fun e w' => ∃ v, e = .returned v ∧ w'.ownsRow w.heap.size 50 7 v R.length (flat7 R) ∧ Below w.heap.size w w' := ⟨_, rfl⟩
  rw [← hPO]
  have HPO := hideS hPO
  clear hR hRv hN hQN hPO
  go_enter Tryd.func32, Tryd.ntmps32
  go_wp2_with fail
  refine HBd.out.mono ?_
  rintro e w1 ⟨g, c, rfl, hcc, hgb, hgl, hcl, b1⟩
  have HB1 := hideS (And.intro b1 (And.intro hcl hgb))
  clear HBd b1 hcl hgb
  go_wp2_with fail
  go_loopw [5, 6, 15] (fun v fv iv wq => ∃ (i : Nat) (acc : List Rn) (fr : Int), iv = .int .i64 (i : Nat) ∧ fv = .int .i64 fr ∧ i ≤ QN ∧ acc.length ≤ i ∧ wq.ownsRow w1.heap.size 50 7 v acc.length (flat7 acc) ∧ runGo D acc fr (Q.drop i) = R ∧ Below w1.heap.size w1 wq) (fun _ _ iv _ => QN - (intOf iv).toNat)
  case atStart => exact ⟨0, [], 0, rfl, rfl, Nat.zero_le _, Nat.le_refl _, World.ownsRow_nil _ _ _ _, HQ.out.1, Below.refl _ _⟩
  case round =>
    obtain ⟨i, acc, fr, rfl, rfl, hiN, hal, hO, hgo, hb⟩ := hrel
    obtain ⟨wq, rfl⟩ : ∃ wq, wq = wr := ⟨_, rfl⟩
    by_cases hlt : i < QN
    · obtain ⟨te, hx⟩ : ∃ te, Q[i]? = some te := ⟨_, List.getElem?_eq_getElem (by rw [HQ.out.2]; exact hlt)⟩
      have ct : wq.cell? ⟨g, 1 + i, none⟩ = some (.int .i64 te) := (hb.cell (p := ⟨g, 1 + i, none⟩) hgl).trans (HB1.out.2.1 i te hx)
      have hdr : Q.drop i = te :: Q.drop (i + 1) := by rw [← (List.getElem?_eq_some_iff.1 hx).2]; exact List.drop_eq_getElem_cons (by rw [HQ.out.2]; exact hlt)
      rw [hdr] at hgo
      change runGo D (runStep acc fr te (lookA D fr)) te (Q.drop (i + 1)) = R at hgo
      have d1 : (i : Int) < (QN : Int) := by omega
      have wi : IntKind.i64.wrap ((i : Int) + 1) = ((i + 1 : Nat) : Int) := by rw [show ((i + 1 : Nat) : Int) = (i : Int) + 1 by omega]; exact IntWalk.i64_in _ ⟨by omega, by omega⟩
      have hbw : Below w.heap.size w wq := HB1.out.1.trans (hb.mono HB1.out.1.size)
      have HL := hideS (HLk.out wq hbw fr)
      obtain ⟨A, hA⟩ : ∃ A, lookA D fr = A := ⟨_, rfl⟩
      rw [hA] at HL hgo
      unfold At.val at HL
      have HA := hideS (And.intro hO (And.intro hgo hb))
      clear hO hgo hb hx hdr hbw hA
      have walk2 : ∀ (V : World) (P : Nat), wq.heap.size ≤ P → P < V.heap.size → AtC V P A → Below wq.heap.size wq V → True := fun _ _ _ _ _ _ => trivial
      clear walk2
      rcases List.eq_nil_or_concat acc with rfl | ⟨L, r, rfl⟩
      · obtain ⟨o, cp, rfl⟩ : ∃ o cp, u5 = .slice o 0 cp := by
          rcases HA.out.1.2 with ⟨e0, _⟩ | ⟨gr, cp, cur, e0, _⟩
          · exact ⟨_, _, e0⟩
          · exact ⟨_, _, e0⟩
        go_upto_region 6 with fail
        go_wp2_with (first | (go_at_call 45; (with_reducible refine HL.out.mono ?_); rintro e w2 ⟨rfl, b2⟩; have H2 := hideS b2; clear b2))
        obtain ⟨V, hV⟩ : ∃ V, w2.alloc (.cells #[.bool A.b, .bool A.i, .bool A.u, .bool A.s, .int .i64 A.c] 38) = V := ⟨_, rfl⟩
        have aV : AtC V w2.heap.size A := by rw [← hV]; exact World.alloc_heap_new w2 _
        have bV : Below wq.heap.size wq V := by rw [← hV]; exact bupS H2.out (bel1S w2 _)
        rw [hV]
        clear hV
        have HVV := hideS (And.intro aV bV)
        obtain ⟨c0, c1, c2, c3, c4⟩ := aV.five
        clear aV bV
        go_quiet (fail)
        obtain ⟨wx, hwx⟩ : ∃ wx, V.drewN nq = wx := ⟨_, rfl⟩
        have W2 : Hid (Below V.heap.size V wx) := hideS (by rw [← hwx]; exact below_dnS (Below.refl _ _) nq)
        rw [hwx]
        clear hwx c0 c1 c2 c3 c4
        obtain ⟨c0, c1, c2, c3, c4⟩ := (HVV.out.1.keep W2.out).five
        have hbx : Below w1.heap.size w1 wx := HA.out.2.2.trans ((bupS HVV.out.2 W2.out).mono HA.out.2.2.size)
        have HGx : Hid (wx.ownsRow w1.heap.size 50 7 (.slice o 0 cp) 0 []) := hideS (own_keep HA.out.1 (bupS HVV.out.2 W2.out))
        have sx := hbx.size
        have HBx := hideS hbx
        clear hbx
        go_wp2_with (at_builtin; refine wpList_append_own _ rfl _ _ 46 rfl w1.heap.size 50 i0 (.agg #[.int .i64 0, .int .i64 0, .bool false, .bool false, .bool false, .bool false, .int .i64 0]) 7 32 Tryd.underlying46 hi hz0 hz1 hz2 rfl (by decide) _ _ _ rfl (HGx.out.alloc _) ⟨wx.heap.size, 0, none⟩ 1 1 [.int .i64 fr, .int .i64 te, .bool A.b, .bool A.i, .bool A.u, .bool A.s, .int .i64 A.c] rfl rfl (cell_sevenS _ _ _ _ _ _ _ _ _) (fun u hu => by simp at hu; rcases hu with rfl | rfl | rfl | rfl | rfl | rfl | rfl <;> rfl) (by unfold maxLen; omega) (by omega) (by simp; omega) ?_; intro v' w3 hown' hgrow _)
        have hB3 := Below.grown (HBx.out.alloc sx (.cells #[.int .i64 fr, .int .i64 te, .bool A.b, .bool A.i, .bool A.u, .bool A.s, .int .i64 A.c] 50)) hgrow (by simp; omega) (fun j hj => (HGx.out.lt j hj).1)
        go_roundw
        case rel => exact ⟨i + 1, [⟨fr, te, A⟩], te, by first | rfl | simp, rfl, by omega, by simp, hown', HA.out.2.1, hB3⟩
        case measure => simp [intOf]; omega
      · rw [List.concat_eq_append] at HA hal
        have hlen : (L ++ [r]).length = L.length + 1 := by simp
        obtain ⟨m, hm⟩ : ∃ m, L.length = m := ⟨_, rfl⟩
        obtain ⟨M, hM⟩ : ∃ M, m + 1 = M := ⟨_, rfl⟩
        rw [hlen, hm, hM] at HA hal
        obtain ⟨gr, cp, rfl, hcp⟩ : ∃ gr cp, u5 = .slice (some ⟨gr, 0, none⟩) M cp ∧ M ≤ cp ∧ cp ≤ maxLen := by
          rcases HA.out.1.2 with ⟨_, e0⟩ | ⟨gr, cp, cur, e0, h1, h2, h3, h4, _⟩
          · omega
          · exact ⟨gr, cp, e0, h3, h4⟩
        have HM := hideS (And.intro hm hM)
        have j1 : (M : Int) - 1 = (m : Int) := by omega
        have j2 : IntKind.i64.wrap (m : Int) = (m : Int) := IntWalk.i64_in _ ⟨by omega, by omega⟩
        have j3 : (0 : Int) ≤ (m : Int) := by omega
        have j4 : (m : Int) < (M : Int) := by omega
        have j5 : m < M := by omega
        clear hm hM hlen
        go_upto_region 6 with fail
        go_wp2_with (first | (go_at_call 45; (with_reducible refine HL.out.mono ?_); rintro e w2 ⟨rfl, b2⟩; have H2 := hideS b2; clear b2))
        obtain ⟨V, hV⟩ : ∃ V, w2.alloc (.cells #[.bool A.b, .bool A.i, .bool A.u, .bool A.s, .int .i64 A.c] 38) = V := ⟨_, rfl⟩
        have aV : AtC V w2.heap.size A := by rw [← hV]; exact World.alloc_heap_new w2 _
        have bV : Below wq.heap.size wq V := by rw [← hV]; exact bupS H2.out (bel1S w2 _)
        rw [hV]
        clear hV
        have hOV : V.ownsRow w1.heap.size 50 7 (.slice (some ⟨gr, 0, none⟩) M cp) M (flat7 (L ++ [r])) := own_keep HA.out.1 bV
        have hr : (L ++ [r])[m]? = some r := by rw [← HM.out.1]; simp
        have oc := fun j v h => own_cells hOV (m * 7 + j) v (flat7_at (L ++ [r]) m r hr j v h)
        have r2 := (oc 2 _ rfl).1
        have r3 := (oc 3 _ rfl).1
        have r4 := (oc 4 _ rfl).1
        have r5 := (oc 5 _ rfl).1
        have r6 := (oc 6 _ rfl).1
        have hgr := (oc 2 _ rfl).2.2
        have HVV := hideS (And.intro aV (And.intro bV (And.intro hOV (And.intro hr hgr))))
        obtain ⟨c0, c1, c2, c3, c4⟩ := aV.five
        have HEq := at_eq r.a A
        unfold At.val at HEq
        clear aV bV hOV oc hr hgr
        have hgd := at_guard
        by_cases hsm : r.a = A
        · rw [decide_eq_true hsm] at HEq
          go_quiet (fail)
          obtain ⟨wx, hwx⟩ : ∃ wx, V.drewN nq = wx := ⟨_, rfl⟩
          have W2 : Hid (Below V.heap.size V wx) := hideS (by rw [← hwx]; exact below_dnS (Below.refl _ _) nq)
          rw [hwx]
          clear hwx c0 c1 c2 c3 c4 r2 r3 r4 r5 r6 HEq hgd
          have hOx := own_keep HVV.out.2.2.1 W2.out
          obtain ⟨y1, y2, y3, y4⟩ := own_cells hOx (m * 7 + 1) _ (flat7_at (L ++ [r]) m r HVV.out.2.2.2.1 1 _ rfl)
          have hbx : Below w1.heap.size w1 wx := HA.out.2.2.trans ((bupS HVV.out.2.1 W2.out).mono HA.out.2.2.size)
          have HBx := hideS (And.intro hOx hbx)
          clear hOx hbx
          go_wp2_with fail
          go_roundw
          case rel =>
            have e0 : runStep (L ++ [r]) fr te A = L ++ [⟨r.fr, te, r.a⟩] := by
              unfold runStep
              simp [hsm]
            have e1 : (flat7 (L ++ [r])).set (m * 7 + 1) (.int .i64 te) = flat7 (L ++ [⟨r.fr, te, r.a⟩]) := by
              rw [flat7_snoc, flat7_snoc, List.set_append_right _ _ (by rw [flat7_len, HM.out.1]; omega), flat7_len, HM.out.1, show m * 7 + 1 - m * 7 = 1 by omega]
              rfl
            have h9 := own_set HBx.out.1 (m * 7 + 1) (.int .i64 te)
            rw [e1] at h9
            refine ⟨i + 1, L ++ [⟨r.fr, te, r.a⟩], te, by first | rfl | simp, rfl, by omega, ?_, ?_, ?_, ?_⟩
            · rw [List.length_append, HM.out.1]
              simp
              have := HM.out.2
              omega
            · rw [show (L ++ [(⟨r.fr, te, r.a⟩ : Rn)]).length = M by rw [List.length_append, HM.out.1]; exact HM.out.2]
              exact h9
            · have h8 := HA.out.2.1
              rw [e0] at h8
              exact h8
            · exact HBx.out.2.setCell (p := ⟨gr, m * 7 + 1, none⟩) HVV.out.2.2.2.2.2 _
          case measure => simp [intOf]; omega
        · rw [decide_eq_false hsm] at HEq
          go_quiet (fail)
          obtain ⟨wx, hwx⟩ : ∃ wx, V.drewN nq = wx := ⟨_, rfl⟩
          have W2 : Hid (Below V.heap.size V wx) := hideS (by rw [← hwx]; exact below_dnS (Below.refl _ _) nq)
          rw [hwx]
          clear hwx c0 c1 c2 c3 c4 r2 r3 r4 r5 r6 HEq hgd
          obtain ⟨c0, c1, c2, c3, c4⟩ := (HVV.out.1.keep W2.out).five
          have hbx : Below w1.heap.size w1 wx := HA.out.2.2.trans ((bupS HVV.out.2.1 W2.out).mono HA.out.2.2.size)
          have HGx := hideS (own_keep HVV.out.2.2.1 W2.out)
          have sx := hbx.size
          have HBx := hideS hbx
          clear hbx
          go_wp2_with (at_builtin; refine wpList_append_own _ rfl _ _ 46 rfl w1.heap.size 50 i0 (.agg #[.int .i64 0, .int .i64 0, .bool false, .bool false, .bool false, .bool false, .int .i64 0]) 7 32 Tryd.underlying46 hi hz0 hz1 hz2 rfl (by decide) _ _ _ rfl (HGx.out.alloc _) ⟨wx.heap.size, 0, none⟩ 1 1 [.int .i64 fr, .int .i64 te, .bool A.b, .bool A.i, .bool A.u, .bool A.s, .int .i64 A.c] rfl rfl (cell_sevenS _ _ _ _ _ _ _ _ _) (fun u hu => by simp at hu; rcases hu with rfl | rfl | rfl | rfl | rfl | rfl | rfl <;> rfl) (by unfold maxLen; omega) (by omega) (by simp; omega) ?_; intro v' w3 hown' hgrow _)
          have hB3 := Below.grown (HBx.out.alloc sx (.cells #[.int .i64 fr, .int .i64 te, .bool A.b, .bool A.i, .bool A.u, .bool A.s, .int .i64 A.c] 50)) hgrow (by simp; omega) (fun j hj => (HGx.out.lt j hj).1)
          go_roundw
          case rel =>
            have e0 : runStep (L ++ [r]) fr te A = L ++ [r] ++ [⟨fr, te, A⟩] := by
              unfold runStep
              simp [hsm]
            have hl9 : (L ++ [r]).length = M := by rw [List.length_append, HM.out.1]; exact HM.out.2
            refine ⟨i + 1, L ++ [r] ++ [⟨fr, te, A⟩], te, by first | rfl | simp, rfl, by omega, ?_, ?_, ?_, hB3⟩
            · rw [List.length_append, hl9]
              simp
              omega
            · rw [List.length_append, hl9, flat7_snoc]
              exact hown'
            · have h8 := HA.out.2.1
              rw [e0] at h8
              exact h8
          case measure => simp [intOf]; omega
    · have d1 : ¬ (i : Int) < (QN : Int) := by omega
      have hnil : Q.drop i = [] := List.drop_eq_nil_of_le (by rw [HQ.out.2]; omega)
      rw [hnil] at hgo
      change acc = R at hgo
      subst hgo
      have HA := hideS (And.intro hO hb)
      clear hO hb hnil
      go_wp2_with fail
      rw [HPO.out]
      exact ⟨_, rfl, own_from HA.out.1 HB1.out.1.size, HB1.out.1.trans (HA.out.2.mono HB1.out.1.size)⟩
end Go.Proofs.YtbiodfeanngkdaaDoor
