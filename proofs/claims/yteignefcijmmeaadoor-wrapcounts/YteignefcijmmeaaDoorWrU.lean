/- Package wrap: place, breaksOf. -/
import Derived.Test.YteignefcijmmeaaDoorWrT
namespace Go.Proofs.YteignefcijmmeaaDoor
open Go.RowKit Go.Shelf
attribute [local go_sem] Oper.semAt_some

def St.val (x : St) : Value := .agg #[.int .i64 x.kind, .int .i64 x.fin.loc, .int .i64 x.fin.sg, .int .i64 x.fin.ce, .int .i64 x.nxt.loc, .int .i64 x.nxt.sg, .int .i64 x.nxt.ce]
set_option maxRecDepth 100000 in
theorem place_any (x : St) (w : World) : Calls Tryd.prog 46 #[x.val] w fun e w' => e = .returned (.agg #[.int .i64 x.nxt.sg, .int .i64 x.kind]) ∧ Below w.heap.size w w' := by
  unfold St.val
  go_enter Tryd.func46, Tryd.ntmps46
  go_wp2_with fail
  refine bodyPost_ret (v := .agg #[.int .i64 x.nxt.sg, .int .i64 x.kind]) (by simp [results, Tryd.results46, go_sem]) rfl ⟨rfl, ?_⟩
  exact ((Below.refl _ w).alloc (Nat.le_refl _) _).alloc (by simp) _
/-- Stops in memory. -/
def SRow (l : List St) (G : Nat) (V : World) : Prop := G < V.heap.size ∧ ∀ (i : Nat) (x : St), l[i]? = some x →
  V.cell? ⟨G, i * 7, none⟩ = some (.int .i64 x.kind) ∧ V.cell? ⟨G, i * 7 + 1, none⟩ = some (.int .i64 x.fin.loc) ∧ V.cell? ⟨G, i * 7 + 2, none⟩ = some (.int .i64 x.fin.sg) ∧ V.cell? ⟨G, i * 7 + 3, none⟩ = some (.int .i64 x.fin.ce) ∧ V.cell? ⟨G, i * 7 + 4, none⟩ = some (.int .i64 x.nxt.loc) ∧ V.cell? ⟨G, i * 7 + 5, none⟩ = some (.int .i64 x.nxt.sg) ∧ V.cell? ⟨G, i * 7 + 6, none⟩ = some (.int .i64 x.nxt.ce)
theorem SRow.keep {l : List St} {G : Nat} {V V2 : World} (h : SRow l G V) {m : Nat} (b : Below m V V2) (hm : G < m) : SRow l G V2 := by
  have k : ∀ n, V2.cell? ⟨G, n, none⟩ = V.cell? ⟨G, n, none⟩ := fun n => b.cell (p := ⟨G, n, none⟩) hm
  refine ⟨Nat.lt_of_lt_of_le h.1 b.size, fun i x hx => ?_⟩
  simp only [k]
  exact h.2 i x hx
/-- The faces' breaks of stops, as the cells of a list. -/
def flatB (l : List St) : List Value := l.flatMap fun x => [.int .i64 x.nxt.sg, .int .i64 x.kind]
theorem flatB_snoc (l : List St) (x : St) : flatB (l ++ [x]) = flatB l ++ [.int .i64 x.nxt.sg, .int .i64 x.kind] := by simp [flatB]
theorem cell_two_newS (w : World) (a b : Value) (t : TypeId) : ∀ j u, [a, b][j]? = some u → (w.alloc (.cells #[a, b] t)).cell? ((⟨w.heap.size, 0, none⟩ : Addr).add j) = some u := by
  intro j u hj
  match j, hj with
  | 0, hj => simp at hj; subst hj; simp [Addr.add]
  | 1, hj => simp at hj; subst hj; simp [Addr.add]
  | j + 2, hj => simp at hj
theorem infoBr : (Tryd.prog.info? 47).map (fun i => (i.zero, i.size, i.bytes)) = some (some (.agg #[.int .i64 0, .int .i64 0]), 2, 16) := by kernel_rfl
set_option maxRecDepth 100000 in
set_option maxHeartbeats 4000000 in
theorem breaks_walk (l : List St) (x : St) (G cap : Nat) (hl : l.length ≤ 1048579) (hc : l.length + 1 ≤ cap ∧ cap ≤ maxLen) (w : World) (hR : SRow (l ++ [x]) G w) :
    Calls Tryd.prog 37 #[.slice (some ⟨G, 0, none⟩) (l.length + 1) cap] w fun e w' => ∃ v, e = .returned v ∧ w'.ownsRow w.heap.size 47 2 v l.length (flatB l) ∧ Below w.heap.size w w' := by
  obtain ⟨i0, hi, hz0, hz1, hz2⟩ := info_partsC infoBr
  have hGw := hR.1
  have e1 : IntKind.i64.wrap (((l.length + 1 : Nat) : Int) - 1) = l.length := by rw [show ((l.length + 1 : Nat) : Int) - 1 = l.length by omega]; exact IntWalk.i64_in _ ⟨by omega, by omega⟩
  go_enter Tryd.func37, Tryd.ntmps37
  go_wp2_with fail
  go_loopw [3, 12] (fun lv nv wq => ∃ pre r, pre ++ r = l ∧ nv = .int .i64 (pre.length : Nat) ∧ wq.ownsRow w.heap.size 47 2 lv pre.length (flatB pre) ∧ Below w.heap.size w wq) (fun _ nv _ => l.length - (intOf nv).toNat)
  case atStart => exact ⟨[], l, rfl, rfl, World.ownsRow_nil _ _ _ _, Below.refl _ _⟩
  case round =>
    obtain ⟨pre, r, hpr, rfl, hown, hB⟩ := hrel
    have hz := hB.size
    have hlen : pre.length + r.length = l.length := by rw [← hpr]; simp
    cases r with
    | nil =>
      obtain rfl : pre = l := by simpa using hpr
      have hdl : decide ((pre.length : Int) < (pre.length : Int)) = false := by simp
      go_wp2
      go_ret
      exact ⟨_, rfl, hown, hB⟩
    | cons y r =>
      have hk : pre.length < l.length := by simp at hlen; omega
      have hge : (l ++ [x])[pre.length]? = some y := by rw [← hpr]; simp
      obtain ⟨c0, c1, c2, c3, c4, c5, c6⟩ := (hR.keep hB hGw).2 _ _ hge
      have hdl : decide ((pre.length : Int) < (l.length : Int)) = true := by simp; omega
      have HPl := hideW (place_any y)
      unfold St.val at HPl
      have o1 := hown.alloc (.cells #[.int .i64 y.kind, .int .i64 y.fin.loc, .int .i64 y.fin.sg, .int .i64 y.fin.ce, .int .i64 y.nxt.loc, .int .i64 y.nxt.sg, .int .i64 y.nxt.ce] 81)
      have B1 := hB.alloc hz (.cells #[.int .i64 y.kind, .int .i64 y.fin.loc, .int .i64 y.fin.sg, .int .i64 y.fin.ce, .int .i64 y.nxt.loc, .int .i64 y.nxt.sg, .int .i64 y.nxt.ce] 81)
      clear hR hge hown
      go_wp2_with fail
      refine (HPl.out _).mono ?_
      rintro e w3 ⟨rfl, hB3⟩
      have o3 := ownsRow_keeps (m := 0) o1 (Keeps.of_below hB3)
      have B3 := B1.trans (hB3.mono B1.size)
      have hz3 := B3.size
      clear o1 B1 hB3 c0 c1 c2 c3 c4 c5 c6
      go_wp2_with (at_builtin; refine wpList_append_own _ rfl _ _ 22 rfl w.heap.size 47 i0 (.agg #[.int .i64 0, .int .i64 0]) 2 16 Tryd.underlying22 hi hz0 hz1 hz2 rfl (by decide) _ _ _ rfl (o3.alloc _) ⟨w3.heap.size, 0, none⟩ 1 1 [.int .i64 y.nxt.sg, .int .i64 y.kind] rfl rfl (cell_two_newS _ _ _ _) (fun u hu => by simp at hu; rcases hu with rfl | rfl <;> rfl) (by unfold maxLen; omega) (by omega) (by simp; omega) ?_; intro v' w4 hown4 hgrow4 _; have B5 := Below.grown (B3.alloc B3.size (.cells #[.int .i64 y.nxt.sg, .int .i64 y.kind] 47)) hgrow4 (by simp; omega) (fun k e => by have := (o3.lt k e).1; omega))
      go_roundw
      case rel =>
        refine ⟨pre ++ [y], r, by simpa using hpr, by simp, ?_, B5⟩
        rw [flatB_snoc, List.length_append]
        exact hown4
      case measure => simp [intOf]; omega
theorem flatS_at : ∀ (Q : List St) (i : Nat) (x : St), Q[i]? = some x → ∀ j, j < 7 → (flatS Q)[i * 7 + j]? = (cellsS x)[j]?
  | [], _, _, h, _, _ => by simp at h
  | q :: l, 0, x, h, j, hj => by
    obtain rfl : q = x := by simpa using h
    show (cellsS q ++ flatS l)[0 * 7 + j]? = _
    rw [Nat.zero_mul, Nat.zero_add, List.getElem?_append_left (by show j < 7; exact hj)]
  | q :: l, i + 1, x, h, j, hj => by
    have h' : l[i]? = some x := by simpa using h
    have f : (i + 1) * 7 + j = i * 7 + j + 7 := by omega
    show (cellsS q ++ flatS l)[(i + 1) * 7 + j]? = _
    rw [f, List.getElem?_append_right (by show 7 ≤ _; omega)]
    show (flatS l)[i * 7 + j + 7 - 7]? = _
    rw [Nat.add_sub_cancel]
    exact flatS_at l i x h' j hj
theorem SRow.of_owns {W : World} {base g n cap : Nat} {Q : List St} (h : W.ownsRow base 81 7 (.slice (some ⟨g, 0, none⟩) n cap) n (flatS Q)) : SRow Q g W ∧ base ≤ g ∧ n ≤ cap ∧ cap ≤ maxLen := by
  rcases h.2 with ⟨e, _⟩ | ⟨g2, cap2, cur, e, hb, hg, hcn, hcm, _, h4⟩
  · simp at e
  · obtain ⟨rfl, rfl⟩ : g = g2 ∧ cap = cap2 := by simpa using e
    refine ⟨⟨(Array.getElem?_eq_some_iff.1 hg).1, fun i x hx => ?_⟩, hb, hcn, hcm⟩
    have hk : ∀ (j : Nat) (v : Value), j < 7 → (cellsS x)[j]? = some v → W.cell? ⟨g, i * 7 + j, none⟩ = some v := fun j v hj hv => by
      have := flatS_at Q i x hx j hj
      rw [hv, ← h4, List.getElem?_take] at this
      split at this
      · simp [World.cell?, hg]
        simpa using this
      · cases this
    exact ⟨hk 0 _ (by omega) rfl, hk 1 _ (by omega) rfl, hk 2 _ (by omega) rfl, hk 3 _ (by omega) rfl, hk 4 _ (by omega) rfl, hk 5 _ (by omega) rfl, hk 6 _ (by omega) rfl⟩
set_option maxRecDepth 100000 in
set_option maxHeartbeats 1000000 in
/-- Places tells the breaks of every place of a text. -/
theorem places_any (s : ByteArray) (hs : s.size ≤ 1048576) (N : Nat) (w : World) (hT : Tabs N w) :
    Calls Tryd.prog 18 #[.string s] w fun e w' => ∃ v, e = .returned v ∧ w'.ownsRow w.heap.size 47 2 v (stopsTo (partsL s) (partsL s).length).length (flatB (stopsTo (partsL s) (partsL s).length)) ∧ Below w.heap.size w w' := by
  have HS := hideW (stops_walk s hs N w hT)
  have hsl := stopsTo_len (partsL s) (partsL s).length
  have hpl : (partsL s).length ≤ 1048579 := by rw [partsL_len]; have := clusters_length s; omega
  clear hT
  go_enter Tryd.func18, Tryd.ntmps18
  go_wp2_with fail
  refine HS.out.mono ?_
  rintro e w1 ⟨v, rfl, hown, hB1⟩
  unfold stopsL at hown
  generalize hl : stopsTo (partsL s) (partsL s).length = l at *
  have HL := hideW hl
  clear hl
  generalize stpAt (partsL s) ((partsL s).length - 1) 0 = x at *
  rw [List.length_append] at hown
  obtain ⟨g, cap, rfl⟩ := ownsRow_succ hown
  obtain ⟨hR, hg, hcn, hcm⟩ := SRow.of_owns hown
  have HB := hideW (breaks_walk l x g cap (by omega) ⟨hcn, hcm⟩ w1 hR)
  clear hown HS
  go_wp2_with fail
  refine HB.out.mono ?_
  rintro e w2 ⟨v, rfl, hown2, hB2⟩
  go_wp2_with fail
  go_ret
  refine ⟨_, rfl, ?_, hB1.trans (hB2.mono hB1.size)⟩
  rw [HL.out]
  exact ownsRow_from hown2 hB1.size
end Go.Proofs.YteignefcijmmeaaDoor
