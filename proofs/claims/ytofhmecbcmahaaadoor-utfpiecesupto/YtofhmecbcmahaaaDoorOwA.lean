/- A law of append to a row that a call owns, which tells what became of the old row; a row of runes that was told is its caller's own. -/
import Derived.Test.YtofhmecbcmahaaaDoorRpsM
import Derived.Test.YtofhmecbcmahaaaDoorAppW
import Derived.Test.YtofhmecbcmahaaaDoorLawS
namespace Go.Proofs.YtofhmecbcmahaaaDoor
open Go Go.RowKit

theorem append_row {P : Program} (w : World) (base : Nat) (t ty e : TypeId) (i : TypeInfo) (z : Value) (size bytes : Nat) (ht : P.underlying t = some (.slice e)) (hi : P.info? e = some i) (hz : i.zero = some z)
    (hsize : i.size = size) (hby : i.bytes = bytes) (hzs : z.cells.size = size) (hsz : 0 < size)
    (v : Value) (n : Nat) (xs : List Value) (hown : w.ownsRow base e size v n xs)
    (a : Addr) (m c : Nat) (news : List Value) (hl : news.length = m * size) (hnews : ∀ j u, news[j]? = some u → w.cell? (a.add j) = some u) (h1 : ∀ u ∈ news, u.oneCell' = true) (hm : 0 < m)
    (h63 : n + m ≤ maxLen) (hbytes : (n + m) * bytes ≤ 140737488355328) (hbase : base ≤ w.heap.size) :
    ∃ o cap w', (Builtin.append_ #[t, t] ty #[v, .slice (some a) m c]).run P w = .ok (.slice o (n + m) cap) w' ∧ w.grownBy w' v.ownBlock ∧
      ∀ g k cp, v = .slice (some ⟨g, 0, none⟩) k cp → ∃ cur : Array Value, w'.heap[g]? = some (.cells cur e (0, 0)) ∧ n * size ≤ cur.size := by
  obtain ⟨v', w', hr, o1, o2, _⟩ := run_append_own (P := P) w base t ty e i z size bytes ht hi hz hsize hby hzs hsz v n xs hown a m c news hl hnews h1 h63 hbytes hbase
  have hv' : ∃ o cap, v' = .slice o (n + m) cap := by
    rcases o1.2 with ⟨e2, e3⟩ | ⟨g, cap, cur, e2, _⟩
    · omega
    · exact ⟨_, _, e2⟩
  obtain ⟨o, cap', rfl⟩ := hv'
  refine ⟨o, cap', w', hr, o2, ?_⟩
  rintro g k cp rfl
  rcases hown.2 with ⟨h0, _⟩ | ⟨g2, cap2, cur, h2, hbg, hgg, hn, hcm, hcs, htake⟩
  · cases h0
  · simp only [Value.slice.injEq, Option.some.injEq, Addr.mk.injEq, and_true] at h2
    obtain ⟨rfl, rfl, rfl⟩ := h2
    have hnc : k * size ≤ cur.size := by rw [hcs]; exact Nat.mul_le_mul_right _ hn
    by_cases hroom : k + m ≤ cp
    · obtain ⟨w1, e1, q1, _⟩ := run_append_own_spare (P := P) w base t ty e i size ht hi hsize g k cp xs hown a m c news hl hnews h1 hroom
      rw [hr] at e1
      cases e1
      rcases q1.2 with ⟨e2, _⟩ | ⟨g3, cap3, cur3, e3, _, hg3, hn3, _, hs3, _⟩
      · cases e2
      · simp only [Value.slice.injEq, Option.some.injEq, Addr.mk.injEq, and_true] at e3
        obtain ⟨rfl, _, rfl⟩ := e3
        exact ⟨cur3, hg3, by rw [hs3]; exact Nat.mul_le_mul_right _ hn⟩
    · have hc := World.ownsRow.cells hown (g := g) rfl
      have hx : xs.length = k * i.size := by rw [hown.1, hsize]
      have e1 := run_append_grow (P := P) w t ty e i z ht hi hz ⟨g, 0, none⟩ k cp xs hx (fun j u hu => hc j u hu) a m c news (by rw [hsize]; exact hl) hnews (by omega) (by unfold maxLen at h63; omega) (by rw [hby]; exact growslice_fits (by omega) hbytes)
      rw [hr] at e1
      cases e1
      exact ⟨cur, (Below.heap_alloc _ _ _ (Array.getElem?_eq_some_iff.1 hgg).1).trans hgg, hnc⟩

theorem wpList_append_row {P : Program} {ops : Array Oper} {rest : List Oper} {o : Oper} {a : Act} {Q : Exit → Act → World → Prop} (w : World) (hgd : o.guard = none) (s x : Operand) (t : TypeId)
    (ho : o.op = .call { callee := .builtin .append, args := #[s, x], argTypes := #[t, t] })
    (base : Nat) (e : TypeId) (i : TypeInfo) (z : Value) (size bytes : Nat) (ht : P.underlying t = some (.slice e)) (hi : P.info? e = some i) (hz : i.zero = some z)
    (hsize : i.size = size) (hby : i.bytes = bytes) (hzs : z.cells.size = size) (hsz : 0 < size)
    (v : Value) (n : Nat) (xs : List Value) (hs : a.eval s = v) (hown : w.ownsRow base e size v n xs)
    (ad : Addr) (m c : Nat) (news : List Value) (hx : a.eval x = .slice (some ad) m c) (hl : news.length = m * size) (hnews : ∀ j u, news[j]? = some u → w.cell? (ad.add j) = some u) (h1 : ∀ u ∈ news, u.oneCell' = true) (hm : 0 < m)
    (h63 : n + m ≤ maxLen) (hbytes : (n + m) * bytes ≤ 140737488355328) (hbase : base ≤ w.heap.size)
    (h : ∀ ov cap w', w.grownBy w' v.ownBlock → (∀ g k cp, v = .slice (some ⟨g, 0, none⟩) k cp → ∃ cur : Array Value, w'.heap[g]? = some (.cells cur e (0, 0)) ∧ n * size ≤ cur.size) → wpList P ops Q rest (a.put o.dst (.slice ov (n + m) cap)) w') : wpList P ops Q (o :: rest) a w := by
  refine wpList_plain hgd fun K hK => ?_
  obtain ⟨ov, cap, w', hr, h2, h3⟩ := append_row (P := P) w base t o.type e i z size bytes ht hi hz hsize hby hzs hsz v n xs hown ad m c news hl hnews h1 hm h63 hbytes hbase
  unfold Oper.wp execOp
  simp only [ho, resolve, invoke, builtin, Sem.run_bind, Sem.run_pure, Result.andThen_ok, List.map_toArray, List.map_cons, List.map_nil, hs, hx, hr]
  exact hK _ _ (h ov cap w' h2 h3)

def runeV (l : List Int) : List Value := l.map fun x => .int .i32 x
set_option maxRecDepth 100000 in
set_option maxHeartbeats 400000 in
/-- A row of runes that was told is its caller's own. -/
theorem runes_own (s : ByteArray) (hs : s.size ≤ 16777216) (w : World) :
    Calls Tryd.prog 34 #[.string s] w fun e w' => ∃ cap, e = .returned (.slice (some ⟨w.heap.size, 0, none⟩) (runesL s).length cap) ∧ w'.ownsRow w.heap.size 21 1 (.slice (some ⟨w.heap.size, 0, none⟩) (runesL s).length cap) (runesL s).length (runeV (runesL s)) ∧ Below w.heap.size w w' := by
  have hl : (runesL s).length ≤ s.size := by unfold runesL; rw [List.length_map]; exact sgns_length s _ _
  have hns : Conv.runesFrom s s.size 0 #[] = (runeV (runesL s)).toArray := by rw [runes_from]; simp [runesL, signs, runeV]
  have hvl : (runeV (runesL s)).length = (runesL s).length := by simp [runeV]
  have hcv := run_runes_of_string (P := Tryd.prog) w 9 44 21 s Tryd.underlying9 Tryd.underlying44 Tryd.underlying21 (by rw [hns]; simp only [List.size_toArray, hvl]; omega)
  rw [hns] at hcv
  simp only [List.size_toArray, hvl] at hcv
  have hg1 := grownCap_ge w (runesL s).length 0 21
  have hg2 := grownCap_le_maxLen w (runesL s).length 0 21 (by unfold maxLen; omega)
  generalize grownCap w (runesL s).length 0 21 = cap at *
  generalize runeV (runesL s) = V at *
  generalize (runesL s).length = n at *
  clear hns
  go_enter Tryd.func34, Tryd.ntmps34
  go_wp2
  go_ret
  have hh : (w.alloc (.cells (V.toArray ++ Array.replicate (cap - n) (Value.int .i32 0)) 21)).drew.heap[w.heap.size]? = some (.cells (V.toArray ++ Array.replicate (cap - n) (Value.int .i32 0)) 21 (0, 0)) := World.alloc_heap_new w (.cells (V.toArray ++ Array.replicate (cap - n) (Value.int .i32 0)) 21)
  refine ⟨cap, rfl, ⟨by omega, .inr ⟨w.heap.size, cap, V.toArray ++ Array.replicate (cap - n) (Value.int .i32 0), rfl, Nat.le_refl _, hh, hg1, hg2, by simp; omega, ?_⟩⟩, ((Below.refl _ w).alloc (Nat.le_refl _) _).drew⟩
  rw [Nat.mul_one, ← hvl]
  simp
end Go.Proofs.YtofhmecbcmahaaaDoor
