/- Several texts, one behind the other. -/
import Derived.Maps.AppendAt
import Derived.Test.YthonbeonjjhmlaaDoorRS
import Derived.Test.YthonbeonjjhmlaaDoorW4
import Derived.Test.YthonbeonjjhmlaaDoorW6
/- The contract of the statements' own all: the signs that utf.Signs goes over, as a list. -/
namespace Go.Proofs.YthonbeonjjhmlaaDoor
open Go.RowKit Go.Shelf
attribute [local go_sem] Oper.semAt_some

/-- Signs as the cells of a list. -/
def flatS (l : List Sg) : List Value := l.flatMap fun x => [.int .i64 x.loc, .int .i64 x.len, .int .i32 x.rune, .bool x.bad]
theorem flatS_snoc (l : List Sg) (x : Sg) : flatS (l ++ [x]) = flatS l ++ [.int .i64 x.loc, .int .i64 x.len, .int .i32 x.rune, .bool x.bad] := by simp [flatS]
theorem infoSign : (Tryd.prog.info? 45).map (fun i => (i.zero, i.size, i.bytes)) = some (some (.agg #[.int .i64 0, .int .i64 0, .int .i32 0, .bool false]), 4, 24) := by kernel_rfl
def HoldsSigns (W : World) (base : Nat) (v : Value) (l : List Sg) : Prop := W.ownsRow base 45 4 v l.length (flatS l)
theorem cell_four_new (w : World) (a b c d : Value) (t : TypeId) : ∀ j u, [a, b, c, d][j]? = some u → (w.alloc (.cells #[a, b, c, d] t)).cell? ((⟨w.heap.size, 0, none⟩ : Addr).add j) = some u := by
  intro j u hj
  match j, hj with
  | 0, hj => simp at hj; subst hj; simp [Addr.add]
  | 1, hj => simp at hj; subst hj; simp [Addr.add]
  | 2, hj => simp at hj; subst hj; simp [Addr.add]
  | 3, hj => simp at hj; subst hj; simp [Addr.add]
  | j + 4, hj => simp at hj

end Go.Proofs.YthonbeonjjhmlaaDoor

/- Contracts of the document's own Count, Pairs and all (surtitleref1), and of the statements' Alike. -/
namespace Go.Proofs.YthonbeonjjhmlaaDoor
open Go.RowKit

set_option maxHeartbeats 400000 in
theorem rcount_any (s : ByteArray) (hs : s.size ≤ 1048576) (w : World) :
    Calls Tryd.prog 24 #[.string s] w fun e w' => e = .returned (.int .i64 (signs s).length) ∧ Below w.heap.size w w' := by
  go_enter Tryd.func24, Tryd.ntmps24
  go_wp2_with fail
  refine (rsigns_any s hs _).mono ?_
  rintro e w1 ⟨lv, rfl, hown, hB1⟩
  obtain ⟨oa, cap, rfl, hcell⟩ := rows_at hown
  clear hcell hown
  go_wp2
  go_ret
  exact ⟨rfl, hB1⟩

theorem spotAt_zero (s : ByteArray) : spotAt s 0 = ⟨0, 0, 0⟩ := rfl

theorem flatS_get : ∀ (l : List Sg) (n : Nat) (h : n < l.length), (flatS l)[n * 4]? = some (.int .i64 l[n].loc) ∧ (flatS l)[n * 4 + 1]? = some (.int .i64 l[n].len) ∧ (flatS l)[n * 4 + 2]? = some (.int .i32 l[n].rune) ∧ (flatS l)[n * 4 + 3]? = some (.bool l[n].bad)
  | [], _, h => by simp at h
  | x :: r, 0, _ => by simp [flatS]
  | x :: r, n + 1, h => by
    have := flatS_get r n (by simpa using h)
    have e : flatS (x :: r) = .int .i64 x.loc :: .int .i64 x.len :: .int .i32 x.rune :: .bool x.bad :: flatS r := by simp [flatS]
    rw [e, show (n + 1) * 4 = n * 4 + 1 + 1 + 1 + 1 by omega]
    simpa using this
/-- The four cells of a sign of the program's list. -/
def SAt (W : World) (g n : Nat) (x : Sg) : Prop := W.cell? ⟨g, n * 4, none⟩ = some (.int .i64 x.loc) ∧ W.cell? ⟨g, n * 4 + 1, none⟩ = some (.int .i64 x.len) ∧ W.cell? ⟨g, n * 4 + 2, none⟩ = some (.int .i32 x.rune) ∧ W.cell? ⟨g, n * 4 + 3, none⟩ = some (.bool x.bad)
theorem SAt.below {W W' : World} {g n m : Nat} {x : Sg} (h : SAt W g n x) (hb : Below m W W') (hg : g < m) : SAt W' g n x :=
  ⟨(hb.cell (p := ⟨g, n * 4, none⟩) hg).trans h.1, (hb.cell (p := ⟨g, n * 4 + 1, none⟩) hg).trans h.2.1, (hb.cell (p := ⟨g, n * 4 + 2, none⟩) hg).trans h.2.2.1, (hb.cell (p := ⟨g, n * 4 + 3, none⟩) hg).trans h.2.2.2⟩
theorem alls_at {W : World} {base e : Nat} {v : Value} {l : List Sg} (h : W.ownsRow base e 4 v l.length (flatS l)) :
    ∃ oa cap, v = .slice oa l.length cap ∧ ∀ n (hn : n < l.length), ∃ g, oa = some ⟨g, 0, none⟩ ∧ g < W.heap.size ∧ base ≤ g ∧ SAt W g n l[n] := by
  obtain ⟨h1, ⟨rfl, h0⟩ | ⟨g, cap, cur, rfl, hg, hh, hn, hcap, hsz, htake⟩⟩ := h
  · exact ⟨none, 0, by rw [h0], fun n hn => by omega⟩
  · refine ⟨some ⟨g, 0, none⟩, cap, rfl, fun n hn => ⟨g, rfl, (Array.getElem?_eq_some_iff.1 hh).1, hg, ?_⟩⟩
    obtain ⟨f0, f1, f2, f3⟩ := flatS_get l n hn
    rw [← htake, List.getElem?_take, if_pos (by omega), Array.getElem?_toList] at f0 f1 f2 f3
    exact ⟨by simpa [World.cell?, hh] using f0, by simpa [World.cell?, hh] using f1, by simpa [World.cell?, hh] using f2, by simpa [World.cell?, hh] using f3⟩

set_option maxRecDepth 100000 in
set_option maxHeartbeats 2000000 in
theorem alike_any (w : World) (l : List Sg) (oa ob : Option Addr) (ca cb : Nat) (hln : l.length ≤ 1048576) (HA : Hid (∀ n (hn : n < l.length), ∃ g, oa = some ⟨g, 0, none⟩ ∧ SAt w g n l[n])) (HR : Hid (∀ n (hn : n < l.length), ∃ g, ob = some ⟨g, 0, none⟩ ∧ RAt w g n l[n])) (hr : ∀ x ∈ l, -2147483648 ≤ x.rune ∧ x.rune ≤ 2147483647) :
    Calls Tryd.prog 15 #[.slice oa l.length ca, .slice ob l.length cb] w fun e w' => e = .returned (.bool true) ∧ Below w.heap.size w w' := by
  have HH := hideO hr
  clear hr
  go_enter Tryd.func15, Tryd.ntmps15
  go_wp2
  go_loopw [5] (fun i wr => ∃ k : Nat, i = .int .i64 k ∧ k ≤ l.length ∧ Below w.heap.size w wr) (fun i _ => l.length - (intOf i).toNat)
  case atStart => exact ⟨0, rfl, by omega, Below.refl _ _⟩
  case round =>
    obtain ⟨k, rfl, hk, hB⟩ := hrel
    by_cases hkl : k < l.length
    · obtain ⟨g, rfl, hs⟩ := HA.out k hkl
      obtain ⟨h, rfl, hr⟩ := HR.out k hkl
      have hgz : g < w.heap.size := World.block_lt_of_cell? w _ hs.1
      have hhz : h < w.heap.size := World.block_lt_of_cell? w _ hr.1
      obtain ⟨a0, a1, a2, a3⟩ := hs.below hB hgz
      obtain ⟨b0, b1, b2, b3⟩ := hr.below hB hhz
      have hx := HH.out l[k] (List.getElem_mem hkl)
      have hw1 : IntKind.i64.wrap l[k].rune = l[k].rune := by rw [IntKind.wrap_i64]; omega
      have hki : (k : Int) < (l.length : Int) := by omega
      clear hs hr
      generalize l[k] = x at *
      go_wp2
      go_quiet (fail)
      go_wp2
      exact ⟨⟨k + 1, by go_num, by omega, below_dn hB nq⟩, by simp [intOf]; omega⟩
    · obtain rfl : k = l.length := by omega
      go_wp2
      go_ret
      exact ⟨rfl, hB⟩
theorem dec_bd (s : ByteArray) (p : Nat) : (Utf8.decode s p).1 ≤ 1114111 := by
  rw [Lib.decode_at]
  have k0 := (s.get! p).toNat_lt
  rcases Lib.decodeN_shape (s.size - p) (s.get! p).toNat (s.get! (p + 1)).toNat (s.get! (p + 2)).toNat (s.get! (p + 3)).toNat with ⟨c, e⟩ | ⟨c1, c2, c3, cv, e⟩ | ⟨c1, c2, c3, c4, cv, cs, e⟩ | ⟨c1, c2, c3, c4, c5, cv, cw, e⟩ | e
  all_goals
    rw [e]
    dsimp only
    omega
theorem lies_mem {s : ByteArray} {x : Sg} : ∀ {l : List Sg} {p e : Nat}, Lies s p l e → x ∈ l → ∃ q, q < s.size ∧ x = sgn s q
  | [], _, _, _, h => by simp at h
  | y :: l, p, e, h, hx => by
    obtain ⟨h1, h2, h3⟩ := h
    rcases List.mem_cons.1 hx with rfl | hx
    · exact ⟨p, h1, h2⟩
    · exact lies_mem h3 hx
theorem rune_bd {s : ByteArray} {x : Sg} (h : x ∈ signs s) : 0 ≤ x.rune ∧ x.rune ≤ 1114111 := by
  obtain ⟨q, h1, h2⟩ := lies_mem (signs_lies s) h
  have := dec_bd s q
  rw [h2, (sgn_dec s q h1).2.2.1]
  omega
end Go.Proofs.YthonbeonjjhmlaaDoor
