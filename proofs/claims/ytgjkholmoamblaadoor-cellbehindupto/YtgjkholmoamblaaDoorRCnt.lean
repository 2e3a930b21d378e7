/- Contracts of the document's own Count, Pairs and all (surtitleref1), and of the statements' Alike. -/
import Derived.Test.YtgjkholmoamblaaDoorRPla
import Derived.Test.YtgjkholmoamblaaDoorAllW
import Derived.Test.YtgjkholmoamblaaDoorW6
namespace Go.Proofs.YtgjkholmoamblaaDoor
open Go.RowKit

theorem spotAt_zero (s : ByteArray) : spotAt s 0 = ⟨0, 0, 0⟩ := rfl

theorem flatS_get : ∀ (l : List Sg) (n : Nat) (h : n < l.length), (flatS l)[n * 4]? = some (.int .i64 l[n].loc) ∧ (flatS l)[n * 4 + 1]? = some (.int .i64 l[n].len) ∧ (flatS l)[n * 4 + 2]? = some (.int .i32 l[n].rune) ∧ (flatS l)[n * 4 + 3]? = some (.bool l[n].bad)
  | [], _, h => by simp at h
  | x :: r, 0, _ => by simp [flatS]
  | x :: r, n + 1, h => by
    have := flatS_get r n (by simpa using h)
    have e : flatS (x :: r) = .int .i64 x.loc :: .int .i64 x.len :: .int .i32 x.rune :: .bool x.bad :: flatS r := by simp [flatS]
    rw [e, show (n + 1) * 4 = n * 4 + 1 + 1 + 1 + 1 by omega]
    simpa using this
/-- The four cells of a sign of the program's list. -/
def SAt (W : World) (g n : Nat) (x : Sg) : Prop := W.cell? ⟨g, n * 4, none⟩ = some (.int .i64 x.loc) ∧ W.cell? ⟨g, n * 4 + 1, none⟩ = some (.int .i64 x.len) ∧ W.cell? ⟨g, n * 4 + 2, none⟩ = some (.int .i32 x.rune) ∧ W.cell? ⟨g, n * 4 + 3, none⟩ = some (.bool x.bad)
theorem SAt.below {W W' : World} {g n m : Nat} {x : Sg} (h : SAt W g n x) (hb : Below m W W') (hg : g < m) : SAt W' g n x :=
  ⟨(hb.cell (p := ⟨g, n * 4, none⟩) hg).trans h.1, (hb.cell (p := ⟨g, n * 4 + 1, none⟩) hg).trans h.2.1, (hb.cell (p := ⟨g, n * 4 + 2, none⟩) hg).trans h.2.2.1, (hb.cell (p := ⟨g, n * 4 + 3, none⟩) hg).trans h.2.2.2⟩
theorem alls_at {W : World} {base e : Nat} {v : Value} {l : List Sg} (h : W.ownsRow base e 4 v l.length (flatS l)) :
    ∃ oa cap, v = .slice oa l.length cap ∧ ∀ n (hn : n < l.length), ∃ g, oa = some ⟨g, 0, none⟩ ∧ g < W.heap.size ∧ base ≤ g ∧ SAt W g n l[n] := by
  obtain ⟨h1, ⟨rfl, h0⟩ | ⟨g, cap, cur, rfl, hg, hh, hn, hcap, hsz, htake⟩⟩ := h
  · exact ⟨none, 0, by rw [h0], fun n hn => by omega⟩
  · refine ⟨some ⟨g, 0, none⟩, cap, rfl, fun n hn => ⟨g, rfl, (Array.getElem?_eq_some_iff.1 hh).1, hg, ?_⟩⟩
    obtain ⟨f0, f1, f2, f3⟩ := flatS_get l n hn
    rw [← htake, List.getElem?_take, if_pos (by omega), Array.getElem?_toList] at f0 f1 f2 f3
    exact ⟨by simpa [World.cell?, hh] using f0, by simpa [World.cell?, hh] using f1, by simpa [World.cell?, hh] using f2, by simpa [World.cell?, hh] using f3⟩

theorem dec_bd (s : ByteArray) (p : Nat) : (Utf8.decode s p).1 ≤ 1114111 := by
  rw [Lib.decode_at]
  have k0 := (s.get! p).toNat_lt
  rcases Lib.decodeN_shape (s.size - p) (s.get! p).toNat (s.get! (p + 1)).toNat (s.get! (p + 2)).toNat (s.get! (p + 3)).toNat with ⟨c, e⟩ | ⟨c1, c2, c3, cv, e⟩ | ⟨c1, c2, c3, c4, cv, cs, e⟩ | ⟨c1, c2, c3, c4, c5, cv, cw, e⟩ | e
  all_goals
    rw [e]
    dsimp only
    omega
theorem lies_mem {s : ByteArray} {x : Sg} : ∀ {l : List Sg} {p e : Nat}, Lies s p l e → x ∈ l → ∃ q, q < s.size ∧ x = sgn s q
  | [], _, _, _, h => by simp at h
  | y :: l, p, e, h, hx => by
    obtain ⟨h1, h2, h3⟩ := h
    rcases List.mem_cons.1 hx with rfl | hx
    · exact ⟨p, h1, h2⟩
    · exact lies_mem h3 hx
theorem rune_bd {s : ByteArray} {x : Sg} (h : x ∈ signs s) : 0 ≤ x.rune ∧ x.rune ≤ 1114111 := by
  obtain ⟨q, h1, h2⟩ := lies_mem (signs_lies s) h
  have := dec_bd s q
  rw [h2, (sgn_dec s q h1).2.2.1]
  omega
end Go.Proofs.YtgjkholmoamblaaDoor
