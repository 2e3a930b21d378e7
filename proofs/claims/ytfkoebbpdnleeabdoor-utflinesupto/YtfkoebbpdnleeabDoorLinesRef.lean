/- The contract of the document's own Lines (surtitleref1): the same lines, as a list. -/
import Derived.Test.YtfkoebbpdnleeabDoorFilesM
import Derived.Laws.AppendOwn
import Derived.WalkSmall
namespace Go.Proofs.YtfkoebbpdnleeabDoor
open Go.RowKit

theorem hideL {p : Prop} (h : p) : Hid p := h

/-- Lines as the cells of a list. -/
def flatL {s : ByteArray} (l : List (Ln s)) : List Value := l.flatMap fun x => [.int .i64 x.loc, .string (s.extract x.loc x.fin)]
theorem flatL_snoc {s : ByteArray} (l : List (Ln s)) (x : Ln s) : flatL (l ++ [x]) = flatL l ++ [.int .i64 x.loc, .string (s.extract x.loc x.fin)] := by simp [flatL]

theorem lineE_at (s : ByteArray) (p k : Nat) (h1 : p ≤ k) (h2 : k ≤ s.size) (h3 : ∀ j, p ≤ j → j < k → (s.get! j).toNat ≠ 10 ∧ (s.get! j).toNat ≠ 13) (h4 : k < s.size → (s.get! k).toNat = 10 ∨ (s.get! k).toNat = 13) : lineE s p = k := by
  obtain ⟨g1, g2, g3, g4⟩ := leF_spec s (s.size - p) p (by omega)
  unfold lineE
  generalize leF s (s.size - p) p = e at *
  by_cases a : e < k
  · have := h3 e g1 a
    have := g4 (by omega)
    omega
  · by_cases b : k < e
    · have := g3 k h1 b
      have := h4 (by omega)
      omega
    · omega

theorem infoLine : (Tryd.prog.info? 30).map (fun i => (i.zero, i.size, i.bytes)) = some (some (.agg #[.int .i64 0, .string ⟨#[]⟩]), 2, 24) := by kernel_rfl

/-- What the list holds: these lines. -/
def HoldsLines (s : ByteArray) (W : World) (base : Nat) (v : Value) (l : List (Ln s)) : Prop := W.ownsRow base 30 2 v l.length (flatL l)

set_option maxRecDepth 1000000 in
set_option maxHeartbeats 2000000 in
theorem refLines_any (s : ByteArray) (w : World) (hs : s.size ≤ 1048576) :
    Calls Tryd.prog 12 #[.string s] w fun e w' => ∃ v, e = .returned v ∧ HoldsLines s w' w.heap.size v (lines s) ∧ Below w.heap.size w w' := by
  obtain ⟨i0, hi, hz0, hz1, hz2⟩ := info_parts infoLine
  go_enter Tryd.func12, Tryd.ntmps12
  go_wp2
  go_loopw [3, 4, 5] (fun v f i wr => ∃ (pre : List (Ln s)) (p k b : Nat), f = .int .i64 p ∧ i = .int .i64 k ∧ HoldsLines s wr w.heap.size v pre ∧ Below w.heap.size w wr ∧ pre ++ linesF s b p = lines s ∧ s.size ≤ p + b ∧ p ≤ k ∧ k ≤ s.size ∧ pre.length ≤ p ∧
      Hid (∀ j, p ≤ j → j < k → (s.get! j).toNat ≠ 10 ∧ (s.get! j).toNat ≠ 13)) (fun _ _ i _ => s.size - (intOf i).toNat)
  case atStart => exact ⟨[], 0, 0, s.size, rfl, rfl, World.ownsRow_nil _ _ _ _, Below.refl _ _, rfl, by omega, by omega, by omega, by simp, fun j h1 h2 => by omega⟩
  case round =>
    obtain ⟨pre, p, k, b, rfl, rfl, hown, hB, hsg, hb, hpk, hks, hlen, HN⟩ := hrel
    have HS : Hid (pre ++ linesF s b p = lines s) := hsg
    clear hsg
    have hBz := hB.size
    by_cases hk : k < s.size
    · have hg : s.get! k = s[k] := get_at s k hk
      by_cases he : s[k].toNat = 10 ∨ s[k].toNat = 13
      · have hfin : lineE s p = k := lineE_at s p k hpk hks HN.out (fun _ => by rw [hg]; exact he)
        have hp : p < s.size := by omega
        obtain ⟨x, hx⟩ : ∃ x, lnAt s p hp = x := ⟨_, rfl⟩
        have hxl : x.loc = p := by rw [← hx]; rfl
        have hxf : x.fin = k := by rw [← hx]; exact hfin
        have hxn : x.next = k + (endL (s.extract k s.size)).toNat := by rw [Ln.next, hxf]
        have APP := hideL (fun (v' : Value) (w3 : World) (h1 : w3.ownsRow w.heap.size 30 2 v' (pre.length + 1) (flatL pre ++ [.int .i64 p, .string (s.extract p k)])) (h2 : (wr.alloc (.cells #[.int .i64 p, .string (s.extract p k)] 30)).grownBy w3 _) =>
          (⟨by unfold HoldsLines; rw [List.length_append, flatL_snoc, hxl, hxf]; exact h1, Below.grown (hB.alloc hBz _) h2 (by simp; omega) (fun j hj => (World.ownsRow.lt hown _ hj).1)⟩ : HoldsLines s w3 w.heap.size v' (pre ++ [x]) ∧ Below w.heap.size w w3))
        have NEXT : ∀ b', b = b' + 1 → (pre ++ [x]) ++ linesF s b' x.next = lines s := fun b' e => by
          have := HS.out
          rw [e, linesF, dif_pos hp, hx] at this
          simpa using this
        obtain ⟨b', hb'⟩ : ∃ b', b = b' + 1 := ⟨b - 1, by omega⟩
        have NX := hideL (NEXT b' hb')
        rw [hxn] at NX
        clear NEXT hx hxl hxf hxn hfin HS HN
        by_cases h13 : s[k].toNat = 13
        · have t1 : ((s[k].toNat : Int) != 10) = true := by rw [bne_iff_ne]; omega
          have t2 : ((s[k].toNat : Int) != 13) = false := by rw [bne_eq_false_iff_eq]; omega
          have t3 : ((s[k].toNat : Int) == 13) = true := beq_iff_eq.2 (by omega)
          by_cases hk2 : k + 1 < s.size
          · by_cases h10 : s[k + 1].toNat = 10
            · have t4 : ((s[k + 1].toNat : Int) == 10) = true := beq_iff_eq.2 (by omega)
              have EN := endL_crlf s k hk2 h13 h10
              rw [EN] at NX
              clear he h13 h10 hg EN
              go_wp2_with (at_builtin; refine wpList_append_own _ rfl _ _ 24 rfl w.heap.size 30 i0 (.agg #[.int .i64 0, .string ⟨#[]⟩]) 2 24 Tryd.underlying24 hi hz0 hz1 hz2 rfl (by decide) _ _ _ rfl (hown.alloc _) ⟨wr.heap.size, 0, none⟩ 1 1 [.int .i64 p, .string (s.extract p k)] rfl rfl (cell_two_new _ _ _ _) (fun x hx => by simp at hx; rcases hx with rfl | rfl <;> rfl) (by unfold maxLen; omega) (by omega) (by simp; omega) ?_; intro v' w3 hown' hgrow3 hnil3; have X := APP.out v' w3 hown' hgrow3; clear hown' hgrow3 hnil3)

              exact ⟨⟨pre ++ [x], k + 2, k + 2, b', by go_num, by go_num, X.1, X.2, NX.out, by omega, by omega, by omega, by simp; omega, fun j h1 h2 => by omega⟩, by simp [intOf]; omega⟩
            · have t4 : ((s[k + 1].toNat : Int) == 10) = false := beq_eq_false_iff_ne.2 (by omega)
              have EN := endL_one s k hk (fun h => h10 h.2.2)
              rw [EN] at NX
              clear he h13 h10 hg EN
              go_wp2_with (at_builtin; refine wpList_append_own _ rfl _ _ 24 rfl w.heap.size 30 i0 (.agg #[.int .i64 0, .string ⟨#[]⟩]) 2 24 Tryd.underlying24 hi hz0 hz1 hz2 rfl (by decide) _ _ _ rfl (hown.alloc _) ⟨wr.heap.size, 0, none⟩ 1 1 [.int .i64 p, .string (s.extract p k)] rfl rfl (cell_two_new _ _ _ _) (fun x hx => by simp at hx; rcases hx with rfl | rfl <;> rfl) (by unfold maxLen; omega) (by omega) (by simp; omega) ?_; intro v' w3 hown' hgrow3 hnil3; have X := APP.out v' w3 hown' hgrow3; clear hown' hgrow3 hnil3)
              exact ⟨⟨pre ++ [x], k + 1, k + 1, b', by go_num, by go_num, X.1, X.2, NX.out, by omega, by omega, by omega, by simp; omega, fun j h1 h2 => by omega⟩, by simp [intOf]; omega⟩
          · have EN := endL_one s k hk (fun h => hk2 h.2.1)
            rw [EN] at NX
            clear he h13 hg EN
            go_wp2_with (at_builtin; refine wpList_append_own _ rfl _ _ 24 rfl w.heap.size 30 i0 (.agg #[.int .i64 0, .string ⟨#[]⟩]) 2 24 Tryd.underlying24 hi hz0 hz1 hz2 rfl (by decide) _ _ _ rfl (hown.alloc _) ⟨wr.heap.size, 0, none⟩ 1 1 [.int .i64 p, .string (s.extract p k)] rfl rfl (cell_two_new _ _ _ _) (fun x hx => by simp at hx; rcases hx with rfl | rfl <;> rfl) (by unfold maxLen; omega) (by omega) (by simp; omega) ?_; intro v' w3 hown' hgrow3 hnil3; have X := APP.out v' w3 hown' hgrow3; clear hown' hgrow3 hnil3)
            exact ⟨⟨pre ++ [x], k + 1, k + 1, b', by go_num, by go_num, X.1, X.2, NX.out, by omega, by omega, by omega, by simp; omega, fun j h1 h2 => by omega⟩, by simp [intOf]; omega⟩
        · have t1 : ((s[k].toNat : Int) != 10) = false := by rw [bne_eq_false_iff_eq]; omega
          have t3 : ((s[k].toNat : Int) == 13) = false := beq_eq_false_iff_ne.2 (by omega)
          have EN := endL_one s k hk (fun h => h13 h.1)
          rw [EN] at NX
          clear he h13 hg EN
          go_wp2_with (at_builtin; refine wpList_append_own _ rfl _ _ 24 rfl w.heap.size 30 i0 (.agg #[.int .i64 0, .string ⟨#[]⟩]) 2 24 Tryd.underlying24 hi hz0 hz1 hz2 rfl (by decide) _ _ _ rfl (hown.alloc _) ⟨wr.heap.size, 0, none⟩ 1 1 [.int .i64 p, .string (s.extract p k)] rfl rfl (cell_two_new _ _ _ _) (fun x hx => by simp at hx; rcases hx with rfl | rfl <;> rfl) (by unfold maxLen; omega) (by omega) (by simp; omega) ?_; intro v' w3 hown' hgrow3 hnil3; have X := APP.out v' w3 hown' hgrow3; clear hown' hgrow3 hnil3)
          exact ⟨⟨pre ++ [x], k + 1, k + 1, b', by go_num, by go_num, X.1, X.2, NX.out, by omega, by omega, by omega, by simp; omega, fun j h1 h2 => by omega⟩, by simp [intOf]; omega⟩
      · have t1 : ((s[k].toNat : Int) != 10) = true := by rw [bne_iff_ne]; omega
        have t2 : ((s[k].toNat : Int) != 13) = true := by rw [bne_iff_ne]; omega
        have HN2 : Hid (∀ j, p ≤ j → j < k + 1 → (s.get! j).toNat ≠ 10 ∧ (s.get! j).toNat ≠ 13) := fun j h1 h2 => by
          by_cases e : j = k
          · subst e; rw [hg]; omega
          · exact HN.out j h1 (by omega)
        clear he hg
        go_wp2
        exact ⟨⟨pre, p, k + 1, b, rfl, by go_num, hown, hB, HS.out, hb, by omega, by omega, hlen, HN2⟩, by simp [intOf]; omega⟩
    · obtain rfl : k = s.size := by omega
      by_cases hp : p < s.size
      · have hfin : lineE s p = s.size := lineE_at s p s.size hpk hks HN.out (fun h => by omega)
        obtain ⟨x, hx⟩ : ∃ x, lnAt s p hp = x := ⟨_, rfl⟩
        have hxl : x.loc = p := by rw [← hx]; rfl
        have hxf : x.fin = s.size := by rw [← hx]; exact hfin
        have hxn : x.next = s.size := by rw [Ln.next, hxf, endL_none s s.size (by omega)]; rfl
        have APP := hideL (fun (v' : Value) (w3 : World) (h1 : w3.ownsRow w.heap.size 30 2 v' (pre.length + 1) (flatL pre ++ [.int .i64 p, .string (s.extract p s.size)])) (h2 : (wr.alloc (.cells #[.int .i64 p, .string (s.extract p s.size)] 30)).grownBy w3 _) =>
          (⟨by unfold HoldsLines; rw [List.length_append, flatL_snoc, hxl, hxf]; exact h1, Below.grown (hB.alloc hBz _) h2 (by simp; omega) (fun j hj => (World.ownsRow.lt hown _ hj).1)⟩ : HoldsLines s w3 w.heap.size v' (pre ++ [x]) ∧ Below w.heap.size w w3))
        have ALL : Hid (pre ++ [x] = lines s) := by
          show pre ++ [x] = lines s
          obtain ⟨b', hb'⟩ : ∃ b', b = b' + 1 := ⟨b - 1, by omega⟩
          have := HS.out
          rw [hb', linesF, dif_pos hp, hx, hxn, linesF_end s b' s.size (by omega)] at this
          exact this
        clear hx hxl hxf hxn hfin HS HN
        go_wp2_with (at_builtin; refine wpList_append_own _ rfl _ _ 24 rfl w.heap.size 30 i0 (.agg #[.int .i64 0, .string ⟨#[]⟩]) 2 24 Tryd.underlying24 hi hz0 hz1 hz2 rfl (by decide) _ _ _ rfl (hown.alloc _) ⟨wr.heap.size, 0, none⟩ 1 1 [.int .i64 p, .string (s.extract p s.size)] rfl rfl (cell_two_new _ _ _ _) (fun x hx => by simp at hx; rcases hx with rfl | rfl <;> rfl) (by unfold maxLen; omega) (by omega) (by simp; omega) ?_; intro v' w3 hown' hgrow3 hnil3; have X := APP.out v' w3 hown' hgrow3; clear hown' hgrow3 hnil3)
        go_ret
        exact ⟨_, rfl, by rw [← ALL.out]; exact X.1, X.2⟩
      · have ALL : Hid (pre = lines s) := by
          show pre = lines s
          have := HS.out
          rw [linesF_end s b p hp] at this
          simpa using this
        go_wp2
        go_ret
        exact ⟨_, rfl, by rw [← ALL.out]; exact hown, hB⟩
end Go.Proofs.YtfkoebbpdnleeabDoor
