/- The contracts of the document's own Of (surtitleref2) and of the statements' as. -/
import Derived.Test.YtgjkholmoamblaaDoorRefMt
import Derived.Test.YtgjkholmoamblaaDoorCellL
import Derived.Test.YtgjkholmoamblaaDoorCellK
namespace Go.Proofs.YtgjkholmoamblaaDoor
open Go.RowKit

theorem listR_of {W : World} {base : Nat} {t : TypeId} {v : Value} {l : List Cl} (h : W.ownsRow base t 5 v l.length (flatC l)) : ListC W v l := by
  rcases h.2 with ⟨h1, h2⟩ | ⟨g, cap, cur, rfl, hb, hg, h3, h4, h5, h6⟩
  · exact .inl ⟨h1, List.length_eq_zero_iff.1 h2⟩
  · refine .inr ⟨g, cap, rfl, (Array.getElem?_eq_some_iff.1 hg).1, h3, h4, fun i c hc => ?_⟩
    have hi : i < l.length := (List.getElem?_eq_some_iff.1 hc).1
    have key : ∀ k, i * 5 + k < l.length * 5 → W.cell? ⟨g, i * 5 + k, none⟩ = (flatC l)[i * 5 + k]? := fun k hk => by
      rw [← h6, List.getElem?_take, if_pos hk]
      simp [World.cell?, hg]
    obtain ⟨e0, e1, e2, e3, e4⟩ := flatC_get l i c hc
    refine ⟨?_, (key 1 (by omega)).trans e1, (key 2 (by omega)).trans e2, (key 3 (by omega)).trans e3, (key 4 (by omega)).trans e4⟩
    have := key 0 (by omega)
    simp only [Nat.add_zero] at this
    exact this.trans e0
theorem ListC.nil {W : World} {v : Value} (h : ListC W v []) : ∃ b c, v = .slice b 0 c := by
  rcases h with ⟨rfl, _⟩ | ⟨g, cap, rfl, _⟩
  · exact ⟨_, _, rfl⟩
  · exact ⟨_, _, rfl⟩

set_option maxRecDepth 100000 in
set_option maxHeartbeats 4000000 in
theorem as_any (a b c d e : Int) (w : World) :
    Calls Tryd.prog 24 #[.agg #[.int .i64 a, .int .i64 b, .int .i64 c, .int .i64 d, .int .i64 e]] w fun r w' => r = .returned (.agg #[.int .i64 a, .int .i64 b, .int .i64 c, .int .i64 d, .int .i64 e]) ∧ Below w.heap.size w w' := by
  go_enter Tryd.func24, Tryd.ntmps24
  go_wp2
  exact bodyPost_ret (v := .agg #[.int .i64 a, .int .i64 b, .int .i64 c, .int .i64 d, .int .i64 e]) (by simp [results, Tryd.results24, go_sem]) rfl ⟨rfl, by refine Below.alloc (Below.alloc (Below.refl _ _) (Nat.le_refl _) _) ?_ _; simp⟩

set_option maxRecDepth 100000 in
set_option maxHeartbeats 4000000 in
theorem refOf_any (s : ByteArray) (hs : s.size ≤ 1048576) (w : World) :
    Calls Tryd.prog 27 #[.string s] w fun e w' => e = .returned (.int .i64 (ofI s)) ∧ Below w.heap.size w w' := by
  have HR := hideC (refClusters_any s hs)
  rw [rcl_clusters] at HR
  have hle := clusters_le s
  go_enter Tryd.func27, Tryd.ntmps27
  go_wp2_with fail
  refine (HR.out _).mono ?_
  rintro e w1 ⟨v, rfl, hrow, hb1⟩
  have hL := listR_of hrow
  clear hrow
  by_cases hn : clusters s = []
  · rw [hn] at hL
    obtain ⟨bb, cc, rfl⟩ := hL.nil
    have hof : ofI s = 0 := by unfold ofI; rw [hn]; rfl
    clear hL
    go_wp2
    go_loopw [3, 5] (fun a i wr => a = .int .i64 0 ∧ i = .int .i64 0 ∧ w1 = wr) (fun _ _ _ => 0)
    case atStart => exact ⟨by first | rfl | go_num, by first | rfl | go_num, rfl⟩
    case round =>
      obtain ⟨rfl, rfl, rfl⟩ := hrel
      go_wp2
      go_ret
      exact ⟨by rw [hof]; rfl, hb1⟩
  · rcases hL with ⟨_, h⟩ | ⟨g, cap, rfl, hg, hl, hcap, hcells⟩
    · exact absurd h hn
    · go_wp2
      go_loopw [3, 5] (fun a i wr => ∃ pre r, Hid (pre ++ r = clusters s) ∧ i = .int .i64 (pre.length : Nat) ∧ a = .int .i64 (cellsOf pre) ∧ w1 = wr) (fun _ i _ => (clusters s).length - (intOf i).toNat)
      case atStart => exact ⟨[], clusters s, rfl, by first | rfl | go_num, by first | rfl | go_num, rfl⟩
      case round =>
        obtain ⟨pre, r, HP, rfl, rfl, rfl⟩ := hrel
        have hlen : pre.length + r.length = (clusters s).length := by rw [← HP.out]; simp
        cases r with
        | nil =>
          have hpre : pre = clusters s := by simpa using HP.out
          have hof : ofI s = cellsOf pre := by unfold ofI; rw [hpre]
          simp at hlen
          clear hcells HP hpre
          go_wp2
          go_ret
          exact ⟨by rw [hof]; rfl, hb1⟩
        | cons x r =>
          have hk : pre.length < (clusters s).length := by simp at hlen; omega
          have hge : (clusters s)[pre.length]? = some x := by rw [← HP.out]; simp
          obtain ⟨_, _, _, _, c4⟩ := hcells _ _ hge
          obtain ⟨⟨p1, p2⟩, p3, p4⟩ := front_bd (s := s) (pre := pre) (x := x) ⟨r, by simpa using HP.out⟩
          clear hcells hge
          go_wp2
          go_roundw
          case rel => exact ⟨pre ++ [x], r, hideC (by simpa using HP.out), by simp, by rw [cellsOf_snoc], by first | rfl | trivial⟩
          case measure => simp [intOf]; omega

end Go.Proofs.YtgjkholmoamblaaDoor
