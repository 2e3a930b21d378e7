/- Several texts, one behind the other. -/
import Derived.Deep.RegionLaw
import Derived.Deep.RegionHeld3
import Derived.Deep.CutBlock
import Derived.Test.YtipnefaggpigfaaGA
import Derived.Test.YtipnefaggpigfaaGC
import Derived.Test.YtipnefaggpigfaaGD
import Derived.Test.YtipnefaggpigfaaGE
import Derived.Test.YtipnefaggpigfaaGH
import Derived.Test.YtipnefaggpigfaaGI
/- The reference's Then: the points get one ahead and one behind (chapter 6), over letters. -/
namespace Go.Proofs.Ytipnefaggpigfaa
open Go.RowKit Go.Shelf

set_option maxRecDepth 100000 in
set_option maxHeartbeats 4000000 in
theorem regT18 {cod : Code} {Q : Exit → Act → World → Prop} {df : List Deferred} {W : World} {base gm n cm q1 q2 : Nat} {a z : Rt} {P : List Rt} {y0 y1 y2 y3 y4 y5 y7 y8 y9 y10 y12 y14 y15 y16 y17 y18 y19 y20 y21 y22 y23 y24 y25 y26 y27 y28 y29 y30 y31 y32 y33 y34 y35 y36 y37 y38 y39 y40 y41 y42 y43 y44 y45 y46 y47 y48 y49 y50 y51 y52 y53 y54 y55 y56 y57 y58 y59 y60 y61 y62 y63 y64 y65 y66 y67 y68 y69 y70 y71 y72 y73 y74 y75 y76 y77 y78 y79 y80 y81 y82 y83 y84 y85 y86 y87 y88 y89 y90 y91 y92 y93 y94 y95 y96 y97 y98 y99 y100 y101 y102 y103 y104 y105 y106 y107 y108 y109 y110 y111 y112 y113 y114 y115 y116 y117 y118 y119 y120 : Value} (hc : Try.f11.body.bind (findG 18) = some cod)
    (hn : P.length = n) (hn0 : 0 < n) (hn2 : n ≤ 2000) (hP : RtO W (some ⟨gm, 0, none⟩) P) (hT1 : Two W q1 (.int .i64 a.N) (.int .i64 a.D)) (hT2 : Two W q2 (.int .i64 z.N) (.int .i64 z.D)) (hb : base ≤ W.heap.size)
    (hQ : ∀ (z74 z75 z76 z77 z78 z79 z80 : Value) (g c : Nat) (X : World), X.ownsRow base 42 2 (.slice (some ⟨g, 0, none⟩) (n + 2) c) (n + 2) (flatRt (a :: (P ++ [z]))) → Below W.heap.size W X → Q .normal ⟨#[y0, y1, y2, y3, y4, y5, .slice (some ⟨g, 0, none⟩) (n + 2) c, y7, y8, y9, y10, .pointer (some ⟨q1, 0, none⟩), y12, .pointer (some ⟨q2, 0, none⟩), y14, y15, y16, y17, y18, y19, y20, y21, y22, y23, y24, y25, y26, y27, y28, y29, y30, y31, y32, y33, y34, y35, y36, y37, y38, y39, y40, y41, y42, y43, y44, y45, y46, y47, y48, y49, y50, y51, y52, y53, y54, y55, y56, y57, y58, y59, y60, y61, y62, y63, y64, y65, y66, y67, y68, y69, y70, y71, y72, y73, z74, z75, z76, z77, z78, z79, z80, y81, y82, y83, y84, y85, y86, y87, y88, y89, y90, y91, y92, y93, y94, y95, y96, y97, y98, y99, y100, y101, y102, y103, y104, y105, y106, y107, y108, y109, y110, y111, y112, y113, y114, y115, y116, y117, y118, y119, y120], df⟩ X) :
    cod.wp Try.prog Q ⟨#[y0, y1, y2, y3, y4, y5, .slice (some ⟨gm, 0, none⟩) n cm, y7, y8, y9, y10, .pointer (some ⟨q1, 0, none⟩), y12, .pointer (some ⟨q2, 0, none⟩), y14, y15, y16, y17, y18, y19, y20, y21, y22, y23, y24, y25, y26, y27, y28, y29, y30, y31, y32, y33, y34, y35, y36, y37, y38, y39, y40, y41, y42, y43, y44, y45, y46, y47, y48, y49, y50, y51, y52, y53, y54, y55, y56, y57, y58, y59, y60, y61, y62, y63, y64, y65, y66, y67, y68, y69, y70, y71, y72, y73, y74, y75, y76, y77, y78, y79, y80, y81, y82, y83, y84, y85, y86, y87, y88, y89, y90, y91, y92, y93, y94, y95, y96, y97, y98, y99, y100, y101, y102, y103, y104, y105, y106, y107, y108, y109, y110, y111, y112, y113, y114, y115, y116, y117, y118, y119, y120], df⟩ W := by
  suffices hS : ∃ co : Code, (Try.f11.body.bind (findG 18)) = some co ∧ co.wp Try.prog Q ⟨#[y0, y1, y2, y3, y4, y5, .slice (some ⟨gm, 0, none⟩) n cm, y7, y8, y9, y10, .pointer (some ⟨q1, 0, none⟩), y12, .pointer (some ⟨q2, 0, none⟩), y14, y15, y16, y17, y18, y19, y20, y21, y22, y23, y24, y25, y26, y27, y28, y29, y30, y31, y32, y33, y34, y35, y36, y37, y38, y39, y40, y41, y42, y43, y44, y45, y46, y47, y48, y49, y50, y51, y52, y53, y54, y55, y56, y57, y58, y59, y60, y61, y62, y63, y64, y65, y66, y67, y68, y69, y70, y71, y72, y73, y74, y75, y76, y77, y78, y79, y80, y81, y82, y83, y84, y85, y86, y87, y88, y89, y90, y91, y92, y93, y94, y95, y96, y97, y98, y99, y100, y101, y102, y103, y104, y105, y106, y107, y108, y109, y110, y111, y112, y113, y114, y115, y116, y117, y118, y119, y120], df⟩ W by
    obtain ⟨c2, h1, h2⟩ := hS
    rw [hc] at h1
    cases h1
    exact h2
  clear hc
  refine ⟨_, rfl, ?_⟩
  obtain ⟨i0, hI, hz0, hz1, hz2⟩ := info_partsK infoRtK
  have hmx : maxLen ≤ 9223372036854775807 := by decide
  replace hQ := hideK hQ
  have HLn : Hid ((flatRt P).length = n * 2) := hideK (by rw [flatRt_len, hn])
  obtain ⟨_, x0, x1, _, _⟩ := hT1
  obtain ⟨_, xb0, xb1, _, _⟩ := (show Two W q1 _ _ from ⟨‹_›, x0, x1, ‹_›, ‹_›⟩).keep (bel1 W (.cells #[.int .i64 z.N, .int .i64 z.D] 42))
  obtain ⟨_, y0, y1, _, _⟩ := hT2
  have hT2 : Two W q2 (.int .i64 z.N) (.int .i64 z.D) := ⟨‹_›, y0, y1, ‹_›, ‹_›⟩
  obtain ⟨_, ya0, ya1, _, _⟩ := hT2.keep (bel1 W (.cells #[.int .i64 a.N, .int .i64 a.D] 42))
  have oA1 := (own_rateV W base hb a).drew
  have oA2 := (own_growK (own_rateV W base hb a) (bel1 _ (.cells #[.int .i64 z.N, .int .i64 z.D] 42))).drew
  have oA3 := (own_rateV (W.alloc (.cells #[.int .i64 z.N, .int .i64 z.D] 42)) base (by simp; omega) a).drew
  rw [World.size_alloc] at oA3
  have hB2 := World.alloc_heap_new (W.alloc (.cells #[.int .i64 a.N, .int .i64 a.D] 42)) (.cells #[.int .i64 z.N, .int .i64 z.D] 42)
  rw [World.size_alloc] at hB2
  have hB3 : ((W.alloc (.cells #[.int .i64 z.N, .int .i64 z.D] 42)).alloc (.cells #[.int .i64 a.N, .int .i64 a.D] 42)).heap[W.heap.size]? = some (.cells #[.int .i64 z.N, .int .i64 z.D] 42) := (Below.heap_alloc _ _ _ (by simp)).trans (World.alloc_heap_new W (.cells #[.int .i64 z.N, .int .i64 z.D] 42))
  refine Code.wp_mono (Q := fun x a w => match x with | .normal => Q .normal a w | _ => False) (fun x a w h => by cases x <;> first | exact h | exact h.elim) ?_
  dsimp only [List.append]
  go_region_law
    (first
    | (refine step_append_lies _ (by rfl) _ _ 23 (by rfl) base 42 i0 _ 2 16 Try.underlying23 hI hz0 hz1 hz2 rfl (by decide) (.slice (some ⟨W.heap.size, 0, none⟩) 1 1) 1 (flatRt [a]) (by rfl) oA1 ⟨gm, 0, none⟩ n cm (flatRt P) (by rfl) HLn.out (((hP.keep ((bel1 W (.cells #[.int .i64 a.N, .int .i64 a.D] 42)).drew)).newsM _ rfl)) (flatRt_one P) hn0 (by unfold maxLen; omega) (by omega) (by first | omega | (simp; omega)) _ rfl ?_; intro g5 cap5 w5 hown5 hgrow5 hat5 hlt5; have B5 : Below W.heap.size W w5 := Below.grown ((bel1 W (.cells #[.int .i64 a.N, .int .i64 a.D] 42)).drew) hgrow5 (by first | omega | (simp; done) | (simp; omega)) (fun k hk => by simp [Value.ownBlock] at hk; omega); have z5 := B5.size; obtain ⟨_, y50, y51, _, _⟩ := hT2.keep B5; have B5low : ∀ k, k = g5 → W.heap.size ≤ k := (fun k hk => by subst hk; rcases hat5 with h | h <;> simp [Value.ownBlock] at h <;> omega))
    | (refine step_append_lies _ (by rfl) _ _ 23 (by rfl) base 42 i0 _ 2 16 Try.underlying23 hI hz0 hz1 hz2 rfl (by decide) (.slice (some ⟨W.heap.size, 0, none⟩) 1 1) 1 (flatRt [a]) (by rfl) oA2 ⟨gm, 0, none⟩ n cm (flatRt P) (by rfl) HLn.out (((hP.keep ((bup (bel1 W (.cells #[.int .i64 a.N, .int .i64 a.D] 42)) (bel1 _ (.cells #[.int .i64 z.N, .int .i64 z.D] 42))).drew)).newsM _ rfl)) (flatRt_one P) hn0 (by unfold maxLen; omega) (by omega) (by first | omega | (simp; omega)) _ rfl ?_; intro g5 cap5 w5 hown5 hgrow5 hat5 hlt5; have B5 : Below W.heap.size W w5 := Below.grown ((bup (bel1 W (.cells #[.int .i64 a.N, .int .i64 a.D] 42)) (bel1 _ (.cells #[.int .i64 z.N, .int .i64 z.D] 42))).drew) hgrow5 (by first | omega | (simp; done) | (simp; omega)) (fun k hk => by simp [Value.ownBlock] at hk; omega); have z5 := B5.size; obtain ⟨_, y50, y51, _, _⟩ := hT2.keep B5; have B5low : ∀ k, k = g5 → W.heap.size ≤ k := (fun k hk => by subst hk; rcases hat5 with h | h <;> simp [Value.ownBlock] at h <;> omega); have hB5 : w5.heap[W.heap.size + 1]? = some (.cells #[.int .i64 z.N, .int .i64 z.D] 42) := (hgrow5.block (W.heap.size + 1) (by simp) (by simp [Value.ownBlock])).trans hB2)
    | (refine step_append_lies _ (by rfl) _ _ 23 (by rfl) base 42 i0 _ 2 16 Try.underlying23 hI hz0 hz1 hz2 rfl (by decide) (.slice (some ⟨W.heap.size + 1, 0, none⟩) 1 1) 1 (flatRt [a]) (by rfl) oA3 ⟨gm, 0, none⟩ n cm (flatRt P) (by rfl) HLn.out (((hP.keep ((bup (bel1 W (.cells #[.int .i64 z.N, .int .i64 z.D] 42)) (bel1 _ (.cells #[.int .i64 a.N, .int .i64 a.D] 42))).drew)).newsM _ rfl)) (flatRt_one P) hn0 (by unfold maxLen; omega) (by omega) (by first | omega | (simp; omega)) _ rfl ?_; intro g5 cap5 w5 hown5 hgrow5 hat5 hlt5; have B5 : Below W.heap.size W w5 := Below.grown ((bup (bel1 W (.cells #[.int .i64 z.N, .int .i64 z.D] 42)) (bel1 _ (.cells #[.int .i64 a.N, .int .i64 a.D] 42))).drew) hgrow5 (by first | omega | (simp; done) | (simp; omega)) (fun k hk => by simp [Value.ownBlock] at hk; omega); have z5 := B5.size; obtain ⟨_, y50, y51, _, _⟩ := hT2.keep B5; have B5low : ∀ k, k = g5 → W.heap.size ≤ k := (fun k hk => by subst hk; rcases hat5 with h | h <;> simp [Value.ownBlock] at h <;> omega); have hB5 : w5.heap[W.heap.size]? = some (.cells #[.int .i64 z.N, .int .i64 z.D] 42) := (hgrow5.block W.heap.size (by simp; omega) (by simp [Value.ownBlock])).trans hB3)
    | (refine step_append_lies _ (by rfl) _ _ 23 (by rfl) base 42 i0 _ 2 16 Try.underlying23 hI hz0 hz1 hz2 rfl (by decide) (.slice (some ⟨g5, 0, none⟩) (1 + n) cap5) (1 + n) (flatRt [a] ++ flatRt P) (by rfl) (own_growK hown5 (bel1 w5 (.cells #[.int .i64 z.N, .int .i64 z.D] 42))) ⟨w5.heap.size, 0, none⟩ 1 1 [.int .i64 z.N, .int .i64 z.D] (by rfl) rfl (World.news_of_block (cs := #[.int .i64 z.N, .int .i64 z.D]) (t := 42) (fr := (0, 0)) (World.alloc_heap_new w5 _)) (by simp [Value.oneCell']) (by omega) (by unfold maxLen; omega) (by omega) (by first | omega | (simp; omega)) _ rfl ?_; intro g6 cap6 w6 hown6 hgrow6 hat6 hlt6; have B6 : Below W.heap.size W w6 := Below.grown (bup B5 (bel1 w5 (.cells #[.int .i64 z.N, .int .i64 z.D] 42))) hgrow6 (by first | omega | (simp; done) | (simp; omega)) (fun k hk => by have h := B5low k (by simp [Value.ownBlock] at hk; omega); omega))
    | (refine step_append_lies _ (by rfl) _ _ 23 (by rfl) base 42 i0 _ 2 16 Try.underlying23 hI hz0 hz1 hz2 rfl (by decide) (.slice (some ⟨g5, 0, none⟩) (1 + n) cap5) (1 + n) (flatRt [a] ++ flatRt P) (by rfl) hown5 ⟨W.heap.size + 1, 0, none⟩ 1 1 [.int .i64 z.N, .int .i64 z.D] (by rfl) rfl (World.news_of_block (cs := #[.int .i64 z.N, .int .i64 z.D]) (t := 42) (fr := (0, 0)) hB5) (by simp [Value.oneCell']) (by omega) (by unfold maxLen; omega) (by omega) (by first | omega | (simp; omega)) _ rfl ?_; intro g6 cap6 w6 hown6 hgrow6 hat6 hlt6; have B6 : Below W.heap.size W w6 := Below.grown (B5) hgrow6 (by first | omega | (simp; done) | (simp; omega)) (fun k hk => by have h := B5low k (by simp [Value.ownBlock] at hk; omega); omega))
    | (refine step_append_lies _ (by rfl) _ _ 23 (by rfl) base 42 i0 _ 2 16 Try.underlying23 hI hz0 hz1 hz2 rfl (by decide) (.slice (some ⟨g5, 0, none⟩) (1 + n) cap5) (1 + n) (flatRt [a] ++ flatRt P) (by rfl) hown5 ⟨W.heap.size, 0, none⟩ 1 1 [.int .i64 z.N, .int .i64 z.D] (by rfl) rfl (World.news_of_block (cs := #[.int .i64 z.N, .int .i64 z.D]) (t := 42) (fr := (0, 0)) hB5) (by simp [Value.oneCell']) (by omega) (by unfold maxLen; omega) (by omega) (by first | omega | (simp; omega)) _ rfl ?_; intro g6 cap6 w6 hown6 hgrow6 hat6 hlt6; have B6 : Below W.heap.size W w6 := Below.grown (B5) hgrow6 (by first | omega | (simp; done) | (simp; omega)) (fun k hk => by have h := B5low k (by simp [Value.ownBlock] at hk; omega); omega)))
  all_goals
    have e9 : flatRt [a] ++ flatRt P ++ [.int .i64 z.N, .int .i64 z.D] = flatRt (a :: (P ++ [z])) := by
      rw [← flatRt_app2, ← flatRt_app]
      rfl
    rw [e9] at hown6
    have e10 : 1 + n + 1 = n + 2 := by omega
    rw [e10] at hown6
    rw [e10]
    exact hQ.out _ _ _ _ _ _ _ _ _ _ hown6 B6
end Go.Proofs.Ytipnefaggpigfaa

/- The reference's Then (chapter 6). -/
namespace Go.Proofs.Ytipnefaggpigfaa
open Go.RowKit Go.Shelf

set_option maxRecDepth 100000 in
set_option maxHeartbeats 8000000 in
theorem rthen6 (K1 K2 : List Kn) (B1 B2 : Nat) (g1 : GdK K1) (g2 : GdK K2) (hi1 : innK K1 = bndK K1) (hi2 : innK K2 = bndK K2)
    (hfold : (allI (undF K1 (slsK K1)) 0 (bndK K2)).2 = 0 → ((bndK K2).map fun t => (undF K1 (slsK K1) t).1).foldl wthR (bndK K1) = thnB K1 K2) (w : World) (hM1 : RMapAt w B1 K1 (slL K1)) (hM2 : RMapAt w B2 K2 (slL K2)) :
    Calls Try.prog 11 #[.pointer (some ⟨B1, 0, none⟩), .pointer (some ⟨B2, 0, none⟩)] w fun e w' => ∃ p, e = .returned (.tuple #[p, .int .i64 (thnE K1 K2)]) ∧ PtR w' p (thnE K1 K2) (thnL K1 K2) ∧ Below w.heap.size w w' := by
  obtain ⟨i0, hI, hz0, hz1, hz2⟩ := info_partsK infoRtK
  obtain ⟨j0, hJ, hy0, hy1, hy2⟩ := info_partsK infoKnK
  have hmx : maxLen ≤ 9223372036854775807 := by decide
  have HB1 := hideK (rbends6 K1 (slL K1) B1 g1.le w hM1)
  have HB2 := hideK (fun (W : World) (q : Below w.heap.size w W) => rbends6 K2 (slL K2) B2 g2.le W (hM2.keep q))
  have HU := hideK (fun (W : World) (t : Rt) (ht : RtIn t) (q : Below w.heap.size w W) => rundo_any K1 B1 t g1.kin ht g1.le g1.two g1.ro W (hM1.keep q))
  have HF1 := hideK (fun (W : World) (t : Rt) (ht : RtIn t) (q : Below w.heap.size w W) => rapply_any K1 B1 t g1.kin ht g1.le g1.two g1.ri W (hM1.keep q))
  have HF2 := hideK (fun (W : World) (t : Rt) (ht : RtIn t) (q : Below w.heap.size w W) => rapply_any K2 B2 t g2.kin ht g2.le g2.two g2.ri W (hM2.keep q))
  rw [hi1] at HB1
  rw [hi2] at HB2
  have hA1 : ∀ x ∈ bndK K1, RtIn x := bnd_in K1 g1.kin
  have hT2 : ∀ x ∈ bndK K2, RtIn x := bnd_in K2 g2.kin
  have hla := Nat.le_trans (bnd_len K1) g1.le
  have hlt := Nat.le_trans (bnd_len K2) g2.le
  have HE1 : Hid (¬ (allI (undF K1 (slsK K1)) 0 (bndK K2)).2 = 0 → thnE K1 K2 = (allI (undF K1 (slsK K1)) 0 (bndK K2)).2) := hideK (fun h => by unfold thnE; rw [if_pos h])
  have HE2 : Hid ((allI (undF K1 (slsK K1)) 0 (bndK K2)).2 = 0 → ¬ preE (thnB K1 K2) = 0 → thnE K1 K2 = preE (thnB K1 K2)) := hideK (fun h h2 => by
    unfold thnE thnP
    rw [if_neg (fun e => e h), pts_err (both_errQ K1 K2), if_pos h2, if_pos h2])
  have HE3 : Hid ((allI (undF K1 (slsK K1)) 0 (bndK K2)).2 = 0 → preE (thnB K1 K2) = 0 → ¬ errZ (bothF K1 K2) (ptsR (thnB K1 K2)) = 0 → thnE K1 K2 = errZ (bothF K1 K2) (ptsR (thnB K1 K2))) := hideK (fun h h2 h3 => by
    have hp : errK (bothF K1 K2) (ptsA (thnB K1 K2)) = errZ (bothF K1 K2) (ptsR (thnB K1 K2)) := by rw [pts_err (both_errQ K1 K2), if_neg (fun e => e h2)]
    unfold thnE thnP
    rw [if_neg (fun e => e h), hp, if_pos h3])
  have HE4 : Hid ((allI (undF K1 (slsK K1)) 0 (bndK K2)).2 = 0 → preE (thnB K1 K2) = 0 → errZ (bothF K1 K2) (ptsR (thnB K1 K2)) = 0 → thnE K1 K2 = newE (thnL K1 K2) ∧ thnL K1 K2 = (ptsR (thnB K1 K2)).map fun t => ⟨t, (bothF K1 K2 t).1⟩) := hideK (fun h h2 h3 => by
    refine ⟨?_, ?_⟩
    · have hp : errK (bothF K1 K2) (ptsA (thnB K1 K2)) = errZ (bothF K1 K2) (ptsR (thnB K1 K2)) := by rw [pts_err (both_errQ K1 K2), if_neg (fun e => e h2)]
      unfold thnE thnP
      rw [if_neg (fun e => e h), hp, if_neg (fun e => e h3)]
    · unfold thnL thnP kntK
      rw [pts_zero h2, List.map_map]
      rfl)
  have HBo : Hid (∀ t, bothF K1 K2 t = if ¬ (appF K1 (slsK K1) t).2 = 0 then (⟨0, 0⟩, (appF K1 (slsK K1) t).2) else appF K2 (slsK K2) (appF K1 (slsK K1) t).1) := hideK (fun t => rfl)
  have HFo := hideK hfold
  have HUi : Hid (∀ t, RtIn (undF K1 (slsK K1) t).1 ∧ RtIn (appF K1 (slsK K1) t).1) := hideK (fun t => ⟨undF_in _ _ _, appF_in _ _ _⟩)
  have HLi : Hid (∀ x ∈ thnL K1 K2, KnIn x) := hideK (thn_in K1 K2 g1.kin).2.1
  obtain ⟨PO, hPO⟩ : ∃ PO : Ending → World → Prop, (fun e w' => ∃ p, e = .returned (.tuple #[p, .int .i64 (thnE K1 K2)]) ∧ PtR w' p (thnE K1 K2) (thnL K1 K2) ∧ Below w.heap.size w w') = PO := ⟨_, rfl⟩
  have HP := hideK hPO
  rw [hPO]
  clear hPO hfold hi1 hi2 hM1 hM2 g1 g2
  generalize thnE K1 K2 = E at *
  generalize thnL K1 K2 = LL at *
  generalize thnB K1 K2 = PB at *
  generalize bothF K1 K2 = F at *
  generalize appF K1 (slsK K1) = F1 at *
  generalize appF K2 (slsK K2) = F2 at *
  generalize undF K1 (slsK K1) = U at *
  generalize bndK K1 = AA at *
  generalize bndK K2 = T at *
  have HAi := hideK hA1
  have HTi := hideK hT2
  obtain ⟨m, hm⟩ : ∃ m, T.length = m := ⟨_, rfl⟩
  have HM := hideK hm
  rw [hm] at HB2 hlt
  clear hA1 hT2 hm
  go_enter Try.func11, Try.ntmps11
  go_wp2_with fail
  refine HB1.out.mono ?_
  rintro e w1 ⟨v1, rfl, ho1, b1⟩
  have C1 := hideK (And.intro ho1 b1)
  clear ho1 b1 HB1
  go_wp2_with fail
  refine (HB2.out w1 C1.out.2).mono ?_
  rintro e w2 ⟨v2, rfl, ho2, b2⟩
  have ho2' : w2.ownsRow w1.heap.size 42 2 v2 T.length (flatRt T) := by rw [HM.out]; exact ho2
  obtain ⟨ot, ct, rfl, hct, hkt, -⟩ := own_rt ho2'
  rw [HM.out] at hct ⊢
  have C2 : Hid (Below w.heap.size w w2 ∧ w2.ownsRow w.heap.size 42 2 v1 AA.length (flatRt AA) ∧ RtO w2 ot T) := hideK ⟨bup C1.out.2 b2, own_growK C1.out.1 b2, hkt⟩
  have hzw2 := C2.out.1.size
  clear ho2 ho2' hkt b2 C1 HB2
  go_wp2_with fail
  go_loopw [6, 8] (fun lv iv wq => ∃ (i : Nat) (M : List Rt), iv = .int .i64 (i : Nat) ∧ i ≤ m ∧ wq.ownsRow w.heap.size 42 2 lv M.length (flatRt M) ∧ M = ((T.take i).map fun t => (U t).1).foldl wthR AA ∧ M.length ≤ AA.length + i ∧ (∀ x ∈ M, RtIn x) ∧ allI U 0 T = allI U i (T.drop i) ∧ Below w2.heap.size w2 wq) (fun _ iv _ => m - (intOf iv).toNat)
  case atStart => exact ⟨0, AA, rfl, Nat.zero_le _, C2.out.2.1, rfl, Nat.le_refl _, HAi.out, rfl, Below.refl _ _⟩
  case round =>
    obtain ⟨i, M, rfl, hi, hown, hMe, hMl, hMi, hs, hb⟩ := hrel
    obtain ⟨wq, rfl⟩ : ∃ wq, wq = wr := ⟨_, rfl⟩
    by_cases hlt2 : i < m
    case pos => as_aux_lemma =>
      obtain ⟨t, ht⟩ : ∃ t, T[i]? = some t := ⟨_, List.getElem?_eq_getElem (by rw [HM.out]; omega)⟩
      obtain ⟨A, rfl, hA, a0, a1⟩ := (C2.out.2.2.keep hb).get ht
      have hti := HTi.out t (List.mem_of_getElem? ht)
      have HC := hideK (HU.out wq t hti (bup C2.out.1 hb))
      have HS := hideK (hs.trans (allI_drop U ht))
      have HTk := hideK (show ((T.take (i + 1)).map fun t => (U t).1).foldl wthR AA = wthR M (U t).1 by rw [List.take_add_one, ht, List.map_append, List.foldl_append, ← hMe]; rfl)
      have hui := (HUi.out t).1
      obtain ⟨r, hr⟩ : ∃ r, U t = r := ⟨_, rfl⟩
      rw [hr] at HC HS HTk hui
      obtain ⟨om, cm, rfl, hcm, hkm, -⟩ := own_rt hown
      have HA := hideK (And.intro hb (And.intro hkm (And.intro hMi hMl)))
      clear hr hown hs hb ht hMe hkm hMi
      have di : (i : Int) < (m : Int) := by omega
      have wk : IntKind.i64.wrap ((i : Int) + 1) = ((i + 1 : Nat) : Int) := by rw [show ((i + 1 : Nat) : Int) = (i : Int) + 1 by omega]; exact IntWalk.i64_in _ ⟨by omega, by omega⟩
      go_wp2_with fail
      refine HC.out.mono ?_
      rintro e w3 ⟨rfl, b3⟩
      have H3 := hideK b3
      clear b3 HC a0 a1
      go_upto_region 7 with fail
      obtain ⟨q9, hq9⟩ : ∃ q, w3.heap.size = q := ⟨_, rfl⟩
      obtain ⟨w4, hw4⟩ : ∃ W, w3.alloc (.cells #[.int .i64 r.1.N, .int .i64 r.1.D] 42) = W := ⟨_, rfl⟩
      have H4 : Hid (Below wq.heap.size wq w4 ∧ Two w4 q9 (.int .i64 r.1.N) (.int .i64 r.1.D)) := hideK (by
        rw [← hw4, ← hq9]
        exact ⟨bup H3.out (bel1 _ _), Two.new _ _ _ _⟩)
      rw [hw4, hq9]
      clear hw4 hq9 H3
      by_cases hre : r.2 = 0
      · obtain ⟨_, k0, k1, _, _⟩ := H4.out.2
        have hml := HA.out.2.2.2
        have HWi := hideK (rwith6 M r.1 om cm HA.out.2.2.1 hui hcm (by omega) w4 (HA.out.2.1.keep H4.out.1))
        go_wp2_with fail
        refine HWi.out.mono ?_
        rintro e w5 ⟨v5, rfl, ho5, b5⟩
        have H5 : Hid (w5.ownsRow w.heap.size 42 2 v5 (wthR M r.1).length (flatRt (wthR M r.1)) ∧ Below w2.heap.size w2 w5) := hideK ⟨own_lowP ho5 (by have h1 := HA.out.1.size; have h2 := H4.out.1.size; omega), bup HA.out.1 (bup H4.out.1 b5)⟩
        clear ho5 b5 HWi k0 k1
        go_wp2_with fail
        go_roundw
        case rel =>
          refine ⟨i + 1, wthR M r.1, by first | rfl | simp, by omega, H5.out.1, HTk.out.symm, ?_, ?_, by rw [HS.out, if_pos hre], H5.out.2⟩
          · have := wth_len M r.1
            omega
          · intro x hx
            rcases wth_mem M r.1 x hx with h | rfl
            · exact HA.out.2.2.1 x h
            · exact hui
        case measure => simp [intOf]; omega
      · have ha2 : (allI U 0 T).2 = r.2 := by rw [HS.out, if_neg hre]
        have hEE : E = r.2 := by rw [HE1.out (by rw [ha2]; exact hre), ha2]
        have hres : PO (.returned (.tuple #[.pointer none, .int .i64 r.2])) w4 := by
          rw [← HP.out]
          exact ⟨_, by rw [hEE], .inr ⟨by rw [hEE]; assumption, rfl⟩, bup C2.out.1 (bup HA.out.1 H4.out.1)⟩
        have HRs := hideK hres
        clear hEE hres
        go_wp2_with fail
        first | exact HRs.out | (go_ret; exact HRs.out)
    case neg =>
    obtain rfl : i = m := by omega
    have d2 : ¬ (i : Int) < (i : Int) := by omega
    have hk : T.take i = T := List.take_of_length_le (by rw [HM.out]; exact Nat.le_refl _)
    have hk2 : T.drop i = [] := List.drop_eq_nil_of_le (by rw [HM.out]; exact Nat.le_refl _)
    rw [hk] at hMe
    rw [hk2] at hs
    have hs0 : (allI U 0 T).2 = 0 := by rw [hs]; rfl
    obtain rfl : M = PB := hMe.trans (HFo.out hs0)
    obtain ⟨om, cm, rfl, hcm, hkm, -⟩ := own_rt hown
    have HA := hideK (And.intro hown (And.intro hMi (And.intro hb hkm)))
    obtain ⟨n, hn⟩ : ∃ n, M.length = n := ⟨_, rfl⟩
    have HN := hideK hn
    have HE2' := hideK (HE2.out hs0)
    have HE3' := hideK (HE3.out hs0)
    have HE4' := hideK (HE4.out hs0)
    have hll : M.length ≤ 2000 := by omega
    rw [hn] at hll hcm ⊢
    clear hn hkm hown hs hb hk hk2 hMe hMi hMl HE1 HE2 HE3 HE4 HFo hs0 HU
    go_upto_region 10 with fail
    go_upto_if 45 with fail
    go_cut [6] (fun v wx => preE M = 0 ∧ wx.ownsRow w.heap.size 42 2 v (ptsR M).length (flatRt (ptsR M)) ∧ Below w2.heap.size w2 wx)
    case first =>
      by_cases hn0 : n = 0
      · subst hn0
        obtain rfl : M = [] := List.length_eq_zero_iff.1 HN.out
        go_wp2_with fail
        refine (rnought6 wq).mono ?_
        rintro e w3 ⟨rfl, b3⟩
        have H3 := hideK b3
        clear b3
        go_wp2_with fail
        refine (rone6 w3).mono ?_
        rintro e w4 ⟨rfl, b4⟩
        have H4 := hideK (bup HA.out.2.2.1 (bup H3.out b4))
        have hz4 := H4.out.size
        clear b4
        have HF : Hid ((w4.alloc (.cells #[.int .i64 0, .int .i64 1, .int .i64 1, .int .i64 1] 42)).ownsRow w.heap.size 42 2 (.slice (some ⟨w4.heap.size, 0, none⟩) 2 2) 2 (flatRt [⟨0, 1⟩, ⟨1, 1⟩]) ∧ Below w2.heap.size w2 (w4.alloc (.cells #[.int .i64 0, .int .i64 1, .int .i64 1, .int .i64 1] 42))) := hideK ⟨World.ownsRow_lit (base := w.heap.size) (size := 2) (e := 42) w4 #[.int .i64 0, .int .i64 1, .int .i64 1, .int .i64 1] 2 (by omega) (by unfold maxLen; omega) rfl, bup H4.out (bel1 _ _)⟩
        go_wp2_with fail
        go_meet
        case rel => exact ⟨rfl, HF.out.1, HF.out.2⟩
      · obtain ⟨b, L, rfl⟩ : ∃ b L, M = b :: L := by
          cases M with
          | nil => exact absurd HN.out (by simp; omega)
          | cons b L => exact ⟨b, L, rfl⟩
        have d7 : ¬ (n : Int) = 0 := by omega
        have hnL : n = L.length + 1 := by rw [← HN.out]; rfl
        obtain ⟨gm, cm2, eM, hgm, -⟩ := World.ownsRow.form HA.out.1 (by simp)
        cases eM
        obtain ⟨z, hz⟩ : ∃ z, (b :: L).getLastD b = z := ⟨_, rfl⟩
        have hzl : (b :: L)[n - 1]? = some z := by
          rw [hnL, Nat.add_sub_cancel, last_G, ← hz, List.getLastD_cons]
        obtain ⟨ra, hra⟩ : ∃ r, subA b ⟨1, 1⟩ = r := ⟨_, rfl⟩
        obtain ⟨rz, hrz⟩ : ∃ r, addA z ⟨1, 1⟩ = r := ⟨_, rfl⟩
        have hbi := HA.out.2.1 b (List.mem_cons_self ..)
        have hzi := HA.out.2.1 z (List.mem_of_getElem? hzl)
        have HSb := hideK (fun (V : World) => rsub_any b ⟨1, 1⟩ hbi one_in V)
        have HAd := hideK (fun (V : World) => radd_any z ⟨1, 1⟩ hzi one_in V)
        unfold rtv at HSb HAd
        have HPe : Hid (preE (b :: L) = if ¬ ra.2 = 0 then ra.2 else rz.2) := hideK (by rw [preE_cons, hz, hra, hrz])
        have HPr : Hid (ptsR (b :: L) = ra.1 :: ((b :: L) ++ [rz.1])) := hideK (by show (subA b ⟨1, 1⟩).1 :: ((b :: L) ++ [(addA ((b :: L).getLastD b) ⟨1, 1⟩).1]) = _; rw [hz, hra, hrz])
        rw [hra] at HSb
        rw [hrz] at HAd
        have hb0 := (HA.out.1.cellAt 0 (by rw [HN.out]; omega)).trans (flatRt_get (L := b :: L) (i := 0) rfl).1
        have hb1 := (HA.out.1.cellAt 1 (by rw [HN.out]; omega)).trans (flatRt_get (L := b :: L) (i := 0) rfl).2
        have hl0 := (HA.out.1.cellAt ((n - 1) * 2) (by rw [HN.out]; omega)).trans (flatRt_get hzl).1
        have hl1 := (HA.out.1.cellAt ((n - 1) * 2 + 1) (by rw [HN.out]; omega)).trans (flatRt_get hzl).2
        have hgz : gm < wq.heap.size := (HA.out.1.lt gm rfl).2
        have HK0 : Hid (∀ w', Below wq.heap.size wq w' → (w'.cell? ⟨gm, 0, none⟩ = some (.int .i64 b.N) ∧ w'.cell? ⟨gm, 1, none⟩ = some (.int .i64 b.D)) ∧ (w'.cell? ⟨gm, (n - 1) * 2, none⟩ = some (.int .i64 z.N) ∧ w'.cell? ⟨gm, (n - 1) * 2 + 1, none⟩ = some (.int .i64 z.D))) := hideK (fun w' q => ⟨⟨(q.cell (p := ⟨gm, _, none⟩) hgz).trans hb0, (q.cell (p := ⟨gm, _, none⟩) hgz).trans hb1⟩, (q.cell (p := ⟨gm, _, none⟩) hgz).trans hl0, (q.cell (p := ⟨gm, _, none⟩) hgz).trans hl1⟩)
        have HNL := hideK hnL
        clear hb0 hb1 hl0 hl1 hra hrz hz hzl hbi hzi hnL
        have dn : (0 : Int) < (n : Int) := by omega
        have dnN : 0 < n := by omega
        go_upto_region 12 with fail
        go_cut [11, 12] (fun p e wx => ∃ q, p = .pointer (some ⟨q, 0, none⟩) ∧ e = .int .i64 ra.2 ∧ Two wx q (.int .i64 ra.1.N) (.int .i64 ra.1.D) ∧ Below wq.heap.size wq wx)
        case first =>
          have HK2 : Hid (∀ w', Below wq.heap.size wq w' → w'.cell? ⟨gm, 0, none⟩ = some (.int .i64 b.N) ∧ w'.cell? ⟨gm, 1, none⟩ = some (.int .i64 b.D)) := hideK (fun w' q => (HK0.out w' q).1)
          obtain ⟨k0, k1⟩ := HK2.out wq (Below.refl _ _)
          go_region_held3 (fun w' => w'.cell? ⟨gm, 0, none⟩ = some (.int .i64 b.N) ∧ w'.cell? ⟨gm, 1, none⟩ = some (.int .i64 b.D)) (first | assumption | exact HK2.out _ ((Below.refl _ _).drew) | exact HK2.out _ (bel1 _ _) | exact HK2.out _ ((bel1 _ _).drew) | exact HK2.out _ (bup (Below.refl _ _).drew (bel1 _ _)) | exact HK2.out _ c4 | exact HK2.out _ (bup c4 (bel1 _ _)) | exact HK2.out _ c5 | exact HK2.out _ (bup c5 (bel1 _ _)) | exact HK2.out _ ((c5.setCell (by first | exact Nat.le_refl _ | exact z4 | exact z5 | (simp; omega)) _).setCell (by first | exact Nat.le_refl _ | exact z4 | exact z5 | (simp; omega)) _) | exact HK2.out _ (((bup c5 (bel1 _ _)).setCell (by first | exact Nat.le_refl _ | exact z4 | exact z5 | (simp; omega)) _).setCell (by first | exact Nat.le_refl _ | exact z4 | exact z5 | (simp; omega)) _) | go_keep) (first
            | (go_at_call 27; (with_reducible refine Calls.mono (rone6 _) ?_); rintro e v4 ⟨rfl, b4⟩; (first
                | (have c4 : Below wq.heap.size wq v4 := (Below.refl wq.heap.size wq).drew.trans b4)
                | (have c4 : Below wq.heap.size wq v4 := bup (bup (Below.refl _ wq).drew (bel1 wq.drew _)) b4; have T4 : Hid (Two v4 wq.heap.size (.int .i64 0) (.int .i64 0)) := hideK ((Two.new wq.drew _ _ 42).keep b4))); have z4 := c4.size; obtain ⟨e0, e1⟩ := HK2.out _ c4)
            | (go_at_call 31; (with_reducible refine Calls.mono (HSb.out _) ?_); rintro e v5 ⟨rfl, b5⟩; (first
                | (have c5 : Below wq.heap.size wq v5 := bup c4 b5; have T5 := hideK (T4.out.keep b5); obtain ⟨_, g0, g1, h0, h1⟩ := T5.out)
                | (have c5 : Below wq.heap.size wq v5 := bup c4 b5)
                | (have c5 : Below wq.heap.size wq v5 := bup (bup c4 (bel1 v4 _)) b5; have T6 : Hid (Two v5 v4.heap.size (.int .i64 0) (.int .i64 0)) := hideK ((Two.new v4 _ _ 42).keep b5); obtain ⟨_, g0, g1, h0, h1⟩ := T6.out)); have z5 := c5.size; obtain ⟨m0, m1⟩ := HK2.out _ c5))
          · have HF : Hid (Two (v5.alloc (.cells #[.int .i64 ra.1.N, .int .i64 ra.1.D] 42)) v5.heap.size (.int .i64 ra.1.N) (.int .i64 ra.1.D) ∧ Below wq.heap.size wq (v5.alloc (.cells #[.int .i64 ra.1.N, .int .i64 ra.1.D] 42))) := hideK ⟨Two.new v5 _ _ _, bup c5 (bel1 _ _)⟩
            first | go_wp2_with fail | skip
            go_meet
            case rel => exact ⟨v5.heap.size, rfl, rfl, HF.out.1, HF.out.2⟩
          · have HF := hideK (And.intro (T6.out.set (x2 := .int .i64 ra.1.N) (y2 := .int .i64 ra.1.D)) ((c5.setCell (p := ⟨v4.heap.size, 0, none⟩) z4 (.int .i64 ra.1.N)).setCell (p := ⟨v4.heap.size, 1, none⟩) z4 (.int .i64 ra.1.D)))
            first | go_wp2_with fail | skip
            go_meet
            case rel => exact ⟨v4.heap.size, rfl, rfl, HF.out.1, HF.out.2⟩
          · have HF := hideK (And.intro (T5.out.set (x2 := .int .i64 ra.1.N) (y2 := .int .i64 ra.1.D)) ((c5.setCell (p := ⟨wq.heap.size, 0, none⟩) (Nat.le_refl _) (.int .i64 ra.1.N)).setCell (p := ⟨wq.heap.size, 1, none⟩) (Nat.le_refl _) (.int .i64 ra.1.D)))
            first | go_wp2_with fail | skip
            go_meet
            case rel => exact ⟨wq.heap.size, rfl, rfl, HF.out.1, HF.out.2⟩
        case rest =>
        obtain ⟨q1, rfl, rfl, hT3, hb3⟩ := hcut
        obtain ⟨w3, rfl⟩ : ∃ X, X = wc := ⟨_, rfl⟩
        have H3 := hideK (And.intro hb3 hT3)
        clear hb3 hT3
        by_cases hra : ra.2 = 0
        case neg =>
          have hpe : preE (b :: L) = ra.2 := by rw [HPe.out, if_pos hra]
          have hEE : E = ra.2 := by rw [HE2'.out (by rw [hpe]; exact hra), hpe]
          have hres : PO (.returned (.tuple #[.pointer none, .int .i64 ra.2])) w3 := by
            rw [← HP.out]
            exact ⟨_, by rw [hEE], .inr ⟨by rw [hEE]; assumption, rfl⟩, bup C2.out.1 (bup HA.out.2.2.1 H3.out.1)⟩
          have HRs := hideK hres
          clear hEE hres
          go_wp2_with fail
          first | exact HRs.out | (go_ret; exact HRs.out)
        case pos =>
        go_upto_region 15 with fail
        have wl : IntKind.i64.wrap ((n : Int) - 1) = ((n - 1 : Nat) : Int) := by rw [show ((n - 1 : Nat) : Int) = (n : Int) - 1 by omega]; exact IntWalk.i64_in _ ⟨by omega, by omega⟩
        have dl : ((n - 1 : Nat) : Int) < (n : Int) := by omega
        go_cut [13, 12] (fun p e wx => ∃ q, p = .pointer (some ⟨q, 0, none⟩) ∧ e = .int .i64 rz.2 ∧ Two wx q (.int .i64 rz.1.N) (.int .i64 rz.1.D) ∧ Below w3.heap.size w3 wx)
        case first =>
          have HK2 : Hid (∀ w', Below w3.heap.size w3 w' → w'.cell? ⟨gm, (n - 1) * 2, none⟩ = some (.int .i64 z.N) ∧ w'.cell? ⟨gm, (n - 1) * 2 + 1, none⟩ = some (.int .i64 z.D)) := hideK (fun w' q => (HK0.out w' (bup H3.out.1 q)).2)
          obtain ⟨k0, k1⟩ := HK2.out w3 (Below.refl _ _)
          go_region_held3 (fun w' => w'.cell? ⟨gm, (n - 1) * 2, none⟩ = some (.int .i64 z.N) ∧ w'.cell? ⟨gm, (n - 1) * 2 + 1, none⟩ = some (.int .i64 z.D)) (first | assumption | exact HK2.out _ ((Below.refl _ _).drew) | exact HK2.out _ (bel1 _ _) | exact HK2.out _ ((bel1 _ _).drew) | exact HK2.out _ (bup (Below.refl _ _).drew (bel1 _ _)) | exact HK2.out _ c4 | exact HK2.out _ (bup c4 (bel1 _ _)) | exact HK2.out _ c5 | exact HK2.out _ (bup c5 (bel1 _ _)) | exact HK2.out _ ((c5.setCell (by first | exact Nat.le_refl _ | exact z4 | exact z5 | (simp; omega)) _).setCell (by first | exact Nat.le_refl _ | exact z4 | exact z5 | (simp; omega)) _) | exact HK2.out _ (((bup c5 (bel1 _ _)).setCell (by first | exact Nat.le_refl _ | exact z4 | exact z5 | (simp; omega)) _).setCell (by first | exact Nat.le_refl _ | exact z4 | exact z5 | (simp; omega)) _) | go_keep) (first
            | (go_at_call 27; (with_reducible refine Calls.mono (rone6 _) ?_); rintro e v4 ⟨rfl, b4⟩; (first
                | (have c4 : Below w3.heap.size w3 v4 := (Below.refl w3.heap.size w3).drew.trans b4)
                | (have c4 : Below w3.heap.size w3 v4 := bup (bup (Below.refl _ w3).drew (bel1 w3.drew _)) b4; have T4 : Hid (Two v4 w3.heap.size (.int .i64 0) (.int .i64 0)) := hideK ((Two.new w3.drew _ _ 42).keep b4))); have z4 := c4.size; obtain ⟨e0, e1⟩ := HK2.out _ c4)
            | (go_at_call 32; (with_reducible refine Calls.mono (HAd.out _) ?_); rintro e v5 ⟨rfl, b5⟩; (first
                | (have c5 : Below w3.heap.size w3 v5 := bup c4 b5; have T5 := hideK (T4.out.keep b5); obtain ⟨_, g0, g1, h0, h1⟩ := T5.out)
                | (have c5 : Below w3.heap.size w3 v5 := bup c4 b5)
                | (have c5 : Below w3.heap.size w3 v5 := bup (bup c4 (bel1 v4 _)) b5; have T6 : Hid (Two v5 v4.heap.size (.int .i64 0) (.int .i64 0)) := hideK ((Two.new v4 _ _ 42).keep b5); obtain ⟨_, g0, g1, h0, h1⟩ := T6.out)); have z5 := c5.size; obtain ⟨m0, m1⟩ := HK2.out _ c5))
          · have HF : Hid (Two (v5.alloc (.cells #[.int .i64 rz.1.N, .int .i64 rz.1.D] 42)) v5.heap.size (.int .i64 rz.1.N) (.int .i64 rz.1.D) ∧ Below w3.heap.size w3 (v5.alloc (.cells #[.int .i64 rz.1.N, .int .i64 rz.1.D] 42))) := hideK ⟨Two.new v5 _ _ _, bup c5 (bel1 _ _)⟩
            first | go_wp2_with fail | skip
            go_meet
            case rel => exact ⟨v5.heap.size, rfl, rfl, HF.out.1, HF.out.2⟩
          · have HF := hideK (And.intro (T6.out.set (x2 := .int .i64 rz.1.N) (y2 := .int .i64 rz.1.D)) ((c5.setCell (p := ⟨v4.heap.size, 0, none⟩) z4 (.int .i64 rz.1.N)).setCell (p := ⟨v4.heap.size, 1, none⟩) z4 (.int .i64 rz.1.D)))
            first | go_wp2_with fail | skip
            go_meet
            case rel => exact ⟨v4.heap.size, rfl, rfl, HF.out.1, HF.out.2⟩
          · have HF := hideK (And.intro (T5.out.set (x2 := .int .i64 rz.1.N) (y2 := .int .i64 rz.1.D)) ((c5.setCell (p := ⟨w3.heap.size, 0, none⟩) (Nat.le_refl _) (.int .i64 rz.1.N)).setCell (p := ⟨w3.heap.size, 1, none⟩) (Nat.le_refl _) (.int .i64 rz.1.D)))
            first | go_wp2_with fail | skip
            go_meet
            case rel => exact ⟨w3.heap.size, rfl, rfl, HF.out.1, HF.out.2⟩
        case rest =>
        obtain ⟨q2, rfl, rfl, hT4, hb4⟩ := hcut
        obtain ⟨w4, rfl⟩ : ∃ X, X = wc := ⟨_, rfl⟩
        have H4 := hideK (And.intro (bup H3.out.1 hb4) (And.intro (H3.out.2.keep hb4) hT4))
        clear hb4 hT4
        have hpe : preE (b :: L) = rz.2 := by rw [HPe.out, if_neg (fun e => e hra)]
        by_cases hrz : rz.2 = 0
        case neg =>
          have hEE : E = rz.2 := by rw [HE2'.out (by rw [hpe]; exact hrz), hpe]
          have hres : PO (.returned (.tuple #[.pointer none, .int .i64 rz.2])) w4 := by
            rw [← HP.out]
            exact ⟨_, by rw [hEE], .inr ⟨by rw [hEE]; assumption, rfl⟩, bup C2.out.1 (bup HA.out.2.2.1 H4.out.1)⟩
          have HRs := hideK hres
          clear hEE hres
          go_wp2_with fail
          first | exact HRs.out | (go_ret; exact HRs.out)
        case pos =>
        have HPz := hideK (hpe.trans hrz)
        clear hpe hra H3
        go_upto_region 18 with fail
        clear hrz
        obtain ⟨_, x0, x1, _, _⟩ := H4.out.2.1
        obtain ⟨_, y0, y1, _, _⟩ := H4.out.2.2
        have hzw4 : w.heap.size ≤ w4.heap.size := (bup C2.out.1 (bup HA.out.2.2.1 H4.out.1)).size
        refine regT18 (a := ra.1) (z := rz.1) (P := b :: L) (base := w.heap.size) (by kernel_rfl) HN.out dnN hll (HA.out.2.2.2.keep H4.out.1) H4.out.2.1 H4.out.2.2 hzw4 ?_
        intro z74 z75 z76 z77 z78 z79 z80 g18 c18 X18 hX hbX
        have hlen : (ptsR (b :: L)).length = n + 2 := by rw [HPr.out, List.length_cons, List.length_append, HN.out]; rfl
        have HF : Hid (preE (b :: L) = 0 ∧ X18.ownsRow w.heap.size 42 2 (.slice (some ⟨g18, 0, none⟩) (n + 2) c18) (ptsR (b :: L)).length (flatRt (ptsR (b :: L))) ∧ Below w2.heap.size w2 X18) := hideK ⟨HPz.out, by rw [hlen, HPr.out]; exact hX, bup HA.out.2.2.1 (bup H4.out.1 hbX)⟩
        clear hX hbX hlen x0 x1 y0 y1
        first | go_wp2_with fail | skip
        go_meet
        case rel => exact HF.out
    case rest =>
    obtain ⟨hpe, hown, hb⟩ := hcut
    obtain ⟨w5, rfl⟩ : ∃ X, X = wc := ⟨_, rfl⟩
    have hPi := ptsR_in HA.out.2.1
    have hPl := ptsR_len M
    rw [HN.out] at hPl
    have HE3 := hideK (HE3'.out hpe)
    have HE4 := hideK (HE4'.out hpe)
    obtain ⟨op, cp, rfl, hcp, hkp, -⟩ := own_rt hown
    have C5 := hideK (And.intro (bup C2.out.1 hb) hkp)
    clear hown hb hkp hpe HE2' HE3' HE4' HA
    generalize ptsR M = PT at *
    have HPi := hideK hPi
    obtain ⟨np, hnp⟩ : ∃ k, PT.length = k := ⟨_, rfl⟩
    have HNp := hideK hnp
    rw [hnp] at hPl hcp ⊢
    clear hPi hnp HN
    have hz5 := C5.out.1.size
    go_wp2_with fail
    go_loopw [14, 15] (fun lv iv wz => ∃ k : Nat, iv = .int .i64 (k : Nat) ∧ k ≤ np ∧ wz.ownsRow w5.heap.size 45 4 lv k (flatKn ((PT.take k).map fun t => ⟨t, (F t).1⟩)) ∧ errZ F PT = errZ F (PT.drop k) ∧ Below w5.heap.size w5 wz) (fun _ iv _ => np - (intOf iv).toNat)
    case atStart => exact ⟨0, rfl, Nat.zero_le _, World.ownsRow_nil _ _ _ _, rfl, Below.refl _ _⟩
    case round =>
      obtain ⟨k, rfl, hk, hown, hs, hb⟩ := hrel
      obtain ⟨wz, rfl⟩ : ∃ wz, wz = wr := ⟨_, rfl⟩
      by_cases hlt3 : k < np
      case pos => as_aux_lemma =>
        obtain ⟨t, ht⟩ : ∃ t, PT[k]? = some t := ⟨_, List.getElem?_eq_getElem (by rw [HNp.out]; omega)⟩
        have hdr : PT.drop k = t :: PT.drop (k + 1) := by
          obtain ⟨h1, e1⟩ := List.getElem?_eq_some_iff.1 ht
          rw [List.drop_eq_getElem_cons h1, e1]
        obtain ⟨A, rfl, hA, a0, a1⟩ := C5.out.2.get ht
        have hA4 : (A.add (k * 2)).block < w5.heap.size := by rw [addrN_block]; exact hA
        have HX : Hid (∀ W, Below w5.heap.size w5 W → W.cell? (A.add (k * 2)) = some (.int .i64 t.N) ∧ W.cell? ⟨(A.add (k * 2)).block, (A.add (k * 2)).off + 1, none⟩ = some (.int .i64 t.D)) := hideK (fun W q => ⟨(q.cell hA4).trans a0, (q.cell (p := ⟨(A.add (k * 2)).block, (A.add (k * 2)).off + 1, none⟩) hA4).trans a1⟩)
        have hti := HPi.out t (List.mem_of_getElem? ht)
        have HC1 := hideK (fun (W : World) (q : Below w.heap.size w W) => HF1.out W t hti q)
        have HC2 := hideK (fun (W : World) (q : Below w.heap.size w W) => HF2.out W (F1 t).1 (HUi.out t).2 q)
        have HBt := hideK (HBo.out t)
        have HTk := hideK (show (PT.take (k + 1)).map (fun t : Rt => (⟨t, (F t).1⟩ : Kn)) = (PT.take k).map (fun t : Rt => (⟨t, (F t).1⟩ : Kn)) ++ [⟨t, (F t).1⟩] by rw [List.take_add_one, ht, List.map_append]; rfl)
        rw [hdr, errZ_cons] at hs
        obtain ⟨r1, hr1⟩ : ∃ r, F1 t = r := ⟨_, rfl⟩
        obtain ⟨r2, hr2⟩ : ∃ r, F2 r1.1 = r := ⟨_, rfl⟩
        obtain ⟨rf, hrf⟩ : ∃ r, F t = r := ⟨_, rfl⟩
        rw [hr1] at HC1 HC2 HBt
        rw [hr2] at HC2 HBt
        rw [hrf] at HBt HTk hs
        have HS := hideK hs
        have HA := hideK (And.intro hown hb)
        have hzz := hb.size
        clear hr1 hr2 hrf hs hown hb hdr ht a0 a1 hA hA4
        have di : (k : Int) < (np : Int) := by omega
        have wk : IntKind.i64.wrap ((k : Int) + 1) = ((k + 1 : Nat) : Int) := by rw [show ((k + 1 : Nat) : Int) = (k : Int) + 1 by omega]; exact IntWalk.i64_in _ ⟨by omega, by omega⟩
        obtain ⟨a0, a1⟩ := HX.out wz HA.out.2
        go_wp2_with fail
        refine (HC1.out wz (bup C5.out.1 HA.out.2)).mono ?_
        rintro e w6 ⟨rfl, b6⟩
        clear a0 a1
        go_upto_region 24 with fail
        obtain ⟨q16, hq16⟩ : ∃ q, w6.heap.size = q := ⟨_, rfl⟩
        obtain ⟨w7, hw7⟩ : ∃ W, w6.alloc (.cells #[.int .i64 r1.1.N, .int .i64 r1.1.D] 42) = W := ⟨_, rfl⟩
        have H7 : Hid (Below wz.heap.size wz w7 ∧ Two w7 q16 (.int .i64 r1.1.N) (.int .i64 r1.1.D) ∧ wz.heap.size ≤ q16) := hideK (by
          rw [← hw7, ← hq16]
          exact ⟨bup b6 (bel1 _ _), Two.new _ _ _ _, b6.size⟩)
        rw [hw7, hq16]
        clear hw7 hq16 b6 HC1
        by_cases h1 : r1.2 = 0
        case neg =>
          have hrf : rf = (⟨0, 0⟩, r1.2) := by rw [HBt.out, if_pos h1]
          have hez : errZ F PT = r1.2 := by rw [HS.out, hrf, if_pos h1]
          have hEE : E = r1.2 := by rw [HE3.out (by rw [hez]; exact h1), hez]
          have hres : PO (.returned (.tuple #[.pointer none, .int .i64 r1.2])) w7 := by
            rw [← HP.out]
            exact ⟨_, by rw [hEE], .inr ⟨by rw [hEE]; assumption, rfl⟩, bup C5.out.1 (bup HA.out.2 H7.out.1)⟩
          have HRs := hideK hres
          clear hEE hres
          go_wp2_with fail
          first | exact HRs.out | (go_ret; exact HRs.out)
        case pos =>
        have HBt2 : Hid (rf = r2) := hideK (by rw [HBt.out, if_neg (fun e => e h1)])
        clear HBt
        obtain ⟨_, k0, k1, f0, f1⟩ := H7.out.2.1
        go_wp2_with fail
        refine (HC2.out w7 (bup C5.out.1 (bup HA.out.2 H7.out.1))).mono ?_
        rintro e w8 ⟨rfl, b8⟩
        have H8 := hideK (And.intro (bup H7.out.1 b8) (And.intro (H7.out.2.1.keep b8) H7.out.2.2))
        clear b8 HC2 k0 k1 f0 f1 H7
        obtain ⟨_, k0, k1, f0, f1⟩ := H8.out.2.1
        go_upto_region 27 with fail
        obtain ⟨w9, hw9⟩ : ∃ W, (w8.setCell ⟨q16, 0, none⟩ (.int .i64 r2.1.N)).setCell ⟨q16, 1, none⟩ (.int .i64 r2.1.D) = W := ⟨_, rfl⟩
        have H9 : Hid (Below wz.heap.size wz w9 ∧ Two w9 q16 (.int .i64 r2.1.N) (.int .i64 r2.1.D)) := hideK (by
          rw [← hw9]
          exact ⟨(H8.out.1.setCell H8.out.2.2 _).setCell H8.out.2.2 _, H8.out.2.1.set⟩)
        rw [hw9]
        clear hw9 k0 k1 f0 f1 H8
        by_cases h2 : r2.2 = 0
        case neg =>
          have hez : errZ F PT = r2.2 := by rw [HS.out, HBt2.out, if_pos h2]
          have hEE : E = r2.2 := by rw [HE3.out (by rw [hez]; exact h2), hez]
          have hres : PO (.returned (.tuple #[.pointer none, .int .i64 r2.2])) w9 := by
            rw [← HP.out]
            exact ⟨_, by rw [hEE], .inr ⟨by rw [hEE]; assumption, rfl⟩, bup C5.out.1 (bup HA.out.2 H9.out.1)⟩
          have HRs := hideK hres
          clear hEE hres
          go_wp2_with fail
          first | exact HRs.out | (go_ret; exact HRs.out)
        case pos =>
        have hez : errZ F PT = errZ F (PT.drop (k + 1)) := by rw [HS.out, HBt2.out, if_neg (fun e => e h2)]
        have HZ := hideK hez
        clear hez
        have hownW := own_growK HA.out.1 H9.out.1
        have HO9 := hideK hownW
        have hz9 := H9.out.1.size
        go_upto_region 29 with fail
        clear h1 h2 hownW
        obtain ⟨a0, a1⟩ := HX.out w9 (bup HA.out.2 H9.out.1)
        obtain ⟨_, k0, k1, f0, f1⟩ := H9.out.2
        go_region_law
          ((refine step_append_lies _ (by rfl) _ _ 22 (by rfl) w5.heap.size 45 j0 _ 4 32 Try.underlying22 hJ hy0 hy1 hy2 rfl (by decide) _ k (flatKn ((PT.take k).map fun t => ⟨t, (F t).1⟩)) (by rfl) ((own_growK HO9.out (bel1 w9 _)).drew) ⟨w9.heap.size, 0, none⟩ 1 1 [.int .i64 t.N, .int .i64 t.D, .int .i64 r2.1.N, .int .i64 r2.1.D] (by rfl) rfl (World.news_of_block (cs := #[.int .i64 t.N, .int .i64 t.D, .int .i64 r2.1.N, .int .i64 r2.1.D]) (t := 45) (fr := (0, 0)) (World.alloc_heap_new w9 _)) (by simp [Value.oneCell']) (by omega) (by unfold maxLen; omega) (by omega) (by simp; omega) (w9.heap.size + 1) (by simp) ?_; intro gg cap10 w10 hown10 hgrow hat10 hlt10))
        all_goals
          have HF : Hid (w10.ownsRow w5.heap.size 45 4 (.slice (some ⟨gg, 0, none⟩) (k + 1) cap10) (k + 1) (flatKn ((PT.take (k + 1)).map fun t => ⟨t, (F t).1⟩)) ∧ Below w5.heap.size w5 w10) := hideK ⟨by rw [HTk.out, HBt2.out, flatKn_app]; exact hown10, Below.grown (bup (bup HA.out.2 H9.out.1) (bel1 w9 _).drew) hgrow (by simp; omega) (fun k hk => (HO9.out.lt k hk).1)⟩
          first | go_wp2_with fail | skip
          go_roundw
          case rel => exact ⟨k + 1, by first | rfl | simp, by omega, HF.out.1, HZ.out, HF.out.2⟩
          case measure => simp [intOf]; omega
      case neg =>
      obtain rfl : k = np := by omega
      have d4 : ¬ (k : Int) < (k : Int) := by omega
      have hk : PT.take k = PT := List.take_of_length_le (by rw [HNp.out]; exact Nat.le_refl _)
      have hk2 : PT.drop k = [] := List.drop_eq_nil_of_le (by rw [HNp.out]; exact Nat.le_refl _)
      rw [hk] at hown
      rw [hk2] at hs
      have he0 : errZ F PT = 0 := by rw [hs]; rfl
      obtain ⟨hEn, hLL⟩ := HE4.out he0
      rw [← hLL] at hown
      obtain ⟨o1, d1, rfl, hcc, hkn, hsl⟩ := own_kn hown
      have hnw := rnew6_any LL o1 d1 HLi.out (by rw [hsl]; exact hcc) wz hkn
      rw [hsl] at hnw
      have HNw := hideK hnw
      have HB := hideK (And.intro (bup C5.out.1 hb) hEn)
      clear hown hb hnw hkn hk hk2 hs he0 hLL hEn HE3 HE4
      go_wp2_with fail
      refine HNw.out.mono ?_
      rintro e w6 ⟨b6, h6⟩
      have H6 := hideK (bup HB.out.1 b6)
      clear b6 HNw
      rcases h6 with ⟨hz, B3, rfl, -, hm3⟩ | ⟨hz, rfl⟩
      · have hres : PO (.returned (.tuple #[.pointer (some ⟨B3, 0, none⟩), .int .i64 0])) w6 := by
          rw [← HP.out]
          exact ⟨_, by rw [HB.out.2, hz], .inl ⟨by rw [HB.out.2, hz], hz, B3, rfl, hm3⟩, H6.out⟩
        have HRs := hideK hres
        clear hres hm3 hz
        go_wp2_with fail
        first | exact HRs.out | (go_ret; exact HRs.out)
      · have hres : PO (.returned (.tuple #[.pointer none, .int .i64 (newE LL)])) w6 := by
          rw [← HP.out]
          exact ⟨_, by rw [HB.out.2], .inr ⟨by rw [HB.out.2]; exact hz, rfl⟩, H6.out⟩
        have HRs := hideK hres
        clear hres hz
        go_wp2_with fail
        first | exact HRs.out | (go_ret; exact HRs.out)
end Go.Proofs.Ytipnefaggpigfaa

/- RetimeThens: the walk (chapter 6). -/
namespace Go.Proofs.Ytipnefaggpigfaa
open Go.RowKit Go.Shelf

set_option maxRecDepth 100000 in
set_option maxHeartbeats 2000000 in
theorem made6_Th (L : List Kn) (hL : ∀ x ∈ L, KnIn x) (p q : Value) (E : Int) (T : List Rt) (ot : Option Addr) (c : Nat) (hT : ∀ t ∈ T, RtIn t) (hc : T.length ≤ c ∧ c ≤ maxLen) (hn : T.length ≤ 2000) (w : World) (hp : PtP w p E L) (hq : PtR w q E L) (hO : RtO w ot T) :
    Calls Try.prog 8 #[p, .int .i64 E, q, .int .i64 E, .slice ot T.length c] w fun e w' => e = .returned (.bool true) ∧ Below w.heap.size w w' := by
  rcases hp with ⟨h0, hz, B, rfl, hm⟩ | ⟨h0, rfl⟩
  · rcases hq with ⟨-, -, B2, rfl, hr⟩ | ⟨h1, -⟩
    case inr => exact absurd h0 h1
    subst h0
    have HL := hideK (like6_any (newK L) (new_gd hL hz) B B2 T ot c hT hc hn w hm hr hO)
    clear hm hr hO hc hn hT
    go_enter Try.func8, Try.ntmps8
    go_wp2_with fail
    refine HL.out.mono ?_
    rintro e w1 ⟨rfl, b1⟩
    have HB := hideK b1
    clear b1
    go_wp2_with fail
    go_ret
    exact ⟨rfl, HB.out⟩
  · rcases hq with ⟨h1, -⟩ | ⟨-, rfl⟩
    · exact absurd h1 h0
    go_enter Try.func8, Try.ntmps8
    go_wp2_with fail
    go_ret
    exact ⟨rfl, Below.refl _ _⟩
theorem newP_Th (L : List Kn) (oa : Option Addr) (c : Nat) (hL : ∀ x ∈ L, KnIn x) (hc : L.length ≤ c ∧ c ≤ maxLen) (w : World) (hO : KnO w oa L) :
    Calls Try.prog 6 #[.slice oa L.length c] w fun e w' => ∃ p, e = .returned (.tuple #[p, .int .i64 (newE L)]) ∧ PtP w' p (newE L) L ∧ Below w.heap.size w w' := by
  refine (new_any6 L oa c hL hc w hO).mono ?_
  rintro e w' ⟨b, ⟨hz, B, rfl, -, hm⟩ | ⟨hz, rfl⟩⟩
  · exact ⟨_, by rw [hz], .inl ⟨hz, hz, B, rfl, hm⟩, b⟩
  · exact ⟨_, rfl, .inr ⟨hz, rfl⟩, b⟩
theorem newR_Th (L : List Kn) (oa : Option Addr) (c : Nat) (hL : ∀ x ∈ L, KnIn x) (hc : L.length ≤ c ∧ c ≤ maxLen) (w : World) (hO : KnO w oa L) :
    Calls Try.prog 7 #[.slice oa L.length c] w fun e w' => ∃ p, e = .returned (.tuple #[p, .int .i64 (newE L)]) ∧ PtR w' p (newE L) L ∧ Below w.heap.size w w' := by
  refine (rnew6_any L oa c hL hc w hO).mono ?_
  rintro e w' ⟨b, ⟨hz, B, rfl, -, hm⟩ | ⟨hz, rfl⟩⟩
  · exact ⟨_, by rw [hz], .inl ⟨hz, hz, B, rfl, hm⟩, b⟩
  · exact ⟨_, rfl, .inr ⟨hz, rfl⟩, b⟩
theorem GdK.mpk {K : List Kn} (g : GdK K) : MpK K := ⟨g.kin, g.len, g.le, by have := g.two; omega, g.ri, g.sin⟩
theorem thnP_Th (K1 K2 : List Kn) (B1 B2 : Nat) (g1 : GdK K1) (g2 : GdK K2) (w : World) (hM1 : MapAt w B1 K1 (slsK K1)) (hM2 : MapAt w B2 K2 (slsK K2)) :
    Calls Try.prog 10 #[.pointer (some ⟨B1, 0, none⟩), .pointer (some ⟨B2, 0, none⟩)] w fun e w' => ∃ p, e = .returned (.tuple #[p, .int .i64 (thnE K1 K2)]) ∧ PtP w' p (thnE K1 K2) (thnL K1 K2) ∧ Below w.heap.size w w' := by
  refine (then_any6 K1 K2 B1 B2 g1.mpk g2.mpk g1.ro w hM1 hM2).mono ?_
  rintro e w' ⟨b, ⟨hz, B, rfl, -, hm⟩ | ⟨hz, rfl⟩⟩
  · exact ⟨_, by rw [hz], .inl ⟨hz, (thnE_zero hz).2.2, B, rfl, hm⟩, b⟩
  · exact ⟨_, rfl, .inr ⟨hz, rfl⟩, b⟩
theorem invP_Th (K : List Kn) (B : Nat) (g : GdK K) (w : World) (hM : MapAt w B K (slsK K)) :
    Calls Try.prog 12 #[.pointer (some ⟨B, 0, none⟩)] w fun e w' => ∃ p, e = .returned (.tuple #[p, .int .i64 (newE (swK K))]) ∧ PtP w' p (newE (swK K)) (swK K) ∧ Below w.heap.size w w' := by
  refine (inverse_any6 K B g.kin g.le (by have := g.two; omega) w hM).mono ?_
  rintro e w' ⟨b, ⟨hz, B', rfl, -, hm⟩ | ⟨hz, rfl⟩⟩
  · exact ⟨_, by rw [hz], .inl ⟨hz, hz, B', rfl, hm⟩, b⟩
  · exact ⟨_, rfl, .inr ⟨hz, rfl⟩, b⟩
set_option maxRecDepth 100000 in
set_option maxHeartbeats 4000000 in
theorem thens6_walk (L M : List Kn) (oa ob : Option Addr) (cl cm : Nat) (T : List Rt) (ot : Option Addr) (ct : Nat) (hL : ∀ x ∈ L, KnIn x) (hM : ∀ x ∈ M, KnIn x) (hT : ∀ t ∈ T, RtIn t) (hcl : L.length ≤ cl ∧ cl ≤ maxLen) (hcm : M.length ≤ cm ∧ cm ≤ maxLen) (hct : T.length ≤ ct ∧ ct ≤ maxLen) (w : World) (hO : KnO w oa L) (hO2 : KnO w ob M) (hR : RtO w ot T) :
    Calls Try.prog 4 #[.slice oa L.length cl, .slice ob M.length cm, .slice ot T.length ct] w fun e w' => e = .returned (.bool true) ∧ Below w.heap.size w w' := by
  have hmx : maxLen ≤ 9223372036854775807 := by decide
  have HN1 := hideK (fun (W : World) (q : Below w.heap.size w W) => newP_Th L oa cl hL hcl W (hO.keep q))
  have HN2 := hideK (fun (W : World) (q : Below w.heap.size w W) => newR_Th L oa cl hL hcl W (hO.keep q))
  have HN3 := hideK (fun (W : World) (q : Below w.heap.size w W) => newP_Th M ob cm hM hcm W (hO2.keep q))
  have HN4 := hideK (fun (W : World) (q : Below w.heap.size w W) => newR_Th M ob cm hM hcm W (hO2.keep q))
  have HMd : Hid (T.length ≤ 2000 → ∀ (L : List Kn), (∀ x ∈ L, KnIn x) → ∀ (p q : Value) (E : Int) (W : World), PtP W p E L → PtR W q E L → Below w.heap.size w W → Calls Try.prog 8 #[p, .int .i64 E, q, .int .i64 E, .slice ot T.length ct] W fun e w' => e = .returned (.bool true) ∧ Below W.heap.size W w') := hideK (fun hn L hL p q E W hp hq q' => made6_Th L hL p q E T ot ct hT hct hn W hp hq (hR.keep q'))
  have HLk : Hid (T.length ≤ 2000 → ∀ (K : List Kn), GdK K → ∀ (B B2 : Nat) (W : World), MapAt W B K (slsK K) → RMapAt W B2 K (slL K) → Below w.heap.size w W → Calls Try.prog 14 #[.pointer (some ⟨B, 0, none⟩), .pointer (some ⟨B2, 0, none⟩), .slice ot T.length ct] W fun e w' => e = .returned (.bool true) ∧ Below W.heap.size W w') := hideK (fun hn K g B B2 W h1 h2 q => like6_any K g B B2 T ot ct hT hct hn W h1 h2 (hR.keep q))
  have HLi := hideK (And.intro hL hM)
  obtain ⟨n1, hn1⟩ : ∃ n, L.length = n := ⟨_, rfl⟩
  obtain ⟨n2, hn2⟩ : ∃ n, M.length = n := ⟨_, rfl⟩
  obtain ⟨m, hm⟩ : ∃ m, T.length = m := ⟨_, rfl⟩
  rw [hn1] at HN1 HN2 hcl ⊢
  rw [hn2] at HN3 HN4 hcm ⊢
  rw [hm] at HMd HLk hct ⊢
  clear hn1 hn2 hm hO hO2 hR hT hL hM
  obtain ⟨PO, hPO⟩ : ∃ PO : Ending → World → Prop, (fun e w' => e = .returned (.bool true) ∧ Below w.heap.size w w') = PO := ⟨_, rfl⟩
  have HP := hideK hPO
  rw [hPO]
  clear hPO
  go_enter Try.func4, Try.ntmps4
  go_wp2_with fail
  refine (known6_any w).mono ?_
  rintro e w1 ⟨rfl, b1⟩
  have C1 := hideK b1
  clear b1
  by_cases ha : 2000 < n1
  · have da : (2000 : Int) < (n1 : Int) := by omega
    go_wp2_with fail
    rw [← HP.out]
    exact ⟨rfl, C1.out⟩
  have da : ¬ (2000 : Int) < (n1 : Int) := by omega
  by_cases hb : 2000 < n2
  · have db : (2000 : Int) < (n2 : Int) := by omega
    go_wp2_with fail
    rw [← HP.out]
    exact ⟨rfl, C1.out⟩
  have db : ¬ (2000 : Int) < (n2 : Int) := by omega
  by_cases hc : 2000 < m
  · have dc : (2000 : Int) < (m : Int) := by omega
    go_wp2_with fail
    rw [← HP.out]
    exact ⟨rfl, C1.out⟩
  have dc : ¬ (2000 : Int) < (m : Int) := by omega
  have hml : m ≤ 2000 := by omega
  go_wp2_with fail
  refine (HN1.out w1 C1.out).mono ?_
  rintro e w2 ⟨p1, rfl, hp, b9⟩
  have C2 := hideK (show Below w.heap.size w w2 ∧ _ from ⟨bup C1.out b9, hp⟩)
  clear hp b9 HN1 C1
  go_wp2_with fail
  refine (HN2.out w2 C2.out.1).mono ?_
  rintro e w3 ⟨q1, rfl, hp, b9⟩
  have C3 := hideK (show Below w.heap.size w w3 ∧ _ ∧ _ from ⟨bup C2.out.1 b9, (C2.out.2).keep b9, hp⟩)
  clear hp b9 HN2 C2
  go_wp2_with fail
  refine (HN3.out w3 C3.out.1).mono ?_
  rintro e w4 ⟨p2, rfl, hp, b9⟩
  have C4 := hideK (show Below w.heap.size w w4 ∧ _ ∧ _ ∧ _ from ⟨bup C3.out.1 b9, (C3.out.2.1).keep b9, (C3.out.2.2).keep b9, hp⟩)
  clear hp b9 HN3 C3
  go_wp2_with fail
  refine (HN4.out w4 C4.out.1).mono ?_
  rintro e w5 ⟨q2, rfl, hp, b9⟩
  have C5 := hideK (show Below w.heap.size w w5 ∧ _ ∧ _ ∧ _ ∧ _ from ⟨bup C4.out.1 b9, (C4.out.2.1).keep b9, (C4.out.2.2.1).keep b9, (C4.out.2.2.2).keep b9, hp⟩)
  clear hp b9 HN4 C4
  obtain ⟨E1, hE1⟩ : ∃ E, newE L = E := ⟨_, rfl⟩
  obtain ⟨E2, hE2⟩ : ∃ E, newE M = E := ⟨_, rfl⟩
  have HE1 := hideK hE1
  have HE2 := hideK hE2
  rw [hE1, hE2] at C5
  rw [hE1, hE2]
  clear hE1 hE2
  by_cases z1 : E1 = 0
  case neg =>
    obtain ⟨hb5, h1, h2, h3, h4⟩ := C5.out
    obtain ⟨-, rfl⟩ := h1.resolve_left (fun h => z1 h.1)
    obtain ⟨-, rfl⟩ := h2.resolve_left (fun h => z1 h.1)
    have hsame : (p2 = .pointer none ∧ q2 = .pointer none) ∨ ∃ B B', p2 = .pointer (some ⟨B, 0, none⟩) ∧ q2 = .pointer (some ⟨B', 0, none⟩) := by
      rcases h3 with ⟨hz, -, B, rfl, -⟩ | ⟨hz, rfl⟩
      · rcases h4 with ⟨-, -, B', rfl, -⟩ | ⟨hx, -⟩
        · exact .inr ⟨B, B', rfl, rfl⟩
        · exact absurd hz hx
      · rcases h4 with ⟨hx, -⟩ | ⟨-, rfl⟩
        · exact absurd hx hz
        · exact .inl ⟨rfl, rfl⟩
    have HB := hideK hb5
    clear C5 h1 h2 h3 h4 hb5 z1
    rcases hsame with ⟨rfl, rfl⟩ | ⟨B, B', rfl, rfl⟩
    all_goals
      go_wp2_with fail
      rw [← HP.out]
      exact ⟨rfl, HB.out⟩
  case pos =>
  by_cases z2 : E2 = 0
  case neg =>
    obtain ⟨hb5, h1, h2, h3, h4⟩ := C5.out
    obtain ⟨-, rfl⟩ := h3.resolve_left (fun h => z2 h.1)
    obtain ⟨-, rfl⟩ := h4.resolve_left (fun h => z2 h.1)
    obtain ⟨-, -, B, rfl, -⟩ := h1.resolve_right (fun h => h.1 z1)
    obtain ⟨-, -, B', rfl, -⟩ := h2.resolve_right (fun h => h.1 z1)
    have HB := hideK hb5
    clear C5 h1 h2 h3 h4 hb5 z1 z2
    go_wp2_with fail
    rw [← HP.out]
    exact ⟨rfl, HB.out⟩
  case pos =>
  obtain ⟨hb5, h1, h2, h3, h4⟩ := C5.out
  obtain ⟨-, -, Ba, rfl, m1⟩ := h1.resolve_right (fun h => h.1 z1)
  obtain ⟨-, -, Br, rfl, r1⟩ := h2.resolve_right (fun h => h.1 z1)
  obtain ⟨-, -, Bb, rfl, m2⟩ := h3.resolve_right (fun h => h.1 z2)
  obtain ⟨-, -, Bs, rfl, r2⟩ := h4.resolve_right (fun h => h.1 z2)
  have hz1 : newE L = 0 := HE1.out.trans z1
  have hz2 : newE M = 0 := HE2.out.trans z2
  have g1 := new_gd HLi.out.1 hz1
  have g2 := new_gd HLi.out.2 hz2
  obtain ⟨e1, e2, hfold⟩ := thn_facts hz1 hz2
  have i1 := (inn_new L).trans e1.symm
  have i2 := (inn_new M).trans e2.symm
  have HTl := hideK (thn_in (newK L) (newK M) g1.kin).2.1
  have HSw := hideK (sw_inY g1.kin)
  have HT1 := hideK (fun (W : World) (q : Below w5.heap.size w5 W) => thnP_Th (newK L) (newK M) Ba Bb g1 g2 W (m1.keep q) (m2.keep q))
  have HT2 := hideK (fun (W : World) (q : Below w5.heap.size w5 W) => rthen6 (newK L) (newK M) Br Bs g1 g2 i1 i2 hfold W (r1.keep q) (r2.keep q))
  have HI1 := hideK (fun (W : World) (q : Below w5.heap.size w5 W) => invP_Th (newK L) Ba g1 W (m1.keep q))
  have HI2 := hideK (fun (W : World) (q : Below w5.heap.size w5 W) => rinv6 (newK L) (slL (newK L)) Br g1.kin g1.le W (r1.keep q))
  have HK1 := hideK (fun (W : World) (q : Below w5.heap.size w5 W) => HLk.out hml (newK L) g1 Ba Br W (m1.keep q) (r1.keep q) (bup hb5 q))
  have HK2 : Hid (∀ (W : World), Below w5.heap.size w5 W → Calls Try.prog 14 #[.pointer (some ⟨Bb, 0, none⟩), .pointer (some ⟨Bs, 0, none⟩), .slice none 0 0] W fun e w' => e = .returned (.bool true) ∧ Below W.heap.size W w') := hideK (fun W q => like6_any (newK M) g2 Bb Bs [] none 0 (fun t h => by cases h) ⟨Nat.le_refl _, by unfold maxLen; omega⟩ (by simp) W (m2.keep q) (r2.keep q) (fun i x hx => by cases hx))
  have HB := hideK hb5
  clear C5 h1 h2 h3 h4 hb5 m1 m2 r1 r2 g1 g2 i1 i2 hfold e1 e2 hz1 hz2 HE1 HE2 HLk HLi
  subst z1
  subst z2
  generalize thnE (newK L) (newK M) = ET at *
  generalize thnL (newK L) (newK M) = LT at *
  generalize newE (swK (newK L)) = EI at *
  generalize swK (newK L) = LI at *
  go_wp2_with fail
  refine (HT1.out w5 (Below.refl _ _)).mono ?_
  rintro e w6 ⟨x1, rfl, hp, b6⟩
  have C6 := hideK (And.intro b6 hp)
  clear hp b6 HT1
  go_wp2_with fail
  refine (HT2.out w6 C6.out.1).mono ?_
  rintro e w7 ⟨y1, rfl, hq, b7⟩
  have C7 := hideK (And.intro (bup C6.out.1 b7) (And.intro (C6.out.2.keep b7) hq))
  clear hq b7 HT2 C6
  have hmd := hideK (HMd.out hml LT HTl.out x1 y1 ET w7 C7.out.2.1 C7.out.2.2 (bup HB.out C7.out.1))
  go_wp2_with fail
  refine hmd.out.mono ?_
  rintro e w8 ⟨rfl, b8⟩
  have C8 := hideK (bup C7.out.1 b8)
  clear b8 hmd C7
  go_wp2_with fail
  refine (HI1.out w8 C8.out).mono ?_
  rintro e w9 ⟨x2, rfl, hp, b9⟩
  have C9 := hideK (And.intro (bup C8.out b9) hp)
  clear hp b9 HI1 C8
  go_wp2_with fail
  refine (HI2.out w9 C9.out.1).mono ?_
  rintro e w10 ⟨y2, rfl, hq, b10⟩
  have C10 := hideK (And.intro (bup C9.out.1 b10) (And.intro (C9.out.2.keep b10) hq))
  clear hq b10 HI2 C9
  have hmd := hideK (HMd.out hml LI HSw.out x2 y2 EI w10 C10.out.2.1 C10.out.2.2 (bup HB.out C10.out.1))
  go_wp2_with fail
  refine hmd.out.mono ?_
  rintro e w11 ⟨rfl, b11⟩
  have C11 := hideK (bup C10.out.1 b11)
  clear b11 hmd C10
  go_wp2_with fail
  refine (HK1.out w11 C11.out).mono ?_
  rintro e w12 ⟨rfl, b12⟩
  have C12 := hideK (bup C11.out b12)
  clear b12 HK1 C11
  go_wp2_with fail
  refine (HK2.out w12 C12.out).mono ?_
  rintro e w13 ⟨rfl, b13⟩
  have C13 := hideK (bup HB.out (bup C12.out b13))
  clear b13 HK2 C12
  go_wp2_with fail
  rw [← HP.out]
  exact ⟨rfl, C13.out⟩
end Go.Proofs.Ytipnefaggpigfaa
