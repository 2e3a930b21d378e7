/- The walk of UtfFiles: lines and their ends are the file. -/
import Derived.Test.YtfkoebbpdnleeacDoorHead
import Derived.Test.YtfkoebbpdnleeacDoorFilesM
namespace Go.Proofs.YtfkoebbpdnleeacDoor
open Go.RowKit Go.Shelf
attribute [local go_sem] Oper.semAt_some

/-- Z is A with block B turned, which holds v. -/
structure Chg (B n : Nat) (U A Z : World) (v : Value) : Prop where
  same : ∀ k, k ≠ B → Z.heap[k]? = A.heap[k]?
  size : Z.heap.size = A.heap.size
  box : Boxed Z B 3 v
  below : Below n U Z
theorem Chg.start {B n : Nat} {U A : World} {v : Value} (h : Boxed A B 3 v) (hb : Below n U A) : Chg B n U A A v := ⟨fun _ _ => rfl, rfl, h, hb⟩
theorem Chg.set {B n : Nat} {U A Z : World} {v : Value} (h : Chg B n U A Z v) (hn : n ≤ B) (v' : Value) : Chg B n U A (Z.setCell ⟨B, 0, none⟩ v') v' :=
  ⟨fun k hk => (Below.heap_setCell Z _ _ k hk).trans (h.same k hk), (by show (Z.heap.modify _ _).size = _; rw [Array.size_modify]; exact h.size), h.box.set _, h.below.setCell (p := ⟨B, 0, none⟩) hn _⟩

set_option maxRecDepth 100000 in
set_option maxHeartbeats 4000000 in
theorem files_any (s : ByteArray) (hs : s.size ≤ 140737488355328) (w : World) (hw : 2 ≤ w.heap.size) (hT : Lib.Utf8Tabs 0 1 w) :
    Calls Tryd.prog 7 #[.string s] w fun e w' => e = .returned (.bool true) ∧ Below w.heap.size w w' := by
  refine (callsIn_wide (n := 9)).1 ?_
  refine callsIn_of_wp_marks Tryd.func7 rfl trivial ?_ rfl
  simp only [Tryd.ntmps7, List.size_toArray, List.length_cons, List.length_nil, Nat.reduceAdd, Nat.reduceSub, Array.replicate_succ, Array.replicate_zero, List.push_toArray, List.append_toArray, List.nil_append, List.cons_append]
  obtain ⟨V, hV⟩ : ∃ V, (w.alloc (.cells #[.string s] 9)).alloc (.cells #[.bool false] 4) = V := ⟨_, rfl⟩
  have hBV : Below w.heap.size w V := by rw [← hV]; exact ((Below.refl _ w).alloc (Nat.le_refl _) _).alloc (by simp) _
  have hzV : V.heap.size = w.heap.size + 2 := by rw [← hV]; simp
  have b0 : Boxed V w.heap.size 9 (.string s) := by rw [← hV]; exact (Boxed.new w 9 _).alloc _
  have b1 : Boxed V (w.heap.size + 1) 4 (.bool false) := by
    rw [← hV]
    have := Boxed.new (w.alloc (.cells #[.string s] 9)) 4 (.bool false)
    rw [World.size_alloc] at this
    exact this
  gi_wp2_with fail
  refine ⟨trivial, ?_⟩
  refine (callsIn_wide.2 (head_any V (by omega) (tabs_below hw hT hBV))).mono ?_
  rintro e V1 ⟨rfl, hB1⟩
  have hz1 := hB1.size
  have c0 : Boxed V1 w.heap.size 9 (.string s) := (hB1.block _ (by omega)).trans b0
  have c1 : Boxed V1 (w.heap.size + 1) 4 (.bool false) := (hB1.block _ (by omega)).trans b1
  have hBw1 : Below w.heap.size w V1 := hBV.trans (hB1.mono (by omega))
  clear hV b0 b1 hBV hB1
  have k0 := c0.cell
  have k1 := (c0.alloc (.cells #[.int .i64 0] 3)).cell
  gi_wp2_with (refine ⟨trivial, ?_⟩; gi_at_call 23; refine (callsIn_wide.2 (lines_mk _ _)).mono ?_; rintro e w' ⟨rfl, rfl⟩)
  obtain ⟨U, hU⟩ : ∃ U, (V1.alloc (.cells #[.int .i64 0] 3)).alloc (.cells #[.string s] 9) = U := ⟨_, rfl⟩
  have d0 : Boxed U w.heap.size 9 (.string s) := by rw [← hU]; exact (c0.alloc _).alloc _
  have d1 : Boxed U (w.heap.size + 1) 4 (.bool false) := by rw [← hU]; exact (c1.alloc _).alloc _
  have d2 : Boxed U V1.heap.size 3 (.int .i64 0) := by rw [← hU]; exact (Boxed.new V1 3 _).alloc _
  have d3 : Boxed U (V1.heap.size + 1) 9 (.string s) := by
    rw [← hU]
    have := Boxed.new (V1.alloc (.cells #[.int .i64 0] 3)) 9 (.string s)
    rw [World.size_alloc] at this
    exact this
  have hBU : Below V1.heap.size V1 U := by rw [← hU]; exact ((Below.refl _ V1).alloc (Nat.le_refl _) _).alloc (by simp) _
  have hzU : U.heap.size = V1.heap.size + 2 := by rw [← hU]; simp
  have hzU1 : V1.heap.size + 2 ≤ U.heap.size := by omega
  have hzU2 : U.heap.size ≤ V1.heap.size + 2 := by omega
  have hBwU := hBw1.trans (hBU.mono (by omega))
  rw [hU]
  clear hU k0 k1 c0 c1 hBw1 hBU hzU
  refine wpIn_rangeFunc_ownH (α := Ln s) rfl (by omega) (gf := 32) (lb := #[.pointer (some ⟨V1.heap.size + 1, 0, none⟩)]) rfl trivial (enters_of Tryd.func32 (by kernel_rfl) rfl)
    (lines_stops (9 - 1) (V1.heap.size + 1) (by omega) s hs U (by omega) d3.cell) Kp_t (Kp_b (by omega)) (Below.refl _ _) (fun _ => rfl)
    (fun pre A => (((goodFrom 0 pre ∧ Boxed A w.heap.size 9 (.string s)) ∧ Boxed A (w.heap.size + 1) 4 (.bool false)) ∧ Boxed A V1.heap.size 3 (.int .i64 (curFrom 0 pre : Nat))) ∧ Below w.heap.size U A)
    (fun _ pre _ => ¬ goodFrom 0 pre)
    (OwnFrom.and (OwnFrom.and (OwnFrom.and (OwnFrom.and (ownFrom_pure _ _) (Own.from (boxed_own _ _ _) _)) (Own.from (boxed_own _ _ _) _)) (Own.from (boxed_own _ _ _) _)) (ownFrom_below (by omega) (by omega)))
    (fun _ => ownFrom_pure _ _)
    ⟨⟨⟨⟨trivial, d0⟩, d1⟩, d2⟩, Below.refl _ _⟩
    (fun x a' _ => a' = { tmps := #[.string s, .pointer (some ⟨w.heap.size, 0, none⟩), .pointer (some ⟨w.heap.size + 1, 0, none⟩), .pointer (some ⟨V1.heap.size, 0, none⟩), .int .i64 x.loc, .string (s.extract x.loc x.fin), undef, .bool true, .bool false, .string s, .func (.func 32) #[] #[.pointer (some ⟨V1.heap.size + 1, 0, none⟩)], .int .i64 x.loc, .string (s.extract x.loc x.fin), undef, undef, undef, undef, undef, undef, undef, undef, undef, undef, undef, undef, undef, undef, undef, undef, undef, undef, undef, undef, undef, undef, undef, undef, undef, undef, undef, undef, undef, undef, undef, undef, undef, undef, undef, undef, undef, undef, undef, undef, undef, undef, undef, undef, undef, undef, undef, undef, undef, undef, undef, undef, undef, undef, undef, undef, undef, undef, undef, undef, undef, undef, undef, undef, undef, undef, undef, undef, undef, undef, undef, undef, undef, undef, undef, undef, undef, undef, undef, undef, undef, undef, undef, undef, undef, undef], defers := [] })
    (fun _ _ _ _ _ _ hs _ _ => hs)
    ?assign ?body ?done ?stop
  case assign =>
    rintro lin pre x A K hi hK
    simp only [Ln.vals]
    gi_wp2
    exact hK _ _ (KeepsFrom.refl _ _) (Kp_of (fun _ _ _ => rfl) (by have := hi.2.size; omega)) hi rfl
  case body =>
    rintro lin pre x a' A hlin ⟨r, hr⟩ ⟨⟨⟨⟨hgd, e0⟩, e1⟩, e2⟩, hBA⟩ rfl hlen
    have k0 := e0.cell
    have k1 := e1.cell
    have f1 := e1.frozen
    have k2 := e2.cell
    have f2 := e2.frozen
    have hzA := hBA.size
    by_cases hloc : x.loc = curFrom 0 pre
    · obtain ⟨L, hL⟩ : ∃ L, s.extract x.loc x.fin = L := ⟨_, rfl⟩
      have x0 := x.h0
      have x1 := x.h1
      have x2 := x.h2
      have hLs : L.size = x.fin - x.loc := by rw [← hL, ByteArray.size_extract]; omega
      have hcut : s.extract x.loc (x.loc + L.size) = L := by rw [hLs, show x.loc + (x.fin - x.loc) = x.fin by omega]; exact hL
      have hbt : ∀ k (h : k < L.size), L[k].toNat ≠ 10 ∧ L[k].toNat ≠ 13 := fun k h => by
        have h3 := x.h3 (x.loc + k) (by omega) (by omega)
        have e : L.get! k = s.get! (x.loc + k) := by rw [← Lib.getD_get!', ← Lib.getD_get!', ← hL, Lib.extract_data, Lib.getD_takeU _ _ _ (by omega), Lib.getD_dropU]
        rw [← e, show L.get! k = L[k] from get_at L k h] at h3
        exact h3
      have hfn : x.fin = x.loc + L.size := by omega
      have NX : Hid (curFrom 0 (pre ++ [x]) = x.loc + L.size + (endL (s.extract (x.loc + L.size) s.size)).toNat) := by
        show curFrom 0 (pre ++ [x]) = _
        rw [curFrom_snoc, Ln.next, hfn]
      have GD : Hid (goodFrom 0 (pre ++ [x])) := (goodFrom_snoc pre 0 x).2 ⟨hgd, hloc⟩
      have h4 := x.h4
      rw [hfn] at h4 x2
      rw [← hloc] at k2 e2
      rw [hL]
      clear hL hLs hfn x1 hgd hloc
      have HB := hide hbt
      have H4 := hide h4
      clear hbt h4
      have FIN : Hid (∀ (a0 : Act) (Z : World) (m : Int), Chg V1.heap.size w.heap.size U A Z (.int .i64 (x.loc + L.size + m)) → endL (s.extract (x.loc + L.size) s.size) = m →
          ownPostG U.heap.size (Kp (V1.heap.size + 1)) (fun pre A => (((goodFrom 0 pre ∧ Boxed A w.heap.size 9 (.string s)) ∧ Boxed A (w.heap.size + 1) 4 (.bool false)) ∧ Boxed A V1.heap.size 3 (.int .i64 (curFrom 0 pre : Nat))) ∧ Below w.heap.size U A)
            (fun _ pre _ => ¬ goodFrom 0 pre) (pre ++ [x]) A .normal a0 Z) := fun a0 Z m hZ hm => by
        have hbd := endL_bd (s.extract (x.loc + L.size) s.size)
        have hv : ((curFrom 0 (pre ++ [x]) : Nat) : Int) = x.loc + L.size + m := by rw [NX.out]; omega
        have hsz := hZ.size
        refine ⟨⟨by omega, fun k o hB hk _ => (hZ.same k (by omega)).trans hk⟩, Kp_of (fun k hk _ => hZ.same k (by omega)) (by omega), ⟨⟨⟨GD.out, (hZ.same _ (by omega)).trans e0⟩, (hZ.same _ (by omega)).trans e1⟩, ?_⟩, hZ.below⟩
        rw [hv]
        exact hZ.box
      have CH := hide (Chg.start e2 hBA)
      generalize x.loc = loc at *
      have hdc : decide ((s.size : Int) < (loc : Int) + (L.size : Int)) = false := by simp; omega
      gi_wp2
      gi_loop [6] (fun i => ∃ k : Nat, k ≤ L.size ∧ i = .int .i64 k) (fun i => L.size - (intOf i).toNat)
      case atStart => exact ⟨0, Nat.zero_le _, rfl⟩
      case round =>
        obtain ⟨k, hk, rfl⟩ := hrel
        by_cases hlt : k < L.size
        · have hb := HB.out k hlt
          have t1 : ((L[k].toNat : Int) == 10) = false := beq_eq_false_iff_ne.2 (by omega)
          have t2 : ((L[k].toNat : Int) == 13) = false := beq_eq_false_iff_ne.2 (by omega)
          clear hb
          gi_wp2
          exact ⟨⟨k + 1, by omega, by go_num⟩, by simp [intOf]; omega⟩
        · by_cases hq : loc + L.size < s.size
          · have hb := H4.out hq
            rw [show s.get! (loc + L.size) = s[loc + L.size] from get_at s _ hq] at hb
            by_cases h13 : s[loc + L.size].toNat = 13
            · have t1 : ((s[loc + L.size].toNat : Int) == 13) = true := beq_iff_eq.2 (by omega)
              by_cases hq2 : loc + L.size + 1 < s.size
              · by_cases h10 : (s[loc + L.size + 1]'hq2).toNat = 10
                · have t2 : (((s[loc + L.size + 1]'hq2).toNat : Int) == 10) = true := beq_iff_eq.2 (by omega)
                  have EN := hide (endL_crlf s _ hq2 h13 h10)
                  clear hb h13 h10
                  gi_wp2
                  exact FIN.out _ _ 2 (((CH.out.set (by omega) _).set (by omega) _).set (by omega) _) EN.out
                · have t2 : (((s[loc + L.size + 1]'hq2).toNat : Int) == 10) = false := beq_eq_false_iff_ne.2 (by omega)
                  have EN := hide (endL_one s _ hq (fun h => h10 h.2.2))
                  clear hb h13 h10
                  gi_wp2
                  exact FIN.out _ _ 1 ((CH.out.set (by omega) _).set (by omega) _) EN.out
              · have EN := hide (endL_one s _ hq (fun h => hq2 h.2.1))
                clear hb h13
                gi_wp2
                exact FIN.out _ _ 1 ((CH.out.set (by omega) _).set (by omega) _) EN.out
            · have t1 : ((s[loc + L.size].toNat : Int) == 13) = false := beq_eq_false_iff_ne.2 (by omega)
              have t2 : ((s[loc + L.size].toNat : Int) != 10) = false := by rw [bne_eq_false_iff_eq]; omega
              have EN := hide (endL_one s _ hq (fun h => h13 h.1))
              clear hb h13
              gi_wp2
              exact FIN.out _ _ 1 ((CH.out.set (by omega) _).set (by omega) _) EN.out
          · have EN := hide (endL_none s _ hq)
            have hne : L.toList.isEmpty = false := by
              rw [Lib.toList_data]
              cases hc : L.data.toList with
              | nil => have h := Lib.size_eq L; rw [hc, List.length_nil] at h; omega
              | cons _ _ => rfl
            gi_wp2
            exact FIN.out _ _ 0 (by rw [Int.add_zero]; exact CH.out.set (by omega) _) EN.out
    · have t1 : ((x.loc : Int) != ((curFrom 0 pre : Nat) : Int)) = true := by rw [bne_iff_ne]; omega
      have NG : Hid (¬ goodFrom 0 (pre ++ [x])) := fun h => hloc ((goodFrom_snoc pre 0 x).1 h).2
      clear hloc
      gi_wp2
      exact ⟨(KeepsOthers.setCell _ _ _).from _, NG.out⟩
  case done =>
    rintro D xs A hD rfl ⟨⟨⟨⟨hgd, e0⟩, e1⟩, e2⟩, hBA⟩ hK
    rw [(lines_good s).2] at e2
    have k0 := e0.cell
    have k1 := e1.cell
    have f1 := e1.frozen
    have k2 := e2.cell
    have hzA := hBA.size
    have hBwA := hBwU.trans hBA
    have hTA := tabs_below hw hT hBwA
    clear hgd
    gi_wp2_with fail
    refine ⟨trivial, ?_⟩
    refine (callsIn_wide.2 (head_any A (by omega) hTA)).mono ?_
    rintro e A1 ⟨rfl, hB1⟩
    have e1' : Boxed A1 (w.heap.size + 1) 4 (.bool false) := (hB1.block _ (by omega)).trans e1
    have k1' := e1'.cell
    have f1' := e1'.frozen
    have hK1 := (hB1.block D (Array.getElem?_eq_some_iff.1 hK).1).trans hK
    have hBw1 := hBwA.trans (hB1.mono (by omega))
    clear k1 f1
    gi_wp2
    have hK2 := (Below.heap_setCell A1 ⟨w.heap.size + 1, 0, none⟩ (.bool true) D (by simp; omega)).trans hK1
    refine ⟨by simp, .inl ⟨_, _, rfl, run_takeDeferred hK2, ?_⟩⟩
    have z0 : ((A1.setCell ⟨w.heap.size + 1, 0, none⟩ (.bool true)).putObj D (.deferred none)).cell? ⟨w.heap.size + 1, 0, none⟩ = _ := (World.cell?_of_block (World.putObj_heap_other (by show w.heap.size + 1 ≠ D; omega))).trans (e1'.set (.bool true)).cell
    refine ⟨.bool true, by simp [results, Tryd.f7, go_sem, z0], rfl, (hBw1.setCell (p := ⟨w.heap.size + 1, 0, none⟩) (by simp) _).trans ((putObj_below _ _ _).mono (by omega))⟩
  case stop =>
    rintro D c pre A hD ⟨r, hr⟩ hng hK
    exact absurd (goodFrom_front pre r 0 (by rw [hr]; exact (lines_good s).1)) hng

end Go.Proofs.YtfkoebbpdnleeacDoor
