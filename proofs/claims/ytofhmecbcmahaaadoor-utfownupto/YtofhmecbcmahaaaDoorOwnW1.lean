/- The walk of UtfOwn: lists that were told are the caller's own; two Pieces do not see one another. -/
import Derived.Test.YtofhmecbcmahaaaDoorHead
import Derived.Test.YtofhmecbcmahaaaDoorOwA
import Derived.Test.YtofhmecbcmahaaaDoorPieW
import Derived.Test.YtofhmecbcmahaaaDoorBadW
import Derived.Test.YtofhmecbcmahaaaDoorRRun
import Derived.Test.YtofhmecbcmahaaaDoorStrW1
import Derived.Test.YtofhmecbcmahaaaDoorFdC
import Derived.Lib.SlBytesConst
namespace Go.Proofs.YtofhmecbcmahaaaDoor
open Go.RowKit

theorem cell_two_new (w : World) (a b : Value) (t : TypeId) : ∀ j u, [a, b][j]? = some u → (w.alloc (.cells #[a, b] t)).cell? ((⟨w.heap.size, 0, none⟩ : Addr).add j) = some u := by
  intro j u hj
  match j, hj with
  | 0, hj => simp at hj; subst hj; simp [Addr.add]
  | 1, hj => simp at hj; subst hj; simp [Addr.add]
  | j + 2, hj => simp at hj
theorem own_form {W : World} {base e n : Nat} {v : Value} {xs : List Value} (h : W.ownsRow base e 1 v n xs) : ∃ po cc, v = .slice po n cc ∧ (0 < n → ∃ g, po = some ⟨g, 0, none⟩) := by
  rcases h.2 with ⟨rfl, rfl⟩ | ⟨g, cap, cur, rfl, _⟩
  · exact ⟨none, 0, rfl, fun h => by omega⟩
  · exact ⟨_, _, rfl, fun _ => ⟨g, rfl⟩⟩
theorem own_but {A B : World} {M : Nat → Prop} {base e size n : Nat} {v : Value} {xs : List Value} (h : A.ownsRow base e size v n xs) (hb : But M A B) (hne : ∀ k, v.ownBlock = some k → ¬ M k) : B.ownsRow base e size v n xs := by
  refine ⟨h.1, ?_⟩
  rcases h.2 with hn | ⟨g, cap, cur, rfl, hg, hgg, rest⟩
  · exact .inl hn
  · exact .inr ⟨g, cap, cur, rfl, hg, (hb.same g (Array.getElem?_eq_some_iff.1 hgg).1 (hne g rfl)).trans hgg, rest⟩
/-- The cells of a row of runes. -/
theorem runes_cells {W : World} {base B cap : Nat} {l : List Int} (h : W.ownsRow base 21 1 (.slice (some ⟨B, 0, none⟩) l.length cap) l.length (runeV l)) : ∀ n (hn : n < l.length), ∃ a : Addr, some ⟨B, 0, none⟩ = some a ∧ (a.add n).block < W.heap.size ∧ W.cell? (a.add n) = some (.int .i32 l[n]) := fun n hn => by
  have hc := World.ownsRow.cells h (g := B) rfl n (.int .i32 l[n]) (by simp [runeV, hn])
  refine ⟨_, rfl, ?_, hc⟩
  have h2 := (h.lt B rfl).2
  by_cases c : n = 0
  · subst c; simpa [Addr.add] using h2
  · simpa [Addr.add, c] using h2
set_option maxRecDepth 100000 in
theorem euro_two : (⟨#[226, 130]⟩ : ByteArray).extract 0 ((⟨#[226, 130]⟩ : ByteArray).size - (openE ⟨#[226, 130]⟩).size) = ⟨#[]⟩ ∧ (⟨#[226, 130]⟩ : ByteArray).extract ((⟨#[226, 130]⟩ : ByteArray).size - (openE ⟨#[226, 130]⟩).size) (⟨#[226, 130]⟩ : ByteArray).size = ⟨#[226, 130]⟩ := ⟨by kernel_rfl, by kernel_rfl⟩
set_option maxRecDepth 100000 in
theorem euro_three : (⟨#[226, 130, 172]⟩ : ByteArray).extract 0 ((⟨#[226, 130, 172]⟩ : ByteArray).size - (openE ⟨#[226, 130, 172]⟩).size) = ⟨#[226, 130, 172]⟩ ∧ (⟨#[226, 130, 172]⟩ : ByteArray).extract ((⟨#[226, 130, 172]⟩ : ByteArray).size - (openE ⟨#[226, 130, 172]⟩).size) (⟨#[226, 130, 172]⟩ : ByteArray).size = ⟨#[]⟩ := ⟨by kernel_rfl, by kernel_rfl⟩
theorem none_app (b : ByteArray) : (⟨#[]⟩ : ByteArray) ++ b = b := ba_ext (by rw [app_ext]; simp)
theorem infoRune1 : (Tryd.prog.info? 21).map (fun i => (i.zero, i.size, i.bytes)) = some (some (.int .i32 0), 1, 4) := by kernel_rfl

set_option maxRecDepth 100000 in
set_option maxHeartbeats 4000000 in
theorem lawOwn1_any (s : ByteArray) (hs : s.size ≤ 1048576) (t : ByteArray) (ht : t.size ≤ 1048576) (_hst : s.size + t.size ≤ 1048576) (w : World) (hw : 2 ≤ w.heap.size) (hT : Lib.Utf8Tabs 0 1 w) :
    Calls Tryd.prog 17 #[.string s, .string t] w fun e w' => e = .returned (.bool true) ∧ Below w.heap.size w w' := by
  obtain ⟨i0, hi, hz0, hz1, hz2⟩ := info_parts2 infoInt1
  obtain ⟨i1, hj, hj0, hj1, hj2⟩ := info_parts2 infoRune1
  have hrl : (runesL s).length ≤ s.size := by unfold runesL; rw [List.length_map]; exact sgns_length s _ _
  have hbl : (badsL (signs s)).length ≤ s.size := Nat.le_trans (badsL_le _) (sgns_length s _ _)
  have HR := hideO (fun W => runes_own s (by omega) W)
  have HBd := hideO (fun W => bads_any s (by omega) W)
  have hrb : (runesL s).length ≤ 1048576 := by omega
  have hbb : (badsL (signs s)).length ≤ 1048576 := by omega
  obtain ⟨nr, hnr⟩ : ∃ nr, (runesL s).length = nr := ⟨_, rfl⟩
  obtain ⟨nb, hnb⟩ : ∃ nb, (badsL (signs s)).length = nb := ⟨_, rfl⟩
  have HNR := hideO hnr
  have HNB := hideO hnb
  rw [hnr] at HR hrb
  rw [hnb] at HBd hbb
  have HRB : Hid (∀ x ∈ runesL s, -2147483648 ≤ x ∧ x ≤ 2147483647) := fun x hx => by
    unfold runesL at hx
    obtain ⟨y, hy, rfl⟩ := List.mem_map.1 hx
    have := rune_bd hy
    omega
  have HI : Hid (∀ (W : World) (base B cap : Nat), W.ownsRow base 21 1 (.slice (some ⟨B, 0, none⟩) nr cap) nr (runeV (runesL s)) → Calls Tryd.prog 33 #[.slice (some ⟨B, 0, none⟩) nr cap] W fun e w' => ∃ oa ca, e = .returned (.slice oa nr ca) ∧ IntsAt w' oa (runesL s) ∧ Below W.heap.size W w') := fun W base B cap h => by
    rw [← hnr] at h ⊢
    refine (ints_any (runesL s) (by omega) _ _ _ (runes_cells h) HRB.out).mono ?_
    rintro e w' ⟨v, rfl, o, b⟩
    obtain ⟨oa, ca, rfl, h9⟩ := ints_of o
    exact ⟨oa, ca, rfl, h9, b⟩
  have HSR : Hid (∀ (W : World) (oa ob : Option Addr) (ca cb : Nat), IntsAt W oa (runesL s) → IntsAt W ob (runesL s) → Calls Tryd.prog 32 #[.slice oa nr ca, .slice ob nr cb] W fun e w' => e = .returned (.bool true) ∧ Below W.heap.size W w') := fun W oa ob ca cb h1 h2 => by
    rw [← hnr]
    exact same_any W (runesL s) oa ob ca cb (by omega) h1 h2
  have hbi : (badI s).length = nb := (badI_length s).trans hnb
  have HSB : Hid (∀ (W : World) (oa ob : Option Addr) (ca cb : Nat), IntsAt W oa (badI s) → IntsAt W ob (badI s) → Calls Tryd.prog 32 #[.slice oa nb ca, .slice ob nb cb] W fun e w' => e = .returned (.bool true) ∧ Below W.heap.size W w') := fun W oa ob ca cb h1 h2 => by
    rw [← hbi]
    exact same_any W (badI s) oa ob ca cb (by omega) h1 h2
  have HOB : Hid (∀ (W : World) (base : Nat) (po : Option Addr) (c : Nat), W.ownsRow base 3 1 (.slice po nb c) nb (badV (signs s)) → IntsAt W po (badI s)) := fun W base po c h => by
    rw [badV_eq, ← hbi] at h
    obtain ⟨oa, ca, e, h9⟩ := ints_of h
    cases e
    exact h9
  clear hrl hbl hnr hnb hbi
  go_enter Tryd.func17, Tryd.ntmps17
  go_wp2_with fail
  refine (HR.out _).mono ?_
  rintro r w1 ⟨ca, rfl, oa, b1⟩
  have s1 := b1.size
  have z1 := (oa.lt _ rfl).2
  go_wp2_with fail
  refine (HR.out _).mono ?_
  rintro r w2 ⟨cb, rfl, ob, b2⟩
  have s2 := b2.size
  have z2 := (ob.lt _ rfl).2
  go_wp2_with fail
  refine (HBd.out _).mono ?_
  rintro r w3 ⟨vc, rfl, oc, b3⟩
  obtain ⟨pc, cc, rfl, hpc⟩ := own_form oc
  have s3 := b3.size
  go_wp2_with fail
  refine (HBd.out _).mono ?_
  rintro r w4 ⟨vd, rfl, od, b4⟩
  obtain ⟨pd, cd, rfl, hpd⟩ := own_form od
  have s4 := b4.size
  have HCL : Hid (∀ k, (Value.slice pc nb cc).ownBlock = some k → w2.heap.size ≤ k ∧ k < w3.heap.size) := fun k e => oc.lt k e
  have HDL : Hid (∀ k, (Value.slice pd nb cd).ownBlock = some k → w3.heap.size ≤ k ∧ k < w4.heap.size) := fun k e => od.lt k e
  have oa4 := row_below (row_below (row_below oa b2) b3) b4
  have ob4 := row_below (row_below ob b3) b4
  have oc4 := row_below oc b4
  clear oa ob oc
  have HX := hideO (And.intro ob4 (And.intro oc4 (And.intro od (And.intro hpc (And.intro hpd (And.intro (b1.trans (b2.mono s1)) (b3.trans (b4.mono s3))))))))
  clear ob4 oc4 od hpc hpd b1 b2 b3 b4
  go_wp2_with (at_builtin; first
    | (refine wpList_append_row _ rfl _ _ 44 rfl w.heap.size 21 i1 (.int .i32 0) 1 4 Tryd.underlying44 hj hj0 hj1 hj2 rfl (by decide) _ _ _ rfl (oa4.alloc _) ⟨w4.heap.size, 0, none⟩ 2 2 [.int .i32 1, .int .i32 2] rfl rfl (cell_two_new _ _ _ _) (fun u hu => by simp at hu; rcases hu with rfl | rfl <;> rfl) (by omega) (by unfold maxLen; omega) (by omega) (by rw [World.size_alloc]; omega) ?_; intro oe ce w5 hg5 hk5; have s5 : w4.heap.size + 1 ≤ w5.heap.size := Nat.le_trans (by rw [World.size_alloc]; omega) hg5.size; have oc5 : w5.ownsRow w2.heap.size 3 1 (.slice pc nb cc) nb (badV (signs s)) := (HX.out.2.1.alloc _).kept hg5 (by cases hq : (Value.slice pc nb cc).ownBlock with | none => exact .inl rfl | some k => exact .inr (fun e => by have h7 := HCL.out k hq; have h8 : k = w.heap.size := Option.some.inj e; omega)))
    | (refine wpList_append_row _ rfl _ _ 42 rfl w2.heap.size 3 i0 (.int .i64 0) 1 8 Tryd.underlying42 hi hz0 hz1 hz2 rfl (by decide) _ _ _ rfl (oc5.alloc _) ⟨w5.heap.size, 0, none⟩ 2 2 [.int .i64 1, .int .i64 2] rfl rfl (cell_two_new _ _ _ _) (fun u hu => by simp at hu; rcases hu with rfl | rfl <;> rfl) (by omega) (by unfold maxLen; omega) (by omega) (by rw [World.size_alloc]; omega) ?_; intro of' cf w6 hg6 hk6; have s6 : w5.heap.size + 1 ≤ w6.heap.size := Nat.le_trans (by rw [World.size_alloc]; omega) hg6.size))
  obtain ⟨ob4, oc4, od4, hpc, hpd, bw2, bw4⟩ := HX.out
  have hnA : some w.heap.size ≠ (Value.slice pc nb cc).ownBlock := fun e => by have := HCL.out _ e.symm; omega
  have hnB : some w1.heap.size ≠ (Value.slice pc nb cc).ownBlock := fun e => by have := HCL.out _ e.symm; omega
  have hA6 : ∃ cur : Array Value, w6.heap[w.heap.size]? = some (.cells cur 21 (0, 0)) ∧ nr ≤ cur.size := by
    obtain ⟨cur, h1, h2⟩ := hk5 _ _ _ rfl
    exact ⟨cur, (hg6.block _ (by rw [World.size_alloc]; omega) hnA).trans ((Below.heap_alloc _ _ _ (by omega)).trans h1), by omega⟩
  have hC6 : ∀ gc, pc = some ⟨gc, 0, none⟩ → ∃ cur : Array Value, w6.heap[gc]? = some (.cells cur 3 (0, 0)) ∧ nb ≤ cur.size := fun gc e => by
    subst e
    obtain ⟨cur, h1, h2⟩ := hk6 _ _ _ rfl
    exact ⟨cur, h1, by omega⟩
  have ob6 : w6.ownsRow w1.heap.size 21 1 (.slice (some ⟨w1.heap.size, 0, none⟩) nr cb) nr (runeV (runesL s)) :=
    (((ob4.alloc _).kept hg5 (.inr (fun e => by have h8 : w1.heap.size = w.heap.size := Option.some.inj e; omega))).alloc _).kept hg6 (.inr hnB)
  have od6 : w6.ownsRow w3.heap.size 3 1 (.slice pd nb cd) nb (badV (signs s)) := by
    cases hq : (Value.slice pd nb cd).ownBlock with
    | none => exact (((od4.alloc _).kept hg5 (.inl hq)).alloc _).kept hg6 (.inl hq)
    | some k =>
      have h7 := HDL.out k hq
      exact (((od4.alloc _).kept hg5 (.inr (fun e => by rw [hq] at e; have h8 : k = w.heap.size := Option.some.inj e; omega))).alloc _).kept hg6 (.inr (fun e => by rw [hq] at e; have := HCL.out k e.symm; omega))
  have b56 : Below w.heap.size w w6 := by
    refine ((bw2.trans (bw4.mono (by omega))).trans ?_)
    refine ⟨?_, ?_, ?_, ?_, ?_⟩
    · exact hg6.os.trans (hg5.os)
    · exact hg6.tape.trans (hg5.tape)
    · exact hg6.output.trans (hg5.output)
    · omega
    · intro k hk
      refine (hg6.block k (by rw [World.size_alloc]; omega) (fun e => by have := HCL.out k e.symm; omega)).trans ((Below.heap_alloc _ _ _ (by omega)).trans ((hg5.block k (by rw [World.size_alloc]; omega) (fun e => by have h8 : k = w.heap.size := Option.some.inj e; omega)).trans (Below.heap_alloc _ _ _ (by omega))))
  have H6 := hideO (And.intro hA6 (And.intro hC6 (And.intro ob6 (And.intro od6 b56))))
  clear hA6 hC6 ob6 od6 b56 hg5 hg6 hk5 hk6 oc5 oa4 ob4 oc4 od4 HX hnA hnB bw2 bw4 hj hj0 hj1 hj2 hi hz0 hz1 hz2
  have hs46 : w4.heap.size + 2 ≤ w6.heap.size := by omega
  clear s5 s6
  go_loopw [11] (fun i wr => ∃ k : Nat, i = .int .i64 k ∧ k ≤ nr ∧ But (fun b => b = w.heap.size) w6 wr ∧ ∃ cur : Array Value, wr.heap[w.heap.size]? = some (.cells cur 21 (0, 0)) ∧ nr ≤ cur.size) (fun i _ => nr - (intOf i).toNat)
  case atStart => exact ⟨0, rfl, by omega, But.refl _ _, H6.out.1⟩
  case round =>
    obtain ⟨k, rfl, hk, hBk, cur, hcur, hcs⟩ := hrel
    by_cases hkl : k < nr
    · have hki : (k : Int) < (nr : Int) := by omega
      have hkc : k < cur.size := by omega
      have c0 : wr.cell? ⟨w.heap.size, k, none⟩ = some cur[k] := by simp [World.cell?, hcur, hkc]
      have f0 : wr.frozen? ⟨w.heap.size, k, none⟩ = false := by simp [World.frozen?, hcur]
      have HN := hideO (show (wr.setCell ⟨w.heap.size, k, none⟩ (.int .i32 (-5))).heap[w.heap.size]? = _ from heap_setCell_same wr w.heap.size k _ _ _ hcur)
      have HB2 := hideO (hBk.setCell (p := ⟨w.heap.size, k, none⟩) rfl (.int .i32 (-5)))
      clear hBk hcur
      go_wp2
      exact ⟨⟨k + 1, by go_num, by omega, HB2.out, _, HN.out, by rw [Array.size_setIfInBounds]; exact hcs⟩, by simp [intOf]; omega⟩
    · have hki : ¬ (k : Int) < (nr : Int) := by omega
      have HBK := hideO hBk
      clear hBk hcur hcs
      go_wp2
      go_loopw [12] (fun i wq => ∃ j : Nat, i = .int .i64 j ∧ j ≤ nb ∧ But (fun b => b = w.heap.size ∨ pc = some ⟨b, 0, none⟩) w6 wq ∧ ∀ gc, pc = some ⟨gc, 0, none⟩ → ∃ cur : Array Value, wq.heap[gc]? = some (.cells cur 3 (0, 0)) ∧ nb ≤ cur.size) (fun i _ => nb - (intOf i).toNat)
      case atStart =>
        refine ⟨0, rfl, by omega, HBK.out.mono (fun _ _ e => .inl e), fun gc e => ?_⟩
        obtain ⟨cur, h1, h2⟩ := H6.out.2.1 gc e
        have h9 := HCL.out gc (by rw [e]; rfl)
        exact ⟨cur, (HBK.out.same gc (Array.getElem?_eq_some_iff.1 h1).1 (by omega)).trans h1, h2⟩
      case round =>
        obtain ⟨j, rfl, hj, hBj, hcj⟩ := hrel
        by_cases hjl : j < nb
        · obtain ⟨gc, rfl⟩ := hpc (by omega)
          obtain ⟨cur, hcur, hcs⟩ := hcj gc rfl
          have hji : (j : Int) < (nb : Int) := by omega
          have hjc : j < cur.size := by omega
          have c0 : wr.cell? ⟨gc, j, none⟩ = some cur[j] := by simp [World.cell?, hcur, hjc]
          have f0 : wr.frozen? ⟨gc, j, none⟩ = false := by simp [World.frozen?, hcur]
          have HN := hideO (show (wr.setCell ⟨gc, j, none⟩ (.int .i64 (-5))).heap[gc]? = _ from heap_setCell_same wr gc j _ _ _ hcur)
          have HB2 := hideO (hBj.setCell (p := ⟨gc, j, none⟩) (.inr rfl) (.int .i64 (-5)))
          clear hBj hcur hcj
          go_wp2
          refine ⟨⟨j + 1, by go_num, by omega, HB2.out, fun gd e => ?_⟩, by simp [intOf]; omega⟩
          obtain rfl : gc = gd := by simpa using e
          exact ⟨_, HN.out, by rw [Array.size_setIfInBounds]; exact hcs⟩
        · have hji : ¬ (j : Int) < (nb : Int) := by omega
          obtain ⟨_, _, ob6, od6, b56⟩ := H6.out
          have ob8 := own_but ob6 hBj (fun q hq => by
            have h8 : w1.heap.size = q := Option.some.inj hq
            rintro (e | e)
            · omega
            · have := HCL.out q (by rw [e]; rfl); omega)
          have od8 := own_but od6 hBj (fun q hq => by
            have h7 := HDL.out q hq
            rintro (e | e)
            · omega
            · have := HCL.out q (by rw [e]; rfl); omega)
          have b8 : Below w.heap.size w wr := b56.trans (hBj.below b56.size (fun q e => by
            rcases e with e | e
            · omega
            · have := HCL.out q (by rw [e]; rfl); omega))
          have s8 := hBj.size
          have HW8 := hideO (And.intro ob8 (And.intro od8 b8))
          have hs8 : w4.heap.size + 2 ≤ wr.heap.size := by omega
          clear hBj hcj ob8 od8 b8 ob6 od6 b56 H6 HBK HCL HDL s8
          go_wp2_with fail
          refine (HR.out _).mono ?_
          rintro r w9 ⟨c9, rfl, o9, b9⟩
          have s9 := b9.size
          go_wp2_with fail
          refine (HI.out _ _ _ _ o9).mono ?_
          rintro r x1 ⟨i1a, i1c, rfl, q1, d1⟩
          have r1 := d1.size
          go_wp2_with fail
          refine (HI.out _ _ _ _ (row_below (row_below HW8.out.1 b9) d1)).mono ?_
          rintro r x2 ⟨i2a, i2c, rfl, q2, d2⟩
          have r2 := d2.size
          have q12 := q1.below d2
          clear q1 o9
          go_wp2_with fail
          refine (HSR.out _ _ _ _ _ q12 q2).mono ?_
          rintro r x3 ⟨rfl, d3⟩
          have r3 := d3.size
          clear q12 q2
          go_wp2_with fail
          refine (HBd.out _).mono ?_
          rintro r x4 ⟨v4, rfl, o4, d4⟩
          have r4 := d4.size
          obtain ⟨p4, c4, rfl, _⟩ := own_form o4
          have od9 := row_below (row_below (row_below (row_below (row_below HW8.out.2.1 b9) d1) d2) d3) d4
          go_wp2_with fail
          refine (HSB.out _ _ _ _ _ (HOB.out _ _ _ _ o4) (HOB.out _ _ _ _ od9)).mono ?_
          rintro r x5 ⟨rfl, d5⟩
          have r5 := d5.size
          have HB5 := hideO (((((((HW8.out.2.2.trans (b9.mono (by omega))).trans (d1.mono (by omega))).trans (d2.mono (by omega))).trans (d3.mono (by omega))).trans (d4.mono (by omega))).trans (d5.mono (by omega))))
          have hx5 : w.heap.size + 2 ≤ x5.heap.size := by omega
          clear o4 od9 b9 d1 d2 d3 d4 d5 HW8 HR HBd HI HSR HSB HOB HRB
          go_wp2_with fail
          refine (newp_any _).mono ?_
          rintro r x6 ⟨rfl, rfl⟩
          have hX6 : Holds (x5.alloc (.cells #[.string ⟨#[]⟩] 97)) x5.heap.size ⟨#[]⟩ := World.alloc_heap_new x5 _
          have b6 : Below w.heap.size w (x5.alloc (.cells #[.string ⟨#[]⟩] 97)) := HB5.out.alloc (by omega) _
          have r6 : x5.heap.size + 1 ≤ (x5.alloc (.cells #[.string ⟨#[]⟩] 97)).heap.size := by rw [World.size_alloc]; omega
          generalize x5.alloc (.cells #[.string ⟨#[]⟩] 97) = x6 at *
          clear HB5
          go_wp2_with fail
          refine (newp_any _).mono ?_
          rintro r x7 ⟨rfl, rfl⟩
          have hY7 : Holds (x6.alloc (.cells #[.string ⟨#[]⟩] 97)) x6.heap.size ⟨#[]⟩ := World.alloc_heap_new x6 _
          have hX7 : Holds (x6.alloc (.cells #[.string ⟨#[]⟩] 97)) x5.heap.size ⟨#[]⟩ := (Below.heap_alloc _ _ _ (by omega)).trans hX6
          have b7 : Below w.heap.size w (x6.alloc (.cells #[.string ⟨#[]⟩] 97)) := b6.alloc (by omega) _
          have r7 : x6.heap.size + 1 ≤ (x6.alloc (.cells #[.string ⟨#[]⟩] 97)).heap.size := by rw [World.size_alloc]; omega
          generalize x6.alloc (.cells #[.string ⟨#[]⟩] 97) = x7 at *
          have hcc := Lib.run_convert_bytes_const (P := Tryd.prog) x7 55 5 #[.int .u8 226, .int .u8 130] 2 2 Tryd.underlying55 Tryd.underlying5
          have H7 := hideO (And.intro hX7 (And.intro hY7 b7))
          clear hX6 b6 hX7 hY7 b7
          go_wp2_with fail
          obtain ⟨hX7, hY7, b7⟩ := H7.out
          have hby1 := bytes_two x7 226 130 5 (2, 3)
          have bA := (Below.refl x7.heap.size x7).alloc (Nat.le_refl _) (.cells #[.int .u8 226, .int .u8 130] 5 (2, 3))
          have hX7' := hX7.below bA hX7.lt
          have hY7' := hY7.below bA hY7.lt
          have b7' := b7.trans (bA.mono b7.size)
          have rA := bA.size
          refine (feed_at _ (by omega) (tabs_below hw hT b7') x5.heap.size _ hX7' x7.heap.size 2 2 ⟨#[226, 130]⟩ ⟨#[226, 130]⟩ ⟨#[]⟩ ⟨#[226, 130]⟩ rfl hby1 (by decide) (none_app _) euro_two.1 euro_two.2).mono ?_
          rintro r x8 ⟨rfl, hX8, bt8⟩
          have r8 := bt8.size
          have hY8 : Holds x8 x6.heap.size ⟨#[]⟩ := (bt8.same _ hY7'.lt (by omega)).trans hY7'
          have b8 : Below w.heap.size w x8 := b7'.trans (bt8.below (by omega) (fun q e => by omega))
          have r8' : x7.heap.size ≤ x8.heap.size := by omega
          have H8 := hideO (And.intro hX8 (And.intro hY8 b8))
          have hcv2 := run_bytes_of_string (P := Tryd.prog) x8 9 55 5 t Tryd.underlying9 Tryd.underlying55 Tryd.underlying5
          clear hX7 hY7 b7 H7 hX8 hY8 b8 bt8 hX7' hY7' b7' bA hby1 r8 rA hcc
          obtain ⟨tl, htl⟩ : ∃ tl, t.extract 0 (t.size - (openE t).size) = tl := ⟨_, rfl⟩
          obtain ⟨hd, hhd⟩ : ∃ hd, t.extract (t.size - (openE t).size) t.size = hd := ⟨_, rfl⟩
          have HTL := hideO htl
          have HHD := hideO hhd
          clear htl hhd
          go_wp2_with fail
          obtain ⟨hX8, hY8, b8⟩ := H8.out
          refine (feed_conv x8 (by omega) (tabs_below hw hT b8) x6.heap.size _ hY8 t t tl hd (by show 0 + t.size ≤ _; omega) (none_app _) HTL.out HHD.out).mono ?_
          rintro r x9 ⟨rfl, hY9, bt9⟩
          have r9 := bt9.size
          have hX9 : Holds x9 x5.heap.size ⟨#[226, 130]⟩ := (bt9.same _ hX8.lt (by omega)).trans hX8
          have b9 : Below w.heap.size w x9 := b8.trans (bt9.below (by omega) (fun q e => by omega))
          have H9 := hideO (And.intro hX9 (And.intro hY9 b9))
          clear hX8 hY8 b8 H8 hX9 hY9 b9 bt9 hcv2
          go_wp2_with fail
          refine (newp_any _).mono ?_
          rintro r y1 ⟨rfl, rfl⟩
          obtain ⟨hX9, hY9, b9⟩ := H9.out
          have hQ : Holds (x9.alloc (.cells #[.string ⟨#[]⟩] 97)) x9.heap.size ⟨#[]⟩ := World.alloc_heap_new x9 _
          have hX1 : Holds (x9.alloc (.cells #[.string ⟨#[]⟩] 97)) x5.heap.size ⟨#[226, 130]⟩ := (Below.heap_alloc _ _ _ hX9.lt).trans hX9
          have hY1 : Holds (x9.alloc (.cells #[.string ⟨#[]⟩] 97)) x6.heap.size hd := (Below.heap_alloc _ _ _ hY9.lt).trans hY9
          have b1y : Below w.heap.size w (x9.alloc (.cells #[.string ⟨#[]⟩] 97)) := b9.alloc (by omega) _
          have t1 : x9.heap.size + 1 ≤ (x9.alloc (.cells #[.string ⟨#[]⟩] 97)).heap.size := by rw [World.size_alloc]; omega
          generalize x9.alloc (.cells #[.string ⟨#[]⟩] 97) = y1 at *
          have G1 := hideO (And.intro hQ (And.intro hX1 (And.intro hY1 b1y)))
          have hcv3 := run_bytes_of_string (P := Tryd.prog) y1 9 55 5 t Tryd.underlying9 Tryd.underlying55 Tryd.underlying5
          clear hQ hX1 hY1 b1y hX9 hY9 b9 H9
          go_wp2_with fail
          obtain ⟨hQ, hX1, hY1, b1y⟩ := G1.out
          refine (feed_conv y1 (by omega) (tabs_below hw hT b1y) x9.heap.size _ hQ t t tl hd (by show 0 + t.size ≤ _; omega) (none_app _) HTL.out HHD.out).mono ?_
          rintro r y2 ⟨rfl, hQ2, bt2⟩
          have t2 := bt2.size
          have hX2 : Holds y2 x5.heap.size ⟨#[226, 130]⟩ := (bt2.same _ hX1.lt (by omega)).trans hX1
          have hY2 : Holds y2 x6.heap.size hd := (bt2.same _ hY1.lt (by omega)).trans hY1
          have b2y : Below w.heap.size w y2 := b1y.trans (bt2.below (by omega) (fun q e => by omega))
          have G2 := hideO (And.intro hQ2 (And.intro hX2 (And.intro hY2 b2y)))
          have teq1 : (tl.toList == tl.toList) = true := by simp
          clear hQ hX1 hY1 b1y G1 hQ2 hX2 hY2 b2y bt2 hcv3
          go_wp2_with fail
          obtain ⟨hQ2, hX2, hY2, b2y⟩ := G2.out
          refine (end_any y2 x9.heap.size _ hQ2).mono ?_
          rintro r y3 ⟨rfl, hy3⟩
          have bt3 : But (fun q => q = x9.heap.size) y2 y3 := by rw [hy3]; exact But.setCell (M := fun q => q = x9.heap.size) (But.refl _ _) (p := ⟨x9.heap.size, 0, none⟩) rfl _
          have t3 := bt3.size
          have hX3 : Holds y3 x5.heap.size ⟨#[226, 130]⟩ := (bt3.same _ hX2.lt (by omega)).trans hX2
          have hY3 : Holds y3 x6.heap.size hd := (bt3.same _ hY2.lt (by omega)).trans hY2
          have b3y : Below w.heap.size w y3 := b2y.trans (bt3.below (by omega) (fun q e => by omega))
          have G3 := hideO (And.intro hX3 (And.intro hY3 b3y))
          clear hQ2 hX2 hY2 b2y hy3 bt3 hX3 hY3 b3y G2
          go_wp2_with fail
          obtain ⟨hX3, hY3, b3y⟩ := G3.out
          refine (end_any y3 x6.heap.size _ hY3).mono ?_
          rintro r y4 ⟨rfl, hy4⟩
          have bt4 : But (fun q => q = x6.heap.size) y3 y4 := by rw [hy4]; exact But.setCell (M := fun q => q = x6.heap.size) (But.refl _ _) (p := ⟨x6.heap.size, 0, none⟩) rfl _
          have t4 := bt4.size
          have hX4 : Holds y4 x5.heap.size ⟨#[226, 130]⟩ := (bt4.same _ hX3.lt (by omega)).trans hX3
          have b4y : Below w.heap.size w y4 := b3y.trans (bt4.below (by omega) (fun q e => by omega))
          have G4 := hideO (And.intro hX4 b4y)
          have teq2 : (hd.toList == hd.toList) = true := by simp
          clear hX3 hY3 b3y hy4 bt4 b4y G3
          go_wp2_with fail
          refine (held_any _ _ _ hX4).mono ?_
          rintro r y5 ⟨rfl, h5⟩
          obtain rfl := h5.symm
          clear hX4
          have hsz2 : ((⟨#[226, 130]⟩ : ByteArray).size : Int) = 2 := rfl
          have hcc2 := Lib.run_convert_bytes_const (P := Tryd.prog) y4 55 5 #[.int .u8 172] 1 1 Tryd.underlying55 Tryd.underlying5
          go_wp2_with fail
          obtain ⟨hX4, b4y⟩ := G4.out
          have hby2 := bytes_one y4 172 5 (1, 2)
          have bA := (Below.refl y4.heap.size y4).alloc (Nat.le_refl _) (.cells #[.int .u8 172] 5 (1, 2))
          have hX4' := hX4.below bA hX4.lt
          have b4' := b4y.trans (bA.mono b4y.size)
          have rA := bA.size
          refine (feed_at _ (by omega) (tabs_below hw hT b4') x5.heap.size _ hX4' y4.heap.size 1 1 ⟨#[172]⟩ ⟨#[226, 130, 172]⟩ ⟨#[226, 130, 172]⟩ ⟨#[]⟩ rfl hby2 (by decide) rfl euro_three.1 euro_three.2).mono ?_
          rintro r y6 ⟨rfl, _, bt6⟩
          have t6 := bt6.size
          have b6y : Below w.heap.size w y6 := b4'.trans (bt6.below (by omega) (fun q e => by omega))
          clear bt6 hX4 b4y hby2 bA hX4' b4' hcc2 G4
          go_wp2_with fail
          refine (head_any _ (by omega) (tabs_below hw hT b6y)).mono ?_
          rintro r y7 ⟨rfl, b7y⟩
          go_wp2
          go_ret
          exact ⟨rfl, b6y.trans (b7y.mono (by omega))⟩
end Go.Proofs.YtofhmecbcmahaaaDoor
