/- surtitlelaw5.turned: a text with a byte turned, cut off, or with some behind, read as all three. -/
import Derived.Test.YtaipdckakgohjaaGreatDoorNumbersW5
import Derived.Test.YtaipdckakgohjaaGreatDoorGE
import Derived.Test.YtaipdckakgohjaaGreatDoorGF
import Derived.Lib.ConvBytes
namespace Go.Proofs.YtaipdckakgohjaaGreatDoor
open Go.RowKit Go.Shelf
attribute [local go_sem] Oper.semAt_some

theorem add_off (B j : Nat) : (⟨B, 0, none⟩ : Addr).add j = ⟨B, j, none⟩ := by
  by_cases c : j = 0
  · subst c; simp [Addr.add]
  · simp [Addr.add, c]
theorem back_of (W : World) (B cap : Nat) (l : List UInt8) (h : ∀ j (hj : j < l.length), W.cell? ⟨B, j, none⟩ = some (.int .u8 (l[j].toNat : Int))) : (convert 79 9 (.slice (some ⟨B, 0, none⟩) l.length cap)).run Tryz.prog W = .ok (.string ⟨l.toArray⟩) W :=
  run_convert_bytes_back (P := Tryz.prog) W 79 9 5 ⟨B, 0, none⟩ cap l Tryz.underlying79 Tryz.underlying5 Tryz.underlying9 (fun j hj => by rw [add_off]; exact h j hj)
/-- The bytes of a text in memory, one of them written over, as a text again. -/
theorem turned_back (V : World) (B cap k : Nat) (s : ByteArray) (x : Int) (hx : 0 ≤ x ∧ x ≤ 255) (hk : k < s.size) (hR : ∀ j, j < s.size → V.cell? ⟨B, j, none⟩ = some (.int .u8 (s.data.toList.getD j 0).toNat)) :
    ∃ t : ByteArray, t.size = s.size ∧ (convert 79 9 (.slice (some ⟨B, 0, none⟩) s.size cap)).run Tryz.prog (V.setCell ⟨B, k, none⟩ (.int .u8 x)) = .ok (.string t) (V.setCell ⟨B, k, none⟩ (.int .u8 x)) := by
  have hl : s.data.toList.length = s.size := (Lib.size_eq s).symm
  refine ⟨⟨(s.data.toList.set k (UInt8.ofNat x.toNat)).toArray⟩, ?_, ?_⟩
  · show (s.data.toList.set k (UInt8.ofNat x.toNat)).toArray.size = s.size
    simp
  · have := back_of (V.setCell ⟨B, k, none⟩ (.int .u8 x)) B cap (s.data.toList.set k (UInt8.ofNat x.toNat)) (fun j hj => by
      rw [List.length_set, hl] at hj
      have c0 := hR j hj
      by_cases e : j = k
      · subst e
        rw [List.getElem_set_self]
        have ex : ((UInt8.ofNat x.toNat).toNat : Int) = x := by
          rw [UInt8.toNat_ofNat']
          omega
        rw [ex]
        go_simp
      · rw [List.getElem_set_ne (fun h => e h.symm)]
        have c1 : (V.setCell ⟨B, k, none⟩ (.int .u8 x)).cell? ⟨B, j, none⟩ = V.cell? ⟨B, j, none⟩ := by
          go_simp
          first | done | (intro h; exact absurd h.symm e) | simp [e, Ne.symm e]
        rw [c1, c0]
        simp [List.getD, hl, hj])
    rw [List.length_set, hl] at this
    exact this

set_option maxRecDepth 100000 in
set_option maxHeartbeats 4000000 in
theorem turned_few (n d fm at_ by_ ct : Int) (dr : Bool) (s mo : ByteArray) (k j : Nat) (hs : 1 ≤ s.size ∧ s.size ≤ 100) (hmo : mo.size ≤ 50) (hk : k < s.size) (hj : j ≤ s.size) (w : World)
    (HN : ∀ (s : ByteArray) (w0 : World), s.size ≤ 1000 → Below w.heap.size w w0 → Calls Tryz.prog 44 #[.agg #[.int .i64 n, .int .i64 d, .bool dr], .string s] w0 fun e w' => e = .returned (.bool true) ∧ Below w0.heap.size w0 w')
    (HR : ∀ (s : ByteArray) (w0 : World), s.size ≤ 1000 → Below w.heap.size w w0 → Calls Tryz.prog 3 #[.int .i64 fm, .string s] w0 fun e w' => e = .returned (.bool true) ∧ Below w0.heap.size w0 w')
    (W1 : ∀ w, Calls Tryz.prog 13 #[.int .i64 at_, .int .i64 s.size] w fun e w' => e = .returned (.int .i64 (k : Nat)) ∧ w' = w)
    (W2 : ∀ w, Calls Tryz.prog 13 #[.int .i64 ct, .int .i64 ((s.size : Int) + 1)] w fun e w' => e = .returned (.int .i64 (j : Nat)) ∧ w' = w) :
    Calls Tryz.prog 15 #[.agg #[.int .i64 n, .int .i64 d, .bool dr], .int .i64 fm, .string s, .int .i64 at_, .int .u8 by_, .int .i64 ct, .string mo] w fun e w' => e = .returned (.bool true) ∧ Below w.heap.size w w' := by
  have HN := hideR HN
  have HR := hideR HR
  have W1 := hideR W1
  have W2 := hideR W2
  have z1 : ¬ (50 : Int) < (mo.size : Int) := by omega
  have z2 : (s.size : Int) ≤ 100 := by omega
  obtain ⟨O, hO⟩ : ∃ O : Obj, Obj.cells #[.int .i64 n, .int .i64 d, .bool dr] 31 = O := ⟨_, rfl⟩
  obtain ⟨V, hV⟩ : ∃ V, Lib.bytesWorld (w.alloc O) 5 s = V := ⟨_, rfl⟩
  obtain ⟨cap, hcap⟩ : ∃ cap, grownCap (w.alloc O) s.size 0 5 = cap := ⟨_, rfl⟩
  have HCV : (convert 9 79 (.string s)).run Tryz.prog (w.alloc O) = .ok (.slice (some ⟨w.heap.size + 1, 0, none⟩) s.size cap) V := by
    have := Lib.run_convert_string_bytes (P := Tryz.prog) (w.alloc O) 9 79 5 s Tryz.underlying9 Tryz.underlying79 Tryz.underlying5
    rw [hV, hcap, World.size_alloc] at this
    exact this
  have hz : V.heap.size = w.heap.size + 2 := by rw [← hV, Lib.bytesWorld_size, World.size_alloc]
  have hB : Below w.heap.size w V := by
    have h1 : Below (w.alloc O).heap.size (w.alloc O) V := by
      rw [← hV]
      exact ⟨rfl, rfl, rfl, by rw [Lib.bytesWorld_size]; omega, fun j hj => Lib.bytesWorld_at_old _ _ _ j hj⟩
    exact bup (bel1 w O) h1
  have hA : RateAt V w.heap.size n d dr := by
    have h0 := RateAt.new w n d dr
    rw [hO] at h0
    rw [← hV]
    exact ⟨by rw [Lib.bytesWorld_size, World.size_alloc]; omega, (Lib.bytesWorld_old _ _ _ ⟨w.heap.size, 0, none⟩ h0.1).trans h0.2.1, (Lib.bytesWorld_old _ _ _ ⟨w.heap.size, 1, none⟩ h0.1).trans h0.2.2.1, (Lib.bytesWorld_old _ _ _ ⟨w.heap.size, 2, none⟩ h0.1).trans h0.2.2.2⟩
  have hR : ∀ j, j < s.size → V.cell? ⟨w.heap.size + 1, j, none⟩ = some (.int .u8 (s.data.toList.getD j 0).toNat) := fun j hj => by
    have := Lib.bytesWorld_cell (w.alloc O) 5 s j hj
    rw [World.size_alloc, hV] at this
    exact this
  have hF : V.frozen? ⟨w.heap.size + 1, k, none⟩ = false := by
    have h1 := Lib.bytesWorld_at_new (w.alloc O) 5 s
    rw [World.size_alloc, hV] at h1
    unfold World.frozen?
    rw [h1]
    have : k < (Lib.bytesCells (w.alloc O) 5 s).size := by
      unfold Lib.bytesCells
      simp
      have : s.data.size = s.size := rfl
      omega
    simp
    omega
  have c0 := hR k hk
  obtain ⟨bv, hbv⟩ : ∃ bv : Nat, (s.data.toList.getD k 0).toNat = bv := ⟨_, rfl⟩
  have bv1 : bv ≤ 255 := by have := (s.data.toList.getD k 0).toNat_lt; omega
  rw [hbv] at c0
  obtain ⟨x, hx⟩ : ∃ x, IntKind.u8.wrap ((bv : Int) + by_) = x := ⟨_, rfl⟩
  have hx1 : 0 ≤ x ∧ x ≤ 255 := by rw [← hx, IntKind.wrap_u8]; omega
  obtain ⟨t, ht, HC2⟩ := turned_back V (w.heap.size + 1) cap k s x hx1 hk hR
  have zk : (k : Int) < (s.size : Int) := by omega
  have zk0 : (0 : Int) ≤ (k : Int) := by omega
  have zj : (j : Int) ≤ (s.size : Int) := by omega
  have ad : ∀ w, (Op.stringOp .add s mo).run Tryz.prog w = .ok (.string (s ++ mo)) w := fun w => run_string_add_sum (P := Tryz.prog) w s mo (by omega)
  clear hcap hV hR hbv
  subst hO
  go_enter Tryz.func15, Tryz.ntmps15
  go_wp2_with fail
  go_at_call 13
  refine (W1.out _).mono ?_
  rintro e wv ⟨rfl, hwv⟩
  obtain rfl := hwv.symm
  clear hwv
  go_wp2_with fail
  have A0 : RateAt (V.setCell ⟨w.heap.size + 1, k, none⟩ (.int .u8 x)) w.heap.size n d dr := by
    obtain ⟨q0, q1, q2, q3⟩ := hA
    have e : (V.setCell ⟨w.heap.size + 1, k, none⟩ (.int .u8 x)).heap[w.heap.size]? = V.heap[w.heap.size]? := Below.heap_setCell _ _ _ _ (by show w.heap.size ≠ w.heap.size + 1; omega)
    exact ⟨by rw [World.size_setCell]; exact q0, (World.cell?_of_block (a := ⟨w.heap.size, 0, none⟩) e).trans q1, (World.cell?_of_block (a := ⟨w.heap.size, 1, none⟩) e).trans q2, (World.cell?_of_block (a := ⟨w.heap.size, 2, none⟩) e).trans q3⟩
  have B0 : Below w.heap.size w (V.setCell ⟨w.heap.size + 1, k, none⟩ (.int .u8 x)) := hB.setCell (p := ⟨w.heap.size + 1, k, none⟩) (by show w.heap.size ≤ w.heap.size + 1; omega) _
  clear hA hB hF c0 HC2 HCV hz
  generalize V.setCell ⟨w.heap.size + 1, k, none⟩ (.int .u8 x) = V0 at *
  obtain ⟨_, a0, a1, a2⟩ := id A0
  go_at_call 13
  refine (W2.out _).mono ?_
  rintro e wv ⟨rfl, hwv⟩
  obtain rfl := hwv.symm
  clear hwv
  go_wp2_with fail
  go_at_call 44
  refine (HN.out t _ (by omega) B0).mono ?_
  rintro e V1 ⟨rfl, b1⟩
  have A1 := A0.keep b1
  have B1 := bup B0 b1
  clear A0 B0 b1 a0 a1 a2
  obtain ⟨_, a0, a1, a2⟩ := id A1
  go_wp2_with fail
  go_at_call 44
  refine (HN.out (s.extract 0 j) _ (by rw [ByteArray.size_extract]; omega) B1).mono ?_
  rintro e V2 ⟨rfl, b2⟩
  have A2 := A1.keep b2
  have B2 := bup B1 b2
  clear A1 B1 b2 a0 a1 a2
  obtain ⟨_, a0, a1, a2⟩ := id A2
  go_wp2_with fail
  go_at_call 44
  refine (HN.out (s ++ mo) _ (by rw [ByteArray.size_append]; omega) B2).mono ?_
  rintro e V3 ⟨rfl, b3⟩
  have A3 := A2.keep b3
  have B3 := bup B2 b3
  clear A2 B2 b3 a0 a1 a2
  obtain ⟨_, a0, a1, a2⟩ := id A3
  go_wp2_with fail
  go_at_call 3
  refine (HR.out t _ (by omega) B3).mono ?_
  rintro e V4 ⟨rfl, b4⟩
  have A4 := A3.keep b4
  have B4 := bup B3 b4
  clear A3 B3 b4 a0 a1 a2
  obtain ⟨_, a0, a1, a2⟩ := id A4
  go_wp2_with fail
  go_at_call 3
  refine (HR.out (s.extract 0 j) _ (by rw [ByteArray.size_extract]; omega) B4).mono ?_
  rintro e V5 ⟨rfl, b5⟩
  have A5 := A4.keep b5
  have B5 := bup B4 b5
  clear A4 B4 b5 a0 a1 a2
  obtain ⟨_, a0, a1, a2⟩ := id A5
  go_wp2_with fail
  go_at_call 3
  refine (HR.out (s ++ mo) _ (by rw [ByteArray.size_append]; omega) B5).mono ?_
  rintro e V6 ⟨rfl, b6⟩
  have A6 := A5.keep b6
  have B6 := bup B5 b6
  clear A5 B5 b6 a0 a1 a2
  obtain ⟨_, a0, a1, a2⟩ := id A6
  go_wp2_with fail
  go_ret
  exact ⟨by simp, B6⟩
set_option maxRecDepth 100000 in
set_option maxHeartbeats 4000000 in
theorem turned_many (n d fm at_ by_ ct : Int) (dr : Bool) (s mo : ByteArray) (k j : Nat) (hs : 1 ≤ s.size ∧ s.size ≤ 100) (hmo : 50 < mo.size) (hk : k < s.size) (hj : j ≤ s.size) (w : World)
    (HN : ∀ (s : ByteArray) (w0 : World), s.size ≤ 1000 → Below w.heap.size w w0 → Calls Tryz.prog 44 #[.agg #[.int .i64 n, .int .i64 d, .bool dr], .string s] w0 fun e w' => e = .returned (.bool true) ∧ Below w0.heap.size w0 w')
    (HR : ∀ (s : ByteArray) (w0 : World), s.size ≤ 1000 → Below w.heap.size w w0 → Calls Tryz.prog 3 #[.int .i64 fm, .string s] w0 fun e w' => e = .returned (.bool true) ∧ Below w0.heap.size w0 w')
    (W1 : ∀ w, Calls Tryz.prog 13 #[.int .i64 at_, .int .i64 s.size] w fun e w' => e = .returned (.int .i64 (k : Nat)) ∧ w' = w)
    (W2 : ∀ w, Calls Tryz.prog 13 #[.int .i64 ct, .int .i64 ((s.size : Int) + 1)] w fun e w' => e = .returned (.int .i64 (j : Nat)) ∧ w' = w) :
    Calls Tryz.prog 15 #[.agg #[.int .i64 n, .int .i64 d, .bool dr], .int .i64 fm, .string s, .int .i64 at_, .int .u8 by_, .int .i64 ct, .string mo] w fun e w' => e = .returned (.bool true) ∧ Below w.heap.size w w' := by
  have HN := hideR HN
  have HR := hideR HR
  have W1 := hideR W1
  have W2 := hideR W2
  have z1 : (50 : Int) < (mo.size : Int) := by omega
  have z3 : (50 : Int) ≤ (mo.size : Int) := by omega
  have z2 : (s.size : Int) ≤ 100 := by omega
  obtain ⟨O, hO⟩ : ∃ O : Obj, Obj.cells #[.int .i64 n, .int .i64 d, .bool dr] 31 = O := ⟨_, rfl⟩
  obtain ⟨V, hV⟩ : ∃ V, Lib.bytesWorld (w.alloc O) 5 s = V := ⟨_, rfl⟩
  obtain ⟨cap, hcap⟩ : ∃ cap, grownCap (w.alloc O) s.size 0 5 = cap := ⟨_, rfl⟩
  have HCV : (convert 9 79 (.string s)).run Tryz.prog (w.alloc O) = .ok (.slice (some ⟨w.heap.size + 1, 0, none⟩) s.size cap) V := by
    have := Lib.run_convert_string_bytes (P := Tryz.prog) (w.alloc O) 9 79 5 s Tryz.underlying9 Tryz.underlying79 Tryz.underlying5
    rw [hV, hcap, World.size_alloc] at this
    exact this
  have hz : V.heap.size = w.heap.size + 2 := by rw [← hV, Lib.bytesWorld_size, World.size_alloc]
  have hB : Below w.heap.size w V := by
    have h1 : Below (w.alloc O).heap.size (w.alloc O) V := by
      rw [← hV]
      exact ⟨rfl, rfl, rfl, by rw [Lib.bytesWorld_size]; omega, fun j hj => Lib.bytesWorld_at_old _ _ _ j hj⟩
    exact bup (bel1 w O) h1
  have hA : RateAt V w.heap.size n d dr := by
    have h0 := RateAt.new w n d dr
    rw [hO] at h0
    rw [← hV]
    exact ⟨by rw [Lib.bytesWorld_size, World.size_alloc]; omega, (Lib.bytesWorld_old _ _ _ ⟨w.heap.size, 0, none⟩ h0.1).trans h0.2.1, (Lib.bytesWorld_old _ _ _ ⟨w.heap.size, 1, none⟩ h0.1).trans h0.2.2.1, (Lib.bytesWorld_old _ _ _ ⟨w.heap.size, 2, none⟩ h0.1).trans h0.2.2.2⟩
  have hR : ∀ j, j < s.size → V.cell? ⟨w.heap.size + 1, j, none⟩ = some (.int .u8 (s.data.toList.getD j 0).toNat) := fun j hj => by
    have := Lib.bytesWorld_cell (w.alloc O) 5 s j hj
    rw [World.size_alloc, hV] at this
    exact this
  have hF : V.frozen? ⟨w.heap.size + 1, k, none⟩ = false := by
    have h1 := Lib.bytesWorld_at_new (w.alloc O) 5 s
    rw [World.size_alloc, hV] at h1
    unfold World.frozen?
    rw [h1]
    have : k < (Lib.bytesCells (w.alloc O) 5 s).size := by
      unfold Lib.bytesCells
      simp
      have : s.data.size = s.size := rfl
      omega
    simp
    omega
  have c0 := hR k hk
  obtain ⟨bv, hbv⟩ : ∃ bv : Nat, (s.data.toList.getD k 0).toNat = bv := ⟨_, rfl⟩
  have bv1 : bv ≤ 255 := by have := (s.data.toList.getD k 0).toNat_lt; omega
  rw [hbv] at c0
  obtain ⟨x, hx⟩ : ∃ x, IntKind.u8.wrap ((bv : Int) + by_) = x := ⟨_, rfl⟩
  have hx1 : 0 ≤ x ∧ x ≤ 255 := by rw [← hx, IntKind.wrap_u8]; omega
  obtain ⟨t, ht, HC2⟩ := turned_back V (w.heap.size + 1) cap k s x hx1 hk hR
  have zk : (k : Int) < (s.size : Int) := by omega
  have zk0 : (0 : Int) ≤ (k : Int) := by omega
  have zj : (j : Int) ≤ (s.size : Int) := by omega
  have ad : ∀ w, (Op.stringOp .add s (mo.extract 0 50)).run Tryz.prog w = .ok (.string (s ++ mo.extract 0 50)) w := fun w => run_string_add_sum (P := Tryz.prog) w s (mo.extract 0 50) (by rw [ByteArray.size_extract]; omega)
  clear hcap hV hR hbv
  subst hO
  go_enter Tryz.func15, Tryz.ntmps15
  go_wp2_with fail
  go_at_call 13
  refine (W1.out _).mono ?_
  rintro e wv ⟨rfl, hwv⟩
  obtain rfl := hwv.symm
  clear hwv
  go_wp2_with fail
  have A0 : RateAt (V.setCell ⟨w.heap.size + 1, k, none⟩ (.int .u8 x)) w.heap.size n d dr := by
    obtain ⟨q0, q1, q2, q3⟩ := hA
    have e : (V.setCell ⟨w.heap.size + 1, k, none⟩ (.int .u8 x)).heap[w.heap.size]? = V.heap[w.heap.size]? := Below.heap_setCell _ _ _ _ (by show w.heap.size ≠ w.heap.size + 1; omega)
    exact ⟨by rw [World.size_setCell]; exact q0, (World.cell?_of_block (a := ⟨w.heap.size, 0, none⟩) e).trans q1, (World.cell?_of_block (a := ⟨w.heap.size, 1, none⟩) e).trans q2, (World.cell?_of_block (a := ⟨w.heap.size, 2, none⟩) e).trans q3⟩
  have B0 : Below w.heap.size w (V.setCell ⟨w.heap.size + 1, k, none⟩ (.int .u8 x)) := hB.setCell (p := ⟨w.heap.size + 1, k, none⟩) (by show w.heap.size ≤ w.heap.size + 1; omega) _
  clear hA hB hF c0 HC2 HCV hz
  generalize V.setCell ⟨w.heap.size + 1, k, none⟩ (.int .u8 x) = V0 at *
  obtain ⟨_, a0, a1, a2⟩ := id A0
  go_at_call 13
  refine (W2.out _).mono ?_
  rintro e wv ⟨rfl, hwv⟩
  obtain rfl := hwv.symm
  clear hwv
  go_wp2_with fail
  go_at_call 44
  refine (HN.out t _ (by omega) B0).mono ?_
  rintro e V1 ⟨rfl, b1⟩
  have A1 := A0.keep b1
  have B1 := bup B0 b1
  clear A0 B0 b1 a0 a1 a2
  obtain ⟨_, a0, a1, a2⟩ := id A1
  go_wp2_with fail
  go_at_call 44
  refine (HN.out (s.extract 0 j) _ (by rw [ByteArray.size_extract]; omega) B1).mono ?_
  rintro e V2 ⟨rfl, b2⟩
  have A2 := A1.keep b2
  have B2 := bup B1 b2
  clear A1 B1 b2 a0 a1 a2
  obtain ⟨_, a0, a1, a2⟩ := id A2
  go_wp2_with fail
  go_at_call 44
  refine (HN.out (s ++ mo.extract 0 50) _ (by rw [ByteArray.size_append, ByteArray.size_extract]; omega) B2).mono ?_
  rintro e V3 ⟨rfl, b3⟩
  have A3 := A2.keep b3
  have B3 := bup B2 b3
  clear A2 B2 b3 a0 a1 a2
  obtain ⟨_, a0, a1, a2⟩ := id A3
  go_wp2_with fail
  go_at_call 3
  refine (HR.out t _ (by omega) B3).mono ?_
  rintro e V4 ⟨rfl, b4⟩
  have A4 := A3.keep b4
  have B4 := bup B3 b4
  clear A3 B3 b4 a0 a1 a2
  obtain ⟨_, a0, a1, a2⟩ := id A4
  go_wp2_with fail
  go_at_call 3
  refine (HR.out (s.extract 0 j) _ (by rw [ByteArray.size_extract]; omega) B4).mono ?_
  rintro e V5 ⟨rfl, b5⟩
  have A5 := A4.keep b5
  have B5 := bup B4 b5
  clear A4 B4 b5 a0 a1 a2
  obtain ⟨_, a0, a1, a2⟩ := id A5
  go_wp2_with fail
  go_at_call 3
  refine (HR.out (s ++ mo.extract 0 50) _ (by rw [ByteArray.size_append, ByteArray.size_extract]; omega) B5).mono ?_
  rintro e V6 ⟨rfl, b6⟩
  have A6 := A5.keep b6
  have B6 := bup B5 b6
  clear A5 B5 b6 a0 a1 a2
  obtain ⟨_, a0, a1, a2⟩ := id A6
  go_wp2_with fail
  go_ret
  exact ⟨by simp, B6⟩
theorem turned_any (n d fm at_ by_ ct : Int) (dr : Bool) (hn : I64 n) (hd : I64 d) (hf : I64 fm) (s mo : ByteArray) (hs : 1 ≤ s.size ∧ s.size ≤ 100) (w : World) (hp : PowAt w) :
    Calls Tryz.prog 15 #[.agg #[.int .i64 n, .int .i64 d, .bool dr], .int .i64 fm, .string s, .int .i64 at_, .int .u8 by_, .int .i64 ct, .string mo] w fun e w' => e = .returned (.bool true) ∧ Below w.heap.size w w' := by
  have HN := fun (s : ByteArray) (w0 : World) (h : s.size ≤ 1000) (b0 : Below w.heap.size w w0) => numbers_any n d dr hn hd s (by omega) w0 (hp.keep b0)
  have HR := fun (s : ByteArray) (w0 : World) (h : s.size ≤ 1000) (b0 : Below w.heap.size w w0) => reads_any fm hf s (by omega) w0 (hp.keep b0)
  have W1 := within_any at_ s.size (by omega)
  have W2 := within_any ct ((s.size : Int) + 1) (by omega)
  obtain ⟨k, hk⟩ := Int.eq_ofNat_of_zero_le (Int.emod_nonneg at_ (show (s.size : Int) ≠ 0 by omega))
  obtain ⟨j, hj⟩ := Int.eq_ofNat_of_zero_le (Int.emod_nonneg ct (show (s.size : Int) + 1 ≠ 0 by omega))
  have k1 := Int.emod_lt_of_pos at_ (show (0 : Int) < (s.size : Int) by omega)
  have j1 := Int.emod_lt_of_pos ct (show (0 : Int) < (s.size : Int) + 1 by omega)
  rw [hk] at W1 k1
  rw [hj] at W2 j1
  by_cases h : mo.size ≤ 50
  · exact turned_few n d fm at_ by_ ct dr s mo k j hs h (by omega) (by omega) w HN HR W1 W2
  · exact turned_many n d fm at_ by_ ct dr s mo k j hs (by omega) (by omega) (by omega) w HN HR W1 W2
end Go.Proofs.YtaipdckakgohjaaGreatDoor
