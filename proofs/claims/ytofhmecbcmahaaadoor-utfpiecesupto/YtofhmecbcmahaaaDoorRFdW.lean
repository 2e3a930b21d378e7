/- The contracts of the document's own Pieces (surtitleref1): Feed, End. -/
import Derived.Test.YtofhmecbcmahaaaDoorRFed
import Derived.Test.YtofhmecbcmahaaaDoorAppW
import Derived.Test.YtofhmecbcmahaaaDoorLawS
import Derived.Test.YtofhmecbcmahaaaDoorStrW1
import Derived.Laws.AppendOwnNone
namespace Go.Proofs.YtofhmecbcmahaaaDoor
open Go.RowKit

/-- A slice of bytes. -/
def SliceB (W : World) (v : Value) (b : ByteArray) : Prop := (v = .slice none 0 0 ∧ b.size = 0) ∨ ∃ a cap, v = .slice (some a) b.size cap ∧ ∀ k (h : k < b.size), (a.add k).block < W.heap.size ∧ W.cell? (a.add k) = some (.int .u8 (b[k].toNat : Nat))
def byteV (b : ByteArray) : List Value := b.data.toList.map fun c => .int .u8 (c.toNat : Nat)
theorem byteV_len (b : ByteArray) : (byteV b).length = b.size := by rw [Lib.size_eq]; simp [byteV]
theorem byteV_at {b : ByteArray} {j : Nat} {u : Value} (h : (byteV b)[j]? = some u) : ∃ hj : j < b.size, u = .int .u8 (b[j].toNat : Nat) := by
  have hj : j < b.size := by
    obtain ⟨h1, _⟩ := List.getElem?_eq_some_iff.1 h
    rw [byteV_len] at h1
    exact h1
  refine ⟨hj, ?_⟩
  have hj2 : j < b.data.toList.length := by rw [← Lib.size_eq]; exact hj
  unfold byteV at h
  rw [List.getElem?_map, List.getElem?_eq_getElem hj2] at h
  simp only [Option.map_some, Option.some.injEq] at h
  rw [← h]
  rfl
theorem byteV_app (a b : ByteArray) : byteV (a ++ b) = byteV a ++ byteV b := by
  unfold byteV
  rw [ByteArray.data_append, Array.toList_append, List.map_append]

theorem wpList_append_bytes {P : Program} {ops : Array Oper} {rest : List Oper} {o : Oper} {a : Act} {Q : Exit → Act → World → Prop} (w : World) (hgd : o.guard = none) (s x : Operand) (t : TypeId)
    (ho : o.op = .call { callee := .builtin .append, args := #[s, x], argTypes := #[t, t] })
    (base : Nat) (e : TypeId) (i : TypeInfo) (z : Value) (bytes : Nat) (ht : P.underlying t = some (.slice e)) (hi : P.info? e = some i) (hz : i.zero = some z)
    (hsize : i.size = 1) (hby : i.bytes = bytes) (hzs : z.cells.size = 1)
    (v : Value) (n : Nat) (xs : List Value) (hs : a.eval s = v) (hown : w.ownsRow base e 1 v n xs)
    (vx : Value) (b : ByteArray) (hx : a.eval x = vx) (hb : SliceB w vx b)
    (h63 : n + b.size ≤ maxLen) (hbytes : (n + b.size) * bytes ≤ 140737488355328) (hbase : base ≤ w.heap.size)
    (h : ∀ v' w', w'.ownsRow base e 1 v' (n + b.size) (xs ++ byteV b) → w.grownBy w' v.ownBlock → wpList P ops Q rest (a.put o.dst v') w') : wpList P ops Q (o :: rest) a w := by
  rcases hb with ⟨rfl, h0⟩ | ⟨ax, cap, rfl, hbf⟩
  · have hbv : byteV b = [] := List.length_eq_zero_iff.1 (by rw [byteV_len]; exact h0)
    have h1 := h v w (by rw [h0, hbv, List.append_nil]; exact hown) (World.grownBy.refl w _)
    exact wpList_append_own_none hgd s x t ho base e i 1 ht hi v n xs hs hown hx h1
  · refine wpList_append_own w hgd s x t ho base e i z 1 bytes ht hi hz hsize hby hzs (by decide) v n xs hs hown ax b.size cap (byteV b) hx (by rw [byteV_len]; omega) (fun j u hu => ?_) (fun u hu => ?_) h63 hbytes hbase (fun v' w' h1 h2 _ => h v' w' h1 h2)
    · obtain ⟨hj, rfl⟩ := byteV_at hu
      exact (hbf j hj).2
    · unfold byteV at hu
      obtain ⟨c, _, rfl⟩ := List.mem_map.1 hu
      rfl

/-- The same, its row in memory from m on. -/
def RNew (m : Nat) (W : World) (R : Nat) (h : ByteArray) : Prop := ∃ v, W.heap[R]? = some (.cells #[v] 57 (0, 0)) ∧ SliceB W v h ∧ ∀ a n c k, v = .slice (some a) n c → k < n → m ≤ (a.add k).block
/-- What the document's own Pieces holds. -/
def RHolds (W : World) (R : Nat) (h : ByteArray) : Prop := ∃ v, W.heap[R]? = some (.cells #[v] 57 (0, 0)) ∧ SliceB W v h
theorem infoU8 : (Tryd.prog.info? 5).map (fun i => (i.zero, i.size, i.bytes)) = some (some (.int .u8 0), 1, 1) := by kernel_rfl
theorem BytesFrom.below {W W' : World} {g off m : Nat} {b : ByteArray} (h : BytesFrom W g off b) (hb : Below m W W') (hg : g < m) : BytesFrom W' g off b := fun k hk => (hb.cell (p := ⟨g, off + k, none⟩) hg).trans (h k hk)
theorem SliceB.below {W W' : World} {v : Value} {b : ByteArray} (h : SliceB W v b) (hb : Below W.heap.size W W') : SliceB W' v b := by
  rcases h with h | ⟨a, cap, h1, h2⟩
  · exact .inl h
  · exact .inr ⟨a, cap, h1, fun k hk => ⟨Nat.lt_of_lt_of_le (h2 k hk).1 hb.size, (hb.cell (p := a.add k) (h2 k hk).1).trans (h2 k hk).2⟩⟩
theorem SliceB.kept {W W' : World} {v : Value} {b : ByteArray} {row : Option Nat} (h : SliceB W v b) (hb : W.grownBy W' row) (hne : ∀ a n c k, v = .slice (some a) n c → k < n → (a.add k).block < W.heap.size → some (a.add k).block ≠ row) : SliceB W' v b := by
  rcases h with h | ⟨a, cap, h1, h2⟩
  · exact .inl h
  · exact .inr ⟨a, cap, h1, fun k hk => ⟨Nat.lt_of_lt_of_le (h2 k hk).1 hb.size, (World.cell?_of_block (hb.block _ (h2 k hk).1 (hne _ _ _ k h1 hk (h2 k hk).1))).trans (h2 k hk).2⟩⟩
theorem SliceB.but {W W' : World} {v : Value} {b : ByteArray} {M : Nat → Prop} (h : SliceB W v b) (hb : But M W W') (hne : ∀ a n c k, v = .slice (some a) n c → k < n → ¬ M (a.add k).block) : SliceB W' v b := by
  rcases h with h | ⟨a, cap, h1, h2⟩
  · exact .inl h
  · exact .inr ⟨a, cap, h1, fun k hk => ⟨Nat.lt_of_lt_of_le (h2 k hk).1 hb.size, (World.cell?_of_block (hb.same _ (h2 k hk).1 (hne _ _ _ k h1 hk))).trans (h2 k hk).2⟩⟩
theorem add_off (g off k : Nat) : (⟨g, off, none⟩ : Addr).add k = ⟨g, off + k, none⟩ := by
  by_cases c : k = 0
  · subst c; simp [Addr.add]
  · simp [Addr.add, c]
theorem but_of_grown {A B : World} {M : Nat → Prop} {row : Option Nat} (h : A.grownBy B row) (hr : ∀ k, k < A.heap.size → row = some k → M k) : But M A B := ⟨h.os, h.tape, h.output, h.size, fun k hk hm => h.block k hk (fun e => hm (hr k hk e.symm))⟩
theorem row_form {W : World} {base e n : Nat} {v : Value} {xs : List Value} (h : W.ownsRow base e 1 v n xs) : ∃ po cc, v = .slice po n cc ∧ ((po = none ∧ cc = 0 ∧ n = 0) ∨ ∃ g, po = some ⟨g, 0, none⟩ ∧ base ≤ g ∧ g < W.heap.size ∧ n ≤ cc) := by
  rcases h.2 with ⟨rfl, rfl⟩ | ⟨g, cap, cur, rfl, h1, h2, h3, _⟩
  · exact ⟨none, 0, rfl, .inl ⟨rfl, rfl, rfl⟩⟩
  · exact ⟨_, _, rfl, .inr ⟨g, rfl, h1, (Array.getElem?_eq_some_iff.1 h2).1, h3⟩⟩
theorem add_at (g j : Nat) : (⟨g, 0, none⟩ : Addr).add j = ⟨g, j, none⟩ := by
  by_cases c : j = 0
  · subst c; simp [Addr.add]
  · simp [Addr.add, c]
/-- How much is held back, after so many tries. -/
theorem open_step (al : ByteArray) (q : Nat) (h1 : 1 ≤ q) : (openN al (min al.size q)).size = if q ≤ al.size ∧ fullB (al.extract (al.size - q) al.size) = false then q else (openN al (min al.size (q - 1))).size := by
  by_cases hq : q ≤ al.size
  · obtain ⟨m, rfl⟩ : ∃ m, q = m + 1 := ⟨q - 1, by omega⟩
    rw [show min al.size (m + 1) = m + 1 by omega, openN, show min al.size (m + 1 - 1) = m by omega]
    cases hf : fullB (al.extract (al.size - (m + 1)) al.size)
    · rw [if_neg (by simp), if_pos ⟨hq, rfl⟩, ByteArray.size_extract]
      omega
    · rw [if_pos rfl, if_neg (by simp)]
  · rw [if_neg (fun h => hq h.1), show min al.size q = al.size by omega, show min al.size (q - 1) = al.size by omega]

set_option maxRecDepth 100000 in
set_option maxHeartbeats 2000000 in
theorem rfeed_walk (W : World) (R : Nat) (v vx : Value) (h b : ByteArray) (hR : W.heap[R]? = some (.cells #[v] 57 (0, 0))) (hv : SliceB W v h) (hx : SliceB W vx b) (hs : h.size + b.size ≤ 4194304) :
    Calls Tryd.prog 44 #[.pointer (some ⟨R, 0, none⟩), vx] W fun e w' => e = .returned (.string ((h ++ b).extract 0 ((h ++ b).size - (openE (h ++ b)).size))) ∧ RNew W.heap.size w' R ((h ++ b).extract ((h ++ b).size - (openE (h ++ b)).size) (h ++ b).size) ∧ But (fun k => k = R) W w' := by
  obtain ⟨i0, hi, hz0, hz1, hz2⟩ := info_parts2 infoU8
  obtain ⟨al, hal⟩ : ∃ al, h ++ b = al := ⟨_, rfl⟩
  have HALS : Hid (al.size = h.size + b.size) := by show al.size = h.size + b.size; rw [← hal, ByteArray.size_append]
  rw [hal]
  have HAL := hideO hal
  clear hal
  have hRl : R < W.heap.size := (Array.getElem?_eq_some_iff.1 hR).1
  have c0 : W.cell? ⟨R, 0, none⟩ = some v := by simp [World.cell?, hR]
  go_enter Tryd.func44, Tryd.ntmps44
  go_wp2_with (at_builtin; first
    | (refine wpList_append_bytes _ rfl _ _ 55 rfl W.heap.size 5 i0 (.int .u8 0) 1 Tryd.underlying55 hi hz0 hz1 hz2 rfl (.slice none 0 0) 0 [] rfl (World.ownsRow_nil _ _ _ _) v h rfl hv (by unfold maxLen; omega) (by omega) (Nat.le_refl _) ?_; intro v1 w1 o1 g1)
    | (refine wpList_append_bytes _ rfl _ _ 55 rfl W.heap.size 5 i0 (.int .u8 0) 1 Tryd.underlying55 hi hz0 hz1 hz2 rfl v1 (0 + h.size) ([] ++ byteV h) rfl o1 vx b rfl (hx.kept g1 (fun _ _ _ _ _ _ _ => by simp [Value.ownBlock])) (by unfold maxLen; omega) (by omega) g1.size ?_; intro v2 w2 o2 g2; have o3 : w2.ownsRow W.heap.size 5 1 v2 al.size (byteV al) := (by rw [HALS.out, ← HAL.out, byteV_app]; simpa using o2); obtain ⟨p2, c2, rfl, hp2⟩ := row_form o3)
    | fail)
  have r1 := g1.size
  have r2 := g2.size
  have hB2 : Below W.heap.size W w2 := ⟨g2.os.trans g1.os, g2.tape.trans g1.tape, g2.output.trans g1.output, Nat.le_trans r1 r2, fun k hk => (g2.block k (by omega) (fun e => by have := (o1.lt k e.symm).1; omega)).trans (g1.block k hk (by simp [Value.ownBlock]))⟩
  have hR2 := (hB2.block R hRl).trans hR
  have hbs : al.size ≤ 4194304 := by have := HALS.out; omega
  have HST := hideO (open_step al)
  have HB2 := hideO hB2
  have HR2 := hideO hR2
  have HO3 := hideO o3
  clear g1 g2 o1 o2 o3 hv hx hR c0 hB2 hR2 hi hz0 hz1 hz2 r1 r2 hs
  go_loopw [6, 7] (fun n k wr => ∃ (q m : Nat), n = .int .i64 m ∧ k = .int .i64 q ∧ 1 ≤ q ∧ q ≤ 4 ∧ Hid (m = al.size - (openN al (min al.size (q - 1))).size) ∧ ∃ d, wr = w2.drewN d) (fun _ k _ => 4 - (intOf k).toNat)
  case atStart => exact ⟨1, al.size, rfl, rfl, by omega, by omega, hideO (by rw [show 1 - 1 = 0 from rfl, Nat.min_zero]; rfl), 0, rfl⟩
  case round =>
    obtain ⟨q, m, rfl, rfl, hq1, hq2, HM, d, rfl⟩ := hrel
    by_cases hq : q < 4
    · have hqi : (q : Int) < 4 := by omega
      by_cases hqs : q ≤ al.size
      · have hqsi : (q : Int) ≤ (al.size : Int) := by omega
        obtain ⟨ga, rfl, hga1, hga2, hga3⟩ := hp2.resolve_left (fun h => by omega)
        obtain ⟨st, hst⟩ : ∃ st, al.size - q = st := ⟨_, rfl⟩
        have hsti : (al.size : Int) - (q : Int) = (st : Int) := by omega
        have hst2 : st ≤ al.size := by omega
        have hst3 : (st : Int) ≤ (al.size : Int) := by omega
        have hst4 : al.size - st = q := by omega
        have hbf : BytesFrom (w2.drewN d) ga st (al.extract st al.size) := fun k hk => by
          have hk2 : k < al.size - st := by rw [ByteArray.size_extract] at hk; omega
          have hc := World.ownsRow.cells HO3.out (g := ga) rfl (st + k) (.int .u8 (al[st + k].toNat : Nat)) (by
            have hj2 : st + k < al.data.toList.length := by rw [← Lib.size_eq]; omega
            unfold byteV
            rw [List.getElem?_map, List.getElem?_eq_getElem hj2]
            rfl)
          rw [add_at] at hc
          rw [show (w2.drewN d).cell? ⟨ga, st + k, none⟩ = w2.cell? ⟨ga, st + k, none⟩ from rfl, hc]
          simp [ByteArray.getElem_extract]
        have hsz : (al.extract st al.size).size = q := by rw [ByteArray.size_extract]; omega
        have HFR := hideO (front_any (w2.drewN d) ga st (c2 - st) (al.extract st al.size) (by omega) (by omega) hbf)
        rw [hsz] at HFR
        have HSTq := HST.out q hq1
        rw [hst] at HSTq
        cases hfb : fullB (al.extract st al.size)
        · rw [hfb] at HFR HSTq
          have HM2 : Hid (st = al.size - (openN al (min al.size (q + 1 - 1))).size) := by
            show st = _
            rw [Nat.add_sub_cancel, HSTq, if_pos ⟨hqs, rfl⟩]
            omega
          clear HM HSTq hfb hbf hsz
          go_wp2_with fail
          refine HFR.out.mono ?_
          rintro e w' ⟨rfl, d2, hd2⟩
          subst hd2
          go_wp2
          exact ⟨⟨q + 1, st, rfl, by go_num, by omega, by omega, HM2, _, rfl⟩, by simp [intOf]; omega⟩
        · rw [hfb] at HFR HSTq
          have HM2 : Hid (m = al.size - (openN al (min al.size (q + 1 - 1))).size) := by
            show m = _
            rw [Nat.add_sub_cancel, HSTq, if_neg (by simp)]
            exact HM.out
          clear HM HSTq hfb hbf hsz
          go_wp2_with fail
          refine HFR.out.mono ?_
          rintro e w' ⟨rfl, d2, hd2⟩
          subst hd2
          go_wp2
          exact ⟨⟨q + 1, m, rfl, by go_num, by omega, by omega, HM2, _, rfl⟩, by simp [intOf]; omega⟩
      · have hqsi : ¬ (q : Int) ≤ (al.size : Int) := by omega
        have HM2 : Hid (m = al.size - (openN al (min al.size (q + 1 - 1))).size) := by
          show m = _
          rw [Nat.add_sub_cancel, HST.out q hq1, if_neg (fun h => hqs h.1)]
          exact HM.out
        clear HM
        go_wp2
        exact ⟨⟨q + 1, m, rfl, by go_num, by omega, by omega, HM2, _, rfl⟩, by simp [intOf]; omega⟩
    · have hqi : ¬ (q : Int) < 4 := by omega
      obtain rfl : q = 4 := by omega
      have hR3 : (w2.drewN d).heap[R]? = some (.cells #[v] 57 (0, 0)) := HR2.out
      have c0' : w2.cell? ⟨R, 0, none⟩ = some v := by simp [World.cell?, HR2.out]
      have f0' : w2.frozen? ⟨R, 0, none⟩ = false := by simp [World.frozen?, HR2.out]
      have c0 : (w2.drewN d).cell? ⟨R, 0, none⟩ = some v := c0'
      have f0 : (w2.drewN d).frozen? ⟨R, 0, none⟩ = false := f0'
      have hm : m = al.size - (openE al).size := HM.out
      have HB3 : Hid (But (fun k => k = R) W (w2.drewN d)) := (But.grown HB2.out).trans ⟨rfl, rfl, rfl, Nat.le_refl _, fun _ _ _ => rfl⟩
      have HMM := hideO hm
      have HR3 := hideO hR3
      have hz3 : w2.heap.size ≤ (w2.drewN d).heap.size := Nat.le_refl _
      have hml : m ≤ al.size := by omega
      have hmi : (m : Int) ≤ (al.size : Int) := by omega
      have HBY : Hid (∀ ga, p2 = some ⟨ga, 0, none⟩ → ∀ k (hk : k < al.size), (w2.drewN d).cell? ⟨ga, k, none⟩ = some (.int .u8 (al[k].toNat : Nat))) := fun ga e k hk => by
        subst e
        have hc := World.ownsRow.cells HO3.out (g := ga) rfl k (.int .u8 (al[k].toNat : Nat)) (by
          have hj2 : k < al.data.toList.length := by rw [← Lib.size_eq]; omega
          unfold byteV
          rw [List.getElem?_map, List.getElem?_eq_getElem hj2]
          rfl)
        rw [add_at] at hc
        exact hc
      clear HM hm hR3 HST HO3 c0' f0'
      generalize w2.drewN d = w3 at *
      rcases hp2 with ⟨rfl, rfl, h0⟩ | ⟨ga, rfl, hga1, hga2, hga3⟩
      · have hm0 : m = 0 := by omega
        have hcv : ∀ vv : Value, (convert 55 9 (.slice none 0 0)).run Tryd.prog (w3.setCell ⟨R, 0, none⟩ vv) = .ok (.string ⟨#[]⟩) (w3.setCell ⟨R, 0, none⟩ vv) := fun vv => run_convert_bytes_nil (P := Tryd.prog) _ 55 5 Tryd.underlying55 Tryd.underlying5 0 0 9 Tryd.underlying9
        subst hm0
        have HFin : Hid (RNew W.heap.size (w3.setCell ⟨R, 0, none⟩ (.slice none 0 0)) R ByteArray.empty ∧ But (fun k => k = R) W (w3.setCell ⟨R, 0, none⟩ (.slice none 0 0))) :=
          ⟨⟨_, heap_setCell_same w3 R 0 _ _ _ HR3.out, .inl ⟨rfl, rfl⟩, fun _ _ _ _ e _ => by cases e⟩, HB3.out.setCell (p := ⟨R, 0, none⟩) rfl _⟩
        go_wp2
        go_ret
        exact ⟨rfl, HFin.out⟩
      · have hgl : (m : Int) ≤ (c2 : Int) := by omega
        have hzx : (al.extract 0 m).size = m := by rw [ByteArray.size_extract]; omega
        have hzy : (al.extract m al.size).size = al.size - m := by rw [ByteArray.size_extract]; omega
        have hgR : ga ≠ R := by omega
        have hSet : ∀ (vv : Value), ∀ k (hk : k < al.size), (w3.setCell ⟨R, 0, none⟩ vv).cell? ⟨ga, k, none⟩ = some (.int .u8 (al[k].toNat : Nat)) := fun vv k hk =>
          (World.cell?_of_block (Below.heap_setCell w3 ⟨R, 0, none⟩ vv ga hgR)).trans (HBY.out ga rfl k hk)
        have hCv : ∀ (vv : Value), (convert 55 9 (.slice (some ⟨ga, 0, none⟩) m c2)).run Tryd.prog (w3.setCell ⟨R, 0, none⟩ vv) = .ok (.string (al.extract 0 m)) (w3.setCell ⟨R, 0, none⟩ vv) := fun vv => by
          have := bytes_back (w3.setCell ⟨R, 0, none⟩ vv) ga c2 (al.extract 0 m) (fun k hk => by
            rw [hSet vv k (by omega)]
            simp [ByteArray.getElem_extract])
          rw [hzx] at this
          exact this
        have HFin : Hid (∀ (off cc : Nat), (al.size - m = 0 ∨ off = m) → RNew W.heap.size (w3.setCell ⟨R, 0, none⟩ (.slice (some ⟨ga, off, none⟩) (al.size - m) cc)) R (al.extract m al.size) ∧ But (fun k => k = R) W (w3.setCell ⟨R, 0, none⟩ (.slice (some ⟨ga, off, none⟩) (al.size - m) cc))) := fun off cc ho => by
          refine ⟨⟨_, heap_setCell_same w3 R 0 _ _ _ HR3.out, .inr ⟨⟨ga, off, none⟩, cc, by rw [hzy], fun k hk => ⟨by rw [add_off, World.size_setCell]; show ga < _; omega, ?_⟩⟩, fun _ _ _ _ e _ => by cases e; rw [add_off]; exact hga1⟩, HB3.out.setCell (p := ⟨R, 0, none⟩) rfl _⟩
          rw [hzy] at hk
          rcases ho with ho | rfl
          · omega
          · rw [add_off, hSet _ (off + k) (by omega)]
            simp [ByteArray.getElem_extract]
        clear hzx hzy hSet HBY
        by_cases hcm : c2 = m
        · have hcv := hCv (.slice (some ⟨ga, 0, none⟩) (al.size - m) 0)
          rw [hcm] at hcv
          clear hCv
          go_wp2
          go_ret
          rw [← HMM.out]
          exact ⟨rfl, HFin.out 0 0 (.inl (by omega))⟩
        · have hcv := hCv (.slice (some ⟨ga, m, none⟩) (al.size - m) (c2 - m))
          clear hCv
          go_wp2
          go_ret
          rw [← HMM.out]
          exact ⟨rfl, HFin.out m (c2 - m) (.inr rfl)⟩

theorem slice_string {W : World} {v : Value} {b : ByteArray} (h : SliceB W v b) : (convert 55 9 v).run Tryd.prog W = .ok (.string b) W := by
  rcases h with ⟨rfl, h0⟩ | ⟨a, cap, rfl, h2⟩
  · have e : b = ByteArray.empty := ba_ext (by
      have : b.data.toList.length = 0 := by rw [← Lib.size_eq]; exact h0
      rw [List.length_eq_zero_iff.1 this]
      rfl)
    rw [e]
    exact run_convert_bytes_nil (P := Tryd.prog) W 55 5 Tryd.underlying55 Tryd.underlying5 0 0 9 Tryd.underlying9
  · have hl : b.data.toList.length = b.size := (Lib.size_eq b).symm
    have := run_convert_bytes_back (P := Tryd.prog) W 55 9 5 a cap b.data.toList Tryd.underlying55 Tryd.underlying5 Tryd.underlying9 (fun j hj => by
      rw [(h2 j (by omega)).2]
      simp [ByteArray.getElem_eq_getElem_data])
    rw [hl] at this
    simpa using this
theorem rfeed_any (W : World) (R : Nat) (vx : Value) (h b : ByteArray) (hR : RHolds W R h) (hx : SliceB W vx b) (hs : h.size + b.size ≤ 4194304) :
    Calls Tryd.prog 44 #[.pointer (some ⟨R, 0, none⟩), vx] W fun e w' => e = .returned (.string ((h ++ b).extract 0 ((h ++ b).size - (openE (h ++ b)).size))) ∧ RNew W.heap.size w' R ((h ++ b).extract ((h ++ b).size - (openE (h ++ b)).size) (h ++ b).size) ∧ But (fun k => k = R) W w' := by
  obtain ⟨v, h1, h2⟩ := hR
  exact rfeed_walk W R v vx h b h1 h2 hx hs
set_option maxRecDepth 100000 in
set_option maxHeartbeats 400000 in
theorem rend_any (W : World) (R : Nat) (h : ByteArray) (hR : RHolds W R h) :
    Calls Tryd.prog 47 #[.pointer (some ⟨R, 0, none⟩)] W fun e w' => e = .returned (.string h) ∧ RHolds w' R ⟨#[]⟩ ∧ But (fun k => k = R) W w' := by
  obtain ⟨v, h1, h2⟩ := hR
  have c0 : W.cell? ⟨R, 0, none⟩ = some v := by simp [World.cell?, h1]
  have f0 : W.frozen? ⟨R, 0, none⟩ = false := by simp [World.frozen?, h1]
  have hcv := slice_string h2
  go_enter Tryd.func47, Tryd.ntmps47
  go_wp2
  go_ret
  exact ⟨rfl, ⟨_, heap_setCell_same W R 0 _ _ _ h1, .inl ⟨rfl, rfl⟩⟩, But.setCell (M := fun k => k = R) (But.refl _ _) (p := ⟨R, 0, none⟩) rfl _⟩
end Go.Proofs.YtofhmecbcmahaaaDoor
