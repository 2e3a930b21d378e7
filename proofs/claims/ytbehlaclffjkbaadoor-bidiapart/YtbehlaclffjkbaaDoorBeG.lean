/- A cluster's signs, as they are to be seen (chapter 4). -/
import Derived.Lib.OthersKept
import Derived.Lib.TrimU
import Derived.Test.YtbehlaclffjkbaaDoorBldL
import Derived.Test.YtbehlaclffjkbaaDoorBeF
import Derived.Test.YtbehlaclffjkbaaDoorBdC
namespace Go.Proofs.YtbehlaclffjkbaaDoor
open Go.RowKit Go.Shelf

theorem isB_below {T e : TypeId} {B b : Nat} {bs : List Value} {A C : World} (h : Lib.IsBuilderF T e B b bs A) (hg : Below A.heap.size A C) : Lib.IsBuilderF T e B b bs C := by
  have nb : ∀ (k : Nat) (o : Obj), A.heap[k]? = some o → C.heap[k]? = some o := fun k o hk => (hg.block k (Array.getElem?_eq_some_iff.1 hk).1).trans hk
  have key : ∀ p, Lib.BuilderAtF T e B b p bs A → Lib.BuilderAtF T e B b p bs C := by
    rintro p ⟨hB, v, hb, hown, hne⟩
    refine ⟨hB, v, nb _ _ hb, ⟨hown.1, ?_⟩, hne⟩
    rcases hown.2 with hn | ⟨g, cap, cur, fz, rfl, hbg, hgg, rest⟩
    · exact .inl hn
    · exact .inr ⟨g, cap, cur, fz, rfl, hbg, nb _ _ hgg, rest⟩
  exact h.elim (fun x => .inl (key _ x)) (fun x => .inr (key _ x))
theorem others_below {e : TypeId} {b : Option Nat} {A C : World} (hg : Below A.heap.size A C) : Lib.OthersKept e b A C := fun k _ ho _ _ => (hg.block k (Array.getElem?_eq_some_iff.1 ho).1).trans ho
theorem mirL_b {r : Int} (h : 0 ≤ r ∧ r ≤ 1114111) : ∀ (T : List (Int × Int)), (∀ p ∈ T, (0 ≤ p.1 ∧ p.1 ≤ 1114111) ∧ 0 ≤ p.2 ∧ p.2 ≤ 1114111) → 0 ≤ mirL r T ∧ mirL r T ≤ 1114111
  | [], _ => h
  | p :: T, hT => by
    rw [mirL_cons]
    have h1 := hT p (by simp)
    split
    · exact h1.2
    · split
      · exact h1.1
      · exact mirL_b h T (fun q hq => hT q (by simp [hq]))
theorem tPairs_b : ∀ p ∈ tPairs, ((0 : Int) ≤ p.1 ∧ p.1 ≤ 1114111) ∧ 0 ≤ p.2 ∧ p.2 ≤ 1114111 := by decide
/-- The sign that is seen. -/
def seeR (lv : Int) (p : Nat) (r : Int) : Int := if p = 0 ∧ oddB lv = true then mirL r tPairs else r
/-- A cluster's signs as they are to be seen at a level, from a place on. -/
def outL (c : ByteArray) (lv : Int) : Nat → Nat → List Int
  | 0, _ => []
  | f + 1, p => if p < c.size then seeR lv p ((Utf8.decode c p).1 : Int) :: outL c lv f (p + (Utf8.decode c p).2) else []
def seenL (c : ByteArray) (lv : Int) : List Int := outL c lv c.size 0
def encL (l : List Int) : List UInt8 := l.flatMap Lib.encodeRune
theorem encL_snoc (l : List Int) (r : Int) : encL (l ++ [r]) = encL l ++ Lib.encodeRune r := by simp [encL]
theorem encL_le (l : List Int) : (encL l).length ≤ 4 * l.length := by
  induction l with
  | nil => exact Nat.le_refl _
  | cons r l ih =>
    have h4 := Lib.runeCells_le r
    rw [Lib.runeCells_length] at h4
    have e : encL (r :: l) = Lib.encodeRune r ++ encL l := rfl
    rw [e, List.length_append, List.length_cons]
    omega
theorem width_posG (s : ByteArray) (pos : Nat) (h : pos < s.size) : 1 ≤ (Utf8.decode s pos).2 := Lib.decode_width_pos s pos h
theorem seeR_b {lv : Int} {p : Nat} {r : Int} (h : 0 ≤ r ∧ r ≤ 1114111) : 0 ≤ seeR lv p r ∧ seeR lv p r ≤ 1114111 := by
  unfold seeR
  split
  · exact mirL_b h _ tPairs_b
  · exact h
set_option maxRecDepth 100000 in
set_option maxHeartbeats 4000000 in
theorem wc_any (c : ByteArray) (hc : c.size ≤ 2097152) (lv : Int) (hlv : 0 ≤ lv ∧ lv ≤ 1000000000000000) (B b : Nat) (acc : List UInt8) (hacc : acc.length ≤ 10000000000000) (w : World) (hI : Lib.IsBuilderF 67 5 B b (Lib.byteCells acc) w) (hBw : B ≤ w.heap.size) :
    Calls Tryd.prog 31 #[.pointer (some ⟨b, 0, none⟩), .string c, .int .i64 lv] w fun e w' => (∃ u, e = .returned u) ∧ Lib.IsBuilderF 67 5 B b (Lib.byteCells (acc ++ encL (seenL c lv))) w' ∧ Below B w w' ∧ Lib.OthersKept 5 (some b) w w' := by
  obtain ⟨PO, hPO⟩ : ∃ PO : Ending → World → Prop, (fun e w' => (∃ u, e = .returned u) ∧ Lib.IsBuilderF 67 5 B b (Lib.byteCells (acc ++ encL (seenL c lv))) w' ∧ Below B w w' ∧ Lib.OthersKept 5 (some b) w w') = PO := ⟨_, rfl⟩
  have HPO := hideB hPO
  rw [hPO]
  clear hPO
  have HI := hideB hI
  have hbw : b < w.heap.size := by
    rcases hI with ⟨_, v, hb, _⟩ | ⟨_, v, hb, _⟩
    · exact (Array.getElem?_eq_some_iff.1 hb).1
    · exact (Array.getElem?_eq_some_iff.1 hb).1
  have HOdd := hideB (fun (W : World) => odd_any lv hlv W)
  have HS : Hid (∀ p r, seeR lv p r = if p = 0 ∧ oddB lv = true then mirL r tPairs else r) := hideB (fun _ _ => rfl)
  clear hI
  go_enter Tryd.func31, Tryd.ntmps31
  go_wp2_with fail
  go_loopw [] (fun wr => ∃ (pos fuel : Nat) (ac : List Int), Lib.IsBuilderF 67 5 B b (Lib.byteCells (acc ++ encL ac)) wr ∧ wr.heap[w.heap.size]? = some (.stringIter c pos) ∧ Below B w wr ∧ Lib.OthersKept 5 (some b) w wr ∧ Hid (ac ++ outL c lv fuel pos = seenL c lv) ∧ c.size ≤ pos + fuel ∧ ac.length ≤ pos ∧ pos ≤ c.size) (fun wr => c.size - wr.iterPos w.heap.size)
  case atStart =>
    refine ⟨0, c.size, [], ?_, World.alloc_heap_new w _, (Below.refl B w).alloc hBw _, others_below (bel1B w _), hideB rfl, by omega, Nat.le_refl _, by omega⟩
    show Lib.IsBuilderF 67 5 B b (Lib.byteCells (acc ++ [])) (w.alloc (.stringIter c 0))
    rw [List.append_nil]
    exact HI.out.alloc (.stringIter c 0)
  case round =>
    obtain ⟨pos, fuel, ac, hI, hit, hbw2, hok, HA, hfu, hal, hpc⟩ := hrel
    have hsz : w.heap.size < wr.heap.size := (Array.getElem?_eq_some_iff.1 hit).1
    by_cases hp : pos < c.size
    · have hnx : ∀ ty, (Instr.next (.pointer (some ⟨w.heap.size, 0, none⟩)) true ty).run Tryd.prog wr = _ := fun ty => Lib.run_next_any_at wr w.heap.size c pos ty hit hp
      have hwd := width_posG c pos hp
      have hd1 := Lib.rune_le c pos
      have hfit : pos + (Utf8.decode c pos).2 ≤ c.size := (decode_fit c pos hp).1
      obtain ⟨f, rfl⟩ : ∃ f, fuel = f + 1 := ⟨fuel - 1, by omega⟩
      have hI2 := hI.iterAt hit (pos + (Utf8.decode c pos).2)
      have hit2 := Lib.iterAt_heap wr w.heap.size c pos (pos + (Utf8.decode c pos).2) hit
      have hib : But (fun k => k = w.heap.size) wr (wr.iterAt w.heap.size c (pos + (Utf8.decode c pos).2)) := ⟨rfl, rfl, rfl, by rw [Lib.iterAt_size]; exact Nat.le_refl _, fun k hk hne => Lib.iterAt_other wr w.heap.size k c _ hne⟩
      have hbw3 : Below B w (wr.iterAt w.heap.size c (pos + (Utf8.decode c pos).2)) := Lib.below_iterAt hbw2 (k := w.heap.size) hBw c (pos + (Utf8.decode c pos).2)
      have hok3 : Lib.OthersKept 5 (some b) w (wr.iterAt w.heap.size c (pos + (Utf8.decode c pos).2)) := fun k o ho h1 h2 => by
        have hk := (Array.getElem?_eq_some_iff.1 ho).1
        have := hok k o ho h1 h2
        exact (hib.same k (Array.getElem?_eq_some_iff.1 this).1 (by omega)).trans this
      have hz2 : (wr.iterAt w.heap.size c (pos + (Utf8.decode c pos).2)).heap.size = wr.heap.size := Lib.iterAt_size _ _ _ _
      have HM : Hid (∀ A : World, A.heap[w.heap.size]? = some (.stringIter c (pos + (Utf8.decode c pos).2)) → c.size - A.iterPos w.heap.size < c.size - wr.iterPos w.heap.size) := hideB (fun A h => by
        have e1 : wr.iterPos w.heap.size = pos := by simp [World.iterPos, hit]
        have e2 : A.iterPos w.heap.size = pos + (Utf8.decode c pos).2 := by simp [World.iterPos, h]
        rw [e1, e2]; omega)
      have HA2 : Hid ((ac ++ [seeR lv pos ((Utf8.decode c pos).1 : Int)]) ++ outL c lv f (pos + (Utf8.decode c pos).2) = seenL c lv) := hideB (by
        have := HA.out
        rw [outL, if_pos hp] at this
        rw [List.append_assoc]
        exact this)
      have hq1 : pos + 1 ≤ pos + (Utf8.decode c pos).2 := by omega
      clear HA hwd hib hbw2 hok hI
      generalize hq : pos + (Utf8.decode c pos).2 = q at *
      generalize hr : (Utf8.decode c pos).1 = r at *
      generalize wr.iterAt w.heap.size c q = W2 at *
      have hsb := seeR_b (lv := lv) (p := pos) (r := (r : Int)) (by omega)
      have hac := encL_le ac
      have HW := hideB (fun (W : World) (hW : Lib.IsBuilderF 67 5 B b (Lib.byteCells (acc ++ encL ac)) W) (hz : B ≤ W.heap.size) => Any.Builder_WriteRune_k (ρ := lay168Ren) lay168 ext168 B b (Lib.byteCells (acc ++ encL ac)) (seeR lv pos (r : Int)) (by omega) (by omega) W hW (by rw [Lib.byteCells_length, List.length_append]; omega) hz)
      -- what a round leaves
      have HEnd : Hid (∀ W3 W4, Below W2.heap.size W2 W3 → Lib.BuilderAtF 67 5 B b (.pointer (some ⟨b, 0, none⟩)) (Lib.byteCells (acc ++ encL ac) ++ Lib.runeCells (seeR lv pos (r : Int))) W4 → Below B W3 W4 → Lib.OthersKept 5 (some b) W3 W4 →
          (Lib.IsBuilderF 67 5 B b (Lib.byteCells (acc ++ encL (ac ++ [seeR lv pos (r : Int)]))) W4 ∧ W4.heap[w.heap.size]? = some (.stringIter c q) ∧ Below B w W4 ∧ Lib.OthersKept 5 (some b) w W4)) := hideB (fun W3 W4 h3 h4 h5 h6 => by
        have i3 : W3.heap[w.heap.size]? = some (.stringIter c q) := (h3.block _ (by omega)).trans hit2
        refine ⟨.inr ?_, h6.iter i3 (by omega), (hbw3.trans (h3.mono (by have := hbw3.size; omega))).trans h5, (hok3.trans (others_below h3)).trans h6⟩
        rw [encL_snoc, ← List.append_assoc, Lib.byteCells_append, Lib.byteCells_encodeRune]
        exact h4)
      have HZ := hideB (And.intro hI2 (And.intro hbw3 hz2))
      have hzB : B ≤ W2.heap.size := by have := hbw3.size; omega
      clear hI2 hbw3 hz2 hok3 hac hsb hit
      by_cases h0 : pos = 0
      · subst h0
        obtain ⟨z, hz⟩ : ∃ z, oddB lv = z := ⟨_, rfl⟩
        have HS0 := HS.out 0 (r : Int)
        rw [hz] at HOdd HS0
        have HSz := hideB HS0
        clear hz HS0
        go_wp2_with fail
        refine (HOdd.out _).mono ?_
        rintro e v5 ⟨rfl, rfl⟩
        cases z with
        | true =>
          have hsr : seeR lv 0 (r : Int) = mirL (r : Int) tPairs := by rw [HSz.out, if_pos (by simp)]
          have HMir := hideB (mirror_any (r : Int) v5)
          rw [hsr] at HW HEnd HA2
          generalize mirL (r : Int) tPairs = mr at *
          clear hsr HSz
          go_wp2_with fail
          refine HMir.out.mono ?_
          rintro e v6 ⟨rfl, hb6⟩
          have HB6 := hideB hb6
          have hz6 := hb6.size
          clear hb6 HMir
          go_wp2_with fail
          refine (HW.out v6 (isB_below HZ.out.1 HB6.out) (by omega)).mono ?_
          rintro e v7 ⟨rfl, h7, b7, k7⟩
          have HF := hideB (HEnd.out v6 v7 HB6.out h7 b7 k7)
          clear h7 b7 k7 HW
          go_wp2_with fail
          go_roundw
          case rel => exact ⟨q, f, _, HF.out.1, HF.out.2.1, HF.out.2.2.1, HF.out.2.2.2, HA2, by omega, by rw [List.length_append]; simp; omega, hfit⟩
          case measure => exact HM.out _ HF.out.2.1
        | false =>
          have hsr : seeR lv 0 (r : Int) = (r : Int) := by rw [HSz.out, if_neg (by simp)]
          rw [hsr] at HW HEnd HA2
          clear hsr HSz
          go_wp2_with fail
          refine (HW.out v5 HZ.out.1 (by omega)).mono ?_
          rintro e v7 ⟨rfl, h7, b7, k7⟩
          have HF := hideB (HEnd.out v5 v7 (Below.refl _ _) h7 b7 k7)
          clear h7 b7 k7 HW
          go_wp2_with fail
          go_roundw
          case rel => exact ⟨q, f, _, HF.out.1, HF.out.2.1, HF.out.2.2.1, HF.out.2.2.2, HA2, by omega, by rw [List.length_append]; simp; omega, hfit⟩
          case measure => exact HM.out _ HF.out.2.1
      · have hsr : seeR lv pos (r : Int) = (r : Int) := by rw [HS.out, if_neg (fun e => h0 e.1)]
        rw [hsr] at HW HEnd HA2
        have b0 : ((pos : Int) == 0) = false := by simp; omega
        clear hsr
        go_wp2_with fail
        refine (HW.out W2 HZ.out.1 (by omega)).mono ?_
        rintro e v7 ⟨rfl, h7, b7, k7⟩
        have HF := hideB (HEnd.out W2 v7 (Below.refl _ _) h7 b7 k7)
        clear h7 b7 k7 HW
        go_wp2_with fail
        go_roundw
        case rel => exact ⟨q, f, _, HF.out.1, HF.out.2.1, HF.out.2.2.1, HF.out.2.2.2, HA2, by omega, by rw [List.length_append]; simp; omega, hfit⟩
        case measure => exact HM.out _ HF.out.2.1
    · have hnx : ∀ ty, (Instr.next (.pointer (some ⟨w.heap.size, 0, none⟩)) true ty).run Tryd.prog wr = _ := fun ty => Lib.run_next_end_at wr w.heap.size c pos ty hit hp
      have hfin : ac = seenL c lv := by
        have := HA.out
        have e : outL c lv fuel pos = [] := by cases fuel <;> simp [outL, hp]
        rw [e, List.append_nil] at this
        exact this
      subst hfin
      have HQ : Hid (∀ u, PO (.returned u) wr) := hideB (fun u => by rw [← HPO.out]; exact ⟨⟨u, rfl⟩, hI, hbw2, hok⟩)
      clear HA hI hbw2 hok
      go_wp2_with fail
      first | exact HQ.out _ | (refine bodyPost_ret (v := .tuple #[]) (by simp [results, Tryd.results31, go_sem]) rfl ?_; exact HQ.out _)
end Go.Proofs.YtbehlaclffjkbaaDoor
