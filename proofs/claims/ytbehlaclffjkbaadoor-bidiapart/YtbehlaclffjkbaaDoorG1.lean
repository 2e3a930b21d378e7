/- Several texts, one behind the other. -/
import Derived.Deep.RegionHeld3
import Derived.Deep.QuietTactic
import Derived.BigQuiet
import Derived.Laws.AppendOwn
import Derived.Laws.OwnMore
import Derived.Test.YtbehlaclffjkbaaDoorBeG
import Derived.Test.YtbehlaclffjkbaaDoorCellA
import Derived.Test.YtbehlaclffjkbaaDoorG2
import Derived.Test.YtbehlaclffjkbaaDoorG3
/- Levels lie between bounds; clusters as cells (chapter 4). -/
namespace Go.Proofs.YtbehlaclffjkbaaDoor
open Go.RowKit Go.Shelf

theorem lvlI_b {c e M : Int} (h : 0 ≤ e ∧ e + 2 ≤ M) : 0 ≤ lvlI c e ∧ lvlI c e ≤ M := by
  unfold lvlI
  repeat' split
  all_goals omega
theorem layJ_b {e M : Int} (he : 0 ≤ e ∧ e + 2 ≤ M) {L P X : List Int} (hL : ∀ l ∈ L, 0 ≤ l ∧ l ≤ M) : ∀ i, ∀ l ∈ layJ e L P X i, 0 ≤ l ∧ l ≤ M
  | 0 => hL
  | i + 1 => fun l hl => by
    rw [layJ] at hl
    rcases List.mem_or_eq_of_mem_set hl with h | h
    · exact layJ_b he hL i l h
    · subst h
      exact lvlI_b he
theorem levT_b {C : List Int} {base : Int} (hb : base = 0 ∨ base = 1) {L : List Int} {M : Int} (hM : 1 + 2 * ((rowsN C).length : Int) + 2 ≤ M) (hL : ∀ l ∈ L, 0 ≤ l ∧ l ≤ M) : ∀ i, i ≤ (rowsN C).length → ∀ l ∈ levT C base L i, 0 ≤ l ∧ l ≤ M
  | 0, _ => hL
  | i + 1, hi => by
    have hw := rowsE_wf C base hb (i + 1) hi
    obtain ⟨r, hr⟩ : ∃ r, (rowsE C base (i + 1))[i]? = some r := ⟨_, List.getElem?_eq_getElem (by rw [rowsE_len]; omega)⟩
    have he := hw.le i r hr (.inl (by omega))
    rw [levT, hr]
    show ∀ l ∈ layR r.e C r.ps (levT C base L i), 0 ≤ l ∧ l ≤ M
    unfold layR
    exact layJ_b ⟨he.1, by omega⟩ (levT_b hb hM hL i (by omega)) _
theorem ends_b {b M : Int} (hb : 0 ≤ b ∧ b ≤ M) {C L : List Int} (hL : ∀ l ∈ L, 0 ≤ l ∧ l ≤ M) (j : Nat) : ∀ l ∈ endsF b C L j, 0 ≤ l ∧ l ≤ M := fun l hl => by
  obtain ⟨k, hk⟩ := List.getElem?_of_mem hl
  rw [endsF_at] at hk
  cases h : L[k]? with
  | none => rw [h] at hk; cases hk
  | some x =>
    rw [h] at hk
    have hx := hL x (List.mem_of_getElem? h)
    have hk : (if j ≤ k ∧ aeT (C.drop k) = true then b else x) = l := by simpa using hk
    rw [← hk]
    split
    · exact hb
    · exact hx
theorem parN_b {C : List Int} {base : Int} (hb : base = 0 ∨ base = 1) {M : Int} (hM : 1 + 2 * ((C.length : Int) + 1) + 2 ≤ M) (p : Nat) : ∀ l ∈ parN base C (List.replicate p 0), 0 ≤ l ∧ l ≤ M := by
  have hr := (rowsT_wf C C.length).rl
  unfold parN
  refine ends_b (by omega) (levT_b hb (M := M) (by unfold rowsN; omega) (fun l hl => by
    have := (List.mem_replicate.1 hl).2
    omega) _ (Nat.le_refl _)) 0
theorem levW_b {base : Int} (hb : base = 0 ∨ base = 1) {M : Int} : ∀ (f : Nat) (C : List Int), 1 + 2 * ((C.length : Int) + 1) + 2 ≤ M → ∀ l ∈ levW base f C, 0 ≤ l ∧ l ≤ M
  | 0, C, _ => fun l hl => by cases hl
  | f + 1, C, hM => fun l hl => by
    rw [levW] at hl
    split at hl
    · cases hl
    · have h1 := parL_le C
      rcases List.mem_append.1 hl with h | h
      · refine parN_b hb ?_ _ l h
        have : (C.take (parL C)).length ≤ C.length := by rw [List.length_take]; omega
        omega
      · refine levW_b hb f _ ?_ l h
        have : (C.drop (parL C)).length ≤ C.length := by rw [List.length_drop]; omega
        omega
theorem levN_b {base : Int} (hb : base = 0 ∨ base = 1) (C : List Int) (hn : C.length ≤ 2097153) : ∀ l ∈ levN base C, 0 ≤ l ∧ l ≤ 1000000000000 := levW_b hb _ C (by omega)
theorem flatC_getB : ∀ (RL : List Cl) (i : Nat) (x : Cl), RL[i]? = some x → (flatC RL)[i * 5]? = some (.int .i64 x.loc) ∧ (flatC RL)[i * 5 + 1]? = some (.int .i64 x.len) ∧ (flatC RL)[i * 5 + 2]? = some (.int .i64 x.fr) ∧ (flatC RL)[i * 5 + 3]? = some (.int .i64 x.to) ∧ (flatC RL)[i * 5 + 4]? = some (.int .i64 x.cells)
  | [], i, x, h => by simp at h
  | y :: RL, 0, x, h => by
    obtain rfl : y = x := by simpa using h
    exact ⟨rfl, rfl, rfl, rfl, rfl⟩
  | y :: RL, i + 1, x, h => by
    obtain ⟨a, b, c, d, e⟩ := flatC_getB RL i x (by simpa using h)
    have e0 : flatC (y :: RL) = [.int .i64 y.loc, .int .i64 y.len, .int .i64 y.fr, .int .i64 y.to, .int .i64 y.cells] ++ flatC RL := rfl
    rw [e0]
    refine ⟨?_, ?_, ?_, ?_, ?_⟩ <;> (rw [List.getElem?_append_right (by simp; omega)]; simp only [List.length_cons, List.length_nil, Nat.zero_add, Nat.reduceAdd])
    · rw [show (i + 1) * 5 - 5 = i * 5 by omega]; exact a
    · rw [show (i + 1) * 5 + 1 - 5 = i * 5 + 1 by omega]; exact b
    · rw [show (i + 1) * 5 + 2 - 5 = i * 5 + 2 by omega]; exact c
    · rw [show (i + 1) * 5 + 3 - 5 = i * 5 + 3 by omega]; exact d
    · rw [show (i + 1) * 5 + 4 - 5 = i * 5 + 4 by omega]; exact e
theorem cl_in (s : ByteArray) {i : Nat} {x : Cl} (h : (clusters s)[i]? = some x) : 0 ≤ x.loc ∧ 0 ≤ x.len ∧ x.loc + x.len ≤ (s.size : Int) := by
  obtain ⟨hl, hx⟩ := List.getElem?_eq_some_iff.1 h
  obtain ⟨pre, r, hr⟩ : ∃ pre r, pre ++ x :: r = clusters s := ⟨(clusters s).take i, (clusters s).drop (i + 1), by rw [← hx, List.getElem_cons_drop, List.take_append_drop]⟩
  have hat := chain_at (pre := pre) (c := x) (r := r) hr
  have hle := lens_le (pre := pre ++ [x]) (r := r) (by rw [List.append_assoc]; exact hr)
  rw [lensOf_snoc] at hle
  have hch := chain_append pre (x :: r) 0 0 (by rw [hr]; exact (clusters_chain s).1)
  have hnn := lens_nnB pre 0 0 hch.1
  have h2 : 1 ≤ x.len := hch.2.1.2.1
  omega
theorem own_others {W X : World} {base : Nat} {e : TypeId} {size : Nat} {v : Value} {n : Nat} {xs : List Value} {D : Nat} {e8 T : TypeId} {cs : Array Value} {fr : Nat × Nat} (h : W.ownsRow base e size v n xs) (hk : Lib.OthersKept e8 (some D) W X) (hD : W.heap[D]? = some (.cells cs T fr)) (h1 : e ≠ T) (h2 : e ≠ e8) : X.ownsRow base e size v n xs := by
  refine ⟨h.1, ?_⟩
  rcases h.2 with hn | ⟨g, cap, cur, rfl, hb, hg, rest⟩
  · exact .inl hn
  · refine .inr ⟨g, cap, cur, rfl, hb, hk g _ hg (fun q => ?_) (fun c fz q => ?_), rest⟩
    · obtain rfl : g = D := Option.some.inj q
      rw [hg] at hD
      cases hD
      exact h1 rfl
    · cases q
      exact h2 rfl
end Go.Proofs.YtbehlaclffjkbaaDoor

/- Visual at every text (chapter 4). -/
namespace Go.Proofs.YtbehlaclffjkbaaDoor
open Go.RowKit Go.Shelf

/-- A cluster's text; its signs as they are to be seen; a line's. -/
def clTx (s : ByteArray) (x : Cl) : ByteArray := s.extract x.loc.toNat (x.loc + x.len).toNat
def visS (s : ByteArray) (Lv : List Int) (p : Int) : List Int := match (clusters s)[p.toNat]? with | some x => seenL (clTx s x) ((Lv[p.toNat]?).getD 0) | none => []
def visL (s : ByteArray) (base : Int) : List Int := (ordN (levN base (clsS s))).flatMap (visS s (levN base (clsS s)))
/-- Does a text have an end of a paragraph? -/
def hasNl (s : ByteArray) : Bool := decide (0 ≤ Lib.indexByte s.data.toList 10)
theorem encL_app (a b : List Int) : encL (a ++ b) = encL a ++ encL b := by simp [encL]
theorem outL_le (c : ByteArray) (lv : Int) : ∀ f p, (outL c lv f p).length ≤ f
  | 0, _ => Nat.le_refl _
  | f + 1, p => by
    rw [outL]
    split
    · have := outL_le c lv f (p + (Utf8.decode c p).2)
      rw [List.length_cons]
      omega
    · exact Nat.zero_le _
theorem seenL_le (c : ByteArray) (lv : Int) : (seenL c lv).length ≤ c.size := outL_le c lv _ _
theorem clTx_le (s : ByteArray) (x : Cl) : (clTx s x).size ≤ s.size := by unfold clTx; rw [ByteArray.size_extract]; omega
theorem visS_le (s : ByteArray) (Lv : List Int) (p : Int) : (visS s Lv p).length ≤ s.size := by
  unfold visS
  split
  · exact Nat.le_trans (seenL_le _ _) (clTx_le _ _)
  · exact Nat.zero_le _
theorem visT_le (s : ByteArray) (Lv : List Int) : ∀ O : List Int, (O.flatMap (visS s Lv)).length ≤ O.length * s.size
  | [] => Nat.zero_le _
  | p :: O => by
    have h1 := visT_le s Lv O
    have h2 := visS_le s Lv p
    rw [List.flatMap_cons, List.length_append, List.length_cons, Nat.succ_mul]
    omega
set_option maxRecDepth 100000 in
set_option maxHeartbeats 4000000 in
theorem visual_bad (s : ByteArray) (b : Int) (hb : b ≠ 0 ∧ b ≠ 1) (w : World) : Calls Tryd.prog 13 #[.string s, .int .i64 b] w fun e w' => e = .returned (.tuple #[.string ⟨#[]⟩, .int .i64 1]) ∧ w' = w := by
  have HL := hideB (levels_bad s b hb w)
  clear hb
  go_enter Tryd.func13, Tryd.ntmps13
  go_wp2_with fail
  refine HL.out.mono ?_
  rintro e w1 ⟨rfl, rfl⟩
  clear HL
  go_wp2_with fail
  first | exact ⟨rfl, rfl⟩ | (go_ret3; exact ⟨rfl, rfl⟩) | (refine bodyPost_ret (v := .tuple #[.string ⟨#[]⟩, .int .i64 1]) (by simp [results, Tryd.results13, go_sem]) rfl ?_; exact ⟨rfl, rfl⟩)
set_option maxRecDepth 100000 in
set_option maxHeartbeats 4000000 in
theorem visual_any (s : ByteArray) (hs : s.size ≤ 1048576) (base : Int) (hb : base = 0 ∨ base = 1) (N : Nat) (w : World) (hT : Tabs N w) (hU : ∀ W, Below w.heap.size w W → Lib.Utf8Tabs 0 1 W) :
    Calls Tryd.prog 13 #[.string s, .int .i64 base] w fun e w' => e = .returned (if hasNl s = true then .tuple #[.string ⟨#[]⟩, .int .i64 24] else .tuple #[.string ⟨(encL (visL s base)).toArray⟩, .int .i64 0]) ∧ Below w.heap.size w w' := by
  have HL := hideB (levels_any s (by omega) base hb N w hT hU)
  have hlen : (clsS s).length = (clusters s).length := by unfold clsS; rw [List.length_map]
  have hln : (clusters s).length ≤ 1048577 := by have := clusters_length s; omega
  have hbd := levN_b hb (clsS s) (by omega)
  have hll := levN_len base (clsS s)
  have HNl := hideB (fun (W : World) => has_rune s 10 W (by omega) (by omega))
  have HNe : Hid (hasNl s = decide (0 ≤ Lib.indexByte s.data.toList (10 : Int).toNat.toUInt8)) := hideB rfl
  obtain ⟨nl, hnl⟩ : ∃ nl, hasNl s = nl := ⟨_, rfl⟩
  rw [← HNe.out, hnl] at HNl
  rw [hnl]
  have HV : Hid (visL s base = (ordN (levN base (clsS s))).flatMap (visS s (levN base (clsS s)))) := hideB rfl
  rw [hlen] at HL hll
  obtain ⟨n, hn⟩ : ∃ n, (clusters s).length = n := ⟨_, rfl⟩
  have HN := hideB hn
  generalize levN base (clsS s) = Lv at *
  rw [hn] at HL hln hll
  have HCol := hideB (fun (W : World) (hW : Below w.heap.size w W) (bx : Nat) (hc : W.cell? ⟨bx, 0, none⟩ = some (.string s)) (hbx : bx < W.heap.size) => collect_any s (by omega) bx N W (hT.below hW) hc hbx)
  rw [hn] at HCol
  have HO := hideB (fun (oa : Option Addr) (ca : Nat) (W : World) (hr : RdJ W oa Lv) => order_any Lv oa ca (by omega) W hr)
  rw [hll] at HO
  have HB := hideB (And.intro hbd hll)
  clear hT hU hlen hbd hnl hn hll HNe
  go_enter Tryd.func13, Tryd.ntmps13
  go_wp2_with fail
  refine HL.out.mono ?_
  rintro e w1 ⟨v, rfl, ho1, hb1⟩
  obtain ⟨oa, ca, rfl⟩ : ∃ o c, v = .slice o n c := by
    rcases own_formB ho1 with ⟨e, rfl⟩ | ⟨g, cap, e⟩
    · exact ⟨none, 0, by rw [e]⟩
    · exact ⟨_, cap, e⟩
  have H1 := hideB (And.intro ho1 hb1)
  clear ho1 hb1 HL
  go_wp2_with fail
  refine (HNl.out w1).mono ?_
  rintro e w2 ⟨rfl, rfl⟩
  clear HNl
  cases nl with
  | true =>
    go_wp2_with fail
    first | exact ⟨rfl, H1.out.2⟩ | (go_ret3; exact ⟨rfl, H1.out.2⟩) | (refine bodyPost_ret (v := .tuple #[.string ⟨#[]⟩, .int .i64 24]) (by simp [results, Tryd.results13, go_sem]) rfl ?_; exact ⟨rfl, H1.out.2⟩)
  | false =>
    go_wp2_with fail
    refine (clusters_mk s w2).mono ?_
    rintro e w3 ⟨rfl, rfl⟩
    have hbc : Below w.heap.size w (w2.alloc (.cells #[.string s] 9)) := bupB H1.out.2 (bel1B _ _)
    have HC := hideB (HCol.out (w2.alloc (.cells #[.string s] 9)) hbc w2.heap.size (Boxed.new w2 9 (.string s)).cell (by simp))
    have HB3 := hideB hbc
    clear hbc HCol
    go_wp2_with fail
    refine HC.out.mono ?_
    rintro e w4 ⟨vc, rfl, ho4, hb4⟩
    obtain ⟨oc, cc, rfl⟩ : ∃ o c, vc = .slice o n c := by
      rcases ho4.2 with ⟨rfl, h0⟩ | ⟨g, cap, cur, rfl, _⟩
      · exact ⟨none, 0, by rw [h0]⟩
      · exact ⟨_, cap, rfl⟩
    have H4 : Hid (w4.ownsRow w.heap.size 39 5 (.slice oc n cc) n (flatC (clusters s)) ∧ w4.ownsRow w.heap.size 3 1 (.slice oa n ca) n (flatJ Lv) ∧ Below w.heap.size w w4) := hideB ⟨ownsRow_from ho4 HB3.out.size, own_keepB (own_keepB H1.out.1 (bel1B _ _)) hb4, bupB HB3.out hb4⟩
    clear ho4 hb4 HC H1 HB3
    go_upto_region 8 with fail
    obtain ⟨w5, hw5⟩ : ∃ w5, w4.alloc (.cells #[.pointer none, .slice none 0 0] 67) = w5 := ⟨_, rfl⟩
    have b5 : Below w4.heap.size w4 w5 := by rw [← hw5]; exact bel1B _ _
    have z5 : w5.heap.size = w4.heap.size + 1 := by rw [← hw5, World.size_alloc]
    have x5 : w5.heap[w4.heap.size]? = some (.cells #[.pointer none, .slice none 0 0] 67) := by rw [← hw5]; exact World.alloc_heap_new _ _
    have i5 : Lib.IsBuilderF 67 5 w4.heap.size w4.heap.size (Lib.byteCells []) w5 := by rw [← hw5]; exact Lib.IsBuilderF.of (Lib.fresh_isBuilder _ _ w4)
    rw [hw5]
    have H5 := hideB (And.intro (own_keepB H4.out.1 b5) (And.intro (own_keepB H4.out.2.1 b5) (And.intro (bupB H4.out.2.2 b5) (And.intro z5 (And.intro x5 i5)))))
    have hr5 : RdJ w5 oa Lv := fun k x hx => by
      have hk : k < n := by have := (List.getElem?_eq_some_iff.1 hx).1; have := HB.out.2; omega
      rcases own_formB H5.out.2.1 with ⟨e, _⟩ | ⟨g, cap, e⟩
      · omega
      · cases e
        have h2 := H5.out.2.1.cellAt k (by omega)
        rw [flatJ_get hx] at h2
        exact ⟨g, 0, rfl, by rw [Nat.zero_add]; exact h2⟩
    have HOr := hideB (HO.out oa ca w5 hr5)
    have hz4 := H4.out.2.2.size
    clear hw5 b5 z5 x5 i5 hr5 HO H4
    go_wp2_with fail
    refine HOr.out.mono ?_
    rintro e w6 ⟨vo, rfl, ho6, hb6⟩
    obtain ⟨oo, co, rfl⟩ : ∃ o c, vo = .slice o n c := by
      rcases own_formB ho6 with ⟨e, rfl⟩ | ⟨g, cap, e⟩
      · exact ⟨none, 0, by rw [e]⟩
      · exact ⟨_, cap, e⟩
    obtain ⟨D, hD⟩ : ∃ D, w4.heap.size = D := ⟨_, rfl⟩
    rw [hD] at H5 hz4 ⊢
    have hDw : w.heap.size ≤ D := by omega
    have H6 := hideB (And.intro ho6 (And.intro (own_keepB H5.out.1 hb6) (And.intro (own_keepB H5.out.2.1 hb6) (And.intro (bupB H5.out.2.2.1 hb6) (And.intro ((hb6.block D (by have := H5.out.2.2.2.1; omega)).trans H5.out.2.2.2.2.1) (And.intro (isB_below H5.out.2.2.2.2.2 hb6) (by have := hb6.size; have := H5.out.2.2.2.1; omega : D < w6.heap.size)))))))
    clear ho6 hb6 HOr hD H5
    go_wp2_with fail
    go_loopw [30] (fun iv wr => ∃ (i : Nat), iv = .int .i64 (i : Nat) ∧ i ≤ n ∧ Lib.IsBuilderF 67 5 D D (Lib.byteCells (encL (((ordN Lv).take i).flatMap (visS s Lv)))) wr ∧ Lib.OthersKept 5 (some D) w6 wr ∧ Below D w6 wr) (fun iv _ => n - (intOf iv).toNat)
    case atStart => exact ⟨0, rfl, Nat.zero_le _, H6.out.2.2.2.2.2.1, Lib.OthersKept.refl _ _ _, Below.refl _ _⟩
    case round =>
      obtain ⟨i, rfl, hin, hI, hok, hbl⟩ := hrel
      obtain ⟨wq, rfl⟩ : ∃ wq, wq = wr := ⟨_, rfl⟩
      obtain ⟨q1, q2, q3, q4, q5, q6, q7⟩ := H6.out
      by_cases hlt : i < n
      · have hp1 := own_others q1 hok q5 (by decide) (by decide)
        have hp2 := own_others q2 hok q5 (by decide) (by decide)
        have hp3 := own_others q3 hok q5 (by decide) (by decide)
        obtain ⟨x, hx⟩ : ∃ x, (ordN Lv)[i]? = some x := ⟨_, List.getElem?_eq_getElem (by rw [ordN_len, HB.out.2]; exact hlt)⟩
        have hxb := idL_mem ((ordN_perm Lv).mem_iff.1 (List.mem_of_getElem? hx))
        rw [HB.out.2] at hxb
        obtain ⟨p, rfl⟩ : ∃ p : Nat, x = (p : Int) := ⟨x.toNat, by omega⟩
        have hpn : p < n := by omega
        obtain ⟨c, hc⟩ : ∃ c, (clusters s)[p]? = some c := ⟨_, List.getElem?_eq_getElem (by rw [HN.out]; exact hpn)⟩
        obtain ⟨lv, hlv⟩ : ∃ l, Lv[p]? = some l := ⟨_, List.getElem?_eq_getElem (by rw [HB.out.2]; exact hpn)⟩
        have hlb := HB.out.1 lv (List.mem_of_getElem? hlv)
        obtain ⟨go, co2, e2⟩ : ∃ g cap2, Value.slice oo n co = .slice (some ⟨g, 0, none⟩) n cap2 := by
          rcases own_formB hp1 with ⟨e, _⟩ | ⟨g, cap, e⟩
          · omega
          · exact ⟨g, cap, e⟩
        cases e2
        obtain ⟨gl, cl2, e3⟩ : ∃ g cap2, Value.slice oa n ca = .slice (some ⟨g, 0, none⟩) n cap2 := by
          rcases own_formB hp3 with ⟨e, _⟩ | ⟨g, cap, e⟩
          · omega
          · exact ⟨g, cap, e⟩
        cases e3
        obtain ⟨gc, cc2, e4⟩ : ∃ g cap2, Value.slice oc n cc = .slice (some ⟨g, 0, none⟩) n cap2 := by
          rcases own_formB hp2 with ⟨e, _⟩ | ⟨g, cap, e⟩
          · omega
          · exact ⟨g, cap, e⟩
        cases e4
        have l1 := hp1.cellAt i (by omega)
        rw [flatJ_get hx] at l1
        obtain ⟨f0, f1, f2, f3, f4⟩ := flatC_getB (clusters s) p c hc
        have k0 := hp2.cellAt (p * 5) (by omega)
        have k1 := hp2.cellAt (p * 5 + 1) (by omega)
        have k2 := hp2.cellAt (p * 5 + 2) (by omega)
        have k3 := hp2.cellAt (p * 5 + 3) (by omega)
        have k4 := hp2.cellAt (p * 5 + 4) (by omega)
        rw [f0] at k0
        rw [f1] at k1
        rw [f2] at k2
        rw [f3] at k3
        rw [f4] at k4
        have l3 := hp3.cellAt p (by omega)
        rw [flatJ_get hlv] at l3
        have hci := cl_in s hc
        obtain ⟨xx, hxx⟩ : ∃ X, wq.alloc (.cells #[.int .i64 c.loc, .int .i64 c.len, .int .i64 c.fr, .int .i64 c.to, .int .i64 c.cells] 39) = X := ⟨_, rfl⟩
        have HX := hideB hxx
        have bx : Below wq.heap.size wq xx := by rw [← hxx]; exact bel1B _ _
        have hbx : xx.heap[wq.heap.size]? = some (.cells #[.int .i64 c.loc, .int .i64 c.len, .int .i64 c.fr, .int .i64 c.to, .int .i64 c.cells] 39) := by rw [← hxx]; exact World.alloc_heap_new _ _
        have m0 : xx.cell? ⟨wq.heap.size, 0, none⟩ = some (.int .i64 c.loc) := by simp [World.cell?, hbx]
        have m1 : xx.cell? ⟨wq.heap.size, 1, none⟩ = some (.int .i64 c.len) := by simp [World.cell?, hbx]
        have m2 : xx.cell? ⟨gl, p, none⟩ = some (.int .i64 lv) := by
          have h2 := (own_keepB hp3 bx).cellAt p (by omega)
          rw [flatJ_get hlv] at h2
          exact h2
        have HK : Hid (∀ W, Lib.OthersKept 5 (some D) xx W → W.cell? ⟨wq.heap.size, 0, none⟩ = some (.int .i64 c.loc) ∧ W.cell? ⟨wq.heap.size, 1, none⟩ = some (.int .i64 c.len) ∧ W.cell? ⟨gl, p, none⟩ = some (.int .i64 lv)) := hideB (fun W hW => by
          have hDq : D < wq.heap.size := by have := hbl.size; omega
          have hb := hW _ _ hbx (fun q => by have := Option.some.inj q; omega) (fun c2 fz q => by cases q)
          obtain ⟨cs, hcs⟩ : ∃ cs, wq.heap[D]? = some (.cells cs 67 (0, 0)) := by
            rcases hI with ⟨_, v, hb, _⟩ | ⟨_, v, hb, _⟩
            · exact ⟨_, hb⟩
            · exact ⟨_, hb⟩
          have h2 := (own_others (own_keepB hp3 bx) hW ((bx.block D hDq).trans hcs) (by decide) (by decide)).cellAt p (by omega)
          rw [flatJ_get hlv] at h2
          exact ⟨by simp [World.cell?, hb], by simp [World.cell?, hb], h2⟩)
        have hst : ((ordN Lv).take (i + 1)).flatMap (visS s Lv) = ((ordN Lv).take i).flatMap (visS s Lv) ++ seenL (clTx s c) lv := by
          rw [List.take_add_one, hx, List.flatMap_append]
          congr 1
          show visS s Lv (p : Int) ++ [] = _
          rw [List.append_nil]
          unfold visS
          rw [Int.toNat_natCast, hc, hlv]
          rfl
        have hacl : (encL (((ordN Lv).take i).flatMap (visS s Lv))).length ≤ 10000000000000 := by
          have h1 := encL_le (((ordN Lv).take i).flatMap (visS s Lv))
          have h2 := visT_le s Lv ((ordN Lv).take i)
          have h3 : ((ordN Lv).take i).length ≤ 1048577 := by rw [List.length_take]; omega
          have h4 : ((ordN Lv).take i).length * s.size ≤ 1048577 * 1048576 := Nat.mul_le_mul h3 hs
          omega
        have HW := hideB (wc_any (clTx s c) (Nat.le_trans (clTx_le s c) (by omega)) lv (by omega) D D _ hacl xx.drew (isB_below hI (bx.drew)) (by have := hbl.size; have := bx.size; show D ≤ xx.heap.size; omega))
        have HSt := hideB hst
        have HF := hideB (And.intro hok (And.intro hbl bx))
        have HCl : Hid (clTx s c = s.extract c.loc.toNat (c.loc + c.len).toNat) := hideB rfl
        obtain ⟨lo, hlo⟩ : ∃ lo : Nat, c.loc = (lo : Int) := ⟨c.loc.toNat, by omega⟩
        obtain ⟨le, hle⟩ : ∃ le : Nat, c.len = (le : Int) := ⟨c.len.toNat, by omega⟩
        rw [hlo, hle] at HCl hci HX HK
        rw [hlo] at k0 m0
        rw [hle] at k1 m1
        have hcx : clTx s c = s.extract lo (lo + le) := by
          rw [HCl.out]
          congr 1
        have HW2 : Hid (Calls Tryd.prog 31 #[.pointer (some ⟨D, 0, none⟩), .string (s.extract lo (lo + le)), .int .i64 lv] xx.drew fun e w' => (∃ u, e = .returned u) ∧ Lib.IsBuilderF 67 5 D D (Lib.byteCells (encL (((ordN Lv).take (i + 1)).flatMap (visS s Lv)))) w' ∧ Below D xx.drew w' ∧ Lib.OthersKept 5 (some D) xx.drew w') := hideB (by
          rw [HSt.out, encL_app, ← hcx]
          exact HW.out)
        have di : (i : Int) < (n : Int) := by omega
        have dp : (p : Int) < (n : Int) := by omega
        have d1 : (lo : Int) ≤ (lo : Int) + (le : Int) := by omega
        have d2 : (lo : Int) + (le : Int) ≤ (s.size : Int) := by omega
        have d3 : lo + le ≤ s.size := by omega
        have wl : IntKind.i64.wrap ((lo : Int) + (le : Int)) = (lo : Int) + (le : Int) := IntWalk.i64_in _ ⟨by omega, by omega⟩
        have wk : IntKind.i64.wrap ((i : Int) + 1) = ((i + 1 : Nat) : Int) := by rw [show ((i + 1 : Nat) : Int) = (i : Int) + 1 by omega]; exact IntWalk.i64_in _ ⟨by omega, by omega⟩
        clear hI hok hbl q1 q2 q3 q4 q5 q6 hp1 hp2 hp3 hx hxb hc hlv hlb f0 f1 f2 f3 f4 hxx bx hbx hst hacl HW hlo hle hcx
        go_upto_region 12 with fail
        rw [HX.out]
        clear k0 k1 k2 k3 k4 l1 l3
        go_region_held3 (fun w' => w'.cell? ⟨wq.heap.size, 0, none⟩ = some (.int .i64 (lo : Int)) ∧ w'.cell? ⟨wq.heap.size, 1, none⟩ = some (.int .i64 (le : Int)) ∧ w'.cell? ⟨gl, p, none⟩ = some (.int .i64 lv)) (first | assumption | exact ⟨m0, m1, m2⟩ | (simp only [World.cell?_drewN]; exact ⟨m0, m1, m2⟩)) (first
          | (go_at_call 31; refine HW2.out.mono ?_; rintro e9 w9 ⟨⟨u, rfl⟩, h9, b9, o9⟩; have s9 := HK.out w9 o9))
        have bD : Below D w6 w9 := (HF.out.2.1.trans (HF.out.2.2.mono (by have := HF.out.2.1.size; omega))).trans ((Below.refl D xx).drew.trans b9)
        have oD : Lib.OthersKept 5 (some D) w6 w9 := (HF.out.1.trans (others_below HF.out.2.2)).trans o9
        have HG := hideB (And.intro h9 (And.intro oD bD))
        clear h9 b9 o9 bD oD s9 m0 m1 m2 HW2
        go_wp2_with fail
        go_roundw
        case rel => exact ⟨i + 1, by first | rfl | simp, by omega, HG.out⟩
        case measure => (simp [intOf] <;> omega)
      · obtain rfl : n = i := by omega
        have d2 : ¬ (n : Int) < (n : Int) := by omega
        rw [List.take_of_length_le (by rw [ordN_len, HB.out.2]; exact Nat.le_refl _), ← HV.out] at hI
        have hSt := Any.Builder_String_any_k (ρ := lay169Ren) lay169 ext169 D D (encL (visL s base)) wq hI (by have := hbl.size; omega)
        have HQ := hideB hSt
        have HW := hideB (q4.trans (hbl.mono hDw))
        clear hI hok hbl q1 q2 q3 q4 q5 q6 hSt
        go_wp2_with fail
        refine HQ.out.mono ?_
        rintro e w9 ⟨rfl, -, b9, -⟩
        have HR := hideB (HW.out.trans (b9.mono hDw))
        clear b9 HQ
        go_wp2_with fail
        first | exact ⟨rfl, HR.out⟩ | (go_ret3; exact ⟨rfl, HR.out⟩) | (refine bodyPost_ret (v := .tuple #[.string ⟨(encL (visL s base)).toArray⟩, .int .i64 0]) (by simp [results, Tryd.results13, go_sem]) rfl ?_; exact ⟨rfl, HR.out⟩)
end Go.Proofs.YtbehlaclffjkbaaDoor

/- The head of chapter 4's statements. -/
namespace Go.Proofs.YtbehlaclffjkbaaDoor
open Go.RowKit Go.Shelf

set_option maxRecDepth 100000 in
set_option maxHeartbeats 2000000 in
theorem same4_any (La Lb : List Int) (oa ob : Option Addr) (ca cb : Nat) (hla : La.length ≤ 17592186044416) (w : World) (ha : RdA w oa La) (hb : RdA w ob Lb) :
    Calls Tryd.prog 6 #[.slice oa La.length ca, .slice ob Lb.length cb] w fun e w' => e = .returned (.bool (decide (La = Lb))) ∧ Below w.heap.size w w' := by
  obtain ⟨n, hn⟩ : ∃ n, La.length = n := ⟨_, rfl⟩
  obtain ⟨m, hm⟩ : ∃ m, Lb.length = m := ⟨_, rfl⟩
  rw [hn] at hla ⊢
  rw [hm]
  obtain ⟨PO, hPO⟩ : ∃ PO : Ending → World → Prop, (fun e w' => e = .returned (.bool (decide (La = Lb))) ∧ Below w.heap.size w w') = PO := ⟨_, rfl⟩
  have HPO := hideB hPO
  rw [hPO]
  have HA := hideB ha
  have HB := hideB hb
  have HN := hideB (And.intro hn hm)
  clear hPO ha hb hn hm
  go_enter Tryd.func6, Tryd.ntmps6
  by_cases hnm : n = m
  · subst hnm
    go_wp2_with fail
    go_loopw [5] (fun iv wr => ∃ i : Nat, iv = .int .i64 (i : Nat) ∧ i ≤ n ∧ Below w.heap.size w wr ∧ Hid (∀ k, k < i → La[k]? = Lb[k]?)) (fun iv _ => n - (intOf iv).toNat)
    case atStart => exact ⟨0, rfl, Nat.zero_le _, Below.refl _ _, hideB (fun k hk => absurd hk (Nat.not_lt_zero _))⟩
    case round =>
      obtain ⟨i, rfl, hin, hbl, HE⟩ := hrel
      obtain ⟨wq, rfl⟩ : ∃ wq, wq = wr := ⟨_, rfl⟩
      by_cases hlt : i < n
      · obtain ⟨x, hx⟩ : ∃ x, La[i]? = some x := ⟨_, List.getElem?_eq_getElem (by rw [HN.out.1]; exact hlt)⟩
        obtain ⟨y, hy⟩ : ∃ y, Lb[i]? = some y := ⟨_, List.getElem?_eq_getElem (by rw [HN.out.2]; exact hlt)⟩
        obtain ⟨ga, fa, rfl, l1⟩ := (HA.out.keep (Below.refl _ _)) i x hx
        obtain ⟨gb, fb, rfl, l2⟩ := (HB.out.keep (Below.refl _ _)) i y hy
        have l1 := (hbl.cell (p := ⟨ga, fa + i, none⟩) (World.block_lt_of_cell? _ _ l1)).trans l1
        have l2 := (hbl.cell (p := ⟨gb, fb + i, none⟩) (World.block_lt_of_cell? _ _ l2)).trans l2
        have di : (i : Int) < (n : Int) := by omega
        have wk : IntKind.i64.wrap ((i : Int) + 1) = ((i + 1 : Nat) : Int) := by rw [show ((i + 1 : Nat) : Int) = (i : Int) + 1 by omega]; exact IntWalk.i64_in _ ⟨by omega, by omega⟩
        have HX := hideB (And.intro hx hy)
        have HBl := hideB hbl
        clear hx hy hbl
        by_cases hxy : x = y
        · subst hxy
          have HE2 : Hid (∀ k, k < i + 1 → La[k]? = Lb[k]?) := hideB (fun k hk => by
            by_cases e : k = i
            · subst e; rw [HX.out.1, HX.out.2]
            · exact HE.out k (by omega))
          go_upto_region 6 with fail
          go_quiet (fail)
          have HB2 := hideB (below_drewN HBl.out nq)
          generalize wq.drewN nq = W at *
          clear l1 l2
          go_wp2_with fail
          go_roundw
          case rel => exact ⟨i + 1, by first | rfl | simp, by omega, HB2.out, HE2⟩
          case measure => (simp [intOf] <;> omega)
        · have HR : Hid (∀ W, Below w.heap.size w W → PO (.returned (.bool false)) W) := hideB (fun W hW => by
            rw [← HPO.out]
            refine ⟨?_, hW⟩
            have : La ≠ Lb := fun e => hxy (by have h1 := HX.out.1; rw [e, HX.out.2] at h1; exact (Option.some.inj h1).symm)
            simp [this])
          have bxy : (x != y) = true := by simp [hxy]
          go_upto_region 6 with fail
          go_quiet (fail)
          have HB2 := hideB (below_drewN HBl.out nq)
          generalize wq.drewN nq = W at *
          clear l1 l2
          go_wp2_with fail
          first | exact HR.out _ HB2.out | (go_ret; exact HR.out _ HB2.out)
      · obtain rfl : n = i := by omega
        have d2 : ¬ (n : Int) < (n : Int) := by omega
        have HR : Hid (PO (.returned (.bool true)) wq) := hideB (by
          rw [← HPO.out]
          refine ⟨?_, hbl⟩
          have : La = Lb := by
            apply List.ext_getElem?
            intro k
            by_cases hk : k < n
            · exact HE.out k hk
            · rw [List.getElem?_eq_none (by rw [HN.out.1]; omega), List.getElem?_eq_none (by rw [HN.out.2]; omega)]
          simp [this])
        clear hbl
        go_wp2_with fail
        first | exact HR.out | (go_ret; exact HR.out)
  · have HR : Hid (PO (.returned (.bool false)) w) := hideB (by
      rw [← HPO.out]
      refine ⟨?_, Below.refl _ _⟩
      have : La ≠ Lb := fun e => hnm (by rw [← HN.out.1, ← HN.out.2, e])
      simp [this])
    have bnm : ((n : Int) != (m : Int)) = true := by simp; omega
    go_wp2_with fail
    first | exact HR.out | (go_ret; exact HR.out)
/-- The head's texts. -/
def hA : ByteArray := ⟨#[97, 98, 215, 144, 215, 145, 99]⟩
def hB4 : ByteArray := ⟨#[40, 215, 144, 41]⟩
def hC4 : ByteArray := ⟨#[215, 144, 97]⟩
theorem hA_l : levN 0 (clsS hA) = [0, 0, 1, 1, 0] := by kernel_rfl
theorem hA_n : (clsS hA).length = 5 := by kernel_rfl
theorem hA_o : ordN [0, 0, 1, 1, 0] = [0, 1, 3, 2, 4] := by kernel_rfl
theorem hB_v : encL (visL hB4 1) = [40, 215, 144, 41] := by kernel_rfl
theorem hB_n : hasNl hB4 = false := by kernel_rfl
theorem hC_b : baseF hC4 0 = 1 := by kernel_rfl
theorem utf8_belowB {g3 g4 : Nat} {A B : World} (h : Lib.Utf8Tabs g3 g4 A) (hb : Below A.heap.size A B) : Lib.Utf8Tabs g3 g4 B :=
  ⟨fun c hc => (hb.cell (p := ⟨g3, c, none⟩) (World.block_lt_of_cell? _ _ (h.1 c hc))).trans (h.1 c hc), fun i hi => ⟨(hb.cell (p := ⟨g4, 2 * i, none⟩) (World.block_lt_of_cell? _ _ (h.2 i hi).1)).trans (h.2 i hi).1, (hb.cell (p := ⟨g4, 2 * i + 1, none⟩) (World.block_lt_of_cell? _ _ (h.2 i hi).2)).trans (h.2 i hi).2⟩⟩
theorem rdj_of {W : World} {o : Option Addr} {n cap base : Nat} {L : List Int} (h : W.ownsRow base 3 1 (.slice o n cap) n (flatJ L)) (hl : L.length = n) : RdJ W o L := fun k x hx => by
  have hk : k < n := by have := (List.getElem?_eq_some_iff.1 hx).1; omega
  rcases own_formB h with ⟨e, _⟩ | ⟨g, cap, e⟩
  · omega
  · cases e
    have h2 := h.cellAt k (by omega)
    rw [flatJ_get hx] at h2
    exact ⟨g, 0, rfl, by rw [Nat.zero_add]; exact h2⟩
theorem rda_new (W : World) (L : List Int) (vs : Array Value) (hv : vs.toList = flatJ L) : RdA (W.alloc (.cells vs 3)) (some ⟨W.heap.size, 0, none⟩) L := fun k x hx => by
  refine ⟨W.heap.size, 0, rfl, ?_⟩
  have hb := World.alloc_heap_new W (.cells vs 3)
  have : vs[0 + k]? = some (.int .i64 x) := by rw [← Array.getElem?_toList, hv, Nat.zero_add]; exact flatJ_get hx
  rw [cell_of_row _ _ _ _ _ _ hb]
  exact this
set_option maxRecDepth 100000 in
set_option maxHeartbeats 4000000 in
theorem head4_any (N : Nat) (w : World) (hT : Tabs N w) (hU : ∀ W, Below w.heap.size w W → Lib.Utf8Tabs 0 1 W) :
    Calls Tryd.prog 8 #[] w fun e w' => e = .returned (.bool true) ∧ Below w.heap.size w w' := by
  have hL := levels_any hA (by decide) 0 (.inl rfl) N w hT hU
  rw [hA_n, hA_l] at hL
  unfold hA at hL
  have HL := hideB hL
  have HV : Hid (∀ W, Below w.heap.size w W → Calls Tryd.prog 13 #[.string ⟨#[40, 215, 144, 41]⟩, .int .i64 1] W fun e w' => e = .returned (.tuple #[.string ⟨#[40, 215, 144, 41]⟩, .int .i64 0]) ∧ Below W.heap.size W w') := hideB (fun W hW => by
    have := visual_any hB4 (by decide) 1 (.inr rfl) N W (hT.below hW) (fun V hV => hU V (hW.trans (hV.mono hW.size)))
    rw [hB_n, hB_v] at this
    exact this)
  have HBs : Hid (∀ W, Below w.heap.size w W → Calls Tryd.prog 15 #[.string ⟨#[215, 144, 97]⟩, .int .i64 0] W fun e w' => e = .returned (.int .i64 1) ∧ Below W.heap.size W w') := hideB (fun W hW => by
    have := base_any hC4 (by decide) 0 N W (hT.below hW) (fun V hV => hU V (hW.trans (hV.mono hW.size)))
    rw [hC_b] at this
    exact this)
  clear hL hT hU
  go_enter Tryd.func8, Tryd.ntmps8
  go_wp2_with fail
  refine HL.out.mono ?_
  rintro e w1 ⟨v, rfl, ho1, hb1⟩
  obtain ⟨oa, ca, rfl⟩ : ∃ o c, v = .slice o 5 c := by
    rcases own_formB ho1 with ⟨e, _⟩ | ⟨g, cap, e⟩
    · omega
    · exact ⟨_, cap, e⟩
  have H1 := hideB (And.intro ho1 hb1)
  clear ho1 hb1 HL
  go_wp2_with fail
  refine (HV.out w1 H1.out.2).mono ?_
  rintro e w2 ⟨rfl, hb2⟩
  have H2 := hideB (And.intro (own_keepB H1.out.1 hb2) (bupB H1.out.2 hb2))
  clear hb2 H1 HV
  go_wp2_with fail
  refine (same4_any [0, 0, 1, 1, 0] [0, 0, 1, 1, 0] oa _ ca 5 (by decide) _ ((RdA.of_own H2.out.1 rfl).keep (bel1B _ _)) (rda_new w2 [0, 0, 1, 1, 0] _ rfl)).mono ?_
  rintro e w3 ⟨rfl, hb3⟩
  have H3 := hideB (And.intro (own_keepB (own_keepB H2.out.1 (bel1B _ _)) hb3) (bupB (bupB H2.out.2 (bel1B _ _)) hb3))
  clear hb3 H2
  simp only [decide_true]
  go_wp2_with fail
  have hO := order_any [0, 0, 1, 1, 0] oa ca (by decide) w3 (rdj_of H3.out.1 rfl)
  rw [hA_o] at hO
  refine Calls.mono (show Calls Tryd.prog 14 #[.slice oa 5 ca] w3 _ from hO) ?_
  rintro e w4 ⟨vo, rfl, ho4, hb4⟩
  obtain ⟨oo, co, rfl⟩ : ∃ o c, vo = .slice o 5 c := by
    rcases own_formB ho4 with ⟨e, _⟩ | ⟨g, cap, e⟩
    · simp at e
    · exact ⟨_, cap, e⟩
  have H4 : Hid (w4.ownsRow w3.heap.size 3 1 (.slice oo 5 co) 5 (flatJ [0, 1, 3, 2, 4]) ∧ Below w.heap.size w w4) := hideB (And.intro ho4 (bupB H3.out.2 hb4))
  clear ho4 hb4 hO H3
  go_wp2_with fail
  refine (same4_any [0, 1, 3, 2, 4] [0, 1, 3, 2, 4] oo _ co 5 (by decide) _ ((RdA.of_own H4.out.1 rfl).keep (bel1B _ _)) (rda_new w4 [0, 1, 3, 2, 4] _ rfl)).mono ?_
  rintro e w5 ⟨rfl, hb5⟩
  have H5 := hideB (bupB (bupB H4.out.2 (bel1B _ _)) hb5)
  clear hb5 H4
  simp only [decide_true]
  go_wp2_with fail
  refine (HBs.out w5 H5.out).mono ?_
  rintro e w6 ⟨rfl, hb6⟩
  have H6 := hideB (bupB H5.out hb6)
  clear hb6 H5 HBs
  go_wp2_with fail
  first | exact ⟨rfl, H6.out⟩ | (go_ret; exact ⟨rfl, H6.out⟩)
end Go.Proofs.YtbehlaclffjkbaaDoor

/- The law's own list of a text's clusters (chapter 4's statements). -/
namespace Go.Proofs.YtbehlaclffjkbaaDoor
open Go.RowKit Go.Shelf
attribute [local go_sem] Oper.semAt_some

set_option maxRecDepth 100000 in
set_option maxHeartbeats 4000000 in
theorem cluslaw_any (s : ByteArray) (hs : s.size ≤ 2097152) (N : Nat) (w : World) (hT : Tabs N w) :
    Calls Tryd.prog 7 #[.string s] w fun e w' => ∃ v, e = .returned v ∧ w'.ownsRow w.heap.size 39 5 v (clusters s).length (flatC (clusters s)) ∧ Below w.heap.size w w' := by
  obtain ⟨i0, hi, hz0, hz1, hz2⟩ := info_partsC infoCl
  have hsq := seq_some
  refine (callsIn_wide (n := 9)).1 ?_
  refine callsIn_of_wp_marks Tryd.func7 rfl trivial ?_ rfl
  simp only [Tryd.ntmps7, List.size_toArray, List.length_cons, List.length_nil, Nat.reduceAdd, Nat.reduceSub, Array.replicate_succ, Array.replicate_zero, List.push_toArray, List.append_toArray, List.nil_append, List.cons_append]
  gi_wp2_with (refine ⟨trivial, ?_⟩; gi_at_call 12; refine (callsIn_wide.2 (clusters_mk _ _)).mono ?_; rintro e w' ⟨rfl, rfl⟩)
  obtain ⟨V, hV⟩ : ∃ V, (w.alloc (.cells #[.slice none 0 0] 28)).alloc (.cells #[.string s] 9) = V := ⟨_, rfl⟩
  have b2 : Boxed V w.heap.size 28 (.slice none 0 0) := by
    rw [← hV]
    exact (Boxed.new w _ _).alloc _
  have b3 : Boxed V (w.heap.size + 1) 9 (.string s) := by
    rw [← hV]
    have := Boxed.new (w.alloc (.cells #[.slice none 0 0] 28)) 9 (.string s)
    rw [World.size_alloc] at this
    exact this
  have hB : Below w.heap.size w V := by
    rw [← hV]
    exact ((Below.refl _ w).alloc (Nat.le_refl _) _).alloc (by simp) _
  have hz1' : V.heap.size = w.heap.size + 2 := by rw [← hV]; simp
  have hc1 := b3.cell
  rw [hV]
  clear hV hsq
  have hN := hT.room
  have hcl := clusters_length s
  refine rangeFunc_box (α := Cl) (by omega) (gf := 24) (lb := #[.pointer (some ⟨w.heap.size + 1, 0, none⟩)]) rfl (enters_of Tryd.func24 (by kernel_rfl) rfl)
    (clus_seq (9 - 1) (w.heap.size + 1) N (by omega) s (by omega) V (by omega) hc1 (hT.below hB)) (fun _ => rfl)
    (fun k => k = w.heap.size) (fun k e => by subst e; exact ⟨by omega, by omega, by omega⟩)
    (fun pre W => ∃ v, Boxed W w.heap.size 28 v ∧ W.ownsRow (V.heap.size + 2 + 2) 39 5 v pre.length (flatC pre)) (fun _ _ _ => False)
    (fun pre A B h hk => by obtain ⟨v, h1, h2⟩ := h; exact ⟨v, (hk.same _ h1.lt (.inl (by omega))).trans h1, ownsRow_keeps h2 hk⟩) (fun _ _ _ _ h _ => h) ⟨_, b2, World.ownsRow_nil _ _ _ _⟩ ?round ?done ?stop
  case round =>
    rintro l pre x W K hl hlW hhi hlh hBW hip hpx hK
    have hWz := hBW.size
    have hpl : pre.length + 1 ≤ (clusters s).length := by have := hpx.length_le; simpa using this
    simp only [Cl.val]
    gi_wp2
    refine hK _ _ ((Below.refl _ W).alloc (Nat.le_refl _) _) (fun W2 hbo hzz hB2 hi2 => ?_)
    have hWW : W.heap.size ≤ W2.heap.size := by rw [hzz]; simp
    clear hzz
    have hx : ClAt W2 W.heap.size x := (hbo.same W.heap.size (by simp) (by omega)).trans (World.alloc_heap_new W _)
    obtain ⟨v, c0, hrow⟩ := hi2
    obtain ⟨x0, x1, x2, x3, x4⟩ := hx.row
    have k0 := c0.cell
    clear hpx hT hbo
    gi_wp2_with (gi_at_builtin; refine wpListIn_append_own _ rfl _ _ 28 rfl (V.heap.size + 2 + 2) 39 i0 (.agg #[.int .i64 0, .int .i64 0, .int .i64 0, .int .i64 0, .int .i64 0]) 5 40 Tryd.underlying28 hi hz0 hz1 hz2 rfl (by decide) _ _ _ rfl (hrow.alloc _) ⟨W2.heap.size, 0, none⟩ 1 1 [.int .i64 x.loc, .int .i64 x.len, .int .i64 x.fr, .int .i64 x.to, .int .i64 x.cells] rfl rfl (cell_five_new _ _ _ _ _ _ _) (fun u hu => by simp at hu; rcases hu with rfl | rfl | rfl | rfl | rfl <;> rfl) (by unfold maxLen; omega) (by omega) (by simp; omega) ?_; intro v' w1 hown' hgrow _; obtain ⟨g', cap', rfl⟩ := ownsRow_succ hown'; have c3 : Boxed w1 w.heap.size 28 v := (c0.alloc _).kept hgrow (fun e => by have := (hrow.lt _ e.symm).1; omega); clear k0; have k0 := c3.cell; have k2 := c3.frozen)
    refine ⟨((But.refl _ W2).alloc _).trans ((but_grown hgrow (fun k e => .inr (hrow.lt k e).1)).trans (But.set w1 _ _ (.inl rfl))), _, c3.set _, ?_⟩
    rw [List.length_append, flatC_snoc]
    refine hown'.kept (grownBy_setCell' w1 w.heap.size _) (.inr (fun e => ?_))
    have := (hown'.lt _ e).1
    omega
  case done =>
    rintro D W hD ⟨v, hv, hrow⟩ hBW hK
    have k0 := hv.cell
    gi_wp2
    refine ⟨by simp, .inl ⟨_, _, rfl, run_takeDeferred hK, ?_⟩⟩
    refine ⟨v, by simp [results, Tryd.f7, go_sem], v, rfl, ownsRow_from (ownsRow_putObjC hrow hK) (by omega), ?_⟩
    exact (hB.trans (hBW.below (by omega) (fun k e => by omega))).trans ((putObj_belowL _ _ _).mono (by omega))
  case stop => rintro D c pre W hD hpre h; exact h.elim
end Go.Proofs.YtbehlaclffjkbaaDoor

/- BidiApart: the walk. -/
namespace Go.Proofs.YtbehlaclffjkbaaDoor
open Go.RowKit Go.Shelf

/-- Behind an own row a slice is put, nil or not, where a guard lets it. -/
theorem wpList_append_ownG {P : Program} (w : World) {ops : Array Oper} {rest : List Oper} {o : Oper} {a : Act} {Q : Exit → Act → World → Prop}
    (hw : Region.wanted o (yielded ops a.tmps) = true) (s x : Operand) (t : TypeId)
    (ho : o.op = .call { callee := .builtin .append, args := #[s, x], argTypes := #[t, t] })
    (base : Nat) (e : TypeId) (i : TypeInfo) (z : Value) (size bytes : Nat) (ht : P.underlying t = some (.slice e)) (hi : P.info? e = some i) (hz : i.zero = some z)
    (hsize : i.size = size) (hby : i.bytes = bytes) (hzs : z.cells.size = size) (hsz : 0 < size)
    (v : Value) (n : Nat) (xs : List Value) (hs : a.eval s = v) (hown : w.ownsRow base e size v n xs)
    (oa : Option Addr) (m c : Nat) (news : List Value) (hx : a.eval x = .slice oa m c) (hn : oa = none → m = 0 ∧ c = 0) (hl : news.length = m * size) (hnews : ∀ ad, oa = some ad → ∀ j u, news[j]? = some u → w.cell? (ad.add j) = some u) (h1 : ∀ u ∈ news, u.oneCell' = true)
    (h63 : n + m ≤ maxLen) (hbytes : (n + m) * bytes ≤ 140737488355328) (hbase : base ≤ w.heap.size)
    (h : ∀ v' w', w'.ownsRow base e size v' (n + m) (xs ++ news) → w.grownBy w' v.ownBlock → wpList P ops Q rest (a.put o.dst v') w') : wpList P ops Q (o :: rest) a w := by
  refine wpList_step fun K hK => ?_
  rw [if_pos hw]
  cases oa with
  | none =>
    obtain ⟨rfl, rfl⟩ := hn rfl
    have hbv : news = [] := List.length_eq_zero_iff.1 (by rw [hl, Nat.zero_mul])
    subst hbv
    have h2 := h v w (by rw [List.append_nil]; exact hown) (World.grownBy.refl w _)
    have hrun := run_append_owned_none (P := P) (w := w) base t o.type e i size ht hi v n xs hown
    unfold Oper.wp
    simp [execOp, ho, resolve, invoke, builtin, hs, hx, hrun, Result.andThen]
    exact hK _ _ h2
  | some ad => exact wp_append_own w s x t ho base e i z size bytes ht hi hz hsize hby hzs hsz v n xs hs hown ad m c news hx hl (hnews ad rfl) h1 h63 hbytes hbase fun v' w' h2 h3 _ => hK _ _ (h v' w' h2 h3)
theorem flatJ_oneG (C : List Int) : ∀ u ∈ flatJ C, u.oneCell' = true := by
  intro u hu
  simp only [flatJ, List.mem_map] at hu
  obtain ⟨x, _, rfl⟩ := hu
  rfl
theorem flatJ_app (A B : List Int) : flatJ (A ++ B) = flatJ A ++ flatJ B := List.map_append
theorem RdA.flatG {W : World} {oa : Option Addr} {L : List Int} (h : RdA W oa L) {ad : Addr} (he : oa = some ad) (j : Nat) (u : Value) (hu : (flatJ L)[j]? = some u) : W.cell? (ad.add j) = some u := by
  unfold flatJ at hu
  rw [List.getElem?_map] at hu
  cases hx : L[j]? with
  | none => rw [hx] at hu; cases hu
  | some x =>
    rw [hx] at hu
    obtain ⟨g, off, e, hc⟩ := h j x hx
    rw [he] at e
    cases e
    rw [Addr.add_lit]
    exact hc.trans hu
theorem own_slG {W : World} {b : Nat} {e : TypeId} {sz n : Nat} {v : Value} {xs : List Value} (h : W.ownsRow b e sz v n xs) : ∃ o c, v = .slice o n c ∧ (o = none → n = 0 ∧ c = 0) := by
  rcases own_formB h with ⟨e1, e2⟩ | ⟨g, cap, e2⟩
  · exact ⟨none, 0, by rw [e2, e1], fun _ => ⟨e1, rfl⟩⟩
  · exact ⟨_, _, e2, fun h => by cases h⟩
theorem own_emptyG (w : World) : (w.alloc (.cells #[] 3)).ownsRow w.heap.size 3 1 (.slice (some ⟨w.heap.size, 0, none⟩) 0 0) 0 [] :=
  ⟨rfl, .inr ⟨w.heap.size, 0, #[], rfl, Nat.le_refl _, World.alloc_heap_new w _, Nat.le_refl _, by decide, rfl, rfl⟩⟩
theorem within2_anyG (a : Int) (w : World) :
    Calls Tryd.prog 4 #[.int .i64 a, .int .i64 2] w fun e w' => ∃ k : Int, e = .returned (.int .i64 k) ∧ (k = 0 ∨ k = 1) ∧ w' = w := by
  have hk : -2 < a.tmod 2 ∧ a.tmod 2 < 2 := ⟨by have := Int.lt_tmod_of_pos a (show (0 : Int) < 2 by omega); omega, Int.tmod_lt_of_pos a (by omega)⟩
  have wk0 : IntKind.i64.wrap (a.tmod 2) = a.tmod 2 := IntWalk.i64_in _ ⟨by omega, by omega⟩
  have wk1 : IntKind.i64.wrap (a.tmod 2 + 2) = a.tmod 2 + 2 := IntWalk.i64_in _ ⟨by omega, by omega⟩
  generalize hg : a.tmod 2 = k at *
  by_cases h0 : k < 0
  · go_enter Tryd.func4, Tryd.ntmps4
    go_wp2_with fail
    go_ret
    exact ⟨k + 2, rfl, by omega, rfl⟩
  · go_enter Tryd.func4, Tryd.ntmps4
    go_wp2_with fail
    go_ret
    exact ⟨k, rfl, by omega, rfl⟩
set_option maxRecDepth 100000 in
set_option maxHeartbeats 4000000 in
theorem bapart_walk (a b : ByteArray) (hs : a.size + b.size ≤ 1048576) (q : Int) (N : Nat) (w : World) (hT : Tabs N w) (hU : ∀ W, Below w.heap.size w W → Lib.Utf8Tabs 0 1 W) :
    Calls Tryd.prog 3 #[.string a, .string b, .int .i64 q] w fun e w' => e = .returned (.bool true) ∧ Below w.heap.size w w' := by
  have HLv := hideB (fun (t : ByteArray) (ht : t.size ≤ 2097152) (base : Int) (hb : base = 0 ∨ base = 1) (W : World) (hW : Below w.heap.size w W) => levels_any t ht base hb N W (hT.below hW) (fun V hV => hU V (hW.trans (hV.mono hW.size))))
  have HH := hideB (fun (W : World) (hW : Below w.heap.size w W) => head4_any N W (hT.below hW) (fun V hV => hU V (hW.trans (hV.mono hW.size))))
  have HCl := hideB (fun (t : ByteArray) (ht : t.size ≤ 2097152) (W : World) (hW : Below w.heap.size w W) => cluslaw_any t ht N W (hT.below hW))
  obtain ⟨i0, hi0, hz0, hz1, hz2⟩ := info_partsC infoJ
  have HI := hideB (And.intro hi0 (And.intro hz0 (And.intro hz1 hz2)))
  have hz1 : (a ++ (⟨#[10]⟩ : ByteArray)).size ≤ 1048577 := by rw [ByteArray.size_append]; show a.size + 1 ≤ _; omega
  have hz2 : (a ++ (⟨#[10]⟩ : ByteArray) ++ b).size ≤ 1048577 := by rw [ByteArray.size_append, ByteArray.size_append]; show a.size + 1 + b.size ≤ _; omega
  have HSz := hideB (And.intro hz1 hz2)
  clear hT hU hi0 hz0 hz1 hz2
  go_enter Tryd.func3, Tryd.ntmps3
  go_wp2_with fail
  refine (within2_anyG q w).mono ?_
  rintro e w1 ⟨k, rfl, hk, rfl⟩
  have HK := hideB hk
  have hXl := levN_len k (clsS (a ++ (⟨#[10]⟩ : ByteArray)))
  have hYl := levN_len k (clsS b)
  have hZ := levN_two k a b
  have hZl := levN_len k (clsS (a ++ (⟨#[10]⟩ : ByteArray) ++ b))
  have hZb : ∀ x ∈ levN k (clsS (a ++ (⟨#[10]⟩ : ByteArray) ++ b)), k ≤ x ∧ x ≤ k + 122 := levN_lv k _ _ (Nat.le_refl _)
  have hcl : (clsS (a ++ (⟨#[10]⟩ : ByteArray) ++ b)).length = (clusters (a ++ (⟨#[10]⟩ : ByteArray) ++ b)).length := by unfold clsS; rw [List.length_map]
  have hcn := clusters_length (a ++ (⟨#[10]⟩ : ByteArray) ++ b)
  have HL1 := hideB (HLv.out _ (by have := HSz.out.1; omega) k hk : ∀ W, _ → Calls _ _ #[.string (a ++ (⟨#[10]⟩ : ByteArray)), _] W _)
  have HL2 := hideB (HLv.out b (by omega) k hk)
  have HL3 := hideB (HLv.out _ (by have := HSz.out.2; omega) k hk : ∀ W, _ → Calls _ _ #[.string (a ++ (⟨#[10]⟩ : ByteArray) ++ b), _] W _)
  have HC4 := hideB (HCl.out _ (by have := HSz.out.2; omega) : ∀ W, _ → Calls _ _ #[.string (a ++ (⟨#[10]⟩ : ByteArray) ++ b)] W _)
  clear HLv HCl hk
  generalize levN k (clsS (a ++ (⟨#[10]⟩ : ByteArray) ++ b)) = Z at *
  generalize levN k (clsS (a ++ (⟨#[10]⟩ : ByteArray))) = X at *
  generalize levN k (clsS b) = Y at *
  rw [← hXl] at HL1
  rw [← hYl] at HL2
  rw [← hZl] at HL3
  obtain ⟨n, hn⟩ : ∃ n, (clusters (a ++ (⟨#[10]⟩ : ByteArray) ++ b)).length = n := ⟨_, rfl⟩
  rw [hn] at HC4 hcl hcn
  have hZn : Z.length = n := by rw [hZl, hcl]
  rw [hZn] at HL3
  have hnn : n ≤ 1048578 := by have := HSz.out.2; omega
  have hXY : X.length + Y.length = n := by rw [← hZn, hZ, List.length_append]
  clear hXl hYl hZl hcl hcn hn
  go_wp2_with fail
  refine (HL1.out w1 (Below.refl _ _)).mono ?_
  rintro e wa ⟨va, rfl, hoa, hba⟩
  obtain ⟨oa, ca, rfl, hna⟩ := own_slG hoa
  have Ha := hideB (And.intro hoa (And.intro hba hna))
  clear hoa hba hna HL1
  go_wp2_with fail
  refine (HL2.out wa Ha.out.2.1).mono ?_
  rintro e wb ⟨vb, rfl, hob, hbb⟩
  obtain ⟨ob, cb, rfl, hnb⟩ := own_slG hob
  have Hb := hideB (And.intro hob (And.intro hbb hnb))
  clear hob hbb hnb HL2
  go_wp2_with fail
  refine (HL3.out wb (bupB Ha.out.2.1 Hb.out.2.1)).mono ?_
  rintro e wc ⟨vc, rfl, hoc, hbc⟩
  obtain ⟨oc, cc, rfl, hnc⟩ := own_slG hoc
  have Hc := hideB (And.intro hoc hbc)
  clear hoc hbc hnc HL3
  have RX : RdA wc oa X := RdA.of_own (own_keepB (own_keepB Ha.out.1 Hb.out.2.1) Hc.out.2) rfl
  have RY : RdA wc ob Y := RdA.of_own (own_keepB Hb.out.1 Hc.out.2) rfl
  have HR := hideB (And.intro RX (And.intro RY (bupB (bupB Ha.out.2.1 Hb.out.2.1) Hc.out.2)))
  have HN := hideB (And.intro hXY (And.intro hZn hnn))
  have hfx : (flatJ X).length = X.length * 1 := by rw [flatJ_len, Nat.mul_one]
  have hfy : (flatJ Y).length = Y.length * 1 := by rw [flatJ_len, Nat.mul_one]
  have HZ := hideB (And.intro hZ hZb)
  clear RX RY hZ hZb
  go_wp2_with (at_builtin; first | (refine wpList_append_ownG _ (by rfl) _ _ 23 rfl wc.heap.size 3 i0 (.int .i64 0) 1 8 Tryd.underlying23 HI.out.1 HI.out.2.1 HI.out.2.2.1 HI.out.2.2.2 rfl (by decide) (.slice (some ⟨wc.heap.size, 0, none⟩) 0 0) 0 [] rfl (own_emptyG wc) oa X.length ca (flatJ X) rfl Ha.out.2.2 hfx (fun ad h => RdA.flatG (HR.out.1.keep (bel1B wc _)) h) (flatJ_oneG X) (by unfold maxLen; omega) (by omega) (by simp) ?_; intro v4 w4 own4 gr4; have H4 := hideB (And.intro own4 (Below.grown (bel1B wc _) gr4 (by simp) (fun k hk => by cases hk; exact Nat.le_refl _))); clear own4 gr4) | (refine wpList_append_ownG _ (by rfl) _ _ 23 rfl wc.heap.size 3 i0 (.int .i64 0) 1 8 Tryd.underlying23 HI.out.1 HI.out.2.1 HI.out.2.2.1 HI.out.2.2.2 rfl (by decide) v4 (0 + X.length) ([] ++ flatJ X) rfl H4.out.1 ob Y.length cb (flatJ Y) rfl Hb.out.2.2 hfy (fun ad h => RdA.flatG (HR.out.2.1.keep H4.out.2) h) (flatJ_oneG Y) (by unfold maxLen; omega) (by omega) H4.out.2.size ?_; intro v5 w5 own5 gr5; have H5 := hideB (And.intro own5 (Below.grown H4.out.2 gr5 H4.out.2.size (fun k hk => (H4.out.1.lt k hk).1))); clear own5 gr5))
  obtain ⟨o5, c5, rfl, _⟩ := own_slG H5.out.1
  have hown : w5.ownsRow wc.heap.size 3 1 (.slice o5 (0 + X.length + Y.length) c5) (0 + X.length + Y.length) (flatJ (X ++ Y)) := by
    have h9 := H5.out.1
    rw [List.nil_append, ← flatJ_app] at h9
    exact h9
  have hlXY : (X ++ Y).length = 0 + X.length + Y.length := by rw [List.length_append, Nat.zero_add]
  have RZ : RdA w5 oc Z := (RdA.of_own Hc.out.1 hZn).keep H5.out.2
  have hS := same4_any (X ++ Y) Z o5 oc c5 cc (by rw [hlXY]; omega) w5 (RdA.of_own hown hlXY) RZ
  rw [hlXY, hZn, show decide (X ++ Y = Z) = true from decide_eq_true HZ.out.1.symm] at hS
  refine Calls.mono hS ?_
  rintro e w6 ⟨rfl, hb6⟩
  have H6 := hideB (And.intro (RZ.keep hb6) (bupB (bupB HR.out.2.2 H5.out.2) hb6))
  clear hS hb6 RZ hown H5 H4 hfx hfy
  have dk : (k : Int) ≤ 1 ∧ 0 ≤ k := by have := HK.out; omega
  have wk1 : IntKind.i64.wrap (k + 120) = k + 120 := IntWalk.i64_in _ ⟨by omega, by omega⟩
  have wk2 : IntKind.i64.wrap (k + 120 + 3) = k + 120 + 3 := IntWalk.i64_in _ ⟨by omega, by omega⟩
  have wk3 : IntKind.i64.wrap (k + 123) = k + 123 := IntWalk.i64_in _ ⟨by omega, by omega⟩
  go_wp2_with fail
  go_loopw [13] (fun v13 wx => ∃ i : Nat, v13 = .int .i64 (i : Nat) ∧ i ≤ n ∧ wx = w6) (fun v13 _ => n - (intOf v13).toNat)
  case atStart => exact ⟨0, rfl, Nat.zero_le _, rfl⟩
  case round =>
    obtain ⟨i, rfl, hin, hw⟩ := hrel
    subst hw
    by_cases hlt : i < n
    · have di : (i : Int) < (n : Int) := by omega
      have wi : IntKind.i64.wrap ((i : Int) + 1) = ((i + 1 : Nat) : Int) := by rw [show ((i + 1 : Nat) : Int) = (i : Int) + 1 by omega]; exact IntWalk.i64_in _ ⟨by omega, by omega⟩
      obtain ⟨x, hx⟩ : ∃ x, Z[i]? = some x := ⟨_, List.getElem?_eq_getElem (by omega)⟩
      obtain ⟨g, off, rfl, l0⟩ := H6.out.1 i x hx
      have hb := HZ.out.2 x (List.mem_of_getElem? hx)
      have dx1 : ¬ x < k := by omega
      have dx2 : ¬ k + 120 + 3 < x := by omega
      have dx3 : ¬ k + 123 < x := by omega
      clear hx hb
      go_wp2_with fail
      go_roundw
      case rel => exact ⟨i + 1, by first | rfl | simp, by omega, by first | rfl | trivial⟩
      case measure => (simp [intOf] <;> omega)
    · obtain rfl : n = i := by omega
      have d2 : ¬ (n : Int) < (n : Int) := by omega
      go_wp2_with fail
      refine (HC4.out _ H6.out.2).mono ?_
      rintro e w7 ⟨v7, rfl, ho7, hb7⟩
      obtain ⟨o7, c7, rfl, _⟩ := own_slG ho7
      have H7 := hideB (bupB H6.out.2 hb7)
      clear ho7 hb7
      go_wp2_with fail
      refine (HH.out w7 H7.out).mono ?_
      rintro e w9 ⟨rfl, hb9⟩
      have H9 := hideB (bupB H7.out hb9)
      clear hb9
      go_wp2_with fail
      first | exact ⟨rfl, H9.out⟩ | (go_ret; exact ⟨rfl, H9.out⟩)
theorem bapart_go (a : ByteArray) (_ : a.size ≤ 1048576) (b : ByteArray) (_ : b.size ≤ 1048576) (q : Int) (_ : -9223372036854775808 ≤ q) (_ : q ≤ 9223372036854775807) (hs : a.size + b.size ≤ 1048576) (_ : Nat) (W : World) (h : Tabs W.heap.size W ∧ Lib.Utf8Tabs 0 1 W) :
    Calls Tryd.prog 3 #[.string a, .string b, .int .i64 q] W fun e w' => e = .returned (.bool true) ∧ Below W.heap.size W w' :=
  bapart_walk a b hs q W.heap.size W h.1 (fun _ hV => utf8_belowB h.2 hV)
end Go.Proofs.YtbehlaclffjkbaaDoor
