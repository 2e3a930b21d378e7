/- Several texts, one behind the other. -/
import Derived.Deep.RegionHeld3
import Derived.Deep.QuietTactic
import Derived.BigQuiet
import Derived.Deep.AppendLies
import Derived.Deep.DeepAppendRoom
import Derived.OwnWalk
import Derived.Test.YtoabdhcchegchaaDoorBdC
import Derived.Test.YtoabdhcchegchaaDoorBeG
import Derived.Test.YtoabdhcchegchaaDoorG2
/- Levels lie between bounds; clusters as cells (chapter 4). -/
namespace Go.Proofs.YtoabdhcchegchaaDoor
open Go.RowKit Go.Shelf

theorem lvlI_b {c e M : Int} (h : 0 ≤ e ∧ e + 2 ≤ M) : 0 ≤ lvlI c e ∧ lvlI c e ≤ M := by
  unfold lvlI
  repeat' split
  all_goals omega
theorem layJ_b {e M : Int} (he : 0 ≤ e ∧ e + 2 ≤ M) {L P X : List Int} (hL : ∀ l ∈ L, 0 ≤ l ∧ l ≤ M) : ∀ i, ∀ l ∈ layJ e L P X i, 0 ≤ l ∧ l ≤ M
  | 0 => hL
  | i + 1 => fun l hl => by
    rw [layJ] at hl
    rcases List.mem_or_eq_of_mem_set hl with h | h
    · exact layJ_b he hL i l h
    · subst h
      exact lvlI_b he
theorem levT_b {C : List Int} {base : Int} (hb : base = 0 ∨ base = 1) {L : List Int} {M : Int} (hM : 1 + 2 * ((rowsN C).length : Int) + 2 ≤ M) (hL : ∀ l ∈ L, 0 ≤ l ∧ l ≤ M) : ∀ i, i ≤ (rowsN C).length → ∀ l ∈ levT C base L i, 0 ≤ l ∧ l ≤ M
  | 0, _ => hL
  | i + 1, hi => by
    have hw := rowsE_wf C base hb (i + 1) hi
    obtain ⟨r, hr⟩ : ∃ r, (rowsE C base (i + 1))[i]? = some r := ⟨_, List.getElem?_eq_getElem (by rw [rowsE_len]; omega)⟩
    have he := hw.le i r hr (.inl (by omega))
    rw [levT, hr]
    show ∀ l ∈ layR r.e C r.ps (levT C base L i), 0 ≤ l ∧ l ≤ M
    unfold layR
    exact layJ_b ⟨he.1, by omega⟩ (levT_b hb hM hL i (by omega)) _
theorem ends_b {b M : Int} (hb : 0 ≤ b ∧ b ≤ M) {C L : List Int} (hL : ∀ l ∈ L, 0 ≤ l ∧ l ≤ M) (j : Nat) : ∀ l ∈ endsF b C L j, 0 ≤ l ∧ l ≤ M := fun l hl => by
  obtain ⟨k, hk⟩ := List.getElem?_of_mem hl
  rw [endsF_at] at hk
  cases h : L[k]? with
  | none => rw [h] at hk; cases hk
  | some x =>
    rw [h] at hk
    have hx := hL x (List.mem_of_getElem? h)
    have hk : (if j ≤ k ∧ aeT (C.drop k) = true then b else x) = l := by simpa using hk
    rw [← hk]
    split
    · exact hb
    · exact hx
theorem parN_b {C : List Int} {base : Int} (hb : base = 0 ∨ base = 1) {M : Int} (hM : 1 + 2 * ((C.length : Int) + 1) + 2 ≤ M) (p : Nat) : ∀ l ∈ parN base C (List.replicate p 0), 0 ≤ l ∧ l ≤ M := by
  have hr := (rowsT_wf C C.length).rl
  unfold parN
  refine ends_b (by omega) (levT_b hb (M := M) (by unfold rowsN; omega) (fun l hl => by
    have := (List.mem_replicate.1 hl).2
    omega) _ (Nat.le_refl _)) 0
theorem levW_b {base : Int} (hb : base = 0 ∨ base = 1) {M : Int} : ∀ (f : Nat) (C : List Int), 1 + 2 * ((C.length : Int) + 1) + 2 ≤ M → ∀ l ∈ levW base f C, 0 ≤ l ∧ l ≤ M
  | 0, C, _ => fun l hl => by cases hl
  | f + 1, C, hM => fun l hl => by
    rw [levW] at hl
    split at hl
    · cases hl
    · have h1 := parL_le C
      rcases List.mem_append.1 hl with h | h
      · refine parN_b hb ?_ _ l h
        have : (C.take (parL C)).length ≤ C.length := by rw [List.length_take]; omega
        omega
      · refine levW_b hb f _ ?_ l h
        have : (C.drop (parL C)).length ≤ C.length := by rw [List.length_drop]; omega
        omega
theorem levN_b {base : Int} (hb : base = 0 ∨ base = 1) (C : List Int) (hn : C.length ≤ 1048577) : ∀ l ∈ levN base C, 0 ≤ l ∧ l ≤ 1000000000000 := levW_b hb _ C (by omega)
theorem flatC_getB : ∀ (RL : List Cl) (i : Nat) (x : Cl), RL[i]? = some x → (flatC RL)[i * 5]? = some (.int .i64 x.loc) ∧ (flatC RL)[i * 5 + 1]? = some (.int .i64 x.len) ∧ (flatC RL)[i * 5 + 2]? = some (.int .i64 x.fr) ∧ (flatC RL)[i * 5 + 3]? = some (.int .i64 x.to) ∧ (flatC RL)[i * 5 + 4]? = some (.int .i64 x.cells)
  | [], i, x, h => by simp at h
  | y :: RL, 0, x, h => by
    obtain rfl : y = x := by simpa using h
    exact ⟨rfl, rfl, rfl, rfl, rfl⟩
  | y :: RL, i + 1, x, h => by
    obtain ⟨a, b, c, d, e⟩ := flatC_getB RL i x (by simpa using h)
    have e0 : flatC (y :: RL) = [.int .i64 y.loc, .int .i64 y.len, .int .i64 y.fr, .int .i64 y.to, .int .i64 y.cells] ++ flatC RL := rfl
    rw [e0]
    refine ⟨?_, ?_, ?_, ?_, ?_⟩ <;> (rw [List.getElem?_append_right (by simp; omega)]; simp only [List.length_cons, List.length_nil, Nat.zero_add, Nat.reduceAdd])
    · rw [show (i + 1) * 5 - 5 = i * 5 by omega]; exact a
    · rw [show (i + 1) * 5 + 1 - 5 = i * 5 + 1 by omega]; exact b
    · rw [show (i + 1) * 5 + 2 - 5 = i * 5 + 2 by omega]; exact c
    · rw [show (i + 1) * 5 + 3 - 5 = i * 5 + 3 by omega]; exact d
    · rw [show (i + 1) * 5 + 4 - 5 = i * 5 + 4 by omega]; exact e
theorem cl_in (s : ByteArray) {i : Nat} {x : Cl} (h : (clusters s)[i]? = some x) : 0 ≤ x.loc ∧ 0 ≤ x.len ∧ x.loc + x.len ≤ (s.size : Int) := by
  obtain ⟨hl, hx⟩ := List.getElem?_eq_some_iff.1 h
  obtain ⟨pre, r, hr⟩ : ∃ pre r, pre ++ x :: r = clusters s := ⟨(clusters s).take i, (clusters s).drop (i + 1), by rw [← hx, List.getElem_cons_drop, List.take_append_drop]⟩
  have hat := chain_at (pre := pre) (c := x) (r := r) hr
  have hle := lens_le (pre := pre ++ [x]) (r := r) (by rw [List.append_assoc]; exact hr)
  rw [lensOf_snoc] at hle
  have hch := chain_append pre (x :: r) 0 0 (by rw [hr]; exact (clusters_chain s).1)
  have hnn := lens_nnB pre 0 0 hch.1
  have h2 : 1 ≤ x.len := hch.2.1.2.1
  omega
theorem own_others {W X : World} {base : Nat} {e : TypeId} {size : Nat} {v : Value} {n : Nat} {xs : List Value} {D : Nat} {e8 T : TypeId} {cs : Array Value} {fr : Nat × Nat} (h : W.ownsRow base e size v n xs) (hk : Lib.OthersKept e8 (some D) W X) (hD : W.heap[D]? = some (.cells cs T fr)) (h1 : e ≠ T) (h2 : e ≠ e8) : X.ownsRow base e size v n xs := by
  refine ⟨h.1, ?_⟩
  rcases h.2 with hn | ⟨g, cap, cur, rfl, hb, hg, rest⟩
  · exact .inl hn
  · refine .inr ⟨g, cap, cur, rfl, hb, hk g _ hg (fun q => ?_) (fun c fz q => ?_), rest⟩
    · obtain rfl : g = D := Option.some.inj q
      rw [hg] at hD
      cases hD
      exact h1 rfl
    · cases q
      exact h2 rfl
end Go.Proofs.YtoabdhcchegchaaDoor

/- Visual at every text (chapter 4). -/
namespace Go.Proofs.YtoabdhcchegchaaDoor
open Go.RowKit Go.Shelf

/-- A cluster's text; its signs as they are to be seen; a line's. -/
def clTx (s : ByteArray) (x : Cl) : ByteArray := s.extract x.loc.toNat (x.loc + x.len).toNat
def visS (s : ByteArray) (Lv : List Int) (p : Int) : List Int := match (clusters s)[p.toNat]? with | some x => seenL (clTx s x) ((Lv[p.toNat]?).getD 0) | none => []
def visL (s : ByteArray) (base : Int) : List Int := (ordN (levN base (clsS s))).flatMap (visS s (levN base (clsS s)))
/-- Does a text have an end of a paragraph? -/
def hasNl (s : ByteArray) : Bool := decide (0 ≤ Lib.indexByte s.data.toList 10)
theorem encL_app (a b : List Int) : encL (a ++ b) = encL a ++ encL b := by simp [encL]
theorem outL_le (c : ByteArray) (lv : Int) : ∀ f p, (outL c lv f p).length ≤ f
  | 0, _ => Nat.le_refl _
  | f + 1, p => by
    rw [outL]
    split
    · have := outL_le c lv f (p + (Utf8.decode c p).2)
      rw [List.length_cons]
      omega
    · exact Nat.zero_le _
theorem seenL_le (c : ByteArray) (lv : Int) : (seenL c lv).length ≤ c.size := outL_le c lv _ _
theorem clTx_le (s : ByteArray) (x : Cl) : (clTx s x).size ≤ s.size := by unfold clTx; rw [ByteArray.size_extract]; omega
theorem visS_le (s : ByteArray) (Lv : List Int) (p : Int) : (visS s Lv p).length ≤ s.size := by
  unfold visS
  split
  · exact Nat.le_trans (seenL_le _ _) (clTx_le _ _)
  · exact Nat.zero_le _
theorem visT_le (s : ByteArray) (Lv : List Int) : ∀ O : List Int, (O.flatMap (visS s Lv)).length ≤ O.length * s.size
  | [] => Nat.zero_le _
  | p :: O => by
    have h1 := visT_le s Lv O
    have h2 := visS_le s Lv p
    rw [List.flatMap_cons, List.length_append, List.length_cons, Nat.succ_mul]
    omega
set_option maxRecDepth 100000 in
set_option maxHeartbeats 4000000 in
theorem visual_bad (s : ByteArray) (b : Int) (hb : b ≠ 0 ∧ b ≠ 1) (w : World) : Calls Tryd.prog 24 #[.string s, .int .i64 b] w fun e w' => e = .returned (.tuple #[.string ⟨#[]⟩, .int .i64 1]) ∧ w' = w := by
  have HL := hideB (levels_bad s b hb w)
  clear hb
  go_enter Tryd.func24, Tryd.ntmps24
  go_wp2_with fail
  refine HL.out.mono ?_
  rintro e w1 ⟨rfl, rfl⟩
  clear HL
  go_wp2_with fail
  first | exact ⟨rfl, rfl⟩ | (go_ret3; exact ⟨rfl, rfl⟩) | (refine bodyPost_ret (v := .tuple #[.string ⟨#[]⟩, .int .i64 1]) (by simp [results, Tryd.results24, go_sem]) rfl ?_; exact ⟨rfl, rfl⟩)
set_option maxRecDepth 100000 in
set_option maxHeartbeats 4000000 in
theorem visual_any (s : ByteArray) (hs : s.size ≤ 1048576) (base : Int) (hb : base = 0 ∨ base = 1) (N : Nat) (w : World) (hT : Tabs N w) (hU : ∀ W, Below w.heap.size w W → Lib.Utf8Tabs 0 1 W) :
    Calls Tryd.prog 24 #[.string s, .int .i64 base] w fun e w' => e = .returned (if hasNl s = true then .tuple #[.string ⟨#[]⟩, .int .i64 24] else .tuple #[.string ⟨(encL (visL s base)).toArray⟩, .int .i64 0]) ∧ Below w.heap.size w w' := by
  have HL := hideB (levels_any s hs base hb N w hT hU)
  have hlen : (clsS s).length = (clusters s).length := by unfold clsS; rw [List.length_map]
  have hln : (clusters s).length ≤ 1048577 := by have := clusters_length s; omega
  have hbd := levN_b hb (clsS s) (by omega)
  have hll := levN_len base (clsS s)
  have HNl := hideB (fun (W : World) => has_rune s 10 W (by omega) (by omega))
  have HNe : Hid (hasNl s = decide (0 ≤ Lib.indexByte s.data.toList (10 : Int).toNat.toUInt8)) := hideB rfl
  obtain ⟨nl, hnl⟩ : ∃ nl, hasNl s = nl := ⟨_, rfl⟩
  rw [← HNe.out, hnl] at HNl
  rw [hnl]
  have HV : Hid (visL s base = (ordN (levN base (clsS s))).flatMap (visS s (levN base (clsS s)))) := hideB rfl
  rw [hlen] at HL hll
  obtain ⟨n, hn⟩ : ∃ n, (clusters s).length = n := ⟨_, rfl⟩
  have HN := hideB hn
  generalize levN base (clsS s) = Lv at *
  rw [hn] at HL hln hll
  have HCol := hideB (fun (W : World) (hW : Below w.heap.size w W) (bx : Nat) (hc : W.cell? ⟨bx, 0, none⟩ = some (.string s)) (hbx : bx < W.heap.size) => collect_any s hs bx N W (hT.below hW) hc hbx)
  rw [hn] at HCol
  have HO := hideB (fun (oa : Option Addr) (ca : Nat) (W : World) (hr : RdJ W oa Lv) => order_any Lv oa ca (by omega) W hr)
  rw [hll] at HO
  have HB := hideB (And.intro hbd hll)
  clear hT hU hlen hbd hnl hn hll HNe
  go_enter Tryd.func24, Tryd.ntmps24
  go_wp2_with fail
  refine HL.out.mono ?_
  rintro e w1 ⟨v, rfl, ho1, hb1⟩
  obtain ⟨oa, ca, rfl⟩ : ∃ o c, v = .slice o n c := by
    rcases own_formB ho1 with ⟨e, rfl⟩ | ⟨g, cap, e⟩
    · exact ⟨none, 0, by rw [e]⟩
    · exact ⟨_, cap, e⟩
  have H1 := hideB (And.intro ho1 hb1)
  clear ho1 hb1 HL
  go_wp2_with fail
  refine (HNl.out w1).mono ?_
  rintro e w2 ⟨rfl, rfl⟩
  clear HNl
  cases nl with
  | true =>
    go_wp2_with fail
    first | exact ⟨rfl, H1.out.2⟩ | (go_ret3; exact ⟨rfl, H1.out.2⟩) | (refine bodyPost_ret (v := .tuple #[.string ⟨#[]⟩, .int .i64 24]) (by simp [results, Tryd.results24, go_sem]) rfl ?_; exact ⟨rfl, H1.out.2⟩)
  | false =>
    go_wp2_with fail
    refine (clusters_mk s w2).mono ?_
    rintro e w3 ⟨rfl, rfl⟩
    have hbc : Below w.heap.size w (w2.alloc (.cells #[.string s] 9)) := bupB H1.out.2 (bel1B _ _)
    have HC := hideB (HCol.out (w2.alloc (.cells #[.string s] 9)) hbc w2.heap.size (Boxed.new w2 9 (.string s)).cell (by simp))
    have HB3 := hideB hbc
    clear hbc HCol
    go_wp2_with fail
    refine HC.out.mono ?_
    rintro e w4 ⟨vc, rfl, ho4, hb4⟩
    obtain ⟨oc, cc, rfl⟩ : ∃ o c, vc = .slice o n c := by
      rcases ho4.2 with ⟨rfl, h0⟩ | ⟨g, cap, cur, rfl, _⟩
      · exact ⟨none, 0, by rw [h0]⟩
      · exact ⟨_, cap, rfl⟩
    have H4 : Hid (w4.ownsRow w.heap.size 58 5 (.slice oc n cc) n (flatC (clusters s)) ∧ w4.ownsRow w.heap.size 3 1 (.slice oa n ca) n (flatJ Lv) ∧ Below w.heap.size w w4) := hideB ⟨ownsRow_from ho4 HB3.out.size, own_keepB (own_keepB H1.out.1 (bel1B _ _)) hb4, bupB HB3.out hb4⟩
    clear ho4 hb4 HC H1 HB3
    go_upto_region 8 with fail
    obtain ⟨w5, hw5⟩ : ∃ w5, w4.alloc (.cells #[.pointer none, .slice none 0 0] 65) = w5 := ⟨_, rfl⟩
    have b5 : Below w4.heap.size w4 w5 := by rw [← hw5]; exact bel1B _ _
    have z5 : w5.heap.size = w4.heap.size + 1 := by rw [← hw5, World.size_alloc]
    have x5 : w5.heap[w4.heap.size]? = some (.cells #[.pointer none, .slice none 0 0] 65) := by rw [← hw5]; exact World.alloc_heap_new _ _
    have i5 : Lib.IsBuilderF 65 5 w4.heap.size w4.heap.size (Lib.byteCells []) w5 := by rw [← hw5]; exact Lib.IsBuilderF.of (Lib.fresh_isBuilder _ _ w4)
    rw [hw5]
    have H5 := hideB (And.intro (own_keepB H4.out.1 b5) (And.intro (own_keepB H4.out.2.1 b5) (And.intro (bupB H4.out.2.2 b5) (And.intro z5 (And.intro x5 i5)))))
    have hr5 : RdJ w5 oa Lv := fun k x hx => by
      have hk : k < n := by have := (List.getElem?_eq_some_iff.1 hx).1; have := HB.out.2; omega
      rcases own_formB H5.out.2.1 with ⟨e, _⟩ | ⟨g, cap, e⟩
      · omega
      · cases e
        have h2 := H5.out.2.1.cellAt k (by omega)
        rw [flatJ_get hx] at h2
        exact ⟨g, 0, rfl, by rw [Nat.zero_add]; exact h2⟩
    have HOr := hideB (HO.out oa ca w5 hr5)
    have hz4 := H4.out.2.2.size
    clear hw5 b5 z5 x5 i5 hr5 HO H4
    go_wp2_with fail
    refine HOr.out.mono ?_
    rintro e w6 ⟨vo, rfl, ho6, hb6⟩
    obtain ⟨oo, co, rfl⟩ : ∃ o c, vo = .slice o n c := by
      rcases own_formB ho6 with ⟨e, rfl⟩ | ⟨g, cap, e⟩
      · exact ⟨none, 0, by rw [e]⟩
      · exact ⟨_, cap, e⟩
    obtain ⟨D, hD⟩ : ∃ D, w4.heap.size = D := ⟨_, rfl⟩
    rw [hD] at H5 hz4 ⊢
    have hDw : w.heap.size ≤ D := by omega
    have H6 := hideB (And.intro ho6 (And.intro (own_keepB H5.out.1 hb6) (And.intro (own_keepB H5.out.2.1 hb6) (And.intro (bupB H5.out.2.2.1 hb6) (And.intro ((hb6.block D (by have := H5.out.2.2.2.1; omega)).trans H5.out.2.2.2.2.1) (And.intro (isB_below H5.out.2.2.2.2.2 hb6) (by have := hb6.size; have := H5.out.2.2.2.1; omega : D < w6.heap.size)))))))
    clear ho6 hb6 HOr hD H5
    go_wp2_with fail
    go_loopw [30] (fun iv wr => ∃ (i : Nat), iv = .int .i64 (i : Nat) ∧ i ≤ n ∧ Lib.IsBuilderF 65 5 D D (Lib.byteCells (encL (((ordN Lv).take i).flatMap (visS s Lv)))) wr ∧ Lib.OthersKept 5 (some D) w6 wr ∧ Below D w6 wr) (fun iv _ => n - (intOf iv).toNat)
    case atStart => exact ⟨0, rfl, Nat.zero_le _, H6.out.2.2.2.2.2.1, Lib.OthersKept.refl _ _ _, Below.refl _ _⟩
    case round =>
      obtain ⟨i, rfl, hin, hI, hok, hbl⟩ := hrel
      obtain ⟨wq, rfl⟩ : ∃ wq, wq = wr := ⟨_, rfl⟩
      obtain ⟨q1, q2, q3, q4, q5, q6, q7⟩ := H6.out
      by_cases hlt : i < n
      · have hp1 := own_others q1 hok q5 (by decide) (by decide)
        have hp2 := own_others q2 hok q5 (by decide) (by decide)
        have hp3 := own_others q3 hok q5 (by decide) (by decide)
        obtain ⟨x, hx⟩ : ∃ x, (ordN Lv)[i]? = some x := ⟨_, List.getElem?_eq_getElem (by rw [ordN_len, HB.out.2]; exact hlt)⟩
        have hxb := idL_mem ((ordN_perm Lv).mem_iff.1 (List.mem_of_getElem? hx))
        rw [HB.out.2] at hxb
        obtain ⟨p, rfl⟩ : ∃ p : Nat, x = (p : Int) := ⟨x.toNat, by omega⟩
        have hpn : p < n := by omega
        obtain ⟨c, hc⟩ : ∃ c, (clusters s)[p]? = some c := ⟨_, List.getElem?_eq_getElem (by rw [HN.out]; exact hpn)⟩
        obtain ⟨lv, hlv⟩ : ∃ l, Lv[p]? = some l := ⟨_, List.getElem?_eq_getElem (by rw [HB.out.2]; exact hpn)⟩
        have hlb := HB.out.1 lv (List.mem_of_getElem? hlv)
        obtain ⟨go, co2, e2⟩ : ∃ g cap2, Value.slice oo n co = .slice (some ⟨g, 0, none⟩) n cap2 := by
          rcases own_formB hp1 with ⟨e, _⟩ | ⟨g, cap, e⟩
          · omega
          · exact ⟨g, cap, e⟩
        cases e2
        obtain ⟨gl, cl2, e3⟩ : ∃ g cap2, Value.slice oa n ca = .slice (some ⟨g, 0, none⟩) n cap2 := by
          rcases own_formB hp3 with ⟨e, _⟩ | ⟨g, cap, e⟩
          · omega
          · exact ⟨g, cap, e⟩
        cases e3
        obtain ⟨gc, cc2, e4⟩ : ∃ g cap2, Value.slice oc n cc = .slice (some ⟨g, 0, none⟩) n cap2 := by
          rcases own_formB hp2 with ⟨e, _⟩ | ⟨g, cap, e⟩
          · omega
          · exact ⟨g, cap, e⟩
        cases e4
        have l1 := hp1.cellAt i (by omega)
        rw [flatJ_get hx] at l1
        obtain ⟨f0, f1, f2, f3, f4⟩ := flatC_getB (clusters s) p c hc
        have k0 := hp2.cellAt (p * 5) (by omega)
        have k1 := hp2.cellAt (p * 5 + 1) (by omega)
        have k2 := hp2.cellAt (p * 5 + 2) (by omega)
        have k3 := hp2.cellAt (p * 5 + 3) (by omega)
        have k4 := hp2.cellAt (p * 5 + 4) (by omega)
        rw [f0] at k0
        rw [f1] at k1
        rw [f2] at k2
        rw [f3] at k3
        rw [f4] at k4
        have l3 := hp3.cellAt p (by omega)
        rw [flatJ_get hlv] at l3
        have hci := cl_in s hc
        obtain ⟨xx, hxx⟩ : ∃ X, wq.alloc (.cells #[.int .i64 c.loc, .int .i64 c.len, .int .i64 c.fr, .int .i64 c.to, .int .i64 c.cells] 58) = X := ⟨_, rfl⟩
        have HX := hideB hxx
        have bx : Below wq.heap.size wq xx := by rw [← hxx]; exact bel1B _ _
        have hbx : xx.heap[wq.heap.size]? = some (.cells #[.int .i64 c.loc, .int .i64 c.len, .int .i64 c.fr, .int .i64 c.to, .int .i64 c.cells] 58) := by rw [← hxx]; exact World.alloc_heap_new _ _
        have m0 : xx.cell? ⟨wq.heap.size, 0, none⟩ = some (.int .i64 c.loc) := by simp [World.cell?, hbx]
        have m1 : xx.cell? ⟨wq.heap.size, 1, none⟩ = some (.int .i64 c.len) := by simp [World.cell?, hbx]
        have m2 : xx.cell? ⟨gl, p, none⟩ = some (.int .i64 lv) := by
          have h2 := (own_keepB hp3 bx).cellAt p (by omega)
          rw [flatJ_get hlv] at h2
          exact h2
        have HK : Hid (∀ W, Lib.OthersKept 5 (some D) xx W → W.cell? ⟨wq.heap.size, 0, none⟩ = some (.int .i64 c.loc) ∧ W.cell? ⟨wq.heap.size, 1, none⟩ = some (.int .i64 c.len) ∧ W.cell? ⟨gl, p, none⟩ = some (.int .i64 lv)) := hideB (fun W hW => by
          have hDq : D < wq.heap.size := by have := hbl.size; omega
          have hb := hW _ _ hbx (fun q => by have := Option.some.inj q; omega) (fun c2 fz q => by cases q)
          obtain ⟨cs, hcs⟩ : ∃ cs, wq.heap[D]? = some (.cells cs 65 (0, 0)) := by
            rcases hI with ⟨_, v, hb, _⟩ | ⟨_, v, hb, _⟩
            · exact ⟨_, hb⟩
            · exact ⟨_, hb⟩
          have h2 := (own_others (own_keepB hp3 bx) hW ((bx.block D hDq).trans hcs) (by decide) (by decide)).cellAt p (by omega)
          rw [flatJ_get hlv] at h2
          exact ⟨by simp [World.cell?, hb], by simp [World.cell?, hb], h2⟩)
        have hst : ((ordN Lv).take (i + 1)).flatMap (visS s Lv) = ((ordN Lv).take i).flatMap (visS s Lv) ++ seenL (clTx s c) lv := by
          rw [List.take_add_one, hx, List.flatMap_append]
          congr 1
          show visS s Lv (p : Int) ++ [] = _
          rw [List.append_nil]
          unfold visS
          rw [Int.toNat_natCast, hc, hlv]
          rfl
        have hacl : (encL (((ordN Lv).take i).flatMap (visS s Lv))).length ≤ 10000000000000 := by
          have h1 := encL_le (((ordN Lv).take i).flatMap (visS s Lv))
          have h2 := visT_le s Lv ((ordN Lv).take i)
          have h3 : ((ordN Lv).take i).length ≤ 1048577 := by rw [List.length_take]; omega
          have h4 : ((ordN Lv).take i).length * s.size ≤ 1048577 * 1048576 := Nat.mul_le_mul h3 hs
          omega
        have HW := hideB (wc_any (clTx s c) (Nat.le_trans (clTx_le s c) hs) lv (by omega) D D _ hacl xx.drew (isB_below hI (bx.drew)) (by have := hbl.size; have := bx.size; show D ≤ xx.heap.size; omega))
        have HSt := hideB hst
        have HF := hideB (And.intro hok (And.intro hbl bx))
        have HCl : Hid (clTx s c = s.extract c.loc.toNat (c.loc + c.len).toNat) := hideB rfl
        obtain ⟨lo, hlo⟩ : ∃ lo : Nat, c.loc = (lo : Int) := ⟨c.loc.toNat, by omega⟩
        obtain ⟨le, hle⟩ : ∃ le : Nat, c.len = (le : Int) := ⟨c.len.toNat, by omega⟩
        rw [hlo, hle] at HCl hci HX HK
        rw [hlo] at k0 m0
        rw [hle] at k1 m1
        have hcx : clTx s c = s.extract lo (lo + le) := by
          rw [HCl.out]
          congr 1
        have HW2 : Hid (Calls Tryd.prog 45 #[.pointer (some ⟨D, 0, none⟩), .string (s.extract lo (lo + le)), .int .i64 lv] xx.drew fun e w' => (∃ u, e = .returned u) ∧ Lib.IsBuilderF 65 5 D D (Lib.byteCells (encL (((ordN Lv).take (i + 1)).flatMap (visS s Lv)))) w' ∧ Below D xx.drew w' ∧ Lib.OthersKept 5 (some D) xx.drew w') := hideB (by
          rw [HSt.out, encL_app, ← hcx]
          exact HW.out)
        have di : (i : Int) < (n : Int) := by omega
        have dp : (p : Int) < (n : Int) := by omega
        have d1 : (lo : Int) ≤ (lo : Int) + (le : Int) := by omega
        have d2 : (lo : Int) + (le : Int) ≤ (s.size : Int) := by omega
        have d3 : lo + le ≤ s.size := by omega
        have wl : IntKind.i64.wrap ((lo : Int) + (le : Int)) = (lo : Int) + (le : Int) := IntWalk.i64_in _ ⟨by omega, by omega⟩
        have wk : IntKind.i64.wrap ((i : Int) + 1) = ((i + 1 : Nat) : Int) := by rw [show ((i + 1 : Nat) : Int) = (i : Int) + 1 by omega]; exact IntWalk.i64_in _ ⟨by omega, by omega⟩
        clear hI hok hbl q1 q2 q3 q4 q5 q6 hp1 hp2 hp3 hx hxb hc hlv hlb f0 f1 f2 f3 f4 hxx bx hbx hst hacl HW hlo hle hcx
        go_upto_region 12 with fail
        rw [HX.out]
        clear k0 k1 k2 k3 k4 l1 l3
        go_region_held3 (fun w' => w'.cell? ⟨wq.heap.size, 0, none⟩ = some (.int .i64 (lo : Int)) ∧ w'.cell? ⟨wq.heap.size, 1, none⟩ = some (.int .i64 (le : Int)) ∧ w'.cell? ⟨gl, p, none⟩ = some (.int .i64 lv)) (first | assumption | exact ⟨m0, m1, m2⟩ | (simp only [World.cell?_drewN]; exact ⟨m0, m1, m2⟩)) (first
          | (go_at_call 45; refine HW2.out.mono ?_; rintro e9 w9 ⟨⟨u, rfl⟩, h9, b9, o9⟩; have s9 := HK.out w9 o9))
        have bD : Below D w6 w9 := (HF.out.2.1.trans (HF.out.2.2.mono (by have := HF.out.2.1.size; omega))).trans ((Below.refl D xx).drew.trans b9)
        have oD : Lib.OthersKept 5 (some D) w6 w9 := (HF.out.1.trans (others_below HF.out.2.2)).trans o9
        have HG := hideB (And.intro h9 (And.intro oD bD))
        clear h9 b9 o9 bD oD s9 m0 m1 m2 HW2
        go_wp2_with fail
        go_roundw
        case rel => exact ⟨i + 1, by first | rfl | simp, by omega, HG.out⟩
        case measure => (simp [intOf] <;> omega)
      · obtain rfl : n = i := by omega
        have d2 : ¬ (n : Int) < (n : Int) := by omega
        rw [List.take_of_length_le (by rw [ordN_len, HB.out.2]; exact Nat.le_refl _), ← HV.out] at hI
        have hSt := Any.Builder_String_any_k (ρ := lay169Ren) lay169 ext169 D D (encL (visL s base)) wq hI (by have := hbl.size; omega)
        have HQ := hideB hSt
        have HW := hideB (q4.trans (hbl.mono hDw))
        clear hI hok hbl q1 q2 q3 q4 q5 q6 hSt
        go_wp2_with fail
        refine HQ.out.mono ?_
        rintro e w9 ⟨rfl, -, b9, -⟩
        have HR := hideB (HW.out.trans (b9.mono hDw))
        clear b9 HQ
        go_wp2_with fail
        first | exact ⟨rfl, HR.out⟩ | (go_ret3; exact ⟨rfl, HR.out⟩) | (refine bodyPost_ret (v := .tuple #[.string ⟨(encL (visL s base)).toArray⟩, .int .i64 0]) (by simp [results, Tryd.results24, go_sem]) rfl ?_; exact ⟨rfl, HR.out⟩)
end Go.Proofs.YtoabdhcchegchaaDoor

/- The head of chapter 4's statements. -/
namespace Go.Proofs.YtoabdhcchegchaaDoor
open Go.RowKit Go.Shelf

set_option maxRecDepth 100000 in
set_option maxHeartbeats 2000000 in
theorem same4_any (La Lb : List Int) (oa ob : Option Addr) (ca cb : Nat) (hla : La.length ≤ 17592186044416) (w : World) (ha : RdA w oa La) (hb : RdA w ob Lb) :
    Calls Tryd.prog 16 #[.slice oa La.length ca, .slice ob Lb.length cb] w fun e w' => e = .returned (.bool (decide (La = Lb))) ∧ Below w.heap.size w w' := by
  obtain ⟨n, hn⟩ : ∃ n, La.length = n := ⟨_, rfl⟩
  obtain ⟨m, hm⟩ : ∃ m, Lb.length = m := ⟨_, rfl⟩
  rw [hn] at hla ⊢
  rw [hm]
  obtain ⟨PO, hPO⟩ : ∃ PO : Ending → World → Prop, (fun e w' => e = .returned (.bool (decide (La = Lb))) ∧ Below w.heap.size w w') = PO := ⟨_, rfl⟩
  have HPO := hideB hPO
  rw [hPO]
  have HA := hideB ha
  have HB := hideB hb
  have HN := hideB (And.intro hn hm)
  clear hPO ha hb hn hm
  go_enter Tryd.func16, Tryd.ntmps16
  by_cases hnm : n = m
  · subst hnm
    go_wp2_with fail
    go_loopw [5] (fun iv wr => ∃ i : Nat, iv = .int .i64 (i : Nat) ∧ i ≤ n ∧ Below w.heap.size w wr ∧ Hid (∀ k, k < i → La[k]? = Lb[k]?)) (fun iv _ => n - (intOf iv).toNat)
    case atStart => exact ⟨0, rfl, Nat.zero_le _, Below.refl _ _, hideB (fun k hk => absurd hk (Nat.not_lt_zero _))⟩
    case round =>
      obtain ⟨i, rfl, hin, hbl, HE⟩ := hrel
      obtain ⟨wq, rfl⟩ : ∃ wq, wq = wr := ⟨_, rfl⟩
      by_cases hlt : i < n
      · obtain ⟨x, hx⟩ : ∃ x, La[i]? = some x := ⟨_, List.getElem?_eq_getElem (by rw [HN.out.1]; exact hlt)⟩
        obtain ⟨y, hy⟩ : ∃ y, Lb[i]? = some y := ⟨_, List.getElem?_eq_getElem (by rw [HN.out.2]; exact hlt)⟩
        obtain ⟨ga, fa, rfl, l1⟩ := (HA.out.keep (Below.refl _ _)) i x hx
        obtain ⟨gb, fb, rfl, l2⟩ := (HB.out.keep (Below.refl _ _)) i y hy
        have l1 := (hbl.cell (p := ⟨ga, fa + i, none⟩) (World.block_lt_of_cell? _ _ l1)).trans l1
        have l2 := (hbl.cell (p := ⟨gb, fb + i, none⟩) (World.block_lt_of_cell? _ _ l2)).trans l2
        have di : (i : Int) < (n : Int) := by omega
        have wk : IntKind.i64.wrap ((i : Int) + 1) = ((i + 1 : Nat) : Int) := by rw [show ((i + 1 : Nat) : Int) = (i : Int) + 1 by omega]; exact IntWalk.i64_in _ ⟨by omega, by omega⟩
        have HX := hideB (And.intro hx hy)
        have HBl := hideB hbl
        clear hx hy hbl
        by_cases hxy : x = y
        · subst hxy
          have HE2 : Hid (∀ k, k < i + 1 → La[k]? = Lb[k]?) := hideB (fun k hk => by
            by_cases e : k = i
            · subst e; rw [HX.out.1, HX.out.2]
            · exact HE.out k (by omega))
          go_upto_region 6 with fail
          go_quiet (fail)
          have HB2 := hideB (below_drewN HBl.out nq)
          generalize wq.drewN nq = W at *
          clear l1 l2
          go_wp2_with fail
          go_roundw
          case rel => exact ⟨i + 1, by first | rfl | simp, by omega, HB2.out, HE2⟩
          case measure => (simp [intOf] <;> omega)
        · have HR : Hid (∀ W, Below w.heap.size w W → PO (.returned (.bool false)) W) := hideB (fun W hW => by
            rw [← HPO.out]
            refine ⟨?_, hW⟩
            have : La ≠ Lb := fun e => hxy (by have h1 := HX.out.1; rw [e, HX.out.2] at h1; exact (Option.some.inj h1).symm)
            simp [this])
          have bxy : (x != y) = true := by simp [hxy]
          go_upto_region 6 with fail
          go_quiet (fail)
          have HB2 := hideB (below_drewN HBl.out nq)
          generalize wq.drewN nq = W at *
          clear l1 l2
          go_wp2_with fail
          first | exact HR.out _ HB2.out | (go_ret; exact HR.out _ HB2.out)
      · obtain rfl : n = i := by omega
        have d2 : ¬ (n : Int) < (n : Int) := by omega
        have HR : Hid (PO (.returned (.bool true)) wq) := hideB (by
          rw [← HPO.out]
          refine ⟨?_, hbl⟩
          have : La = Lb := by
            apply List.ext_getElem?
            intro k
            by_cases hk : k < n
            · exact HE.out k hk
            · rw [List.getElem?_eq_none (by rw [HN.out.1]; omega), List.getElem?_eq_none (by rw [HN.out.2]; omega)]
          simp [this])
        clear hbl
        go_wp2_with fail
        first | exact HR.out | (go_ret; exact HR.out)
  · have HR : Hid (PO (.returned (.bool false)) w) := hideB (by
      rw [← HPO.out]
      refine ⟨?_, Below.refl _ _⟩
      have : La ≠ Lb := fun e => hnm (by rw [← HN.out.1, ← HN.out.2, e])
      simp [this])
    have bnm : ((n : Int) != (m : Int)) = true := by simp; omega
    go_wp2_with fail
    first | exact HR.out | (go_ret; exact HR.out)
/-- The head's texts. -/
def hA : ByteArray := ⟨#[97, 98, 215, 144, 215, 145, 99]⟩
def hB4 : ByteArray := ⟨#[40, 215, 144, 41]⟩
def hC4 : ByteArray := ⟨#[215, 144, 97]⟩
theorem hA_l : levN 0 (clsS hA) = [0, 0, 1, 1, 0] := by kernel_rfl
theorem hA_n : (clsS hA).length = 5 := by kernel_rfl
theorem hA_o : ordN [0, 0, 1, 1, 0] = [0, 1, 3, 2, 4] := by kernel_rfl
theorem hB_v : encL (visL hB4 1) = [40, 215, 144, 41] := by kernel_rfl
theorem hB_n : hasNl hB4 = false := by kernel_rfl
theorem hC_b : baseF hC4 0 = 1 := by kernel_rfl
theorem utf8_belowB {g3 g4 : Nat} {A B : World} (h : Lib.Utf8Tabs g3 g4 A) (hb : Below A.heap.size A B) : Lib.Utf8Tabs g3 g4 B :=
  ⟨fun c hc => (hb.cell (p := ⟨g3, c, none⟩) (World.block_lt_of_cell? _ _ (h.1 c hc))).trans (h.1 c hc), fun i hi => ⟨(hb.cell (p := ⟨g4, 2 * i, none⟩) (World.block_lt_of_cell? _ _ (h.2 i hi).1)).trans (h.2 i hi).1, (hb.cell (p := ⟨g4, 2 * i + 1, none⟩) (World.block_lt_of_cell? _ _ (h.2 i hi).2)).trans (h.2 i hi).2⟩⟩
theorem rdj_of {W : World} {o : Option Addr} {n cap base : Nat} {L : List Int} (h : W.ownsRow base 3 1 (.slice o n cap) n (flatJ L)) (hl : L.length = n) : RdJ W o L := fun k x hx => by
  have hk : k < n := by have := (List.getElem?_eq_some_iff.1 hx).1; omega
  rcases own_formB h with ⟨e, _⟩ | ⟨g, cap, e⟩
  · omega
  · cases e
    have h2 := h.cellAt k (by omega)
    rw [flatJ_get hx] at h2
    exact ⟨g, 0, rfl, by rw [Nat.zero_add]; exact h2⟩
theorem rda_new (W : World) (L : List Int) (vs : Array Value) (hv : vs.toList = flatJ L) : RdA (W.alloc (.cells vs 3)) (some ⟨W.heap.size, 0, none⟩) L := fun k x hx => by
  refine ⟨W.heap.size, 0, rfl, ?_⟩
  have hb := World.alloc_heap_new W (.cells vs 3)
  have : vs[0 + k]? = some (.int .i64 x) := by rw [← Array.getElem?_toList, hv, Nat.zero_add]; exact flatJ_get hx
  rw [cell_of_row _ _ _ _ _ _ hb]
  exact this
set_option maxRecDepth 100000 in
set_option maxHeartbeats 4000000 in
theorem head4_any (N : Nat) (w : World) (hT : Tabs N w) (hU : ∀ W, Below w.heap.size w W → Lib.Utf8Tabs 0 1 W) :
    Calls Tryd.prog 9 #[] w fun e w' => e = .returned (.bool true) ∧ Below w.heap.size w w' := by
  have hL := levels_any hA (by decide) 0 (.inl rfl) N w hT hU
  rw [hA_n, hA_l] at hL
  unfold hA at hL
  have HL := hideB hL
  have HV : Hid (∀ W, Below w.heap.size w W → Calls Tryd.prog 24 #[.string ⟨#[40, 215, 144, 41]⟩, .int .i64 1] W fun e w' => e = .returned (.tuple #[.string ⟨#[40, 215, 144, 41]⟩, .int .i64 0]) ∧ Below W.heap.size W w') := hideB (fun W hW => by
    have := visual_any hB4 (by decide) 1 (.inr rfl) N W (hT.below hW) (fun V hV => hU V (hW.trans (hV.mono hW.size)))
    rw [hB_n, hB_v] at this
    exact this)
  have HBs : Hid (∀ W, Below w.heap.size w W → Calls Tryd.prog 25 #[.string ⟨#[215, 144, 97]⟩, .int .i64 0] W fun e w' => e = .returned (.int .i64 1) ∧ Below W.heap.size W w') := hideB (fun W hW => by
    have := base_any hC4 (by decide) 0 N W (hT.below hW) (fun V hV => hU V (hW.trans (hV.mono hW.size)))
    rw [hC_b] at this
    exact this)
  clear hL hT hU
  go_enter Tryd.func9, Tryd.ntmps9
  go_wp2_with fail
  refine HL.out.mono ?_
  rintro e w1 ⟨v, rfl, ho1, hb1⟩
  obtain ⟨oa, ca, rfl⟩ : ∃ o c, v = .slice o 5 c := by
    rcases own_formB ho1 with ⟨e, _⟩ | ⟨g, cap, e⟩
    · omega
    · exact ⟨_, cap, e⟩
  have H1 := hideB (And.intro ho1 hb1)
  clear ho1 hb1 HL
  go_wp2_with fail
  refine (HV.out w1 H1.out.2).mono ?_
  rintro e w2 ⟨rfl, hb2⟩
  have H2 := hideB (And.intro (own_keepB H1.out.1 hb2) (bupB H1.out.2 hb2))
  clear hb2 H1 HV
  go_wp2_with fail
  refine (same4_any [0, 0, 1, 1, 0] [0, 0, 1, 1, 0] oa _ ca 5 (by decide) _ ((RdA.of_own H2.out.1 rfl).keep (bel1B _ _)) (rda_new w2 [0, 0, 1, 1, 0] _ rfl)).mono ?_
  rintro e w3 ⟨rfl, hb3⟩
  have H3 := hideB (And.intro (own_keepB (own_keepB H2.out.1 (bel1B _ _)) hb3) (bupB (bupB H2.out.2 (bel1B _ _)) hb3))
  clear hb3 H2
  simp only [decide_true]
  go_wp2_with fail
  have hO := order_any [0, 0, 1, 1, 0] oa ca (by decide) w3 (rdj_of H3.out.1 rfl)
  rw [hA_o] at hO
  refine Calls.mono (show Calls Tryd.prog 15 #[.slice oa 5 ca] w3 _ from hO) ?_
  rintro e w4 ⟨vo, rfl, ho4, hb4⟩
  obtain ⟨oo, co, rfl⟩ : ∃ o c, vo = .slice o 5 c := by
    rcases own_formB ho4 with ⟨e, _⟩ | ⟨g, cap, e⟩
    · simp at e
    · exact ⟨_, cap, e⟩
  have H4 : Hid (w4.ownsRow w3.heap.size 3 1 (.slice oo 5 co) 5 (flatJ [0, 1, 3, 2, 4]) ∧ Below w.heap.size w w4) := hideB (And.intro ho4 (bupB H3.out.2 hb4))
  clear ho4 hb4 hO H3
  go_wp2_with fail
  refine (same4_any [0, 1, 3, 2, 4] [0, 1, 3, 2, 4] oo _ co 5 (by decide) _ ((RdA.of_own H4.out.1 rfl).keep (bel1B _ _)) (rda_new w4 [0, 1, 3, 2, 4] _ rfl)).mono ?_
  rintro e w5 ⟨rfl, hb5⟩
  have H5 := hideB (bupB (bupB H4.out.2 (bel1B _ _)) hb5)
  clear hb5 H4
  simp only [decide_true]
  go_wp2_with fail
  refine (HBs.out w5 H5.out).mono ?_
  rintro e w6 ⟨rfl, hb6⟩
  have H6 := hideB (bupB H5.out hb6)
  clear hb6 H5 HBs
  go_wp2_with fail
  first | exact ⟨rfl, H6.out⟩ | (go_ret; exact ⟨rfl, H6.out⟩)
end Go.Proofs.YtoabdhcchegchaaDoor

/- Chapter 4's reference: Order. -/
namespace Go.Proofs.YtoabdhcchegchaaDoor
open Go.RowKit Go.Shelf

theorem endAt_self {p : Int → Bool} {C : List Int} {i : Nat} {x : Int} (h : C[i]? = some x) (hp : p x = false) : endAt p C i = i := by
  obtain ⟨h1, e⟩ := List.getElem?_eq_some_iff.1 h
  unfold endAt
  rw [List.drop_eq_getElem_cons h1, e, List.takeWhile_cons, hp]
  simp
theorem strF_stop (p : Int → Bool) (C : List Int) (f i : Nat) (hi : i ≤ C.length) : strF p C (f + 1) (endAt p C i) = strF p C f (endAt p C i + 1) := by
  have hle := endAt_le p C i hi
  generalize hj : endAt p C i = j at *
  rw [strF]
  by_cases h : j < C.length
  · obtain ⟨x, hx⟩ : ∃ x, C[j]? = some x := ⟨_, List.getElem?_eq_getElem h⟩
    have hs : p x = false := endAt_stop (p := p) (i := i) (by rw [hj]; exact hx)
    have he := endAt_self hx hs
    rw [if_pos h, he, if_neg (by omega)]
    rfl
  · rw [if_neg h]
    cases f with
    | zero => rfl
    | succ f => rw [strF, if_neg (by omega)]
/-- A part that is turned round, from both ends inward. -/
def swpC (L : List Int) (i k a : Nat) : List Int := L.mapIdx fun q x => if (i ≤ q ∧ q < a) ∨ (i + k - 1 - a < q ∧ q < k) then (L[i + k - 1 - q]?).getD 0 else x
theorem swpC_len (L : List Int) (i k a : Nat) : (swpC L i k a).length = L.length := List.length_mapIdx
theorem swpC_at {L : List Int} {i k a q : Nat} : (swpC L i k a)[q]? = (L[q]?).map fun x => if (i ≤ q ∧ q < a) ∨ (i + k - 1 - a < q ∧ q < k) then (L[i + k - 1 - q]?).getD 0 else x := by unfold swpC; rw [List.getElem?_mapIdx]
theorem swpC_0 {L : List Int} {i k : Nat} (h : i ≤ k) : swpC L i k i = L := by
  apply List.ext_getElem?
  intro q
  rw [swpC_at]
  cases L[q]? with
  | none => rfl
  | some x =>
    show some (if _ then _ else x) = some x
    rw [if_neg (by omega)]
theorem swpC_step {L : List Int} {i k a : Nat} (h1 : i ≤ a) (h2 : a < i + k - 1 - a) (hk : k ≤ L.length) {x y : Int} (hx : L[a]? = some x) (hy : L[i + k - 1 - a]? = some y) : swpC L i k (a + 1) = ((swpC L i k a).set a y).set (i + k - 1 - a) x := by
  apply List.ext_getElem?
  intro q
  rw [swpC_at, List.getElem?_set, List.length_set, List.getElem?_set, swpC_len, swpC_at]
  by_cases hq1 : i + k - 1 - a = q
  · rw [if_pos hq1, if_pos (by omega)]
    subst hq1
    rw [hy]
    show some (if _ then _ else y) = some x
    rw [if_pos (by omega), show i + k - 1 - (i + k - 1 - a) = a by omega, hx]
    rfl
  · rw [if_neg hq1]
    by_cases hq2 : a = q
    · subst hq2
      rw [if_pos rfl, if_pos (by omega), hx]
      show some (if _ then _ else x) = some y
      rw [if_pos (by omega), hy]
      rfl
    · rw [if_neg hq2]
      cases L[q]? with
      | none => rfl
      | some z =>
        show some (if _ then _ else z) = some (if _ then _ else z)
        have e : ((i ≤ q ∧ q < a + 1) ∨ (i + k - 1 - (a + 1) < q ∧ q < k)) = ((i ≤ q ∧ q < a) ∨ (i + k - 1 - a < q ∧ q < k)) := by apply propext; omega
        simp only [e]
theorem swpC_end {L : List Int} {i k a : Nat} (h : i < k) (hk : k ≤ L.length) (h2 : ¬ a < i + k - 1 - a) (h3 : a ≤ k) : swpC L i k a = revC L (i, k) := by
  apply List.ext_getElem?
  intro q
  rw [swpC_at, revC_get (by omega) hk]
  rcases Nat.lt_or_ge q L.length with hq | hq
  · rw [List.getElem?_eq_getElem hq]
    by_cases hin : i ≤ q ∧ q < k
    · rw [if_pos hin]
      have hr : L[i + k - 1 - q]? = some (L[i + k - 1 - q]'(by omega)) := List.getElem?_eq_getElem (by omega)
      rw [hr]
      show some (if _ then _ else _) = some _
      by_cases hc : (i ≤ q ∧ q < a) ∨ (i + k - 1 - a < q ∧ q < k)
      · rw [if_pos hc]
        rfl
      · rw [if_neg hc]
        congr 2
        omega
    · rw [if_neg hin]
      show some (if _ then _ else _) = some _
      rw [if_neg (by omega)]
  · rw [List.getElem?_eq_none hq, if_neg (by omega)]
    rfl
theorem mx_plain {L : List Int} (h : ∀ x ∈ L, 0 ≤ x ∧ x ≤ 255) {i : Nat} {x : Int} (hx : L[i]? = some x) : mxL (L.take (i + 1)) = max (mxL (L.take i)) x := by
  rw [List.take_add_one, hx]
  show mxL (L.take i ++ [x]) = _
  rw [mxL_snoc]
  have := h x (List.mem_of_getElem? hx)
  unfold mxS
  omega
theorem idL_snoc (i : Nat) : idL (i + 1) = idL i ++ [(i : Int)] := by unfold idL; rw [List.range_succ, List.map_append]; rfl
set_option maxRecDepth 100000 in
set_option maxHeartbeats 4000000 in
theorem rorder_any (Lv : List Int) (hlv : ∀ x ∈ Lv, 0 ≤ x ∧ x ≤ 255) (oa : Option Addr) (ca : Nat) (hn : Lv.length ≤ 17592186044416) (w : World) (hr : RdA w oa Lv) :
    Calls Tryd.prog 17 #[.slice oa Lv.length ca] w fun e w' => ∃ v, e = .returned v ∧ w'.ownsRow w.heap.size 3 1 v Lv.length (flatJ (ordN Lv)) ∧ Below w.heap.size w w' := by
  obtain ⟨i0, hi0, hz0, hz1, hz2⟩ := info_partsC infoJ
  obtain ⟨n, hn'⟩ : ∃ n, Lv.length = n := ⟨_, rfl⟩
  have HN := hideB hn'
  rw [hn'] at hn ⊢
  obtain ⟨PO, hPO⟩ : ∃ PO : Ending → World → Prop, (fun e w' => ∃ v, e = .returned v ∧ w'.ownsRow w.heap.size 3 1 v n (flatJ (ordN Lv)) ∧ Below w.heap.size w w') = PO := ⟨_, rfl⟩
  have HP := hideB hPO
  rw [hPO]
  have HRd := hideB (fun (W : World) (hW : Below w.heap.size w W) => hr.keep hW)
  have HI := hideB (And.intro hi0 (And.intro hz0 (And.intro hz1 hz2)))
  have HLv := hideB hlv
  clear hPO hn' hr hi0 hz0 hz1 hz2 hlv
  go_enter Tryd.func17, Tryd.ntmps17
  go_wp2_with fail
  go_loopw [3, 4, 5] (fun v3 v4 v5 wr => ∃ i : Nat, v5 = .int .i64 (i : Nat) ∧ i ≤ n ∧ v4 = .int .i64 (mxL (Lv.take i)) ∧ wr.ownsRow w.heap.size 3 1 v3 i (flatJ (idL i)) ∧ Below w.heap.size w wr) (fun _ _ v5 _ => n - (intOf v5).toNat)
  case atStart => exact ⟨0, rfl, Nat.zero_le _, rfl, World.ownsRow_nil _ _ _ _, Below.refl _ _⟩
  case round =>
    obtain ⟨i, rfl, hin, rfl, hown, hbl⟩ := hrel
    obtain ⟨wq, rfl⟩ : ∃ wq, wq = wr := ⟨_, rfl⟩
    by_cases hlt : i < n
    · have di : (i : Int) < (n : Int) := by omega
      obtain ⟨x, hx⟩ : ∃ x, Lv[i]? = some x := ⟨_, List.getElem?_eq_getElem (by rw [HN.out]; omega)⟩
      have HX := hideB (mx_plain HLv.out hx)
      have hsz := hbl.size
      have HK := hideB (fun (W : World) (hW : Below w.heap.size w W) => HRd.out W hW i x hx)
      obtain ⟨g, off, rfl, l0⟩ := HRd.out w (Below.refl _ _) i x hx
      have hgw : g < w.heap.size := World.block_lt_of_cell? _ _ l0
      have wk : IntKind.i64.wrap ((i : Int) + 1) = ((i + 1 : Nat) : Int) := by rw [show ((i + 1 : Nat) : Int) = (i : Int) + 1 by omega]; exact IntWalk.i64_in _ ⟨by omega, by omega⟩
      obtain ⟨ov, cv, rfl⟩ : ∃ o c, u3 = .slice o i c := by
        rcases own_formB hown with ⟨e, e2⟩ | ⟨g, cap, e⟩
        · exact ⟨none, 0, by rw [e, e2]⟩
        · exact ⟨_, cap, e⟩
      generalize mxL (Lv.take i) = m0 at *
      have HO := hideB (And.intro hown hbl)
      have HL0 := hideB l0
      clear hx l0 hbl HK
      go_wp2_with (at_builtin; refine wpList_append_lies _ rfl _ _ 31 rfl w.heap.size 3 i0 _ 1 8 Tryd.underlying31 HI.out.1 HI.out.2.1 HI.out.2.2.1 HI.out.2.2.2 rfl (by decide) (.slice ov i cv) i (flatJ (idL i)) rfl (hown.alloc _) ⟨wq.heap.size, 0, none⟩ 1 1 [.int .i64 (i : Int)] rfl rfl (World.news_of_block (cs := #[.int .i64 (i : Int)]) (t := 3) (fr := (0, 0)) (World.alloc_heap_new wq _)) (by simp [Value.oneCell']) (by omega) (by unfold maxLen; omega) (by omega) (by simp; omega) (wq.heap.size + 1) (by simp) ?_; intro g1 cap1 w1 hown1 hgrow1 hat1 hlt1; have hb1 : Below w.heap.size w w1 := Below.grown (bupB HO.out.2 (bel1B wq (.cells #[.int .i64 (i : Int)] 3))) hgrow1 (by simp; omega) (fun k e => (HO.out.1.lt k e).1); have l1 := (hb1.cell (p := ⟨g, off + i, none⟩) hgw).trans HL0.out)
      go_roundw
      case rel => exact ⟨i + 1, by first | rfl | simp, by omega, by rw [HX.out], by rw [idL_snoc, flatJ_snoc]; exact hown1, hb1⟩
      case measure => (simp [intOf] <;> omega)
    · obtain rfl : n = i := by omega
      have d2 : ¬ (n : Int) < (n : Int) := by omega
      rw [List.take_of_length_le (by rw [HN.out]; exact Nat.le_refl _)]
      have hmx := mxL_le Lv
      obtain ⟨top, htop⟩ : ∃ top : Nat, mxL Lv = (top : Int) := ⟨(mxL Lv).toNat, by omega⟩
      rw [htop]
      have HT0 : Hid (ordF Lv top (idL n) = ordN Lv) := hideB (by unfold ordN; rw [htop, HN.out]; rfl)
      have htb : top ≤ 255 := by omega
      obtain ⟨ov, cv, rfl⟩ : ∃ o c, u3 = .slice o n c := by
        rcases own_formB hown with ⟨e, e2⟩ | ⟨g, cap, e⟩
        · exact ⟨none, 0, by rw [e, e2]⟩
        · exact ⟨_, cap, e⟩
      have HO := hideB (And.intro hown hbl)
      clear hown hbl hmx htop
      go_wp2_with fail
      go_loopw [6] (fun v6 wr => ∃ (e : Nat) (C : List Int), v6 = .int .i64 (e : Nat) ∧ e ≤ 255 ∧ wr.ownsRow w.heap.size 3 1 (.slice ov n cv) n (flatJ C) ∧ C.length = n ∧ (∀ x ∈ C, 0 ≤ x ∧ x < (n : Int)) ∧ Hid (ordF Lv e C = ordN Lv) ∧ Below w.heap.size w wr) (fun v6 _ => (intOf v6).toNat)
      case atStart => exact ⟨top, idL n, rfl, htb, HO.out.1, idL_len n, fun x hx => idL_mem hx, HT0, HO.out.2⟩
      case round =>
        obtain ⟨e, C, rfl, heb, hown, hcl, hcb, HE, hbl⟩ := hrel
        obtain ⟨wz, rfl⟩ : ∃ wz, wz = wr := ⟨_, rfl⟩
        cases e with
        | zero =>
          have hC : C = ordN Lv := HE.out
          have HQ : Hid (PO (.returned (.slice ov n cv)) wz) := hideB (by rw [← HP.out]; exact ⟨_, rfl, by rw [← hC]; exact hown, hbl⟩)
          clear hown hbl HE hC
          go_wp2_with fail
          first | exact HQ.out | (go_ret; exact HQ.out)
        | succ e =>
          obtain ⟨level, hlev⟩ : ∃ level : Int, ((e + 1 : Nat) : Int) = level := ⟨_, rfl⟩
          have HLev := hideB hlev
          have hlp : 0 < level ∧ level ≤ 255 := by omega
          rw [hlev]
          have HE2 : Hid (ordF Lv e (ordS Lv C level) = ordN Lv) := hideB (by
            have h9 := HE.out
            rw [ordF, show ((e : Nat) : Int) + 1 = level by omega] at h9
            exact h9)
          have wl : IntKind.i64.wrap (level - 1) = ((e : Nat) : Int) := by rw [show level - 1 = ((e : Nat) : Int) by omega]; exact IntWalk.i64_in _ ⟨by omega, by omega⟩
          have hlp1 := hlp.1
          obtain ⟨p, hp⟩ : ∃ p, lvlP Lv level = p := ⟨_, rfl⟩
          have HPp : Hid (∀ c : Nat, p (c : Int) = decide (level ≤ (Lv[c]?).getD 0)) := hideB (fun c => by rw [← hp]; rfl)
          have HS : Hid ((strF p C (n + 1) 0).foldl revC C = ordS Lv C level) := hideB (by unfold ordS; rw [hp, hcl])
          clear hp HE hlev
          go_wp2_with fail
          go_loopw [7] (fun v7 wr => ∃ (i f : Nat) (L : List Int), v7 = .int .i64 (i : Nat) ∧ i ≤ n ∧ n < f + i ∧ L.length = n ∧ Hid (∀ k, i ≤ k → L[k]? = C[k]?) ∧ Hid (∀ x ∈ L, 0 ≤ x ∧ x < (n : Int)) ∧ Hid ((strF p C f i).foldl revC L = ordS Lv C level) ∧ wr.ownsRow w.heap.size 3 1 (.slice ov n cv) n (flatJ L) ∧ Below w.heap.size w wr) (fun v7 _ => n - (intOf v7).toNat)
          case atStart => exact ⟨0, n + 1, C, rfl, Nat.zero_le _, by omega, hcl, hideB (fun _ _ => rfl), hideB hcb, HS, hown, hbl⟩
          case round =>
            obtain ⟨i, f, L, rfl, hin2, hfu, hll, HFar, HLb, HSt, hown2, hbl2⟩ := hrel
            obtain ⟨wy, rfl⟩ : ∃ wy, wy = wr := ⟨_, rfl⟩
            by_cases hlt2 : i < n
            · have di : (i : Int) < (n : Int) := by omega
              have HY := hideB (And.intro hown2 hbl2)
              clear hown2 hbl2
              have wi : IntKind.i64.wrap ((i : Int) + 1) = ((i + 1 : Nat) : Int) := by rw [show ((i + 1 : Nat) : Int) = (i : Int) + 1 by omega]; exact IntWalk.i64_in _ ⟨by omega, by omega⟩
              go_upto_region 15 with fail
              rename_i K hK
              obtain ⟨j, hj⟩ : ∃ j, endAt p C i = j := ⟨_, rfl⟩
              have hij : i ≤ j := by rw [← hj]; exact endAt_ge p C i
              have hjn : j ≤ n := by rw [← hj, ← hcl]; exact endAt_le p C i (by omega)
              obtain ⟨f', rfl⟩ : ∃ f', f = f' + 1 := ⟨f - 1, by omega⟩
              have HJ := hideB hj
              have HT : Hid (∀ (v40 v41 v42 v43 v44 v45 v46 v47 v48 v49 v50 v51 v52 v53 v54 v55 v56 : Value), K ⟨#[.slice oa n ca, undef, .slice none 0 0, .slice ov n cv, .int .i64 (top : Nat), .int .i64 (n : Nat), .int .i64 level, .int .i64 (i : Nat), .int .i64 (j : Nat), u9, u10, u11, .int .i64 (n : Nat), .slice oa n ca, .int .i64 (n : Nat), .bool false, u16, u17, u18, u19, u20, u21, u22, u23, u24, u25, u26, u27, .int .i64 (top : Nat), .int .i64 level, .bool true, u31, u32, .int .i64 (i : Nat), .slice ov n cv, .int .i64 (n : Nat), .bool true, u37, u38, .int .i64 (i : Nat), v40, v41, v42, v43, v44, v45, v46, v47, v48, v49, v50, v51, v52, v53, v54, v55, v56, u57, u58, u59, u60, u61, u62, u63, u64, u65, u66, u67, u68, u69, u70, u71, u72, u73, u74, u75, u76, u77, u78, u79, u80, u81, u82, u83, u84, u85, u86, undef], []⟩ wy) := hideB (by
                intro v40 v41 v42 v43 v44 v45 v46 v47 v48 v49 v50 v51 v52 v53 v54 v55 v56
                have wj : IntKind.i64.wrap ((j : Int) - 1) = (j : Int) - 1 := IntWalk.i64_in _ ⟨by omega, by omega⟩
                have hsF := HSt.out
                rw [strF, if_pos (by omega), hj] at hsF
                by_cases hlt3 : i < j
                · rw [if_pos hlt3] at hsF
                  have dij : (i : Int) < (j : Int) := by omega
                  have hsG : (strF p C (f' + 1) j).foldl revC (revC L (i, j)) = ordS Lv C level := by
                    rw [← hj, strF_stop p C f' i (by omega), hj]
                    exact hsF
                  have HG := hideB hsG
                  clear hsF hsG
                  refine hK _ _ ?_
                  go_wp2_with fail
                  go_loopw [9, 10] (fun v9 v10 wr => ∃ a : Nat, v9 = .int .i64 (a : Nat) ∧ v10 = .int .i64 ((i : Int) + j - 1 - a) ∧ i ≤ a ∧ a ≤ j ∧ wr.ownsRow w.heap.size 3 1 (.slice ov n cv) n (flatJ (swpC L i j a)) ∧ Below w.heap.size w wr) (fun v9 _ _ => j - (intOf v9).toNat)
                  case atStart => exact ⟨i, rfl, by first | rfl | (congr 1; omega), Nat.le_refl _, hij, by rw [swpC_0 hij]; exact HY.out.1, HY.out.2⟩
                  case round =>
                    obtain ⟨a, rfl, rfl, hia, haj, hown5, hbl5⟩ := hrel
                    obtain ⟨wx, rfl⟩ : ∃ wx, wx = wr := ⟨_, rfl⟩
                    obtain ⟨b, hb⟩ : ∃ b : Int, (i : Int) + j - 1 - a = b := ⟨_, rfl⟩
                    rw [hb]
                    by_cases hab : (a : Int) < b
                    · obtain ⟨c, rfl⟩ : ∃ c : Nat, b = (c : Int) := ⟨b.toNat, by omega⟩
                      have hcn : c < n := by omega
                      have hce : i + j - 1 - a = c := by omega
                      obtain ⟨go, co, e2⟩ : ∃ g cap2, Value.slice ov n cv = .slice (some ⟨g, 0, none⟩) n cap2 := by
                        rcases own_formB hown5 with ⟨e, _⟩ | ⟨g, cap, e⟩
                        · omega
                        · exact ⟨g, cap, e⟩
                      cases e2
                      obtain ⟨x, hx⟩ : ∃ x, L[a]? = some x := ⟨_, List.getElem?_eq_getElem (by omega)⟩
                      obtain ⟨y, hy⟩ : ∃ y, L[c]? = some y := ⟨_, List.getElem?_eq_getElem (by omega)⟩
                      have hsx : (swpC L i j a)[a]? = some x := by
                        rw [swpC_at, hx]
                        show some (if _ then _ else x) = some x
                        rw [if_neg (by omega)]
                      have hsy : (swpC L i j a)[c]? = some y := by
                        rw [swpC_at, hy]
                        show some (if _ then _ else y) = some y
                        rw [if_neg (by omega)]
                      have k1 := hown5.cellAt a (by omega)
                      rw [flatJ_get hsx] at k1
                      have k2 := hown5.cellAt c (by omega)
                      rw [flatJ_get hsy] at k2
                      have g1 := hown5.frozenAt a
                      have g2 := hown5.frozenAt c
                      have s1 := (hown5.stored a (.int .i64 y)).1
                      have s2 := (s1.stored c (.int .i64 x)).1
                      have k3 : (wx.setCell ⟨go, a, none⟩ (.int .i64 y)).cell? ⟨go, c, none⟩ = some (.int .i64 y) := by
                        have h9 := s1.cellAt c (by omega)
                        rw [← flatJ_set] at h9
                        rw [h9]
                        exact flatJ_get (by rw [List.getElem?_set, if_neg (by omega)]; exact hsy)
                      have g3 := s1.frozenAt c
                      rw [← flatJ_set, ← flatJ_set, show ((swpC L i j a).set a y).set c x = swpC L i j (a + 1) by rw [swpC_step (L := L) (i := i) (k := j) (a := a) hia (by omega) (by omega) hx (by rw [hce]; exact hy), hce]] at s2
                      have hgw : w.heap.size ≤ go := (hown5.lt go (by simp [Value.ownBlock])).1
                      have hb2 : Below w.heap.size w ((wx.setCell ⟨go, a, none⟩ (.int .i64 y)).setCell ⟨go, c, none⟩ (.int .i64 x)) := (hbl5.setCell (p := ⟨go, a, none⟩) hgw _).setCell (p := ⟨go, c, none⟩) hgw _
                      have HB := hideB (And.intro s2 hb2)
                      have da : (a : Int) < (n : Int) := by omega
                      have dc : (c : Int) < (n : Int) := by omega
                      have wa : IntKind.i64.wrap ((a : Int) + 1) = ((a + 1 : Nat) : Int) := by rw [show ((a + 1 : Nat) : Int) = (a : Int) + 1 by omega]; exact IntWalk.i64_in _ ⟨by omega, by omega⟩
                      have wc : IntKind.i64.wrap ((c : Int) - 1) = (c : Int) - 1 := IntWalk.i64_in _ ⟨by omega, by omega⟩
                      have HBe := hideB hb
                      clear hown5 hbl5 hx hy hsx hsy s1 s2 hb2 hb
                      go_wp2_with fail
                      go_roundw
                      case rel => exact ⟨a + 1, by first | rfl | simp, by have := HBe.out; congr 1; omega, by omega, by omega, HB.out⟩
                      case measure => (simp [intOf] <;> omega)
                    · have hrv : swpC L i j a = revC L (i, j) := swpC_end hlt3 (by omega) (by omega) haj
                      rw [hrv] at hown5
                      have HF := hideB (And.intro hown5 hbl5)
                      have wj2 : IntKind.i64.wrap ((j : Int) - 1 + 1) = (j : Int) := by rw [show (j : Int) - 1 + 1 = (j : Int) by omega]; exact IntWalk.i64_in _ ⟨by omega, by omega⟩
                      have wj3 : IntKind.i64.wrap (j : Int) = (j : Int) := IntWalk.i64_in _ ⟨by omega, by omega⟩
                      have HFar2 : Hid (∀ k, j ≤ k → (revC L (i, j))[k]? = C[k]?) := hideB (fun k hk => by rw [revC_far (x := (i, j)) hij (by omega) hk]; exact HFar.out k (by omega))
                      have HLb2 : Hid (∀ x ∈ revC L (i, j), 0 ≤ x ∧ x < (n : Int)) := hideB (fun x hx => HLb.out x (revC_mem hx))
                      have hrl : (revC L (i, j)).length = n := by rw [revC_len (x := (i, j)) hij (by omega)]; exact hll
                      have HRl := hideB hrl
                      clear hown5 hbl5 hrl hrv hb
                      go_wp2_with fail
                      go_roundw
                      case rel => exact ⟨j, f' + 1, revC L (i, j), by first | rfl | simp, hjn, by omega, HRl.out, HFar2, HLb2, HG, HF.out⟩
                      case measure => (simp [intOf] <;> omega)
                · rw [if_neg hlt3] at hsF
                  obtain rfl : j = i := by omega
                  have HG : Hid ((strF p C f' (j + 1)).foldl revC L = ordS Lv C level) := hideB hsF
                  have HFar2 : Hid (∀ k, j + 1 ≤ k → L[k]? = C[k]?) := hideB (fun k hk => HFar.out k (by omega))
                  have dij : ¬ (j : Int) < (j : Int) := by omega
                  clear hsF
                  refine hK _ _ ?_
                  go_wp2_with fail
                  go_loopw [9, 10] (fun v9 v10 wr => v9 = .int .i64 (j : Nat) ∧ v10 = .int .i64 ((j : Int) - 1) ∧ wr = wy) (fun _ _ _ => 0)
                  case atStart => exact ⟨rfl, rfl, rfl⟩
                  case round =>
                    obtain ⟨rfl, rfl, hw⟩ := hrel
                    subst hw
                    have dj : ¬ (j : Int) < (j : Int) - 1 := by omega
                    go_wp2_with fail
                    go_roundw
                    case rel => exact ⟨j + 1, f', L, by first | rfl | simp, by omega, by omega, hll, HFar2, HLb, HG, HY.out⟩
                    case measure => (simp [intOf] <;> omega))
              clear hK
              go_loopw [8] (fun v8 wr => ∃ k : Nat, v8 = .int .i64 (k : Nat) ∧ i ≤ k ∧ k ≤ endAt p C i ∧ wr = wy) (fun v8 _ => n - (intOf v8).toNat)
              case atStart => exact ⟨i, rfl, Nat.le_refl _, endAt_ge p C i, rfl⟩
              case round =>
                obtain ⟨k, rfl, hik, hke, hw⟩ := hrel
                subst hw
                by_cases hkn : k < n
                · obtain ⟨go, co, e2⟩ : ∃ g cap2, Value.slice ov n cv = .slice (some ⟨g, 0, none⟩) n cap2 := by
                    rcases own_formB HY.out.1 with ⟨e, _⟩ | ⟨g, cap, e⟩
                    · omega
                    · exact ⟨g, cap, e⟩
                  cases e2
                  obtain ⟨x, hx⟩ : ∃ x, L[k]? = some x := ⟨_, List.getElem?_eq_getElem (by omega)⟩
                  have hxb := HLb.out x (List.mem_of_getElem? hx)
                  obtain ⟨y, rfl⟩ : ∃ y : Nat, x = (y : Int) := ⟨x.toNat, by omega⟩
                  have hyn : y < n := by omega
                  have hxC : C[k]? = some (y : Int) := by rw [← HFar.out k hik]; exact hx
                  obtain ⟨z, hz⟩ : ∃ z, Lv[y]? = some z := ⟨_, List.getElem?_eq_getElem (by rw [HN.out]; exact hyn)⟩
                  obtain ⟨gl, offl, rfl, l2⟩ := HRd.out wr HY.out.2 y z hz
                  have l1 := HY.out.1.cellAt k (by omega)
                  rw [flatJ_get hx] at l1
                  have hnx := endAt_nx hik hke hxC
                  have hpz : p (y : Int) = decide (level ≤ z) := by rw [HPp.out, hz]; rfl
                  rw [hpz] at hnx
                  have HNx := hideB hnx
                  have dk : (k : Int) < (n : Int) := by omega
                  have dy : (y : Int) < (n : Int) := by omega
                  have wk : IntKind.i64.wrap ((k : Int) + 1) = ((k + 1 : Nat) : Int) := by rw [show ((k + 1 : Nat) : Int) = (k : Int) + 1 by omega]; exact IntWalk.i64_in _ ⟨by omega, by omega⟩
                  clear hx hxC hz hnx hpz
                  by_cases hzl : level ≤ z
                  · go_wp2_with fail
                    go_roundw
                    case rel => exact ⟨k + 1, by first | rfl | simp, by omega, HNx.out.1 (by simp [hzl]), by first | rfl | trivial⟩
                    case measure => (simp [intOf] <;> omega)
                  · have hkj : k = j := by rw [← HJ.out]; exact HNx.out.2 (by simp [hzl])
                    subst hkj
                    go_wp2_with fail
                    exact HT.out _ _ _ _ _ _ _ _ _ _ _ _ _ _ _ _ _
                · have hkj : k = j := by have := HJ.out; omega
                  subst hkj
                  have dk : ¬ (k : Int) < (n : Int) := by omega
                  go_wp2_with fail
                  exact HT.out _ _ _ _ _ _ _ _ _ _ _ _ _ _ _ _ _
            · obtain rfl : n = i := by omega
              have d3 : ¬ (n : Int) < (n : Int) := by omega
              have hL : L = ordS Lv C level := by
                have h9 := HSt.out
                cases f with
                | zero => exact h9
                | succ f =>
                  rw [strF, if_neg (by omega)] at h9
                  exact h9
              have HQ := hideB (And.intro hown2 (And.intro hll (And.intro HLb.out (And.intro hL hbl2))))
              clear hown2 hbl2 hL
              go_wp2_with fail
              go_roundw
              case rel => exact ⟨e, L, by first | rfl | simp, by omega, HQ.out.1, HQ.out.2.1, HQ.out.2.2.1, hideB (by rw [HQ.out.2.2.2.1]; exact HE2.out), HQ.out.2.2.2.2⟩
              case measure => (have := HLev.out; simp [intOf] <;> omega)
end Go.Proofs.YtoabdhcchegchaaDoor

/- Chapter 4's reference: its tables, Class, Mirror. -/
namespace Go.Proofs.YtoabdhcchegchaaDoor
open Go.RowKit Go.Shelf

/-- The reference's tables, by class. -/
def rtab (c : Nat) : List (Int × Int) := match c with | 1 => [(10, 10)] | 2 => tisPartEnd | 3 => tisBlank | 4 => tisEuropeanDigit | 5 => tisArabicDigit | 6 => tisNumberSign | 7 => tisBesideNumber | 8 => tisWithinNumber | 9 => [(8294, 8294)] | 10 => [(8295, 8295)] | 11 => [(8296, 8296)] | 12 => [(8297, 8297)] | 13 => tisMark | 14 => tisArabicLetter | 15 => tisLeftGoing | 16 => tisNeutral | _ => []
def flatP (T : List (Int × Int)) : List Int := T.flatMap fun p => [p.1, p.2]
theorem flatP_len (T : List (Int × Int)) : (flatP T).length = 2 * T.length := by
  unfold flatP
  induction T with
  | nil => rfl
  | cons p T ih => rw [List.flatMap_cons, List.length_append, ih, List.length_cons]; simp; omega
theorem flatP_get : ∀ (T : List (Int × Int)) (i : Nat) (p : Int × Int), T[i]? = some p → (flatP T)[2 * i]? = some p.1 ∧ (flatP T)[2 * i + 1]? = some p.2
  | [], i, p, h => by simp at h
  | q :: T, 0, p, h => by
    obtain rfl : q = p := by simpa using h
    exact ⟨rfl, rfl⟩
  | q :: T, i + 1, p, h => by
    obtain ⟨a, b⟩ := flatP_get T i p (by simpa using h)
    exact ⟨a, b⟩
set_option maxRecDepth 100000 in
theorem ranges_1 (w : World) : Calls Tryd.prog 34 #[.int .i64 1] w fun e w' => ∃ g cap, e = .returned (.slice (some ⟨g, 0, none⟩) (flatP (rtab 1)).length cap) ∧ RdA w' (some ⟨g, 0, none⟩) (flatP (rtab 1)) ∧ Below w.heap.size w w' := by
  go_enter Tryd.func34, Tryd.ntmps34
  go_wp2_with fail
  go_ret
  exact ⟨w.heap.size, _, rfl, rda_new w (flatP (rtab 1)) _ rfl, bel1B _ _⟩
set_option maxRecDepth 100000 in
theorem ranges_2 (w : World) : Calls Tryd.prog 34 #[.int .i64 2] w fun e w' => ∃ g cap, e = .returned (.slice (some ⟨g, 0, none⟩) (flatP (rtab 2)).length cap) ∧ RdA w' (some ⟨g, 0, none⟩) (flatP (rtab 2)) ∧ Below w.heap.size w w' := by
  go_enter Tryd.func34, Tryd.ntmps34
  go_wp2_with fail
  go_ret
  exact ⟨w.heap.size, _, rfl, rda_new w (flatP (rtab 2)) _ rfl, bel1B _ _⟩
set_option maxRecDepth 100000 in
theorem ranges_3 (w : World) : Calls Tryd.prog 34 #[.int .i64 3] w fun e w' => ∃ g cap, e = .returned (.slice (some ⟨g, 0, none⟩) (flatP (rtab 3)).length cap) ∧ RdA w' (some ⟨g, 0, none⟩) (flatP (rtab 3)) ∧ Below w.heap.size w w' := by
  go_enter Tryd.func34, Tryd.ntmps34
  go_wp2_with fail
  go_ret
  exact ⟨w.heap.size, _, rfl, rda_new w (flatP (rtab 3)) _ rfl, bel1B _ _⟩
set_option maxRecDepth 100000 in
theorem ranges_4 (w : World) : Calls Tryd.prog 34 #[.int .i64 4] w fun e w' => ∃ g cap, e = .returned (.slice (some ⟨g, 0, none⟩) (flatP (rtab 4)).length cap) ∧ RdA w' (some ⟨g, 0, none⟩) (flatP (rtab 4)) ∧ Below w.heap.size w w' := by
  go_enter Tryd.func34, Tryd.ntmps34
  go_wp2_with fail
  go_ret
  exact ⟨w.heap.size, _, rfl, rda_new w (flatP (rtab 4)) _ rfl, bel1B _ _⟩
set_option maxRecDepth 100000 in
theorem ranges_5 (w : World) : Calls Tryd.prog 34 #[.int .i64 5] w fun e w' => ∃ g cap, e = .returned (.slice (some ⟨g, 0, none⟩) (flatP (rtab 5)).length cap) ∧ RdA w' (some ⟨g, 0, none⟩) (flatP (rtab 5)) ∧ Below w.heap.size w w' := by
  go_enter Tryd.func34, Tryd.ntmps34
  go_wp2_with fail
  go_ret
  exact ⟨w.heap.size, _, rfl, rda_new w (flatP (rtab 5)) _ rfl, bel1B _ _⟩
set_option maxRecDepth 100000 in
theorem ranges_6 (w : World) : Calls Tryd.prog 34 #[.int .i64 6] w fun e w' => ∃ g cap, e = .returned (.slice (some ⟨g, 0, none⟩) (flatP (rtab 6)).length cap) ∧ RdA w' (some ⟨g, 0, none⟩) (flatP (rtab 6)) ∧ Below w.heap.size w w' := by
  go_enter Tryd.func34, Tryd.ntmps34
  go_wp2_with fail
  go_ret
  exact ⟨w.heap.size, _, rfl, rda_new w (flatP (rtab 6)) _ rfl, bel1B _ _⟩
set_option maxRecDepth 100000 in
theorem ranges_7 (w : World) : Calls Tryd.prog 34 #[.int .i64 7] w fun e w' => ∃ g cap, e = .returned (.slice (some ⟨g, 0, none⟩) (flatP (rtab 7)).length cap) ∧ RdA w' (some ⟨g, 0, none⟩) (flatP (rtab 7)) ∧ Below w.heap.size w w' := by
  go_enter Tryd.func34, Tryd.ntmps34
  go_wp2_with fail
  go_ret
  exact ⟨w.heap.size, _, rfl, rda_new w (flatP (rtab 7)) _ rfl, bel1B _ _⟩
set_option maxRecDepth 100000 in
theorem ranges_8 (w : World) : Calls Tryd.prog 34 #[.int .i64 8] w fun e w' => ∃ g cap, e = .returned (.slice (some ⟨g, 0, none⟩) (flatP (rtab 8)).length cap) ∧ RdA w' (some ⟨g, 0, none⟩) (flatP (rtab 8)) ∧ Below w.heap.size w w' := by
  go_enter Tryd.func34, Tryd.ntmps34
  go_wp2_with fail
  go_ret
  exact ⟨w.heap.size, _, rfl, rda_new w (flatP (rtab 8)) _ rfl, bel1B _ _⟩
set_option maxRecDepth 100000 in
theorem ranges_9 (w : World) : Calls Tryd.prog 34 #[.int .i64 9] w fun e w' => ∃ g cap, e = .returned (.slice (some ⟨g, 0, none⟩) (flatP (rtab 9)).length cap) ∧ RdA w' (some ⟨g, 0, none⟩) (flatP (rtab 9)) ∧ Below w.heap.size w w' := by
  go_enter Tryd.func34, Tryd.ntmps34
  go_wp2_with fail
  go_ret
  exact ⟨w.heap.size, _, rfl, rda_new w (flatP (rtab 9)) _ rfl, bel1B _ _⟩
set_option maxRecDepth 100000 in
theorem ranges_10 (w : World) : Calls Tryd.prog 34 #[.int .i64 10] w fun e w' => ∃ g cap, e = .returned (.slice (some ⟨g, 0, none⟩) (flatP (rtab 10)).length cap) ∧ RdA w' (some ⟨g, 0, none⟩) (flatP (rtab 10)) ∧ Below w.heap.size w w' := by
  go_enter Tryd.func34, Tryd.ntmps34
  go_wp2_with fail
  go_ret
  exact ⟨w.heap.size, _, rfl, rda_new w (flatP (rtab 10)) _ rfl, bel1B _ _⟩
set_option maxRecDepth 100000 in
theorem ranges_11 (w : World) : Calls Tryd.prog 34 #[.int .i64 11] w fun e w' => ∃ g cap, e = .returned (.slice (some ⟨g, 0, none⟩) (flatP (rtab 11)).length cap) ∧ RdA w' (some ⟨g, 0, none⟩) (flatP (rtab 11)) ∧ Below w.heap.size w w' := by
  go_enter Tryd.func34, Tryd.ntmps34
  go_wp2_with fail
  go_ret
  exact ⟨w.heap.size, _, rfl, rda_new w (flatP (rtab 11)) _ rfl, bel1B _ _⟩
set_option maxRecDepth 100000 in
theorem ranges_12 (w : World) : Calls Tryd.prog 34 #[.int .i64 12] w fun e w' => ∃ g cap, e = .returned (.slice (some ⟨g, 0, none⟩) (flatP (rtab 12)).length cap) ∧ RdA w' (some ⟨g, 0, none⟩) (flatP (rtab 12)) ∧ Below w.heap.size w w' := by
  go_enter Tryd.func34, Tryd.ntmps34
  go_wp2_with fail
  go_ret
  exact ⟨w.heap.size, _, rfl, rda_new w (flatP (rtab 12)) _ rfl, bel1B _ _⟩
set_option maxRecDepth 100000 in
theorem letters_13 (w : World) : Calls Tryd.prog 55 #[.int .i64 13] w fun e w' => ∃ g cap, e = .returned (.slice (some ⟨g, 0, none⟩) (flatP (rtab 13)).length cap) ∧ RdA w' (some ⟨g, 0, none⟩) (flatP (rtab 13)) ∧ Below w.heap.size w w' := by
  go_enter Tryd.func55, Tryd.ntmps55
  go_wp2_with fail
  go_ret
  exact ⟨w.heap.size, _, rfl, rda_new w (flatP (rtab 13)) _ rfl, bel1B _ _⟩
set_option maxRecDepth 100000 in
theorem letters_14 (w : World) : Calls Tryd.prog 55 #[.int .i64 14] w fun e w' => ∃ g cap, e = .returned (.slice (some ⟨g, 0, none⟩) (flatP (rtab 14)).length cap) ∧ RdA w' (some ⟨g, 0, none⟩) (flatP (rtab 14)) ∧ Below w.heap.size w w' := by
  go_enter Tryd.func55, Tryd.ntmps55
  go_wp2_with fail
  go_ret
  exact ⟨w.heap.size, _, rfl, rda_new w (flatP (rtab 14)) _ rfl, bel1B _ _⟩
set_option maxRecDepth 100000 in
theorem letters_15 (w : World) : Calls Tryd.prog 55 #[.int .i64 15] w fun e w' => ∃ g cap, e = .returned (.slice (some ⟨g, 0, none⟩) (flatP (rtab 15)).length cap) ∧ RdA w' (some ⟨g, 0, none⟩) (flatP (rtab 15)) ∧ Below w.heap.size w w' := by
  go_enter Tryd.func55, Tryd.ntmps55
  go_wp2_with fail
  go_ret
  exact ⟨w.heap.size, _, rfl, rda_new w (flatP (rtab 15)) _ rfl, bel1B _ _⟩

theorem own_newV (W : World) (base : Nat) (hb : base ≤ W.heap.size) (vs : Array Value) (n : Nat) (hn : vs.size = n) (hm : n ≤ maxLen) : (W.alloc (.cells vs 3)).ownsRow base 3 1 (.slice (some ⟨W.heap.size, 0, none⟩) n n) n vs.toList :=
  ⟨by rw [Array.length_toList, hn, Nat.mul_one], .inr ⟨W.heap.size, n, vs, rfl, hb, World.alloc_heap_new W _, Nat.le_refl _, hm, by rw [hn, Nat.mul_one], by rw [← hn, Nat.mul_one, ← Array.length_toList, List.take_length]⟩⟩
set_option maxRecDepth 100000 in
set_option maxHeartbeats 1000000 in
theorem letters_16 (w : World) : Calls Tryd.prog 55 #[.int .i64 16] w fun e w' => ∃ g cap, e = .returned (.slice (some ⟨g, 0, none⟩) (flatP (rtab 16)).length cap) ∧ RdA w' (some ⟨g, 0, none⟩) (flatP (rtab 16)) ∧ Below w.heap.size w w' := by
  obtain ⟨i0, hi0, hz0, hz1, hz2⟩ := info_partsC infoJ
  go_enter Tryd.func55, Tryd.ntmps55
  have HX : Hid (∀ (A B : Array Value), ((w.alloc (.cells A 3)).alloc (.cells B 3)).heap[w.heap.size + 1]? = some (.cells B 3 (0, 0))) := hideB (fun A B => by
    have := World.alloc_heap_new (w.alloc (.cells A 3)) (.cells B 3)
    rwa [World.size_alloc] at this)
  go_wp2_with (at_builtin; refine wpList_append_lies _ rfl _ _ 31 rfl w.heap.size 3 i0 _ 1 8 Tryd.underlying31 hi0 hz0 hz1 hz2 rfl (by decide) (.slice (some ⟨w.heap.size, 0, none⟩) 40 40) 40 _ rfl ((own_newV w w.heap.size (Nat.le_refl _) _ 40 rfl (by unfold maxLen; omega)).alloc _) ⟨w.heap.size + 1, 0, none⟩ 32 32 _ rfl rfl (World.news_of_block (HX.out _ _)) (fun u hu => by simp at hu; rcases hu with rfl | rfl | rfl | rfl | rfl | rfl | rfl | rfl | rfl | rfl | rfl | rfl | rfl | rfl | rfl | rfl | rfl | rfl | rfl | rfl | rfl | rfl | rfl | rfl | rfl | rfl | rfl | rfl | rfl | rfl | rfl | rfl <;> rfl) (by omega) (by unfold maxLen; omega) (by omega) (by simp; omega) (w.heap.size + 2) (by simp) ?_; intro g1 cap1 w1 hown1 hgrow1 hat1 hlt1)
  have h2 : w1.ownsRow w.heap.size 3 1 (.slice (some ⟨g1, 0, none⟩) 72 cap1) 72 (flatJ (flatP (rtab 16))) := hown1
  have hb : Below w.heap.size w w1 := Below.grown (bupB (bel1B w _) (bel1B _ _)) hgrow1 (by simp; omega) (fun k e => by have h9 : w.heap.size = k := (by simpa [Value.ownBlock] using e); omega)
  have h3 := RdA.of_own h2 rfl
  go_ret
  exact ⟨g1, ⟨cap1, rfl⟩, h3, hb⟩
set_option maxRecDepth 100000 in
theorem ranges_13 (w : World) : Calls Tryd.prog 34 #[.int .i64 13] w fun e w' => ∃ g cap, e = .returned (.slice (some ⟨g, 0, none⟩) (flatP (rtab 13)).length cap) ∧ RdA w' (some ⟨g, 0, none⟩) (flatP (rtab 13)) ∧ Below w.heap.size w w' := by
  have HL := hideB (letters_13 w)
  generalize flatP (rtab 13) = L at *
  go_enter Tryd.func34, Tryd.ntmps34
  go_wp2_with fail
  refine HL.out.mono ?_
  rintro e w1 ⟨g, cap, rfl, hr, hb⟩
  have H := hideB (And.intro hr hb)
  clear hr hb
  go_wp2_with fail
  go_ret
  exact ⟨g, cap, rfl, H.out⟩
set_option maxRecDepth 100000 in
theorem ranges_14 (w : World) : Calls Tryd.prog 34 #[.int .i64 14] w fun e w' => ∃ g cap, e = .returned (.slice (some ⟨g, 0, none⟩) (flatP (rtab 14)).length cap) ∧ RdA w' (some ⟨g, 0, none⟩) (flatP (rtab 14)) ∧ Below w.heap.size w w' := by
  have HL := hideB (letters_14 w)
  generalize flatP (rtab 14) = L at *
  go_enter Tryd.func34, Tryd.ntmps34
  go_wp2_with fail
  refine HL.out.mono ?_
  rintro e w1 ⟨g, cap, rfl, hr, hb⟩
  have H := hideB (And.intro hr hb)
  clear hr hb
  go_wp2_with fail
  go_ret
  exact ⟨g, cap, rfl, H.out⟩
set_option maxRecDepth 100000 in
theorem ranges_15 (w : World) : Calls Tryd.prog 34 #[.int .i64 15] w fun e w' => ∃ g cap, e = .returned (.slice (some ⟨g, 0, none⟩) (flatP (rtab 15)).length cap) ∧ RdA w' (some ⟨g, 0, none⟩) (flatP (rtab 15)) ∧ Below w.heap.size w w' := by
  have HL := hideB (letters_15 w)
  generalize flatP (rtab 15) = L at *
  go_enter Tryd.func34, Tryd.ntmps34
  go_wp2_with fail
  refine HL.out.mono ?_
  rintro e w1 ⟨g, cap, rfl, hr, hb⟩
  have H := hideB (And.intro hr hb)
  clear hr hb
  go_wp2_with fail
  go_ret
  exact ⟨g, cap, rfl, H.out⟩
set_option maxRecDepth 100000 in
theorem ranges_16 (w : World) : Calls Tryd.prog 34 #[.int .i64 16] w fun e w' => ∃ g cap, e = .returned (.slice (some ⟨g, 0, none⟩) (flatP (rtab 16)).length cap) ∧ RdA w' (some ⟨g, 0, none⟩) (flatP (rtab 16)) ∧ Below w.heap.size w w' := by
  have HL := hideB (letters_16 w)
  generalize flatP (rtab 16) = L at *
  go_enter Tryd.func34, Tryd.ntmps34
  go_wp2_with fail
  refine HL.out.mono ?_
  rintro e w1 ⟨g, cap, rfl, hr, hb⟩
  have H := hideB (And.intro hr hb)
  clear hr hb
  go_wp2_with fail
  go_ret
  exact ⟨g, cap, rfl, H.out⟩

theorem ranges_any (c : Nat) (hc : 1 ≤ c ∧ c ≤ 16) (w : World) : Calls Tryd.prog 34 #[.int .i64 (c : Int)] w fun e w' => ∃ g cap, e = .returned (.slice (some ⟨g, 0, none⟩) (flatP (rtab c)).length cap) ∧ RdA w' (some ⟨g, 0, none⟩) (flatP (rtab c)) ∧ Below w.heap.size w w' :=
  match c, hc with
  | 1, _ => ranges_1 w
  | 2, _ => ranges_2 w
  | 3, _ => ranges_3 w
  | 4, _ => ranges_4 w
  | 5, _ => ranges_5 w
  | 6, _ => ranges_6 w
  | 7, _ => ranges_7 w
  | 8, _ => ranges_8 w
  | 9, _ => ranges_9 w
  | 10, _ => ranges_10 w
  | 11, _ => ranges_11 w
  | 12, _ => ranges_12 w
  | 13, _ => ranges_13 w
  | 14, _ => ranges_14 w
  | 15, _ => ranges_15 w
  | 16, _ => ranges_16 w
  | 0, h => absurd h.1 (by omega)
  | c + 17, h => absurd h.2 (by omega)
/-- The reference's class. -/
def refI (r : Int) : Nat → Nat → Int
  | 0, _ => 17
  | f + 1, c => if inT r (rtab c) = true then (c : Int) else refI r f (c + 1)
theorem inT_drop {r : Int} {T : List (Int × Int)} {j : Nat} {p : Int × Int} (h : T[j]? = some p) : inT r (T.drop j) = ((decide (p.1 ≤ r) && decide (r ≤ p.2)) || inT r (T.drop (j + 1))) := by
  obtain ⟨h1, e⟩ := List.getElem?_eq_some_iff.1 h
  rw [List.drop_eq_getElem_cons h1, e, inT_cons]
set_option maxRecDepth 100000 in
set_option maxHeartbeats 2000000 in
theorem rclass_any (r : Int) (w : World) : Calls Tryd.prog 11 #[.int .i64 r] w fun e w' => e = .returned (.int .i64 (refI r 16 1)) ∧ Below w.heap.size w w' := by
  obtain ⟨PO, hPO⟩ : ∃ PO : Ending → World → Prop, (fun e w' => e = .returned (.int .i64 (refI r 16 1)) ∧ Below w.heap.size w w') = PO := ⟨_, rfl⟩
  have HPO := hideB hPO
  rw [hPO]
  clear hPO
  go_enter Tryd.func11, Tryd.ntmps11
  go_wp2_with fail
  go_loopw [3] (fun cv wr => ∃ c : Nat, cv = .int .i64 (c : Nat) ∧ 1 ≤ c ∧ c ≤ 17 ∧ Below w.heap.size w wr ∧ Hid (refI r (17 - c) c = refI r 16 1)) (fun cv _ => 17 - (intOf cv).toNat)
  case atStart => exact ⟨1, rfl, Nat.le_refl _, by omega, Below.refl _ _, hideB rfl⟩
  case round =>
    obtain ⟨c, rfl, hc1, hc2, hbl, HE⟩ := hrel
    obtain ⟨wq, rfl⟩ : ∃ wq, wq = wr := ⟨_, rfl⟩
    by_cases hlt : c ≤ 16
    · have d1 : (c : Int) ≤ 16 := by omega
      have wc : IntKind.i64.wrap ((c : Int) + 1) = ((c + 1 : Nat) : Int) := by rw [show ((c + 1 : Nat) : Int) = (c : Int) + 1 by omega]; exact IntWalk.i64_in _ ⟨by omega, by omega⟩
      have HRg := hideB (ranges_any c ⟨hc1, hlt⟩ wq)
      have HBl := hideB hbl
      have hstep : refI r (17 - c) c = if inT r (rtab c) = true then (c : Int) else refI r (17 - (c + 1)) (c + 1) := by
        obtain ⟨f, hf⟩ : ∃ f, 17 - c = f + 1 := ⟨16 - c, by omega⟩
        rw [hf, refI, show 17 - (c + 1) = f by omega]
      have HSt := hideB hstep
      have hlen : (rtab c).length ≤ 36 := by
        have : ∀ k : Fin 17, (rtab k).length ≤ 36 := by decide
        exact this ⟨c, by omega⟩
      rw [flatP_len] at HRg
      obtain ⟨T, hT⟩ : ∃ T, rtab c = T := ⟨_, rfl⟩
      rw [hT] at HRg HSt hlen
      obtain ⟨m, hm⟩ : ∃ m, T.length = m := ⟨_, rfl⟩
      rw [hm] at HRg hlen
      have HM := hideB hm
      clear hbl hstep hT hm
      go_wp2_with fail
      refine HRg.out.mono ?_
      rintro e w1 ⟨g, cap, rfl, hrd, hb1⟩
      have HR := hideB (And.intro hrd (bupB HBl.out hb1))
      clear hrd hb1 HRg
      go_wp2_with fail
      go_loopw [5] (fun jv wr => ∃ j : Nat, jv = .int .i64 ((2 * j : Nat) : Int) ∧ j ≤ m ∧ wr = w1 ∧ Hid (inT r (T.drop j) = inT r T)) (fun jv _ => 2 * m - (intOf jv).toNat)
      case atStart => exact ⟨0, rfl, Nat.zero_le _, rfl, hideB rfl⟩
      case round =>
        obtain ⟨j, rfl, hjm, hw, HI⟩ := hrel
        subst hw
        by_cases hj : j < m
        · obtain ⟨p, hp⟩ : ∃ p, T[j]? = some p := ⟨_, List.getElem?_eq_getElem (by rw [HM.out]; exact hj)⟩
          obtain ⟨f0, f1⟩ := flatP_get T j p hp
          obtain ⟨g2, o2, e2, l0⟩ := HR.out.1 (2 * j) _ f0
          cases e2
          obtain ⟨g3, o3, e3, l1⟩ := HR.out.1 (2 * j + 1) _ f1
          cases e3
          rw [Nat.zero_add] at l0 l1
          have HD := hideB (inT_drop (r := r) hp)
          have dj : ((2 * j : Nat) : Int) < ((2 * m : Nat) : Int) := by omega
          have dj1 : ((2 * j + 1 : Nat) : Int) < ((2 * m : Nat) : Int) := by omega
          have w1' : IntKind.i64.wrap (((2 * j : Nat) : Int) + 1) = ((2 * j + 1 : Nat) : Int) := by rw [show ((2 * j + 1 : Nat) : Int) = ((2 * j : Nat) : Int) + 1 by omega]; exact IntWalk.i64_in _ ⟨by omega, by omega⟩
          have w2' : IntKind.i64.wrap (((2 * j : Nat) : Int) + 2) = ((2 * (j + 1) : Nat) : Int) := by rw [show ((2 * (j + 1) : Nat) : Int) = ((2 * j : Nat) : Int) + 2 by omega]; exact IntWalk.i64_in _ ⟨by omega, by omega⟩
          obtain ⟨a, b⟩ := p
          have l0 : wr.cell? ⟨g, 2 * j, none⟩ = some (.int .i64 a) := l0
          have l1 : wr.cell? ⟨g, 2 * j + 1, none⟩ = some (.int .i64 b) := l1
          obtain ⟨J, hJ⟩ : ∃ J, 2 * j = J := ⟨_, rfl⟩
          obtain ⟨M2, hM2⟩ : ∃ M2, 2 * m = M2 := ⟨_, rfl⟩
          rw [hJ] at l0 l1 dj dj1 w1' w2' ⊢
          rw [hM2] at dj dj1 ⊢
          have HJ := hideB (And.intro hJ hM2)
          clear f0 f1 hp hJ hM2
          by_cases ha : a ≤ r
          · by_cases hb : r ≤ b
            · have HQ : Hid (PO (.returned (.int .i64 (c : Int))) wr) := hideB (by
                rw [← HPO.out]
                refine ⟨?_, HR.out.2⟩
                have h9 := HD.out
                simp only [ha, hb, decide_true, Bool.and_self, Bool.true_or] at h9
                rw [← HE.out, HSt.out, if_pos (by rw [← HI.out]; exact h9)])
              go_wp2_with fail
              first | exact HQ.out | (go_ret; exact HQ.out)
            · have HI2 : Hid (inT r (T.drop (j + 1)) = inT r T) := hideB (by
                have h9 := HD.out
                simp only [ha, hb, decide_true, decide_false, Bool.and_false, Bool.false_or] at h9
                rw [← h9, HI.out])
              go_wp2_with fail
              go_roundw
              case rel => exact ⟨j + 1, by first | rfl | simp, by omega, by first | rfl | trivial, HI2⟩
              case measure => (have := HJ.out; simp [intOf] <;> omega)
          · have HI2 : Hid (inT r (T.drop (j + 1)) = inT r T) := hideB (by
              have h9 := HD.out
              simp only [ha, decide_false, Bool.false_and, Bool.false_or] at h9
              rw [← h9, HI.out])
            go_wp2_with fail
            go_roundw
            case rel => exact ⟨j + 1, by first | rfl | simp, by omega, by first | rfl | trivial, HI2⟩
            case measure => (have := HJ.out; simp [intOf] <;> omega)
        · obtain rfl : m = j := by omega
          have dj : ¬ ((2 * m : Nat) : Int) < ((2 * m : Nat) : Int) := by omega
          have HE2 : Hid (refI r (17 - (c + 1)) (c + 1) = refI r 16 1) := hideB (by
            have h9 := HI.out
            rw [List.drop_eq_nil_of_le (by rw [HM.out]; exact Nat.le_refl _)] at h9
            have h8 : inT r T = false := h9.symm
            rw [← HE.out, HSt.out, h8, if_neg (by simp)])
          have HB2 := hideB HR.out.2
          go_wp2_with fail
          go_roundw
          case rel => exact ⟨c + 1, by first | rfl | simp, by omega, by omega, HB2.out, HE2⟩
          case measure => (simp [intOf] <;> omega)
    · obtain rfl : c = 17 := by omega
      have HQ : Hid (PO (.returned (.int .i64 17)) wq) := hideB (by
        rw [← HPO.out]
        exact ⟨by rw [← HE.out]; rfl, hbl⟩)
      clear hbl
      go_wp2_with fail
      first | exact HQ.out | (go_ret; exact HQ.out)
end Go.Proofs.YtoabdhcchegchaaDoor

/- BidiClasses, BidiTables: the walks. -/
namespace Go.Proofs.YtoabdhcchegchaaDoor
open Go.RowKit Go.Shelf

theorem inT_one (r a : Int) : inT r [(a, a)] = true ↔ r = a := by
  rw [inT_cons]
  show ((decide (a ≤ r) && decide (r ≤ a)) || false) = true ↔ _
  simp
  omega
theorem refI_let (r : Int) (h : letB r = true) : refI r 16 1 = 17 := by
  have h1 : ∀ k : Fin 26, refI (65 + (k.1 : Int)) 16 1 = 17 := by decide +kernel
  have h2 : ∀ k : Fin 26, refI (97 + (k.1 : Int)) 16 1 = 17 := by decide +kernel
  unfold letB at h
  simp only [Bool.or_eq_true, Bool.and_eq_true, decide_eq_true_eq] at h
  rcases h with h | h
  · have := h2 ⟨(r - 97).toNat, by omega⟩
    rwa [show (97 : Int) + (((⟨(r - 97).toNat, by omega⟩ : Fin 26).1 : Nat) : Int) = r by show (97 : Int) + ((r - 97).toNat : Int) = r; omega] at this
  · have := h1 ⟨(r - 65).toNat, by omega⟩
    rwa [show (65 : Int) + (((⟨(r - 65).toNat, by omega⟩ : Fin 26).1 : Nat) : Int) = r by show (65 : Int) + ((r - 65).toNat : Int) = r; omega] at this
theorem class_ref (r : Int) : classI r = refI r 16 1 := by
  cases h : letB r with
  | true => rw [refI_let r h]; unfold classI; rw [if_pos h]
  | false =>
    have e : refI r 16 1 = if inT r [(10, 10)] = true then 1 else if inT r tisPartEnd = true then 2 else if inT r tisBlank = true then 3 else if inT r tisEuropeanDigit = true then 4 else if inT r tisArabicDigit = true then 5 else if inT r tisNumberSign = true then 6 else if inT r tisBesideNumber = true then 7 else if inT r tisWithinNumber = true then 8 else if inT r [(8294, 8294)] = true then 9 else if inT r [(8295, 8295)] = true then 10 else if inT r [(8296, 8296)] = true then 11 else if inT r [(8297, 8297)] = true then 12 else if inT r tisMark = true then 13 else if inT r tisArabicLetter = true then 14 else if inT r tisLeftGoing = true then 15 else if inT r tisNeutral = true then 16 else 17 := rfl
    rw [e]
    unfold classI othI
    rw [h, if_neg (by simp)]
    simp only [inT_one]
/-- The reference's mirror, from a place on. -/
def valM (r : Int) (T : List (Int × Int)) (i : Nat) : Int := if i % 2 = 0 then mirL r (T.drop (i / 2)) else match T[i / 2]? with | some p => if r = p.2 then p.1 else mirL r (T.drop (i / 2 + 1)) | none => r
theorem valM_0 (r : Int) (T : List (Int × Int)) (j : Nat) : valM r T (2 * j) = mirL r (T.drop j) := by
  unfold valM
  rw [if_pos (by omega), show 2 * j / 2 = j by omega]
theorem valM_1 {r : Int} {T : List (Int × Int)} {j : Nat} {p : Int × Int} (h : T[j]? = some p) : valM r T (2 * j + 1) = if r = p.2 then p.1 else mirL r (T.drop (j + 1)) := by
  unfold valM
  rw [if_neg (by omega), show (2 * j + 1) / 2 = j by omega, h]
theorem valM_even {r : Int} {T : List (Int × Int)} {j : Nat} {p : Int × Int} (h : T[j]? = some p) : valM r T (2 * j) = if r = p.1 then p.2 else valM r T (2 * j + 1) := by
  obtain ⟨h1, e⟩ := List.getElem?_eq_some_iff.1 h
  rw [valM_0, valM_1 h, List.drop_eq_getElem_cons h1, e, mirL_cons]
theorem valM_odd {r : Int} {T : List (Int × Int)} {j : Nat} {p : Int × Int} (h : T[j]? = some p) : valM r T (2 * j + 1) = if r = p.2 then p.1 else valM r T (2 * j + 2) := by
  rw [valM_1 h, show 2 * j + 2 = 2 * (j + 1) by omega, valM_0]
theorem pairs_any (w : World) : Calls Tryd.prog 35 #[] w fun e w' => ∃ g cap, e = .returned (.slice (some ⟨g, 0, none⟩) (flatP tPairs).length cap) ∧ RdA w' (some ⟨g, 0, none⟩) (flatP tPairs) ∧ Below w.heap.size w w' := by
  go_enter Tryd.func35, Tryd.ntmps35
  go_wp2_with fail
  go_ret
  exact ⟨w.heap.size, _, rfl, rda_new w (flatP tPairs) _ rfl, bel1B _ _⟩
set_option maxRecDepth 100000 in
set_option maxHeartbeats 2000000 in
theorem rmirror_any (r : Int) (w : World) : Calls Tryd.prog 13 #[.int .i64 r] w fun e w' => e = .returned (.int .i64 (mirL r tPairs)) ∧ Below w.heap.size w w' := by
  have HP := hideB (pairs_any w)
  have HN : Hid (tPairs.length = 23) := hideB rfl
  rw [flatP_len, HN.out] at HP
  generalize tPairs = T at *
  obtain ⟨PO, hPO⟩ : ∃ PO : Ending → World → Prop, (fun e w' => e = .returned (.int .i64 (mirL r T)) ∧ Below w.heap.size w w') = PO := ⟨_, rfl⟩
  have HPO := hideB hPO
  rw [hPO]
  clear hPO
  go_enter Tryd.func13, Tryd.ntmps13
  go_wp2_with fail
  refine HP.out.mono ?_
  rintro e w1 ⟨g, cap, rfl, hrd, hb1⟩
  have HR := hideB (And.intro hrd hb1)
  clear hrd hb1 HP
  go_wp2_with fail
  go_loopw [4] (fun jv wr => ∃ i : Nat, jv = .int .i64 (i : Nat) ∧ i ≤ 46 ∧ wr = w1 ∧ Hid (valM r T i = mirL r T)) (fun jv _ => 46 - (intOf jv).toNat)
  case atStart => exact ⟨0, rfl, by omega, rfl, hideB rfl⟩
  case round =>
    obtain ⟨i, rfl, hi, hw, HI⟩ := hrel
    subst hw
    by_cases hlt : i < 46
    · have di : (i : Int) < 46 := by omega
      have wi : IntKind.i64.wrap ((i : Int) + 1) = ((i + 1 : Nat) : Int) := by rw [show ((i + 1 : Nat) : Int) = (i : Int) + 1 by omega]; exact IntWalk.i64_in _ ⟨by omega, by omega⟩
      obtain ⟨p, hp⟩ : ∃ p, T[i / 2]? = some p := ⟨_, List.getElem?_eq_getElem (by rw [HN.out]; omega)⟩
      obtain ⟨f0, f1⟩ := flatP_get T (i / 2) p hp
      obtain ⟨g2, o2, e2, l0⟩ := HR.out.1 (2 * (i / 2)) _ f0
      cases e2
      obtain ⟨g3, o3, e3, l1⟩ := HR.out.1 (2 * (i / 2) + 1) _ f1
      cases e3
      rw [Nat.zero_add] at l0 l1
      obtain ⟨a, b⟩ := p
      have HPp := hideB hp
      clear f0 f1 hp
      rcases Nat.mod_two_eq_zero_or_one i with he | ho
      · have e0 : 2 * (i / 2) = i := by omega
        have hv := valM_even (r := r) HPp.out
        rw [e0] at l0 l1 hv
        have HV := hideB hv
        have l0 : wr.cell? ⟨g, i, none⟩ = some (.int .i64 a) := l0
        have l1 : wr.cell? ⟨g, i + 1, none⟩ = some (.int .i64 b) := l1
        clear hv
        have dj1 : ((i + 1 : Nat) : Int) < 46 := by omega
        have hm0 : (i : Int).tmod 2 = 0 := by rw [Int.tmod_eq_emod_of_nonneg (by omega)]; omega
        by_cases ha : a = r
        · subst ha
          have HQ : Hid (PO (.returned (.int .i64 b)) wr) := hideB (by
            rw [← HPO.out]
            refine ⟨?_, HR.out.2⟩
            rw [← HI.out, HV.out, if_pos rfl])
          go_wp2_with fail
          first | exact HQ.out | (go_ret; exact HQ.out)
        · have ba : (a == r) = false := by simp [ha]
          have HI2 : Hid (valM r T (i + 1) = mirL r T) := hideB (by rw [← HI.out, HV.out, if_neg (fun e => ha e.symm)])
          go_wp2_with fail
          go_roundw
          case rel => exact ⟨i + 1, by first | rfl | simp, by omega, by first | rfl | trivial, HI2⟩
          case measure => (simp [intOf] <;> omega)
      · have e0 : 2 * (i / 2) + 1 = i := by omega
        have hv := valM_odd (r := r) HPp.out
        obtain ⟨k, rfl⟩ : ∃ k, i = k + 1 := ⟨i - 1, by omega⟩
        have e1 : 2 * ((k + 1) / 2) = k := by omega
        rw [e1] at l0 l1 hv
        have HV := hideB hv
        have l0 : wr.cell? ⟨g, k, none⟩ = some (.int .i64 a) := l0
        have l1 : wr.cell? ⟨g, k + 1, none⟩ = some (.int .i64 b) := l1
        clear hv
        have dj1 : (k : Int) < 46 := by omega
        have hm0 : ((k + 1 : Nat) : Int).tmod 2 = 1 := by rw [Int.tmod_eq_emod_of_nonneg (by omega)]; omega
        have wk2 : IntKind.i64.wrap (((k + 1 + 1 : Nat) : Int) - 2) = (k : Int) := by rw [show ((k + 1 + 1 : Nat) : Int) - 2 = (k : Int) by omega]; exact IntWalk.i64_in _ ⟨by omega, by omega⟩
        by_cases hb : b = r
        · subst hb
          have HQ : Hid (PO (.returned (.int .i64 a)) wr) := hideB (by
            rw [← HPO.out]
            refine ⟨?_, HR.out.2⟩
            rw [← HI.out, HV.out, if_pos rfl])
          go_wp2_with fail
          first | exact HQ.out | (go_ret; exact HQ.out)
        · have bb : (b == r) = false := by simp [hb]
          have HI2 : Hid (valM r T (k + 1 + 1) = mirL r T) := hideB (by rw [← HI.out, HV.out, if_neg (fun e => hb e.symm)])
          go_wp2_with fail
          go_roundw
          case rel => exact ⟨k + 1 + 1, by first | rfl | simp, by omega, by first | rfl | trivial, HI2⟩
          case measure => (simp [intOf] <;> omega)
    · obtain rfl : i = 46 := by omega
      have HQ : Hid (PO (.returned (.int .i64 r)) wr) := hideB (by
        rw [← HPO.out]
        refine ⟨?_, HR.out.2⟩
        rw [← HI.out, show 46 = 2 * 23 from rfl, valM_0, List.drop_eq_nil_of_le (by rw [HN.out]; exact Nat.le_refl _)]
        rfl)
      go_wp2_with fail
      first | exact HQ.out | (go_ret; exact HQ.out)
end Go.Proofs.YtoabdhcchegchaaDoor

/- BidiClasses, BidiTables: the walks. -/
namespace Go.Proofs.YtoabdhcchegchaaDoor
open Go.RowKit Go.Shelf

theorem mirL_i {r : Int} (h : -2147483648 ≤ r ∧ r ≤ 2147483647) : ∀ (T : List (Int × Int)), (∀ p ∈ T, (0 ≤ p.1 ∧ p.1 ≤ 1114111) ∧ 0 ≤ p.2 ∧ p.2 ≤ 1114111) → -2147483648 ≤ mirL r T ∧ mirL r T ≤ 2147483647
  | [], _ => h
  | p :: T, hT => by
    rw [mirL_cons]
    have h1 := hT p (by simp)
    split
    · omega
    · split
      · omega
      · exact mirL_i h T (fun q hq => hT q (by simp [hq]))
set_option maxRecDepth 100000 in
set_option maxHeartbeats 1000000 in
theorem bclasses_walk (r : Int) (hr : -2147483648 ≤ r ∧ r ≤ 2147483647) (N : Nat) (w : World) (hT : Tabs N w) (hU : ∀ W, Below w.heap.size w W → Lib.Utf8Tabs 0 1 W) :
    Calls Tryd.prog 4 #[.int .i32 r] w fun e w' => e = .returned (.bool true) ∧ Below w.heap.size w w' := by
  have HH := hideB (fun (W : World) (hW : Below w.heap.size w W) => head4_any N W (hT.below hW) (fun V hV => hU V (hW.trans (hV.mono hW.size))))
  have HC := hideB (fun (W : World) => class_any r W)
  have HRc := hideB (fun (W : World) => rclass_any r W)
  have HM := hideB (fun (W : World) => mirror_any r W)
  have HRm := hideB (fun (W : World) => rmirror_any r W)
  have hm := mirL_i hr tPairs tPairs_b
  rw [class_ref] at HC
  generalize refI r 16 1 = c at *
  generalize mirL r tPairs = m at *
  have wr : IntKind.i64.wrap r = r := IntWalk.i64_in _ ⟨by omega, by omega⟩
  have wm : IntKind.i64.wrap m = m := IntWalk.i64_in _ ⟨by omega, by omega⟩
  clear hT hU
  go_enter Tryd.func4, Tryd.ntmps4
  go_wp2_with fail
  refine (HC.out w).mono ?_
  rintro e w1 ⟨rfl, h1⟩
  have H1 := hideB h1
  clear h1
  go_wp2_with fail
  refine (HRc.out w1).mono ?_
  rintro e w2 ⟨rfl, h2⟩
  have H2 := hideB (bupB H1.out h2)
  clear h2 H1
  go_wp2_with fail
  refine (HM.out w2).mono ?_
  rintro e w3 ⟨rfl, h3⟩
  have H3 := hideB (bupB H2.out h3)
  clear h3 H2
  go_wp2_with fail
  refine (HRm.out w3).mono ?_
  rintro e w4 ⟨rfl, h4⟩
  have H4 := hideB (bupB H3.out h4)
  clear h4 H3
  go_wp2_with fail
  refine (HH.out w4 H4.out).mono ?_
  rintro e w5 ⟨rfl, h5⟩
  have H5 := hideB (bupB H4.out h5)
  clear h5 H4
  go_wp2_with fail
  first | exact ⟨rfl, H5.out⟩ | (go_ret; exact ⟨rfl, H5.out⟩)
theorem within4_any (a : Int) (w : World) :
    Calls Tryd.prog 14 #[.int .i64 a, .int .i64 1114368] w fun e w' => ∃ k : Nat, e = .returned (.int .i64 (k : Nat)) ∧ k < 1114368 ∧ w' = w := by
  have hk : -1114368 < a.tmod 1114368 ∧ a.tmod 1114368 < 1114368 := ⟨by have := Int.lt_tmod_of_pos a (show (0 : Int) < 1114368 by omega); omega, Int.tmod_lt_of_pos a (by omega)⟩
  have wk0 : IntKind.i64.wrap (a.tmod 1114368) = a.tmod 1114368 := IntWalk.i64_in _ ⟨by omega, by omega⟩
  have wk1 : IntKind.i64.wrap (a.tmod 1114368 + 1114368) = a.tmod 1114368 + 1114368 := IntWalk.i64_in _ ⟨by omega, by omega⟩
  generalize hg : a.tmod 1114368 = k at *
  by_cases h0 : k < 0
  · go_enter Tryd.func14, Tryd.ntmps14
    go_wp2_with fail
    go_ret
    exact ⟨(k + 1114368).toNat, by rw [Int.toNat_of_nonneg (by omega)]; rfl, by omega, rfl⟩
  · go_enter Tryd.func14, Tryd.ntmps14
    go_wp2_with fail
    go_ret
    exact ⟨k.toNat, by rw [Int.toNat_of_nonneg (by omega)]; rfl, by omega, rfl⟩
set_option maxRecDepth 100000 in
set_option maxHeartbeats 1000000 in
theorem btables_walk (a b : Int) (N : Nat) (w : World) (hT : Tabs N w) (hU : ∀ W, Below w.heap.size w W → Lib.Utf8Tabs 0 1 W) :
    Calls Tryd.prog 5 #[.int .i64 a, .int .i64 b] w fun e w' => e = .returned (.bool true) ∧ Below w.heap.size w w' := by
  have HH := hideB (fun (W : World) (hW : Below w.heap.size w W) => head4_any N W (hT.below hW) (fun V hV => hU V (hW.trans (hV.mono hW.size))))
  clear hT hU
  go_enter Tryd.func5, Tryd.ntmps5
  go_wp2_with fail
  refine (within4_any a w).mono ?_
  rintro e w1 ⟨p, rfl, hp, rfl⟩
  go_wp2_with fail
  refine (within4_any b w1).mono ?_
  rintro e w2 ⟨q, rfl, hq, rfl⟩
  go_wp2_with fail
  go_loopw [5] (fun iv wr => ∃ i : Nat, iv = .int .i64 (i : Nat) ∧ i ≤ q ∧ Below w2.heap.size w2 wr) (fun iv _ => q - (intOf iv).toNat)
  case atStart => exact ⟨0, rfl, Nat.zero_le _, Below.refl _ _⟩
  case round =>
    obtain ⟨i, rfl, hi, hbl⟩ := hrel
    obtain ⟨wq, rfl⟩ : ∃ wq, wq = wr := ⟨_, rfl⟩
    have HB := hideB hbl
    clear hbl
    by_cases hlt : i < q
    · have di : (i : Int) < (q : Int) := by omega
      have wi : IntKind.i64.wrap ((i : Int) + 1) = ((i + 1 : Nat) : Int) := by rw [show ((i + 1 : Nat) : Int) = (i : Int) + 1 by omega]; exact IntWalk.i64_in _ ⟨by omega, by omega⟩
      obtain ⟨r, hr⟩ : ∃ r, r = (p : Int) + (i : Int) := ⟨_, rfl⟩
      have hrb : 0 ≤ r ∧ r ≤ 2228736 := by omega
      have wpi : IntKind.i64.wrap ((p : Int) + (i : Int)) = r := by rw [← hr]; exact IntWalk.i64_in _ ⟨by omega, by omega⟩
      have w32 : IntKind.i32.wrap r = r := IntWalk.i32_in _ ⟨by omega, by omega⟩
      have HC := hideB (fun (W : World) => class_any r W)
      have HRc := hideB (fun (W : World) => rclass_any r W)
      have HM := hideB (fun (W : World) => mirror_any r W)
      have HRm := hideB (fun (W : World) => rmirror_any r W)
      have hm := mirL_i (r := r) (by omega) tPairs tPairs_b
      rw [class_ref] at HC
      generalize refI r 16 1 = c at *
      generalize mirL r tPairs = m at *
      have wm : IntKind.i64.wrap m = m := IntWalk.i64_in _ ⟨by omega, by omega⟩
      clear hr
      go_wp2_with fail
      refine (HC.out wq).mono ?_
      rintro e w3 ⟨rfl, h3⟩
      have H3 := hideB (bupB HB.out h3)
      clear h3
      go_wp2_with fail
      refine (HRc.out w3).mono ?_
      rintro e w4 ⟨rfl, h4⟩
      have H4 := hideB (bupB H3.out h4)
      clear h4
      go_wp2_with fail
      refine (HM.out w4).mono ?_
      rintro e w5 ⟨rfl, h5⟩
      have H5 := hideB (bupB H4.out h5)
      clear h5
      go_wp2_with fail
      refine (HRm.out w5).mono ?_
      rintro e w6 ⟨rfl, h6⟩
      have H6 := hideB (bupB H5.out h6)
      clear h6
      go_wp2_with fail
      go_roundw
      case rel => exact ⟨i + 1, by first | rfl | simp, by omega, H6.out⟩
      case measure => (simp [intOf] <;> omega)
    · obtain rfl : q = i := by omega
      have d2 : ¬ (q : Int) < (q : Int) := by omega
      go_wp2_with fail
      refine (HH.out wq HB.out).mono ?_
      rintro e w5 ⟨rfl, h5⟩
      have H5 := hideB (bupB HB.out h5)
      clear h5
      go_wp2_with fail
      first | exact ⟨rfl, H5.out⟩ | (go_ret; exact ⟨rfl, H5.out⟩)
theorem bclasses_go (r : Int) (hr : -2147483648 ≤ r ∧ r ≤ 2147483647) (W : World) (h : Tabs W.heap.size W ∧ Lib.Utf8Tabs 0 1 W) :
    Calls Tryd.prog 4 #[.int .i32 r] W fun e w' => e = .returned (.bool true) ∧ Below W.heap.size W w' :=
  bclasses_walk r hr W.heap.size W h.1 (fun _ hV => utf8_belowB h.2 hV)
theorem btables_go (a : Int) (_ : -9223372036854775808 ≤ a ∧ a ≤ 9223372036854775807) (b : Int) (_ : -9223372036854775808 ≤ b ∧ b ≤ 9223372036854775807) (W : World) (h : Tabs W.heap.size W ∧ Lib.Utf8Tabs 0 1 W) :
    Calls Tryd.prog 5 #[.int .i64 a, .int .i64 b] W fun e w' => e = .returned (.bool true) ∧ Below W.heap.size W w' :=
  btables_walk a b W.heap.size W h.1 (fun _ hV => utf8_belowB h.2 hV)
end Go.Proofs.YtoabdhcchegchaaDoor

/- BidiOrders: the walk. -/
namespace Go.Proofs.YtoabdhcchegchaaDoor
open Go.RowKit Go.Shelf
open Go

theorem flatJ_oneF (C : List Int) : ∀ u ∈ flatJ C, u.oneCell' = true := by
  intro u hu
  simp only [flatJ, List.mem_map] at hu
  obtain ⟨x, _, rfl⟩ := hu
  rfl
theorem RdA.flat {W : World} {oa : Option Addr} {L : List Int} (h : RdA W oa L) {ad : Addr} (he : oa = some ad) (j : Nat) (u : Value) (hu : (flatJ L)[j]? = some u) : W.cell? (ad.add j) = some u := by
  unfold flatJ at hu
  rw [List.getElem?_map] at hu
  cases hx : L[j]? with
  | none => rw [hx] at hu; cases hu
  | some x =>
    rw [hx] at hu
    obtain ⟨g, off, e, hc⟩ := h j x hx
    rw [he] at e
    cases e
    rw [Addr.add_lit]
    exact hc.trans hu
/-- A slice, nil or not, put behind what is owned, where there is room. -/
theorem wpList_append_spareF {P : Program} (w : World) {ops : Array Oper} {rest : List Oper} {o : Oper} {a : Act} {Q : Exit → Act → World → Prop} (hgd : o.guard = none) (s x : Operand) (t : TypeId)
    (ho : o.op = .call { callee := .builtin .append, args := #[s, x], argTypes := #[t, t] })
    (base : Nat) (e : TypeId) (i : TypeInfo) (size : Nat) (ht : P.underlying t = some (.slice e)) (hi : P.info? e = some i) (hsize : i.size = size)
    (g n cap : Nat) (xs : List Value) (hs : a.eval s = .slice (some ⟨g, 0, none⟩) n cap) (hown : w.ownsRow base e size (.slice (some ⟨g, 0, none⟩) n cap) n xs)
    (ao : Option Addr) (m c : Nat) (news : List Value) (hx : a.eval x = .slice ao m c) (hn : ao = none → m = 0 ∧ c = 0) (hl : news.length = m * size) (hnews : ∀ ad, ao = some ad → ∀ j u, news[j]? = some u → w.cell? (ad.add j) = some u) (h1 : ∀ u ∈ news, u.oneCell' = true)
    (hroom : n + m ≤ cap)
    (h : ∀ w', w'.ownsRow base e size (.slice (some ⟨g, 0, none⟩) (n + m) cap) (n + m) (xs ++ news) → w.grownBy w' (some g) → wpList P ops Q rest (a.put o.dst (.slice (some ⟨g, 0, none⟩) (n + m) cap)) w') : wpList P ops Q (o :: rest) a w := by
  cases ao with
  | some ad => exact wpList_append_own_spare w hgd s x t ho base e i size ht hi hsize g n cap xs hs hown ad m c news hx hl (hnews ad rfl) h1 hroom h
  | none =>
    obtain ⟨rfl, rfl⟩ := hn rfl
    have hbv : news = [] := List.length_eq_zero_iff.1 (by rw [hl, Nat.zero_mul])
    subst hbv
    have h2 := h w (by rw [List.append_nil]; exact hown) (World.grownBy.refl w _)
    refine wpList_plain hgd fun K hK' => ?_
    have hrun := run_append_owned_none (P := P) (w := w) base t o.type e i size ht hi _ n xs hown
    unfold Oper.wp
    simp [execOp, ho, resolve, invoke, builtin, hs, hx, hrun, Result.andThen]
    exact hK' _ _ h2
set_option maxRecDepth 100000 in
set_option maxHeartbeats 4000000 in
theorem borders_walk (Lv : List Int) (oa : Option Addr) (ca : Nat) (hn : Lv.length ≤ 17592186044416) (hna : oa = none → Lv.length = 0 ∧ ca = 0) (N : Nat) (w : World) (hr : RdA w oa Lv) (hT : Tabs N w) (hU : ∀ W, Below w.heap.size w W → Lib.Utf8Tabs 0 1 W) :
    Calls Tryd.prog 6 #[.slice oa Lv.length ca] w fun e w' => e = .returned (.bool true) ∧ Below w.heap.size w w' := by
  obtain ⟨i0, hi0, hz0, hz1, hz2⟩ := info_partsC infoJ
  have hmx : 17592186044416 + 5 ≤ maxLen := by decide
  have HH := hideB (fun (W : World) (hW : Below w.heap.size w W) => head4_any N W (hT.below hW) (fun V hV => hU V (hW.trans (hV.mono hW.size))))
  obtain ⟨n, hn'⟩ : ∃ n, Lv.length = n := ⟨_, rfl⟩
  have HN := hideB hn'
  rw [hn'] at hn hna ⊢
  have HRd := hideB (fun (W : World) (hW : Below w.heap.size w W) => hr.keep hW)
  have HI := hideB (And.intro hi0 (And.intro hz0 (And.intro hz1 hz2)))
  have HNa := hideB hna
  clear hT hU hr hi0 hz0 hz1 hz2 hn' hna
  go_enter Tryd.func6, Tryd.ntmps6
  go_wp2_with fail
  go_loopw [3] (fun v3 wr => ∃ i : Nat, v3 = .int .i64 (i : Nat) ∧ i ≤ n ∧ (∀ x ∈ Lv.take i, 0 ≤ x ∧ x ≤ 255) ∧ wr = w) (fun v3 _ => n - (intOf v3).toNat)
  case atStart => exact ⟨0, rfl, Nat.zero_le _, by simp, rfl⟩
  case round =>
    obtain ⟨i, rfl, hin, hall, hw⟩ := hrel
    subst hw
    by_cases hlt : i < n
    · have di : (i : Int) < (n : Int) := by omega
      obtain ⟨x, hx⟩ : ∃ x, Lv[i]? = some x := ⟨_, List.getElem?_eq_getElem (by rw [HN.out]; omega)⟩
      obtain ⟨g, off, rfl, l0⟩ := HRd.out wr (Below.refl _ _) i x hx
      have wk : IntKind.i64.wrap ((i : Int) + 1) = ((i + 1 : Nat) : Int) := by rw [show ((i + 1 : Nat) : Int) = (i : Int) + 1 by omega]; exact IntWalk.i64_in _ ⟨by omega, by omega⟩
      have HX := hideB (And.intro hx hall)
      clear hx hall
      by_cases hx0 : x < 0
      · go_wp2_with fail
        refine (HH.out wr (Below.refl _ _)).mono ?_
        rintro e w5 ⟨rfl, h5⟩
        go_wp2_with fail
        first | exact ⟨rfl, h5⟩ | (go_ret; exact ⟨rfl, h5⟩)
      · by_cases hx1 : 255 < x
        · go_wp2_with fail
          refine (HH.out wr (Below.refl _ _)).mono ?_
          rintro e w5 ⟨rfl, h5⟩
          go_wp2_with fail
          first | exact ⟨rfl, h5⟩ | (go_ret; exact ⟨rfl, h5⟩)
        · have HA : Hid (∀ y ∈ Lv.take (i + 1), 0 ≤ y ∧ y ≤ 255) := hideB (fun y hy => by
            rw [List.take_add_one, HX.out.1] at hy
            rcases List.mem_append.1 hy with h | h
            · exact HX.out.2 y h
            · obtain rfl : y = x := by simpa using h
              omega)
          go_wp2_with fail
          go_roundw
          case rel => exact ⟨i + 1, by first | rfl | simp, by omega, HA.out, by first | rfl | trivial⟩
          case measure => (simp [intOf] <;> omega)
    · obtain rfl : n = i := by omega
      have d2 : ¬ (n : Int) < (n : Int) := by omega
      rw [List.take_of_length_le (by rw [HN.out]; exact Nat.le_refl _)] at hall
      have HL := hideB hall
      clear hall
      have wn3 : IntKind.i64.wrap ((n : Int) + 3) = ((n + 3 : Nat) : Int) := by rw [show ((n + 3 : Nat) : Int) = (n : Int) + 3 by omega]; exact IntWalk.i64_in _ ⟨by omega, by omega⟩
      have wn1 : IntKind.i64.wrap ((n : Int) + 1) = ((n + 1 : Nat) : Int) := by rw [show ((n + 1 : Nat) : Int) = (n : Int) + 1 by omega]; exact IntWalk.i64_in _ ⟨by omega, by omega⟩
      have dn : (n : Int) < (n : Int) + 1 := by omega
      have hfl : (flatJ Lv).length = n * 1 := by rw [flatJ_len, HN.out, Nat.mul_one]
      have HFl := hideB hfl
      clear hfl
      go_wp2_with (first | (at_make; refine wpList_make_own _ rfl _ _ 31 rfl wr.heap.size 3 i0 _ 1 Tryd.underlying31 HI.out.1 HI.out.2.1 HI.out.2.2.1 .i64 .i64 _ (n + 3) rfl rfl (by simp) (by rw [HI.out.2.2.2]; omega) (by omega) (by omega) ?_; intro w2 own2 gr2; have B2 := Below.grown (Below.refl wr.heap.size wr) gr2 (by omega) (fun k hk => by cases hk); have R2 := HRd.out _ B2) | (at_builtin; refine wpList_append_spareF _ rfl _ _ 31 rfl wr.heap.size 3 i0 1 Tryd.underlying31 HI.out.1 HI.out.2.2.1 wr.heap.size 0 (n + 3) [] rfl own2 oa n ca (flatJ Lv) rfl HNa.out HFl.out (fun ad h => R2.flat h) (flatJ_oneF Lv) (by omega) ?_; intro w3 own3 gr3; rw [Nat.zero_add, List.nil_append] at own3; rw [Nat.zero_add]; clear own2 R2) | (at_builtin; refine wpList_append_own_spare _ rfl _ _ 31 rfl wr.heap.size 3 i0 1 Tryd.underlying31 HI.out.1 HI.out.2.2.1 wr.heap.size n (n + 3) (flatJ Lv) rfl (own3.alloc _) ⟨w3.heap.size, 0, none⟩ 1 1 [.int .i64 (-77)] rfl rfl (World.news_of_block (cs := #[.int .i64 (-77)]) (t := 3) (fr := (0, 0)) (World.alloc_heap_new w3 _)) (by simp [Value.oneCell']) (by omega) ?_; intro w4 own4 gr4; rw [← flatJ_snoc] at own4; have B3 := Below.grown B2 gr3 (by have := gr2.size; omega) (fun k hk => by cases hk; omega); have B4 := Below.grown (B3.alloc (by have := gr2.size; have := gr3.size; omega) _) gr4 (by have := gr2.size; have := gr3.size; rw [World.size_alloc]; omega) (fun k hk => by cases hk; omega); have H4 := hideB (And.intro own4 B4); clear own3 gr2 gr3 gr4 B2 B3 own4 B4))
      have hpre : w4.ownsRow wr.heap.size 3 1 (.slice (some ⟨wr.heap.size, 0, none⟩) n (n + 3)) n (flatJ Lv) := by
        have h9 := own_prefB H4.out.1 (show n ≤ n + 1 by omega)
        rw [show (flatJ (Lv ++ [-77])).take n = flatJ Lv by
          unfold flatJ
          rw [← List.map_take, List.take_left' HN.out]] at h9
        exact h9
      have HM := hideB hpre
      have hO := order_any Lv (some ⟨wr.heap.size, 0, none⟩) (n + 3) (by rw [HN.out]; exact hn) w4 (rdj_of hpre HN.out)
      rw [HN.out] at hO
      clear hpre
      refine Calls.mono hO ?_
      rintro e w5 ⟨v5, rfl, ho5, hb5⟩
      obtain ⟨o5, c5, rfl⟩ : ∃ o c, v5 = .slice o n c := by
        rcases own_formB ho5 with ⟨e, e2⟩ | ⟨g, cap, e⟩
        · exact ⟨none, 0, by rw [e, e2]⟩
        · exact ⟨_, cap, e⟩
      have H5 := hideB (And.intro ho5 hb5)
      clear ho5 hb5 hO
      go_wp2_with fail
      have B5 := bupB H4.out.2 H5.out.2
      have hR := rorder_any Lv HL.out oa ca (by rw [HN.out]; exact hn) w5 (HRd.out w5 B5)
      rw [HN.out] at hR
      refine Calls.mono hR ?_
      rintro e w6 ⟨v6, rfl, ho6, hb6⟩
      obtain ⟨o6, c6, rfl⟩ : ∃ o c, v6 = .slice o n c := by
        rcases own_formB ho6 with ⟨e, e2⟩ | ⟨g, cap, e⟩
        · exact ⟨none, 0, by rw [e, e2]⟩
        · exact ⟨_, cap, e⟩
      have H6 := hideB (And.intro ho6 hb6)
      clear ho6 hb6 hR B5
      have hol : (ordN Lv).length = n := by have := H5.out.1.1; rw [flatJ_len, Nat.mul_one] at this; exact this
      go_wp2_with fail
      have hS := same4_any (ordN Lv) (ordN Lv) o5 o6 c5 c6 (by rw [hol]; exact hn) w6 (RdA.of_own (own_keepB H5.out.1 H6.out.2) hol) (RdA.of_own H6.out.1 hol)
      rw [hol, show decide (ordN Lv = ordN Lv) = true from decide_eq_true rfl] at hS
      refine Calls.mono hS ?_
      rintro e w7 ⟨rfl, hb7⟩
      have B7 := bupB (bupB (bupB H4.out.2 H5.out.2) H6.out.2) hb7
      have M7 := own_keepB HM.out ((bupB (bupB H5.out.2 H6.out.2) hb7))
      have X7 := own_keepB H4.out.1 ((bupB (bupB H5.out.2 H6.out.2) hb7))
      have H7 := hideB (And.intro M7 (And.intro X7 B7))
      clear hb7 hS B7 M7 X7
      go_wp2_with fail
      have hS := same4_any Lv Lv (some ⟨wr.heap.size, 0, none⟩) oa (n + 3) ca (by rw [HN.out]; exact hn) w7 (RdA.of_own H7.out.1 HN.out) (HRd.out w7 H7.out.2.2)
      rw [HN.out, show decide (Lv = Lv) = true from decide_eq_true rfl] at hS
      refine Calls.mono hS ?_
      rintro e w8 ⟨rfl, hb8⟩
      have B8 := bupB H7.out.2.2 hb8
      have l8 := (own_keepB H7.out.2.1 hb8).cellAt n (by omega)
      rw [flatJ_get (show (Lv ++ [-77])[n]? = some (-77) by rw [List.getElem?_append_right (by rw [HN.out]; exact Nat.le_refl _), HN.out, Nat.sub_self]; rfl)] at l8
      clear hb8 hS
      have H8 := hideB B8
      clear B8
      have dcap : n + 1 ≤ n + 3 := by omega
      have dnn : (n : Int) < ((n + 1 : Nat) : Int) := by omega
      go_wp2_with fail
      refine (HH.out w8 H8.out).mono ?_
      rintro e w9 ⟨rfl, hb9⟩
      have H9 := hideB (bupB H8.out hb9)
      clear hb9
      go_wp2_with fail
      first | exact ⟨rfl, H9.out⟩ | (go_ret; exact ⟨rfl, H9.out⟩)
theorem borders_go (L : List Int) (o : Option Addr) (cap : Nat) (hl : L.length ≤ 17592186044416) (hn : o = none → L.length = 0 ∧ cap = 0) (W : World) (hR : RdA W o L) (h : Tabs W.heap.size W ∧ Lib.Utf8Tabs 0 1 W) :
    Calls Tryd.prog 6 #[.slice o L.length cap] W fun e w' => e = .returned (.bool true) ∧ Below W.heap.size W w' :=
  borders_walk L o cap hl hn W.heap.size W hR h.1 (fun _ hV => utf8_belowB h.2 hV)
end Go.Proofs.YtoabdhcchegchaaDoor

/- Order's mathematics: neighbours of one level stay beside each other, turned round as often as their level is high. -/
namespace Go.Proofs.YtoabdhcchegchaaDoor
open Go.RowKit Go.Shelf

/-- What turning all stretches does. -/
theorem turn_all (p : Int → Bool) (C : List Int) : ∀ (f i : Nat) (L : List Int), C.length < f + i → L.length = C.length → (∀ k, i ≤ k → L[k]? = C[k]?) →
    (∀ k, k < i → ((strF p C f i).foldl revC L)[k]? = L[k]?) ∧ (∀ k x, i ≤ k → C[k]? = some x → p x = false → ((strF p C f i).foldl revC L)[k]? = some x) ∧
      (∀ j x y, i ≤ j → C[j]? = some x → C[j + 1]? = some y → p x = true → p y = true → ∃ q : Nat, ((strF p C f i).foldl revC L)[q]? = some y ∧ ((strF p C f i).foldl revC L)[q + 1]? = some x) := by
  intro f
  induction f with
  | zero =>
    intro i L hf hl hk
    refine ⟨fun _ _ => rfl, fun k x h1 h2 _ => ?_, fun j x y h1 h2 _ _ _ => ?_⟩
    · have := (List.getElem?_eq_some_iff.1 h2).1
      omega
    · have := (List.getElem?_eq_some_iff.1 h2).1
      omega
  | succ f ih =>
    intro i L hf hl hk
    rw [strF]
    by_cases hi : i < C.length
    · rw [if_pos hi]
      have hge := endAt_ge p C i
      have hle := endAt_le p C i (by omega)
      obtain ⟨e, he⟩ : ∃ e, endAt p C i = e := ⟨_, rfl⟩
      have hin : ∀ j x, i ≤ j → j < e → C[j]? = some x → p x = true := fun j x h1 h2 h3 => endAt_in h1 (by rw [he]; exact h2) h3
      have hst : ∀ x, C[e]? = some x → p x = false := fun x h => endAt_stop (i := i) (by rw [he]; exact h)
      rw [he] at hge hle ⊢
      rw [List.foldl_append]
      obtain ⟨M, hM⟩ : ∃ M, (if i < e then [(i, e)] else []).foldl revC L = M := ⟨_, rfl⟩
      have hMl : M.length = C.length := by
        rw [← hM]
        split
        · show (revC L (i, e)).length = _
          rw [revC_len (x := (i, e)) hge (by show e ≤ _; omega), hl]
        · exact hl
      have hMf : ∀ k, e ≤ k → M[k]? = C[k]? := fun k h => by
        rw [← hM]
        split
        · show (revC L (i, e))[k]? = _
          rw [revC_far (x := (i, e)) hge (by show e ≤ _; omega) h]
          exact hk k (by omega)
        · exact hk k (by omega)
      have hMb : ∀ k, k < i → M[k]? = L[k]? := fun k h => by
        rw [← hM]
        split
        · show (revC L (i, e))[k]? = _
          rw [revC_get hge (by omega), if_neg (by omega)]
        · rfl
      have hMi : ∀ k, i ≤ k → k < e → M[k]? = C[i + e - 1 - k]? := fun k h1 h2 => by
        rw [← hM, if_pos (by omega)]
        show (revC L (i, e))[k]? = _
        rw [revC_get hge (by omega), if_pos ⟨h1, h2⟩]
        exact hk _ (by omega)
      rw [hM]
      obtain ⟨a1, a2, a3⟩ := ih (e + 1) M (by omega) hMl (fun k h => hMf k (by omega))
      refine ⟨fun k h => ?_, fun k x h1 h2 h3 => ?_, fun j x y h1 h2 h3 h4 h5 => ?_⟩
      · rw [a1 k (by omega)]
        exact hMb k h
      · by_cases hk2 : k < e + 1
        · have hke : k = e := by
            rcases Nat.lt_or_ge k e with h | h
            · have := hin k x h1 h h2
              rw [h3] at this
              cases this
            · omega
          subst hke
          rw [a1 k hk2, hMf k (Nat.le_refl _)]
          exact h2
        · exact a2 k x (by omega) h2 h3
      · by_cases hj : j < e + 1
        · have hj1 : j + 1 < e := by
            rcases Nat.lt_trichotomy j e with h | h | h
            · rcases Nat.lt_or_ge (j + 1) e with h6 | h6
              · exact h6
              · have : j + 1 = e := by omega
                rw [this] at h3
                have := hst y h3
                rw [h5] at this
                cases this
            · subst h
              have := hst x h2
              rw [h4] at this
              cases this
            · omega
          refine ⟨i + e - 1 - (j + 1), ?_, ?_⟩
          · rw [a1 _ (by omega), hMi _ (by omega) (by omega), show i + e - 1 - (i + e - 1 - (j + 1)) = j + 1 by omega]
            exact h3
          · rw [a1 _ (by omega), hMi _ (by omega) (by omega), show i + e - 1 - (i + e - 1 - (j + 1) + 1) = j by omega]
            exact h2
        · exact a3 j x y (by omega) h2 h3 h4 h5
    · rw [if_neg hi]
      refine ⟨fun _ _ => rfl, fun k x h1 h2 _ => ?_, fun j x y h1 h2 _ _ _ => ?_⟩
      · have := (List.getElem?_eq_some_iff.1 h2).1
        omega
      · have := (List.getElem?_eq_some_iff.1 h2).1
        omega
/-- x, and y next to it. -/
def NextTo (C : List Int) (x y : Int) : Prop := ∃ q : Nat, C[q]? = some x ∧ C[q + 1]? = some y
/-- The same, turned round t times. -/
def NextT (C : List Int) (x y : Int) (t : Nat) : Prop := if t % 2 = 0 then NextTo C x y else NextTo C y x
theorem nextTo_turn {p : Int → Bool} {C : List Int} {x y : Int} (hp : p x = p y) (h : NextTo C x y) : if p x = true then NextTo ((strF p C (C.length + 1) 0).foldl revC C) y x else NextTo ((strF p C (C.length + 1) 0).foldl revC C) x y := by
  obtain ⟨q, h1, h2⟩ := h
  obtain ⟨_, a2, a3⟩ := turn_all p C (C.length + 1) 0 C (by omega) rfl (fun _ _ => rfl)
  by_cases hx : p x = true
  · rw [if_pos hx]
    exact a3 q x y (Nat.zero_le _) h1 h2 hx (by rw [← hp]; exact hx)
  · rw [if_neg hx]
    have hx : p x = false := by simpa using hx
    exact ⟨q, a2 q x (Nat.zero_le _) h1 hx, a2 (q + 1) y (Nat.zero_le _) h2 (by rw [← hp]; exact hx)⟩
theorem nextT_turn {Lv C : List Int} {e : Int} {x y : Int} {t : Nat} (hp : lvlP Lv e x = lvlP Lv e y) (h : NextT C x y t) : NextT (ordS Lv C e) x y (if lvlP Lv e x = true then t + 1 else t) := by
  unfold NextT at h ⊢
  unfold ordS
  by_cases ht : t % 2 = 0
  · rw [if_pos ht] at h
    have h2 := nextTo_turn hp h
    by_cases hx : lvlP Lv e x = true
    · rw [if_pos hx] at h2 ⊢
      rw [if_neg (by omega)]
      exact h2
    · rw [if_neg hx] at h2 ⊢
      rw [if_pos ht]
      exact h2
  · rw [if_neg ht] at h
    have h2 := nextTo_turn hp.symm h
    rw [← hp] at h2
    by_cases hx : lvlP Lv e x = true
    · rw [if_pos hx] at h2 ⊢
      rw [if_pos (by omega)]
      exact h2
    · rw [if_neg hx] at h2 ⊢
      rw [if_neg ht]
      exact h2
theorem nextT_ordF {Lv : List Int} {x y : Int} {v : Nat} (hx : (Lv[x.toNat]?).getD 0 = (v : Int)) (hy : (Lv[y.toNat]?).getD 0 = (v : Int)) : ∀ (k : Nat) (C : List Int) (t : Nat), NextT C x y t → NextT (ordF Lv k C) x y (t + min k v)
  | 0, C, t, h => by
    rw [Nat.zero_min]
    exact h
  | k + 1, C, t, h => by
    rw [ordF]
    have hp : lvlP Lv ((k : Int) + 1) x = lvlP Lv ((k : Int) + 1) y := by unfold lvlP; rw [hx, hy]
    have h2 := nextT_turn hp h
    have h3 := nextT_ordF hx hy k _ _ h2
    have e : (if lvlP Lv ((k : Int) + 1) x = true then t + 1 else t) + min k v = t + min (k + 1) v := by
      unfold lvlP
      rw [hx]
      simp only [decide_eq_true_eq]
      split <;> omega
    rw [e] at h3
    exact h3
theorem mx_ge : ∀ (L : List Int) (g x : Int), 0 ≤ x → x ≤ 255 → (x ≤ g ∨ x ∈ L) → x ≤ L.foldl mxS g
  | [], g, x, _, _, h => by
    rcases h with h | h
    · exact h
    · cases h
  | y :: L, g, x, h0, h1, h => by
    refine mx_ge L (mxS g y) x h0 h1 ?_
    rcases h with h | h
    · exact .inl (by unfold mxS; omega)
    · rcases List.mem_cons.1 h with e | h
      · subst e
        exact .inl (by unfold mxS; omega)
      · exact .inr h
/-- Neighbours of one level in what Order tells. -/
theorem ordN_next {Lv : List Int} {i v : Nat} (hv : v ≤ 255) (hx : Lv[i]? = some (v : Int)) (hy : Lv[i + 1]? = some (v : Int)) : NextT (ordN Lv) (i : Int) ((i + 1 : Nat) : Int) v := by
  have hl := (List.getElem?_eq_some_iff.1 hy).1
  have h0 : NextT (idL Lv.length) (i : Int) ((i + 1 : Nat) : Int) 0 := by
    refine ⟨i, ?_, ?_⟩
    · unfold idL
      rw [List.getElem?_map, List.getElem?_range (by omega)]
      rfl
    · unfold idL
      rw [List.getElem?_map, List.getElem?_range (by omega)]
      rfl
  have h1 := nextT_ordF (Lv := Lv) (x := (i : Int)) (y := ((i + 1 : Nat) : Int)) (v := v) (by rw [Int.toNat_natCast, hx]; rfl) (by rw [Int.toNat_natCast, hy]; rfl) (mxL Lv).toNat _ 0 h0
  have h2 : (v : Int) ≤ mxL Lv := mx_ge Lv 0 v (by omega) (by omega) (.inr (List.mem_of_getElem? hx))
  have h3 := mxL_le Lv
  rw [show 0 + min (mxL Lv).toNat v = v by omega] at h1
  exact h1
theorem idL_nodup (n : Nat) : (idL n).Nodup := by
  unfold idL
  refine List.pairwise_map.2 (List.Pairwise.imp ?_ (List.nodup_range (n := n)))
  intro a b h e
  exact h (by omega)
theorem ordN_nodup (Lv : List Int) : (ordN Lv).Nodup := ((ordN_perm Lv).nodup_iff).2 (idL_nodup _)
theorem nodup_at {L : List Int} (h : L.Nodup) {a b : Nat} {x : Int} (ha : L[a]? = some x) (hb : L[b]? = some x) : a = b := by
  obtain ⟨la, ea⟩ := List.getElem?_eq_some_iff.1 ha
  obtain ⟨lb, eb⟩ := List.getElem?_eq_some_iff.1 hb
  rcases Nat.lt_trichotomy a b with hl | hl | hl
  · exact absurd (ea.trans eb.symm) (List.pairwise_iff_getElem.1 h a b la lb hl)
  · exact hl
  · exact absurd (eb.trans ea.symm) (List.pairwise_iff_getElem.1 h b a lb la hl)
theorem ordN_mem {Lv : List Int} {x : Nat} (h : x < Lv.length) : ∃ q : Nat, q < Lv.length ∧ (ordN Lv)[q]? = some (x : Int) := by
  have h1 : (x : Int) ∈ idL Lv.length := List.mem_map.2 ⟨x, List.mem_range.2 h, rfl⟩
  have h2 := (ordN_perm Lv).symm.subset h1
  obtain ⟨q, hq, e⟩ := List.getElem_of_mem h2
  exact ⟨q, by rw [ordN_len] at hq; exact hq, by rw [List.getElem?_eq_getElem hq, e]⟩
/-- The places of neighbours of one level: what the statement asks. -/
theorem place_next {Lv P : List Int} (hP : ∀ (k : Nat) (x : Int), (ordN Lv)[k]? = some x → P[x.toNat]? = some (k : Int)) {i : Nat} {v : Int} (hv : 0 ≤ v ∧ v ≤ 255) (hx : Lv[i]? = some v) (hy : Lv[i + 1]? = some v) : ∃ a b : Int, P[i]? = some a ∧ P[i + 1]? = some b ∧ (0 ≤ a ∧ a < Lv.length) ∧ (0 ≤ b ∧ b < Lv.length) ∧ b - a = 1 - 2 * v.tmod 2 := by
  obtain ⟨u, rfl⟩ : ∃ u : Nat, v = (u : Int) := ⟨v.toNat, by omega⟩
  have h := ordN_next (by omega) hx hy
  unfold NextT at h
  have hm : ((u : Int)).tmod 2 = ((u % 2 : Nat) : Int) := rfl
  split at h
  · obtain ⟨q, h1, h2⟩ := h
    have l1 := (List.getElem?_eq_some_iff.1 h2).1
    rw [ordN_len] at l1
    refine ⟨_, _, hP q _ h1, hP (q + 1) _ h2, by omega, by omega, ?_⟩
    rw [hm]
    omega
  · obtain ⟨q, h1, h2⟩ := h
    have l1 := (List.getElem?_eq_some_iff.1 h2).1
    rw [ordN_len] at l1
    refine ⟨_, _, hP (q + 1) _ h2, hP q _ h1, by omega, by omega, ?_⟩
    rw [hm]
    omega
end Go.Proofs.YtoabdhcchegchaaDoor

/- BidiPermutes: the walk. -/
namespace Go.Proofs.YtoabdhcchegchaaDoor
open Go.RowKit Go.Shelf

theorem own_setOther {W : World} {base : Nat} {e : TypeId} {g n cap : Nat} {xs : List Value} (h : W.ownsRow base e 1 (.slice (some ⟨g, 0, none⟩) n cap) n xs) {h2 k : Nat} (hne : g ≠ h2) (x : Value) : (W.setCell ⟨h2, k, none⟩ x).ownsRow base e 1 (.slice (some ⟨g, 0, none⟩) n cap) n xs := by
  refine ⟨h.1, ?_⟩
  rcases h.2 with ⟨q, _⟩ | ⟨g1, cap1, cur, q, hb, hg, rest⟩
  · cases q
  · cases q
    exact .inr ⟨g, cap, cur, rfl, hb, (Below.heap_setCell W ⟨h2, k, none⟩ x g hne).trans hg, rest⟩
theorem flatJ_zerosP (n : Nat) : flatJ (List.replicate n 0) = List.replicate n (.int .i64 0) := by unfold flatJ; rw [List.map_replicate]
theorem ordN_in {Lv : List Int} {k : Nat} {x : Int} (h : (ordN Lv)[k]? = some x) : 0 ≤ x ∧ x < (Lv.length : Nat) := idL_mem ((ordN_perm Lv).subset (List.mem_of_getElem? h))
set_option maxRecDepth 100000 in
set_option maxHeartbeats 4000000 in
theorem bpermutes_walk (Lv : List Int) (oa : Option Addr) (ca : Nat) (hn : Lv.length ≤ 17592186044416) (hna : oa = none → Lv.length = 0 ∧ ca = 0) (N : Nat) (w : World) (hr : RdA w oa Lv) (hT : Tabs N w) (hU : ∀ W, Below w.heap.size w W → Lib.Utf8Tabs 0 1 W) :
    Calls Tryd.prog 7 #[.slice oa Lv.length ca] w fun e w' => e = .returned (.bool true) ∧ Below w.heap.size w w' := by
  obtain ⟨i0, hi0, hz0, hz1, hz2⟩ := info_partsC infoJ
  have hmx : 17592186044416 + 5 ≤ maxLen := by decide
  have HH := hideB (fun (W : World) (hW : Below w.heap.size w W) => head4_any N W (hT.below hW) (fun V hV => hU V (hW.trans (hV.mono hW.size))))
  obtain ⟨n, hn'⟩ : ∃ n, Lv.length = n := ⟨_, rfl⟩
  have HN := hideB hn'
  rw [hn'] at hn hna ⊢
  have HRd := hideB (fun (W : World) (hW : Below w.heap.size w W) => hr.keep hW)
  have HI := hideB (And.intro hi0 (And.intro hz0 (And.intro hz1 hz2)))
  have HNa := hideB hna
  clear hT hU hr hi0 hz0 hz1 hz2 hn' hna
  go_enter Tryd.func7, Tryd.ntmps7
  go_wp2_with fail
  go_loopw [3] (fun v3 wr => ∃ i : Nat, v3 = .int .i64 (i : Nat) ∧ i ≤ n ∧ (∀ x ∈ Lv.take i, 0 ≤ x ∧ x ≤ 255) ∧ wr = w) (fun v3 _ => n - (intOf v3).toNat)
  case atStart => exact ⟨0, rfl, Nat.zero_le _, by simp, rfl⟩
  case round =>
    obtain ⟨i, rfl, hin, hall, hw⟩ := hrel
    subst hw
    by_cases hlt : i < n
    · have di : (i : Int) < (n : Int) := by omega
      obtain ⟨x, hx⟩ : ∃ x, Lv[i]? = some x := ⟨_, List.getElem?_eq_getElem (by rw [HN.out]; omega)⟩
      obtain ⟨g, off, rfl, l0⟩ := HRd.out wr (Below.refl _ _) i x hx
      have wk : IntKind.i64.wrap ((i : Int) + 1) = ((i + 1 : Nat) : Int) := by rw [show ((i + 1 : Nat) : Int) = (i : Int) + 1 by omega]; exact IntWalk.i64_in _ ⟨by omega, by omega⟩
      have HX := hideB (And.intro hx hall)
      clear hx hall
      by_cases hx0 : x < 0
      · go_wp2_with fail
        refine (HH.out wr (Below.refl _ _)).mono ?_
        rintro e w5 ⟨rfl, h5⟩
        go_wp2_with fail
        first | exact ⟨rfl, h5⟩ | (go_ret; exact ⟨rfl, h5⟩)
      · by_cases hx1 : 255 < x
        · go_wp2_with fail
          refine (HH.out wr (Below.refl _ _)).mono ?_
          rintro e w5 ⟨rfl, h5⟩
          go_wp2_with fail
          first | exact ⟨rfl, h5⟩ | (go_ret; exact ⟨rfl, h5⟩)
        · have HA : Hid (∀ y ∈ Lv.take (i + 1), 0 ≤ y ∧ y ≤ 255) := hideB (fun y hy => by
            rw [List.take_add_one, HX.out.1] at hy
            rcases List.mem_append.1 hy with h | h
            · exact HX.out.2 y h
            · obtain rfl : y = x := by simpa using h
              omega)
          go_wp2_with fail
          go_roundw
          case rel => exact ⟨i + 1, by first | rfl | simp, by omega, HA.out, by first | rfl | trivial⟩
          case measure => (simp [intOf] <;> omega)
    · obtain rfl : n = i := by omega
      have d2 : ¬ (n : Int) < (n : Int) := by omega
      rw [List.take_of_length_le (by rw [HN.out]; exact Nat.le_refl _)] at hall
      have HL := hideB hall
      clear hall
      have HL2 := HL
      have hO := order_any Lv oa ca (by rw [HN.out]; exact hn) wr (HRd.out wr (Below.refl _ _))
      rw [HN.out] at hO
      have wn0 : IntKind.i64.wrap (n : Int) = (n : Int) := IntWalk.i64_in _ ⟨by omega, by omega⟩
      have d0 : ((n : Int) != (n : Int)) = false := by simp
      go_wp2_with fail
      refine Calls.mono hO ?_
      rintro e w1 ⟨v1, rfl, ho1, hb1⟩
      have hlen : (ordN Lv).length = n := by rw [ordN_len, HN.out]
      obtain ⟨ol, cl, rfl⟩ : ∃ o c, v1 = .slice o n c := by
        rcases own_formB ho1 with ⟨e, e2⟩ | ⟨g, cap, e⟩
        · exact ⟨none, 0, by rw [e, e2]⟩
        · exact ⟨_, cap, e⟩
      have H1 := hideB (And.intro (RdA.of_own ho1 hlen) hb1)
      clear ho1 hb1 hO
      go_wp2_with (at_make; first | (refine wpList_make_full _ rfl _ _ 31 rfl w1.heap.size 3 i0 (.int .i64 0) 1 Tryd.underlying31 HI.out.1 HI.out.2.1 HI.out.2.2.1 .i64 .i64 _ _ n rfl rfl rfl rfl (by rw [HI.out.2.2.2]; omega) (by omega) (Nat.le_refl _) ?_; intro w2 own2 gr2; have H2 := hideB (And.intro own2 gr2); clear own2 gr2; obtain ⟨g1, hg1⟩ : ∃ g1, w1.heap.size = g1 := ⟨_, rfl⟩; have HG1 := hideB hg1; rw [hg1] at H2 ⊢; clear hg1) | (refine wpList_make_full _ rfl _ _ 31 rfl w2.heap.size 3 i0 (.int .i64 0) 1 Tryd.underlying31 HI.out.1 HI.out.2.1 HI.out.2.2.1 .i64 .i64 _ _ n rfl rfl rfl rfl (by rw [HI.out.2.2.2]; omega) (by omega) (Nat.le_refl _) ?_; intro w3 own3 gr3; have H3 := hideB (And.intro own3 gr3); clear own3 gr3; obtain ⟨g2, hg2⟩ : ∃ g2, w2.heap.size = g2 := ⟨_, rfl⟩; have HG2 := hideB hg2; rw [hg2] at H3 ⊢; clear hg2))
      have hz : ∀ {W : World} {b : Nat} {v : Value}, W.ownsRow b 3 1 v n (madeCells (Value.int .i64 0).cells (n * 1)).toList → W.ownsRow b 3 1 v n (flatJ (List.replicate n 0)) := fun h => by
        rw [Nat.mul_one, show (Value.int .i64 0).cells = #[Value.int .i64 0] from rfl, toList_madeCells_one] at h
        rw [flatJ_zerosP]
        exact h
      have hg12 : g1 < g2 := by have := (H2.out.1.lt g1 (by simp [Value.ownBlock])).2; rw [HG2.out] at this; exact this
      have bA : Below w1.heap.size w1 w2 := Below.grown (Below.refl _ _) H2.out.2 (Nat.le_refl _) (fun k hk => by cases hk)
      have bB : Below w2.heap.size w2 w3 := Below.grown (Below.refl _ _) H3.out.2 (Nat.le_refl _) (fun k hk => by cases hk)
      have HS0 := hideB (And.intro (own_keepB (hz H2.out.1) bB) (And.intro (hz H3.out.1) (bupB bA bB)))
      have HG := hideB (And.intro (show w1.heap.size ≤ g1 from Nat.le_of_eq HG1.out) (show w1.heap.size ≤ g2 by have := HG1.out; omega))
      have HLn := hideB hlen
      clear hz bA bB H2 H3 HG1 HG2 hlen
      go_wp2_with fail
      go_loopw [7] (fun v7 wx => ∃ (i : Nat) (S P : List Int), v7 = .int .i64 (i : Nat) ∧ i ≤ n ∧ S.length = n ∧ P.length = n ∧ Hid (∀ (k : Nat) (x : Int), i ≤ k → (ordN Lv)[k]? = some x → S[x.toNat]? = some 0) ∧ Hid (∀ (k : Nat) (x : Int), k < i → (ordN Lv)[k]? = some x → P[x.toNat]? = some (k : Int)) ∧ wx.ownsRow g1 3 1 (.slice (some ⟨g1, 0, none⟩) n n) n (flatJ S) ∧ wx.ownsRow g2 3 1 (.slice (some ⟨g2, 0, none⟩) n n) n (flatJ P) ∧ Below w1.heap.size w1 wx) (fun v7 _ => n - (intOf v7).toNat)
      case atStart =>
        refine ⟨0, _, _, rfl, Nat.zero_le _, List.length_replicate .., List.length_replicate .., hideB (fun k x _ hx => ?_), hideB (fun k x h => absurd h (Nat.not_lt_zero _)), HS0.out⟩
        have h9 := ordN_in hx
        rw [HN.out] at h9
        rw [List.getElem?_replicate, if_pos (by omega)]
      case round =>
        obtain ⟨i, S, P, rfl, hin2, hSl, hPl, HSe, HPl, hoS, hoP, hbl⟩ := hrel
        obtain ⟨wq, rfl⟩ : ∃ wq, wq = wr := ⟨_, rfl⟩
        by_cases hlt2 : i < n
        · have di : (i : Int) < (n : Int) := by omega
          obtain ⟨x, hx⟩ : ∃ x, (ordN Lv)[i]? = some x := ⟨_, List.getElem?_eq_getElem (by rw [HLn.out]; exact hlt2)⟩
          have hxb := ordN_in hx
          rw [HN.out] at hxb
          obtain ⟨y, rfl⟩ : ∃ y : Nat, x = (y : Int) := ⟨x.toNat, by omega⟩
          have hyn : y < n := by omega
          have dy : (y : Int) < (n : Int) := by omega
          obtain ⟨gl, fl, rfl, l0⟩ := H1.out.1 i _ hx
          have hgl : gl < w1.heap.size := World.block_lt_of_cell? _ _ l0
          have hSy : S[y]? = some 0 := HSe.out i _ (Nat.le_refl _) hx
          have k0 := hoS.cellAt y (by omega)
          rw [flatJ_get hSy] at k0
          have f0 := hoS.frozenAt y
          obtain ⟨z, hz⟩ : ∃ z, P[y]? = some z := ⟨_, List.getElem?_eq_getElem (by omega)⟩
          have s1 := (hoS.stored y (.int .i64 1)).1
          have p1 := own_setOther (k := y) hoP (show g2 ≠ g1 by omega) (.int .i64 1)
          have k1 := p1.cellAt y (by omega)
          rw [flatJ_get hz] at k1
          have f1 := p1.frozenAt y
          have s2 := own_setOther (k := y) s1 (show g1 ≠ g2 by omega) (.int .i64 (i : Int))
          have p2 := (p1.stored y (.int .i64 (i : Int))).1
          rw [← flatJ_set] at s2 p2
          have l1 : wq.cell? ⟨gl, fl + i, none⟩ = some (.int .i64 (y : Int)) := (hbl.cell (p := ⟨gl, fl + i, none⟩) hgl).trans l0
          have b1 := hbl.setCell (p := ⟨g1, y, none⟩) HG.out.1 (.int .i64 1)
          have l2 : (wq.setCell ⟨g1, y, none⟩ (.int .i64 1)).cell? ⟨gl, fl + i, none⟩ = some (.int .i64 (y : Int)) := (b1.cell (p := ⟨gl, fl + i, none⟩) hgl).trans l0
          have b2 := b1.setCell (p := ⟨g2, y, none⟩) HG.out.2 (.int .i64 (i : Int))
          have wk : IntKind.i64.wrap ((i : Int) + 1) = ((i + 1 : Nat) : Int) := by rw [show ((i + 1 : Nat) : Int) = (i : Int) + 1 by omega]; exact IntWalk.i64_in _ ⟨by omega, by omega⟩
          have HQ := hideB (And.intro s2 (And.intro p2 b2))
          have HX := hideB hx
          clear hoS hoP hbl hx hz hSy s1 p1 s2 p2 b1 b2 l0
          go_wp2_with fail
          go_roundw
          case rel =>
            refine ⟨i + 1, S.set y 1, P.set y (i : Int), by first | rfl | simp, by omega, by rw [List.length_set]; exact hSl, by rw [List.length_set]; exact hPl, hideB (fun k x hk hx => ?_), hideB (fun k x hk hx => ?_), HQ.out⟩
            · rw [List.getElem?_set, if_neg (fun e => ?_)]
              · exact HSe.out k x (by omega) hx
              · have h8 := ordN_in hx
                have h9 : x = (y : Int) := by omega
                rw [h9] at hx
                have := nodup_at (ordN_nodup Lv) hx HX.out
                omega
            · by_cases hki : k = i
              · subst hki
                obtain rfl : x = (y : Int) := Option.some.inj (hx.symm.trans HX.out)
                rw [List.getElem?_set, if_pos (by simp), if_pos (by omega)]
              · rw [List.getElem?_set, if_neg (fun e => ?_)]
                · exact HPl.out k x (by omega) hx
                · have h8 := ordN_in hx
                  have h9 : x = (y : Int) := by omega
                  rw [h9] at hx
                  exact hki (nodup_at (ordN_nodup Lv) hx HX.out)
          case measure => (simp [intOf] <;> omega)
        · obtain rfl : n = i := by omega
          have d2 : ¬ (n : Int) < (n : Int) := by omega
          have HPa : Hid (∀ (k : Nat) (x : Int), (ordN Lv)[k]? = some x → P[x.toNat]? = some (k : Int)) := hideB (fun k x hx => HPl.out k x (by have := (List.getElem?_eq_some_iff.1 hx).1; rw [HLn.out] at this; exact this) hx)
          have HQ := hideB (And.intro (RdA.of_own hoP hPl) (bupB H1.out.2 hbl))
          clear hoS hoP hbl HSe HPl
          go_wp2_with fail
          go_loopw [8] (fun v8 wx => ∃ i : Nat, v8 = .int .i64 ((i + 1 : Nat) : Int) ∧ (i + 1 ≤ n ∨ i = 0) ∧ Below wq.heap.size wq wx) (fun v8 _ => n - (intOf v8).toNat)
          case atStart => exact ⟨0, rfl, .inr rfl, Below.refl _ _⟩
          case round =>
            obtain ⟨i, rfl, hin3, hbl⟩ := hrel
            obtain ⟨wz, rfl⟩ : ∃ wz, wz = wr := ⟨_, rfl⟩
            by_cases hlt3 : i + 1 < n
            · have di : ((i + 1 : Nat) : Int) < (n : Int) := by omega
              have di0 : (i : Int) < (n : Int) := by omega
              have dp : (0 : Int) ≤ (i : Int) + 1 := by omega
              have wi : IntKind.i64.wrap (i : Int) = (i : Int) := IntWalk.i64_in _ ⟨by omega, by omega⟩
              obtain ⟨a, ha⟩ : ∃ a, Lv[i]? = some a := ⟨_, List.getElem?_eq_getElem (by rw [HN.out]; omega)⟩
              obtain ⟨b, hb⟩ : ∃ b, Lv[i + 1]? = some b := ⟨_, List.getElem?_eq_getElem (by rw [HN.out]; omega)⟩
              have hR := HRd.out wz (bupB HQ.out.2 hbl)
              obtain ⟨gv, fv, rfl, l1⟩ := hR i a ha
              obtain ⟨gv2, fv2, e2, l2⟩ := hR (i + 1) b hb
              cases e2
              have wm : IntKind.i64.wrap (((i + 1 : Nat) : Int) - 1) = (i : Int) := by rw [show ((i + 1 : Nat) : Int) - 1 = (i : Int) by omega]; exact IntWalk.i64_in _ ⟨by omega, by omega⟩
              have wk : IntKind.i64.wrap (((i + 1 : Nat) : Int) + 1) = ((i + 1 + 1 : Nat) : Int) := by rw [show ((i + 1 + 1 : Nat) : Int) = ((i + 1 : Nat) : Int) + 1 by omega]; exact IntWalk.i64_in _ ⟨by omega, by omega⟩
              have hab := HL.out a (List.mem_of_getElem? ha)
              by_cases heq : b = a
              · subst heq
                obtain ⟨pa, pb, hpa, hpb, ba, bb, hd⟩ := place_next HPa.out hab ha hb
                rw [HN.out] at ba bb
                have hP := HQ.out.1.keep hbl
                obtain ⟨gp, fp, ep, l3⟩ := hP i pa hpa
                cases ep
                obtain ⟨gp2, fp2, ep, l4⟩ := hP (i + 1) pb hpb
                cases ep
                rw [Nat.zero_add] at l3 l4
                obtain ⟨t2, ht2⟩ : ∃ t, b.tmod 2 = t := ⟨_, rfl⟩
                have htm : 0 ≤ t2 ∧ t2 < 2 := by rw [← ht2]; exact ⟨Int.tmod_nonneg _ hab.1, Int.tmod_lt_of_pos _ (by omega)⟩
                rw [ht2] at hd
                have wt : IntKind.i64.wrap t2 = t2 := IntWalk.i64_in _ ⟨by omega, by omega⟩
                have wt2 : IntKind.i64.wrap (2 * t2) = 2 * t2 := IntWalk.i64_in _ ⟨by omega, by omega⟩
                have wt3 : IntKind.i64.wrap (1 - 2 * t2) = 1 - 2 * t2 := IntWalk.i64_in _ ⟨by omega, by omega⟩
                have wd : IntKind.i64.wrap (pb - pa) = 1 - 2 * t2 := by rw [hd]; exact wt3
                clear hab htm
                have HBl := hideB hbl
                clear hbl hR hP ha hb hpa hpb ba bb hd
                go_upto_region 21 with fail
                go_quiet (fail)
                have HB2 := hideB (below_drewN HBl.out nq)
                generalize wz.drewN nq = W at *
                clear l1 l2 l3 l4
                go_wp2_with fail
                go_roundw
                case rel => exact ⟨i + 1, by first | rfl | simp, .inl (by omega), HB2.out⟩
                case measure => (simp [intOf] <;> omega)
              · have bne : (b == a) = false := by simp [heq]
                have HBl := hideB hbl
                clear hbl hR ha hb
                go_upto_region 21 with fail
                go_quiet (fail)
                have HB2 := hideB (below_drewN HBl.out nq)
                generalize wz.drewN nq = W at *
                clear l1 l2
                go_wp2_with fail
                go_roundw
                case rel => exact ⟨i + 1, by first | rfl | simp, .inl (by omega), HB2.out⟩
                case measure => (simp [intOf] <;> omega)
            · have d2 : ¬ ((i + 1 : Nat) : Int) < (n : Int) := by omega
              have H9 := hideB (bupB HQ.out.2 hbl)
              clear hbl
              go_wp2_with fail
              refine (HH.out wz H9.out).mono ?_
              rintro e w9 ⟨rfl, hb9⟩
              have H10 := hideB (bupB H9.out hb9)
              clear hb9
              go_wp2_with fail
              first | exact ⟨rfl, H10.out⟩ | (go_ret; exact ⟨rfl, H10.out⟩)
theorem bpermutes_go (L : List Int) (o : Option Addr) (cap : Nat) (hl : L.length ≤ 17592186044416) (hn : o = none → L.length = 0 ∧ cap = 0) (W : World) (hR : RdA W o L) (h : Tabs W.heap.size W ∧ Lib.Utf8Tabs 0 1 W) :
    Calls Tryd.prog 7 #[.slice o L.length cap] W fun e w' => e = .returned (.bool true) ∧ Below W.heap.size W w' :=
  bpermutes_walk L o cap hl hn W.heap.size W hR h.1 (fun _ hV => utf8_belowB h.2 hV)
end Go.Proofs.YtoabdhcchegchaaDoor
