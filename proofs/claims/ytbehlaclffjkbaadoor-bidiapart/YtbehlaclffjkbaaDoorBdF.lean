/- bidi: a text's classes, cluster by cluster (chapter 4). -/
import Derived.Test.YtbehlaclffjkbaaDoorBdB
import Derived.Test.YtbehlaclffjkbaaDoorBdE
import Derived.Test.YtbehlaclffjkbaaDoorBdL
import Derived.Test.YtbehlaclffjkbaaDoorCellA
import Derived.Test.YtbehlaclffjkbaaDoorLawR
import Derived.Test.YtbehlaclffjkbaaDoorCellM3
import Derived.Sort.CutIn
import Derived.Deep.AppendLies
namespace Go.Proofs.YtbehlaclffjkbaaDoor
open Go.RowKit Go.Shelf
attribute [local go_sem] Oper.semAt_some

/-- A cluster's first rune; the classes of a text's clusters. -/
def firR (s : ByteArray) (x : Cl) : Int := (Lib.decodeGo (s.extract x.loc.toNat s.size)).1
def clsS (s : ByteArray) : List Int := (clusters s).map fun x => classI (firR s x)
def flatJ (C : List Int) : List Value := C.map fun c => .int .i64 c
theorem flatJ_snoc (C : List Int) (c : Int) : flatJ (C ++ [c]) = flatJ C ++ [.int .i64 c] := by simp [flatJ]
theorem lens_nnB : ∀ (l : List Cl) (a b : Int), Chain l a b → 0 ≤ lensOf l
  | [], _, _, _ => by simp [lensOf]
  | c :: r, a, b, h => by
    have h2 : 1 ≤ c.len := h.1.2.1
    have h3 := lens_nnB r _ _ h.2
    show 0 ≤ c.len + lensOf r
    omega
theorem infoJ : (Tryd.prog.info? 3).map (fun i => (i.zero, i.size, i.bytes)) = some (some (.int .i64 0), 1, 8) := by kernel_rfl
set_option maxRecDepth 100000 in
set_option maxHeartbeats 4000000 in
theorem classesOf_any (s : ByteArray) (hs : s.size ≤ 2097152) (N : Nat) (w : World) (hT : Tabs N w) (hU : ∀ W, Below w.heap.size w W → Lib.Utf8Tabs 0 1 W) :
    Calls Tryd.prog 9 #[.string s] w fun e w' => ∃ v, e = .returned v ∧ w'.ownsRow w.heap.size 3 1 v (clsS s).length (flatJ (clsS s)) ∧ Below w.heap.size w w' := by
  obtain ⟨i0, hi, hz0, hz1, hz2⟩ := info_partsC infoJ
  have hsq := seq_some
  have HU := hideB hU
  clear hU
  refine (callsIn_wide (n := 9)).1 ?_
  refine callsIn_of_wp_marks Tryd.func9 rfl trivial ?_ rfl
  simp only [Tryd.ntmps9, List.size_toArray, List.length_cons, List.length_nil, Nat.reduceAdd, Nat.reduceSub, Array.replicate_succ, Array.replicate_zero, List.push_toArray, List.append_toArray, List.nil_append, List.cons_append]
  gi_wp2_with (refine ⟨trivial, ?_⟩; gi_at_call 12; refine (callsIn_wide.2 (clusters_mk _ _)).mono ?_; rintro e w' ⟨rfl, rfl⟩)
  obtain ⟨V, hV⟩ : ∃ V, ((w.alloc (.cells #[.string s] 9)).alloc (.cells #[.slice none 0 0] 23)).alloc (.cells #[.string s] 9) = V := ⟨_, rfl⟩
  have b0 : Boxed V w.heap.size 9 (.string s) := by rw [← hV]; exact ((Boxed.new w 9 _).alloc _).alloc _
  have b1 : Boxed V (w.heap.size + 1) 23 (.slice none 0 0) := by
    rw [← hV]
    have := Boxed.new (w.alloc (.cells #[.string s] 9)) 23 (.slice none 0 0)
    rw [World.size_alloc] at this
    exact this.alloc _
  have b2 : Boxed V (w.heap.size + 1 + 1) 9 (.string s) := by
    rw [← hV]
    have := Boxed.new ((w.alloc (.cells #[.string s] 9)).alloc (.cells #[.slice none 0 0] 23)) 9 (.string s)
    rw [World.size_alloc, World.size_alloc] at this
    exact this
  have hB : Below w.heap.size w V := by
    rw [← hV]
    exact (((Below.refl _ w).alloc (Nat.le_refl _) _).alloc (by simp) _).alloc (by simp; omega) _
  have hz1' : w.heap.size + 3 ≤ V.heap.size := by rw [← hV]; simp
  have hz2' : V.heap.size ≤ w.heap.size + 3 := by rw [← hV]; simp
  rw [hV]
  clear hV hsq
  have hN := hT.room
  have hcl := clusters_length s
  refine rangeFunc_box (α := Cl) (by omega) (gf := 24) (lb := #[.pointer (some ⟨w.heap.size + 1 + 1, 0, none⟩)]) rfl (enters_of Tryd.func24 (by kernel_rfl) rfl)
    (clus_seq (9 - 1) (w.heap.size + 1 + 1) N (by omega) s (by omega) V (by omega) b2.cell (hT.below hB)) (fun _ => rfl)
    (fun k => k = w.heap.size + 1) (fun k e => by subst e; exact ⟨by omega, by omega, by omega⟩)
    (fun pre W => ∃ v, Boxed W (w.heap.size + 1) 23 v ∧ W.ownsRow (V.heap.size + 2 + 2) 3 1 v pre.length (flatJ (pre.map fun x => classI (firR s x)))) (fun _ _ _ => False)
    (fun pre A B h hk => by obtain ⟨v, h1, h2⟩ := h; exact ⟨v, (hk.same _ h1.lt (.inl (by omega))).trans h1, ownsRow_keeps h2 hk⟩) (fun _ _ _ _ h _ => h) ⟨_, b1, World.ownsRow_nil _ _ _ _⟩ ?round ?done ?stop
  case round =>
    rintro l pre x W K hl hlW hhi hlh hBW hip hpx hK
    have hWz := hBW.size
    have hpl : pre.length + 1 ≤ (clusters s).length := by have := hpx.length_le; simpa using this
    simp only [Cl.val]
    gi_wp2
    refine hK _ _ ((Below.refl _ W).alloc (Nat.le_refl _) _) (fun W2 hbo hzz hB2 hi2 => ?_)
    have hWW : W.heap.size + 1 = W2.heap.size := by rw [hzz]; simp
    clear hzz hK
    have hx : ClAt W2 W.heap.size x := (hbo.same W.heap.size (by simp) (by omega)).trans (World.alloc_heap_new W _)
    obtain ⟨v, c0, hrow⟩ := hi2
    have m0 := boxed_but b0 hB2 (by omega)
    have hBW2 : Below w.heap.size w W2 := hB.trans (hB2.below (by omega) (fun k e => by omega))
    obtain ⟨x0, x1, x2, x3, x4⟩ := hx.row
    obtain ⟨r, hr⟩ := hpx
    have hat := chain_at (pre := pre) (c := x) (r := r) (by simpa using hr)
    have hle := lens_le (pre := pre ++ [x]) (r := r) hr
    rw [lensOf_snoc] at hle
    have hnn := lens_nnB pre 0 0 (chain_append pre (x :: r) 0 0 (by rw [show pre ++ x :: r = clusters s by simpa using hr]; exact (clusters_chain s).1)).1
    have ld : 0 ≤ x.loc ∧ x.loc ≤ (s.size : Int) := by omega
    obtain ⟨k, hk⟩ : ∃ k : Nat, x.loc = (k : Int) := ⟨x.loc.toNat, by omega⟩
    have HD := hideB (decode_any (s.extract k s.size) W2 (HU.out W2 hBW2))
    have HF : Hid (firR s x = (Lib.decodeGo (s.extract k s.size)).1) := hideB (by unfold firR; rw [hk]; rfl)
    generalize (Lib.decodeGo (s.extract k s.size)).1 = R at *
    generalize (Lib.decodeGo (s.extract k s.size)).2 = R2 at *
    rw [hk] at x0 ld
    have hk1 : (0 : Int) ≤ (k : Int) := by omega
    have hk2 : (k : Int) ≤ (s.size : Int) := by omega
    have HC := hideB (And.intro c0 (And.intro hrow (And.intro m0 hBW2)))
    have k1 := m0.cell
    clear x1 x2 x3 x4 hr hat hle hk ld c0 hrow m0 hBW2 hbo
    gi_wp2_with fail
    refine ⟨trivial, ?_⟩
    refine (callsIn_wide.2 HD.out).mono ?_
    rintro e w3 ⟨rfl, b3⟩
    have C3 := hideB b3
    clear b3 x0 k1
    gi_upto_region 5 with fail
    obtain ⟨c0, hrow, m0, hBW2⟩ := HC.out
    have hZW : w.heap.size + 1 < W2.heap.size := c0.lt
    have c3 : Boxed w3 (w.heap.size + 1) 23 v := (C3.out.block _ hZW).trans c0
    have hrow3 : w3.ownsRow (V.heap.size + 2 + 2) 3 1 v pre.length (flatJ (pre.map fun x => classI (firR s x))) := ownsRow_keeps hrow (Keeps.of_below (m := 0) C3.out)
    have hz3 := C3.out.size
    have HC3 := hideB (And.intro c3 hrow3)
    have l3 := c3.cell
    clear c0 hrow m0 hBW2 c3 hrow3
    refine region_held_round (S := fun _ => True) l (by rfl) (by kernel_rfl) (fun ⟨_, _, h⟩ => h) ?_
    refine wpAnyH_take (i := 1) (oi := { dst := some 19, op := Op.move (Operand.tmp 5), type := 21, pos := "bidi.go:72", after := #[], guard := none }) (v := .int .i32 R) rfl (by kernel_rfl) (by kernel_rfl) (by kernel_rfl) (fun _ _ _ h => h) (Or.inl ⟨by rfl, ?_⟩) trivial ?_
    · intro w' hS'
      go_simp
    try simp only [Act.put, List.setIfInBounds_toArray, List.set_cons_zero, List.set_cons_succ]
    refine wpAnyH_ready (rs := [0, 2]) (by kernel_rfl) (by simp) ?_
    refine AllReadyH.cons (o := { dst := some 18, op := Op.load 23 (Operand.tmp 3), type := 23, pos := "bidi.go:72", after := #[], guard := none }) rfl (fun K0 hK0 => ?_) (AllReadyH.cons (o := { dst := some 20, op := Op.call { callee := Callee.value (Operand.func 17), args := #[Operand.tmp 19], argTypes := #[21] }, type := 3, pos := "bidi.go:72", after := #[{ on := 1, ground := Ground.data }], guard := none }) rfl (fun K2 hK2 => ?_) (AllReadyH.nil))
    · go_simp
      refine hK0.out _ _ trivial (fun _ => ?_)
      clear hK0 K0
      try simp only [Act.put, List.setIfInBounds_toArray, List.set_cons_zero, List.set_cons_succ]
      refine wpAnyH_ready (rs := [2]) (by kernel_rfl) (by simp) ?_
      refine AllReadyH.cons (o := { dst := some 20, op := Op.call { callee := Callee.value (Operand.func 17), args := #[Operand.tmp 19], argTypes := #[21] }, type := 3, pos := "bidi.go:72", after := #[{ on := 1, ground := Ground.data }], guard := none }) rfl (fun K2 hK2 => ?_) (AllReadyH.nil)
      go_simp
      refine (class_any R _).mono ?_
      rintro e w4 ⟨rfl, b4⟩
      have b4 : Below w3.heap.size w3 w4 := bupB (Below.refl w3.heap.size w3).drew b4
      have c4 : Boxed w4 (w.heap.size + 1) 23 v := (b4.block _ (by omega)).trans HC3.out.1
      have hrow4 : w4.ownsRow (V.heap.size + 2 + 2) 3 1 v pre.length (flatJ (pre.map fun x => classI (firR s x))) := ownsRow_keeps HC3.out.2 (Keeps.of_below (m := 0) b4)
      have HC4 := hideB (And.intro b4 (And.intro c4 hrow4))
      have hz4 := b4.size
      have l4 := c4.cell
      clear b4 c4 hrow4
      refine hK2.out _ _ trivial (fun _ => ?_)
      clear hK2 K2
      try simp only [Act.put, List.setIfInBounds_toArray, List.set_cons_zero, List.set_cons_succ]
      refine wpAnyH_ready (rs := [3]) (by kernel_rfl) (by simp) ?_
      refine AllReadyH.cons (o := { dst := some 21, op := Op.buildSlice 23 1 #[(0, Operand.tmp 20)], type := 23, pos := "bidi.go:72", after := #[{ on := 2, ground := Ground.data }], guard := none }) rfl (fun K3 hK3 => ?_) (AllReadyH.nil)
      go_simp
      obtain ⟨cc, hcc⟩ : ∃ c, classI R = c := ⟨_, rfl⟩
      rw [hcc]
      have HCC := hideB hcc
      clear hcc
      have b5 : Below w3.heap.size w3 (w4.alloc (.cells #[.int .i64 cc] 3)) := bupB HC4.out.1 (bel1B w4 _)
      have n5 := World.alloc_heap_new w4 (.cells #[.int .i64 cc] 3)
      have c5 : Boxed (w4.alloc (.cells #[.int .i64 cc] 3)) (w.heap.size + 1) 23 v := HC4.out.2.1.alloc _
      have hrow5 := HC4.out.2.2.alloc (.cells #[.int .i64 cc] 3)
      have hz5 : w4.heap.size + 1 = (w4.alloc (.cells #[.int .i64 cc] 3)).heap.size := by rw [World.size_alloc]
      obtain ⟨w5, hw5⟩ : ∃ w5, w4.alloc (.cells #[.int .i64 cc] 3) = w5 := ⟨_, rfl⟩
      obtain ⟨z4, hz4'⟩ : ∃ z4, w4.heap.size = z4 := ⟨_, rfl⟩
      rw [hw5] at b5 n5 c5 hrow5 hz5
      rw [hz4'] at n5
      have l5 := c5.cell
      have H5 := hideB (And.intro b5 (And.intro n5 (And.intro c5 hrow5)))
      clear b5 n5 c5 hrow5 l4
      try rw [hw5]
      try rw [hz4']
      refine hK3.out _ _ trivial (fun _ => ?_)
      clear hK3 K3
      try simp only [Act.put, List.setIfInBounds_toArray, List.set_cons_zero, List.set_cons_succ]
      refine wpAnyH_ready (rs := [4]) (by kernel_rfl) (by simp) ?_
      refine AllReadyH.cons (o := { dst := some 22, op := Op.call { callee := Callee.builtin Builtin.append, args := #[Operand.tmp 18, Operand.tmp 21], argTypes := #[23, 23] }, type := 23, pos := "bidi.go:72", after := #[{ on := 0, ground := Ground.data }, { on := 3, ground := Ground.data }, { on := 2, ground := Ground.chain }], guard := none }) rfl (fun K4 hK4 => ?_) (AllReadyH.nil)
      obtain ⟨b5, n5, c5, hrow5⟩ := H5.out
      refine step_row w5 rfl (.tmp 18) (.tmp 21) 23 rfl (V.heap.size + 2 + 2) 3 i0 (.int .i64 0) 1 8 Tryd.underlying23 hi hz0 hz1 hz2 rfl (by decide) v pre.length (flatJ (pre.map fun x => classI (firR s x))) rfl hrow5 ⟨z4, 0, none⟩ 1 1 [.int .i64 cc] rfl rfl (World.news_of_block (cs := #[.int .i64 cc]) (t := 3) (fr := (0, 0)) n5) (by simp [Value.oneCell']) (by unfold maxLen; omega) (by omega) (by omega) ?_
      intro v6 w6 own6 gr6
      obtain ⟨g6, cap6, rfl⟩ := ownsRow_succ own6
      have c6 : Boxed w6 (w.heap.size + 1) 23 v := c5.kept gr6 (fun e => by have := (hrow5.lt _ e.symm).1; omega)
      have n3 := c6.cell
      have n4 := c6.frozen
      have e9 : flatJ (pre.map fun x => classI (firR s x)) ++ [.int .i64 cc] = flatJ ((pre ++ [x]).map fun x => classI (firR s x)) := by
        rw [List.map_append, List.map_singleton, flatJ_snoc, HF.out, HCC.out]
      rw [e9] at own6
      have c7 := c6.set (.slice (some ⟨g6, 0, none⟩) (pre.length + 1) cap6)
      have own7 : (w6.setCell ⟨w.heap.size + 1, 0, none⟩ (.slice (some ⟨g6, 0, none⟩) (pre.length + 1) cap6)).ownsRow (V.heap.size + 2 + 2) 3 1 (.slice (some ⟨g6, 0, none⟩) (pre.length + 1) cap6) (pre.length + 1) (flatJ ((pre ++ [x]).map fun x => classI (firR s x))) := own6.kept (grownBy_setCell' w6 (w.heap.size + 1) _) (.inr (fun e => by have := (own6.lt _ e).1; omega))
      have hb7 : But (fun k => k = w.heap.size + 1 ∨ V.heap.size + 2 + 2 ≤ k) W2 (w6.setCell ⟨w.heap.size + 1, 0, none⟩ (.slice (some ⟨g6, 0, none⟩) (pre.length + 1) cap6)) := ((But.grown C3.out).trans ((But.grown b5).trans (but_grown gr6 (fun k e => .inr (hrow5.lt k e).1)))).setCell (p := ⟨w.heap.size + 1, 0, none⟩) (.inl rfl) _
      have HG := hideB (And.intro c7 (And.intro own7 hb7))
      clear b5 n5 c5 hrow5 own6 gr6 c6 c7 own7 hb7 e9
      refine hK4.out _ _ trivial (fun _ => ?_)
      clear hK4 K4
      try simp only [Act.put, List.setIfInBounds_toArray, List.set_cons_zero, List.set_cons_succ]
      refine wpAnyH_ready (rs := [5]) (by kernel_rfl) (by simp) ?_
      refine AllReadyH.cons (o := { dst := none, op := Op.store 23 (Operand.tmp 3) (Operand.tmp 22), type := 0, pos := "bidi.go:72", after := #[{ on := 4, ground := Ground.data }, { on := 4, ground := Ground.chain }, { on := 0, ground := Ground.phase }, { on := 1, ground := Ground.phase }, { on := 2, ground := Ground.phase }, { on := 3, ground := Ground.phase }, { on := 4, ground := Ground.phase }], guard := none }) rfl (fun K5 hK5 => ?_) (AllReadyH.nil)
      go_simp
      refine hK5.out _ _ trivial (fun _ => ?_)
      clear hK5 K5
      try simp only [Act.put, List.setIfInBounds_toArray, List.set_cons_zero, List.set_cons_succ]
      refine wpAnyH_done (by kernel_rfl) ?_ _
      obtain ⟨c7, own7, hb7⟩ := HG.out
      refine ⟨hb7, _, c7, ?_⟩
      rw [List.length_append]
      exact own7
    · go_simp
      refine (class_any R _).mono ?_
      rintro e w4 ⟨rfl, b4⟩
      have b4 : Below w3.heap.size w3 w4 := bupB (Below.refl w3.heap.size w3).drew b4
      have c4 : Boxed w4 (w.heap.size + 1) 23 v := (b4.block _ (by omega)).trans HC3.out.1
      have hrow4 : w4.ownsRow (V.heap.size + 2 + 2) 3 1 v pre.length (flatJ (pre.map fun x => classI (firR s x))) := ownsRow_keeps HC3.out.2 (Keeps.of_below (m := 0) b4)
      have HC4 := hideB (And.intro b4 (And.intro c4 hrow4))
      have hz4 := b4.size
      have l4 := c4.cell
      clear b4 c4 hrow4
      refine hK2.out _ _ trivial (fun _ => ?_)
      clear hK2 K2
      try simp only [Act.put, List.setIfInBounds_toArray, List.set_cons_zero, List.set_cons_succ]
      refine wpAnyH_ready (rs := [0, 3]) (by kernel_rfl) (by simp) ?_
      refine AllReadyH.cons (o := { dst := some 18, op := Op.load 23 (Operand.tmp 3), type := 23, pos := "bidi.go:72", after := #[], guard := none }) rfl (fun K0 hK0 => ?_) (AllReadyH.cons (o := { dst := some 21, op := Op.buildSlice 23 1 #[(0, Operand.tmp 20)], type := 23, pos := "bidi.go:72", after := #[{ on := 2, ground := Ground.data }], guard := none }) rfl (fun K3 hK3 => ?_) (AllReadyH.nil))
      · go_simp
        refine hK0.out _ _ trivial (fun _ => ?_)
        clear hK0 K0
        try simp only [Act.put, List.setIfInBounds_toArray, List.set_cons_zero, List.set_cons_succ]
        refine wpAnyH_ready (rs := [3]) (by kernel_rfl) (by simp) ?_
        refine AllReadyH.cons (o := { dst := some 21, op := Op.buildSlice 23 1 #[(0, Operand.tmp 20)], type := 23, pos := "bidi.go:72", after := #[{ on := 2, ground := Ground.data }], guard := none }) rfl (fun K3 hK3 => ?_) (AllReadyH.nil)
        go_simp
        obtain ⟨cc, hcc⟩ : ∃ c, classI R = c := ⟨_, rfl⟩
        rw [hcc]
        have HCC := hideB hcc
        clear hcc
        have b5 : Below w3.heap.size w3 (w4.alloc (.cells #[.int .i64 cc] 3)) := bupB HC4.out.1 (bel1B w4 _)
        have n5 := World.alloc_heap_new w4 (.cells #[.int .i64 cc] 3)
        have c5 : Boxed (w4.alloc (.cells #[.int .i64 cc] 3)) (w.heap.size + 1) 23 v := HC4.out.2.1.alloc _
        have hrow5 := HC4.out.2.2.alloc (.cells #[.int .i64 cc] 3)
        have hz5 : w4.heap.size + 1 = (w4.alloc (.cells #[.int .i64 cc] 3)).heap.size := by rw [World.size_alloc]
        obtain ⟨w5, hw5⟩ : ∃ w5, w4.alloc (.cells #[.int .i64 cc] 3) = w5 := ⟨_, rfl⟩
        obtain ⟨z4, hz4'⟩ : ∃ z4, w4.heap.size = z4 := ⟨_, rfl⟩
        rw [hw5] at b5 n5 c5 hrow5 hz5
        rw [hz4'] at n5
        have l5 := c5.cell
        have H5 := hideB (And.intro b5 (And.intro n5 (And.intro c5 hrow5)))
        clear b5 n5 c5 hrow5 l4
        try rw [hw5]
        try rw [hz4']
        refine hK3.out _ _ trivial (fun _ => ?_)
        clear hK3 K3
        try simp only [Act.put, List.setIfInBounds_toArray, List.set_cons_zero, List.set_cons_succ]
        refine wpAnyH_ready (rs := [4]) (by kernel_rfl) (by simp) ?_
        refine AllReadyH.cons (o := { dst := some 22, op := Op.call { callee := Callee.builtin Builtin.append, args := #[Operand.tmp 18, Operand.tmp 21], argTypes := #[23, 23] }, type := 23, pos := "bidi.go:72", after := #[{ on := 0, ground := Ground.data }, { on := 3, ground := Ground.data }, { on := 2, ground := Ground.chain }], guard := none }) rfl (fun K4 hK4 => ?_) (AllReadyH.nil)
        obtain ⟨b5, n5, c5, hrow5⟩ := H5.out
        refine step_row w5 rfl (.tmp 18) (.tmp 21) 23 rfl (V.heap.size + 2 + 2) 3 i0 (.int .i64 0) 1 8 Tryd.underlying23 hi hz0 hz1 hz2 rfl (by decide) v pre.length (flatJ (pre.map fun x => classI (firR s x))) rfl hrow5 ⟨z4, 0, none⟩ 1 1 [.int .i64 cc] rfl rfl (World.news_of_block (cs := #[.int .i64 cc]) (t := 3) (fr := (0, 0)) n5) (by simp [Value.oneCell']) (by unfold maxLen; omega) (by omega) (by omega) ?_
        intro v6 w6 own6 gr6
        obtain ⟨g6, cap6, rfl⟩ := ownsRow_succ own6
        have c6 : Boxed w6 (w.heap.size + 1) 23 v := c5.kept gr6 (fun e => by have := (hrow5.lt _ e.symm).1; omega)
        have n3 := c6.cell
        have n4 := c6.frozen
        have e9 : flatJ (pre.map fun x => classI (firR s x)) ++ [.int .i64 cc] = flatJ ((pre ++ [x]).map fun x => classI (firR s x)) := by
          rw [List.map_append, List.map_singleton, flatJ_snoc, HF.out, HCC.out]
        rw [e9] at own6
        have c7 := c6.set (.slice (some ⟨g6, 0, none⟩) (pre.length + 1) cap6)
        have own7 : (w6.setCell ⟨w.heap.size + 1, 0, none⟩ (.slice (some ⟨g6, 0, none⟩) (pre.length + 1) cap6)).ownsRow (V.heap.size + 2 + 2) 3 1 (.slice (some ⟨g6, 0, none⟩) (pre.length + 1) cap6) (pre.length + 1) (flatJ ((pre ++ [x]).map fun x => classI (firR s x))) := own6.kept (grownBy_setCell' w6 (w.heap.size + 1) _) (.inr (fun e => by have := (own6.lt _ e).1; omega))
        have hb7 : But (fun k => k = w.heap.size + 1 ∨ V.heap.size + 2 + 2 ≤ k) W2 (w6.setCell ⟨w.heap.size + 1, 0, none⟩ (.slice (some ⟨g6, 0, none⟩) (pre.length + 1) cap6)) := ((But.grown C3.out).trans ((But.grown b5).trans (but_grown gr6 (fun k e => .inr (hrow5.lt k e).1)))).setCell (p := ⟨w.heap.size + 1, 0, none⟩) (.inl rfl) _
        have HG := hideB (And.intro c7 (And.intro own7 hb7))
        clear b5 n5 c5 hrow5 own6 gr6 c6 c7 own7 hb7 e9
        refine hK4.out _ _ trivial (fun _ => ?_)
        clear hK4 K4
        try simp only [Act.put, List.setIfInBounds_toArray, List.set_cons_zero, List.set_cons_succ]
        refine wpAnyH_ready (rs := [5]) (by kernel_rfl) (by simp) ?_
        refine AllReadyH.cons (o := { dst := none, op := Op.store 23 (Operand.tmp 3) (Operand.tmp 22), type := 0, pos := "bidi.go:72", after := #[{ on := 4, ground := Ground.data }, { on := 4, ground := Ground.chain }, { on := 0, ground := Ground.phase }, { on := 1, ground := Ground.phase }, { on := 2, ground := Ground.phase }, { on := 3, ground := Ground.phase }, { on := 4, ground := Ground.phase }], guard := none }) rfl (fun K5 hK5 => ?_) (AllReadyH.nil)
        go_simp
        refine hK5.out _ _ trivial (fun _ => ?_)
        clear hK5 K5
        try simp only [Act.put, List.setIfInBounds_toArray, List.set_cons_zero, List.set_cons_succ]
        refine wpAnyH_done (by kernel_rfl) ?_ _
        obtain ⟨c7, own7, hb7⟩ := HG.out
        refine ⟨hb7, _, c7, ?_⟩
        rw [List.length_append]
        exact own7
      · go_simp
        obtain ⟨cc, hcc⟩ : ∃ c, classI R = c := ⟨_, rfl⟩
        rw [hcc]
        have HCC := hideB hcc
        clear hcc
        have b5 : Below w3.heap.size w3 (w4.alloc (.cells #[.int .i64 cc] 3)) := bupB HC4.out.1 (bel1B w4 _)
        have n5 := World.alloc_heap_new w4 (.cells #[.int .i64 cc] 3)
        have c5 : Boxed (w4.alloc (.cells #[.int .i64 cc] 3)) (w.heap.size + 1) 23 v := HC4.out.2.1.alloc _
        have hrow5 := HC4.out.2.2.alloc (.cells #[.int .i64 cc] 3)
        have hz5 : w4.heap.size + 1 = (w4.alloc (.cells #[.int .i64 cc] 3)).heap.size := by rw [World.size_alloc]
        obtain ⟨w5, hw5⟩ : ∃ w5, w4.alloc (.cells #[.int .i64 cc] 3) = w5 := ⟨_, rfl⟩
        obtain ⟨z4, hz4'⟩ : ∃ z4, w4.heap.size = z4 := ⟨_, rfl⟩
        rw [hw5] at b5 n5 c5 hrow5 hz5
        rw [hz4'] at n5
        have l5 := c5.cell
        have H5 := hideB (And.intro b5 (And.intro n5 (And.intro c5 hrow5)))
        clear b5 n5 c5 hrow5 l4
        try rw [hw5]
        try rw [hz4']
        refine hK3.out _ _ trivial (fun _ => ?_)
        clear hK3 K3
        try simp only [Act.put, List.setIfInBounds_toArray, List.set_cons_zero, List.set_cons_succ]
        refine wpAnyH_ready (rs := [0]) (by kernel_rfl) (by simp) ?_
        refine AllReadyH.cons (o := { dst := some 18, op := Op.load 23 (Operand.tmp 3), type := 23, pos := "bidi.go:72", after := #[], guard := none }) rfl (fun K0 hK0 => ?_) (AllReadyH.nil)
        go_simp
        refine hK0.out _ _ trivial (fun _ => ?_)
        clear hK0 K0
        try simp only [Act.put, List.setIfInBounds_toArray, List.set_cons_zero, List.set_cons_succ]
        refine wpAnyH_ready (rs := [4]) (by kernel_rfl) (by simp) ?_
        refine AllReadyH.cons (o := { dst := some 22, op := Op.call { callee := Callee.builtin Builtin.append, args := #[Operand.tmp 18, Operand.tmp 21], argTypes := #[23, 23] }, type := 23, pos := "bidi.go:72", after := #[{ on := 0, ground := Ground.data }, { on := 3, ground := Ground.data }, { on := 2, ground := Ground.chain }], guard := none }) rfl (fun K4 hK4 => ?_) (AllReadyH.nil)
        obtain ⟨b5, n5, c5, hrow5⟩ := H5.out
        refine step_row w5 rfl (.tmp 18) (.tmp 21) 23 rfl (V.heap.size + 2 + 2) 3 i0 (.int .i64 0) 1 8 Tryd.underlying23 hi hz0 hz1 hz2 rfl (by decide) v pre.length (flatJ (pre.map fun x => classI (firR s x))) rfl hrow5 ⟨z4, 0, none⟩ 1 1 [.int .i64 cc] rfl rfl (World.news_of_block (cs := #[.int .i64 cc]) (t := 3) (fr := (0, 0)) n5) (by simp [Value.oneCell']) (by unfold maxLen; omega) (by omega) (by omega) ?_
        intro v6 w6 own6 gr6
        obtain ⟨g6, cap6, rfl⟩ := ownsRow_succ own6
        have c6 : Boxed w6 (w.heap.size + 1) 23 v := c5.kept gr6 (fun e => by have := (hrow5.lt _ e.symm).1; omega)
        have n3 := c6.cell
        have n4 := c6.frozen
        have e9 : flatJ (pre.map fun x => classI (firR s x)) ++ [.int .i64 cc] = flatJ ((pre ++ [x]).map fun x => classI (firR s x)) := by
          rw [List.map_append, List.map_singleton, flatJ_snoc, HF.out, HCC.out]
        rw [e9] at own6
        have c7 := c6.set (.slice (some ⟨g6, 0, none⟩) (pre.length + 1) cap6)
        have own7 : (w6.setCell ⟨w.heap.size + 1, 0, none⟩ (.slice (some ⟨g6, 0, none⟩) (pre.length + 1) cap6)).ownsRow (V.heap.size + 2 + 2) 3 1 (.slice (some ⟨g6, 0, none⟩) (pre.length + 1) cap6) (pre.length + 1) (flatJ ((pre ++ [x]).map fun x => classI (firR s x))) := own6.kept (grownBy_setCell' w6 (w.heap.size + 1) _) (.inr (fun e => by have := (own6.lt _ e).1; omega))
        have hb7 : But (fun k => k = w.heap.size + 1 ∨ V.heap.size + 2 + 2 ≤ k) W2 (w6.setCell ⟨w.heap.size + 1, 0, none⟩ (.slice (some ⟨g6, 0, none⟩) (pre.length + 1) cap6)) := ((But.grown C3.out).trans ((But.grown b5).trans (but_grown gr6 (fun k e => .inr (hrow5.lt k e).1)))).setCell (p := ⟨w.heap.size + 1, 0, none⟩) (.inl rfl) _
        have HG := hideB (And.intro c7 (And.intro own7 hb7))
        clear b5 n5 c5 hrow5 own6 gr6 c6 c7 own7 hb7 e9
        refine hK4.out _ _ trivial (fun _ => ?_)
        clear hK4 K4
        try simp only [Act.put, List.setIfInBounds_toArray, List.set_cons_zero, List.set_cons_succ]
        refine wpAnyH_ready (rs := [5]) (by kernel_rfl) (by simp) ?_
        refine AllReadyH.cons (o := { dst := none, op := Op.store 23 (Operand.tmp 3) (Operand.tmp 22), type := 0, pos := "bidi.go:72", after := #[{ on := 4, ground := Ground.data }, { on := 4, ground := Ground.chain }, { on := 0, ground := Ground.phase }, { on := 1, ground := Ground.phase }, { on := 2, ground := Ground.phase }, { on := 3, ground := Ground.phase }, { on := 4, ground := Ground.phase }], guard := none }) rfl (fun K5 hK5 => ?_) (AllReadyH.nil)
        go_simp
        refine hK5.out _ _ trivial (fun _ => ?_)
        clear hK5 K5
        try simp only [Act.put, List.setIfInBounds_toArray, List.set_cons_zero, List.set_cons_succ]
        refine wpAnyH_done (by kernel_rfl) ?_ _
        obtain ⟨c7, own7, hb7⟩ := HG.out
        refine ⟨hb7, _, c7, ?_⟩
        rw [List.length_append]
        exact own7
  case done =>
    rintro D W hD ⟨v, hv, hrow⟩ hBW hK
    have k0 := hv.cell
    gi_wp2
    refine ⟨by simp, .inl ⟨_, _, rfl, run_takeDeferred hK, ?_⟩⟩
    refine ⟨v, by simp [results, Tryd.f9, go_sem], v, rfl, ?_, ?_⟩
    · have h9 := ownsRow_from (m := w.heap.size) (ownsRow_putObjC (o' := .deferred none) hrow hK) (by omega)
      have hl : (clsS s).length = (clusters s).length := by unfold clsS; rw [List.length_map]
      rw [hl]
      exact h9
    · exact (hB.trans (hBW.below (by omega) (fun k e => by omega))).trans ((putObj_belowL _ _ _).mono (by omega))
  case stop => rintro D c pre W hD hpre h; exact h.elim
end Go.Proofs.YtbehlaclffjkbaaDoor
