/- The contract of the sequence of places that utf.find ranges over: it tells the places between the signs of its text, in all units, and stops where a round says so. -/
import Derived.Test.YtbiodfeanngkdaaDoorW2
import Derived.Test.YtbiodfeanngkdaaDoorLaw
namespace Go.Proofs.YtbiodfeanngkdaaDoor
open Go.RowKit Go.Shelf
attribute [local go_sem] Oper.semAt_some

/-- A block of four cells. -/
def Row4 (W : World) (B : Nat) (t : TypeId) (c0 c1 c2 c3 : Value) : Prop := W.heap[B]? = some (.cells #[c0, c1, c2, c3] t (0, 0))
theorem Row4.lt {W : World} {B : Nat} {t : TypeId} {c0 c1 c2 c3 : Value} (h : Row4 W B t c0 c1 c2 c3) : B < W.heap.size := (Array.getElem?_eq_some_iff.1 h).1
theorem Row4.cells {W : World} {B : Nat} {t : TypeId} {c0 c1 c2 c3 : Value} (h : Row4 W B t c0 c1 c2 c3) :
    W.cell? ⟨B, 0, none⟩ = some c0 ∧ W.cell? ⟨B, 1, none⟩ = some c1 ∧ W.cell? ⟨B, 2, none⟩ = some c2 ∧ W.cell? ⟨B, 3, none⟩ = some c3 := by
  simp [World.cell?, show W.heap[B]? = _ from h]
theorem Row4.frozen {W : World} {B : Nat} {t : TypeId} {c0 c1 c2 c3 : Value} (h : Row4 W B t c0 c1 c2 c3) (o : Nat) : W.frozen? ⟨B, o, none⟩ = false := by
  simp [World.frozen?, show W.heap[B]? = _ from h]
theorem Row4.of_block {W W' : World} {B : Nat} {t : TypeId} {c0 c1 c2 c3 : Value} (h : Row4 W B t c0 c1 c2 c3) (e : W'.heap[B]? = W.heap[B]?) : Row4 W' B t c0 c1 c2 c3 := e.trans h
theorem heap_setCell_same (W : World) (B o : Nat) (v : Value) (c : Array Value) (t : TypeId) (h : W.heap[B]? = some (.cells c t (0, 0))) : (W.setCell ⟨B, o, none⟩ v).heap[B]? = some (.cells (c.setIfInBounds o v) t (0, 0)) := by
  obtain ⟨hlt, hk⟩ := Array.getElem?_eq_some_iff.1 h
  show (W.heap.modify B _)[B]? = _
  rw [Array.getElem?_eq_getElem (by rw [Array.size_modify]; exact hlt), Array.getElem_modify_self, hk]
  rfl
theorem Row4.set1 {W : World} {B : Nat} {t : TypeId} {c0 c1 c2 c3 : Value} (h : Row4 W B t c0 c1 c2 c3) (v : Value) : Row4 (W.setCell ⟨B, 1, none⟩ v) B t c0 v c2 c3 := heap_setCell_same W B 1 v _ t h
theorem Row4.set2 {W : World} {B : Nat} {t : TypeId} {c0 c1 c2 c3 : Value} (h : Row4 W B t c0 c1 c2 c3) (v : Value) : Row4 (W.setCell ⟨B, 2, none⟩ v) B t c0 c1 v c3 := heap_setCell_same W B 2 v _ t h
theorem Row4.set3 {W : World} {B : Nat} {t : TypeId} {c0 c1 c2 c3 : Value} (h : Row4 W B t c0 c1 c2 c3) (v : Value) : Row4 (W.setCell ⟨B, 3, none⟩ v) B t c0 c1 c2 v := heap_setCell_same W B 3 v _ t h

/-- A place, told in bytes, signs, units of UTF-16. -/
structure Spot where
  b : Int
  c : Int
  d : Int
def Spot.val (p : Spot) : Value := .agg #[.int .i64 0, .int .i64 p.b, .int .i64 p.c, .int .i64 p.d]
def Spot.step (p : Spot) (x : Sg) : Spot := ⟨p.b + x.len, p.c + 1, p.d + pairsI x.rune⟩
/-- The places ahead of each sign, and the place behind them all. -/
def trail (l : List Sg) : List Spot × Spot := l.foldl (fun lp x => (lp.1 ++ [lp.2], lp.2.step x)) ([], ⟨0, 0, 0⟩)
theorem trail_snoc (l : List Sg) (x : Sg) : trail (l ++ [x]) = ((trail l).1 ++ [(trail l).2], (trail l).2.step x) := by simp [trail, List.foldl_append]
theorem snoc_ind {α : Type} {P : List α → Prop} (h0 : P []) (hs : ∀ l x, P l → P (l ++ [x])) (l : List α) : P l := by
  rw [← List.reverse_reverse l]
  induction l.reverse with
  | nil => exact h0
  | cons x r ih => rw [List.reverse_cons]; exact hs _ _ ih
theorem trail_length (l : List Sg) : (trail l).1.length = l.length := by
  refine snoc_ind (P := fun l => (trail l).1.length = l.length) rfl (fun l x ih => ?_) l
  simp only [trail_snoc, List.length_append, List.length_singleton, ih]
theorem trail_bd (l : List Sg) : (0 ≤ (trail l).2.b ∧ (trail l).2.b ≤ 4 * l.length) ∧ (trail l).2.c = l.length ∧ 0 ≤ (trail l).2.d ∧ (trail l).2.d ≤ 2 * l.length := by
  refine snoc_ind (P := fun l => (0 ≤ (trail l).2.b ∧ (trail l).2.b ≤ 4 * l.length) ∧ (trail l).2.c = l.length ∧ 0 ≤ (trail l).2.d ∧ (trail l).2.d ≤ 2 * l.length) (by simp [trail]) (fun l x ih => ?_) l
  have hx := x.small
  have hp := pairsI_bd x.rune
  simp only [trail_snoc, Spot.step, List.length_append, List.length_singleton]
  omega
def spotsL (s : ByteArray) : List Spot := (trail (signs s)).1 ++ [(trail (signs s)).2]
theorem trail_append (l m : List Sg) : (trail l).1 <+: (trail (l ++ m)).1 := by
  refine snoc_ind (P := fun m => (trail l).1 <+: (trail (l ++ m)).1) (by simp) (fun m x ih => ?_) m
  rw [← List.append_assoc, trail_snoc]
  exact ih.trans (List.prefix_append _ _)
theorem trail_prefix {l : List Sg} {s : ByteArray} (h : l <+: signs s) : (trail l).1 <+: spotsL s := by
  obtain ⟨m, e⟩ := h
  unfold spotsL
  rw [← e]
  exact (trail_append l m).trans (List.prefix_append _ _)

theorem round_any {m m' : Nat} {P : Program} {l l' : Nat} {f : FuncId} {tmps : Array Value} {assign body : Code} {w : World} {R : Ending → World → Prop} (h : RoundIn Fence.wide m P l f tmps assign body w R) :
    RoundIn (Fence.wide.inRound l') m' P l f tmps assign body w R := ⟨h.1, fun c cs _ => h.2 c cs (room_wide _)⟩
theorem round_any0 {m m' : Nat} {P : Program} {l : Nat} {f : FuncId} {tmps : Array Value} {assign body : Code} {w : World} {R : Ending → World → Prop} (h : RoundIn Fence.wide m P l f tmps assign body w R) :
    RoundIn Fence.wide m' P l f tmps assign body w R := ⟨h.1, fun c cs _ => h.2 c cs (room_wide _)⟩

set_option maxRecDepth 100000 in
set_option maxHeartbeats 1000000 in
theorem spots1_in (n l bx : Nat) (hn : 5 ≤ n) (s : ByteArray) (hs : s.size ≤ 140737488355328) (J Jx : List Spot → World → Prop) (W : World) (hl : bx < l) (hlW : l < W.heap.size) (hJ : Calm W.heap.size J) (hJx : Calm W.heap.size Jx)
    (hY : ∀ pre x W1, J pre W1 → pre.length < (spotsL s).length → YieldAt Fence.wide (n - 1) Tryd.prog l #[x.val] W1 fun e W' =>
      (e = .returned (.bool true) ∧ J (pre ++ [x]) W' ∧ ButOne l W1 W') ∨ (e = .returned (.bool false) ∧ Jx (pre ++ [x]) W' ∧ FromOn (l + 1) W1 W'))
    (hc : W.cell? ⟨bx, 0, none⟩ = some (.string s)) (h0 : J [] W) :
    CallsIn Fence.wide n Tryd.prog 48 #[.func (.yield l) #[] #[], .pointer (some ⟨bx, 0, none⟩)] W fun e W' => (∃ v, e = .returned v) ∧
      ((∃ ys, ys = spotsL s ∧ J ys W') ∨ (∃ pre, pre <+: spotsL s ∧ Jx pre W')) := by
  refine callsIn_of_wp_marks Tryd.func48 rfl trivial ?_ rfl
  simp only [Tryd.ntmps48, List.size_toArray, List.length_cons, List.length_nil, Nat.reduceAdd, Nat.reduceSub, Array.replicate_succ, Array.replicate_zero, List.push_toArray, List.append_toArray, List.nil_append, List.cons_append]
  have h1 : 1 ≤ n := by omega
  have hbW : bx < W.heap.size := by omega
  have hc1 := (((Below.refl W.heap.size W).alloc (Nat.le_refl _) (.cells #[.func (.yield l) #[] #[]] 91)).alloc (by simp) (.cells #[.int .i64 0, .int .i64 0, .int .i64 0, .int .i64 0] 67))
  have hc2 := (hc1.cell (p := ⟨bx, 0, none⟩) hbW).trans hc
  gi_wp2_with (refine ⟨trivial, ?_⟩; gi_at_call 34; refine (callsIn_wide.2 (signs_mk _ _)).mono ?_; rintro e w' ⟨rfl, rfl⟩)
  have hyb : Boxed (((W.alloc (.cells #[.func (.yield l) #[] #[]] 91)).alloc (.cells #[.int .i64 0, .int .i64 0, .int .i64 0, .int .i64 0] 67)).alloc (.cells #[.string s] 9)) W.heap.size 91 (.func (.yield l) #[] #[]) := ((Boxed.new W 91 _).alloc _).alloc _
  have hpb : Row4 (((W.alloc (.cells #[.func (.yield l) #[] #[]] 91)).alloc (.cells #[.int .i64 0, .int .i64 0, .int .i64 0, .int .i64 0] 67)).alloc (.cells #[.string s] 9)) (W.heap.size + 1) 67 (.int .i64 0) (.int .i64 0) (.int .i64 0) (.int .i64 0) :=
    (Below.heap_alloc _ _ _ (by simp)).trans (by have := World.alloc_heap_new (W.alloc (.cells #[.func (.yield l) #[] #[]] 91)) (.cells #[.int .i64 0, .int .i64 0, .int .i64 0, .int .i64 0] 67); rwa [World.size_alloc] at this)
  have hsb : Boxed (((W.alloc (.cells #[.func (.yield l) #[] #[]] 91)).alloc (.cells #[.int .i64 0, .int .i64 0, .int .i64 0, .int .i64 0] 67)).alloc (.cells #[.string s] 9)) (W.heap.size + 1 + 1) 9 (.string s) := by
    have := Boxed.new ((W.alloc (.cells #[.func (.yield l) #[] #[]] 91)).alloc (.cells #[.int .i64 0, .int .i64 0, .int .i64 0, .int .i64 0] 67)) 9 (.string s); rw [World.size_alloc, World.size_alloc] at this; exact this
  have hB0 : Below W.heap.size W (((W.alloc (.cells #[.func (.yield l) #[] #[]] 91)).alloc (.cells #[.int .i64 0, .int .i64 0, .int .i64 0, .int .i64 0] 67)).alloc (.cells #[.string s] 9)) := hc1.alloc (by simp; omega) _
  have hz0 : (((W.alloc (.cells #[.func (.yield l) #[] #[]] 91)).alloc (.cells #[.int .i64 0, .int .i64 0, .int .i64 0, .int .i64 0] 67)).alloc (.cells #[.string s] 9)).heap.size = W.heap.size + 3 := by simp
  clear hc1 hc2
  generalize ((W.alloc (.cells #[.func (.yield l) #[] #[]] 91)).alloc (.cells #[.int .i64 0, .int .i64 0, .int .i64 0, .int .i64 0] 67)).alloc (.cells #[.string s] 9) = V at *
  have htl : ∀ pre : List Sg, pre.length < (signs s).length → (trail pre).1.length < (spotsL s).length := fun pre h => by rw [trail_length]; simp [spotsL, trail_length]; omega
  have hsl : (signs s).length ≤ s.size := sgns_length s _ _
  refine wpIn_rangeFunc_ownH (α := Sg) rfl h1 (gf := 46) (lb := #[.pointer (some ⟨W.heap.size + 1 + 1, 0, none⟩)]) rfl trivial (enters_of Tryd.func46 (by kernel_rfl) rfl)
    (signs_stops (n - 1) (W.heap.size + 1 + 1) (by omega) s hs V (by omega) hsb.cell) Kp_t (Kp_b (by omega)) (Below.refl _ _) (fun _ => rfl)
    (fun pre A => ((W.heap.size + 3 ≤ A.heap.size ∧ J (trail pre).1 A) ∧ Boxed A W.heap.size 91 (.func (.yield l) #[] #[])) ∧ Row4 A (W.heap.size + 1) 67 (.int .i64 0) (.int .i64 (trail pre).2.b) (.int .i64 (trail pre).2.c) (.int .i64 (trail pre).2.d))
    (fun c pre A => (c = .ret ∧ W.heap.size ≤ A.heap.size) ∧ Jx (trail pre).1 A)
    (fun pre A B row hs hg hr => ⟨⟨⟨Nat.le_trans hs.1.1.1 hg.size, hJ _ _ _ hs.1.1.2 ((Below.refl W.heap.size A).grown hg (by have := hs.1.1.1; omega) (fun k e => by have := (hr k e).1; omega))⟩, hs.1.2.kept hg (fun e => by have := (hr _ e.symm).1; omega)⟩, hs.2.of_block (hg.block _ hs.2.lt (fun e => by have := (hr _ e.symm).1; omega))⟩)
    (fun c pre A B row hs hg hr => ⟨⟨hs.1.1, Nat.le_trans hs.1.2 hg.size⟩, hJx _ _ _ hs.2 ((Below.refl W.heap.size A).grown hg hs.1.2 (fun k e => by have := (hr k e).1; omega))⟩)
    ⟨⟨⟨by omega, hJ _ _ _ h0 hB0⟩, hyb⟩, hpb⟩
    (fun x a' A => ∃ gb, W.heap.size + 2 < gb ∧ Row4 A gb 55 (.int .i64 x.loc) (.int .i64 x.len) (.int .i32 x.rune) (.bool x.bad) ∧
      a' = { tmps := #[.func (.yield l) #[] #[], .pointer (some ⟨bx, 0, none⟩), .pointer (some ⟨W.heap.size, 0, none⟩), .pointer (some ⟨W.heap.size + 1, 0, none⟩), .pointer (some ⟨gb, 0, none⟩), .string s,
        .func (.func 46) #[] #[.pointer (some ⟨W.heap.size + 1 + 1, 0, none⟩)], (.agg #[.int .i64 x.loc, .int .i64 x.len, .int .i32 x.rune, .bool x.bad]), undef, undef, undef, undef, undef, undef, undef, undef, undef, undef, undef, undef, undef, undef, undef, undef, undef, undef, undef, undef, undef, undef, undef, undef], defers := [] })
    (fun x a' _ A B row hs hg hr => by
      obtain ⟨gb, e1, e2, e3⟩ := hs
      refine ⟨gb, e1, e2.of_block (hg.block _ e2.lt (fun e => ?_)), e3⟩
      obtain ⟨_, o, ho, hcl⟩ := hr _ e.symm
      rw [show A.heap[gb]? = _ from e2] at ho
      cases ho
      cases hcl)
    ?assign ?body ?done ?stop
  case assign =>
    rintro lin pre x A K hi hK
    have hAz := hi.1.1.1
    simp only [Sg.val]
    gi_wp2
    refine hK _ _ ((KeepsOthers.alloc _ _).from _) (Kp_of (fun k _ hk => Below.heap_alloc _ _ _ hk) (by omega)) ⟨⟨⟨by simp; omega, hJ _ _ _ hi.1.1.2 ((Below.refl _ A).alloc (by omega) _)⟩, hi.1.2.alloc _⟩, hi.2.of_block (Below.heap_alloc _ _ _ hi.2.lt)⟩ ⟨A.heap.size, by omega, World.alloc_heap_new A _, rfl⟩
  case body =>
    rintro lin pre x a' A hlin ⟨r, hr⟩ ⟨⟨⟨hAz, hJ1⟩, hyb1⟩, hpb1⟩ ⟨gb, hgb, hg4, rfl⟩ hlen
    obtain ⟨fn, tmps, assign, body, hy, hR⟩ := hY _ (trail pre).2 A hJ1 (htl pre hlen)
    have hcy := hyb1.cell
    obtain ⟨hp0, hp1, hp2, hp3⟩ := hpb1.cells
    gi_wp2
    simp only [Spot.val] at hy
    rw [hy, Oper.uponIn_round]
    clear hy
    refine ⟨fun _ => by omega, (round_any hR).mono ?_⟩
    clear hR
    rintro e A3 (⟨rfl, hJ3, hk3⟩ | ⟨rfl, hJx3, hk3⟩)
    · have hpb3 := hpb1.of_block (hk3.same _ hpb1.lt (by omega))
      have hyb3 : Boxed A3 W.heap.size 91 (.func (.yield l) #[] #[]) := (hk3.same _ hyb1.lt (by omega)).trans hyb1
      have hg3 := hg4.of_block (hk3.same _ hg4.lt (by omega))
      clear hp0 hp1 hp2 hp3 hcy
      obtain ⟨hp0, hp1, hp2, hp3⟩ := hpb3.cells
      obtain ⟨hg0, hg1, hg2, hg3'⟩ := hg3.cells
      have hf1 := hpb3.frozen 1
      have hf2 := hpb3.frozen 2
      have hf3 := hpb3.frozen 3
      obtain ⟨⟨tb1, tb2⟩, tc, td1, td2⟩ := trail_bd pre
      have tc1 : 0 ≤ (trail pre).2.c := by omega
      have tc2 : (trail pre).2.c ≤ pre.length := by omega
      clear tc
      have hxs := x.small
      have hpi := pairsI_bd x.rune
      have hne : gb ≠ W.heap.size + 1 := by omega
      gi_wp2_with fail
      have q4 := (hpb3.set1 (.int .i64 ((trail pre).2.b + x.len))).set2 (.int .i64 ((trail pre).2.c + 1))
      have qy : Boxed ((A3.setCell ⟨W.heap.size + 1, 1, none⟩ (.int .i64 ((trail pre).2.b + x.len))).setCell ⟨W.heap.size + 1, 2, none⟩ (.int .i64 ((trail pre).2.c + 1))) W.heap.size 91 (.func (.yield l) #[] #[]) :=
        ((Below.heap_setCell _ _ _ _ (by simp)).trans (Below.heap_setCell _ _ _ _ (by simp))).trans hyb3
      have qg := hg3.of_block (W' := (A3.setCell ⟨W.heap.size + 1, 1, none⟩ (.int .i64 ((trail pre).2.b + x.len))).setCell ⟨W.heap.size + 1, 2, none⟩ (.int .i64 ((trail pre).2.c + 1))) ((Below.heap_setCell _ _ _ _ hne).trans (Below.heap_setCell _ _ _ _ hne))
      have qB : Below (W.heap.size + 1) A3 ((A3.setCell ⟨W.heap.size + 1, 1, none⟩ (.int .i64 ((trail pre).2.b + x.len))).setCell ⟨W.heap.size + 1, 2, none⟩ (.int .i64 ((trail pre).2.c + 1))) :=
        ((Below.refl _ A3).setCell (p := ⟨W.heap.size + 1, 1, none⟩) (Nat.le_refl _) _).setCell (p := ⟨W.heap.size + 1, 2, none⟩) (Nat.le_refl _) _
      have qo : ∀ k, k ≠ W.heap.size + 1 → ((A3.setCell ⟨W.heap.size + 1, 1, none⟩ (.int .i64 ((trail pre).2.b + x.len))).setCell ⟨W.heap.size + 1, 2, none⟩ (.int .i64 ((trail pre).2.c + 1))).heap[k]? = A3.heap[k]? :=
        fun k hk => (Below.heap_setCell _ _ _ _ hk).trans (Below.heap_setCell _ _ _ _ hk)
      clear hp0 hp1 hp2 hp3 hg0 hg1 hg2 hg3' hf1 hf2 hf3
      generalize (A3.setCell ⟨W.heap.size + 1, 1, none⟩ (.int .i64 ((trail pre).2.b + x.len))).setCell ⟨W.heap.size + 1, 2, none⟩ (.int .i64 ((trail pre).2.c + 1)) = A4 at *
      obtain ⟨hp0, hp1, hp2, hp3⟩ := q4.cells
      obtain ⟨hg0, hg1, hg2, hg3'⟩ := qg.cells
      have hf3 := q4.frozen 3
      have hmx : Tryd.prog.follows .mixedOrders = true := by kernel_rfl
      have hd : 1 ≤ n - 1 - 1 := by omega
      have hwr : IntKind.i64.wrap ((trail pre).2.d + pairsI x.rune) = (trail pre).2.d + pairsI x.rune := IntWalk.i64_in _ ⟨by omega, by omega⟩
      have hz3 := hk3.size
      have hz4 := qB.size
      have fin : ∀ a0, ownPostG V.heap.size (Kp (W.heap.size + 1 + 1)) (fun pre A => ((W.heap.size + 3 ≤ A.heap.size ∧ J (trail pre).1 A) ∧ Boxed A W.heap.size 91 (.func (.yield l) #[] #[])) ∧ Row4 A (W.heap.size + 1) 67 (.int .i64 0) (.int .i64 (trail pre).2.b) (.int .i64 (trail pre).2.c) (.int .i64 (trail pre).2.d))
          (fun c pre A => (c = .ret ∧ W.heap.size ≤ A.heap.size) ∧ Jx (trail pre).1 A) (pre ++ [x]) A .normal a0 (A4.setCell ⟨W.heap.size + 1, 3, none⟩ (.int .i64 ((trail pre).2.d + pairsI x.rune))).drew := fun a0 => by
        have hsame : ∀ k, k < A.heap.size → k ≠ l → k ≠ W.heap.size + 1 → (A4.setCell ⟨W.heap.size + 1, 3, none⟩ (.int .i64 ((trail pre).2.d + pairsI x.rune))).drew.heap[k]? = A.heap[k]? := fun k hk h1 h2 =>
          (Below.heap_setCell A4 _ _ k h2).trans ((qo k h2).trans (hk3.same k hk h1))
        have hzz : (A4.setCell ⟨W.heap.size + 1, 3, none⟩ (.int .i64 ((trail pre).2.d + pairsI x.rune))).drew.heap.size = A4.heap.size := by show (A4.heap.modify _ _).size = _; rw [Array.size_modify]
        refine ⟨⟨by omega, fun k o hB hk _ => ?_⟩, Kp_of (fun k hk1 hk2 => hsame k hk2 (by omega) (by omega)) ?_, ⟨⟨by omega, ?_⟩, ?_⟩, ?_⟩
        · exact (hsame k (Array.getElem?_eq_some_iff.1 hk).1 (by omega) (by omega)).trans hk
        · have := (Array.getElem?_eq_some_iff.1 hr).1
          omega
        · rw [trail_snoc]
          refine hJ _ _ _ hJ3 ((qB.mono (by omega)).trans ?_)
          exact ((Below.refl W.heap.size A4).setCell (p := ⟨W.heap.size + 1, 3, none⟩) (by simp) _).drew
        · exact (Below.heap_setCell A4 _ _ _ (by simp)).trans qy
        · rw [trail_snoc]
          exact q4.set3 _
      gi_region_with_o (refine ⟨trivial, ?_⟩; gi_at_call 49; refine (CallsIn.inRound lin (callsIn_wide.2 (pairsOf_any x.rune _))).mono ?_; rintro e w' ⟨rfl, rfl⟩)
      all_goals gi_wp2
      all_goals exact fin _
    · clear hp0 hp1 hp2 hp3 hcy
      gi_wp2
      have hz3 := hk3.size
      refine ⟨⟨by omega, fun k o hB hk _ => (hk3.same k (Array.getElem?_eq_some_iff.1 hk).1 (by omega)).trans hk⟩, ⟨rfl, by omega⟩, ?_⟩
      rw [trail_snoc]
      exact hJx3
  case done =>
    rintro D xs A hD rfl ⟨⟨⟨hAz, hJ1⟩, hyb1⟩, hpb1⟩ hK
    obtain ⟨fn, tmps, assign, body, hy, hR⟩ := hY _ (trail (signs s)).2 A hJ1 (by simp [spotsL])
    have hcy := hyb1.cell
    obtain ⟨hp0, hp1, hp2, hp3⟩ := hpb1.cells
    gi_wp2
    simp only [Spot.val] at hy
    rw [hy, Oper.uponIn_round]
    clear hy
    refine ⟨fun _ => by omega, (round_any0 hR).mono ?_⟩
    clear hR
    rintro e A3 (⟨rfl, hJ3, hk3⟩ | ⟨rfl, hJx3, hk3⟩)
    · have hK3 := (hk3.same D (Array.getElem?_eq_some_iff.1 hK).1 (by omega)).trans hK
      gi_wp2
      refine ⟨by simp, .inl ⟨_, _, rfl, run_takeDeferred hK3, ?_⟩⟩
      exact ⟨_, results_none rfl _ _ _, ⟨_, rfl⟩, .inl ⟨_, rfl, hJ _ _ _ hJ3 ((putObj_below _ _ _).mono (by omega))⟩⟩
    · have hK3 := (hk3.same D (Array.getElem?_eq_some_iff.1 hK).1 (by omega)).trans hK
      gi_wp2
      refine ⟨by simp, .inl ⟨_, _, rfl, run_takeDeferred hK3, ?_⟩⟩
      exact ⟨_, results_none rfl _ _ _, ⟨_, rfl⟩, .inr ⟨_, List.prefix_refl _, hJx _ _ _ hJx3 ((putObj_below _ _ _).mono (by omega))⟩⟩
  case stop =>
    rintro D c pre A hD hpre ⟨⟨rfl, hAz⟩, hx⟩ hK
    gi_wp2
    refine ⟨by simp, .inl ⟨_, _, rfl, run_takeDeferred hK, ?_⟩⟩
    exact ⟨_, results_none rfl _ _ _, ⟨_, rfl⟩, .inr ⟨_, trail_prefix hpre, hJx _ _ _ hx ((putObj_below _ _ _).mono (by omega))⟩⟩

/-- The sequence of places over the text in the box bx. -/
theorem spots_calm (n bx : Nat) (hn : 5 ≤ n) (s : ByteArray) (hs : s.size ≤ 140737488355328) (w : World) (hbx : bx < w.heap.size) (hc : w.cell? ⟨bx, 0, none⟩ = some (.string s)) :
    SeqCalm n Tryd.prog 48 #[.pointer (some ⟨bx, 0, none⟩)] (fun x : Spot => #[x.val]) (fun ys => ys = spotsL s) (fun pre => pre <+: spotsL s) (spotsL s).length w :=
  fun l J Jx W hW hl hlW hJ hJx hY h0 => spots1_in n l bx hn s hs J Jx W (by omega) hlW hJ hJx hY ((hW.cell (p := ⟨bx, 0, none⟩) hbx).trans hc) h0

end Go.Proofs.YtbiodfeanngkdaaDoor
