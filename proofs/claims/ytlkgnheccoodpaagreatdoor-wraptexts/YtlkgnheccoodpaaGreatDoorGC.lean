import Derived.Maps.AppendAt
import Derived.Test.YtlkgnheccoodpaaGreatDoorCellM
import Derived.Test.YtlkgnheccoodpaaGreatDoorCellW4
namespace Go.Proofs.YtlkgnheccoodpaaGreatDoor
theorem clusF_length (s : ByteArray) : ∀ b pos g, (clusF s b pos g).length ≤ b
 | 0, _, _ => by simp [clusF]
 | b + 1, pos, g => by
  unfold clusF
  have h1 := clusF_length s b (pos + (Utf8.decode s pos).2) (g.add (Utf8.decode s pos).1)
  have h2 := clusF_length s b (pos + (Utf8.decode s pos).2) (.begin pos g.to (Utf8.decode s pos).1)
  repeat' split
  all_goals simp
  all_goals omega
theorem clusters_length (s : ByteArray) : (clusters s).length ≤ s.size + 1 := clusF_length s _ _ _
theorem clusF_cells (s : ByteArray) : ∀ b pos g, 0 ≤ g.cells → g.cells ≤ 2 → ∀ c ∈ clusF s b pos g, 0 ≤ c.cells ∧ c.cells ≤ 2
 | 0, _, _, _, _ => by simp [clusF]
 | b + 1, pos, g, h1, h2 => by
  have e1 := clusF_cells s b (pos + (Utf8.decode s pos).2) (g.add (Utf8.decode s pos).1) (by simp only [Gr.add]; split <;> omega) (by simp only [Gr.add]; split <;> omega)
  have hw := widthI_bd (Utf8.decode s pos).1
  have e2 := clusF_cells s b (pos + (Utf8.decode s pos).2) (.begin pos g.to (Utf8.decode s pos).1) hw.1 hw.2
  unfold clusF
  intro c hc
  repeat' split at hc
  ·exact e1 c hc
  ·rcases List.mem_cons.1 hc with rfl | hc
   ·exact ⟨h1, h2⟩
   ·exact e2 c hc
  ·exact e2 c hc
  ·simp at hc
  ·rcases List.mem_singleton.1 hc with rfl
   exact ⟨h1, h2⟩
theorem clusters_cells (s : ByteArray) : ∀ c ∈ clusters s, 0 ≤ c.cells ∧ c.cells ≤ 2 := clusF_cells s _ _ _ (by decide) (by decide)
theorem cellsOf_append (l m : List Cl) : cellsOf (l ++ m) = cellsOf l + cellsOf m := by
 induction l with
 | nil => simp [cellsOf]
 | cons c r ih =>
  simp only [cellsOf, List.cons_append, List.foldr_cons] at *
  omega
theorem cellsOf_snoc (l : List Cl) (x : Cl) : cellsOf (l ++ [x]) = cellsOf l + x.cells := by rw [cellsOf_append]; simp [cellsOf]
theorem cellsOf_bd (l : List Cl) (h : ∀ c ∈ l, 0 ≤ c.cells ∧ c.cells ≤ 2) : 0 ≤ cellsOf l ∧ cellsOf l ≤ 2 * l.length := by
 induction l with
 | nil => simp [cellsOf]
 | cons c r ih =>
  have := ih (fun d hd => h d (List.mem_cons_of_mem _ hd))
  have := h c (List.mem_cons_self ..)
  simp only [cellsOf, List.foldr_cons, List.length_cons] at *
  omega
theorem front_bd {s : ByteArray} {pre : List Cl} {x : Cl} (h : pre ++ [x] <+: clusters s) : (0 ≤ cellsOf pre ∧ cellsOf pre ≤ 2 * (s.size + 1)) ∧ 0 ≤ x.cells ∧ x.cells ≤ 2 := by
 have hc := clusters_cells s
 have hl := clusters_length s
 have hlen := h.length_le
 have hm : ∀ c ∈ pre ++ [x], c ∈ clusters s := fun c hc => h.subset hc
 have hp := cellsOf_bd pre (fun c hcp => hc c (hm c (by simp [hcp])))
 have hx := hc x (hm x (by simp))
 simp at hlen
 omega
end Go.Proofs.YtlkgnheccoodpaaGreatDoor
namespace Go.Proofs.YtlkgnheccoodpaaGreatDoor
open Go.RowKit Go.Shelf
attribute [local go_sem] Oper.semAt_some
def ClAt (W : World) (B : Nat) (x : Cl) : Prop := W.heap[B]? = some (.cells #[.int .i64 x.loc, .int .i64 x.len, .int .i64 x.fr, .int .i64 x.to, .int .i64 x.cells] 116 (0, 0))
theorem ClAt.lt {W : World} {B : Nat} {x : Cl} (h : ClAt W B x) : B < W.heap.size := (Array.getElem?_eq_some_iff.1 h).1
theorem ClAt.row {W : World} {B : Nat} {x : Cl} (h : ClAt W B x) : W.cell? ⟨B, 0, none⟩ = some (.int .i64 x.loc) ∧ W.cell? ⟨B, 1, none⟩ = some (.int .i64 x.len) ∧ W.cell? ⟨B, 2, none⟩ = some (.int .i64 x.fr) ∧
  W.cell? ⟨B, 3, none⟩ = some (.int .i64 x.to) ∧ W.cell? ⟨B, 4, none⟩ = some (.int .i64 x.cells) := by
 simp [World.cell?, show W.heap[B]? = _ from h]
end Go.Proofs.YtlkgnheccoodpaaGreatDoor
namespace Go.Proofs.YtlkgnheccoodpaaGreatDoor
open Go.RowKit Go.Shelf
attribute [local go_sem] Oper.semAt_some
set_option maxRecDepth 100000 in
theorem seq_some (lb : Array Value) (W : World) : Sem.run Tryz.prog (binOp .eql 114 (.func (.func 90) #[] lb) .nilFunc) W = .ok (.bool false) W := by rfl
end Go.Proofs.YtlkgnheccoodpaaGreatDoor
namespace Go.Proofs.YtlkgnheccoodpaaGreatDoor
open Go.RowKit Go.Shelf
attribute [local go_sem] Oper.semAt_some
def flatC (l : List Cl) : List Value := l.flatMap fun x => [.int .i64 x.loc, .int .i64 x.len, .int .i64 x.fr, .int .i64 x.to, .int .i64 x.cells]
theorem flatC_snoc (l : List Cl) (x : Cl) : flatC (l ++ [x]) = flatC l ++ [.int .i64 x.loc, .int .i64 x.len, .int .i64 x.fr, .int .i64 x.to, .int .i64 x.cells] := by simp [flatC]
theorem info_partsC {P : Program} {t : TypeId} {z : Option Value} {a b : Nat} (h : (P.info? t).map (fun i => (i.zero, i.size, i.bytes)) = some (z, a, b)) : ∃ i, P.info? t = some i ∧ i.zero = z ∧ i.size = a ∧ i.bytes = b := by
 obtain ⟨i, hi, e⟩ := Option.map_eq_some_iff.1 h
 simp only [Prod.mk.injEq] at e
 exact ⟨i, hi, e.1, e.2.1, e.2.2⟩
theorem cell_five_new (w : World) (a b c d f : Value) (t : TypeId) : ∀ j u, [a, b, c, d, f][j]? = some u → (w.alloc (.cells #[a, b, c, d, f] t)).cell? ((⟨w.heap.size, 0, none⟩ : Addr).add j) = some u := by
 intro j u hj
 match j, hj with
 | 0, hj => simp at hj; subst hj; simp [Addr.add]
 | 1, hj => simp at hj; subst hj; simp [Addr.add]
 | 2, hj => simp at hj; subst hj; simp [Addr.add]
 | 3, hj => simp at hj; subst hj; simp [Addr.add]
 | 4, hj => simp at hj; subst hj; simp [Addr.add]
 | j + 5, hj => simp at hj
theorem ownsRow_keeps {A B : World} {m hi : Nat} {e : TypeId} {size : Nat} {v : Value} {n : Nat} {xs : List Value} (h : A.ownsRow hi e size v n xs) (hk : Keeps m hi A B) : B.ownsRow hi e size v n xs := by
 refine ⟨h.1, ?_⟩
 rcases h.2 with hn | ⟨g, cap, cur, rfl, hb, hgg, rest⟩
 ·exact .inl hn
 ·exact .inr ⟨g, cap, cur, rfl, hb, (hk.same g (Array.getElem?_eq_some_iff.1 hgg).1 (.inr hb)).trans hgg, rest⟩
theorem ownsRow_from {A : World} {m hi : Nat} {e : TypeId} {size : Nat} {v : Value} {n : Nat} {xs : List Value} (h : A.ownsRow hi e size v n xs) (hm : m ≤ hi) : A.ownsRow m e size v n xs := by
 refine ⟨h.1, ?_⟩
 rcases h.2 with hn | ⟨g, cap, cur, rfl, hb, rest⟩
 ·exact .inl hn
 ·exact .inr ⟨g, cap, cur, rfl, by omega, rest⟩
theorem but_grown {M : Nat → Prop} {A B : World} {row : Option Nat} (h : A.grownBy B row) (hr : ∀ k, row = some k → M k) : But M A B := ⟨h.os, h.tape, h.output, h.size, fun k hk hm => h.block k hk (fun e => hm (hr k e.symm))⟩
end Go.Proofs.YtlkgnheccoodpaaGreatDoor
namespace Go.Proofs.YtlkgnheccoodpaaGreatDoor
def cntF (s : ByteArray) : Nat → Nat → Nat
 | 0, _ => 0
 | b + 1, pos => if pos < s.size then cntF s b (pos + (Utf8.decode s pos).2) + 1 else 0
def cnt (s : ByteArray) : Nat := cntF s s.size 0
theorem cntF_end (s : ByteArray) (b pos : Nat) (h : ¬ pos < s.size) : cntF s b pos = 0 := by cases b <;> simp [cntF, h]
theorem cntF_le (s : ByteArray) : ∀ b pos, pos + cntF s b pos ≤ max pos s.size
 | 0, pos => by simp [cntF]; omega
 | b + 1, pos => by
  unfold cntF
  split
  ·rename_i h
   have := cntF_le s b (pos + (Utf8.decode s pos).2)
   have := decode_fit s pos h
   have := Lib.decode_width_pos s pos h
   omega
  ·omega
theorem cntF_fuel (s : ByteArray) : ∀ b c pos, s.size ≤ pos + b → s.size ≤ pos + c → cntF s b pos = cntF s c pos
 | 0, c, pos, h, _ => by rw [cntF_end s c pos (by omega)]; rfl
 | b + 1, 0, pos, _, h => by rw [cntF_end s (b + 1) pos (by omega)]; rfl
 | b + 1, c + 1, pos, h1, h2 => by
  unfold cntF
  split
  ·rename_i h
   have := Lib.decode_width_pos s pos h
   rw [cntF_fuel s b c _ (by omega) (by omega)]
  ·rfl
def Chain : List Cl → Int → Int → Prop
 | [], _, _ => True
 | c :: r, loc, sign => (c.loc = loc ∧ 1 ≤ c.len ∧ c.fr = sign ∧ c.fr < c.to ∧ 0 ≤ c.cells ∧ c.cells ≤ 2 ∧ c.to - c.fr ≤ c.len ∧ c.len ≤ 4 * (c.to - c.fr)) ∧ Chain r (loc + c.len) c.to
def lensOf (l : List Cl) : Int := l.foldr (fun c n => c.len + n) 0
def lastTo : List Cl → Int → Int
 | [], sign => sign
 | c :: r, _ => lastTo r c.to
theorem clusF_chain (s : ByteArray) : ∀ (b pos : Nat) (g : Gr), 0 < pos → s.size + 1 ≤ pos + b → pos ≤ s.size → g.fr < g.to → g.to - g.fr ≤ (pos : Int) - g.loc → (pos : Int) - g.loc ≤ 4 * (g.to - g.fr) → 0 ≤ g.cells → g.cells ≤ 2 →
  Chain (clusF s b pos g) g.loc g.fr ∧ g.loc + lensOf (clusF s b pos g) = s.size ∧ lastTo (clusF s b pos g) g.fr = g.to + cntF s b pos ∧ clusF s b pos g ≠ []
 | 0, pos, g, h0, h1, h2, _, _, _, _, _ => by omega
 | b + 1, pos, g, h0, h1, h2, h3, h4, h5, h6, h7 => by
  by_cases hp : pos < s.size
  ·have hd := decode_fit s pos hp
   have hw := Lib.decode_width_pos s pos hp
   have hwd := widthI_bd (Utf8.decode s pos).1
   unfold clusF cntF
   rw [if_pos hp, if_pos h0, if_pos hp]
   cases ht : g.takes (Utf8.decode s pos).1
   ·rw [if_neg (by simp)]
    have ih := clusF_chain s b (pos + (Utf8.decode s pos).2) (.begin pos g.to (Utf8.decode s pos).1) (by omega) (by omega) (by omega) (by simp only [Gr.begin]; omega) (by simp only [Gr.begin]; omega) (by simp only [Gr.begin]; omega) hwd.1 hwd.2
    obtain ⟨i1, i2, i3, i4⟩ := ih
    refine ⟨⟨⟨rfl, ?_, rfl, ?_, ?_, ?_, ?_, ?_⟩, ?_⟩, ?_, ?_, by simp⟩
    ·simp only [Gr.upTo]; omega
    ·simp only [Gr.upTo]; omega
    ·simp only [Gr.upTo]; omega
    ·simp only [Gr.upTo]; omega
    ·simp only [Gr.upTo]; omega
    ·simp only [Gr.upTo]; omega
    ·have e : g.loc + (g.upTo (pos : Nat)).len = pos := by simp only [Gr.upTo]; omega
     rw [e]
     exact i1
    ·have i2' : (pos : Int) + lensOf (clusF s b (pos + (Utf8.decode s pos).2) (.begin pos g.to (Utf8.decode s pos).1)) = s.size := i2
     show g.loc + (((pos : Int) - g.loc) + lensOf (clusF s b (pos + (Utf8.decode s pos).2) (.begin pos g.to (Utf8.decode s pos).1))) = s.size
     omega
    ·simp only [lastTo, Gr.upTo]
     have e2 : lastTo (clusF s b (pos + (Utf8.decode s pos).2) (.begin pos g.to (Utf8.decode s pos).1)) g.to = lastTo (clusF s b (pos + (Utf8.decode s pos).2) (.begin pos g.to (Utf8.decode s pos).1)) (Gr.begin pos g.to (Utf8.decode s pos).1).fr := rfl
     rw [e2, i3]
     simp only [Gr.begin]
     omega
   ·rw [if_pos rfl]
    have ih := clusF_chain s b (pos + (Utf8.decode s pos).2) (g.add (Utf8.decode s pos).1) (by omega) (by omega) (by omega) (by simp only [Gr.add]; omega) (by simp only [Gr.add]; omega) (by simp only [Gr.add]; omega) (by simp only [Gr.add]; split <;> omega) (by simp only [Gr.add]; split <;> omega)
    obtain ⟨i1, i2, i3, i4⟩ := ih
    refine ⟨i1, i2, ?_, i4⟩
    have e : lastTo (clusF s b (pos + (Utf8.decode s pos).2) (g.add (Utf8.decode s pos).1)) g.fr = lastTo (clusF s b (pos + (Utf8.decode s pos).2) (g.add (Utf8.decode s pos).1)) (g.add (Utf8.decode s pos).1).fr := rfl
    rw [e, i3]
    simp only [Gr.add]
    omega
  ·unfold clusF
   rw [if_neg hp, if_neg (by omega), cntF_end s _ _ hp]
   refine ⟨⟨⟨rfl, ?_, rfl, ?_, ?_, ?_, ?_, ?_⟩, trivial⟩, ?_, ?_, by simp⟩
   all_goals simp [Gr.upTo, lensOf, lastTo]
   all_goals omega
theorem clusters_chain (s : ByteArray) : Chain (clusters s) 0 0 ∧ lensOf (clusters s) = s.size ∧ lastTo (clusters s) 0 = cnt s := by
 by_cases h : s.size = 0
 ·have e : clusters s = [] := by unfold clusters clusF; simp [h]
  rw [e]
  simp [Chain, lensOf, lastTo, cnt, h, cntF]
 ·have hp : 0 < s.size := by omega
  have hd := decode_fit s 0 hp
  have hw := Lib.decode_width_pos s 0 hp
  have hwd := widthI_bd (Utf8.decode s 0).1
  have e : clusters s = clusF s s.size (0 + (Utf8.decode s 0).2) (.begin (0 : Nat) 0 (Utf8.decode s 0).1) := by
   unfold clusters
   rw [clusF, if_pos hp, if_neg (by omega)]
   rfl
  have ih := clusF_chain s s.size (0 + (Utf8.decode s 0).2) (.begin (0 : Nat) 0 (Utf8.decode s 0).1) (by omega) (by omega) (by omega) (by simp only [Gr.begin]; omega) (by simp only [Gr.begin]; omega) (by simp only [Gr.begin]; omega) hwd.1 hwd.2
  rw [← e] at ih
  obtain ⟨i1, i2, i3, i4⟩ := ih
  refine ⟨i1, ?_, ?_⟩
  ·simp only [Gr.begin] at i2; omega
  ·have e3 : lastTo (clusters s) 0 = lastTo (clusters s) (Gr.begin (0 : Nat) 0 (Utf8.decode s 0).1).fr := rfl
   rw [e3, i3]
   have : cnt s = cntF s (s.size - 1) (0 + (Utf8.decode s 0).2) + 1 := by
    unfold cnt
    obtain ⟨b, hb⟩ : ∃ b, s.size = b + 1 := ⟨s.size - 1, by omega⟩
    conv => lhs; rw [show s.size = (s.size - 1) + 1 by omega]
    rw [cntF, if_pos hp]
   rw [this, cntF_fuel s s.size (s.size - 1) _ (by omega) (by omega)]
   simp only [Gr.begin]
   omega
theorem chain_append : ∀ (l m : List Cl) (a b : Int), Chain (l ++ m) a b → Chain l a b ∧ Chain m (a + lensOf l) (lastTo l b)
 | [], m, a, b, h => by simpa [Chain, lensOf, lastTo] using h
 | c :: r, m, a, b, h => by
  obtain ⟨h1, h2⟩ := h
  have ih := chain_append r m _ _ h2
  refine ⟨⟨h1, ih.1⟩, ?_⟩
  have e : a + lensOf (c :: r) = a + c.len + lensOf r := by simp only [lensOf, List.foldr_cons]; omega
  rw [e]
  exact ih.2
theorem chain_len : ∀ (l : List Cl) (a b : Int), Chain l a b → l.length ≤ lensOf l
 | [], _, _, _ => by simp [lensOf]
 | c :: r, a, b, h => by
  have := chain_len r _ _ h.2
  have := h.1.2.1
  simp only [lensOf, List.foldr_cons, List.length_cons] at *
  omega
theorem clusters_le (s : ByteArray) : (clusters s).length ≤ s.size := by
 have h := clusters_chain s
 have := chain_len _ _ _ h.1
 omega
theorem chain_cells : ∀ (l : List Cl) (a b : Int), Chain l a b → cellsOf l ≤ 2 * (lastTo l b - b) ∧ b ≤ lastTo l b
 | [], _, _, _ => by simp [cellsOf, lastTo]
 | c :: r, a, b, h => by
  have := chain_cells r _ _ h.2
  obtain ⟨h1, h2, h3, h4, h5, h6, h7, h8⟩ := h.1
  simp only [cellsOf, List.foldr_cons, lastTo] at *
  omega
theorem chain_at {s : ByteArray} {pre r : List Cl} {c : Cl} (h : pre ++ c :: r = clusters s) : (c.loc = lensOf pre ∧ 1 ≤ c.len ∧ c.fr = lastTo pre 0 ∧ c.fr < c.to ∧ 0 ≤ c.cells ∧ c.cells ≤ 2 ∧ c.to - c.fr ≤ c.len ∧ c.len ≤ 4 * (c.to - c.fr)) := by
 have h1 := (clusters_chain s).1
 rw [← h] at h1
 have := (chain_append _ _ _ _ h1).2.1
 simpa using this
theorem lensOf_snoc (l : List Cl) (c : Cl) : lensOf (l ++ [c]) = lensOf l + c.len := by
 induction l with
 | nil => simp [lensOf]
 | cons d r ih => simp only [lensOf, List.cons_append, List.foldr_cons] at *; omega
theorem lastTo_snoc : ∀ (l : List Cl) (c : Cl) (b : Int), lastTo (l ++ [c]) b = c.to
 | [], _, _ => rfl
 | d :: r, c, _ => lastTo_snoc r c d.to
theorem lens_le {s : ByteArray} {pre r : List Cl} (h : pre ++ r = clusters s) : 0 ≤ lensOf pre ∧ lensOf pre ≤ s.size ∧ 0 ≤ lastTo pre 0 ∧ lastTo pre 0 ≤ cnt s := by
 obtain ⟨h1, h2, h3⟩ := clusters_chain s
 rw [← h] at h1 h2 h3
 obtain ⟨a1, a2⟩ := chain_append _ _ _ _ h1
 have l1 := chain_len _ _ _ a1
 have l2 := chain_len _ _ _ a2
 have c1 := (chain_cells _ _ _ a1).2
 have c2 := (chain_cells _ _ _ a2).2
 have e : lensOf (pre ++ r) = lensOf pre + lensOf r := by
  clear h h1 h2 h3 a1 a2 l1 l2 c1 c2
  induction pre with
  | nil => simp [lensOf]
  | cons d t ih => simp only [lensOf, List.cons_append, List.foldr_cons] at *; omega
 have e2 : lastTo (pre ++ r) 0 = lastTo r (lastTo pre 0) := by
  clear h h1 h2 h3 a1 a2 l1 l2 c1 c2 e
  generalize (0 : Int) = b
  induction pre generalizing b with
  | nil => rfl
  | cons d t ih => exact ih d.to
 omega
end Go.Proofs.YtlkgnheccoodpaaGreatDoor
