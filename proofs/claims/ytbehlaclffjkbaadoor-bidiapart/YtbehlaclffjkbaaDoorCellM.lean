/- Package cell's answers as mathematics: widths, clusters. -/
import Derived.Test.YtbehlaclffjkbaaDoorLawL
namespace Go.Proofs.YtbehlaclffjkbaaDoor
open Go.RowKit

theorem hideC {p : Prop} (h : p) : Hid p := h
def tab0 : List (Int × Int) := [(0, 31), (127, 159), (173, 173), (768, 879), (1155, 1161), (1425, 1469), (1471, 1471), (1473, 1474), (1476, 1477), (1479, 1479), (1552, 1562), (1564, 1564), (1611, 1631), (1648, 1648), (1750, 1756), (1759, 1764), (1767, 1768), (1770, 1773), (3633, 3633), (3636, 3642), (3655, 3662), (4448, 4607), (6832, 6911), (7616, 7679), (8203, 8207), (8232, 8238), (8288, 8303), (8400, 8447), (12441, 12442), (65024, 65039), (65056, 65071), (65279, 65279), (127995, 127999), (917504, 921599)]
def tab2 : List (Int × Int) := [(4352, 4447), (8986, 8987), (9001, 9002), (9193, 9196), (9748, 9749), (9889, 9889), (9989, 9989), (10024, 10024), (10060, 10060), (10067, 10069), (10133, 10135), (11035, 11036), (11904, 12350), (12353, 42191), (43360, 43391), (44032, 55203), (63744, 64255), (65072, 65135), (65281, 65376), (65504, 65510), (127744, 128591), (128640, 128767), (129280, 129535), (131072, 262141)]
/-- A table of runs of runes lies below N, in the variable g. -/
def Tab (N g : Nat) (l : List (Int × Int)) (w : World) : Prop := (g < N ∧ N ≤ w.heap.size) ∧ ∃ (a : Addr) (cap : Nat), (a.block < N ∧ l.length ≤ cap ∧ cap ≤ maxLen) ∧ w.cell? ⟨g, 0, none⟩ = some (.slice (some a) l.length cap) ∧
  ∀ (i : Nat) (p : Int × Int), l[i]? = some p → w.cell? (a.add (i * 2)) = some (.int .i32 p.1) ∧ w.cell? (a.add (i * 2 + 1)) = some (.int .i32 p.2)
def Tabs (N : Nat) (w : World) : Prop := Tab N 2 tab0 w ∧ Tab N 3 tab2 w
theorem add_block (a : Addr) (n : Nat) : (a.add n).block = a.block := by unfold Addr.add; split <;> rfl
theorem Tab.kept {N g : Nat} {l : List (Int × Int)} {A B : World} (h : Tab N g l A) (hz : A.heap.size ≤ B.heap.size) (hb : ∀ k, k < N → B.heap[k]? = A.heap[k]?) : Tab N g l B := by
  obtain ⟨⟨h1, h2⟩, a, cap, ⟨h3, h4, h5⟩, h6, h7⟩ := h
  refine ⟨⟨h1, by omega⟩, a, cap, ⟨h3, h4, h5⟩, (World.cell?_of_block (hb _ h1)).trans h6, fun i p hp => ?_⟩
  obtain ⟨e1, e2⟩ := h7 i p hp
  exact ⟨(World.cell?_of_block (hb _ (by rw [add_block]; exact h3))).trans e1, (World.cell?_of_block (hb _ (by rw [add_block]; exact h3))).trans e2⟩
theorem Tabs.kept {N : Nat} {A B : World} (h : Tabs N A) (hz : A.heap.size ≤ B.heap.size) (hb : ∀ k, k < N → B.heap[k]? = A.heap[k]?) : Tabs N B := ⟨h.1.kept hz hb, h.2.kept hz hb⟩
theorem Tabs.room {N : Nat} {A : World} (h : Tabs N A) : N ≤ A.heap.size := h.1.1.2
theorem Tabs.below {N : Nat} {A B : World} (h : Tabs N A) (hb : Below A.heap.size A B) : Tabs N B := h.kept hb.size fun k hk => hb.block k (by have := h.room; omega)
theorem Tabs.but {N : Nat} {M : Nat → Prop} {A B : World} (h : Tabs N A) (hb : But M A B) (hM : ∀ k, M k → N ≤ k) : Tabs N B :=
  h.kept hb.size fun k hk => hb.same k (by have := h.room; omega) (fun e => by have := hM k e; omega)

def inTab (l : List (Int × Int)) (r : Int) : Bool := l.any fun p => decide (p.1 ≤ r) && decide (r ≤ p.2)
def widthI (r : Int) : Int := if 32 ≤ r ∧ r ≤ 126 then 1 else if inTab tab0 r = true then 0 else if inTab tab2 r = true then 2 else 1
theorem widthI_bd (r : Int) : 0 ≤ widthI r ∧ widthI r ≤ 2 := by
  unfold widthI
  split
  · omega
  · split
    · omega
    · split <;> omega
def ctlB (r : Int) : Bool := (decide (0 ≤ r) && decide (r ≤ 31)) || (decide (127 ≤ r) && decide (r ≤ 159)) || (r == 1564) || (r == 8206) || (r == 8207) || (decide (8232 ≤ r) && decide (r ≤ 8238)) || (decide (8294 ≤ r) && decide (r ≤ 8297))
def flagB (r : Int) : Bool := decide (127462 ≤ r) && decide (r ≤ 127487)
def symB (r : Int) : Bool := decide (8592 ≤ r) && decide (r ≤ 11263)

/-- A cluster that grows. -/
structure Gr where
  loc : Int
  fr : Int
  to : Int
  cells : Int
  first : Int
  last : Int
/-- A cluster. -/
structure Cl where
  loc : Int
  len : Int
  fr : Int
  to : Int
  cells : Int
deriving DecidableEq
def Gr.begin (loc sign r : Int) : Gr := ⟨loc, sign, sign + 1, widthI r, r, r⟩
def Gr.takes (g : Gr) (r : Int) : Bool :=
  if widthI r = 0 then !ctlB r && !ctlB g.first else if widthI r = 2 then g.last == 8205 && widthI g.first == 2 else flagB r && flagB g.first && g.to - g.fr == 1
def Gr.add (g : Gr) (r : Int) : Gr := { g with cells := if (flagB r || (r == 65039 && symB g.first)) = true then 2 else g.cells, to := g.to + 1, last := r }
def Gr.upTo (g : Gr) (e : Int) : Cl := ⟨g.loc, e - g.loc, g.fr, g.to, g.cells⟩
def Gr.zero : Gr := ⟨0, 0, 0, 0, 0, 0⟩
/-- The clusters that are told from place pos on, g growing. -/
def clusF (s : ByteArray) : Nat → Nat → Gr → List Cl
  | 0, _, _ => []
  | b + 1, pos, g =>
    if pos < s.size then
      if 0 < pos then
        if g.takes (Utf8.decode s pos).1 = true then clusF s b (pos + (Utf8.decode s pos).2) (g.add (Utf8.decode s pos).1)
        else g.upTo pos :: clusF s b (pos + (Utf8.decode s pos).2) (.begin pos g.to (Utf8.decode s pos).1)
      else clusF s b (pos + (Utf8.decode s pos).2) (.begin pos g.to (Utf8.decode s pos).1)
    else if s.size = 0 then [] else [g.upTo s.size]
def clusters (s : ByteArray) : List Cl := clusF s (s.size + 1) 0 .zero
def cellsOf (l : List Cl) : Int := l.foldr (fun c n => c.cells + n) 0
def ofI (s : ByteArray) : Int := cellsOf (clusters s)

end Go.Proofs.YtbehlaclffjkbaaDoor
