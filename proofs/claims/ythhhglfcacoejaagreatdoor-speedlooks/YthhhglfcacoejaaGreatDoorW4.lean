/- Contracts of utf.find and utf.Place: a place of a text in any unit, told in any other. -/
import Derived.Test.YthhhglfcacoejaaGreatDoorGW
namespace Go.Proofs.YthhhglfcacoejaaGreatDoor
open Go.RowKit Go.Shelf
attribute [local go_sem] Oper.semAt_some

def Spot.get (p : Spot) (u : Int) : Int := if u = 1 then p.b else if u = 2 then p.c else p.d
def zeroSpot : Spot := ⟨0, 0, 0⟩
/-- The first of these places that is the one sought. -/
def findL (u loc : Int) : List Spot → Spot × Int
  | [] => (zeroSpot, 1)
  | p :: r => if p.get u = loc then (p, 0) else if loc < p.get u then (zeroSpot, 21) else findL u loc r
def findS (s : ByteArray) (u loc : Int) : Spot × Int := if loc < 0 then (zeroSpot, 1) else findL u loc (spotsL s)

theorem hide {p : Prop} (h : p) : Hid p := h

/-- These places are not the one sought. -/
def fIp (u loc : Int) (pre : List Spot) : Prop := ∀ r, findL u loc (pre ++ r) = findL u loc r
theorem fIp_step {u loc : Int} {pre : List Spot} (h : fIp u loc pre) (x : Spot) (r : List Spot) : findL u loc ((pre ++ [x]) ++ r) = if x.get u = loc then (x, 0) else if loc < x.get u then (zeroSpot, 21) else findL u loc r := by
  rw [List.append_assoc, h]
  rfl
end Go.Proofs.YthhhglfcacoejaaGreatDoor
