/- Contracts of the document's own small functions on bytes (surtitleref1): long, second, more, rest. -/
import Derived.WalkKit
import Derived.WalkSpells
import Derived.WalkLawsBesides
import Derived.Test.YtbiodfeanngkdaaDoorW1
namespace Go.Proofs.YtbiodfeanngkdaaDoor
open Go.RowKit

/-- Of how many bytes the encoding is that a byte begins; 0: none. -/
def longN (c : Int) : Int := if c < 128 then 1 else if 194 ≤ c ∧ c ≤ 223 then 2 else if 224 ≤ c ∧ c ≤ 239 then 3 else if 240 ≤ c ∧ c ≤ 244 then 4 else 0
/-- From which to which byte the second one may be, behind a first one. -/
def secLo (c : Int) : Int := if c = 224 then 160 else if c = 240 then 144 else 128
def secHi (c : Int) : Int := if c = 237 then 159 else if c = 244 then 143 else 191
def secondB (c d : Int) : Bool := decide (secLo c ≤ d) && decide (d ≤ secHi c)
/-- The bytes of s, laid out from the beginning of a block on. -/
def BytesAt (W : World) (B : Nat) (s : ByteArray) : Prop := ∀ k (h : k < s.size), W.cell? ⟨B, k, none⟩ = some (.int .u8 s[k].toNat)

def moreB (s : ByteArray) (k : Nat) : Bool := decide (k < s.size) && (decide (128 ≤ (s.get! k).toNat) && decide ((s.get! k).toNat ≤ 191))
end Go.Proofs.YtbiodfeanngkdaaDoor
