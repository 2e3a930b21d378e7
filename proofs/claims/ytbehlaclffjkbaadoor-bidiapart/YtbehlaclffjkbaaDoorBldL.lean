/- The shelf's contracts of strings.Builder's WriteRune and String speak of this program; a rune's bytes. -/
import Derived.Shelf.Strings.BuilderRune
import Derived.Shelf.Strings.BuilderF
import Derived.Shelf.Strings.BuilderK
import Derived.Test.YtbehlaclffjkbaaDoorEnc
import Derived.Test.YtbehlaclffjkbaaDoorProg
namespace Go.Proofs.YtbehlaclffjkbaaDoor
open Go.Shelf
def lay168Ren : Ren := ⟨fun x => if x = 168 then 59 else if x = 240 then 78 else if x = 242 then 79 else if x = 276 then 86 else if x = 278 then 87 else x, fun x => if x = 0 then 0 else if x = 3 then 3 else if x = 4 then 4 else if x = 5 then 5 else if x = 9 then 9 else if x = 20 then 20 else if x = 21 then 21 else if x = 37 then 65 else if x = 46 then 94 else if x = 51 then 76 else if x = 70 then 64 else if x = 72 then 67 else if x = 75 then 86 else if x = 80 then 69 else if x = 164 then 114 else x, fun x => x⟩
set_option maxRecDepth 100000 in
theorem lay168 : Lays.n168 Tryd.prog lay168Ren := { mixed := by kernel_rfl, f168 := by kernel_rfl, f240 := by kernel_rfl, f242 := by kernel_rfl, f276 := by kernel_rfl, f278 := by kernel_rfl, t0 := by kernel_rfl, a0 := fun _ => by kernel_rfl, z0 := fun _ => by kernel_rfl, v0 := fun _ => by kernel_rfl, t3 := by kernel_rfl, a3 := fun _ => by kernel_rfl, z3 := fun _ => by kernel_rfl, v3 := fun _ => by kernel_rfl, t4 := by kernel_rfl, a4 := fun _ => by kernel_rfl, z4 := fun _ => by kernel_rfl, v4 := fun _ => by kernel_rfl, t5 := by kernel_rfl, a5 := fun _ => by kernel_rfl, z5 := fun _ => by kernel_rfl, v5 := fun _ => by kernel_rfl, t9 := by kernel_rfl, a9 := fun _ => by kernel_rfl, z9 := fun _ => by kernel_rfl, v9 := fun _ => by kernel_rfl, t20 := by kernel_rfl, a20 := fun _ => by kernel_rfl, z20 := fun _ => by kernel_rfl, v20 := fun _ => by kernel_rfl, t21 := by kernel_rfl, a21 := fun _ => by kernel_rfl, z21 := fun _ => by kernel_rfl, v21 := fun _ => by kernel_rfl, t37 := by kernel_rfl, a37 := fun _ => by kernel_rfl, z37 := fun _ => by kernel_rfl, v37 := fun _ => by kernel_rfl, t46 := by kernel_rfl, a46 := fun _ => by kernel_rfl, z46 := fun _ => by kernel_rfl, v46 := fun _ => by kernel_rfl, t51 := by kernel_rfl, a51 := fun _ => by kernel_rfl, z51 := fun _ => by kernel_rfl, v51 := fun _ => by kernel_rfl, t70 := by kernel_rfl, a70 := fun _ => by kernel_rfl, z70 := fun _ => by kernel_rfl, v70 := fun _ => by kernel_rfl, t72 := by kernel_rfl, a72 := fun _ => by kernel_rfl, z72 := fun _ => by kernel_rfl, v72 := fun _ => by kernel_rfl, t75 := by kernel_rfl, a75 := fun _ => by kernel_rfl, z75 := fun _ => by kernel_rfl, v75 := fun _ => by kernel_rfl, t164 := by kernel_rfl, a164 := fun _ => by kernel_rfl, z164 := fun _ => by kernel_rfl, v164 := fun _ => by kernel_rfl }
def lay169Ren : Ren := ⟨fun x => if x = 169 then 32 else x, fun x => if x = 0 then 0 else if x = 3 then 3 else if x = 5 then 5 else if x = 9 then 9 else if x = 37 then 65 else if x = 70 then 64 else if x = 72 then 67 else if x = 127 then 89 else x, fun x => x⟩
set_option maxRecDepth 100000 in
theorem lay169 : Lays.n169 Tryd.prog lay169Ren := { mixed := by kernel_rfl, f169 := by kernel_rfl, t0 := by kernel_rfl, a0 := fun _ => by kernel_rfl, z0 := fun _ => by kernel_rfl, v0 := fun _ => by kernel_rfl, t3 := by kernel_rfl, a3 := fun _ => by kernel_rfl, z3 := fun _ => by kernel_rfl, v3 := fun _ => by kernel_rfl, t9 := by kernel_rfl, a9 := fun _ => by kernel_rfl, z9 := fun _ => by kernel_rfl, v9 := fun _ => by kernel_rfl, t37 := by kernel_rfl, a37 := fun _ => by kernel_rfl, z37 := fun _ => by kernel_rfl, v37 := fun _ => by kernel_rfl, t70 := by kernel_rfl, a70 := fun _ => by kernel_rfl, z70 := fun _ => by kernel_rfl, v70 := fun _ => by kernel_rfl, t72 := by kernel_rfl, a72 := fun _ => by kernel_rfl, z72 := fun _ => by kernel_rfl, v72 := fun _ => by kernel_rfl, t127 := by kernel_rfl, a127 := fun _ => by kernel_rfl, z127 := fun _ => by kernel_rfl, v127 := fun _ => by kernel_rfl }
theorem ext168 : Builder.Extra Tryd.prog lay168Ren := { sizeBuilder := by kernel_rfl, liesBuilder := by kernel_rfl, t5 := by kernel_rfl, a5 := fun _ => by kernel_rfl, z5 := fun _ => by kernel_rfl, v5 := fun _ => by kernel_rfl, infoByte := by kernel_rfl, cellsByte := by kernel_rfl, sizeByte := by kernel_rfl, neB5 := by decide }
theorem ext169 : Builder.Extra Tryd.prog lay169Ren := { sizeBuilder := by kernel_rfl, liesBuilder := by kernel_rfl, t5 := by kernel_rfl, a5 := fun _ => by kernel_rfl, z5 := fun _ => by kernel_rfl, v5 := fun _ => by kernel_rfl, infoByte := by kernel_rfl, cellsByte := by kernel_rfl, sizeByte := by kernel_rfl, neB5 := by decide }
theorem encRune (r : Int) : Lib.encodeRune r = encN (fixN r) := by
  unfold Lib.encodeRune fixN
  by_cases hv : Utf8.valid r = true
  · rw [if_pos hv]
    simp [Utf8.valid] at hv
    obtain ⟨c, rfl⟩ : ∃ c : Nat, r = c := ⟨r.toNat, by omega⟩
    unfold encN
    rw [Int.toNat_natCast]
    by_cases h1 : c < 128
    · rw [Lib.encodeRuneZ_one (by omega) (by omega), if_pos h1]; simp
    · rw [if_neg h1]
      by_cases h2 : c < 2048
      · rw [Lib.encodeRuneZ_two (by omega) (by omega), if_pos h2]
        simp only [List.map_cons, List.map_nil, List.cons.injEq, and_true]
        exact ⟨congrArg _ (by omega), congrArg _ (by omega)⟩
      · rw [if_neg h2]
        by_cases h3 : c < 65536
        · rw [Lib.encodeRuneZ_three (by omega), if_pos h3]
          simp only [List.map_cons, List.map_nil, List.cons.injEq, and_true]
          exact ⟨congrArg _ (by omega), congrArg _ (by omega), congrArg _ (by omega)⟩
        · rw [Lib.encodeRuneZ_four (by omega) (by omega), if_neg h3]
          simp only [List.map_cons, List.map_nil, List.cons.injEq, and_true]
          exact ⟨congrArg _ (by omega), congrArg _ (by omega), congrArg _ (by omega), congrArg _ (by omega)⟩
  · rw [if_neg hv, Lib.encodeRuneZ_bad (by simp [Utf8.valid] at hv; omega)]
    rfl
theorem textL_append (l m : List Int) : textL (l ++ m) = textL l ++ textL m := by
  induction l with
  | nil => rfl
  | cons n l ih => rw [List.cons_append, textL, ih, textL, List.append_assoc]
end Go.Proofs.YtbehlaclffjkbaaDoor
