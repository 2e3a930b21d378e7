import Derived.WalkKit
import Derived.WalkSpells
import Derived.WalkLawsBesides
import Derived.Test.YtlkgnheccoodpaaGreatDoorProg
import Derived.Test.YtlkgnheccoodpaaGreatDoorCellM
namespace Go.Proofs.YtlkgnheccoodpaaGreatDoor
open Go.RowKit
attribute [local go_sem] Oper.semAt_some
def clsBlank : List Int := [9, 32, 5760, 8192, 8193, 8194, 8195, 8196, 8197, 8198, 8200, 8201, 8202, 8287, 12288]
def clsDash : List Int := [45, 8208, 8210, 8211, 8212]
def clsOpen : List Int := [40, 91, 123, 12296, 12298, 12300, 12302, 12304, 12308, 65288, 65339, 65371]
def clsClose : List Int := [33, 41, 44, 46, 58, 59, 63, 93, 125, 12289, 12290, 12297, 12299, 12301, 12303, 12305, 12309, 12540, 65281, 65289, 65292, 65294, 65306, 65307, 65311, 65341, 65373]
def classI (r : Int) : Int := if r = 10 then 1 else if r ∈ clsBlank then 2 else if r ∈ clsDash then 3 else if r ∈ clsOpen then 4 else if r ∈ clsClose then 5 else 0
set_option maxRecDepth 100000 in
theorem class_10 (w : World) : Calls Tryz.prog 95 #[.int .i32 10] w fun e w' => e = .returned (.int .i64 1) ∧ w' = w := by
 go_enter Tryz.func95, Tryz.ntmps95
 go_wp2
 go_ret
 exact ⟨rfl, rfl⟩
set_option maxRecDepth 100000 in
theorem class_9 (w : World) : Calls Tryz.prog 95 #[.int .i32 9] w fun e w' => e = .returned (.int .i64 2) ∧ w' = w := by
 go_enter Tryz.func95, Tryz.ntmps95
 go_wp2
 go_ret
 exact ⟨rfl, rfl⟩
set_option maxRecDepth 100000 in
theorem class_32 (w : World) : Calls Tryz.prog 95 #[.int .i32 32] w fun e w' => e = .returned (.int .i64 2) ∧ w' = w := by
 go_enter Tryz.func95, Tryz.ntmps95
 go_wp2
 go_ret
 exact ⟨rfl, rfl⟩
set_option maxRecDepth 100000 in
theorem class_5760 (w : World) : Calls Tryz.prog 95 #[.int .i32 5760] w fun e w' => e = .returned (.int .i64 2) ∧ w' = w := by
 go_enter Tryz.func95, Tryz.ntmps95
 go_wp2
 go_ret
 exact ⟨rfl, rfl⟩
set_option maxRecDepth 100000 in
theorem class_8192 (w : World) : Calls Tryz.prog 95 #[.int .i32 8192] w fun e w' => e = .returned (.int .i64 2) ∧ w' = w := by
 go_enter Tryz.func95, Tryz.ntmps95
 go_wp2
 go_ret
 exact ⟨rfl, rfl⟩
set_option maxRecDepth 100000 in
theorem class_8193 (w : World) : Calls Tryz.prog 95 #[.int .i32 8193] w fun e w' => e = .returned (.int .i64 2) ∧ w' = w := by
 go_enter Tryz.func95, Tryz.ntmps95
 go_wp2
 go_ret
 exact ⟨rfl, rfl⟩
set_option maxRecDepth 100000 in
theorem class_8194 (w : World) : Calls Tryz.prog 95 #[.int .i32 8194] w fun e w' => e = .returned (.int .i64 2) ∧ w' = w := by
 go_enter Tryz.func95, Tryz.ntmps95
 go_wp2
 go_ret
 exact ⟨rfl, rfl⟩
set_option maxRecDepth 100000 in
theorem class_8195 (w : World) : Calls Tryz.prog 95 #[.int .i32 8195] w fun e w' => e = .returned (.int .i64 2) ∧ w' = w := by
 go_enter Tryz.func95, Tryz.ntmps95
 go_wp2
 go_ret
 exact ⟨rfl, rfl⟩
set_option maxRecDepth 100000 in
theorem class_8196 (w : World) : Calls Tryz.prog 95 #[.int .i32 8196] w fun e w' => e = .returned (.int .i64 2) ∧ w' = w := by
 go_enter Tryz.func95, Tryz.ntmps95
 go_wp2
 go_ret
 exact ⟨rfl, rfl⟩
set_option maxRecDepth 100000 in
theorem class_8197 (w : World) : Calls Tryz.prog 95 #[.int .i32 8197] w fun e w' => e = .returned (.int .i64 2) ∧ w' = w := by
 go_enter Tryz.func95, Tryz.ntmps95
 go_wp2
 go_ret
 exact ⟨rfl, rfl⟩
set_option maxRecDepth 100000 in
theorem class_8198 (w : World) : Calls Tryz.prog 95 #[.int .i32 8198] w fun e w' => e = .returned (.int .i64 2) ∧ w' = w := by
 go_enter Tryz.func95, Tryz.ntmps95
 go_wp2
 go_ret
 exact ⟨rfl, rfl⟩
set_option maxRecDepth 100000 in
theorem class_8200 (w : World) : Calls Tryz.prog 95 #[.int .i32 8200] w fun e w' => e = .returned (.int .i64 2) ∧ w' = w := by
 go_enter Tryz.func95, Tryz.ntmps95
 go_wp2
 go_ret
 exact ⟨rfl, rfl⟩
set_option maxRecDepth 100000 in
theorem class_8201 (w : World) : Calls Tryz.prog 95 #[.int .i32 8201] w fun e w' => e = .returned (.int .i64 2) ∧ w' = w := by
 go_enter Tryz.func95, Tryz.ntmps95
 go_wp2
 go_ret
 exact ⟨rfl, rfl⟩
set_option maxRecDepth 100000 in
theorem class_8202 (w : World) : Calls Tryz.prog 95 #[.int .i32 8202] w fun e w' => e = .returned (.int .i64 2) ∧ w' = w := by
 go_enter Tryz.func95, Tryz.ntmps95
 go_wp2
 go_ret
 exact ⟨rfl, rfl⟩
set_option maxRecDepth 100000 in
theorem class_8287 (w : World) : Calls Tryz.prog 95 #[.int .i32 8287] w fun e w' => e = .returned (.int .i64 2) ∧ w' = w := by
 go_enter Tryz.func95, Tryz.ntmps95
 go_wp2
 go_ret
 exact ⟨rfl, rfl⟩
set_option maxRecDepth 100000 in
theorem class_12288 (w : World) : Calls Tryz.prog 95 #[.int .i32 12288] w fun e w' => e = .returned (.int .i64 2) ∧ w' = w := by
 go_enter Tryz.func95, Tryz.ntmps95
 go_wp2
 go_ret
 exact ⟨rfl, rfl⟩
set_option maxRecDepth 100000 in
theorem class_45 (w : World) : Calls Tryz.prog 95 #[.int .i32 45] w fun e w' => e = .returned (.int .i64 3) ∧ w' = w := by
 go_enter Tryz.func95, Tryz.ntmps95
 go_wp2
 go_ret
 exact ⟨rfl, rfl⟩
set_option maxRecDepth 100000 in
theorem class_8208 (w : World) : Calls Tryz.prog 95 #[.int .i32 8208] w fun e w' => e = .returned (.int .i64 3) ∧ w' = w := by
 go_enter Tryz.func95, Tryz.ntmps95
 go_wp2
 go_ret
 exact ⟨rfl, rfl⟩
set_option maxRecDepth 100000 in
theorem class_8210 (w : World) : Calls Tryz.prog 95 #[.int .i32 8210] w fun e w' => e = .returned (.int .i64 3) ∧ w' = w := by
 go_enter Tryz.func95, Tryz.ntmps95
 go_wp2
 go_ret
 exact ⟨rfl, rfl⟩
set_option maxRecDepth 100000 in
theorem class_8211 (w : World) : Calls Tryz.prog 95 #[.int .i32 8211] w fun e w' => e = .returned (.int .i64 3) ∧ w' = w := by
 go_enter Tryz.func95, Tryz.ntmps95
 go_wp2
 go_ret
 exact ⟨rfl, rfl⟩
set_option maxRecDepth 100000 in
theorem class_8212 (w : World) : Calls Tryz.prog 95 #[.int .i32 8212] w fun e w' => e = .returned (.int .i64 3) ∧ w' = w := by
 go_enter Tryz.func95, Tryz.ntmps95
 go_wp2
 go_ret
 exact ⟨rfl, rfl⟩
set_option maxRecDepth 100000 in
theorem class_40 (w : World) : Calls Tryz.prog 95 #[.int .i32 40] w fun e w' => e = .returned (.int .i64 4) ∧ w' = w := by
 go_enter Tryz.func95, Tryz.ntmps95
 go_wp2
 go_ret
 exact ⟨rfl, rfl⟩
set_option maxRecDepth 100000 in
theorem class_91 (w : World) : Calls Tryz.prog 95 #[.int .i32 91] w fun e w' => e = .returned (.int .i64 4) ∧ w' = w := by
 go_enter Tryz.func95, Tryz.ntmps95
 go_wp2
 go_ret
 exact ⟨rfl, rfl⟩
set_option maxRecDepth 100000 in
theorem class_123 (w : World) : Calls Tryz.prog 95 #[.int .i32 123] w fun e w' => e = .returned (.int .i64 4) ∧ w' = w := by
 go_enter Tryz.func95, Tryz.ntmps95
 go_wp2
 go_ret
 exact ⟨rfl, rfl⟩
set_option maxRecDepth 100000 in
theorem class_12296 (w : World) : Calls Tryz.prog 95 #[.int .i32 12296] w fun e w' => e = .returned (.int .i64 4) ∧ w' = w := by
 go_enter Tryz.func95, Tryz.ntmps95
 go_wp2
 go_ret
 exact ⟨rfl, rfl⟩
set_option maxRecDepth 100000 in
theorem class_12298 (w : World) : Calls Tryz.prog 95 #[.int .i32 12298] w fun e w' => e = .returned (.int .i64 4) ∧ w' = w := by
 go_enter Tryz.func95, Tryz.ntmps95
 go_wp2
 go_ret
 exact ⟨rfl, rfl⟩
set_option maxRecDepth 100000 in
theorem class_12300 (w : World) : Calls Tryz.prog 95 #[.int .i32 12300] w fun e w' => e = .returned (.int .i64 4) ∧ w' = w := by
 go_enter Tryz.func95, Tryz.ntmps95
 go_wp2
 go_ret
 exact ⟨rfl, rfl⟩
set_option maxRecDepth 100000 in
theorem class_12302 (w : World) : Calls Tryz.prog 95 #[.int .i32 12302] w fun e w' => e = .returned (.int .i64 4) ∧ w' = w := by
 go_enter Tryz.func95, Tryz.ntmps95
 go_wp2
 go_ret
 exact ⟨rfl, rfl⟩
set_option maxRecDepth 100000 in
theorem class_12304 (w : World) : Calls Tryz.prog 95 #[.int .i32 12304] w fun e w' => e = .returned (.int .i64 4) ∧ w' = w := by
 go_enter Tryz.func95, Tryz.ntmps95
 go_wp2
 go_ret
 exact ⟨rfl, rfl⟩
set_option maxRecDepth 100000 in
theorem class_12308 (w : World) : Calls Tryz.prog 95 #[.int .i32 12308] w fun e w' => e = .returned (.int .i64 4) ∧ w' = w := by
 go_enter Tryz.func95, Tryz.ntmps95
 go_wp2
 go_ret
 exact ⟨rfl, rfl⟩
set_option maxRecDepth 100000 in
theorem class_65288 (w : World) : Calls Tryz.prog 95 #[.int .i32 65288] w fun e w' => e = .returned (.int .i64 4) ∧ w' = w := by
 go_enter Tryz.func95, Tryz.ntmps95
 go_wp2
 go_ret
 exact ⟨rfl, rfl⟩
set_option maxRecDepth 100000 in
theorem class_65339 (w : World) : Calls Tryz.prog 95 #[.int .i32 65339] w fun e w' => e = .returned (.int .i64 4) ∧ w' = w := by
 go_enter Tryz.func95, Tryz.ntmps95
 go_wp2
 go_ret
 exact ⟨rfl, rfl⟩
set_option maxRecDepth 100000 in
theorem class_65371 (w : World) : Calls Tryz.prog 95 #[.int .i32 65371] w fun e w' => e = .returned (.int .i64 4) ∧ w' = w := by
 go_enter Tryz.func95, Tryz.ntmps95
 go_wp2
 go_ret
 exact ⟨rfl, rfl⟩
set_option maxRecDepth 100000 in
theorem class_33 (w : World) : Calls Tryz.prog 95 #[.int .i32 33] w fun e w' => e = .returned (.int .i64 5) ∧ w' = w := by
 go_enter Tryz.func95, Tryz.ntmps95
 go_wp2
 go_ret
 exact ⟨rfl, rfl⟩
set_option maxRecDepth 100000 in
theorem class_41 (w : World) : Calls Tryz.prog 95 #[.int .i32 41] w fun e w' => e = .returned (.int .i64 5) ∧ w' = w := by
 go_enter Tryz.func95, Tryz.ntmps95
 go_wp2
 go_ret
 exact ⟨rfl, rfl⟩
set_option maxRecDepth 100000 in
theorem class_44 (w : World) : Calls Tryz.prog 95 #[.int .i32 44] w fun e w' => e = .returned (.int .i64 5) ∧ w' = w := by
 go_enter Tryz.func95, Tryz.ntmps95
 go_wp2
 go_ret
 exact ⟨rfl, rfl⟩
set_option maxRecDepth 100000 in
theorem class_46 (w : World) : Calls Tryz.prog 95 #[.int .i32 46] w fun e w' => e = .returned (.int .i64 5) ∧ w' = w := by
 go_enter Tryz.func95, Tryz.ntmps95
 go_wp2
 go_ret
 exact ⟨rfl, rfl⟩
set_option maxRecDepth 100000 in
theorem class_58 (w : World) : Calls Tryz.prog 95 #[.int .i32 58] w fun e w' => e = .returned (.int .i64 5) ∧ w' = w := by
 go_enter Tryz.func95, Tryz.ntmps95
 go_wp2
 go_ret
 exact ⟨rfl, rfl⟩
set_option maxRecDepth 100000 in
theorem class_59 (w : World) : Calls Tryz.prog 95 #[.int .i32 59] w fun e w' => e = .returned (.int .i64 5) ∧ w' = w := by
 go_enter Tryz.func95, Tryz.ntmps95
 go_wp2
 go_ret
 exact ⟨rfl, rfl⟩
set_option maxRecDepth 100000 in
theorem class_63 (w : World) : Calls Tryz.prog 95 #[.int .i32 63] w fun e w' => e = .returned (.int .i64 5) ∧ w' = w := by
 go_enter Tryz.func95, Tryz.ntmps95
 go_wp2
 go_ret
 exact ⟨rfl, rfl⟩
set_option maxRecDepth 100000 in
theorem class_93 (w : World) : Calls Tryz.prog 95 #[.int .i32 93] w fun e w' => e = .returned (.int .i64 5) ∧ w' = w := by
 go_enter Tryz.func95, Tryz.ntmps95
 go_wp2
 go_ret
 exact ⟨rfl, rfl⟩
set_option maxRecDepth 100000 in
theorem class_125 (w : World) : Calls Tryz.prog 95 #[.int .i32 125] w fun e w' => e = .returned (.int .i64 5) ∧ w' = w := by
 go_enter Tryz.func95, Tryz.ntmps95
 go_wp2
 go_ret
 exact ⟨rfl, rfl⟩
set_option maxRecDepth 100000 in
theorem class_12289 (w : World) : Calls Tryz.prog 95 #[.int .i32 12289] w fun e w' => e = .returned (.int .i64 5) ∧ w' = w := by
 go_enter Tryz.func95, Tryz.ntmps95
 go_wp2
 go_ret
 exact ⟨rfl, rfl⟩
set_option maxRecDepth 100000 in
theorem class_12290 (w : World) : Calls Tryz.prog 95 #[.int .i32 12290] w fun e w' => e = .returned (.int .i64 5) ∧ w' = w := by
 go_enter Tryz.func95, Tryz.ntmps95
 go_wp2
 go_ret
 exact ⟨rfl, rfl⟩
set_option maxRecDepth 100000 in
theorem class_12297 (w : World) : Calls Tryz.prog 95 #[.int .i32 12297] w fun e w' => e = .returned (.int .i64 5) ∧ w' = w := by
 go_enter Tryz.func95, Tryz.ntmps95
 go_wp2
 go_ret
 exact ⟨rfl, rfl⟩
set_option maxRecDepth 100000 in
theorem class_12299 (w : World) : Calls Tryz.prog 95 #[.int .i32 12299] w fun e w' => e = .returned (.int .i64 5) ∧ w' = w := by
 go_enter Tryz.func95, Tryz.ntmps95
 go_wp2
 go_ret
 exact ⟨rfl, rfl⟩
set_option maxRecDepth 100000 in
theorem class_12301 (w : World) : Calls Tryz.prog 95 #[.int .i32 12301] w fun e w' => e = .returned (.int .i64 5) ∧ w' = w := by
 go_enter Tryz.func95, Tryz.ntmps95
 go_wp2
 go_ret
 exact ⟨rfl, rfl⟩
set_option maxRecDepth 100000 in
theorem class_12303 (w : World) : Calls Tryz.prog 95 #[.int .i32 12303] w fun e w' => e = .returned (.int .i64 5) ∧ w' = w := by
 go_enter Tryz.func95, Tryz.ntmps95
 go_wp2
 go_ret
 exact ⟨rfl, rfl⟩
set_option maxRecDepth 100000 in
theorem class_12305 (w : World) : Calls Tryz.prog 95 #[.int .i32 12305] w fun e w' => e = .returned (.int .i64 5) ∧ w' = w := by
 go_enter Tryz.func95, Tryz.ntmps95
 go_wp2
 go_ret
 exact ⟨rfl, rfl⟩
set_option maxRecDepth 100000 in
theorem class_12309 (w : World) : Calls Tryz.prog 95 #[.int .i32 12309] w fun e w' => e = .returned (.int .i64 5) ∧ w' = w := by
 go_enter Tryz.func95, Tryz.ntmps95
 go_wp2
 go_ret
 exact ⟨rfl, rfl⟩
set_option maxRecDepth 100000 in
theorem class_12540 (w : World) : Calls Tryz.prog 95 #[.int .i32 12540] w fun e w' => e = .returned (.int .i64 5) ∧ w' = w := by
 go_enter Tryz.func95, Tryz.ntmps95
 go_wp2
 go_ret
 exact ⟨rfl, rfl⟩
set_option maxRecDepth 100000 in
theorem class_65281 (w : World) : Calls Tryz.prog 95 #[.int .i32 65281] w fun e w' => e = .returned (.int .i64 5) ∧ w' = w := by
 go_enter Tryz.func95, Tryz.ntmps95
 go_wp2
 go_ret
 exact ⟨rfl, rfl⟩
set_option maxRecDepth 100000 in
theorem class_65289 (w : World) : Calls Tryz.prog 95 #[.int .i32 65289] w fun e w' => e = .returned (.int .i64 5) ∧ w' = w := by
 go_enter Tryz.func95, Tryz.ntmps95
 go_wp2
 go_ret
 exact ⟨rfl, rfl⟩
set_option maxRecDepth 100000 in
theorem class_65292 (w : World) : Calls Tryz.prog 95 #[.int .i32 65292] w fun e w' => e = .returned (.int .i64 5) ∧ w' = w := by
 go_enter Tryz.func95, Tryz.ntmps95
 go_wp2
 go_ret
 exact ⟨rfl, rfl⟩
set_option maxRecDepth 100000 in
theorem class_65294 (w : World) : Calls Tryz.prog 95 #[.int .i32 65294] w fun e w' => e = .returned (.int .i64 5) ∧ w' = w := by
 go_enter Tryz.func95, Tryz.ntmps95
 go_wp2
 go_ret
 exact ⟨rfl, rfl⟩
set_option maxRecDepth 100000 in
theorem class_65306 (w : World) : Calls Tryz.prog 95 #[.int .i32 65306] w fun e w' => e = .returned (.int .i64 5) ∧ w' = w := by
 go_enter Tryz.func95, Tryz.ntmps95
 go_wp2
 go_ret
 exact ⟨rfl, rfl⟩
set_option maxRecDepth 100000 in
theorem class_65307 (w : World) : Calls Tryz.prog 95 #[.int .i32 65307] w fun e w' => e = .returned (.int .i64 5) ∧ w' = w := by
 go_enter Tryz.func95, Tryz.ntmps95
 go_wp2
 go_ret
 exact ⟨rfl, rfl⟩
set_option maxRecDepth 100000 in
theorem class_65311 (w : World) : Calls Tryz.prog 95 #[.int .i32 65311] w fun e w' => e = .returned (.int .i64 5) ∧ w' = w := by
 go_enter Tryz.func95, Tryz.ntmps95
 go_wp2
 go_ret
 exact ⟨rfl, rfl⟩
set_option maxRecDepth 100000 in
theorem class_65341 (w : World) : Calls Tryz.prog 95 #[.int .i32 65341] w fun e w' => e = .returned (.int .i64 5) ∧ w' = w := by
 go_enter Tryz.func95, Tryz.ntmps95
 go_wp2
 go_ret
 exact ⟨rfl, rfl⟩
set_option maxRecDepth 100000 in
theorem class_65373 (w : World) : Calls Tryz.prog 95 #[.int .i32 65373] w fun e w' => e = .returned (.int .i64 5) ∧ w' = w := by
 go_enter Tryz.func95, Tryz.ntmps95
 go_wp2
 go_ret
 exact ⟨rfl, rfl⟩
set_option maxRecDepth 100000 in
set_option maxHeartbeats 2000000 in
theorem class_other (r : Int) (h10 : (r == 10) = false) (h9 : (r == 9) = false) (h32 : (r == 32) = false) (h5760 : (r == 5760) = false) (h8192 : (r == 8192) = false) (h8193 : (r == 8193) = false) (h8194 : (r == 8194) = false) (h8195 : (r == 8195) = false) (h8196 : (r == 8196) = false) (h8197 : (r == 8197) = false) (h8198 : (r == 8198) = false) (h8200 : (r == 8200) = false) (h8201 : (r == 8201) = false) (h8202 : (r == 8202) = false) (h8287 : (r == 8287) = false) (h12288 : (r == 12288) = false) (h45 : (r == 45) = false) (h8208 : (r == 8208) = false) (h8210 : (r == 8210) = false) (h8211 : (r == 8211) = false) (h8212 : (r == 8212) = false) (h40 : (r == 40) = false) (h91 : (r == 91) = false) (h123 : (r == 123) = false) (h12296 : (r == 12296) = false) (h12298 : (r == 12298) = false) (h12300 : (r == 12300) = false) (h12302 : (r == 12302) = false) (h12304 : (r == 12304) = false) (h12308 : (r == 12308) = false) (h65288 : (r == 65288) = false) (h65339 : (r == 65339) = false) (h65371 : (r == 65371) = false) (h33 : (r == 33) = false) (h41 : (r == 41) = false) (h44 : (r == 44) = false) (h46 : (r == 46) = false) (h58 : (r == 58) = false) (h59 : (r == 59) = false) (h63 : (r == 63) = false) (h93 : (r == 93) = false) (h125 : (r == 125) = false) (h12289 : (r == 12289) = false) (h12290 : (r == 12290) = false) (h12297 : (r == 12297) = false) (h12299 : (r == 12299) = false) (h12301 : (r == 12301) = false) (h12303 : (r == 12303) = false) (h12305 : (r == 12305) = false) (h12309 : (r == 12309) = false) (h12540 : (r == 12540) = false) (h65281 : (r == 65281) = false) (h65289 : (r == 65289) = false) (h65292 : (r == 65292) = false) (h65294 : (r == 65294) = false) (h65306 : (r == 65306) = false) (h65307 : (r == 65307) = false) (h65311 : (r == 65311) = false) (h65341 : (r == 65341) = false) (h65373 : (r == 65373) = false) (w : World) : Calls Tryz.prog 95 #[.int .i32 r] w fun e w' => e = .returned (.int .i64 0) ∧ w' = w := by
 go_enter Tryz.func95, Tryz.ntmps95
 go_wp2
 go_ret
 exact ⟨rfl, rfl⟩
theorem classOf_any (r : Int) (w : World) : Calls Tryz.prog 95 #[.int .i32 r] w fun e w' => e = .returned (.int .i64 (classI r)) ∧ w' = w := by
 by_cases h10 : r = 10
 ·subst h10
  exact class_10 w
 by_cases h9 : r = 9
 ·subst h9
  exact class_9 w
 by_cases h32 : r = 32
 ·subst h32
  exact class_32 w
 by_cases h5760 : r = 5760
 ·subst h5760
  exact class_5760 w
 by_cases h8192 : r = 8192
 ·subst h8192
  exact class_8192 w
 by_cases h8193 : r = 8193
 ·subst h8193
  exact class_8193 w
 by_cases h8194 : r = 8194
 ·subst h8194
  exact class_8194 w
 by_cases h8195 : r = 8195
 ·subst h8195
  exact class_8195 w
 by_cases h8196 : r = 8196
 ·subst h8196
  exact class_8196 w
 by_cases h8197 : r = 8197
 ·subst h8197
  exact class_8197 w
 by_cases h8198 : r = 8198
 ·subst h8198
  exact class_8198 w
 by_cases h8200 : r = 8200
 ·subst h8200
  exact class_8200 w
 by_cases h8201 : r = 8201
 ·subst h8201
  exact class_8201 w
 by_cases h8202 : r = 8202
 ·subst h8202
  exact class_8202 w
 by_cases h8287 : r = 8287
 ·subst h8287
  exact class_8287 w
 by_cases h12288 : r = 12288
 ·subst h12288
  exact class_12288 w
 by_cases h45 : r = 45
 ·subst h45
  exact class_45 w
 by_cases h8208 : r = 8208
 ·subst h8208
  exact class_8208 w
 by_cases h8210 : r = 8210
 ·subst h8210
  exact class_8210 w
 by_cases h8211 : r = 8211
 ·subst h8211
  exact class_8211 w
 by_cases h8212 : r = 8212
 ·subst h8212
  exact class_8212 w
 by_cases h40 : r = 40
 ·subst h40
  exact class_40 w
 by_cases h91 : r = 91
 ·subst h91
  exact class_91 w
 by_cases h123 : r = 123
 ·subst h123
  exact class_123 w
 by_cases h12296 : r = 12296
 ·subst h12296
  exact class_12296 w
 by_cases h12298 : r = 12298
 ·subst h12298
  exact class_12298 w
 by_cases h12300 : r = 12300
 ·subst h12300
  exact class_12300 w
 by_cases h12302 : r = 12302
 ·subst h12302
  exact class_12302 w
 by_cases h12304 : r = 12304
 ·subst h12304
  exact class_12304 w
 by_cases h12308 : r = 12308
 ·subst h12308
  exact class_12308 w
 by_cases h65288 : r = 65288
 ·subst h65288
  exact class_65288 w
 by_cases h65339 : r = 65339
 ·subst h65339
  exact class_65339 w
 by_cases h65371 : r = 65371
 ·subst h65371
  exact class_65371 w
 by_cases h33 : r = 33
 ·subst h33
  exact class_33 w
 by_cases h41 : r = 41
 ·subst h41
  exact class_41 w
 by_cases h44 : r = 44
 ·subst h44
  exact class_44 w
 by_cases h46 : r = 46
 ·subst h46
  exact class_46 w
 by_cases h58 : r = 58
 ·subst h58
  exact class_58 w
 by_cases h59 : r = 59
 ·subst h59
  exact class_59 w
 by_cases h63 : r = 63
 ·subst h63
  exact class_63 w
 by_cases h93 : r = 93
 ·subst h93
  exact class_93 w
 by_cases h125 : r = 125
 ·subst h125
  exact class_125 w
 by_cases h12289 : r = 12289
 ·subst h12289
  exact class_12289 w
 by_cases h12290 : r = 12290
 ·subst h12290
  exact class_12290 w
 by_cases h12297 : r = 12297
 ·subst h12297
  exact class_12297 w
 by_cases h12299 : r = 12299
 ·subst h12299
  exact class_12299 w
 by_cases h12301 : r = 12301
 ·subst h12301
  exact class_12301 w
 by_cases h12303 : r = 12303
 ·subst h12303
  exact class_12303 w
 by_cases h12305 : r = 12305
 ·subst h12305
  exact class_12305 w
 by_cases h12309 : r = 12309
 ·subst h12309
  exact class_12309 w
 by_cases h12540 : r = 12540
 ·subst h12540
  exact class_12540 w
 by_cases h65281 : r = 65281
 ·subst h65281
  exact class_65281 w
 by_cases h65289 : r = 65289
 ·subst h65289
  exact class_65289 w
 by_cases h65292 : r = 65292
 ·subst h65292
  exact class_65292 w
 by_cases h65294 : r = 65294
 ·subst h65294
  exact class_65294 w
 by_cases h65306 : r = 65306
 ·subst h65306
  exact class_65306 w
 by_cases h65307 : r = 65307
 ·subst h65307
  exact class_65307 w
 by_cases h65311 : r = 65311
 ·subst h65311
  exact class_65311 w
 by_cases h65341 : r = 65341
 ·subst h65341
  exact class_65341 w
 by_cases h65373 : r = 65373
 ·subst h65373
  exact class_65373 w
 have e : classI r = 0 := by
  unfold classI clsBlank clsDash clsOpen clsClose
  rw [if_neg h10, if_neg, if_neg, if_neg, if_neg] <;> simp only [List.mem_cons, List.not_mem_nil, or_false, not_or] <;> simp only [not_false_eq_true, and_self, *]
 rw [e]
 exact class_other r (beq_eq_false_iff_ne.2 h10) (beq_eq_false_iff_ne.2 h9) (beq_eq_false_iff_ne.2 h32) (beq_eq_false_iff_ne.2 h5760) (beq_eq_false_iff_ne.2 h8192) (beq_eq_false_iff_ne.2 h8193) (beq_eq_false_iff_ne.2 h8194) (beq_eq_false_iff_ne.2 h8195) (beq_eq_false_iff_ne.2 h8196) (beq_eq_false_iff_ne.2 h8197) (beq_eq_false_iff_ne.2 h8198) (beq_eq_false_iff_ne.2 h8200) (beq_eq_false_iff_ne.2 h8201) (beq_eq_false_iff_ne.2 h8202) (beq_eq_false_iff_ne.2 h8287) (beq_eq_false_iff_ne.2 h12288) (beq_eq_false_iff_ne.2 h45) (beq_eq_false_iff_ne.2 h8208) (beq_eq_false_iff_ne.2 h8210) (beq_eq_false_iff_ne.2 h8211) (beq_eq_false_iff_ne.2 h8212) (beq_eq_false_iff_ne.2 h40) (beq_eq_false_iff_ne.2 h91) (beq_eq_false_iff_ne.2 h123) (beq_eq_false_iff_ne.2 h12296) (beq_eq_false_iff_ne.2 h12298) (beq_eq_false_iff_ne.2 h12300) (beq_eq_false_iff_ne.2 h12302) (beq_eq_false_iff_ne.2 h12304) (beq_eq_false_iff_ne.2 h12308) (beq_eq_false_iff_ne.2 h65288) (beq_eq_false_iff_ne.2 h65339) (beq_eq_false_iff_ne.2 h65371) (beq_eq_false_iff_ne.2 h33) (beq_eq_false_iff_ne.2 h41) (beq_eq_false_iff_ne.2 h44) (beq_eq_false_iff_ne.2 h46) (beq_eq_false_iff_ne.2 h58) (beq_eq_false_iff_ne.2 h59) (beq_eq_false_iff_ne.2 h63) (beq_eq_false_iff_ne.2 h93) (beq_eq_false_iff_ne.2 h125) (beq_eq_false_iff_ne.2 h12289) (beq_eq_false_iff_ne.2 h12290) (beq_eq_false_iff_ne.2 h12297) (beq_eq_false_iff_ne.2 h12299) (beq_eq_false_iff_ne.2 h12301) (beq_eq_false_iff_ne.2 h12303) (beq_eq_false_iff_ne.2 h12305) (beq_eq_false_iff_ne.2 h12309) (beq_eq_false_iff_ne.2 h12540) (beq_eq_false_iff_ne.2 h65281) (beq_eq_false_iff_ne.2 h65289) (beq_eq_false_iff_ne.2 h65292) (beq_eq_false_iff_ne.2 h65294) (beq_eq_false_iff_ne.2 h65306) (beq_eq_false_iff_ne.2 h65307) (beq_eq_false_iff_ne.2 h65311) (beq_eq_false_iff_ne.2 h65341) (beq_eq_false_iff_ne.2 h65373) w
end Go.Proofs.YtlkgnheccoodpaaGreatDoor
