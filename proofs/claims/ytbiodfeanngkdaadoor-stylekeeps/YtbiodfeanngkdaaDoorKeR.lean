/- StyleKeeps: the loop's own test (region 28), over letters: guards that hang on a letter. -/
import Derived.Test.YtbiodfeanngkdaaDoorGK
namespace Go.Proofs.YtbiodfeanngkdaaDoor
open Go.RowKit Go.Shelf
attribute [local go_sem] Oper.semAt_some

/-- An operation that a guard may pass over, as one value: what it yields where it is wanted, nothing else where it is not. -/
theorem wpQuiet_asK {P : Program} {ops : Array Oper} {C : World → Prop} {Q : Act → Prop} {a : Act} {rest : List Oper} {dst : Option Tmp} {op : Op} {ty : TypeId} {pos : String} {aft : Array Edge} {gd : Option (Nat × Bool)} (v : Value) (b : Bool) (hC : ∃ w, C w)
    (hw : Region.wanted (⟨dst, op, ty, pos, aft, gd⟩ : Oper) (yielded ops a.tmps) = b)
    (h1 : b = true → ∀ K : Act → Prop, K (a.put dst v) → (⟨dst, op, ty, pos, aft, gd⟩ : Oper).quiet P a C K)
    (h2 : b = false → v = undef)
    (h : wpQuiet P ops C Q ((⟨dst, .move (.const v), ty, pos, #[], none⟩ : Oper) :: rest) a) : wpQuiet P ops C Q ((⟨dst, op, ty, pos, aft, gd⟩ : Oper) :: rest) a := by
  have h' : wpQuiet P ops C Q rest (a.put dst v) := by
    have h0 : if Region.wanted (⟨dst, .move (.const v), ty, pos, #[], none⟩ : Oper) (yielded ops a.tmps) then (⟨dst, .move (.const v), ty, pos, #[], none⟩ : Oper).quiet P a C (wpQuiet P ops C Q rest) else wpQuiet P ops C Q rest (a.put dst undef) := h
    rw [if_pos (show Region.wanted (⟨dst, .move (.const v), ty, pos, #[], none⟩ : Oper) (yielded ops a.tmps) = true from rfl)] at h0
    obtain ⟨u, hu, hn⟩ := h0
    obtain ⟨w, hw⟩ := hC
    have hq := hu w hw
    unfold Oper.quietAt at hq
    rw [BigFrame.run_move (.const v) rfl] at hq
    obtain ⟨-, e⟩ := hq
    have e : v = u := e
    subst e
    exact hn
  cases b with
  | true => exact BigFrame.wpQuiet_want hw (fun K hK => h1 rfl K (hK _ h'))
  | false =>
    obtain rfl := h2 rfl
    exact BigFrame.wpQuiet_skip hw h'
theorem convK {K : Act → Prop} {x y : Act} (h : x = y) (hk : K x) : K y := h ▸ hk
/-- The region of a number in a function's code. -/
def findK (k : Nat) : Code → Option Code
  | .region i o d => if i = k then some (.region i o d) else none
  | .seq a b => (findK k a).orElse fun _ => findK k b
  | .cond _ a b => (findK k a).orElse fun _ => findK k b
  | .block _ a => findK k a
  | .loop a => findK k a
  | .scope a => findK k a
  | _ => none
set_option maxRecDepth 100000 in
set_option maxHeartbeats 4000000 in
theorem reg28 {c : Code} {Q : Exit → Act → World → Prop} {df : List Deferred} {W : World} {Bm : Addr} {A3 A6 i m cm : Nat} {x0 x1 x2 x3 e0 e1 e2 e3 b0 b1 b2 b3 : Bool} {a4 e4 b4 : Int} {y0 y1 y2 y3 y4 y5 y6 y7 y8 y9 y10 y11 y12 y13 y14 y15 y16 y17 y19 y23 y24 y25 y26 y27 y28 y29 y30 y31 y32 y33 y34 y35 y36 y37 y38 y39 y40 y41 y42 y43 y44 y45 y46 y47 y48 y49 y50 y51 y52 y53 y54 y55 y56 y57 y58 y59 y60 y61 y62 y63 y64 y65 y66 y67 y68 y69 y70 y71 y72 y73 y74 y75 y76 y77 y78 y79 y80 y81 y82 y83 y84 y85 y86 y87 y88 y89 y90 y91 y92 y93 y94 y95 y96 y97 y98 y99 y100 y101 y102 y103 y104 y105 y106 y107 y108 y109 y110 y111 y112 y113 y114 y115 y116 y117 y118 y119 y120 y121 y122 y123 y124 y125 y126 y127 y128 y129 y130 y131 y132 y133 y134 y135 y136 y137 y138 y139 y140 y141 y142 y143 y144 y145 y146 y147 y148 y149 y150 y151 y152 y153 y154 y155 y156 y157 y158 y159 y160 y161 y162 y163 y164 y165 y166 y167 y168 y169 y170 y171 y172 y173 y174 y175 y176 y177 y178 y179 y180 y181 y182 y183 y184 y185 y186 y187 y188 y189 y190 y191 y192 y193 y194 y195 y196 y197 y198 y199 y200 y201 y202 y203 y204 y205 y206 y207 y208 y209 y210 y211 y212 y213 y214 y215 y216 y217 y218 y219 y220 y221 y222 y223 y224 y225 y226 y227 y228 y229 y230 y231 y232 y233 y234 y235 y236 y237 y238 y239 y240 y241 y242 y243 y244 y245 y246 y247 y248 y249 y250 y251 y252 y253 y254 y255 y256 y257 y258 y259 y260 y261 y262 y263 y264 y265 y266 y267 y268 y269 y270 y271 y272 y273 y274 y275 y276 y277 y278 y279 y280 y281 y282 : Value} (hc : (Tryd.f3.body.bind (findK 28)) = some c)
    (hx0 : (e0 || b0) = x0) (hx1 : (e1 || b1) = x1) (hx2 : (e2 || b2) = x2) (hx3 : (e3 || b3) = x3) (hc0 : 0 ≤ e4) (hc1 : 0 < e4 → a4 = e4) (hc2 : e4 = 0 → (0 < a4 ↔ 0 < b4)) (d1 : (i : Int) < (m : Int))
    (z0 : W.cell? ⟨A3, 0, none⟩ = some (.bool x0)) (z1 : W.cell? ⟨A3, 1, none⟩ = some (.bool x1)) (z2 : W.cell? ⟨A3, 2, none⟩ = some (.bool x2)) (z3 : W.cell? ⟨A3, 3, none⟩ = some (.bool x3)) (z4 : W.cell? ⟨A3, 4, none⟩ = some (.int .i64 a4))
    (u0 : W.cell? ⟨A6, 0, none⟩ = some (.bool b0)) (u1 : W.cell? ⟨A6, 1, none⟩ = some (.bool b1)) (u2 : W.cell? ⟨A6, 2, none⟩ = some (.bool b2)) (u3 : W.cell? ⟨A6, 3, none⟩ = some (.bool b3)) (u4 : W.cell? ⟨A6, 4, none⟩ = some (.int .i64 b4))
    (c0 : W.cell? (Bm.add (i * 5)) = some (.bool e0)) (c1 : W.cell? ⟨(Bm.add (i * 5)).block, (Bm.add (i * 5)).off + 1, none⟩ = some (.bool e1)) (c2 : W.cell? ⟨(Bm.add (i * 5)).block, (Bm.add (i * 5)).off + 2, none⟩ = some (.bool e2)) (c3 : W.cell? ⟨(Bm.add (i * 5)).block, (Bm.add (i * 5)).off + 3, none⟩ = some (.bool e3)) (c4 : W.cell? ⟨(Bm.add (i * 5)).block, (Bm.add (i * 5)).off + 4, none⟩ = some (.int .i64 e4))
    (hQ : ∀ (z193 z194 z195 z196 z197 z198 z199 z200 z201 z202 z203 z204 z205 z206 z207 z208 z209 z210 z211 z212 z213 z214 z215 z216 z217 z218 z219 z220 z221 z222 z223 z224 z225 z226 z227 z228 z229 z230 z231 z232 z233 z234 z235 z236 z237 z238 z239 z240 z241 z242 z243 z244 z245 z246 z247 z248 z249 z250 z251 z252 z253 z254 z255 z256 z257 z258 z259 z260 z261 z262 z263 z264 z265 z266 z267 z268 z269 z270 z271 z272 z273 z274 z275 z276 z277 z278 z279 z280 : Value) (n : Nat), Q .normal ⟨#[y0, y1, y2, y3, y4, y5, y6, y7, y8, y9, y10, y11, y12, y13, y14, y15, y16, y17, .slice (some Bm) m cm, y19, .int .i64 (i : Nat), .pointer (some ⟨A3, 0, none⟩), .pointer (some ⟨A6, 0, none⟩), y23, y24, y25, y26, y27, y28, y29, y30, y31, y32, y33, y34, y35, y36, y37, y38, y39, y40, y41, y42, y43, y44, y45, y46, y47, y48, y49, y50, y51, y52, y53, y54, y55, y56, y57, y58, y59, y60, y61, y62, y63, y64, y65, y66, y67, y68, y69, y70, y71, y72, y73, y74, y75, y76, y77, y78, y79, y80, y81, y82, y83, y84, y85, y86, y87, y88, y89, y90, y91, y92, y93, y94, y95, y96, y97, y98, y99, y100, y101, y102, y103, y104, y105, y106, y107, y108, y109, y110, y111, y112, y113, y114, y115, y116, y117, y118, y119, y120, y121, y122, y123, y124, y125, y126, y127, y128, y129, y130, y131, y132, y133, y134, y135, y136, y137, y138, y139, y140, y141, y142, y143, y144, y145, y146, y147, y148, y149, y150, y151, y152, y153, y154, y155, y156, y157, y158, y159, y160, y161, y162, y163, y164, y165, y166, y167, y168, y169, y170, y171, y172, y173, y174, y175, y176, y177, y178, y179, y180, y181, y182, y183, y184, y185, y186, y187, y188, y189, y190, y191, y192, z193, z194, z195, z196, z197, z198, z199, z200, z201, z202, z203, z204, z205, z206, z207, z208, z209, z210, z211, z212, z213, z214, z215, z216, z217, z218, z219, z220, z221, z222, z223, z224, z225, z226, z227, z228, z229, z230, z231, z232, z233, z234, z235, z236, z237, z238, z239, z240, z241, z242, z243, z244, z245, z246, z247, z248, z249, z250, z251, z252, z253, z254, z255, z256, z257, z258, z259, z260, z261, z262, z263, z264, z265, z266, z267, z268, z269, z270, z271, z272, z273, z274, z275, z276, z277, z278, z279, z280, .bool false, y282], df⟩ (W.drewN n)) :
    c.wp Tryd.prog Q ⟨#[y0, y1, y2, y3, y4, y5, y6, y7, y8, y9, y10, y11, y12, y13, y14, y15, y16, y17, .slice (some Bm) m cm, y19, .int .i64 (i : Nat), .pointer (some ⟨A3, 0, none⟩), .pointer (some ⟨A6, 0, none⟩), y23, y24, y25, y26, y27, y28, y29, y30, y31, y32, y33, y34, y35, y36, y37, y38, y39, y40, y41, y42, y43, y44, y45, y46, y47, y48, y49, y50, y51, y52, y53, y54, y55, y56, y57, y58, y59, y60, y61, y62, y63, y64, y65, y66, y67, y68, y69, y70, y71, y72, y73, y74, y75, y76, y77, y78, y79, y80, y81, y82, y83, y84, y85, y86, y87, y88, y89, y90, y91, y92, y93, y94, y95, y96, y97, y98, y99, y100, y101, y102, y103, y104, y105, y106, y107, y108, y109, y110, y111, y112, y113, y114, y115, y116, y117, y118, y119, y120, y121, y122, y123, y124, y125, y126, y127, y128, y129, y130, y131, y132, y133, y134, y135, y136, y137, y138, y139, y140, y141, y142, y143, y144, y145, y146, y147, y148, y149, y150, y151, y152, y153, y154, y155, y156, y157, y158, y159, y160, y161, y162, y163, y164, y165, y166, y167, y168, y169, y170, y171, y172, y173, y174, y175, y176, y177, y178, y179, y180, y181, y182, y183, y184, y185, y186, y187, y188, y189, y190, y191, y192, y193, y194, y195, y196, y197, y198, y199, y200, y201, y202, y203, y204, y205, y206, y207, y208, y209, y210, y211, y212, y213, y214, y215, y216, y217, y218, y219, y220, y221, y222, y223, y224, y225, y226, y227, y228, y229, y230, y231, y232, y233, y234, y235, y236, y237, y238, y239, y240, y241, y242, y243, y244, y245, y246, y247, y248, y249, y250, y251, y252, y253, y254, y255, y256, y257, y258, y259, y260, y261, y262, y263, y264, y265, y266, y267, y268, y269, y270, y271, y272, y273, y274, y275, y276, y277, y278, y279, y280, y281, y282], df⟩ W := by
  suffices hS : ∃ c, (Tryd.f3.body.bind (findK 28)) = some c ∧ c.wp Tryd.prog Q ⟨#[y0, y1, y2, y3, y4, y5, y6, y7, y8, y9, y10, y11, y12, y13, y14, y15, y16, y17, .slice (some Bm) m cm, y19, .int .i64 (i : Nat), .pointer (some ⟨A3, 0, none⟩), .pointer (some ⟨A6, 0, none⟩), y23, y24, y25, y26, y27, y28, y29, y30, y31, y32, y33, y34, y35, y36, y37, y38, y39, y40, y41, y42, y43, y44, y45, y46, y47, y48, y49, y50, y51, y52, y53, y54, y55, y56, y57, y58, y59, y60, y61, y62, y63, y64, y65, y66, y67, y68, y69, y70, y71, y72, y73, y74, y75, y76, y77, y78, y79, y80, y81, y82, y83, y84, y85, y86, y87, y88, y89, y90, y91, y92, y93, y94, y95, y96, y97, y98, y99, y100, y101, y102, y103, y104, y105, y106, y107, y108, y109, y110, y111, y112, y113, y114, y115, y116, y117, y118, y119, y120, y121, y122, y123, y124, y125, y126, y127, y128, y129, y130, y131, y132, y133, y134, y135, y136, y137, y138, y139, y140, y141, y142, y143, y144, y145, y146, y147, y148, y149, y150, y151, y152, y153, y154, y155, y156, y157, y158, y159, y160, y161, y162, y163, y164, y165, y166, y167, y168, y169, y170, y171, y172, y173, y174, y175, y176, y177, y178, y179, y180, y181, y182, y183, y184, y185, y186, y187, y188, y189, y190, y191, y192, y193, y194, y195, y196, y197, y198, y199, y200, y201, y202, y203, y204, y205, y206, y207, y208, y209, y210, y211, y212, y213, y214, y215, y216, y217, y218, y219, y220, y221, y222, y223, y224, y225, y226, y227, y228, y229, y230, y231, y232, y233, y234, y235, y236, y237, y238, y239, y240, y241, y242, y243, y244, y245, y246, y247, y248, y249, y250, y251, y252, y253, y254, y255, y256, y257, y258, y259, y260, y261, y262, y263, y264, y265, y266, y267, y268, y269, y270, y271, y272, y273, y274, y275, y276, y277, y278, y279, y280, y281, y282], df⟩ W by
    obtain ⟨c', h1, h2⟩ := hS
    rw [hc] at h1
    cases h1
    exact h2
  clear hc
  refine ⟨_, rfl, ?_⟩
  replace hQ := hideS hQ
  replace hc1 := hideS hc1
  replace hc2 := hideS hc2
  dsimp only [List.append]
  refine wp_region_quiet_lit (by kernel_rfl) (by kernel_rfl) ?_
  iterate 8 (go_big_quiet_step (fail))
  refine wpQuiet_asK (bif e0 then undef else .pointer (some ⟨A6, 0, none⟩)) (!e0) ⟨_, 0, rfl⟩ (by cases e0 <;> kernel_rfl) (fun hb9 K8 hK8 => ?_) (fun hb9 => ?_) ?_
  · obtain rfl : e0 = false := by simpa using hb9
    go_big_quiet_op
    refine convK ?_ hK8
    kernel_rfl
  · obtain rfl : e0 = true := by simpa using hb9
    rfl
  go_big_quiet_step (fail)
  refine wpQuiet_asK (bif e0 then undef else .bool b0) (!e0) ⟨_, 0, rfl⟩ (by cases e0 <;> kernel_rfl) (fun hb9 K8 hK8 => ?_) (fun hb9 => ?_) ?_
  · obtain rfl : e0 = false := by simpa using hb9
    simp only [cond_false]
    go_big_quiet_op
    refine convK ?_ hK8
    kernel_rfl
  · obtain rfl : e0 = true := by simpa using hb9
    rfl
  go_big_quiet_step (fail)
  refine wpQuiet_asK (.bool x0) true ⟨_, 0, rfl⟩ (by kernel_rfl) (fun hb9 K8 hK8 => ?_) (fun hb9 => by cases hb9) ?_
  · cases e0
    · obtain rfl : b0 = x0 := by simpa using hx0
      simp only [cond_false]
      go_big_quiet_op
      refine convK ?_ hK8
      kernel_rfl
    · obtain rfl : true = x0 := by simpa using hx0
      simp only [cond_true]
      go_big_quiet_op
      refine convK ?_ hK8
      kernel_rfl
  go_big_quiet_step (fail)
  iterate 10 (go_big_quiet_step (fail))
  refine wpQuiet_asK (bif e1 then undef else .pointer (some ⟨A6, 1, none⟩)) (!e1) ⟨_, 0, rfl⟩ (by cases e1 <;> kernel_rfl) (fun hb9 K8 hK8 => ?_) (fun hb9 => ?_) ?_
  · obtain rfl : e1 = false := by simpa using hb9
    go_big_quiet_op
    refine convK ?_ hK8
    kernel_rfl
  · obtain rfl : e1 = true := by simpa using hb9
    rfl
  go_big_quiet_step (fail)
  refine wpQuiet_asK (bif e1 then undef else .bool b1) (!e1) ⟨_, 0, rfl⟩ (by cases e1 <;> kernel_rfl) (fun hb9 K8 hK8 => ?_) (fun hb9 => ?_) ?_
  · obtain rfl : e1 = false := by simpa using hb9
    simp only [cond_false]
    go_big_quiet_op
    refine convK ?_ hK8
    kernel_rfl
  · obtain rfl : e1 = true := by simpa using hb9
    rfl
  go_big_quiet_step (fail)
  refine wpQuiet_asK (.bool x1) true ⟨_, 0, rfl⟩ (by kernel_rfl) (fun hb9 K8 hK8 => ?_) (fun hb9 => by cases hb9) ?_
  · cases e1
    · obtain rfl : b1 = x1 := by simpa using hx1
      simp only [cond_false]
      go_big_quiet_op
      refine convK ?_ hK8
      kernel_rfl
    · obtain rfl : true = x1 := by simpa using hx1
      simp only [cond_true]
      go_big_quiet_op
      refine convK ?_ hK8
      kernel_rfl
  go_big_quiet_step (fail)
  iterate 11 (go_big_quiet_step (fail))
  refine wpQuiet_asK (bif e2 then undef else .pointer (some ⟨A6, 2, none⟩)) (!e2) ⟨_, 0, rfl⟩ (by cases e2 <;> kernel_rfl) (fun hb9 K8 hK8 => ?_) (fun hb9 => ?_) ?_
  · obtain rfl : e2 = false := by simpa using hb9
    go_big_quiet_op
    refine convK ?_ hK8
    kernel_rfl
  · obtain rfl : e2 = true := by simpa using hb9
    rfl
  go_big_quiet_step (fail)
  refine wpQuiet_asK (bif e2 then undef else .bool b2) (!e2) ⟨_, 0, rfl⟩ (by cases e2 <;> kernel_rfl) (fun hb9 K8 hK8 => ?_) (fun hb9 => ?_) ?_
  · obtain rfl : e2 = false := by simpa using hb9
    simp only [cond_false]
    go_big_quiet_op
    refine convK ?_ hK8
    kernel_rfl
  · obtain rfl : e2 = true := by simpa using hb9
    rfl
  go_big_quiet_step (fail)
  refine wpQuiet_asK (.bool x2) true ⟨_, 0, rfl⟩ (by kernel_rfl) (fun hb9 K8 hK8 => ?_) (fun hb9 => by cases hb9) ?_
  · cases e2
    · obtain rfl : b2 = x2 := by simpa using hx2
      simp only [cond_false]
      go_big_quiet_op
      refine convK ?_ hK8
      kernel_rfl
    · obtain rfl : true = x2 := by simpa using hx2
      simp only [cond_true]
      go_big_quiet_op
      refine convK ?_ hK8
      kernel_rfl
  go_big_quiet_step (fail)
  iterate 11 (go_big_quiet_step (fail))
  refine wpQuiet_asK (bif e3 then undef else .pointer (some ⟨A6, 3, none⟩)) (!e3) ⟨_, 0, rfl⟩ (by cases e3 <;> kernel_rfl) (fun hb9 K8 hK8 => ?_) (fun hb9 => ?_) ?_
  · obtain rfl : e3 = false := by simpa using hb9
    go_big_quiet_op
    refine convK ?_ hK8
    kernel_rfl
  · obtain rfl : e3 = true := by simpa using hb9
    rfl
  go_big_quiet_step (fail)
  refine wpQuiet_asK (bif e3 then undef else .bool b3) (!e3) ⟨_, 0, rfl⟩ (by cases e3 <;> kernel_rfl) (fun hb9 K8 hK8 => ?_) (fun hb9 => ?_) ?_
  · obtain rfl : e3 = false := by simpa using hb9
    simp only [cond_false]
    go_big_quiet_op
    refine convK ?_ hK8
    kernel_rfl
  · obtain rfl : e3 = true := by simpa using hb9
    rfl
  go_big_quiet_step (fail)
  refine wpQuiet_asK (.bool x3) true ⟨_, 0, rfl⟩ (by kernel_rfl) (fun hb9 K8 hK8 => ?_) (fun hb9 => by cases hb9) ?_
  · cases e3
    · obtain rfl : b3 = x3 := by simpa using hx3
      simp only [cond_false]
      go_big_quiet_op
      refine convK ?_ hK8
      kernel_rfl
    · obtain rfl : true = x3 := by simpa using hx3
      simp only [cond_true]
      go_big_quiet_op
      refine convK ?_ hK8
      kernel_rfl
  go_big_quiet_step (fail)
  by_cases hc : 0 < e4
  · have h44 : a4 = e4 := hc1.out hc
    subst h44
    have hd2 : ¬ a4 = 0 := by omega
    have hd3 : (a4 == 0) = false := by simpa using hd2
    have hd4 : decide (0 < a4) = true := by simpa using hc
    clear hc1 hc2
    repeat (go_big_quiet_step (fail))
    refine wpQuiet_nil ?_
    rintro W9 ⟨n9, rfl⟩
    exact hQ.out _ _ _ _ _ _ _ _ _ _ _ _ _ _ _ _ _ _ _ _ _ _ _ _ _ _ _ _ _ _ _ _ _ _ _ _ _ _ _ _ _ _ _ _ _ _ _ _ _ _ _ _ _ _ _ _ _ _ _ _ _ _ _ _ _ _ _ _ _ _ _ _ _ _ _ _ _ _ _ _ _ _ _ _ _ _ _ _ n9
  · obtain rfl : e4 = 0 := by omega
    have hiff := hc2.out rfl
    clear hc1 hc2
    by_cases ha4 : 0 < a4
    · have hb4 : 0 < b4 := hiff.1 ha4
      have hd1 : decide (0 < a4) = true := by simpa using ha4
      have hd2 : decide (0 < b4) = true := by simpa using hb4
      clear hiff hc
      repeat (go_big_quiet_step (fail))
      refine wpQuiet_nil ?_
      rintro W9 ⟨n9, rfl⟩
      exact hQ.out _ _ _ _ _ _ _ _ _ _ _ _ _ _ _ _ _ _ _ _ _ _ _ _ _ _ _ _ _ _ _ _ _ _ _ _ _ _ _ _ _ _ _ _ _ _ _ _ _ _ _ _ _ _ _ _ _ _ _ _ _ _ _ _ _ _ _ _ _ _ _ _ _ _ _ _ _ _ _ _ _ _ _ _ _ _ _ _ n9
    · have hb4 : ¬ 0 < b4 := fun h => ha4 (hiff.2 h)
      have hd1 : decide (0 < a4) = false := by simpa using ha4
      have hd2 : decide (0 < b4) = false := by simpa using hb4
      clear hiff hc
      repeat (go_big_quiet_step (fail))
      refine wpQuiet_nil ?_
      rintro W9 ⟨n9, rfl⟩
      exact hQ.out _ _ _ _ _ _ _ _ _ _ _ _ _ _ _ _ _ _ _ _ _ _ _ _ _ _ _ _ _ _ _ _ _ _ _ _ _ _ _ _ _ _ _ _ _ _ _ _ _ _ _ _ _ _ _ _ _ _ _ _ _ _ _ _ _ _ _ _ _ _ _ _ _ _ _ _ _ _ _ _ _ _ _ _ _ _ _ _ n9
end Go.Proofs.YtbiodfeanngkdaaDoor
