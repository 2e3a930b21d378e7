/- The contract of the document's own Melts (surtitleref1), and what it says of utf.Melts. -/
import Derived.Test.YtofhmecbcmahaaaDoorMltM
import Derived.Test.YtofhmecbcmahaaaDoorRCnt
import Derived.Laws.StructEq
namespace Go.Proofs.YtofhmecbcmahaaaDoor
open Go.RowKit

theorem extract_app_l (a b : ByteArray) : (a ++ b).extract 0 a.size = a := by
  refine ba_ext ?_
  rw [Lib.extract_data, List.drop_zero, Nat.sub_zero, ByteArray.data_append, Array.toList_append, Lib.size_eq, List.take_left]
theorem extract_app_r (a b : ByteArray) : (a ++ b).extract a.size (a.size + b.size) = b := by
  refine ba_ext ?_
  rw [Lib.extract_data, ByteArray.data_append, Array.toList_append, Lib.size_eq a, List.drop_left, Lib.size_eq b, List.take_of_length_le (by omega)]
theorem up_zero (l : List Sg) : l.map (Sg.up 0) = l := by
  induction l with
  | nil => rfl
  | cons x l ih => rw [List.map_cons, ih]; rfl
/-- Two texts melt just if the signs of both behind one another are not theirs. -/
theorem melts_signs (a b : ByteArray) : meltsB a b = true ↔ signs (a ++ b) ≠ signs a ++ (signs b).map (Sg.up a.size) := by
  have hsz : (a ++ b).size = a.size + b.size := ByteArray.size_append
  rw [melts_iff]
  constructor
  · intro h e
    have hl := signs_lies (a ++ b)
    rw [e] at hl
    obtain ⟨q, h1, h2⟩ := lies_split hl
    refine h ⟨signs a, ?_⟩
    have s1 := stepsF_b ⟨0, 0, 0⟩ h1
    have s2 := stepsF_b ⟨0, 0, 0⟩ (signs_lies a)
    rw [s1] at s2
    have : q = a.size := by simp at s2; omega
    rwa [this] at h1
  · rintro h ⟨l, hl⟩
    apply h
    obtain ⟨p, f, hf⟩ : ∃ m, ∃ f, f = l ++ m ∧ Lies (a ++ b) a.size m (a.size + b.size) := by
      refine ⟨sgns (a ++ b) (a ++ b).size a.size, _, rfl, ?_⟩
      have := sgns_lies (a ++ b) (a ++ b).size a.size (by omega) (by omega)
      rwa [hsz] at this ⊢
    have h1 : signs (a ++ b) = l ++ p := by
      refine lies_uniq (signs_lies (a ++ b)) ?_
      rw [hsz]
      exact lies_append hl hf.2
    have h2 := signs_part hl (by omega)
    rw [up_zero, extract_app_l] at h2
    have h3 := signs_part hf.2 (by omega)
    rw [extract_app_r] at h3
    rw [h1, h2, h3]

theorem rsign_guard : Tryd.prog.eqGuardType Tryd.prog.depth 77 = false := by kernel_rfl
theorem rsign_under : Tryd.prog.underlying 77 = some (.struct (Tryd.prog.fieldsOf 77)) := by kernel_rfl
theorem rsign_held : Tryd.prog.stoodInHeld 77 = false := by kernel_rfl
theorem rsign_fields : (Tryd.prog.fieldsOf 77).toList.map (fun f => (f.name, f.type, f.offset)) = [("At", 3, 0), ("Len", 3, 1), ("Rune", 3, 2), ("Bad", 4, 3)] := by kernel_rfl
set_option maxRecDepth 100000 in
theorem rsign_ne (a b c a' b' c' : Int) (d d' : Bool) (w : World) : (binOp .neq 77 (.agg #[.int .i64 a, .int .i64 b, .int .i64 c, .bool d]) (.agg #[.int .i64 a', .int .i64 b', .int .i64 c', .bool d'])).run Tryd.prog w = .ok (.bool (!(a == a' && (b == b' && (c == c' && d == d'))))) w := by
  rw [run_neq_struct, run_equalIn_agg _ _ _ _ _ rsign_under rsign_held]
  have hf := rsign_fields
  match h : (Tryd.prog.fieldsOf 77).toList, hf with
  | [f0, f1, f2, f3], hf =>
    clear h
    simp only [List.map_cons, List.map_nil, List.cons.injEq, Prod.mk.injEq, and_true] at hf
    obtain ⟨⟨n0, t0, o0⟩, ⟨n1, t1, o1⟩, ⟨n2, t2, o2⟩, ⟨n3, t3, o3⟩⟩ := hf
    have u3 : Tryd.prog.underlying 3 = some (.int .i64) := Tryd.underlying3
    have u4 : Tryd.prog.underlying 4 = some .bool := Tryd.underlying4
    simp [Op.eqFields, n0, n1, n2, n3, t0, t1, t2, t3, o0, o1, o2, o3, go_sem, u3, u4]
    by_cases h0 : a = a' <;> by_cases h1 : b = b' <;> by_cases h2 : c = c' <;> by_cases h3 : d = d' <;> simp [h0, h1, h2, h3]
  | [], hf => simp at hf
  | [_], hf => simp at hf
  | [_, _], hf => simp at hf
  | [_, _, _], hf => simp at hf
  | _ :: _ :: _ :: _ :: _ :: _, hf => simp at hf

set_option maxRecDepth 100000 in
set_option maxHeartbeats 4000000 in
theorem rmelts_any (a b : ByteArray) (hs : a.size + b.size ≤ 1048576) (w : World) :
    Calls Tryd.prog 41 #[.string a, .string b] w fun e w' => e = .returned (.bool (meltsB a b)) ∧ Below w.heap.size w w' := by
  have hx : (signs a).length ≤ a.size := sgns_length a _ _
  have hy : (signs b).length ≤ b.size := sgns_length b _ _
  have hz : (signs (a ++ b)).length ≤ (a ++ b).size := sgns_length _ _ _
  rw [ByteArray.size_append] at hz
  have HX := hideO (fun W => rsigns_any a (by omega) W)
  have HY := hideO (fun W => rsigns_any b (by omega) W)
  have HZ := hideO (fun W => rsigns_any (a ++ b) (by rw [ByteArray.size_append]; omega) W)
  have HM := hideO (melts_signs a b)
  have HYL : Hid (∀ j (hj : j < (signs b).length), (signs b)[j].loc ≤ 1048576) := fun j hj => by
    obtain ⟨q, h1, h2⟩ := lies_mem (signs_lies b) (List.getElem_mem hj)
    rw [h2, (sgn_dec b q h1).1]
    omega
  have t1 : ¬ 9223372036854775807 < a.size + b.size := by omega
  generalize hM : meltsB a b = M at *
  generalize hL : signs (a ++ b) = L at *
  generalize hX : signs a = X at *
  generalize hY : signs b = Y at *
  clear hM hL hX hY
  go_enter Tryd.func41, Tryd.ntmps41
  go_wp2_with fail
  refine (HX.out _).mono ?_
  rintro r w1 ⟨v1, rfl, o1, b1⟩
  have s1 := b1.size
  obtain ⟨oa, ca, rfl, hca⟩ := rows_at o1
  have HCA := hideO hca
  clear o1 hca
  go_wp2_with fail
  refine (HY.out _).mono ?_
  rintro r w2 ⟨v2, rfl, o2, b2⟩
  have s2 := b2.size
  have b12 := b1.trans (b2.mono s1)
  obtain ⟨ob, cb, rfl, hcb⟩ := rows_at o2
  have HCB := hideO hcb
  clear o2 hcb
  go_wp2_with fail
  refine (HZ.out _).mono ?_
  rintro r w3 ⟨v3, rfl, o3, b3⟩
  have s3 := b3.size
  have b13 := b12.trans (b3.mono (by omega))
  obtain ⟨oc, cc, rfl, hcc⟩ := rows_at o3
  have HCC := hideO hcc
  clear o3 hcc
  by_cases hlen : L.length = X.length + Y.length
  · have t2 : ((L.length : Int) != (X.length : Int) + (Y.length : Int)) = false := by rw [bne_eq_false_iff_eq]; omega
    have HLEN := hideO hlen
    clear hlen
    go_wp2
    go_loopw [8, 9] (fun i _ wr => ∃ k : Nat, i = .int .i64 k ∧ k ≤ L.length ∧ Hid (∀ j (h1 : j < k) (h2 : j < L.length), L[j]? = (X ++ Y.map (Sg.up a.size))[j]?) ∧ Below w3.heap.size w3 wr) (fun i _ _ => L.length - (intOf i).toNat)
    case atStart => exact ⟨0, rfl, by omega, fun j h1 _ => by omega, Below.refl _ _⟩
    case round =>
      obtain ⟨k, rfl, hk, HE, hB⟩ := hrel
      have sB := hB.size
      have b1B := b13.trans (hB.mono (by omega))
      by_cases hkl : k < L.length
      · obtain ⟨gc, rfl, hgc, _, hc⟩ := HCC.out k hkl
        obtain ⟨c0, c1, c2, c3⟩ := hc.below hB hgc
        clear hc
        by_cases hkx : k < X.length
        · obtain ⟨ga, rfl, hga, _, ha⟩ := HCA.out k hkx
          obtain ⟨a0, a1, a2, a3⟩ := (ha.below (b2.trans (b3.mono s2)) hga).below hB (by omega)
          clear ha
          have hgaz : ga < wr.heap.size := by omega
          have hgcz : gc < wr.heap.size := by omega
          have hgl : L[k]? = some L[k] := List.getElem?_eq_getElem hkl
          have hgz : (X ++ Y.map (Sg.up a.size))[k]? = some X[k] := by rw [List.getElem?_append_left hkx, List.getElem?_eq_getElem hkx]
          have HGL := hideO hgl
          have HGZ := hideO hgz
          clear hgl hgz
          generalize L[k] = x at *
          generalize X[k] = z at *
          have hki : (k : Int) < (L.length : Int) := by omega
          have hgd := rsign_guard
          have hnq := fun w => rsign_ne x.loc x.len x.rune z.loc z.len z.rune x.bad z.bad w
          generalize hq : (!((x.loc : Int) == z.loc && ((x.len : Int) == z.len && (x.rune == z.rune && x.bad == z.bad)))) = q at *
          have HQ := hideO hq
          clear hq
          cases q with
          | false =>
            have hxz : x = z := by
              have := HQ.out
              simp at this
              exact sg_ext (by omega) (by omega) this.2.2.1 this.2.2.2
            have HE2 : Hid (∀ j (h1 : j < k + 1) (h2 : j < L.length), L[j]? = (X ++ Y.map (Sg.up a.size))[j]?) := fun j h1 h2 => by
              by_cases e : j = k
              · rw [e, HGL.out, HGZ.out, hxz]
              · exact HE.out j (by omega) h2
            clear HQ hxz
            go_wp2
            go_quiet (fail)
            go_wp2
            exact ⟨⟨k + 1, by go_num, by omega, HE2, below_dn (hB.alloc sB _) nq⟩, by simp [intOf]; omega⟩
          | true =>
            have hm : M = true := HM.out.2 (fun e => by
              have h1 := HGL.out
              rw [e, HGZ.out] at h1
              have h2 : z = x := Option.some.inj h1
              have := HQ.out
              rw [h2] at this
              simp at this)
            subst hm
            clear HQ
            go_wp2
            go_quiet (fail)
            go_wp2
            go_ret
            exact ⟨rfl, below_dn (b1B.alloc b1B.size _) _⟩
        · obtain ⟨j, hj⟩ : ∃ j, k = X.length + j := ⟨k - X.length, by omega⟩
          have hjy : j < Y.length := by have := HLEN.out; omega
          obtain ⟨gb, rfl, hgb, _, hb⟩ := HCB.out j hjy
          obtain ⟨a0, a1, a2, a3⟩ := (hb.below b3 hgb).below hB (by omega)
          clear hb
          have hgbz : gb < wr.heap.size := by omega
          have hgcz : gc < wr.heap.size := by omega
          have hgl : L[k]? = some L[k] := List.getElem?_eq_getElem hkl
          have hgz : (X ++ Y.map (Sg.up a.size))[k]? = some (Y[j].up a.size) := by rw [List.getElem?_append_right (by omega), show k - X.length = j by omega, List.getElem?_map, List.getElem?_eq_getElem hjy]; rfl
          have HGL := hideO hgl
          have HGZ := hideO hgz
          clear hgl hgz
          generalize L[k] = x at *
          have hyl : Y[j].loc ≤ 1048576 := HYL.out j hjy
          generalize Y[j] = z at *
          have hki : (k : Int) < (L.length : Int) := by omega
          have hkj : (k : Int) - (X.length : Int) = (j : Int) := by omega
          have hji : (j : Int) < (Y.length : Int) := by omega
          have hgd := rsign_guard
          have hnq := fun w => rsign_ne x.loc x.len x.rune ((z.loc : Int) + (a.size : Int)) z.len z.rune x.bad z.bad w
          generalize hq : (!((x.loc : Int) == (z.loc : Int) + (a.size : Int) && ((x.len : Int) == z.len && (x.rune == z.rune && x.bad == z.bad)))) = q at *
          have HQ := hideO hq
          have HJ := hideO hj
          clear hq hj
          cases q with
          | false =>
            have hxz : x = z.up a.size := by
              have := HQ.out
              simp at this
              exact sg_ext (by rw [up_loc]; omega) (by rw [up_len]; omega) this.2.2.1 this.2.2.2
            have HE2 : Hid (∀ j (h1 : j < k + 1) (h2 : j < L.length), L[j]? = (X ++ Y.map (Sg.up a.size))[j]?) := fun i h1 h2 => by
              by_cases e : i = k
              · rw [e, HGL.out, HGZ.out, hxz]
              · exact HE.out i (by omega) h2
            clear HQ hxz
            go_wp2
            go_quiet (fail)
            go_wp2
            exact ⟨⟨k + 1, by go_num, by omega, HE2, below_dn (hB.alloc sB _) nq⟩, by simp [intOf]; omega⟩
          | true =>
            have hm : M = true := HM.out.2 (fun e => by
              have h1 := HGL.out
              rw [e, HGZ.out] at h1
              have h2 : z.up a.size = x := Option.some.inj h1
              have := HQ.out
              rw [← h2] at this
              simp [up_loc, up_len, up_rune, up_bad] at this)
            subst hm
            clear HQ
            go_wp2
            go_quiet (fail)
            go_wp2
            go_ret
            exact ⟨rfl, below_dn (b1B.alloc b1B.size _) _⟩
      · obtain rfl : k = L.length := by omega
        have hm : M = false := by
          cases hM : M
          · rfl
          · exact absurd (List.ext_getElem? (fun j => by
              by_cases c : j < L.length
              · exact HE.out j c c
              · have := HLEN.out
                rw [List.getElem?_eq_none (by omega), List.getElem?_eq_none (by simp; omega)])) (HM.out.1 hM)
        subst hm
        go_wp2
        go_ret
        exact ⟨rfl, b1B⟩
  · have t2 : ((L.length : Int) != (X.length : Int) + (Y.length : Int)) = true := by rw [bne_iff_ne]; omega
    have hm : M = true := HM.out.2 (fun e => hlen (by rw [e]; simp))
    subst hm
    clear hlen
    go_wp2
    go_ret
    exact ⟨rfl, b13⟩
end Go.Proofs.YtofhmecbcmahaaaDoor
