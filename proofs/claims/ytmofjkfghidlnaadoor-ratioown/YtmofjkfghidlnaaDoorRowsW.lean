/- The walk of surtitlelaw3.RatioRows. -/
import Derived.Test.YtmofjkfghidlnaaDoorRowsN
import Derived.Test.YtmofjkfghidlnaaDoorTold
import Derived.Deep.RegionHeld3
namespace Go.Proofs.YtmofjkfghidlnaaDoor
open Go.RowKit Go.Shelf
attribute [local go_sem] Oper.semAt_some

theorem p4 {l : List Rt} {a : Addr} {V : World} {j : Nat} {p q : Rt} (h : RowAt l a V) (hp : l[j]? = some p) (hq : l[j + 1]? = some q) : V.cell? (a.add (j * 2)) = some (.int .i64 p.N) ∧ V.cell? ⟨(a.add (j * 2)).block, (a.add (j * 2)).off + 1, none⟩ = some (.int .i64 p.D) ∧ V.cell? (a.add ((j + 1) * 2)) = some (.int .i64 q.N) ∧ V.cell? ⟨(a.add ((j + 1) * 2)).block, (a.add ((j + 1) * 2)).off + 1, none⟩ = some (.int .i64 q.D) := ⟨(h.pair hp).1, (h.pair hp).2, (h.pair hq).1, (h.pair hq).2⟩

set_option maxRecDepth 100000 in
set_option maxHeartbeats 4000000 in
theorem rows_walk (l : List Rt) (hl : ∀ p ∈ l, RtIn p) (o : Option Addr) (cap : Nat) (_ : l.length ≤ cap ∧ cap ≤ maxLen) (w : World) (hO : ∀ (k : Nat) (p : Rt), l[k]? = some p → ∃ a, o = some a ∧ RowAt l a w) (sn sd se xn xd yn yd : Int) (xo yo : Bool)
    (H1 : ∀ w0, Below w.heap.size w w0 → Calls Tryd.prog 34 #[.slice o l.length cap] w0 fun e w' => e = .returned (.tuple #[.agg #[.int .i64 sn, .int .i64 sd], .int .i64 se]) ∧ Below w0.heap.size w0 w')
    (H2 : ∀ w0, Below w.heap.size w w0 → Calls Tryd.prog 35 #[.slice o l.length cap] w0 fun e w' => e = .returned (.tuple #[.agg #[.int .i64 sn, .int .i64 sd], .int .i64 se]) ∧ Below w0.heap.size w0 w')
    (H3 : ∀ w0, Below w.heap.size w w0 → Calls Tryd.prog 36 #[.slice o l.length cap] w0 fun e w' => e = .returned (.tuple #[.agg #[.int .i64 xn, .int .i64 xd], .bool xo]) ∧ Below w0.heap.size w0 w')
    (H4 : ∀ w0, Below w.heap.size w w0 → Calls Tryd.prog 37 #[.slice o l.length cap, .int .i64 (-1)] w0 fun e w' => e = .returned (.tuple #[.agg #[.int .i64 xn, .int .i64 xd], .bool xo]) ∧ Below w0.heap.size w0 w')
    (H5 : ∀ w0, Below w.heap.size w w0 → Calls Tryd.prog 38 #[.slice o l.length cap] w0 fun e w' => e = .returned (.tuple #[.agg #[.int .i64 yn, .int .i64 yd], .bool yo]) ∧ Below w0.heap.size w0 w')
    (H6 : ∀ w0, Below w.heap.size w w0 → Calls Tryd.prog 37 #[.slice o l.length cap, .int .i64 1] w0 fun e w' => e = .returned (.tuple #[.agg #[.int .i64 yn, .int .i64 yd], .bool yo]) ∧ Below w0.heap.size w0 w') :
    Calls Tryd.prog 7 #[.slice o l.length cap] w fun e w' => e = .returned (.bool true) ∧ Below w.heap.size w w' := by
  have hmx : maxLen ≤ 9223372036854775807 := by decide
  have HK := hideR known_any
  have HT := hideR (told_any sn sd se)
  have H1 := hideR H1
  have H2 := hideR H2
  have H3 := hideR H3
  have H4 := hideR H4
  have H5 := hideR H5
  have H6 := hideR H6
  by_cases hbig : 3000 < l.length
  · go_enter Tryd.func7, Tryd.ntmps7
    go_wp2_with fail
    go_at_call 17
    refine Calls.mono (HK.out _) ?_
    rintro e w1 ⟨rfl, b1⟩
    go_wp2_with fail
    go_ret
    exact ⟨rfl, b1⟩
  · go_enter Tryd.func7, Tryd.ntmps7
    go_wp2_with fail
    go_at_call 17
    refine Calls.mono (HK.out _) ?_
    rintro e w1 ⟨rfl, b1⟩
    go_wp2_with fail
    go_at_call 34
    refine Calls.mono (H1.out _ b1) ?_
    rintro e w2 ⟨rfl, b2⟩
    have B2 := bup (bup b1 b2) (bel1 w2 (.cells #[.int .i64 sn, .int .i64 sd] 26))
    have X2 := Two.new w2 (.int .i64 sn) (.int .i64 sd) 26
    clear b1 b2
    go_wp2_with fail
    go_at_call 35
    refine Calls.mono (H2.out _ B2) ?_
    rintro e w3 ⟨rfl, b3⟩
    have B3 := bup (bup B2 b3) (bel1 w3 (.cells #[.int .i64 sn, .int .i64 sd] 26))
    have X3 := (X2.keep b3).alloc (.cells #[.int .i64 sn, .int .i64 sd] 26)
    have Y3 := Two.new w3 (.int .i64 sn) (.int .i64 sd) 26
    clear b3 B2 X2
    obtain ⟨_, x0, x1, _, _⟩ := id X3
    obtain ⟨_, y0, y1, _, _⟩ := id Y3
    go_wp2_with fail
    go_at_call 25
    refine Calls.mono (HT.out _) ?_
    rintro e w4 ⟨rfl, b4⟩
    have B4 := bup B3 b4
    clear B3 X3 Y3 b4 x0 x1 y0 y1
    go_wp2_with fail
    go_loopw [7] (fun i wr => ∃ k : Nat, i = .int .i64 k ∧ k ≤ l.length ∧ Below w.heap.size w wr) (fun i _ => l.length - (intOf i).toNat)
    case atStart => exact ⟨0, rfl, Nat.zero_le _, B4⟩
    case round =>
      clear B4
      obtain ⟨k, rfl, hk, hB⟩ := hrel
      by_cases hk2 : k < l.length
      · obtain ⟨p, hp⟩ : ∃ p, l[k]? = some p := ⟨_, List.getElem?_eq_getElem hk2⟩
        obtain ⟨a, rfl, hR⟩ := hO k p hp
        obtain ⟨d0, d1⟩ := (hR.old hB).pair hp
        have HR := rright_r p (hl p (List.mem_of_getElem? hp))
        clear hp
        unfold rtv at HR
        generalize rightB p = ok at HR
        have HR := hideR HR
        go_wp2_with fail
        go_at_call 22
        refine Calls.mono (HR.out _) ?_
        rintro e w5 ⟨rfl, b5⟩
        have B5 := bup hB b5
        clear hB b5 d0 d1
        cases ok
        · go_wp2_with fail
          go_ret
          exact ⟨rfl, B5⟩
        · go_wp2_with fail
          refine ⟨⟨k + 1, by go_num, by omega, B5⟩, ?_⟩
          simp [intOf]
          omega
      · obtain rfl : k = l.length := by omega
        go_wp2_with fail
        go_at_call 36
        refine Calls.mono (H3.out _ hB) ?_
        rintro e w6 ⟨rfl, b6⟩
        have B6 := bup (bup hB b6) (bel1 w6 (.cells #[.int .i64 xn, .int .i64 xd] 26))
        have A6 := Two.new w6 (.int .i64 xn) (.int .i64 xd) 26
        clear b6
        go_wp2_with fail
        go_at_call 37
        refine Calls.mono (H4.out _ B6) ?_
        rintro e w7 ⟨rfl, b7⟩
        have B7 := bup (bup B6 b7) (bel1 w7 (.cells #[.int .i64 xn, .int .i64 xd] 26))
        have A7 := (A6.keep b7).alloc (.cells #[.int .i64 xn, .int .i64 xd] 26)
        have C7 := Two.new w7 (.int .i64 xn) (.int .i64 xd) 26
        clear b7 A6 B6
        go_wp2_with fail
        go_at_call 38
        refine Calls.mono (H5.out _ B7) ?_
        rintro e w8 ⟨rfl, b8⟩
        have B8 := bup (bup B7 b8) (bel1 w8 (.cells #[.int .i64 yn, .int .i64 yd] 26))
        have A8 := (A7.keep b8).alloc (.cells #[.int .i64 yn, .int .i64 yd] 26)
        have C8 := (C7.keep b8).alloc (.cells #[.int .i64 yn, .int .i64 yd] 26)
        have D8 := Two.new w8 (.int .i64 yn) (.int .i64 yd) 26
        clear b8 A7 C7 B7
        go_wp2_with fail
        go_at_call 37
        refine Calls.mono (H6.out _ B8) ?_
        rintro e w9 ⟨rfl, b9⟩
        have B9 := bup (bup B8 b9) (bel1 w9 (.cells #[.int .i64 yn, .int .i64 yd] 26))
        have A9 := (A8.keep b9).alloc (.cells #[.int .i64 yn, .int .i64 yd] 26)
        have C9 := (C8.keep b9).alloc (.cells #[.int .i64 yn, .int .i64 yd] 26)
        have D9 := (D8.keep b9).alloc (.cells #[.int .i64 yn, .int .i64 yd] 26)
        have E9 := Two.new w9 (.int .i64 yn) (.int .i64 yd) 26
        clear b9 A8 C8 D8 B8
        obtain ⟨_, a0, a1, _, _⟩ := id A9
        obtain ⟨_, c0, c1, _, _⟩ := id C9
        obtain ⟨_, d0, d1, _, _⟩ := id D9
        obtain ⟨_, e0, e1, _, _⟩ := id E9
        have hxo : (xo != xo) = false := by cases xo <;> rfl
        have hyo : (yo != yo) = false := by cases yo <;> rfl
        go_wp2_with fail
        clear a0 a1 c0 c1 d0 d1 e0 e1 A9 C9 D9 E9
        go_loopw [16] (fun i wr => ∃ j : Nat, i = .int .i64 ((j : Int) + 1) ∧ j ≤ l.length ∧ Below w.heap.size w wr) (fun i _ => l.length + 1 - (intOf i).toNat)
        case atStart => exact ⟨0, rfl, Nat.zero_le _, B9⟩
        case round =>
          clear B9 hk hB hk2
          obtain ⟨j, rfl, hk, hB⟩ := hrel
          by_cases hk2 : j + 1 < l.length
          · obtain ⟨p, hp⟩ : ∃ p, l[j]? = some p := ⟨_, List.getElem?_eq_getElem (by omega)⟩
            obtain ⟨q, hq⟩ : ∃ q, l[j + 1]? = some q := ⟨_, List.getElem?_eq_getElem hk2⟩
            obtain ⟨a, rfl, hR⟩ := hO j p hp
            have RW := hR.old hB
            obtain ⟨d0, d1, d2, d3⟩ := p4 RW hp hq
            have SC := p4 RW hp hq
            have HP := hideR hp
            have HQ := hideR hq
            have HC := cmp_any p q (hl p (List.mem_of_getElem? hp)) (hl q (List.mem_of_getElem? hq))
            have HD := rcmp_any p q (hl p (List.mem_of_getElem? hp)) (hl q (List.mem_of_getElem? hq))
            clear hp hq
            unfold rtv at HC HD
            generalize cmpI p q = c at HC HD
            have HC := hideR HC
            have HD := hideR HD
            have t1 : (j : Int) < (l.length : Int) := by omega
            have t2 : (j : Int) + 1 < (l.length : Int) := by omega
            have t3 : j < l.length := by omega
            have t4 : IntKind.i64.wrap (j : Int) = j := by rw [IntKind.wrap_i64]; omega
            have t5 : IntKind.i64.wrap ((j : Int) + 1) = (j : Int) + 1 := by rw [IntKind.wrap_i64]; omega
            have t6 : ((j : Int) + 1).toNat = j + 1 := by omega
            have t7 : (0 : Int) ≤ (j : Int) + 1 := by omega
            have t8 : (0 : Int) ≤ (j : Int) := by omega
            go_wp2_with fail
            go_region_held3 (fun w' => w'.cell? (a.add (j * 2)) = some (.int .i64 p.N) ∧ w'.cell? ⟨(a.add (j * 2)).block, (a.add (j * 2)).off + 1, none⟩ = some (.int .i64 p.D) ∧ w'.cell? (a.add ((j + 1) * 2)) = some (.int .i64 q.N) ∧ w'.cell? ⟨(a.add ((j + 1) * 2)).block, (a.add ((j + 1) * 2)).off + 1, none⟩ = some (.int .i64 q.D)) (first | assumption | go_keep)
              (first | (go_at_call 39; refine (HC.out _).mono ?_; rintro e w2 ⟨rfl, b2⟩; have D2 : Below wr.heap.size wr w2 := bup (Below.refl _ _).drew b2; have R2 := RW.keep D2; have S2 := p4 R2 HP.out HQ.out) | (go_at_call 40; refine (HD.out _).mono ?_; rintro e w3 ⟨rfl, b3⟩; have D3 : Below wr.heap.size wr w3 := bup D2 b3; have R3 := RW.keep D3; have S3 := p4 R3 HP.out HQ.out))
            all_goals (
              clear d0 d1 d2 d3
              have hcc : (c != c) = false := by simp
              go_wp2_with fail
              refine ⟨⟨j + 1, by go_num, by omega, bup hB D3⟩, ?_⟩
              simp [intOf]
              omega)
          · go_wp2_with fail
            go_ret
            exact ⟨rfl, hB⟩
end Go.Proofs.YtmofjkfghidlnaaDoor
