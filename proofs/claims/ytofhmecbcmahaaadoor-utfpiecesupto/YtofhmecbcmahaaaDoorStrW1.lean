/- The walk of UtfStream: whatever the pieces, the bytes are those that were fed, the signs of the parts those of the whole. -/
import Derived.Test.YtofhmecbcmahaaaDoorHead
import Derived.Test.YtofhmecbcmahaaaDoorStrM
import Derived.Test.YtofhmecbcmahaaaDoorMovW
import Derived.Test.YtofhmecbcmahaaaDoorPieW
import Derived.Test.YtofhmecbcmahaaaDoorSizW1
import Derived.Deep.Cut
import Derived.Deep.CutBlock
namespace Go.Proofs.YtofhmecbcmahaaaDoor
open Go.RowKit

theorem ext_mid (s : ByteArray) (A B C : Nat) (h1 : A ≤ B) (h2 : B ≤ C) (_h3 : C ≤ s.size) : s.extract A B ++ s.extract B C = s.extract A C := by
  refine ba_ext ?_
  rw [app_ext, Lib.extract_data, Lib.extract_data, Lib.extract_data, show List.drop B s.data.toList = List.drop (B - A) (List.drop A s.data.toList) by rw [List.drop_drop]; congr 1; omega, show C - B = (C - A) - (B - A) by omega, ← List.take_add]
  congr 1
  omega
theorem bytes_back (W : World) (B cap : Nat) (b : ByteArray) (h : BytesAt W B b) : (convert 55 9 (.slice (some ⟨B, 0, none⟩) b.size cap)).run Tryd.prog W = .ok (.string b) W := by
  have hl : b.data.toList.length = b.size := (Lib.size_eq b).symm
  have := run_convert_bytes_back (P := Tryd.prog) W 55 9 5 ⟨B, 0, none⟩ cap b.data.toList Tryd.underlying55 Tryd.underlying5 Tryd.underlying9 (fun j hj => by
    have h1 := h j (by omega)
    have : (⟨B, 0, none⟩ : Addr).add j = ⟨B, j, none⟩ := by
      by_cases c : j = 0
      · subst c; simp [Addr.add]
      · simp [Addr.add, c]
    rw [this, h1]
    simp [ByteArray.getElem_eq_getElem_data])
  rw [hl] at this
  simpa using this

set_option maxRecDepth 100000 in
set_option maxHeartbeats 4000000 in
theorem lawStream1_any (s : ByteArray) (hs : s.size ≤ 1048576) (oc : Option Addr) (cc : Nat) (zs : List Int) (hzl : zs.length ≤ 1048576) (hzb : ∀ x ∈ zs, -9223372036854775808 ≤ x ∧ x ≤ 9223372036854775807) (w : World) (hw : 2 ≤ w.heap.size) (hT : Lib.Utf8Tabs 0 1 w)
    (hc : ∀ n (hn : n < zs.length), ∃ a, oc = some a ∧ (a.add n).block < w.heap.size ∧ w.cell? (a.add n) = some (.int .i64 zs[n])) :
    Calls Tryd.prog 14 #[.string s, .slice oc zs.length cc] w fun e w' => e = .returned (.bool true) ∧ Below w.heap.size w w' := by
  have HC := hideO hc
  have HZ := hideO hzb
  have hln : (signs s).length ≤ 1048576 := Nat.le_trans (sgns_length s _ _) hs
  clear hc hzb
  go_enter Tryd.func14, Tryd.ntmps14
  go_wp2_with fail
  refine (newp_any _).mono ?_
  rintro r w1 ⟨rfl, rfl⟩
  have hH : Holds (w.alloc (.cells #[.string ⟨#[]⟩] 97)) w.heap.size ⟨#[]⟩ := World.alloc_heap_new w _
  have b1 : Below w.heap.size w (w.alloc (.cells #[.string ⟨#[]⟩] 97)) := (Below.refl _ w).alloc (Nat.le_refl _) _
  have z1 : (w.alloc (.cells #[.string ⟨#[]⟩] 97)).heap.size = w.heap.size + 1 := by simp
  generalize w.alloc (.cells #[.string ⟨#[]⟩] 97) = W1 at *
  have z1' : w.heap.size + 1 ≤ W1.heap.size := by omega
  clear z1
  go_wp2
  go_loopw [6, 7, 8, 9, 10, 11] (fun lv a t i _ _ wr => ∃ (loc told k : Nat) (L : List Sg), a = .int .i64 loc ∧ t = .int .i64 told ∧ i = .int .i64 k ∧ told ≤ loc ∧ loc ≤ s.size ∧ Holds wr w.heap.size (s.extract told loc) ∧ wr.ownsRow (w.heap.size + 1) 63 4 lv L.length (flatS L) ∧ Hid (Lies s 0 L told) ∧ Below w.heap.size w wr ∧ w.heap.size + 1 ≤ wr.heap.size ∧ Hid (loc < s.size → k ≤ 1000)) (fun _ a _ i _ _ _ => (s.size - (intOf a).toNat) + (1001 - (intOf i).toNat))
  case atStart => exact ⟨0, 0, 0, [], rfl, rfl, rfl, by omega, by omega, by have : s.extract 0 0 = ⟨#[]⟩ := ba_ext (by rw [Lib.extract_data]; simp); rw [this]; exact hH, World.ownsRow_nil _ _ _ _, hideO rfl, b1, z1', hideO (fun _ => by omega)⟩
  case round =>
    obtain ⟨loc, told, k, L, rfl, rfl, rfl, htl, hls, hHo, hown, HL, hB, hz, hk⟩ := hrel
    by_cases hlt : loc < s.size
    · have hk := hk.out hlt
      by_cases hcase : 0 < zs.length ∧ k < 1000
      · obtain ⟨h0, hk1⟩ := hcase
        have hjz : k % zs.length < zs.length := Nat.mod_lt _ h0
        obtain ⟨a, rfl, hab, hac⟩ := HC.out (k % zs.length) hjz
        have c0 := (hB.cell (p := a.add (k % zs.length)) hab).trans hac
        have hzz := HZ.out zs[k % zs.length] (List.getElem_mem hjz)
        obtain ⟨y, hy⟩ : ∃ y : Nat, zs[k % zs.length] % 9 = (y : Int) := ⟨(zs[k % zs.length] % 9).toNat, by have := Int.emod_nonneg zs[k % zs.length] (show (9 : Int) ≠ 0 by omega); omega⟩
        have HWi := hideO (fun W => within1_any zs[k % zs.length] 9 (by omega) W)
        rw [hy] at HWi
        obtain ⟨n, hn⟩ : ∃ n, min (s.size - loc) y = n := ⟨_, rfl⟩
        have hni : min ((s.size : Int) - (loc : Int)) (y : Int) = (n : Int) := by omega
        obtain ⟨E, hEe⟩ : ∃ E, loc + n = E := ⟨_, rfl⟩
        have hEi : (loc : Int) + (n : Int) = (E : Int) := by omega
        have hE : E ≤ s.size := by omega
        have hE1 : (E : Int) ≤ (s.size : Int) := by omega
        have hE2 : (loc : Int) ≤ (E : Int) := by omega
        have hE3 : loc ≤ E := by omega
        have HEe := hideO hEe
        have hcv := run_bytes_of_string (P := Tryd.prog) wr 9 55 5 (s.extract loc E) Tryd.underlying9 Tryd.underlying55 Tryd.underlying5
        clear hEe
        have HK := hideO (And.intro hHo (And.intro hown (And.intro HL.out hB)))
        clear hac hy hHo hown HL hB hn
        generalize zs[k % zs.length] = z at *
        go_wp2_with fail
        refine (HWi.out _).mono ?_
        rintro r w' ⟨rfl, hww⟩
        obtain rfl := hww.symm
        clear HWi
        go_wp2_with fail
        clear hcv
        obtain ⟨hHo, hown, hLo, hB⟩ := HK.out
        have hsz : (s.extract loc E).size = E - loc := by rw [ByteArray.size_extract]; omega
        have hby := bytes_row wr (s.extract loc E) (grownCap wr (E - loc) 0 5) 5 ((bytesRow (s.extract loc E) (grownCap wr (E - loc) 0 5)).size, (bytesRow (s.extract loc E) (grownCap wr (E - loc) 0 5)).size + 1)
        have hBd := ((Below.refl wr.heap.size wr).alloc (Nat.le_refl _) (.cells (bytesRow (s.extract loc E) (grownCap wr (E - loc) 0 5)) 5 ((bytesRow (s.extract loc E) (grownCap wr (E - loc) 0 5)).size, (bytesRow (s.extract loc E) (grownCap wr (E - loc) 0 5)).size + 1))).drew
        generalize hW2 : (wr.alloc (.cells (bytesRow (s.extract loc E) (grownCap wr (E - loc) 0 5)) 5 ((bytesRow (s.extract loc E) (grownCap wr (E - loc) 0 5)).size, (bytesRow (s.extract loc E) (grownCap wr (E - loc) 0 5)).size + 1))).drew = W2 at *
        have hby2 : BytesAt W2 wr.heap.size (s.extract loc E) := by rw [← hW2]; exact hby
        clear hW2 hby HK
        generalize grownCap wr (E - loc) 0 5 = cap at *
        have sd := hBd.size
        have hH2 := hHo.below hBd (by omega)
        have hown2 := row_below hown hBd
        have b2 := hB.trans (hBd.mono hB.size)
        obtain ⟨o3, oE, m, hm⟩ := stream_step s told E (by omega) hE
        obtain ⟨q, hq⟩ : ∃ q, E - (openE (s.extract told E)).size = q := ⟨_, rfl⟩
        rw [hq] at hm
        have hqt : told ≤ q := by have := lies_le hm; omega
        have hqE : q ≤ E := by omega
        have hEq : E - q ≤ 3 := by omega
        have HFE : Hid (Calls Tryd.prog 43 #[.pointer (some ⟨w.heap.size, 0, none⟩), .slice (some ⟨wr.heap.size, 0, none⟩) (E - loc) cap] W2 fun e w' => e = .returned (.string (s.extract told q)) ∧ ∃ w2, Below W2.heap.size W2 w2 ∧ w' = w2.setCell ⟨w.heap.size, 0, none⟩ (.string (s.extract q E))) := by
          have := feed_any W2 (by omega) (tabs_below hw hT b2) w.heap.size _ hH2 (some ⟨wr.heap.size, 0, none⟩) (E - loc) cap (s.extract loc E) (by rw [ByteArray.size_extract, ByteArray.size_extract]; omega) (fun W' hW' => by
            have h9 := bytes_back W' wr.heap.size cap (s.extract loc E) (fun j hj => by have := hby2 j hj; unfold World.cell? at this ⊢; rw [hW']; exact this)
            rw [hsz] at h9
            exact h9)
          rw [ext_mid s told loc E (by omega) (by omega) hE] at this
          have hz : (s.extract told E).size = E - told := by rw [ByteArray.size_extract]; omega
          rw [hz, extract_extract' s told E 0 _ (by omega), extract_extract' s told E _ (E - told) (by omega), show told + 0 = told by omega, show told + (E - told - (openE (s.extract told E)).size) = q by omega, show told + (E - told) = E by omega] at this
          exact this
        have HSP := hideO (signs_part hm (by omega))
        have HL2 := hideO (lies_append hLo hm)
        have hps : (s.extract told q).size = q - told := by rw [ByteArray.size_extract]; omega
        have hhs : (s.extract q E).size = E - q := by rw [ByteArray.size_extract]; omega
        have hLl := lies_le hLo
        have HST := hideO (And.intro hH2 (And.intro hown2 b2))
        have HLb : L.length ≤ 1048576 := by
          omega
        clear hby2 hown hHo hB hBd hsz hq o3 oE hH2 hown2 b2 hLo hm
        refine HFE.out.mono ?_
        clear HFE
        rintro r W3 ⟨rfl, w2, bw2, hW3⟩
        obtain ⟨hH2, hown2, b2⟩ := HST.out
        have sw2 := bw2.size
        have hH3 : Holds W3 w.heap.size (s.extract q E) := by rw [hW3]; exact (hH2.below bw2 (by omega)).set _
        have hown3 : W3.ownsRow (w.heap.size + 1) 63 4 u6 L.length (flatS L) := by
          rw [hW3]
          exact (row_below hown2 bw2).kept (grownBy_setCell' w2 w.heap.size _) (.inr (fun e => by have := (hown2.lt _ e).1; omega))
        have b3 : Below w.heap.size w W3 := by rw [hW3]; exact (b2.trans (bw2.mono b2.size)).setCell (p := ⟨w.heap.size, 0, none⟩) (Nat.le_refl _) _
        have s3 : W2.heap.size ≤ W3.heap.size := by rw [hW3, World.size_setCell]; exact sw2
        clear hW3 bw2 sw2 hH2 hown2 b2 HST
        have HMV := hideO (moved_any (s.extract told q) (by omega) told (by omega) L HLb (w.heap.size + 1) u6 W3 (by omega) hown3)
        obtain ⟨pt, hpt⟩ : ∃ pt, s.extract told q = pt := ⟨_, rfl⟩
        obtain ⟨hd, hhd⟩ : ∃ hd, s.extract q E = hd := ⟨_, rfl⟩
        rw [hpt] at HMV hps ⊢
        rw [hhd] at hH3 hhs
        have HPT := hideO hpt
        have HHD := hideO hhd
        have HPS := hideO hps
        have HHS := hideO hhs
        have hps1 : (told : Int) + (pt.size : Int) = (q : Int) := by omega
        have hps2 : (q : Int) - (pt.size : Int) = (told : Int) := by omega
        have hpl : pt.size ≤ 1048576 := by omega
        have hpl2 : (pt.size : Int) ≤ 1048576 := by omega
        have H3 := hideO (And.intro hH3 b3)
        clear hown3 hH3 b3 hpt hhd hps hhs
        go_wp2_with fail
        refine HMV.out.mono ?_
        clear HMV
        rintro r W4 ⟨v4, rfl, o4, b4⟩
        have s4 := b4.size
        have hH4 := H3.out.1.below b4 (by omega)
        have bW4 := H3.out.2.trans (b4.mono (by omega))
        have HV4 := hideO (And.intro o4 bW4)
        have k4 := hH4.cell
        have hhi : ¬ 3 < (hd.size : Int) := by have := HHS.out; omega
        have hqi : ¬ (E : Int) < (q : Int) := by omega
        have hhs1 : ((hd.size : Int) != (E : Int) - (q : Int)) = false := by have := HHS.out; rw [bne_eq_false_iff_eq]; omega
        have htq : (told : Int) ≤ (q : Int) := by omega
        have hqs : (q : Int) ≤ (s.size : Int) := by omega
        have hqsn : q ≤ s.size := by omega
        have teq : ((s.extract told q).toList != pt.toList) = false := by rw [HPT.out]; simp
        have teq2 : ((s.extract told q).toList == pt.toList) = true := by rw [HPT.out]; simp
        have hqn : ¬ E < q := by omega
        have hhm : hd.size ≤ 3 := by omega
        have hhn : ¬ 3 < hd.size := by omega
        clear o4 b4 bW4 H3
        go_wp2_with fail
        refine (held_any _ _ _ hH4).mono ?_
        rintro r W5 ⟨rfl, h5⟩
        obtain rfl := h5.symm
        go_wp2_with fail
        refine (held_any _ _ _ hH4).mono ?_
        rintro r W5 ⟨rfl, h5⟩
        obtain rfl := h5.symm
        go_wp2
        refine ⟨⟨E, q, k + 1, L ++ m, rfl, rfl, by go_num, hqE, hE, ?_, ?_, HL2, HV4.out.2, by omega, hideO (fun _ => by omega)⟩, by simp [intOf]; omega⟩
        · rw [HHD.out]; exact hH4
        · have := HV4.out.1
          rw [← HPT.out, HSP.out] at this
          exact this
      · by_cases h0 : 0 < zs.length
        · have hk2 : ¬ k < 1000 := fun e => hcase ⟨h0, e⟩
          have hk3 : ¬ (k : Int) < 1000 := by omega
          have h0i : (0 : Int) < (zs.length : Int) := by omega
          clear hcase
          obtain ⟨n, hn⟩ : ∃ n, s.size - loc = n := ⟨_, rfl⟩
          have hni : (s.size : Int) - (loc : Int) = (n : Int) := by omega
          obtain ⟨E, hEe⟩ : ∃ E, loc + n = E := ⟨_, rfl⟩
          have hEi : (loc : Int) + (n : Int) = (E : Int) := by omega
          have HES := hideO (show E = s.size by omega)
          have hE : E ≤ s.size := by omega
          have hE1 : (E : Int) ≤ (s.size : Int) := by omega
          have hE2 : (loc : Int) ≤ (E : Int) := by omega
          have hE3 : loc ≤ E := by omega
          have HEe := hideO hEe
          have hcv := run_bytes_of_string (P := Tryd.prog) wr 9 55 5 (s.extract loc E) Tryd.underlying9 Tryd.underlying55 Tryd.underlying5
          clear hEe
          have HK := hideO (And.intro hHo (And.intro hown (And.intro HL.out hB)))
          clear hHo hown HL hB hn
          go_wp2_with fail
          clear hcv
          obtain ⟨hHo, hown, hLo, hB⟩ := HK.out
          have hsz : (s.extract loc E).size = E - loc := by rw [ByteArray.size_extract]; omega
          have hby := bytes_row wr (s.extract loc E) (grownCap wr (E - loc) 0 5) 5 ((bytesRow (s.extract loc E) (grownCap wr (E - loc) 0 5)).size, (bytesRow (s.extract loc E) (grownCap wr (E - loc) 0 5)).size + 1)
          have hBd := ((Below.refl wr.heap.size wr).alloc (Nat.le_refl _) (.cells (bytesRow (s.extract loc E) (grownCap wr (E - loc) 0 5)) 5 ((bytesRow (s.extract loc E) (grownCap wr (E - loc) 0 5)).size, (bytesRow (s.extract loc E) (grownCap wr (E - loc) 0 5)).size + 1))).drew
          generalize hW2 : (wr.alloc (.cells (bytesRow (s.extract loc E) (grownCap wr (E - loc) 0 5)) 5 ((bytesRow (s.extract loc E) (grownCap wr (E - loc) 0 5)).size, (bytesRow (s.extract loc E) (grownCap wr (E - loc) 0 5)).size + 1))).drew = W2 at *
          have hby2 : BytesAt W2 wr.heap.size (s.extract loc E) := by rw [← hW2]; exact hby
          clear hW2 hby HK
          generalize grownCap wr (E - loc) 0 5 = cap at *
          have sd := hBd.size
          have hH2 := hHo.below hBd (by omega)
          have hown2 := row_below hown hBd
          have b2 := hB.trans (hBd.mono hB.size)
          obtain ⟨o3, oE, m, hm⟩ := stream_step s told E (by omega) hE
          obtain ⟨q, hq⟩ : ∃ q, E - (openE (s.extract told E)).size = q := ⟨_, rfl⟩
          rw [hq] at hm
          have hqt : told ≤ q := by have := lies_le hm; omega
          have hqE : q ≤ E := by omega
          have hEq : E - q ≤ 3 := by omega
          have HFE : Hid (Calls Tryd.prog 43 #[.pointer (some ⟨w.heap.size, 0, none⟩), .slice (some ⟨wr.heap.size, 0, none⟩) (E - loc) cap] W2 fun e w' => e = .returned (.string (s.extract told q)) ∧ ∃ w2, Below W2.heap.size W2 w2 ∧ w' = w2.setCell ⟨w.heap.size, 0, none⟩ (.string (s.extract q E))) := by
            have := feed_any W2 (by omega) (tabs_below hw hT b2) w.heap.size _ hH2 (some ⟨wr.heap.size, 0, none⟩) (E - loc) cap (s.extract loc E) (by rw [ByteArray.size_extract, ByteArray.size_extract]; omega) (fun W' hW' => by
              have h9 := bytes_back W' wr.heap.size cap (s.extract loc E) (fun j hj => by have := hby2 j hj; unfold World.cell? at this ⊢; rw [hW']; exact this)
              rw [hsz] at h9
              exact h9)
            rw [ext_mid s told loc E (by omega) (by omega) hE] at this
            have hz : (s.extract told E).size = E - told := by rw [ByteArray.size_extract]; omega
            rw [hz, extract_extract' s told E 0 _ (by omega), extract_extract' s told E _ (E - told) (by omega), show told + 0 = told by omega, show told + (E - told - (openE (s.extract told E)).size) = q by omega, show told + (E - told) = E by omega] at this
            exact this
          have HSP := hideO (signs_part hm (by omega))
          have HL2 := hideO (lies_append hLo hm)
          have hps : (s.extract told q).size = q - told := by rw [ByteArray.size_extract]; omega
          have hhs : (s.extract q E).size = E - q := by rw [ByteArray.size_extract]; omega
          have hLl := lies_le hLo
          have HST := hideO (And.intro hH2 (And.intro hown2 b2))
          have HLb : L.length ≤ 1048576 := by
            omega
          clear hby2 hown hHo hB hBd hsz hq o3 oE hH2 hown2 b2 hLo hm
          refine HFE.out.mono ?_
          clear HFE
          rintro r W3 ⟨rfl, w2, bw2, hW3⟩
          obtain ⟨hH2, hown2, b2⟩ := HST.out
          have sw2 := bw2.size
          have hH3 : Holds W3 w.heap.size (s.extract q E) := by rw [hW3]; exact (hH2.below bw2 (by omega)).set _
          have hown3 : W3.ownsRow (w.heap.size + 1) 63 4 u6 L.length (flatS L) := by
            rw [hW3]
            exact (row_below hown2 bw2).kept (grownBy_setCell' w2 w.heap.size _) (.inr (fun e => by have := (hown2.lt _ e).1; omega))
          have b3 : Below w.heap.size w W3 := by rw [hW3]; exact (b2.trans (bw2.mono b2.size)).setCell (p := ⟨w.heap.size, 0, none⟩) (Nat.le_refl _) _
          have s3 : W2.heap.size ≤ W3.heap.size := by rw [hW3, World.size_setCell]; exact sw2
          clear hW3 bw2 sw2 hH2 hown2 b2 HST
          have HMV := hideO (moved_any (s.extract told q) (by omega) told (by omega) L HLb (w.heap.size + 1) u6 W3 (by omega) hown3)
          obtain ⟨pt, hpt⟩ : ∃ pt, s.extract told q = pt := ⟨_, rfl⟩
          obtain ⟨hd, hhd⟩ : ∃ hd, s.extract q E = hd := ⟨_, rfl⟩
          rw [hpt] at HMV hps ⊢
          rw [hhd] at hH3 hhs
          have HPT := hideO hpt
          have HHD := hideO hhd
          have HPS := hideO hps
          have HHS := hideO hhs
          have hps1 : (told : Int) + (pt.size : Int) = (q : Int) := by omega
          have hps2 : (q : Int) - (pt.size : Int) = (told : Int) := by omega
          have hpl : pt.size ≤ 1048576 := by omega
          have hpl2 : (pt.size : Int) ≤ 1048576 := by omega
          have H3 := hideO (And.intro hH3 b3)
          clear hown3 hH3 b3 hpt hhd hps hhs
          go_wp2_with fail
          refine HMV.out.mono ?_
          clear HMV
          rintro r W4 ⟨v4, rfl, o4, b4⟩
          have s4 := b4.size
          have hH4 := H3.out.1.below b4 (by omega)
          have bW4 := H3.out.2.trans (b4.mono (by omega))
          have HV4 := hideO (And.intro o4 bW4)
          have k4 := hH4.cell
          have hhi : ¬ 3 < (hd.size : Int) := by have := HHS.out; omega
          have hqi : ¬ (E : Int) < (q : Int) := by omega
          have hhs1 : ((hd.size : Int) != (E : Int) - (q : Int)) = false := by have := HHS.out; rw [bne_eq_false_iff_eq]; omega
          have htq : (told : Int) ≤ (q : Int) := by omega
          have hqs : (q : Int) ≤ (s.size : Int) := by omega
          have hqsn : q ≤ s.size := by omega
          have teq : ((s.extract told q).toList != pt.toList) = false := by rw [HPT.out]; simp
          have teq2 : ((s.extract told q).toList == pt.toList) = true := by rw [HPT.out]; simp
          have hqn : ¬ E < q := by omega
          have hhm : hd.size ≤ 3 := by omega
          have hhn : ¬ 3 < hd.size := by omega
          clear o4 b4 bW4 H3
          go_wp2_with fail
          refine (held_any _ _ _ hH4).mono ?_
          rintro r W5 ⟨rfl, h5⟩
          obtain rfl := h5.symm
          go_wp2_with fail
          refine (held_any _ _ _ hH4).mono ?_
          rintro r W5 ⟨rfl, h5⟩
          obtain rfl := h5.symm
          go_wp2
          have hES := HES.out
          refine ⟨⟨E, q, k + 1, L ++ m, rfl, rfl, by go_num, hqE, hE, ?_, ?_, HL2, HV4.out.2, by omega, hideO (fun _ => by omega)⟩, by simp [intOf]; omega⟩
          · rw [HHD.out]; exact hH4
          · have := HV4.out.1
            rw [← HPT.out, HSP.out] at this
            exact this
        · have h0i : ¬ (0 : Int) < (zs.length : Int) := by omega
          clear hcase
          obtain ⟨n, hn⟩ : ∃ n, s.size - loc = n := ⟨_, rfl⟩
          have hni : (s.size : Int) - (loc : Int) = (n : Int) := by omega
          obtain ⟨E, hEe⟩ : ∃ E, loc + n = E := ⟨_, rfl⟩
          have hEi : (loc : Int) + (n : Int) = (E : Int) := by omega
          have HES := hideO (show E = s.size by omega)
          have hE : E ≤ s.size := by omega
          have hE1 : (E : Int) ≤ (s.size : Int) := by omega
          have hE2 : (loc : Int) ≤ (E : Int) := by omega
          have hE3 : loc ≤ E := by omega
          have HEe := hideO hEe
          have hcv := run_bytes_of_string (P := Tryd.prog) wr 9 55 5 (s.extract loc E) Tryd.underlying9 Tryd.underlying55 Tryd.underlying5
          clear hEe
          have HK := hideO (And.intro hHo (And.intro hown (And.intro HL.out hB)))
          clear hHo hown HL hB hn
          go_wp2_with fail
          clear hcv
          obtain ⟨hHo, hown, hLo, hB⟩ := HK.out
          have hsz : (s.extract loc E).size = E - loc := by rw [ByteArray.size_extract]; omega
          have hby := bytes_row wr (s.extract loc E) (grownCap wr (E - loc) 0 5) 5 ((bytesRow (s.extract loc E) (grownCap wr (E - loc) 0 5)).size, (bytesRow (s.extract loc E) (grownCap wr (E - loc) 0 5)).size + 1)
          have hBd := ((Below.refl wr.heap.size wr).alloc (Nat.le_refl _) (.cells (bytesRow (s.extract loc E) (grownCap wr (E - loc) 0 5)) 5 ((bytesRow (s.extract loc E) (grownCap wr (E - loc) 0 5)).size, (bytesRow (s.extract loc E) (grownCap wr (E - loc) 0 5)).size + 1))).drew
          generalize hW2 : (wr.alloc (.cells (bytesRow (s.extract loc E) (grownCap wr (E - loc) 0 5)) 5 ((bytesRow (s.extract loc E) (grownCap wr (E - loc) 0 5)).size, (bytesRow (s.extract loc E) (grownCap wr (E - loc) 0 5)).size + 1))).drew = W2 at *
          have hby2 : BytesAt W2 wr.heap.size (s.extract loc E) := by rw [← hW2]; exact hby
          clear hW2 hby HK
          generalize grownCap wr (E - loc) 0 5 = cap at *
          have sd := hBd.size
          have hH2 := hHo.below hBd (by omega)
          have hown2 := row_below hown hBd
          have b2 := hB.trans (hBd.mono hB.size)
          obtain ⟨o3, oE, m, hm⟩ := stream_step s told E (by omega) hE
          obtain ⟨q, hq⟩ : ∃ q, E - (openE (s.extract told E)).size = q := ⟨_, rfl⟩
          rw [hq] at hm
          have hqt : told ≤ q := by have := lies_le hm; omega
          have hqE : q ≤ E := by omega
          have hEq : E - q ≤ 3 := by omega
          have HFE : Hid (Calls Tryd.prog 43 #[.pointer (some ⟨w.heap.size, 0, none⟩), .slice (some ⟨wr.heap.size, 0, none⟩) (E - loc) cap] W2 fun e w' => e = .returned (.string (s.extract told q)) ∧ ∃ w2, Below W2.heap.size W2 w2 ∧ w' = w2.setCell ⟨w.heap.size, 0, none⟩ (.string (s.extract q E))) := by
            have := feed_any W2 (by omega) (tabs_below hw hT b2) w.heap.size _ hH2 (some ⟨wr.heap.size, 0, none⟩) (E - loc) cap (s.extract loc E) (by rw [ByteArray.size_extract, ByteArray.size_extract]; omega) (fun W' hW' => by
              have h9 := bytes_back W' wr.heap.size cap (s.extract loc E) (fun j hj => by have := hby2 j hj; unfold World.cell? at this ⊢; rw [hW']; exact this)
              rw [hsz] at h9
              exact h9)
            rw [ext_mid s told loc E (by omega) (by omega) hE] at this
            have hz : (s.extract told E).size = E - told := by rw [ByteArray.size_extract]; omega
            rw [hz, extract_extract' s told E 0 _ (by omega), extract_extract' s told E _ (E - told) (by omega), show told + 0 = told by omega, show told + (E - told - (openE (s.extract told E)).size) = q by omega, show told + (E - told) = E by omega] at this
            exact this
          have HSP := hideO (signs_part hm (by omega))
          have HL2 := hideO (lies_append hLo hm)
          have hps : (s.extract told q).size = q - told := by rw [ByteArray.size_extract]; omega
          have hhs : (s.extract q E).size = E - q := by rw [ByteArray.size_extract]; omega
          have hLl := lies_le hLo
          have HST := hideO (And.intro hH2 (And.intro hown2 b2))
          have HLb : L.length ≤ 1048576 := by
            omega
          clear hby2 hown hHo hB hBd hsz hq o3 oE hH2 hown2 b2 hLo hm
          refine HFE.out.mono ?_
          clear HFE
          rintro r W3 ⟨rfl, w2, bw2, hW3⟩
          obtain ⟨hH2, hown2, b2⟩ := HST.out
          have sw2 := bw2.size
          have hH3 : Holds W3 w.heap.size (s.extract q E) := by rw [hW3]; exact (hH2.below bw2 (by omega)).set _
          have hown3 : W3.ownsRow (w.heap.size + 1) 63 4 u6 L.length (flatS L) := by
            rw [hW3]
            exact (row_below hown2 bw2).kept (grownBy_setCell' w2 w.heap.size _) (.inr (fun e => by have := (hown2.lt _ e).1; omega))
          have b3 : Below w.heap.size w W3 := by rw [hW3]; exact (b2.trans (bw2.mono b2.size)).setCell (p := ⟨w.heap.size, 0, none⟩) (Nat.le_refl _) _
          have s3 : W2.heap.size ≤ W3.heap.size := by rw [hW3, World.size_setCell]; exact sw2
          clear hW3 bw2 sw2 hH2 hown2 b2 HST
          have HMV := hideO (moved_any (s.extract told q) (by omega) told (by omega) L HLb (w.heap.size + 1) u6 W3 (by omega) hown3)
          obtain ⟨pt, hpt⟩ : ∃ pt, s.extract told q = pt := ⟨_, rfl⟩
          obtain ⟨hd, hhd⟩ : ∃ hd, s.extract q E = hd := ⟨_, rfl⟩
          rw [hpt] at HMV hps ⊢
          rw [hhd] at hH3 hhs
          have HPT := hideO hpt
          have HHD := hideO hhd
          have HPS := hideO hps
          have HHS := hideO hhs
          have hps1 : (told : Int) + (pt.size : Int) = (q : Int) := by omega
          have hps2 : (q : Int) - (pt.size : Int) = (told : Int) := by omega
          have hpl : pt.size ≤ 1048576 := by omega
          have hpl2 : (pt.size : Int) ≤ 1048576 := by omega
          have H3 := hideO (And.intro hH3 b3)
          clear hown3 hH3 b3 hpt hhd hps hhs
          go_wp2_with fail
          refine HMV.out.mono ?_
          clear HMV
          rintro r W4 ⟨v4, rfl, o4, b4⟩
          have s4 := b4.size
          have hH4 := H3.out.1.below b4 (by omega)
          have bW4 := H3.out.2.trans (b4.mono (by omega))
          have HV4 := hideO (And.intro o4 bW4)
          have k4 := hH4.cell
          have hhi : ¬ 3 < (hd.size : Int) := by have := HHS.out; omega
          have hqi : ¬ (E : Int) < (q : Int) := by omega
          have hhs1 : ((hd.size : Int) != (E : Int) - (q : Int)) = false := by have := HHS.out; rw [bne_eq_false_iff_eq]; omega
          have htq : (told : Int) ≤ (q : Int) := by omega
          have hqs : (q : Int) ≤ (s.size : Int) := by omega
          have hqsn : q ≤ s.size := by omega
          have teq : ((s.extract told q).toList != pt.toList) = false := by rw [HPT.out]; simp
          have teq2 : ((s.extract told q).toList == pt.toList) = true := by rw [HPT.out]; simp
          have hqn : ¬ E < q := by omega
          have hhm : hd.size ≤ 3 := by omega
          have hhn : ¬ 3 < hd.size := by omega
          clear o4 b4 bW4 H3
          go_wp2_with fail
          refine (held_any _ _ _ hH4).mono ?_
          rintro r W5 ⟨rfl, h5⟩
          obtain rfl := h5.symm
          go_wp2_with fail
          refine (held_any _ _ _ hH4).mono ?_
          rintro r W5 ⟨rfl, h5⟩
          obtain rfl := h5.symm
          go_wp2
          have hES := HES.out
          refine ⟨⟨E, q, k + 1, L ++ m, rfl, rfl, by go_num, hqE, hE, ?_, ?_, HL2, HV4.out.2, by omega, hideO (fun _ => by omega)⟩, by simp [intOf]; omega⟩
          · rw [HHD.out]; exact hH4
          · have := HV4.out.1
            rw [← HPT.out, HSP.out] at this
            exact this
    · have hlt2 : ¬ (loc : Int) < (s.size : Int) := by omega
      have hle : loc = s.size := by omega
      have HK := hideO (And.intro hHo (And.intro hown (And.intro HL.out (And.intro hB hle))))
      clear hHo hown HL hB hle hk
      go_wp2_with fail
      obtain ⟨hHo, hown, hLo, hB, hle⟩ := HK.out
      clear HK
      subst hle
      refine (end_any wr w.heap.size _ hHo).mono ?_
      rintro r W2 ⟨rfl, hW2⟩
      have hH2 : Holds W2 w.heap.size ⟨#[]⟩ := by rw [hW2]; exact hHo.set _
      have hown2 : W2.ownsRow (w.heap.size + 1) 63 4 u6 L.length (flatS L) := by
        rw [hW2]
        exact hown.kept (grownBy_setCell' wr w.heap.size _) (.inr (fun e => by have := (hown.lt _ e).1; omega))
      have b2 : Below w.heap.size w W2 := by rw [hW2]; exact hB.setCell (p := ⟨w.heap.size, 0, none⟩) (Nat.le_refl _) _
      have s2 : wr.heap.size ≤ W2.heap.size := by rw [hW2, World.size_setCell]; exact Nat.le_refl _
      have hLl := lies_le hLo
      obtain ⟨m, hm⟩ : ∃ m, Lies s told m s.size := ⟨_, sgns_lies s s.size told (by omega) (by omega)⟩
      have hall : L ++ m = signs s := lies_uniq (lies_append hLo hm) (signs_lies s)
      have hsp := signs_part hm (Nat.le_refl _)
      have hps : (s.extract told s.size).size = s.size - told := by rw [ByteArray.size_extract]; omega
      have HMV := hideO (moved_any (s.extract told s.size) (by omega) told (by omega) L (by omega) (w.heap.size + 1) u6 W2 (by omega) hown2)
      rw [hsp, hall] at HMV
      have HE := hideO (show (s.extract told s.size).toList = (s.extract told s.size).toList from rfl)
      obtain ⟨pt, hpt⟩ : ∃ pt, s.extract told s.size = pt := ⟨_, rfl⟩
      have teq : ((s.extract told s.size).toList != pt.toList) = false := by rw [hpt]; simp
      have teq2 : ((s.extract told s.size).toList == pt.toList) = true := by rw [hpt]; simp
      rw [hpt] at HMV hps ⊢
      have hpn : told + pt.size = s.size := by omega
      have hpi : (told : Int) + (pt.size : Int) = (s.size : Int) := by omega
      have hpl : pt.size ≤ 1048576 := by omega
      have htl2 : (told : Int) ≤ (s.size : Int) := by omega
      have HX := hideO (And.intro hH2 b2)
      clear hW2 hHo hown hLo hB hH2 hown2 b2 hm hall hsp hpt hps HE hpn HC HZ
      go_wp2_with fail
      refine HMV.out.mono ?_
      clear HMV
      rintro r W3 ⟨v3, rfl, o3, b3⟩
      have s3 := b3.size
      have hH3 := HX.out.1.below b3 (by omega)
      have hb3 := HX.out.2.trans (b3.mono (by omega))
      obtain ⟨oa, ca, rfl, hca⟩ := alls_at o3
      have HCA := hideO hca
      have HX3 := hideO hb3
      clear o3 hca b3 HX hb3
      go_wp2_with fail
      refine (held_any _ _ _ hH3).mono ?_
      rintro r W5 ⟨rfl, h5⟩
      obtain rfl := h5.symm
      go_wp2_with fail
      refine (all_any s hs _).mono ?_
      rintro r W4 ⟨v4, rfl, o4, b4⟩
      have s4 := b4.size
      obtain ⟨ob, cb, rfl, hcb⟩ := alls_at o4
      have HCB := hideO hcb
      have HB4 := hideO b4
      clear o4 hcb b4 hH3
      go_wp2
      go_loopw [14] (fun i wq => ∃ c : Nat, i = .int .i64 c ∧ c ≤ (signs s).length ∧ Below W4.heap.size W4 wq) (fun i _ => (signs s).length - (intOf i).toNat)
      case atStart => exact ⟨0, rfl, by omega, Below.refl _ _⟩
      case round =>
        obtain ⟨c, rfl, hc, hBq⟩ := hrel
        have sq := hBq.size
        by_cases hcl : c < (signs s).length
        · obtain ⟨ga, rfl, hga, _, ha⟩ := HCA.out c hcl
          obtain ⟨gb, rfl, hgb, _, hb'⟩ := HCB.out c hcl
          obtain ⟨a0, a1, a2, a3⟩ := (ha.below HB4.out hga).below hBq (by omega)
          obtain ⟨c0, c1, c2, c3⟩ := hb'.below hBq hgb
          have hki : (c : Int) < ((signs s).length : Int) := by omega
          have HBQ := hideO hBq
          clear ha hb' hBq
          generalize (signs s)[c] = x at *
          have hgd := asign_guard
          have hnq : ∀ W, (binOp .neq 63 (.agg #[.int .i64 x.loc, .int .i64 x.len, .int .i32 x.rune, .bool x.bad]) (.agg #[.int .i64 x.loc, .int .i64 x.len, .int .i32 x.rune, .bool x.bad])).run Tryd.prog W = .ok (.bool false) W := fun W => by
            rw [asign_ne]; simp
          go_wp2
          go_quiet (fail)
          go_wp2
          exact ⟨⟨c + 1, by go_num, by omega, below_dn HBQ.out nq⟩, by simp [intOf]; omega⟩
        · have hki : ¬ (c : Int) < ((signs s).length : Int) := by omega
          have HBW := hideO ((HX3.out.trans (HB4.out.mono (by omega))).trans (hBq.mono (by omega)))
          have HRT := hideO (fun W => repair_text s (by omega) W)
          have hrl := runesL_len s
          have hsh := text_shut (runesL s)
          obtain ⟨tx, htx⟩ : ∃ tx, textA (runesL s) = tx := ⟨_, rfl⟩
          rw [htx] at HRT hrl hsh
          have htl3 : tx.size ≤ 4194304 := by omega
          have HSH := hideO hsh
          clear hBq hrl hsh htx HCA HCB HX3 HB4
          go_wp2_with fail
          refine (HRT.out _).mono ?_
          clear HRT
          rintro r W5 ⟨rfl, b5⟩
          have s5 := b5.size
          have HB5 := hideO (HBW.out.trans (b5.mono (by omega)))
          clear b5 HBW
          go_wp2_with fail
          refine (newp_any _).mono ?_
          rintro r W6 ⟨rfl, rfl⟩
          have hH6 : Holds (W5.alloc (.cells #[.string ⟨#[]⟩] 97)) W5.heap.size ⟨#[]⟩ := World.alloc_heap_new W5 _
          have b6 : Below w.heap.size w (W5.alloc (.cells #[.string ⟨#[]⟩] 97)) := HB5.out.alloc (by have := HB5.out.size; omega) _
          have s6 : W5.heap.size + 1 ≤ (W5.alloc (.cells #[.string ⟨#[]⟩] 97)).heap.size := by rw [World.size_alloc]; omega
          generalize W5.alloc (.cells #[.string ⟨#[]⟩] 97) = W6 at *
          have hcv := run_bytes_of_string (P := Tryd.prog) W6 9 55 5 tx Tryd.underlying9 Tryd.underlying55 Tryd.underlying5
          have H6 := hideO (And.intro hH6 b6)
          clear hH6 b6
          go_wp2_with fail
          clear hcv
          obtain ⟨hH6, b6⟩ := H6.out
          have hby := bytes_row W6 tx (grownCap W6 tx.size 0 5) 5 ((bytesRow tx (grownCap W6 tx.size 0 5)).size, (bytesRow tx (grownCap W6 tx.size 0 5)).size + 1)
          have hBd := ((Below.refl W6.heap.size W6).alloc (Nat.le_refl _) (.cells (bytesRow tx (grownCap W6 tx.size 0 5)) 5 ((bytesRow tx (grownCap W6 tx.size 0 5)).size, (bytesRow tx (grownCap W6 tx.size 0 5)).size + 1))).drew
          generalize hW7 : (W6.alloc (.cells (bytesRow tx (grownCap W6 tx.size 0 5)) 5 ((bytesRow tx (grownCap W6 tx.size 0 5)).size, (bytesRow tx (grownCap W6 tx.size 0 5)).size + 1))).drew = W7 at *
          have hby2 : BytesAt W7 W6.heap.size tx := by rw [← hW7]; exact hby
          generalize grownCap W6 tx.size 0 5 = cap at *
          have sd := hBd.size
          have hH7 := hH6.below hBd (by omega)
          have b7 := b6.trans (hBd.mono b6.size)
          have b5s := HB5.out.size
          have he : (⟨#[]⟩ : ByteArray) ++ tx = tx := ba_ext (by rw [app_ext]; simp)
          have HFE : Hid (Calls Tryd.prog 43 #[.pointer (some ⟨W5.heap.size, 0, none⟩), .slice (some ⟨W6.heap.size, 0, none⟩) tx.size cap] W7 fun e w' => e = .returned (.string tx) ∧ ∃ w2, Below W7.heap.size W7 w2 ∧ w' = w2.setCell ⟨W5.heap.size, 0, none⟩ (.string ⟨#[]⟩)) := by
            have := feed_any W7 (by omega) (tabs_below hw hT b7) W5.heap.size _ hH7 (some ⟨W6.heap.size, 0, none⟩) tx.size cap tx (by show 0 + tx.size ≤ _; omega) (fun W' hW' => bytes_back W' W6.heap.size cap tx (fun j hj => by have := hby2 j hj; unfold World.cell? at this ⊢; rw [hW']; exact this))
            rw [he, HSH.out, Nat.sub_zero, show tx.extract 0 tx.size = tx from ba_ext (by rw [Lib.extract_data, List.drop_zero, Nat.sub_zero, Lib.size_eq, List.take_length]), show tx.extract tx.size tx.size = ⟨#[]⟩ from ba_ext (by rw [Lib.extract_data]; simp)] at this
            exact this
          have HB7 := hideO (And.intro hH7 b7)
          clear hby hby2 hW7 hBd he hH7 b7 hH6 b6 H6 HB5 HSH
          refine HFE.out.mono ?_
          clear HFE
          rintro r W8 ⟨rfl, w2, bw2, hW8⟩
          obtain ⟨hH7, b7⟩ := HB7.out
          have sw2 := bw2.size
          have hH8 : Holds W8 W5.heap.size ⟨#[]⟩ := by rw [hW8]; exact (hH7.below bw2 (by omega)).set _
          have b8 : Below w.heap.size w W8 := by rw [hW8]; exact (b7.trans (bw2.mono b7.size)).setCell (p := ⟨W5.heap.size, 0, none⟩) (by show w.heap.size ≤ W5.heap.size; omega) _
          have s8 : W7.heap.size ≤ W8.heap.size := by rw [hW8, World.size_setCell]; exact sw2
          clear hW8 bw2 sw2 hH7 b7 HB7
          have teq3 : (tx.toList == tx.toList) = true := by simp
          go_wp2_with fail
          refine (held_any _ _ _ hH8).mono ?_
          rintro r W9 ⟨rfl, h9⟩
          obtain rfl := h9.symm
          go_wp2_with fail
          refine (head_any _ (by omega) (tabs_below hw hT b8)).mono ?_
          rintro r W10 ⟨rfl, b10⟩
          go_wp2
          go_ret
          exact ⟨rfl, b8.trans (b10.mono (by omega))⟩
end Go.Proofs.YtofhmecbcmahaaaDoor
