import Derived.Test.YtlkgnheccoodpaaGreatDoorG9
namespace Go.Proofs.YtlkgnheccoodpaaGreatDoor
open Go.RowKit Go.Shelf
attribute [local go_sem] Oper.semAt_some
def frI (ws : List Nat) (i : Nat) : Nat := if i = 0 then 0 else ws.getD (i - 1) 0
def toI (ws : List Nat) (n i : Nat) : Nat := if i < ws.length then ws.getD i 0 else n
def mkI (P : List Pc) (ws : List Nat) (i : Nat) : Bool := decide (i < ws.length) && decide (¬ kindRL P (ws.getD i 0) = 1)
def rtxL (P : List Pc) (ws : List Nat) : Nat → ByteArray → List Sp → Int × ByteArray × List Sp
 | 0, s, D => (0, s, D)
 | i + 1, s, D => if i = ws.length ∧ endsB (P.getD (P.length - 1) pc0) = true then rtxL P ws i s D
  else if (rlayM P (frI ws i) (toI ws P.length i) (mkI P ws i) s D).1 = 0 then rtxL P ws i (rlayM P (frI ws i) (toI ws P.length i) (mkI P ws i) s D).2.1 (rlayM P (frI ws i) (toI ws P.length i) (mkI P ws i) s D).2.2
  else ((rlayM P (frI ws i) (toI ws P.length i) (mkI P ws i) s D).1, ByteArray.empty, [])
theorem rlayM_size (P : List Pc) (fr t : Nat) (mk : Bool) (s : ByteArray) (D : List Sp) (h : s.size ≤ 140737488355328) : (rlayM P fr t mk s D).2.1.size ≤ 140737488355328 := by
 unfold rlayM
 repeat' split
 all_goals first | exact h | exact Nat.le_trans (splM_size _ _ _ _ _ _) (by omega)
theorem splM_len (s : ByteArray) (D : List Sp) (a b : Int) (u : ByteArray) (E : List Sp) : (splM s D a b u E).2.2.length ≤ 256 := by
 unfold splM
 repeat' split
 all_goals first | (simp; done) | exact Nat.le_of_not_lt (by assumption)
theorem rlayM_len (P : List Pc) (fr t : Nat) (mk : Bool) (s : ByteArray) (D : List Sp) (h : D.length ≤ 256) : (rlayM P fr t mk s D).2.2.length ≤ 256 := by
 unfold rlayM
 repeat' split
 all_goals first | exact h | exact splM_len _ _ _ _ _ _
theorem wpList_append_spW {P : Program} {w : World} {ops : Array Oper} {rest : List Oper} {o : Oper} {a : Act} {Q : Exit → Act → World → Prop} (hgd : o.guard = none) (s x : Operand) (t : TypeId)
  (ho : o.op = .call { callee := .builtin .append, args := #[s, x], argTypes := #[t, t] })
  (base : Nat) (e : TypeId) (i : TypeInfo) (z : Value) (size bytes : Nat) (ht : P.underlying t = some (.slice e)) (hi : P.info? e = some i) (hz : i.zero = some z)
  (hsize : i.size = size) (hby : i.bytes = bytes) (hzs : z.cells.size = size) (hsz : 0 < size)
  (v : Value) (hs : a.eval s = v) (hown : w.ownsRow base e size v 0 [])
  (ad : Addr) (m c : Nat) (news : List Value) (hx : a.eval x = .slice (some ad) m c) (hl : news.length = m * size) (hnews : ∀ j u, news[j]? = some u → w.cell? (ad.add j) = some u) (h1 : ∀ u ∈ news, u.oneCell' = true)
  (h63 : 0 + m ≤ maxLen) (hbytes : (0 + m) * bytes ≤ 140737488355328) (hbase : base ≤ w.heap.size)
  (h : ∀ o' c' w', w'.ownsRow base e size (.slice o' m c') m news → w.grownBy w' v.ownBlock → wpList P ops Q rest (a.put o.dst (.slice o' m c')) w') : wpList P ops Q (o :: rest) a w :=
 wpList_append_own w hgd s x t ho base e i z size bytes ht hi hz hsize hby hzs hsz v 0 [] hs hown ad m c news hx hl hnews h1 h63 hbytes hbase fun v' w' h2 h3 _ => by
  rw [List.nil_append, Nat.zero_add] at h2
  rcases id h2.2 with ⟨q1, q2⟩ | ⟨g, cp, cur, q, _⟩
  ·obtain rfl : m = 0 := by first | exact q2 | exact q2.symm
   subst q1
   exact h none 0 w' h2 h3
  ·subst q
   exact h _ _ w' h2 h3
theorem Tx.set1 {W : World} {P : Nat} {a b : Value} (h : Tx W P a b) (d : Value) : Tx (W.setCell ⟨P, 1, none⟩ d) P a d := by
 have h9 := set_atS h 1 d
 unfold Tx
 rw [h9]
 rfl
theorem SpO.setE {W : World} {o : Option Addr} {D : List Sp} {P i : Nat} {v : Value} (h : SpO W o D) (hne : ∀ a, o = some a → D ≠ [] → a.block ≠ P) : SpO (W.setCell ⟨P, i, none⟩ v) o D := fun j r hr => by
 have hD : D ≠ [] := by
  rintro rfl
  simp at hr
 exact h.setW (fun a ha => hne a ha hD) j r hr
def RtI (U W : World) (s : ByteArray) (D : List Sp) (o : Option Addr) (c : Nat) : Prop :=
 Tx W U.heap.size (.string s) (.slice o D.length c) ∧ (D.length ≤ c ∧ c ≤ maxLen) ∧ (o = none → D = [] ∧ c = 0) ∧ SpO W o D ∧ (∀ a, o = some a → D ≠ [] → a.block ≠ U.heap.size) ∧ Below U.heap.size U W
theorem RtI.keep {U W V : World} {s : ByteArray} {D : List Sp} {o : Option Addr} {c : Nat} (h : RtI U W s D o c) (b : Below W.heap.size W V) : RtI U V s D o c :=
 ⟨h.1.keep b, h.2.1, h.2.2.1, h.2.2.2.1.keep b, h.2.2.2.2.1, bupS h.2.2.2.2.2 b⟩
theorem RtI.store {U W : World} {x y : Value} {s : ByteArray} {D : List Sp} {o : Option Addr} {N c : Nat} (hN : D.length = N) (hT : Tx W U.heap.size x y) (hc : D.length ≤ c ∧ c ≤ maxLen) (hn : o = none → D = [] ∧ c = 0) (hS : SpO W o D) (ha : ∀ a, o = some a → D ≠ [] → a.block ≠ U.heap.size) (hB : Below U.heap.size U W) :
  RtI U ((W.setCell ⟨U.heap.size, 0, none⟩ (.string s)).setCell ⟨U.heap.size, 1, none⟩ (.slice o N c)) s D o c := by
 subst hN
 exact ⟨hT.set _ _, hc, hn, (hS.setE ha).setE ha, ha, (hB.setCell (by simp) _).setCell (by simp) _⟩
set_option maxRecDepth 100000 in
set_option maxHeartbeats 8000000 in
theorem rtext_some (s : ByteArray) (hs : s.size ≤ 4096) (hs0 : 1 ≤ (piecesL s).length) (D : List Sp) (o : Option Addr) (N cap : Nat) (hN : D.length = N) (hN5 : N ≤ 256) (hc : N ≤ cap ∧ cap ≤ maxLen) (hn : o = none → D = [] ∧ cap = 0) (hck0 : chkT s D = 0) (wd : Int) (hw : 2 ≤ wd ∧ wd ≤ 200) (ws : List Nat) (hl : ws.length ≤ 5000) (hF : Fol (tbS (piecesL s) wd) (tabE (tbS (piecesL s) wd) 0) ws) (hws : ∀ t ∈ ws, 0 < t ∧ t ≤ (piecesL s).length) (hrs : ∀ i, i ≤ ws.length → frI ws i ≤ toI ws (piecesL s).length i)
  (hTab : ∀ (g cap : Nat), (piecesL s).length ≤ cap ∧ cap ≤ maxLen → ∀ U : World, PcR U g (piecesL s) → Calls Tryz.prog 46 #[.slice (some ⟨g, 0, none⟩) (piecesL s).length cap, .int .i64 wd] U fun e w' => ∃ G, e = .returned (.slice (some ⟨G, 0, none⟩) ((piecesL s).length + 1) ((piecesL s).length + 1)) ∧ TC w' G (rowT (tbS (piecesL s) wd) ((piecesL s).length + 1)) ∧ Below U.heap.size U w') (w : World) (hR : SpO w o D) :
  Calls Tryz.prog 7 #[.agg #[.string s, .slice o N cap], .int .i64 wd] w (TxAns w (rtxL (piecesL s) ws (ws.length + 1) s D)) := by
 obtain ⟨i0, hi, hz0, hz1, hz2'⟩ := info_parts infoSp
 have HCk := hideS (fun W (h : Below w.heap.size w W) => rcheck_any s D o cap W (hR.keep h))
 rw [hck0, hN] at HCk
 have HC := hideS (rcheckW_any s wd)
 have hck : wcheckI s.size wd = 0 := by unfold wcheckI; rw [if_neg (by omega), if_neg (by omega)]
 rw [hck] at HC
 have HP := hideS (pieces_walk s hs)
 have hce := pieces_ce s
 have hpl : (piecesL s).length ≤ 5000 := by rw [piecesL_len]; have := clusters_length s; omega
 have HF := hideS (And.intro hF (And.intro hws hrs))
 have HTa := hideS hTab
 have HD := hideS (And.intro hN (And.intro hc (And.intro hn hR)))
 clear hF hws hTab hrs hR hn hc hN
 obtain ⟨R, hRR⟩ : ∃ R, rtxL (piecesL s) ws (ws.length + 1) s D = R := ⟨_, rfl⟩
 rw [hRR]
 have HR := hideS hRR
 clear hRR hck
 generalize piecesL s = P at *
 obtain ⟨bad, hbad⟩ : ∃ bad, (tabE (tbS P wd) 0).bad = bad := ⟨_, rfl⟩
 have HBd := hideS hbad
 clear hbad
 obtain ⟨n1, hn1⟩ : ∃ n, P.length = n + 1 := ⟨P.length - 1, by omega⟩
 go_enter Tryz.func7, Tryz.ntmps7
 go_wp2_with fail
 have hex : Below w.heap.size w ((w.alloc (.cells #[.string s, .slice o N cap] 24)).alloc (.cells #[.string ⟨#[]⟩, .slice none 0 0] 24)) ∧ Tx ((w.alloc (.cells #[.string s, .slice o N cap] 24)).alloc (.cells #[.string ⟨#[]⟩, .slice none 0 0] 24)) w.heap.size (.string s) (.slice o N cap) ∧ Tx ((w.alloc (.cells #[.string s, .slice o N cap] 24)).alloc (.cells #[.string ⟨#[]⟩, .slice none 0 0] 24)) (w.heap.size + 1) (.string ⟨#[]⟩) (.slice none 0 0) := by
  refine ⟨bupS (bel1S _ _) (bel1S _ _), (Tx.new w _ _).keep (bel1S _ _), ?_⟩
  have h9 := Tx.new (w.alloc (.cells #[.string s, .slice o N cap] 24)) (.string ⟨#[]⟩) (.slice none 0 0)
  rw [World.size_alloc] at h9
  exact h9
 obtain ⟨V, hV⟩ : ∃ V, (w.alloc (.cells #[.string s, .slice o N cap] 24)).alloc (.cells #[.string ⟨#[]⟩, .slice none 0 0] 24) = V := ⟨_, rfl⟩
 rw [hV] at hex
 try rw [hV]
 clear hV
 have HV := hideS hex
 clear hex
 refine (HCk.out _ HV.out.1).mono ?_
 rintro e w1 ⟨rfl, b1⟩
 replace HV := hideS (And.intro (bupS HV.out.1 b1) (And.intro (HV.out.2.1.keep b1) (HV.out.2.2.keep b1)))
 clear b1 HCk
 obtain ⟨c0, c1, c2, c3⟩ := HV.out.2.1.cells
 go_wp2_with fail
 refine (HC.out _).mono ?_
 rintro e w2 ⟨rfl, hq⟩
 obtain rfl : w2 = w1 := hq
 go_wp2_with fail
 refine (HP.out _).mono ?_
 rintro e w3 ⟨v1, rfl, o1, b3⟩
 rw [hn1] at o1
 obtain ⟨g, cp, rfl⟩ := ownsRow_succ o1
 obtain ⟨pr1, hcn, hcm⟩ := PcR.of_owns o1 hn1.symm
 have hcap : P.length ≤ cp := by omega
 rw [← hn1]
 have HKS := hideS (kinds_walk P ⟨g, 0, none⟩ cp hs0 (by omega) ⟨hcap, hcm⟩ w3 pr1.crow)
 replace HV := hideS (And.intro (bupS HV.out.1 b3) (And.intro (HV.out.2.1.keep b3) (And.intro (HV.out.2.2.keep b3) pr1)))
 clear o1 pr1 b3 HP HC hcn hn1 n1 c0 c1 c2 c3
 go_wp2_with fail
 refine HKS.out.mono ?_
 rintro e w4 ⟨rfl, I2, b4⟩
 obtain ⟨kb, hkb⟩ : ∃ kb, w3.heap.size = kb := ⟨_, rfl⟩
 rw [hkb] at I2 ⊢
 replace HV := hideS (And.intro (bupS HV.out.1 b4) (And.intro (HV.out.2.1.keep b4) (And.intro (HV.out.2.2.1.keep b4) (And.intro (HV.out.2.2.2.keep b4) I2))))
 have HWy := hideS (way_walk (some ⟨g, 0, none⟩) P.length cp wd (tbS P wd) (by show P.length ≤ 5000; omega) ws hl HF.out.1 HF.out.2.1 w4 (HTa.out g cp ⟨hcap, hcm⟩ w4 HV.out.2.2.2.1))
 rw [HBd.out] at HWy
 clear I2 b4 HKS hkb HTa
 go_wp2_with fail
 refine HWy.out.mono ?_
 rintro e w5 ⟨v3, rfl, o3, b5⟩
 obtain ⟨ov, cv, rfl, nr⟩ := NRow.of_owns o3
 replace HV := hideS (And.intro (bupS HV.out.1 b5) (And.intro (HV.out.2.1.keep b5) (And.intro (HV.out.2.2.1.keep b5) (And.intro (HV.out.2.2.2.1.keep b5) (And.intro (HV.out.2.2.2.2.keep b5) nr)))))
 clear o3 b5 nr HWy
 obtain ⟨c0, c1, c2, c3⟩ := HV.out.2.1.cells
 go_upto_region 11 with fail
 have HT0 := hideS (show RtI w5 (w5.alloc (.cells #[.string s, .slice o N cap] 24)) s D o cap from by
  obtain ⟨q1, q2, q3, q4⟩ := HD.out
  have hz5 := HV.out.1.size
  refine ⟨by rw [q1]; exact Tx.new w5 _ _, by rw [q1]; exact q2, q3, q4.keep (bupS HV.out.1 (bel1S _ _)), fun a ha hne => ?_, bel1S _ _⟩
  cases hD : D with
  | nil => exact absurd hD hne
  | cons x D' =>
   obtain ⟨a', ha', hlt, _⟩ := q4 0 x (by rw [hD]; rfl)
   rw [ha] at ha'
   obtain rfl := Option.some.inj ha'
   omega)
 generalize w5.alloc (.cells #[.string s, .slice o N cap] 24) = W0 at *
 clear c0 c1 c2 c3
 have wm : IntKind.i64.wrap (ws.length : Int) = (ws.length : Int) := IntWalk.i64_in _ ⟨by omega, by omega⟩
 go_wp2_with fail
 go_loopw [12] (fun iv wq => ∃ (j : Nat) (sj : ByteArray) (Dj : List Sp) (oj : Option Addr) (cj : Nat), iv = .int .i64 ((j : Int) - 1) ∧ j ≤ ws.length + 1 ∧ sj.size ≤ 140737488355328 ∧ Dj.length ≤ 256 ∧ rtxL P ws j sj Dj = R ∧ RtI w5 wq sj Dj oj cj) (fun iv _ => (intOf iv + 1).toNat)
 case atStart => exact ⟨ws.length + 1, s, D, o, cap, by simp, Nat.le_refl _, by omega, by rw [HD.out.1]; exact hN5, HR.out, HT0.out⟩
 case round =>
  obtain ⟨j, sj, Dj, oj, cj, rfl, hjL, hsz, hD5, hlay, hT⟩ := hrel
  obtain ⟨wq, rfl⟩ : ∃ wq, wq = wr := ⟨_, rfl⟩
  have HT := hideS hT
  have HQ := hideS hlay
  clear hlay hT HT0
  obtain ⟨Nj, hNj⟩ : ∃ n, Dj.length = n := ⟨_, rfl⟩
  have HNj := hideS hNj
  clear hNj
  cases j with
  | zero =>
   have ⟨t0, t1, t2, t3⟩ := HT.out.1.cells
   rw [HNj.out] at t1
   have hzq := HT.out.1.lt
   have hr := HQ.out
   simp [rtxL] at hr
   have HRz := hideS hr
   clear hr
   have hm1 : ¬ (0 : Int) ≤ ((0 : Nat) : Int) - 1 := by omega
   have hNj5 : Nj ≤ 256 := by rw [← HNj.out]; exact hD5
   cases oj with
   | none =>
    have hd := HT.out.2.2.1 rfl
    obtain ⟨hd1, hd2⟩ := hd
    have hN0 : Nj = 0 := by rw [← HNj.out, hd1]; rfl
    subst hN0 hd2
    have HA1 := hideS (HT.out.1.keep (bel1S wq (.cells #[] 42)))
    have ⟨k0, k1, k2, k3⟩ := HA1.out.cells
    go_upto_region 35 with (at_builtin; refine wpList_append_own_none rfl _ _ 22 rfl wq.heap.size 42 i0 4 Tryz.underlying22 hi _ _ _ rfl (own_empty wq _ 4) rfl ?_)
    have HB1 := hideS (show Below w5.heap.size w5 ((wq.setCell ⟨w5.heap.size, 1, none⟩ (.slice (some ⟨wq.heap.size, 0, none⟩) 0 0)).alloc (.cells #[] 42)) from bupS (HT.out.2.2.2.2.2.setCell (by simp) _) (bel1S _ _))
    have HA2 := hideS ((HT.out.1.set1 (.slice (some ⟨wq.heap.size, 0, none⟩) 0 0)).keep (bel1S _ (.cells #[] 42)))
    generalize (wq.setCell ⟨w5.heap.size, 1, none⟩ (.slice (some ⟨wq.heap.size, 0, none⟩) 0 0)).alloc (.cells #[] 42) = W9 at *
    clear t0 t1 t2 t3 k0 k1 k2 k3
    have ⟨t0, t1, t2, t3⟩ := HA2.out.cells
    have HZ := hideS (HV.out.2.2.1.keep HB1.out)
    have ⟨k0, k1, k2, k3⟩ := HZ.out.cells
    have hz9 := HZ.out.lt
    go_wp2_with fail
    have ⟨m0, m1, _⟩ := (HZ.out.set (.string sj) (.slice (some ⟨wq.heap.size, 0, none⟩) 0 0)).cells
    refine bodyPost_ret (v := .tuple #[.agg #[.string sj, .slice (some ⟨wq.heap.size, 0, none⟩) 0 0], .int .i64 0]) (by simp [results, Tryz.results7, go_sem, m0, m1]) rfl ?_
    have hr := HRz.out
    rw [hd1] at hr
    subst hr
    exact ⟨some ⟨wq.heap.size, 0, none⟩, 0, rfl, ⟨Nat.le_refl _, Nat.zero_le _⟩, fun h => (nomatch h), SpO.nil _ _, (fun a h => by obtain rfl := Option.some.inj h; exact Nat.le_trans HV.out.1.size HT.out.2.2.2.2.2.size), ((bupS HV.out.1 HB1.out).setCell (by simp) _).setCell (by simp) _⟩
   | some a =>
    have HFl := hideS HT.out.2.2.2.1.flat
    have HBk : Hid (∀ j u, (flat4 Dj)[j]? = some u → (a.add j).block < wq.heap.size) := hideS fun j u hj => by
     obtain ⟨p, hp, _⟩ := flat4_cell hj
     obtain ⟨a', ha, hb, _⟩ := HT.out.2.2.2.1 _ p hp
     obtain rfl : a = a' := by simpa using ha
     rw [addrS_block]
     exact hb
    have HO := hideS (flat4_one Dj)
    have HL : Hid ((flat4 Dj).length = Nj * 4) := hideS (by rw [flat4_len, HNj.out])
    go_upto_region 35 with (at_builtin; refine wpList_append_spW rfl _ _ 22 rfl wq.heap.size 42 i0 (.agg #[.int .i64 0, .int .i64 0, .int .i64 0, .int .i64 0]) 4 32 Tryz.underlying22 hi hz0 hz1 hz2' rfl (by decide) _ rfl (own_empty wq _ 4) a Nj cj (flat4 Dj) rfl HL.out (fun j u hj => (Below.cell (bel1S wq _) (HBk.out j u hj)).trans (HFl.out j u hj)) HO.out (by unfold maxLen; omega) (by omega) (by simp) ?_; intro o9 c9 w6 hown' hgrow; have B6 : Hid (Below wq.heap.size wq w6) := hideS (Below.grown (bel1S wq (.cells #[] 42)) hgrow (by simp) (fun j hj => by cases hj; exact Nat.le_refl _)); have O6 := hideS hown'; clear hown' hgrow; have ⟨k0, k1, k2, k3⟩ := (HT.out.1.keep B6.out).cells)
    have O7 := O6.out
    obtain ⟨o9', c9', he9, r1, r2, r3⟩ := own_readB O7 HNj.out
    obtain ⟨rfl, -, rfl⟩ : o9 = o9' ∧ Nj = Nj ∧ c9 = c9' := by injection he9 with h1 h2 h3; exact ⟨h1, rfl, h3⟩
    have HB1 := hideS (show Below w5.heap.size w5 (w6.setCell ⟨w5.heap.size, 1, none⟩ (.slice o9 Nj c9)) from (bupS HT.out.2.2.2.2.2 B6.out).setCell (by simp) _)
    have HA2 := hideS ((HT.out.1.keep B6.out).set1 (.slice o9 Nj c9))
    have HS2 := hideS (show SpO (w6.setCell ⟨w5.heap.size, 1, none⟩ (.slice o9 Nj c9)) o9 Dj ∧ (Nj ≤ c9 ∧ c9 ≤ maxLen) ∧ (o9 = none → Dj = [] ∧ c9 = 0) ∧ ∀ a, o9 = some a → wq.heap.size ≤ a.block from ⟨r2.setW (fun a ha => by have := r3 a ha; omega), r1, fun h => ⟨List.length_eq_zero_iff.1 (by rw [HNj.out]; exact (own_noneW O7 h).1), (own_noneW O7 h).2⟩, r3⟩)
    generalize w6.setCell ⟨w5.heap.size, 1, none⟩ (.slice o9 Nj c9) = W9 at *
    clear t0 t1 t2 t3 k0 k1 k2 k3 O6 O7 r1 r2 r3
    have ⟨t0, t1, t2, t3⟩ := HA2.out.cells
    have HZ := hideS (HV.out.2.2.1.keep HB1.out)
    have ⟨k0, k1, k2, k3⟩ := HZ.out.cells
    have hz9 := HZ.out.lt
    have hrb : w.heap.size + 1 < w5.heap.size := HV.out.2.2.1.lt
    go_wp2_with fail
    have ⟨m0, m1, _⟩ := (HZ.out.set (.string sj) (.slice o9 Nj c9)).cells
    refine bodyPost_ret (v := .tuple #[.agg #[.string sj, .slice o9 Nj c9], .int .i64 0]) (by simp [results, Tryz.results7, go_sem, m0, m1]) rfl ?_
    have hr := HRz.out
    subst hr
    have hne : ∀ a, o9 = some a → a.block ≠ w.heap.size + 1 := fun a ha => by have := HS2.out.2.2.2 a ha; omega
    exact ⟨o9, c9, by simp only [HNj.out], by simp only [HNj.out]; exact HS2.out.2.1, HS2.out.2.2.1, (HS2.out.1.setW hne).setW hne, (fun a h => Nat.le_trans (Nat.le_trans HV.out.1.size HT.out.2.2.2.2.2.size) (HS2.out.2.2.2 a h)), ((bupS HV.out.1 HB1.out).setCell (by simp) _).setCell (by simp) _⟩
  | succ i =>
   have e1 : ((i + 1 : Nat) : Int) - 1 = (i : Int) := by omega
   rw [e1]
   have d0 : (0 : Int) ≤ (i : Int) := by omega
   have wi : IntKind.i64.wrap ((i : Int) - 1) = (i : Int) - 1 := IntWalk.i64_in _ ⟨by omega, by omega⟩
   clear e1
   have HPR := hideS (fun (X : World) (h : Below w5.heap.size w5 X) => HV.out.2.2.2.1.keep h)
   obtain ⟨q, hq⟩ : ∃ q, P.length - 1 = q := ⟨_, rfl⟩
   have q1 : (P.length : Int) - 1 = (q : Int) := by omega
   have q2 : IntKind.i64.wrap (q : Int) = (q : Int) := IntWalk.i64_in _ ⟨by omega, by omega⟩
   have q3 : (q : Int) < (P.length : Int) := by omega
   have q4 : q < P.length := by omega
   have q5 : (0 : Int) < (P.length : Int) := by omega
   have q6 : 0 < P.length := by omega
   obtain ⟨x, hx⟩ : ∃ x, P.getD q pc0 = x := ⟨_, rfl⟩
   have hxq : P[q]? = some x := by rw [← hx]; exact getD_some q4
   by_cases hcont : i = ws.length ∧ endsB x = true
   ·obtain ⟨him, hend⟩ := hcont
    have hstep : rtxL P ws i sj Dj = R := by
     have := HQ.out
     unfold rtxL at this
     rw [if_pos ⟨him, by rw [hq, hx]; exact hend⟩] at this
     exact this
    have d1 : ¬ (i : Int) < (ws.length : Int) := by omega
    have HEn := hideS (ends_any x)
    unfold Pc.val at HEn
    rw [hend] at HEn
    obtain ⟨y0, y1, y2, y3⟩ := (HPR.out wq HT.out.2.2.2.2.2).2 q x hxq
    have HSt := hideS hstep
    clear hstep hxq hx hq hend
    go_wp2_with fail
    refine (HEn.out _).mono ?_
    rintro e w6 ⟨rfl, b6⟩
    have H6 := hideS (HT.out.keep b6)
    clear b6
    go_wp2_with fail
    go_roundw
    case rel => exact ⟨i, sj, Dj, oj, cj, by rw [him], by omega, hsz, hD5, HSt.out, H6.out⟩
    case measure => simp [intOf] <;> omega
   ·obtain ⟨t, ht⟩ : ∃ t, toI ws P.length i = t := ⟨_, rfl⟩
    obtain ⟨fr, hfr⟩ : ∃ fr, frI ws i = fr := ⟨_, rfl⟩
    obtain ⟨mk, hmk⟩ : ∃ mk, mkI P ws i = mk := ⟨_, rfl⟩
    obtain ⟨Q, hQ⟩ : ∃ Q, rlayM P fr t mk sj Dj = Q := ⟨_, rfl⟩
    have hszQ := rlayM_size P fr t mk sj Dj hsz
    have hlnQ := rlayM_len P fr t mk sj Dj hD5
    have hstep := HQ.out
    unfold rtxL at hstep
    rw [if_neg (by rw [hq, hx]; exact hcont), ht, hfr, hmk, hQ] at hstep
    rw [hQ] at hszQ hlnQ
    have HlnQ := hideS hlnQ
    clear hlnQ
    have htl : t ≤ P.length := by
     rw [← ht]
     unfold toI
     by_cases h : i < ws.length
     ·rw [if_pos h]
      have := HF.out.2.1 (ws.getD i 0) (List.mem_of_getElem? (getD_some h))
      omega
     ·rw [if_neg h]; exact Nat.le_refl _
    have hft : fr ≤ t := by rw [← ht, ← hfr]; exact HF.out.2.2 i (by omega)
    obtain ⟨u, hu⟩ : ∃ u, (if mk = true then nlB else ByteArray.empty) = u := ⟨_, rfl⟩
    have HX := hideS (And.intro hstep (And.intro hszQ (And.intro hQ hu)))
    clear hstep hszQ hQ hsz
    go_upto_if 58 with fail
    go_cut [13, 15] (fun tv mv wx => tv = .int .i64 (t : Nat) ∧ mv = .string u ∧ RtI w5 wx sj Dj oj cj)
    case first =>
     have hu := HX.out.2.2.2
     by_cases him : i < ws.length
     ·have ht2 : ws[i]? = some t := by rw [← ht]; unfold toI; rw [if_pos him]; exact getD_some him
      have ht0 := HF.out.2.1 t (List.mem_of_getElem? ht2)
      obtain ⟨gw, rfl, hgw, cw⟩ := (HV.out.2.2.2.2.2.keep HT.out.2.2.2.2.2) i t ht2
      have ck := ((HV.out.2.2.2.2.1.keep HT.out.2.2.2.2.2).at (kindsL_at P t (by omega) ht0.2)).1
      have d1 : (i : Int) < (ws.length : Int) := by omega
      have d2 : (t : Int) < ((P.length + 1 : Nat) : Int) := by omega
      have d2' : (t : Int) < (P.length : Int) + 1 := by omega
      have d3 : t < P.length + 1 := by omega
      have hg0 : ws.getD i 0 = t := by rw [← ht]; unfold toI; rw [if_pos him]
      have hmk2 : mk = decide (¬ kindRL P t = 1) := by rw [← hmk]; unfold mkI; rw [hg0, decide_eq_true him, Bool.true_and]
      obtain ⟨kk, hkk⟩ : ∃ kk, kindRL P t = kk := ⟨_, rfl⟩
      rw [hkk] at ck hmk2
      clear ht2 ht0 hkk hg0 ht hxq hx hq hcont
      by_cases h1 : kk = 1
      ·have hu2 : u = ByteArray.empty := by rw [← hu, hmk2]; simp [h1]
       subst hu2 h1
       clear hu hmk2 hmk
       go_wp2_with fail
       go_meet
       exact ⟨rfl, rfl, HT.out⟩
      ·have hu2 : u = nlB := by rw [← hu, hmk2]; simp [h1]
       subst hu2
       have h1' : (kk != 1) = true := by simpa using h1
       clear hu hmk2 hmk
       go_wp2_with fail
       go_meet
       exact ⟨rfl, rfl, HT.out⟩
     ·have him2 : i = ws.length := by omega
      have hend : endsB x = false := by
       cases he : endsB x
       ·rfl
       ·exact absurd ⟨him2, he⟩ hcont
      have ht2 : t = P.length := by rw [← ht]; unfold toI; rw [if_neg him]
      have hmk2 : mk = false := by rw [← hmk]; unfold mkI; rw [decide_eq_false him, Bool.false_and]
      have hu2 : u = ByteArray.empty := by rw [← hu, hmk2]; rfl
      subst hu2 ht2
      have d1 : ¬ (i : Int) < (ws.length : Int) := by omega
      have HEn := hideS (ends_any x)
      unfold Pc.val at HEn
      rw [hend] at HEn
      obtain ⟨y0, y1, y2, y3⟩ := (HPR.out wq HT.out.2.2.2.2.2).2 q x hxq
      clear hxq hx hq hend hu hmk2 hmk ht hcont him2
      go_wp2_with fail
      refine (HEn.out _).mono ?_
      rintro e w6 ⟨rfl, b6⟩
      have H6 := hideS (HT.out.keep b6)
      clear b6
      go_wp2_with fail
      go_meet
      exact ⟨rfl, rfl, H6.out⟩
    case rest =>
     obtain ⟨rfl, rfl, hT1⟩ := hcut
     generalize wc = w6 at *
     have HT1 := hideS hT1
     clear hT1 HT hxq hx hcont q1 q2 q3 q4 hq
     go_upto_if 81 with fail
     go_cut [14] (fun fv wx => fv = .int .i64 (fr : Nat) ∧ wx = w6)
     case first =>
      by_cases hi0 : 0 < i
      ·have him : i - 1 < ws.length := by omega
       have hf2 : ws[i - 1]? = some fr := by rw [← hfr]; unfold frI; rw [if_neg (by omega)]; exact getD_some him
       obtain ⟨gw, rfl, hgw, cw⟩ := (HV.out.2.2.2.2.2.keep HT1.out.2.2.2.2.2) (i - 1) fr hf2
       obtain ⟨p, hp⟩ : ∃ p, i - 1 = p := ⟨_, rfl⟩
       rw [hp] at cw him
       have p1 : (i : Int) - 1 = (p : Int) := by omega
       have p2 : IntKind.i64.wrap (p : Int) = (p : Int) := IntWalk.i64_in _ ⟨by omega, by omega⟩
       have p3 : (p : Int) < (ws.length : Int) := by omega
       have p4 : (0 : Int) < (i : Int) := by omega
       clear hf2 hp hfr wi
       go_wp2_with fail
       go_meet
       exact ⟨rfl, rfl⟩
      ·have hf2 : fr = 0 := by rw [← hfr]; unfold frI; rw [if_pos (by omega)]
       subst hf2
       have p4 : ¬ (0 : Int) < (i : Int) := by omega
       go_wp2_with fail
       go_meet
       exact ⟨by simp, rfl⟩
     case rest =>
      obtain ⟨rfl, hwx⟩ := hcut
      obtain rfl : wc = w6 := hwx
      have HLi := hideS (line_any P g cp fr t hpl htl hce wc (HPR.out wc HT1.out.2.2.2.2.2))
      obtain ⟨en, hen⟩ : ∃ en, lineT P fr t = en := ⟨_, rfl⟩
      have hle : en ≤ P.length := by
       rw [← hen]
       unfold lineT
       refine Nat.le_trans (stripR_le _ _ _) ?_
       split <;> omega
      rw [hen] at HLi
      have HEn0 := hideS hen
      clear hen
      generalize sumR P fr (en - fr) = su at *
      go_wp2_with fail
      refine HLi.out.mono ?_
      rintro e w7 ⟨rfl, b7⟩
      have HT2 := hideS (HT1.out.keep b7)
      clear b7 HT1 HLi
      obtain ⟨la, hla⟩ : ∃ la, (if fr < t ∧ endsB (P.getD (t - 1) pc0) = true then t - 1 else t) = la := ⟨_, rfl⟩
      have hla2 : la ≤ P.length := by rw [← hla]; split <;> omega
      have HLa := hideS hla
      clear hla
      obtain ⟨be, hbe⟩ : ∃ be, (decide (fr < t) && endsB (P.getD (t - 1) pc0)) = be := ⟨_, rfl⟩
      have HBe := hideS hbe
      clear hbe
      go_upto_region 26 with fail
      go_cut [105] (fun bv wx => bv = .bool be ∧ RtI w5 wx sj Dj oj cj)
      case first =>
       by_cases hlt : fr < t
       ·obtain ⟨p, hp⟩ : ∃ p, t - 1 = p := ⟨_, rfl⟩
        obtain ⟨y, hy⟩ : ∃ y, P.getD p pc0 = y := ⟨_, rfl⟩
        have p1 : (t : Int) - 1 = (p : Int) := by omega
        have p2 : IntKind.i64.wrap (p : Int) = (p : Int) := IntWalk.i64_in _ ⟨by omega, by omega⟩
        have p3 : (p : Int) < (P.length : Int) := by omega
        have p4 : p < P.length := by omega
        have p5 : (fr : Int) < (t : Int) := by omega
        obtain ⟨y0, y1, y2, y3⟩ := (HPR.out w7 HT2.out.2.2.2.2.2).2 p y (by rw [← hy]; exact getD_some p4)
        have HEn := hideS (ends_any y)
        unfold Pc.val at HEn
        have hb2 : endsB y = be := by rw [← HBe.out, hp, hy, decide_eq_true hlt, Bool.true_and]
        rw [hb2] at HEn
        clear hb2 hy hp
        go_wp2_with fail
        refine (HEn.out _).mono ?_
        rintro e w8 ⟨rfl, b8⟩
        have H8 := hideS (HT2.out.keep b8)
        clear b8
        go_wp2_with fail
        go_meet
        exact ⟨rfl, H8.out⟩
       ·have p5 : ¬ (fr : Int) < (t : Int) := by omega
        have hb2 : be = false := by rw [← HBe.out, decide_eq_false hlt, Bool.false_and]
        subst hb2
        go_wp2_with fail
        go_meet
        exact ⟨rfl, HT2.out⟩
      case rest =>
       obtain ⟨rfl, hT3⟩ := hcut
       generalize wc = w8 at *
       have HT3 := hideS hT3
       clear hT3 HT2
       have hb := HBe.out
       have hla3 : la = if be = true then t - 1 else t := by
        rw [← HLa.out]
        cases be with
        | true =>
         simp at hb
         rw [if_pos ⟨by omega, hb.2⟩, if_pos rfl]
        | false => rw [if_neg (fun q => by rw [decide_eq_true q.1, q.2] at hb; exact absurd hb (by decide)), if_neg (by simp)]
       have ht1 : be = true → 1 ≤ t := fun h => by
        rw [h] at hb
        simp at hb
        omega
       clear hb
       go_upto_if 105 with fail
       go_cut [18] (fun lv wx => lv = .int .i64 (la : Nat) ∧ wx = w8)
       case first =>
        cases be with
        | true =>
         have h1 := ht1 rfl
         rw [if_pos rfl] at hla3
         have p1 : IntKind.i64.wrap ((t : Int) - 1) = (la : Int) := by rw [show (t : Int) - 1 = (la : Int) by omega]; exact IntWalk.i64_in _ ⟨by omega, by omega⟩
         clear ht1 hla3
         go_wp2_with fail
         go_meet
         exact ⟨rfl, rfl⟩
        | false =>
         rw [if_neg (by simp)] at hla3
         have HL3 := hideS hla3
         clear ht1 hla3
         go_wp2_with fail
         go_meet
         exact ⟨by rw [HL3.out], rfl⟩
       case rest =>
        obtain ⟨rfl, hwx⟩ := hcut
        obtain rfl : wc = w8 := hwx
        clear ht1 hla3
        obtain ⟨wz, rfl⟩ : ∃ wz, wz = wc := ⟨_, rfl⟩
        have HPR8 := hideS (HPR.out wz HT3.out.2.2.2.2.2)
        obtain ⟨er, sr, Dr⟩ := Q
        by_cases hskip : en = la ∧ mk = false
        ·obtain ⟨h1, h2⟩ := hskip
         have hQ2 : (er, sr, Dr) = (0, sj, Dj) := by
          have := HX.out.2.2.1
          unfold rlayM at this
          rw [HLa.out, HEn0.out, if_pos ⟨h1, h2⟩] at this
          exact this.symm
         have hst : rtxL P ws i sj Dj = R := by
          have := HX.out.1
          rw [hQ2, if_pos rfl] at this
          exact this
         have hsz2 : sj.size ≤ 140737488355328 := by have := HX.out.2.1; rw [hQ2] at this; exact this
         have hu2 : u = ByteArray.empty := by rw [← HX.out.2.2.2, h2]; rfl
         have HSt := hideS (And.intro hst hsz2)
         subst hu2 h1
         clear hst hsz2 hQ2 h2
         go_wp2_with fail
         go_roundw
         case rel => exact ⟨i, sj, Dj, oj, cj, rfl, by omega, HSt.out.2, hD5, HSt.out.1, HT3.out⟩
         case measure => simp [intOf] <;> omega
        ·have hQ2 : splM sj Dj (placeR P en) (placeR P la) u [] = (er, sr, Dr) := by
          have := HX.out.2.2.1
          unfold rlayM at this
          rw [HLa.out, HEn0.out, if_neg hskip, HX.out.2.2.2] at this
          exact this
         have HSa := hideS (fun X (h : PcR X g P) => rsign_any10 P g cp en hs0 hle hpl X h)
         have HSb := hideS (fun X (h : PcR X g P) => rsign_any10 P g cp la hs0 hla2 hpl X h)
         obtain ⟨pa, hpa⟩ : ∃ pa, placeR P en = pa := ⟨_, rfl⟩
         obtain ⟨pb, hpb⟩ : ∃ pb, placeR P la = pb := ⟨_, rfl⟩
         have HSp := hideS (rsplice_any sj u Dj [] oj none cj 0 pa pb (fun _ => ⟨rfl, rfl⟩) wz HT3.out.2.2.2.1 (SpO.nil _ _))
         rw [hpa] at HSa hQ2
         rw [hpb] at HSb hQ2
         rw [hQ2, HNj.out] at HSp
         have HSt := hideS (And.intro HX.out.1 HX.out.2.1)
         have ⟨t0, t1, t2, t3⟩ := HT3.out.1.cells
         rw [HNj.out] at t1
         have hud : u = ByteArray.empty ∨ u = nlB := by
          rw [← HX.out.2.2.2]
          cases mk
          ·exact .inl rfl
          ·exact .inr rfl
         have hsk2 : en = la → u = nlB := fun h => by
          cases hm : mk
          ·exact absurd ⟨h, hm⟩ hskip
          ·rw [← HX.out.2.2.2, hm]; rfl
         clear hpa hpb hQ2 hskip HX
         go_upto_region 28 with fail
         go_cut [114] (fun bv wx => bv = .bool false ∧ wx = wz)
         case first =>
          by_cases h1 : en = la
          ·obtain rfl := hsk2 h1
           subst h1
           have h2 : (nlB.toList == ([] : List UInt8)) = false := by kernel_rfl
           have h3 : ¬ nlB.toList = [] := by intro h; rw [h] at h2; exact absurd h2 (by decide)
           clear hud hsk2 t0 t1 t2 t3
           go_wp2_with fail
           go_meet
           exact ⟨rfl, rfl⟩
          ·have h2 : ((en : Int) == (la : Int)) = false := beq_eq_false_iff_ne.2 (by omega)
           have h3 : ¬ (en : Int) = (la : Int) := by omega
           clear hud hsk2 t0 t1 t2 t3
           go_wp2_with fail
           go_meet
           exact ⟨rfl, rfl⟩
         case rest =>
          obtain ⟨rfl, hwx⟩ := hcut
          obtain rfl : wc = wz := hwx
          clear hud hsk2
          go_wp2_with fail
          refine (HSa.out _ HPR8.out).mono ?_
          rintro e w9 ⟨rfl, hwx⟩
          obtain rfl : w9 = wc := hwx
          go_wp2_with fail
          refine (HSb.out _ HPR8.out).mono ?_
          rintro e w10 ⟨rfl, hwx⟩
          obtain rfl : w10 = w9 := hwx
          go_wp2_with fail
          refine HSp.out.mono ?_
          rintro e w11 ⟨v11, rfl, own11, b11⟩
          simp only at own11 ⊢
          obtain ⟨o11, c11, rfl, r1, r2, r3⟩ := own_readB own11 rfl
          have hz := HT3.out.1.lt
          have H11 := hideS (And.intro r1 (And.intro (show o11 = none → Dr = [] ∧ c11 = 0 from fun h => ⟨List.length_eq_zero_iff.1 (own_noneW own11 h).1, (own_noneW own11 h).2⟩) (And.intro r2 (show ∀ a, o11 = some a → Dr ≠ [] → a.block ≠ w5.heap.size from fun a ha _ => by have := r3 a ha; omega))))
          have HT4 := hideS (HT3.out.1.keep b11)
          have HB4 := hideS (bupS HT3.out.2.2.2.2.2 b11)
          clear own11 r1 r2 r3 b11 t0 t1 t2 t3
          obtain ⟨Nr, hNr⟩ : ∃ n, Dr.length = n := ⟨_, rfl⟩
          rw [hNr] at H11 ⊢
          have HNr := hideS hNr
          clear hNr
          have ⟨t0, t1, t2, t3⟩ := HT4.out.cells
          have hz11 := HT4.out.lt
          have ⟨g0, g1, g2, g3⟩ := (HV.out.2.2.1.keep HB4.out).cells
          have hrb : w.heap.size + 1 < w5.heap.size := HV.out.2.2.1.lt
          go_upto_region 32 with fail
          have H12 := hideS (RtI.store (s := sr) HNr.out HT4.out (by rw [HNr.out]; exact H11.out.1) H11.out.2.1 H11.out.2.2.1 H11.out.2.2.2 HB4.out)
          obtain ⟨W12, hW12⟩ : ∃ W, (w11.setCell ⟨w5.heap.size, 0, none⟩ (.string sr)).setCell ⟨w5.heap.size, 1, none⟩ (.slice o11 Nr c11) = W := ⟨_, rfl⟩
          rw [hW12] at H12
          try rw [hW12]
          clear hW12 H11 HT4 HB4 t0 t1 t2 t3 g0 g1 g2 g3
          have HZ := hideS (HV.out.2.2.1.keep H12.out.2.2.2.2.2)
          have ⟨g0, g1, g2, g3⟩ := HZ.out.cells
          have hz12 := HZ.out.lt
          by_cases her : er = 0
          ·subst her
           clear g0 g1 g2 g3
           go_wp2_with fail
           go_roundw
           case rel => exact ⟨i, sr, Dr, o11, c11, rfl, by omega, HSt.out.2, HlnQ.out, by have := HSt.out.1; rw [if_pos rfl] at this; exact this, H12.out⟩
           case measure => simp [intOf] <;> omega
          ·have her' : (er != 0) = true := by simpa using her
           go_wp2_with fail
           have ⟨k0, k1, _⟩ := (HZ.out.set (.string ⟨#[]⟩) (.slice none 0 0)).cells
           refine bodyPost_ret (v := .tuple #[.agg #[.string ⟨#[]⟩, .slice none 0 0], .int .i64 er]) (by simp [results, Tryz.results7, go_sem, k0, k1]) rfl ?_
           have hr := HSt.out.1
           rw [if_neg her] at hr
           subst hr
           exact ⟨none, 0, rfl, ⟨Nat.le_refl _, Nat.zero_le _⟩, fun _ => ⟨rfl, rfl⟩, SpO.nil _ _, fun a h => (nomatch h), ((bupS HV.out.1 H12.out.2.2.2.2.2).setCell (by simp) _).setCell (by simp) _⟩
end Go.Proofs.YtlkgnheccoodpaaGreatDoor
