/- Steps of a region that draws its order: make, append of a slice of bytes, append of a row of one's own. -/
import Derived.Test.YtofhmecbcmahaaaDoorRFdW
import Derived.OwnWalk
import Derived.Deep.RegionHeld3
namespace Go.Proofs.YtofhmecbcmahaaaDoor
open Go.RowKit

theorem step_make {P : Program} (w : World) {ops : Array Oper} {o : Oper} {a : Act} {K : Act → World → Prop} {Q : Exit → Act → World → Prop} {E : Prop} (hg : o.guard = none) (l c : Operand) (t : TypeId) (hop : o.op = Op.makeSlice t l c)
    (base : Nat) (e : TypeId) (i : TypeInfo) (z : Value) (size : Nat) (h1 : P.underlying t = some (.slice e)) (h2 : P.info? e = some i) (h3 : i.zero = some z) (h4 : i.size = size)
    (kl kc : IntKind) (C : Int) (n : Nat) (hl : a.eval l = .int kl 0) (hc : a.eval c = .int kc C) (hC : C = (n : Int)) (b2 : i.bytes * n ≤ 281474976710656) (b3 : n ≤ maxLen) (b4 : base ≤ w.heap.size)
    (hK : ∀ w', w'.ownsRow base e size (.slice (some ⟨w.heap.size, 0, none⟩) 0 n) 0 [] → w.grownBy w' none → K (a.put o.dst (.slice (some ⟨w.heap.size, 0, none⟩) 0 n)) w') :
    if Region.wanted o (yielded ops a.tmps) = true then Oper.wp P o a w K Q else E := by
  have hw : Region.wanted o (yielded ops a.tmps) = true := by simp [Region.wanted, hg]
  rw [if_pos hw]
  obtain ⟨w', hrun, r1, r2⟩ := run_make_own (P := P) w base t e i z size h1 h2 h3 h4 kl kc n b2 b3 b4
  subst hC
  unfold Oper.wp
  simp [execOp, hop, hl, hc, hrun, Result.andThen]
  exact hK w' r1 r2

theorem step_bytes {P : Program} (w : World) {ops : Array Oper} {o : Oper} {a : Act} {K : Act → World → Prop} {Q : Exit → Act → World → Prop} {E : Prop} (hg : o.guard = none) (s x : Operand) (t : TypeId)
    (ho : o.op = .call { callee := .builtin .append, args := #[s, x], argTypes := #[t, t] })
    (base : Nat) (e : TypeId) (i : TypeInfo) (z : Value) (bytes : Nat) (ht : P.underlying t = some (.slice e)) (hi : P.info? e = some i) (hz : i.zero = some z)
    (hsize : i.size = 1) (hby : i.bytes = bytes) (hzs : z.cells.size = 1)
    (v : Value) (n : Nat) (xs : List Value) (hs : a.eval s = v) (hown : w.ownsRow base e 1 v n xs)
    (vx : Value) (b : ByteArray) (hx : a.eval x = vx) (hb : SliceB w vx b)
    (h63 : n + b.size ≤ maxLen) (hbytes : (n + b.size) * bytes ≤ 140737488355328) (hbase : base ≤ w.heap.size)
    (h : ∀ v' w', w'.ownsRow base e 1 v' (n + b.size) (xs ++ byteV b) → w.grownBy w' v.ownBlock → K (a.put o.dst v') w') :
    if Region.wanted o (yielded ops a.tmps) = true then Oper.wp P o a w K Q else E := by
  have hw : Region.wanted o (yielded ops a.tmps) = true := by simp [Region.wanted, hg]
  rw [if_pos hw]
  rcases hb with ⟨rfl, h0⟩ | ⟨ax, cap, rfl, hbf⟩
  · have hbv : byteV b = [] := List.length_eq_zero_iff.1 (by rw [byteV_len]; exact h0)
    have h1 := h v w (by rw [h0, hbv, List.append_nil]; exact hown) (World.grownBy.refl w _)
    have hrun := run_append_owned_none (P := P) (w := w) base t o.type e i 1 ht hi v n xs hown
    unfold Oper.wp
    simp [execOp, ho, resolve, invoke, builtin, hs, hx, hrun, Result.andThen]
    exact h1
  · refine wp_append_own w s x t ho base e i z 1 bytes ht hi hz hsize hby hzs (by decide) v n xs hs hown ax b.size cap (byteV b) hx (by rw [byteV_len]; omega) (fun j u hu => ?_) (fun u hu => ?_) h63 hbytes hbase (fun v' w' h1 h2 _ => h v' w' h1 h2)
    · obtain ⟨hj, rfl⟩ := byteV_at hu
      exact (hbf j hj).2
    · unfold byteV at hu
      obtain ⟨c, _, rfl⟩ := List.mem_map.1 hu
      rfl

theorem step_own {P : Program} (w : World) {ops : Array Oper} {o : Oper} {a : Act} {K : Act → World → Prop} {Q : Exit → Act → World → Prop} {E : Prop} (hg : o.guard = none) (s x : Operand) (t : TypeId)
    (ho : o.op = .call { callee := .builtin .append, args := #[s, x], argTypes := #[t, t] })
    (base : Nat) (e : TypeId) (i : TypeInfo) (z : Value) (size bytes : Nat) (ht : P.underlying t = some (.slice e)) (hi : P.info? e = some i) (hz : i.zero = some z)
    (hsize : i.size = size) (hby : i.bytes = bytes) (hzs : z.cells.size = size) (hsz : 0 < size)
    (v : Value) (n : Nat) (xs : List Value) (hs : a.eval s = v) (hown : w.ownsRow base e size v n xs)
    (ad : Addr) (m c : Nat) (news : List Value) (hx : a.eval x = .slice (some ad) m c) (hl : news.length = m * size) (hnews : ∀ j u, news[j]? = some u → w.cell? (ad.add j) = some u) (h1 : ∀ u ∈ news, u.oneCell' = true)
    (h63 : n + m ≤ maxLen) (hbytes : (n + m) * bytes ≤ 140737488355328) (hbase : base ≤ w.heap.size)
    (h : ∀ v' w', w'.ownsRow base e size v' (n + m) (xs ++ news) → w.grownBy w' v.ownBlock → K (a.put o.dst v') w') :
    if Region.wanted o (yielded ops a.tmps) = true then Oper.wp P o a w K Q else E := by
  have hw : Region.wanted o (yielded ops a.tmps) = true := by simp [Region.wanted, hg]
  rw [if_pos hw]
  exact wp_append_own w s x t ho base e i z size bytes ht hi hz hsize hby hzs hsz v n xs hs hown ad m c news hx hl hnews h1 h63 hbytes hbase fun v' w' h2 h3 _ => h v' w' h2 h3

theorem grow_low {A B C : World} {m e sz n : Nat} {v : Value} {xs : List Value} (hb : Below m A B) (own : B.ownsRow m e sz v n xs) (g : B.grownBy C v.ownBlock) (hm : m ≤ A.heap.size) : Below m A C :=
  Below.grown hb g (Nat.le_trans hm hb.size) (fun k hk => (own.lt k hk).1)
/-- make of bytes, whatever the world. -/
theorem make_bytes (n : Nat) (hn : n ≤ 140737488355328) : ∃ mk : World → World, ∀ W : World, (Instr.makeSlice 55 (.int .i64 0) (.int .i64 (n : Int))).run Tryd.prog W = .ok (.slice (some ⟨W.heap.size, 0, none⟩) 0 n) (mk W) ∧
    (mk W).ownsRow W.heap.size 5 1 (.slice (some ⟨W.heap.size, 0, none⟩) 0 n) 0 [] ∧ W.grownBy (mk W) none := by
  obtain ⟨i0, hi, hz0, hz1, hz2⟩ := info_parts2 infoU8
  obtain ⟨mk, h⟩ := Classical.axiomOfChoice (fun W : World => run_make_own (P := Tryd.prog) W W.heap.size 55 5 i0 (.int .u8 0) 1 Tryd.underlying55 hi hz0 hz1 .i64 .i64 n (by rw [hz2]; omega) (by unfold maxLen; omega) (Nat.le_refl _))
  exact ⟨mk, h⟩

theorem own_form {W : World} {m e sz n : Nat} {v : Value} {xs : List Value} (h : W.ownsRow m e sz v n xs) (hn : 0 < n) : ∃ gg cap, v = .slice (some ⟨gg, 0, none⟩) n cap := by
  rcases h.2 with ⟨rfl, rfl⟩ | ⟨g, cap, cur, rfl, _⟩
  · omega
  · exact ⟨_, _, rfl⟩

theorem slice_len {W : World} {v : Value} {b : ByteArray} (h : SliceB W v b) : ∃ o c, v = .slice o b.size c := by
  rcases h with ⟨rfl, h0⟩ | ⟨a, cap, rfl, _⟩
  · exact ⟨none, 0, by rw [h0]⟩
  · exact ⟨_, _, rfl⟩
theorem RNew.mono {m m' : Nat} {W : World} {R : Nat} {h : ByteArray} (k : RNew m W R h) (hm : m' ≤ m) : RNew m' W R h := by
  obtain ⟨v, h1, h2, h3⟩ := k
  exact ⟨v, h1, h2, fun a n c k e hk => Nat.le_trans hm (h3 a n c k e hk)⟩
/-- The same bytes where only the two blocks B, R are other. -/
theorem SliceB.two {W W' : World} {v : Value} {b : ByteArray} {B R : Nat} (h : SliceB W v b) (hb : But (fun k => k = B ∨ k = R) W W') (hne : ∀ a n c k, v = .slice (some a) n c → k < n → (a.add k).block ≠ B ∧ (a.add k).block ≠ R) : SliceB W' v b :=
  h.but hb (fun a n c k e hk hm => by obtain ⟨h1, h2⟩ := hne a n c k e hk; rcases hm with e | e; exact h1 e; exact h2 e)

theorem SliceB.low {W W' : World} {v : Value} {b : ByteArray} {m : Nat} (h : SliceB W v b) (hz : W.heap.size ≤ W'.heap.size) (hm : ∀ a n c k, v = .slice (some a) n c → k < n → m ≤ (a.add k).block) (hb : ∀ k, m ≤ k → k < W.heap.size → W'.heap[k]? = W.heap[k]?) : SliceB W' v b := by
  rcases h with h | ⟨a, cap, rfl, h2⟩
  · exact .inl h
  · exact .inr ⟨a, cap, rfl, fun k hk => ⟨Nat.lt_of_lt_of_le (h2 k hk).1 hz, (World.cell?_of_block (hb _ (hm a _ cap k rfl hk) (h2 k hk).1)).trans (h2 k hk).2⟩⟩
theorem RNew.kept {m R : Nat} {W W' : World} {h : ByteArray} (k : RNew m W R h) (hz : W.heap.size ≤ W'.heap.size) (hb : ∀ k, k = R ∨ m ≤ k → k < W.heap.size → W'.heap[k]? = W.heap[k]?) : RNew m W' R h := by
  obtain ⟨v, h1, h2, h3⟩ := k
  exact ⟨v, (hb R (.inl rfl) (Array.getElem?_eq_some_iff.1 h1).1).trans h1, h2.low hz h3 (fun k e hk => hb k (.inr e) hk), h3⟩
theorem RNew.holds {m R : Nat} {W : World} {h : ByteArray} (k : RNew m W R h) : RHolds W R h := by
  obtain ⟨v, h1, h2, _⟩ := k
  exact ⟨v, h1, h2⟩
theorem RNew.empty {m R : Nat} {W : World} {h : ByteArray} (k : RHolds W R h) (h0 : h.size = 0) : RNew m W R h := by
  obtain ⟨v, h1, h2⟩ := k
  refine ⟨v, h1, h2, fun a n c k e hk => ?_⟩
  rcases h2 with ⟨rfl, _⟩ | ⟨a', cap, rfl, _⟩
  · cases e
  · simp only [Value.slice.injEq] at e
    omega

end Go.Proofs.YtofhmecbcmahaaaDoor
