import Derived.Test.YtmpbbmfbgcpplaaGreatDoorQChainG
import Derived.Test.YtmpbbmfbgcpplaaGreatDoorQToldS
import Derived.Test.YtmpbbmfbgcpplaaGreatDoorQStG
import Derived.Deep.DeepCutAuto
import Derived.Deep.CutBlock
import Derived.Test.YtmpbbmfbgcpplaaGreatDoorQSizeG
import Derived.Test.YtmpbbmfbgcpplaaGreatDoorQStW
set_option maxHeartbeats 4000000
set_option maxRecDepth 100000
namespace Go.Proofs.YtmpbbmfbgcpplaaGreatDoor
open Go Go.RowKit Lx
def Kept (H0 : World) (b0 : Option Nat) (W : World) : Prop := H0.heap.size ≤ W.heap.size ∧ ∀ j, j < H0.heap.size → some j ≠ b0 → W.heap[j]? = H0.heap[j]?
theorem Kept.refl (H0 : World) (b0 : Option Nat) : Kept H0 b0 H0 := ⟨Nat.le_refl _, fun _ _ _ => rfl⟩
theorem Kept.below {H0 W W' : World} {b0 : Option Nat} (h : Kept H0 b0 W) (hb : Below W.heap.size W W') : Kept H0 b0 W' :=
 ⟨Nat.le_trans h.1 hb.size, fun j hj hne => (hb.block j (Nat.lt_of_lt_of_le hj h.1)).trans (h.2 j hj hne)⟩
theorem Kept.cell {H0 W : World} {b0 : Option Nat} (h : Kept H0 b0 W) {j o : Nat} (hj : j < H0.heap.size) (hne : some j ≠ b0) : W.cell? ⟨j, o, none⟩ = H0.cell? ⟨j, o, none⟩ := World.cell?_of_block (h.2 j hj hne)
def Else (H0 : World) (b0 : Option Nat) (v : Value) : Prop := ∀ g, v.ownBlock = some g → g < H0.heap.size ∧ some g ≠ b0
theorem Kept.row {H0 W : World} {b0 : Option Nat} (h : Kept H0 b0 W) {v : Value} {L : List Bs} (hv : SRow H0 v L) (he : Else H0 b0 v) : SRow W v L := by
 obtain ⟨p, c, rfl, hp⟩ := hv
 refine ⟨p, c, rfl, fun j t ht => ?_⟩
 obtain ⟨g, o, rfl, a⟩ := hp j t ht
 obtain ⟨h1, h2⟩ := he g rfl
 exact ⟨g, o, rfl, (h.cell h1 h2).trans a⟩
def XCo (H0 : World) (b0 : Option Nat) (base s0 z : Nat) (pre : Option Value) (L0 : List Bs) (l : List Link) (f : Nat → Option Value) (W : World) : Prop :=
 XCh base s0 z pre L0 l f W ∧ Kept H0 b0 W ∧ ∀ h, zao f s0 pre l = some h → h.ownBlock = b0 ∨ ∀ g, h.ownBlock = some g → H0.heap.size ≤ g
theorem XCo.other {H0 : World} {b0 : Option Nat} {base s0 z i : Nat} {pre : Option Value} {L0 : List Bs} {l : List Link} {f : Nat → Option Value} {W W' : World} {v : Value} (hz : i = z → zao f s0 pre l = some v) (h0 : s0 ≠ i) (hi : ∀ k ∈ l, k.1 ≠ i ∧ k.2.1 ≠ i) (h : XCo H0 b0 base s0 z pre L0 l f W) (hb : Below W.heap.size W W') : XCo H0 b0 base s0 z pre L0 l (zbx f i v) W' := by
 refine ⟨XCh.other hz h0 hi h.1 hb, h.2.1.below hb, fun x hx => ?_⟩
 rw [zfs v h0 fun k hk => (hi k hk).1] at hx
 exact h.2.2 x hx
theorem XCo.source {H0 : World} {b0 : Option Nat} {base s0 z i : Nat} {pre : Option Value} {L0 M : List Bs} {l : List Link} {f : Nat → Option Value} {W W' : World} {v : Value} (hz : z ≠ i) (h0 : s0 ≠ i) (hi : ∀ k ∈ l, k.1 ≠ i ∧ (k.2.1 = i → k.2.2 = M)) (h : XCo H0 b0 base s0 z pre L0 l f W) (hb : Below W.heap.size W W') (hv : SRow W' v M) (hg1 : ∀ g, v.ownBlock = some g → W.heap.size ≤ g ∧ g < W'.heap.size) : XCo H0 b0 base s0 z pre L0 l (zbx f i v) W' := by
 refine ⟨XCh.source hz h0 hi h.1 hb hv hg1, h.2.1.below hb, fun x hx => ?_⟩
 rw [zfs v h0 fun k hk => (hi k hk).1] at hx
 exact h.2.2 x hx
theorem XCo.old {H0 : World} {b0 : Option Nat} {vx : Value} {LX : List Bs} {base s0 z i : Nat} {pre : Option Value} {L0 : List Bs} {l : List Link} {f : Nat → Option Value} {W : World} (hz : z ≠ i) (h0 : s0 ≠ i) (hi : ∀ k ∈ l, k.1 ≠ i ∧ (k.2.1 = i → k.2.2 = LX)) (hx0 : SRow H0 vx LX) (he : Else H0 b0 vx) (h : XCo H0 b0 base s0 z pre L0 l f W) : XCo H0 b0 base s0 z pre L0 l (zbx f i vx) W := by
 obtain ⟨hX, hK, hh⟩ := h
 have e0 := zfs (f := f) (pre := pre) (l := l) vx h0 fun k hk => (hi k hk).1
 have hr := hK.row hx0 he
 have hg : ∀ g, vx.ownBlock = some g → g < W.heap.size := fun g hg => Nat.lt_of_lt_of_le (he g hg).1 hK.1
 refine ⟨⟨fun x hx => ?_, fun k hk e u hu => ?_, fun x hx => ?_⟩, hK, fun x hx => hh x (by rw [← e0]; exact hx)⟩
 ·rw [e0]
  rw [za9 f vx hz] at hx
  exact hX.1 x hx
 ·rw [za9 f vx (hi k hk).1] at e
  by_cases hs : k.2.1 = i
  ·rw [hs, zat] at hu
   obtain rfl := Option.some.inj hu
   rw [(hi k hk).2 hs]
   exact ⟨hr, hg⟩
  ·rw [za9 f vx hs] at hu
   exact hX.2.1 k hk e u hu
 ·rw [e0] at hx
  rw [zgl vx _ _ fun k hk => (hi k hk).1]
  obtain ⟨q1, q2⟩ := hX.2.2 x hx
  refine ⟨q1, fun k hk e u hu g hg2 => ?_⟩
  rw [za9 f vx (hi k hk).1] at e
  by_cases hs : k.2.1 = i
  ·rw [hs, zat] at hu
   obtain rfl := Option.some.inj hu
   obtain ⟨t1, t2⟩ := he g hg2
   intro e'
   rcases hh x hx with y | y
   ·exact t2 (e'.symm.trans y)
   ·have := y g e'
    omega
  ·rw [za9 f vx hs] at hu
   exact q2 k hk e u hu g hg2
theorem XCo.start {H0 : World} {b0 : Option Nat} {base s0 z : Nat} {pre : Option Value} {L0 : List Bs} {l : List Link} {f : Nat → Option Value} {W : World} {v : Value} (hp : pre = some v) (hn : f s0 = none) (hz : z ≠ s0) (hzn : f z = none) (hl : ∀ k ∈ l, f k.1 = none) (hi : ∀ k ∈ l, k.1 ≠ s0 ∧ k.2.1 ≠ s0) (h : XCo H0 b0 base s0 z pre L0 l f W) : XCo H0 b0 base s0 z pre L0 l (zbx f s0 v) W := by
 refine ⟨XCh.start hp hn hz hzn hl hi h.1, h.2.1, fun x hx => ?_⟩
 have hx2 : x = v := by
  unfold zao at hx
  rw [zat] at hx
  simp only at hx
  rw [zi7 v _ _ fun k hk => (hi k hk).1] at hx
  cases l with
  | nil => exact (Option.some.inj hx).symm
  | cons k r =>
   unfold zav at hx
   rw [hl k (by simp)] at hx
   exact (Option.some.inj hx).symm
 subst hx2
 exact h.2.2 x (by unfold zao; rw [hn]; exact hp)
theorem XCo.app {H0 : World} {b0 : Option Nat} {base s0 z c s : Nat} {pre : Option Value} {L0 M : List Bs} {l : List Link} {f : Nat → Option Value} {W : World} {h u : Value} (hz : z ≠ c) (hzn : f z = none) (hX : XCo H0 b0 base s0 z pre L0 l f W) (hk : (c, s, M) ∈ l) (hh : zao f s0 pre l = some h) (hc : f c = none) (hu : f s = some u) (hm : 0 < M.length) (hbs : base ≤ W.heap.size) (hn : (zah f L0 l).length + M.length ≤ 1000000)
  (hne : ∀ k ∈ l, k.2.1 ≠ c) (nx : ∀ v, zao (zbx f c v) s0 pre l = some v ∧ zah (zbx f c v) L0 l = zah f L0 l ++ M) :
  ∃ (v : Value) (W' : World), (Builtin.append_ #[25, 25] 25 #[h, u]).run Tryz.prog W = .ok v W' ∧ XCo H0 b0 base s0 z pre L0 l (zbx f c v) W' ∧ Below base W W' := by
 obtain ⟨v, W', E, hX', hb⟩ := XCh.app hz hzn hX.1 hk hh hc hu hm hbs hn hne nx
 refine ⟨v, W', E, ⟨hX', ?_, ?_⟩, hb⟩
 all_goals
  obtain ⟨q1, _⟩ := hX.1.2.2 h hh
  obtain ⟨r1, _⟩ := hX.1.2.1 _ hk hc u hu
  have r1' := r1
  obtain ⟨p, cp, rfl, hp⟩ := r1
  obtain ⟨g0, o0, rfl, _⟩ := hp 0 M[0] (by simp)
  obtain ⟨g, cap, W4, E', hL⟩ := Left.appends q1 hbs hn hm r1'
  rw [E] at E'
  obtain ⟨rfl, rfl⟩ : v = .slice (some ⟨g, 0, none⟩) ((zah f L0 l).length + M.length) cap ∧ W' = W4 := by
   injection E' with e1 e2
   exact ⟨e1, e2⟩
 ·refine ⟨Nat.le_trans hX.2.1.1 hb.size, fun j hj hj2 => ?_⟩
  refine (hL.2.2.1 j (Nat.lt_of_lt_of_le hj hX.2.1.1) fun e' => ?_).trans (hX.2.1.2 j hj hj2)
  rcases hX.2.2 h hh with y | y
  ·exact hj2 (e'.trans y)
  ·have := y j e'.symm
   omega
 ·intro x hx
  rw [(nx _).1] at hx
  obtain rfl := Option.some.inj hx
  rcases hL.2.2.2 with y | y
  ·rw [y]; exact hX.2.2 h hh
  ·exact .inr fun j hj => Nat.le_trans hX.2.1.1 (y j hj)
section
variable {H0 : World} {b0 : Option Nat} {P : Program} {ops : Array Oper} {Q : Exit → Act → World → Prop} {a0 : Act} {n base s0 z : Nat} {B : World → Prop} {vs : List (Option Value)} {pre : Option Value} {L0 : List Bs} {l : List Link} {i : Nat} {o : Oper}
theorem OGoal.plain (hB : ∀ W W', B W → Below W.heap.size W W' → B W') (hz : z ≠ i) (h0 : s0 ≠ i) (hi : ∀ k ∈ l, k.1 ≠ i ∧ k.2.1 ≠ i)
  (h : ∀ (a : Act) (w : World) (f : Nat → Option Value), a.tmps.size = n → (∀ t, noB ops t = true → a.tmps.getD t undef = a0.tmps.getD t undef) → (∀ t j, (ops[j]?).bind (·.dst) = some t → f j = none → a.tmps.getD t undef = a0.tmps.getD t undef) → (B w ∧ Kept H0 b0 w) → f i = none → (∀ i j, Region.waitsFor .any ops i j = true → f i ≠ none → f j ≠ none) →
   (∀ j d x, (ops[j]?).bind (·.dst) = some d → Region.waitsFor .any ops i j = true → vs.getD j none = some x → a.tmps.getD d undef = x) →
   Region.wanted o (yielded ops a.tmps) = true ∧ o.wp P a w (fun a' w' => ∃ v, a' = a.put o.dst v ∧ Below w.heap.size w w' ∧ vs.getD i none = some v) Q) :
  YGoal P ops Q a0 n B (VP vs) (XCo H0 b0 base s0 z pre L0 l) i o := fun a w f h1 h2 h3 hlt h4 h5 h6 hno down h8 => by
 obtain ⟨k1, k2⟩ := h a w f h1 h3 hlt ⟨h4, h6.2.1⟩ hno down fun j d x hj hw hx => VP.at (W := w) (h5 j _ (h8 j d hj hw)) hx
 refine ⟨k1, Oper.wp_mono ?_ k2⟩
 rintro a' w' ⟨v, rfl, hb, hv⟩
 exact ⟨v, rfl, hB _ _ h4 hb, VP.is v _ hv, fun j u hj => h5 j u hj, XCo.other (fun e => absurd e.symm hz) h0 hi h6 hb⟩
theorem OGoal.src {M : List Bs} (hB : ∀ W W', B W → Below W.heap.size W W' → B W') (hz : z ≠ i) (h0 : s0 ≠ i) (hi : ∀ k ∈ l, k.1 ≠ i ∧ (k.2.1 = i → k.2.2 = M)) (hv0 : vs.getD i none = none)
  (h : ∀ (a : Act) (w : World), a.tmps.size = n → (∀ t, noB ops t = true → a.tmps.getD t undef = a0.tmps.getD t undef) → (B w ∧ Kept H0 b0 w) →
   (∀ j d x, (ops[j]?).bind (·.dst) = some d → Region.waitsFor .any ops i j = true → vs.getD j none = some x → a.tmps.getD d undef = x) →
   Region.wanted o (yielded ops a.tmps) = true ∧ o.wp P a w (fun a' w' => ∃ v, a' = a.put o.dst v ∧ Below w.heap.size w w' ∧ SRow w' v M ∧ ∀ g, v.ownBlock = some g → w.heap.size ≤ g ∧ g < w'.heap.size) Q) :
  YGoal P ops Q a0 n B (VP vs) (XCo H0 b0 base s0 z pre L0 l) i o := fun a w f h1 h2 h3 hlt h4 h5 h6 hno down h8 => by
 obtain ⟨k1, k2⟩ := h a w h1 h3 ⟨h4, h6.2.1⟩ fun j d x hj hw hx => VP.at (W := w) (h5 j _ (h8 j d hj hw)) hx
 refine ⟨k1, Oper.wp_mono ?_ k2⟩
 rintro a' w' ⟨v, rfl, hb, hv, hg⟩
 exact ⟨v, rfl, hB _ _ h4 hb, VP.free v _ hv0, fun j u hj => h5 j u hj, XCo.source hz h0 hi h6 hb hv hg⟩
theorem OGoal.old {vx : Value} {LX : List Bs} {x : Operand} (hz : z ≠ i) (h0 : s0 ≠ i) (hi : ∀ k ∈ l, k.1 ≠ i ∧ (k.2.1 = i → k.2.2 = LX)) (hv0 : vs.getD i none = none) (hg : o.guard = none) (hop : o.op = .move x) (hr : SRow H0 vx LX) (he : Else H0 b0 vx)
  (hx : ∀ (a : Act), (∀ t, noB ops t = true → a.tmps.getD t undef = a0.tmps.getD t undef) → a.eval x = vx) :
  YGoal Tryz.prog ops Q a0 n B (VP vs) (XCo H0 b0 base s0 z pre L0 l) i o := fun a _ _ _ _ h3 _ h4 h5 h6 _ _ _ =>
 ⟨za1 hg, zbl hop (hx a h3) ⟨vx, rfl, h4, VP.free vx _ hv0, h5, XCo.old hz h0 hi hr he h6⟩⟩
theorem OGoal.start {v : Value} {x : Operand} (hp : pre = some v) (hz : z ≠ i) (hi : ∀ k ∈ l, k.1 ≠ i ∧ k.2.1 ≠ i) (hv0 : vs.getD i none = none) (hg : o.guard = none) (hop : o.op = .move x)
  (ch : ∀ f : Nat → Option Value, (∀ i j, Region.waitsFor .any ops i j = true → f i ≠ none → f j ≠ none) → f i = none → f z = none ∧ ∀ k ∈ l, f k.1 = none)
  (hx : ∀ (a : Act) (f : Nat → Option Value), (∀ t, noB ops t = true → a.tmps.getD t undef = a0.tmps.getD t undef) → (∀ t j, (ops[j]?).bind (·.dst) = some t → f j = none → a.tmps.getD t undef = a0.tmps.getD t undef) → f z = none → a.eval x = v) :
  YGoal Tryz.prog ops Q a0 n B (VP vs) (XCo H0 b0 base i z pre L0 l) i o := fun a w f h1 h2 h3 hlt h4 h5 h6 hno down h8 => by
 obtain ⟨c1, c2⟩ := ch f down hno
 exact ⟨za1 hg, zbl hop (hx a f h3 hlt c1) ⟨v, rfl, h4, VP.free v _ hv0, h5, XCo.start hp hno hz c1 c2 hi h6⟩⟩
theorem OGoal.app {M Lq : List Bs} {q s dq ds : Nat} (hB2 : ∀ W W', B W → Below base W W' → B W') (hbs : ∀ W, B W → base ≤ W.heap.size) (hz : z ≠ i) (hv0 : vs.getD i none = none) (hg : o.guard = none)
  (hop : o.op = .call { callee := .builtin .append, args := #[.tmp dq, .tmp ds], argTypes := #[25, 25] }) (hty : o.type = 25)
  (hk : (i, s, M) ∈ l) (hm : 0 < M.length) (hn : Lq.length + M.length ≤ 1000000) (hne : ∀ k ∈ l, k.2.1 ≠ i) (hq : (ops[q]?).bind (·.dst) = some dq) (hqw : Region.waitsFor .any ops i q = true) (hs : (ops[s]?).bind (·.dst) = some ds) (hsw : Region.waitsFor .any ops i s = true)
  (nx : ∀ (f : Nat → Option Value) (v : Value), (∀ i j, Region.waitsFor .any ops i j = true → f i ≠ none → f j ≠ none) → f i = none → f q = some v → f z = none ∧ zao f s0 pre l = some v ∧ zah f L0 l = Lq ∧ ∀ x, zao (zbx f i x) s0 pre l = some x ∧ zah (zbx f i x) L0 l = Lq ++ M) :
  YGoal Tryz.prog ops Q a0 n B (VP vs) (XCo H0 b0 base s0 z pre L0 l) i o := fun a w f h1 h2 h3 hlt h4 h5 h6 hno down h8 => by
 have eq := h8 q dq hq hqw
 have es := h8 s ds hs hsw
 obtain ⟨n0, n1, n2, n3⟩ := nx f _ down hno eq
 obtain ⟨v, W', E, hX, hb⟩ := XCo.app hz n0 h6 hk n1 hno es hm (hbs _ h4) (by rw [n2]; exact hn) hne fun x => ⟨(n3 x).1, by rw [(n3 x).2, n2]⟩
 refine ⟨za1 hg, zi6 hop rfl rfl (by rw [hty]; exact E) ⟨v, rfl, hB2 _ _ h4 hb, VP.free v _ hv0, h5, hX⟩⟩
theorem OGoal.last {q dq : Nat} (h0 : s0 ≠ i) (hi : ∀ k ∈ l, k.1 ≠ i ∧ k.2.1 ≠ i) (hv0 : vs.getD i none = none) (hg : o.guard = none) (hop : o.op = .assign (.tmp dq)) (hq : (ops[q]?).bind (·.dst) = some dq) (hqw : Region.waitsFor .any ops i q = true)
  (nx : ∀ (f : Nat → Option Value) (v : Value), (∀ i j, Region.waitsFor .any ops i j = true → f i ≠ none → f j ≠ none) → f q = some v → zao f s0 pre l = some v) :
  YGoal Tryz.prog ops Q a0 n B (VP vs) (XCo H0 b0 base s0 i pre L0 l) i o := fun _ _ f _ _ _ _ h4 h5 h6 _ down h8 =>
 ⟨za1 hg, zk0 hop rfl ⟨_, rfl, h4, VP.free _ _ hv0, h5, XCo.other (fun _ => nx f _ down (h8 q dq hq hqw)) h0 hi h6 (Below.refl _ _)⟩⟩
end
def blkS (b : List Bs) : List Bs := [123] :: (b ++ [[125]])
def stL (K : Int) (S : Bs) (ty x b e : List Bs) (ne : Nat) : List Bs :=
 if K = 4 then [[105, 102]] ++ x ++ blkS b ++ (if 0 < ne then [[101, 108, 115, 101]] ++ blkS e else [])
 else if K = 5 then [[119, 104, 105, 108, 101]] ++ x ++ blkS b
 else (if K = 1 then [[108, 101, 116], S] ++ ty ++ [[61]] else if K = 2 then [S, [61]] else if K = 3 then [[112, 114, 105, 110, 116]] else if K = 6 then [[114, 101, 116, 117, 114, 110]] else []) ++ x ++ [[59]]
theorem stT_map (K : Int) (S : Bs) (ty x b e : List Tok) (ne : Nat) : (stT K S ty x b e ne).map za5 = stL K S (ty.map za5) (x.map za5) (b.map za5) (e.map za5) ne := by
 unfold stT stL blkS
 by_cases k4 : K = 4
 ·rw [if_pos k4, if_pos k4]
  by_cases h : 0 < ne
  ·rw [if_pos h, if_pos h]; simp [zcb, zb7]
  ·rw [if_neg h, if_neg h]; simp [zcb, zb7]
 ·rw [if_neg k4, if_neg k4]
  by_cases k5 : K = 5
  ·rw [if_pos k5, if_pos k5]; simp [zcb, zb7]
  ·rw [if_neg k5, if_neg k5]
   by_cases k1 : K = 1
   ·rw [if_pos k1, if_pos k1]; simp [zcb, zb7, zfr]
   ·rw [if_neg k1, if_neg k1]
    by_cases k2 : K = 2
    ·rw [if_pos k2, if_pos k2]; simp [zb7, zfr]
    ·rw [if_neg k2, if_neg k2]
     by_cases k3 : K = 3
     ·rw [if_pos k3, if_pos k3]; simp [zcb, zb7]
     ·rw [if_neg k3, if_neg k3]
      by_cases k6 : K = 6
      ·rw [if_pos k6, if_pos k6]; simp [zcb, zb7]
      ·rw [if_neg k6, if_neg k6]; simp [zb7]
def stS (D d m : Nat) (ss : List (St D d m)) : List Bs := (zf3 D d m ss).map za5
def Run (H0 : World) (b0 : Option Nat) (base : Nat) (W : World) (v : Value) (A : List Bs) : Prop :=
 W.ownsRow base 9 1 v A.length (zcg A) ∧ base ≤ W.heap.size ∧ Kept H0 b0 W ∧ (v.ownBlock = b0 ∨ ∀ g, v.ownBlock = some g → H0.heap.size ≤ g)
theorem Run.init {H0 : World} {base : Nat} {v : Value} {A : List Bs} (h : H0.ownsRow base 9 1 v A.length (zcg A)) (hb : base ≤ H0.heap.size) : Run H0 v.ownBlock base H0 v A := ⟨h, hb, Kept.refl _ _, .inl rfl⟩
theorem Run.below {H0 W W' : World} {b0 : Option Nat} {base : Nat} {v : Value} {A : List Bs} (h : Run H0 b0 base W v A) (hb : Below W.heap.size W W') : Run H0 b0 base W' v A :=
 ⟨h.1.kept (zaa hb) (zbw _), Nat.le_trans h.2.1 hb.size, h.2.2.1.below hb, h.2.2.2⟩
theorem Run.app {H0 W : World} {b0 : Option Nat} {base : Nat} {v : Value} {A M : List Bs} {g0 o0 c0 : Nat} (h : Run H0 b0 base W v A) (hs : SRow W (.slice (some ⟨g0, o0, none⟩) M.length c0) M) (hm : 0 < M.length) (hn : A.length + M.length ≤ 1000000) :
  ∃ (g n cap : Nat) (W4 : World), (Builtin.append_ #[25, 25] 25 #[v, .slice (some ⟨g0, o0, none⟩) M.length c0]).run Tryz.prog W = .ok (.slice (some ⟨g, 0, none⟩) n cap) W4 ∧ Run H0 b0 base W4 (.slice (some ⟨g, 0, none⟩) n cap) (A ++ M) ∧ Below base W W4 := by
 obtain ⟨h1, h2, h3, h4⟩ := h
 obtain ⟨g, cap, W4, E, hL⟩ := Left.appends h1 h2 hn hm hs
 have hb := hL.2.1
 refine ⟨g, _, cap, W4, E, ⟨by simpa using hL.1, Nat.le_trans h2 hb.size, ⟨Nat.le_trans h3.1 hb.size, fun j hj hj2 => ?_⟩, ?_⟩, hb⟩
 ·refine (hL.2.2.1 j (Nat.lt_of_lt_of_le hj h3.1) fun e' => ?_).trans (h3.2 j hj hj2)
  rcases h4 with y | y
  ·exact hj2 (e'.trans y)
  ·have := y j e'.symm
   omega
 ·rcases hL.2.2.2 with y | y
  ·rw [y]; exact h4
  ·exact .inr fun j hj => Nat.le_trans h3.1 (y j hj)
theorem Run.one {H0 W : World} {b0 : Option Nat} {base : Nat} {v : Value} {A : List Bs} (h : Run H0 b0 base W v A) (s : Bs) (hn : A.length + 1 ≤ 1000000) :
  ∃ (g n cap : Nat) (W4 : World), (Builtin.append_ #[25, 25] 25 #[v, .slice (some ⟨W.heap.size, 0, none⟩) 1 1]).run Tryz.prog (W.alloc (.cells #[.string ⟨s.toArray⟩] 9)) = .ok (.slice (some ⟨g, 0, none⟩) n cap) W4 ∧ Run H0 b0 base W4 (.slice (some ⟨g, 0, none⟩) n cap) (A ++ [s]) ∧ Below base W W4 := by
 obtain ⟨g, n, cap, W4, E, h2, hb⟩ := (h.below (al1 W (.cells #[.string ⟨s.toArray⟩] 9))).app (M := [s]) (SRow.of_owns (zee W s)) (by simp) hn
 exact ⟨g, n, cap, W4, E, h2, ((al1 W (.cells #[.string ⟨s.toArray⟩] 9)).mono h.2.1).trans hb⟩
theorem Run.two {H0 W : World} {b0 : Option Nat} {base : Nat} {v : Value} {A : List Bs} (h : Run H0 b0 base W v A) (s t : Bs) (hn : A.length + 2 ≤ 1000000) :
  ∃ (g n cap : Nat) (W4 : World), (Builtin.append_ #[25, 25] 25 #[v, .slice (some ⟨W.heap.size, 0, none⟩) 2 2]).run Tryz.prog (W.alloc (.cells #[.string ⟨s.toArray⟩, .string ⟨t.toArray⟩] 9)) = .ok (.slice (some ⟨g, 0, none⟩) n cap) W4 ∧ Run H0 b0 base W4 (.slice (some ⟨g, 0, none⟩) n cap) (A ++ [s, t]) ∧ Below base W W4 := by
 obtain ⟨g, n, cap, W4, E, h2, hb⟩ := (h.below (al1 W (.cells #[.string ⟨s.toArray⟩, .string ⟨t.toArray⟩] 9))).app (M := [s, t]) (src2 W s t).1 (by simp) hn
 exact ⟨g, n, cap, W4, E, h2, ((al1 W (.cells #[.string ⟨s.toArray⟩, .string ⟨t.toArray⟩] 9)).mono h.2.1).trans hb⟩
theorem Run.take {H0 W : World} {b0 : Option Nat} {base : Nat} {v : Value} {A M : List Bs} {g0 o0 c0 : Nat} (h : Run H0 b0 base W v A) (hs : SRow H0 (.slice (some ⟨g0, o0, none⟩) M.length c0) M) (he : Else H0 b0 (.slice (some ⟨g0, o0, none⟩) M.length c0)) (hm : 0 < M.length) (hn : A.length + M.length ≤ 1000000) :
  ∃ (g n cap : Nat) (W4 : World), (Builtin.append_ #[25, 25] 25 #[v, .slice (some ⟨g0, o0, none⟩) M.length c0]).run Tryz.prog W = .ok (.slice (some ⟨g, 0, none⟩) n cap) W4 ∧ Run H0 b0 base W4 (.slice (some ⟨g, 0, none⟩) n cap) (A ++ M) ∧ Below base W W4 := h.app (h.2.2.1.row hs he) hm hn
theorem XCo.run {H0 : World} {b0 : Option Nat} {base s0 z : Nat} {v : Value} {L0 : List Bs} {l : List Link} {W : World} (h : Run H0 b0 base W v L0) : XCo H0 b0 base s0 z (some v) L0 l (fun _ => none) W :=
 ⟨XCh.init fun _ e => Option.some.inj e ▸ h.1, h.2.2.1, fun _ e => Option.some.inj e ▸ h.2.2.2⟩
theorem behind0 {LA LT : List Bs} {w W w1 : World} {v u : Value} (hb : Below w.heap.size w W) (hv : W.ownsRow w.heap.size 9 1 v LA.length (zcg LA)) (hb1 : Below W.heap.size W w1) (hu : w1.ownsRow W.heap.size 9 1 u LT.length (zcg LT)) (hl : LA.length + LT.length ≤ 1000000) :
  ∃ (r : Value) (W4 : World), (Builtin.append_ #[25, 25] 25 #[v, u]).run Tryz.prog w1 = .ok r W4 ∧ W4.ownsRow w.heap.size 9 1 r (LA ++ LT).length (zcg (LA ++ LT)) ∧ Below w.heap.size w W4 := by
 rcases Nat.eq_zero_or_pos LT.length with h0 | h0
 ·obtain ⟨i0, hi, hz0, hz1, hz2⟩ := info_parts zig
  obtain rfl := List.eq_nil_of_length_eq_zero h0
  obtain ⟨p, c, rfl, hc⟩ := zaq hv
  obtain ⟨p', c', rfl, _⟩ := zaq hu
  have hs : Src Tryz.prog i0.size 25 (.slice p' 0 c') 0 [] w1 := by
   cases p' with
   | none => exact Src.ofNil w1 Tryz.underlying25 c'
   | some a => exact Src.ofSlice w1 Tryz.underlying25 a 0 c' [] (by simp) (fun j u hu => by simp at hu) (fun u hu => by simp at hu)
  refine ⟨_, w1, run_append_nothing w1 25 25 25 9 i0 Tryz.underlying25 hi p LA.length c hc _ hs, ?_, bon hb hb1⟩
  rw [List.append_nil]
  exact hv.kept (zaa hb1) (zbw _)
 ·exact behind hb hv hb1 hu h0 hl
theorem rblock_any (p : Option Addr) (n c : Nat) (L : List Bs) (w : World) (hl : L.length ≤ 900000) (CL : ∀ W, Below w.heap.size w W → Leaves 17 #[.slice p n c] W L) : Leaves 62 #[.slice p n c] w (blkS L) := by
 have HC := za3 (CL _ (al1 w (.cells #[.string ⟨#[123]⟩] 9)))
 have HN := za3 (zee w [123])
 clear CL
 go_enter Tryz.func62, Tryz.ntmps62
 go_wp2_with fail
 refine (za0 HC).mono ?_
 rintro _ w1 ⟨⟨u, rfl, hu⟩, hb1⟩
 obtain ⟨r, W4, E, ho, hb⟩ := behind0 (LA := [[123]]) (al1 w (.cells #[.string ⟨#[123]⟩] 9)) (za0 HN) hb1 hu (by simp; omega)
 obtain ⟨g, cap, W5, E2, hL⟩ := Left.append (s := [125]) ho hb.size (by simp; omega)
 obtain ⟨pu, cu, rfl, _⟩ := zaq hu
 have HE := za3 E
 have HE2 := za3 E2
 have HO : Hid (W5.ownsRow w.heap.size 9 1 (.slice (some ⟨g, 0, none⟩) (([[123]] ++ L).length + 1) cap) (blkS L).length (zcg (blkS L))) := za3 (by simpa [blkS] using hL.1)
 have HB := za3 (hb.trans hL.2.1)
 clear E E2 hL ho hb hu hb1 HC HN
 go_wp2_with (first
  | (at_builtin; refine za4 rfl (.tmp 3) (.tmp 5) 25 rfl rfl rfl (za0 HE) ?_; clear HE)
  | (at_builtin; refine za4 rfl (.tmp 6) (.tmp 7) 25 rfl rfl rfl (za0 HE2) ?_; clear HE2))
 go_ret
 exact ⟨⟨_, rfl, za0 HO⟩, za0 HB⟩
section
variable {o : Oper} {a : Act} {w : World} {K : Act → World → Prop} {Q : Exit → Act → World → Prop}
theorem zk6 {x : Operand} {b i : Nat} (hi : i < 7) (ho : o.op = .fieldAddr 105 x i) (hx : a.eval x = .pointer (some ⟨b, 0, none⟩)) (h : K (a.put o.dst (.pointer (some ⟨b, i, none⟩))) w) : o.wp Tryz.prog a w K Q := by
 unfold Oper.wp
 match i, hi with
 | 0, _ => simp only [execOp, ho, hx]; go_simp; exact h
 | 1, _ => simp only [execOp, ho, hx]; go_simp; exact h
 | 2, _ => simp only [execOp, ho, hx]; go_simp; exact h
 | 3, _ => simp only [execOp, ho, hx]; go_simp; exact h
 | 4, _ => simp only [execOp, ho, hx]; go_simp; exact h
 | 5, _ => simp only [execOp, ho, hx]; go_simp; exact h
 | 6, _ => simp only [execOp, ho, hx]; go_simp; exact h
theorem zgd {x : Operand} {b i : Nat} {p : Option Addr} {n c : Nat} (ho : o.op = .load 40 x) (hx : a.eval x = .pointer (some ⟨b, i, none⟩)) (h0 : w.cell? ⟨b, i, none⟩ = some (.slice p n c)) (h : K (a.put o.dst (.slice p n c)) w) : o.wp Tryz.prog a w K Q := by
 unfold Oper.wp; simp only [execOp, ho, hx]; go_simp
 exact h
end
theorem zha (args : Array Value) (w : World) : Sem.run Tryz.prog (callFunc 62 args) w = .ok (.enter 62 args) w := by kernel_rfl
def vS22 (bx : Nat) (vb : Value) : List (Option Value) := [none, none, none, none, none, some (.pointer (some ⟨bx, 5, none⟩)), some (vb), none, none, none]
def vS24 (bx : Nat) (vb : Value) : List (Option Value) := [none, none, none, none, none, some (.pointer (some ⟨bx, 5, none⟩)), some (vb), none, none, none]
def vS26 (bx : Nat) (vb : Value) : List (Option Value) := [none, none, none, some (.pointer (some ⟨bx, 6, none⟩)), some (vb), none, none, none]
def LL (Ls : Nat → List Bs) (k : Nat) : List Bs := (List.range k).flatMap Ls
theorem LL_succ (Ls : Nat → List Bs) (k : Nat) : LL Ls (k + 1) = LL Ls k ++ Ls k := by unfold LL; rw [List.range_succ, List.flatMap_append]; simp
theorem LL_le (Ls : Nat → List Bs) {k n : Nat} (h : k ≤ n) : (LL Ls k).length ≤ (LL Ls n).length := by
 induction n with
 | zero => rw [Nat.le_zero.1 h]; exact Nat.le_refl _
 | succ n ih =>
  rcases Nat.eq_or_lt_of_le h with e | e
  ·rw [e]; exact Nat.le_refl _
  ·have := ih (by omega)
   rw [LL_succ, List.length_append]; omega
def LSt (w : World) (p : Option Addr) (k : Nat) (L : List Bs) : Prop :=
 ∃ (g o : Nat) (A K : Int) (S : Bs) (pt px pb pe : Option Addr) (t b e ct cx cb ce : Nat) (LT LX LB LE : List Bs), p = some ⟨g, o, none⟩ ∧ 1 ≤ K ∧ K ≤ 7 ∧
  (w.cell? ⟨g, o + k * 7, none⟩ = some (.int .i64 A) ∧ w.cell? ⟨g, o + k * 7 + 1, none⟩ = some (.int .i64 K) ∧ w.cell? ⟨g, o + k * 7 + 2, none⟩ = some (.string ⟨S.toArray⟩) ∧ w.cell? ⟨g, o + k * 7 + 3, none⟩ = some (.slice pt t ct) ∧ w.cell? ⟨g, o + k * 7 + 4, none⟩ = some (.slice px 1 cx) ∧ w.cell? ⟨g, o + k * 7 + 5, none⟩ = some (.slice pb b cb) ∧ w.cell? ⟨g, o + k * 7 + 6, none⟩ = some (.slice pe e ce)) ∧
  (∃ (g o : Nat) (A' K' N' : Int) (S' : ByteArray) (p1 p2 p3 : Option Addr) (n1 n2 n3 c1 c2 c3 : Nat), px = some ⟨g, o, none⟩ ∧ (w.cell? ⟨g, o, none⟩ = some (.int .i64 A') ∧ w.cell? ⟨g, o + 1, none⟩ = some (.int .i64 K') ∧ w.cell? ⟨g, o + 2, none⟩ = some (.int .i64 N') ∧ w.cell? ⟨g, o + 3, none⟩ = some (.string S') ∧ w.cell? ⟨g, o + 4, none⟩ = some (.slice p1 n1 c1) ∧ w.cell? ⟨g, o + 5, none⟩ = some (.slice p2 n2 c2) ∧ w.cell? ⟨g, o + 6, none⟩ = some (.slice p3 n3 c3)) ∧ 0 < LX.length ∧
   ∀ W, Below w.heap.size w W → Leaves 10 #[.agg #[.int .i64 A', .int .i64 K', .int .i64 N', .string S', .slice p1 n1 c1, .slice p2 n2 c2, .slice p3 n3 c3]] W LX) ∧
  (K = 1 → (t = 0 ∧ LT = []) ∨ (t = 1 ∧ ∃ (g o : Nat) (K' : Int) (S' : ByteArray) (p1 p2 p3 : Option Addr) (n1 n2 n3 c1 c2 c3 : Nat), pt = some ⟨g, o, none⟩ ∧ (w.cell? ⟨g, o, none⟩ = some (.int .i64 K') ∧ w.cell? ⟨g, o + 1, none⟩ = some (.string S') ∧ w.cell? ⟨g, o + 2, none⟩ = some (.slice p1 n1 c1) ∧ w.cell? ⟨g, o + 3, none⟩ = some (.slice p2 n2 c2) ∧ w.cell? ⟨g, o + 4, none⟩ = some (.slice p3 n3 c3)) ∧ 0 < LT.length ∧
   ∀ W, Below w.heap.size w W → Leaves 49 #[.agg #[.int .i64 K', .string S', .slice p1 n1 c1, .slice p2 n2 c2, .slice p3 n3 c3]] W LT)) ∧
  (K = 4 ∨ K = 5 → ∀ W, Below w.heap.size w W → Leaves 62 #[.slice pb b cb] W (blkS LB)) ∧
  (K = 4 → 0 < e → ∀ W, Below w.heap.size w W → Leaves 62 #[.slice pe e ce] W (blkS LE)) ∧
  L = stL K S LT LX LB LE e
theorem app_slice {W : World} {base n : Nat} {v : Value} {xs : List Value} (h : W.ownsRow base 9 1 v n xs) : ∃ p c, v = .slice p n c := by
 obtain ⟨p, c, e, _⟩ := zaq h
 exact ⟨p, c, e⟩
theorem lst_run (p : Option Addr) (n c : Nat) (w : World) (Ls : Nat → List Bs) (hn : n ≤ 1000000) (hl : (LL Ls n).length ≤ 400000) (hP : ∀ k, k < n → LSt w p k (Ls k)) :
  Leaves 17 #[.slice p n c] w (LL Ls n) := by
 have HP := za3 hP
 have HLL := za3 hl
 clear hP hl
 go_enter Tryz.func17, Tryz.ntmps17
 go_wp2
 go_loopw [3, 4] (fun o i wr => ∃ (k : Nat) (vo : Value), i = .int .i64 k ∧ vo = o ∧ k ≤ n ∧ Hid (wr.ownsRow w.heap.size 9 1 vo (LL Ls k).length (zcg (LL Ls k)) ∧ Below w.heap.size w wr)) (fun _ i _ => n - (intOf i).toNat)
 case atStart => exact ⟨0, _, rfl, rfl, by omega, World.ownsRow_nil _ _ _ _, Below.refl _ _⟩
 case round =>
  obtain ⟨k, vo, rfl, rfl, hk, HO⟩ := hrel
  obtain ⟨ho, hb⟩ := za0 HO
  by_cases hlt : k < n
  rotate_left
  ·obtain rfl : k = n := by omega
   have hlt' : ¬ (k : Int) < (k : Int) := by omega
   have HO2 := za3 ho
   have HB2 := za3 hb
   clear HO hb HP HLL
   go_wp2
   go_ret
   exact ⟨⟨_, rfl, za0 HO2⟩, za0 HB2⟩
  have hlt' : (k : Int) < (n : Int) := by omega
  obtain ⟨g, o, A, K, S, pt, px, pb, pe, t, b, e, ct, cx, cb, ce, LT, LX, LB, LE, rfl, k1, k2, ⟨a0, a1, a2, a3, a4, a5, a6⟩, ⟨gx, ox, A', K', N', S', p1, p2, p3, n1, n2, n3, c1, c2, c3, rfl, ⟨x0, x1, x2, x3, x4, x5, x6⟩, hLX, CX⟩, CT, CB, CE, hLs⟩ := za0 HP k hlt
  have hln : (LL Ls k).length + (Ls k).length ≤ 400000 := by
   have h1 := LL_le Ls (show k + 1 ≤ n by omega)
   have h2 := za0 HLL
   rw [LL_succ, List.length_append] at h1
   omega
  have e0 := (hb.cell (p := ⟨g, _, none⟩) (za2 a0)).trans a0
  have e1 := (hb.cell (p := ⟨g, _, none⟩) (za2 a1)).trans a1
  have e2 := (hb.cell (p := ⟨g, _, none⟩) (za2 a2)).trans a2
  have e3 := (hb.cell (p := ⟨g, _, none⟩) (za2 a3)).trans a3
  have e4 := (hb.cell (p := ⟨g, _, none⟩) (za2 a4)).trans a4
  have e5 := (hb.cell (p := ⟨g, _, none⟩) (za2 a5)).trans a5
  have e6 := (hb.cell (p := ⟨g, _, none⟩) (za2 a6)).trans a6
  have hA : Below w.heap.size w (wr.alloc (sBox A K ⟨S.toArray⟩ pt (some ⟨gx, ox, none⟩) pb pe t 1 b e ct cx cb ce)) := hb.alloc hb.size _
  have y0 := (hA.cell (p := ⟨gx, _, none⟩) (za2 x0)).trans x0
  have y1 := (hA.cell (p := ⟨gx, _, none⟩) (za2 x1)).trans x1
  have y2 := (hA.cell (p := ⟨gx, _, none⟩) (za2 x2)).trans x2
  have y3 := (hA.cell (p := ⟨gx, _, none⟩) (za2 x3)).trans x3
  have y4 := (hA.cell (p := ⟨gx, _, none⟩) (za2 x4)).trans x4
  have y5 := (hA.cell (p := ⟨gx, _, none⟩) (za2 x5)).trans x5
  have y6 := (hA.cell (p := ⟨gx, _, none⟩) (za2 x6)).trans x6
  have HC := za3 (CX _ hA)
  have HA := za3 hA
  have HCT := za3 CT
  have HCB := za3 CB
  have HCE := za3 CE
  have HLs := za3 hLs
  have HLN := za3 hln
  have HOO := za3 ho
  have HBB := za3 hb
  clear a0 a1 a2 a3 a4 a5 a6 x0 x1 x2 x3 x4 x5 x6 hA CX CT CB CE hLs hln HO HP HLL ho hb
  go_wp2_with fail
  refine (za0 HC).mono ?_
  rintro _ w1 ⟨⟨u, rfl, hu⟩, hb1⟩
  obtain ⟨gu, cu, rfl⟩ := zbe hu hLX
  obtain ⟨d0, d1, d2, d3, d4, d5, d6⟩ := zau hb1
  obtain ⟨b0, hb0⟩ : ∃ b0, b0 = vo.ownBlock := ⟨_, rfl⟩
  have HB1 := za3 (bon (za0 HA) hb1)
  have RUN : Hid (Run w1 b0 w.heap.size w1 vo (LL Ls k)) := by
   rw [hb0]
   exact Run.init (((za0 HOO).alloc _).kept (zaa hb1) (zbw _)) (za0 HB1).size
  have SX := za3 (SRow.of_owns hu)
  have EX : Hid (Else w1 b0 (.slice (some ⟨gu, 0, none⟩) LX.length cu)) := fun g hg => ⟨(hu.lt g hg).2, fun e => by
   have h1 := ((za0 HOO).lt g (by rw [← hb0]; exact e.symm)).2
   have h2 := (hu.lt g hg).1
   simp at h2
   omega⟩
  have EB : Hid (wr.heap.size < w1.heap.size ∧ some wr.heap.size ≠ b0) := ⟨by have := hb1.size; simp at this; omega, fun e => by
   have h1 := ((za0 HOO).lt _ (by rw [← hb0]; exact e.symm)).2
   omega⟩
  have CELL : Hid (∀ W, Kept w1 b0 W → W.cell? ⟨wr.heap.size, 3, none⟩ = some (.slice pt t ct) ∧ W.cell? ⟨wr.heap.size, 5, none⟩ = some (.slice pb b cb) ∧ W.cell? ⟨wr.heap.size, 6, none⟩ = some (.slice pe e ce)) := fun W hK => ⟨(hK.cell (za0 EB).1 (za0 EB).2).trans d3, (hK.cell (za0 EB).1 (za0 EB).2).trans d5, (hK.cell (za0 EB).1 (za0 EB).2).trans d6⟩
  obtain ⟨L0, hL0⟩ : ∃ L0, L0 = LL Ls k := ⟨_, rfl⟩
  have HLS : Hid (LL Ls (k + 1) = L0 ++ stL K S LT LX LB LE e) := by show _ = _; rw [LL_succ, hL0, ← za0 HLs]
  have HLN2 : Hid (L0.length + (stL K S LT LX LB LE e).length ≤ 400000) := by show _ ≤ _; rw [hL0, ← za0 HLs]; exact za0 HLN
  rw [← hL0] at RUN
  obtain ⟨pv, cv, hvo⟩ := app_slice (za0 RUN).1
  subst hvo
  clear hL0 hb0 HLs HLN HOO HBB hu hb1 HC e0 e1 e2 e3 e4 e5 e6 y0 y1 y2 y3 y4 y5 y6
  have hk : K = 1 ∨ K = 2 ∨ K = 3 ∨ K = 4 ∨ K = 5 ∨ K = 6 ∨ K = 7 := by omega
  clear k1 k2
  rcases hk with rfl | rfl | rfl | rfl | rfl | rfl | rfl
  ·have hln : L0.length + (stL 1 S LT LX LB LE e).length ≤ 400000 := za0 HLN2
   have hst : (stL 1 S LT LX LB LE e).length = 2 + LT.length + 1 + LX.length + 1 := by simp [stL]; omega
   obtain ⟨g1, n1, q1, W1, E1, R1, B1⟩ := (za0 RUN).two [108, 101, 116] S (by omega)
   obtain ⟨f3, _, _⟩ := za0 CELL W1 R1.2.2.1
   have HE1 := za3 E1
   have HR1 := za3 R1
   have HBW1 := za3 ((za0 HB1).trans B1)
   clear E1 R1 B1
   rcases za0 HCT rfl with ⟨rfl, rfl⟩ | ⟨rfl, gt, ot, K2, S2, r1, r2, r3, m1, m2, m3, s1, s2, s3, rfl, ⟨t0, t1, t2, t3, t4⟩, hLT, CT⟩
   ·obtain ⟨g2, n2, q2, W2, E2, R2, B2⟩ := (za0 HR1).one [61] (by first | omega | (simp; omega))
    obtain ⟨g3, n3, q3, W3, E3, R3, B3⟩ := R2.take (za0 SX) (za0 EX) hLX (by simp at hst ⊢; omega)
    obtain ⟨g4, n4, q4, W4, E4, R4, B4⟩ := R3.one [59] (by simp at hst ⊢; omega)
    have HE2 := za3 E2
    have HE3 := za3 E3
    have HE4 := za3 E4
    have hR := R4.1
    rw [show (((L0 ++ [[108, 101, 116], S]) ++ [[61]]) ++ LX) ++ [[59]] = LL Ls (k + 1) by rw [za0 HLS]; simp [stL]] at hR
    have HR := za3 hR
    have HBZ := za3 ((((za0 HBW1).trans B2).trans B3).trans B4)
    clear hR E2 E3 E4 R2 R3 R4 B2 B3 B4 hln hst RUN SX EX EB CELL HB1 HLS HLN2 HCT HCB HCE HR1 HBW1
    go_wp2_with (first
     | (at_builtin; refine za4 rfl (.tmp 26) (.tmp 29) 25 rfl rfl rfl (za0 HE1) ?_; clear HE1)
     | (at_builtin; refine za4 rfl (.tmp 42) (.tmp 43) 25 rfl rfl rfl (za0 HE2) ?_; clear HE2)
     | (at_builtin; refine za4 rfl (.tmp 44) (.tmp 45) 25 rfl rfl rfl (za0 HE3) ?_; clear HE3)
     | (at_builtin; refine za4 rfl (.tmp 46) (.tmp 47) 25 rfl rfl rfl (za0 HE4) ?_; clear HE4))
    go_roundw
    case rel => exact ⟨k + 1, _, by go_num, rfl, by omega, ⟨za0 HR, za0 HBZ⟩⟩
    case measure => simp [intOf]; omega
   ·obtain ⟨W1', hW1'⟩ : ∃ W, W = W1 := ⟨_, rfl⟩
    have hbt := za0 HBW1
    have v0 := (hbt.cell (p := ⟨gt, _, none⟩) (za2 t0)).trans t0
    have v1 := (hbt.cell (p := ⟨gt, _, none⟩) (za2 t1)).trans t1
    have v2 := (hbt.cell (p := ⟨gt, _, none⟩) (za2 t2)).trans t2
    have v3 := (hbt.cell (p := ⟨gt, _, none⟩) (za2 t3)).trans t3
    have v4 := (hbt.cell (p := ⟨gt, _, none⟩) (za2 t4)).trans t4
    have HCC := za3 (CT _ hbt)
    have HLN3 := za3 hln
    have HST := za3 hst
    clear t0 t1 t2 t3 t4 CT hbt RUN EB CELL HB1 HLN2 HCT HCB HCE hln hst hW1' W1'
    go_wp2_with (at_builtin; refine za4 rfl (.tmp 26) (.tmp 29) 25 rfl rfl rfl (za0 HE1) ?_; clear HE1)
    refine (za0 HCC).mono ?_
    rintro _ wT ⟨⟨uT, rfl, huT⟩, hbT⟩
    obtain ⟨gT, cT, rfl⟩ := zbe huT hLT
    have hln := za0 HLN3
    have hst := za0 HST
    obtain ⟨g2, n2, q2, W2, E2, R2, B2⟩ := ((za0 HR1).below hbT).app (SRow.of_owns huT) hLT (by first | omega | (simp; omega))
    obtain ⟨g3, n3, q3, W3, E3, R3, B3⟩ := R2.one [61] (by first | omega | (simp; omega))
    obtain ⟨g4, n4, q4, W4, E4, R4, B4⟩ := R3.take (za0 SX) (za0 EX) hLX (by first | omega | (simp; omega))
    obtain ⟨g5, n5, q5, W5, E5, R5, B5⟩ := R4.one [59] (by simp; omega)
    have HE2 := za3 E2
    have HE3 := za3 E3
    have HE4 := za3 E4
    have HE5 := za3 E5
    have hR := R5.1
    rw [show ((((L0 ++ [[108, 101, 116], S]) ++ LT) ++ [[61]]) ++ LX) ++ [[59]] = LL Ls (k + 1) by rw [za0 HLS]; simp [stL]] at hR
    have HR := za3 hR
    have HBZ := za3 (((((za0 HBW1).trans (hbT.mono (za0 HBW1).size)).trans B2).trans B3).trans B4 |>.trans B5)
    clear hR E2 E3 E4 E5 R2 R3 R4 R5 B2 B3 B4 B5 hln hst SX EX HLS HLN3 HST HR1 HBW1 huT hbT HCC v0 v1 v2 v3 v4
    go_wp2_with (first
     | (at_builtin; refine za4 rfl (.tmp 35) (.tmp 40) 25 rfl rfl rfl (za0 HE2) ?_; clear HE2)
     | (at_builtin; refine za4 rfl (.tmp 42) (.tmp 43) 25 rfl rfl rfl (za0 HE3) ?_; clear HE3)
     | (at_builtin; refine za4 rfl (.tmp 44) (.tmp 45) 25 rfl rfl rfl (za0 HE4) ?_; clear HE4)
     | (at_builtin; refine za4 rfl (.tmp 46) (.tmp 47) 25 rfl rfl rfl (za0 HE5) ?_; clear HE5))
    go_roundw
    case rel => exact ⟨k + 1, _, by go_num, rfl, by omega, ⟨za0 HR, za0 HBZ⟩⟩
    case measure => simp [intOf]; omega
  ·have hln : L0.length + (stL 2 S LT LX LB LE e).length ≤ 400000 := za0 HLN2
   have hst : (stL 2 S LT LX LB LE e).length = 2+LX.length+1 := by simp [stL] <;> omega
   obtain ⟨g1, n1, q1, W1, E1, R1, B1⟩ := (za0 RUN).two S [61] (by first | omega | (simp; omega))
   obtain ⟨g2, n2, q2, W2, E2, R2, B2⟩ := R1.take (za0 SX) (za0 EX) hLX (by first | omega | (simp; omega))
   obtain ⟨g3, n3, q3, W3, E3, R3, B3⟩ := R2.one [59] (by first | omega | (simp; omega))
   have HE1 := za3 E1
   have HE2 := za3 E2
   have HE3 := za3 E3
   have hR := R3.1
   rw [show (((L0 ++ [S, [61]]) ++ LX) ++ [[59]]) = LL Ls (k + 1) by rw [za0 HLS]; simp [stL]] at hR
   have HR := za3 hR
   have HBZ := za3 (((((za0 HB1)).trans B1).trans B2).trans B3)
   clear E1 R1 B1 E2 R2 B2 E3 R3 B3 hR hln hst RUN SX EX EB CELL HB1 HLS HLN2 HCT HCB HCE
   go_wp2_with (first
    | (at_builtin; refine za4 rfl (.tmp 51) (.tmp 54) 25 rfl rfl rfl (za0 HE1) ?_; clear HE1)
    | (at_builtin; refine za4 rfl (.tmp 55) (.tmp 56) 25 rfl rfl rfl (za0 HE2) ?_; clear HE2)
    | (at_builtin; refine za4 rfl (.tmp 57) (.tmp 58) 25 rfl rfl rfl (za0 HE3) ?_; clear HE3))
   go_roundw
   case rel => exact ⟨k + 1, _, by go_num, rfl, by omega, ⟨za0 HR, za0 HBZ⟩⟩
   case measure => simp [intOf]; omega
  ·have hln : L0.length + (stL 3 S LT LX LB LE e).length ≤ 400000 := za0 HLN2
   have hst : (stL 3 S LT LX LB LE e).length = 1+LX.length+1 := by simp [stL] <;> omega
   obtain ⟨g1, n1, q1, W1, E1, R1, B1⟩ := (za0 RUN).one [112, 114, 105, 110, 116] (by first | omega | (simp; omega))
   obtain ⟨g2, n2, q2, W2, E2, R2, B2⟩ := R1.take (za0 SX) (za0 EX) hLX (by first | omega | (simp; omega))
   obtain ⟨g3, n3, q3, W3, E3, R3, B3⟩ := R2.one [59] (by first | omega | (simp; omega))
   have HE1 := za3 E1
   have HE2 := za3 E2
   have HE3 := za3 E3
   have hR := R3.1
   rw [show (((L0 ++ [[112, 114, 105, 110, 116]]) ++ LX) ++ [[59]]) = LL Ls (k + 1) by rw [za0 HLS]; simp [stL]] at hR
   have HR := za3 hR
   have HBZ := za3 (((((za0 HB1)).trans B1).trans B2).trans B3)
   clear E1 R1 B1 E2 R2 B2 E3 R3 B3 hR hln hst RUN SX EX EB CELL HB1 HLS HLN2 HCT HCB HCE
   go_wp2_with (first
    | (at_builtin; refine za4 rfl (.tmp 62) (.tmp 63) 25 rfl rfl rfl (za0 HE1) ?_; clear HE1)
    | (at_builtin; refine za4 rfl (.tmp 64) (.tmp 65) 25 rfl rfl rfl (za0 HE2) ?_; clear HE2)
    | (at_builtin; refine za4 rfl (.tmp 66) (.tmp 67) 25 rfl rfl rfl (za0 HE3) ?_; clear HE3))
   go_roundw
   case rel => exact ⟨k + 1, _, by go_num, rfl, by omega, ⟨za0 HR, za0 HBZ⟩⟩
   case measure => simp [intOf]; omega
  ·have hln : L0.length + (stL 4 S LT LX LB LE e).length ≤ 400000 := za0 HLN2
   obtain ⟨vo, hvo⟩ : ∃ vo, vo = Value.slice pv L0.length cv := ⟨_, rfl⟩
   obtain ⟨LBk, hLBd⟩ : ∃ LBk, LBk = blkS LB := ⟨_, rfl⟩
   have hLBk : 0 < LBk.length := by rw [hLBd]; simp [blkS]
   have hst : 1 + LX.length + LBk.length + (if 0 < e then 1 + (blkS LE).length else 0) = (stL 4 S LT LX LB LE e).length := by rw [hLBd]; simp [stL]; split <;> simp [blkS] <;> omega
   rw [← hvo] at RUN
   rw [← hvo]
   clear hvo
   obtain ⟨B, hBd⟩ : ∃ B : World → Prop, B = fun W => Below w.heap.size w W := ⟨_, rfl⟩
   have toB : ∀ W, B W → Below w.heap.size w W := fun W h => by rw [hBd] at h; exact h
   have ofB : ∀ W, Below w.heap.size w W → B W := fun W h => by rw [hBd]; exact h
   have sB : ∀ W W', B W → Below W.heap.size W W' → B W' := fun W W' h hb => ofB _ (bon (toB _ h) hb)
   have sB2 : ∀ W W', B W → Below w.heap.size W W' → B W' := fun W W' h hb => ofB _ ((toB _ h).trans hb)
   have hbs : ∀ W, B W → w.heap.size ≤ W.heap.size := fun W h => (toB W h).size
   have cB : ∀ W, (B W ∧ Kept w1 b0 W) → W.cell? ⟨wr.heap.size, 5, none⟩ = some (.slice pb b cb) := fun W h => (za0 CELL W h.2).2.1
   have cK : ∀ W, (B W ∧ Kept w1 b0 W) → Leaves 62 #[.slice pb b cb] W LBk := fun W h => by rw [hLBd]; exact za0 HCB (by omega) W (toB W h.1)
   have HLBD := za3 hLBd
   clear HCT HCB hLBd HLN2
   go_wp2_with fail
   refine zbq (n := 119) (by kernel_rfl) (by kernel_rfl) (by kernel_rfl) rfl B (VP (vS24 wr.heap.size (.slice pb b cb))) (XCo w1 b0 w.heap.size 0 9 (some vo) L0 [(2, 1, [[105, 102]]), (4, 3, LX), (8, 7, LBk)])
    (ofB _ (zad (za0 HB1))) (XCo.run ((za0 RUN).below (zad (Below.refl _ _)))) ?each ?fin
   case each =>
    refine ⟨?_, ?_, ?_, ?_, ?_, ?_, ?_, ?_, ?_, ?_, trivial⟩
    ·refine OGoal.start rfl (by decide) (by simp) rfl rfl rfl (fun f down hno => ?_) (fun a' f hkp hlt hzn => ?_)
     ·have e2 := za7 down (i := 2) (j := 0) (by kernel_rfl) hno
      have e4 := za7 down (i := 4) (j := 2) (by kernel_rfl) e2
      have e8 := za7 down (i := 8) (j := 4) (by kernel_rfl) e4
      have e9 := za7 down (i := 9) (j := 8) (by kernel_rfl) e8
      exact ⟨e9, by simp [e2, e4, e8]⟩
     ·exact hlt 3 9 (by kernel_rfl) hzn
    ·exact OGoal.src (M := [[105, 102]]) sB (by decide) (by decide) (by simp) rfl (fun a' W hz hkp hBW dep => ⟨za1 rfl, zcy (s := ⟨#[105, 102]⟩) rfl rfl ⟨_, rfl, al1 _ _, src1 W [105, 102]⟩⟩)
    ·refine OGoal.app (q := 0) (s := 1) (Lq := L0) (M := [[105, 102]]) sB2 hbs (by decide) rfl rfl rfl rfl (by simp) (by simp) (by simp; omega) (by simp) (by kernel_rfl) (by kernel_rfl) (by kernel_rfl) (by kernel_rfl) (fun f v down hno hq => ?_)
     have e4 := za7 down (i := 4) (j := 2) (by kernel_rfl) hno
     have e8 := za7 down (i := 8) (j := 4) (by kernel_rfl) e4
     have e9 := za7 down (i := 9) (j := 8) (by kernel_rfl) e8
     exact ⟨e9, by simp [zao, zav, hq, hno], by simp [zah, hno], fun x => ⟨by simp [zao, zav, zbx, hq, e4], by simp [zah, zbx, e4]⟩⟩
    ·exact OGoal.old (LX := LX) (by decide) (by decide) (by simp) rfl rfl rfl (za0 SX) (za0 EX) (fun a' hkp => hkp 6 (by kernel_rfl))
    ·refine OGoal.app (q := 2) (s := 3) (Lq := (L0 ++ [[105, 102]])) (M := LX) sB2 hbs (by decide) rfl rfl rfl rfl (by simp) hLX (by simp; omega) (by simp) (by kernel_rfl) (by kernel_rfl) (by kernel_rfl) (by kernel_rfl) (fun f v down hno hq => ?_)
     obtain ⟨v0, e0⟩ := Option.ne_none_iff_exists'.1 (down 2 0 (by kernel_rfl) (by rw [hq]; simp))
     have e8 := za7 down (i := 8) (j := 4) (by kernel_rfl) hno
     have e9 := za7 down (i := 9) (j := 8) (by kernel_rfl) e8
     exact ⟨e9, by simp [zao, zav, e0, hq, hno], by simp [zah, hq, hno], fun x => ⟨by simp [zao, zav, zbx, e0, hq, e8], by simp [zah, zbx, hq, e8]⟩⟩
    ·exact OGoal.plain sB (by decide) (by decide) (by simp) (fun a' W f hz hkp hlt hBW hno down dep => ⟨za1 rfl, zk6 (by decide) rfl (show a'.eval (.tmp 5) = Value.pointer (some ⟨wr.heap.size, 0, none⟩) from hkp 5 (by kernel_rfl)) ⟨_, rfl, Below.refl _ _, rfl⟩⟩)
    ·exact OGoal.plain sB (by decide) (by decide) (by simp) (fun a' W f hz hkp hlt hBW hno down dep => ⟨za1 rfl, zgd rfl (dep 5 103 _ (by kernel_rfl) (by kernel_rfl) rfl) (cB W hBW) ⟨_, rfl, Below.refl _ _, rfl⟩⟩)
    ·exact OGoal.src (M := LBk) sB (by decide) (by decide) (by simp) rfl (fun a' W hz hkp hBW dep => ⟨za1 rfl, zcw rfl (dep 6 104 _ (by kernel_rfl) (by kernel_rfl) rfl) zha ((cK W hBW).mono fun e w' ⟨⟨u, he, h1⟩, hb⟩ => ⟨u, he, u, rfl, hb, SRow.of_owns h1, fun g hg => h1.lt g hg⟩)⟩)
    ·refine OGoal.app (q := 4) (s := 7) (Lq := (L0 ++ [[105, 102]] ++ LX)) (M := LBk) sB2 hbs (by decide) rfl rfl rfl rfl (by simp) hLBk (by simp; omega) (by simp) (by kernel_rfl) (by kernel_rfl) (by kernel_rfl) (by kernel_rfl) (fun f v down hno hq => ?_)
     obtain ⟨v2, e2⟩ := Option.ne_none_iff_exists'.1 (down 4 2 (by kernel_rfl) (by rw [hq]; simp))
     obtain ⟨v0, e0⟩ := Option.ne_none_iff_exists'.1 (down 2 0 (by kernel_rfl) (by rw [e2]; simp))
     have e9 := za7 down (i := 9) (j := 8) (by kernel_rfl) hno
     exact ⟨e9, by simp [zao, zav, e0, e2, hq, hno], by simp [zah, e2, hq, hno], fun x => ⟨by simp [zao, zav, zbx, e0, e2, hq], by simp [zah, zbx, e2, hq]⟩⟩
    ·refine OGoal.last (q := 8) (by decide) (by simp) rfl rfl rfl (by kernel_rfl) (by kernel_rfl) (fun f v down hq => ?_)
     obtain ⟨v4, e4⟩ := Option.ne_none_iff_exists'.1 (down 8 4 (by kernel_rfl) (by rw [hq]; simp))
     obtain ⟨v2, e2⟩ := Option.ne_none_iff_exists'.1 (down 4 2 (by kernel_rfl) (by rw [e4]; simp))
     obtain ⟨v0, e0⟩ := Option.ne_none_iff_exists'.1 (down 2 0 (by kernel_rfl) (by rw [e2]; simp))
     simp [zao, zav, hq, e0, e2, e4]
   case fin =>
    intro a' W f hz hdf hkp hBW hf hV hX
    have hdone : (∃ v, f 0 = some v) ∧ (∃ v, f 2 = some v) ∧ (∃ v, f 4 = some v) ∧ (∃ v, f 8 = some v) := ⟨⟨_, hf 0 98 (by kernel_rfl)⟩, ⟨_, hf 2 100 (by kernel_rfl)⟩, ⟨_, hf 4 102 (by kernel_rfl)⟩, ⟨_, hf 8 106 (by kernel_rfl)⟩⟩
    have hL : zah f L0 [(2, 1, [[105, 102]]), (4, 3, LX), (8, 7, LBk)] = (L0 ++ [[105, 102]] ++ LX ++ LBk) := by
     obtain ⟨⟨_, _⟩, ⟨_, e2⟩, ⟨_, e4⟩, ⟨_, e8⟩⟩ := hdone
     simp [zah, e2, e4, e8]
    obtain ⟨hown, _⟩ := hX.1.2.2 _ (hX.1.1 _ (hf 9 3 (by kernel_rfl)))
    rw [hL] at hown
    have HB2 := za3 (toB W hBW)
    have RUN2 : Hid (Run w1 b0 w.heap.size W (a'.tmps.getD 3 undef) (L0 ++ [[105, 102]] ++ LX ++ LBk)) := ⟨by simpa using hown, (toB W hBW).size, hX.2.1, hX.2.2 _ (hX.1.1 _ (hf 9 3 (by kernel_rfl)))⟩
    obtain ⟨_, f5, f6⟩ := za0 CELL W hX.2.1
    rw [zd3 hz rfl hdf hkp]
    clear hf hV hX hkp hdone hL cB cK hown hz hdf hBW
    generalize hv3 : a'.tmps.getD 3 undef = v3 at RUN2
    simp only [List.foldl, Option.getD]
    rw [hv3]
    clear hv3
    generalize a'.tmps.getD 98 undef = z98
    generalize a'.tmps.getD 99 undef = z99
    generalize a'.tmps.getD 100 undef = z100
    generalize a'.tmps.getD 101 undef = z101
    generalize a'.tmps.getD 102 undef = z102
    generalize a'.tmps.getD 103 undef = z103
    generalize a'.tmps.getD 104 undef = z104
    generalize a'.tmps.getD 105 undef = z105
    generalize a'.tmps.getD 106 undef = z106
    by_cases he : 0 < e
    rotate_left
    ·obtain rfl : e = 0 := by omega
     have HR : Hid (W.ownsRow w.heap.size 9 1 v3 (LL Ls (k + 1)).length (zcg (LL Ls (k + 1)))) := by rw [za0 HLS, show stL 4 S LT LX LB LE 0 = [[105, 102]] ++ LX ++ LBk by rw [za0 HLBD]; simp [stL]]; exact za3 (by simpa using (za0 RUN2).1)
     clear sB sB2 hbs toB ofB
     go_wp2
     go_roundw
     case rel => exact ⟨k + 1, _, by go_num, rfl, by omega, ⟨za0 HR, za0 HB2⟩⟩
     case measure => simp [intOf]; omega
    have he' : 0 < (e : Int) := by omega
    obtain ⟨L1, hL1⟩ : ∃ L1, L1 = L0 ++ [[105, 102]] ++ LX ++ LBk := ⟨_, rfl⟩
    rw [← hL1] at RUN2
    obtain ⟨LEk, hLEd⟩ : ∃ LEk, LEk = blkS LE := ⟨_, rfl⟩
    have hLEk : 0 < LEk.length := by rw [hLEd]; simp [blkS]
    have hl1 : L1.length + 1 + LEk.length ≤ 400001 := by
     rw [hL1]
     rw [if_pos he] at hst
     simp [blkS] at hst
     rw [hLEd]
     simp [blkS]
     omega
    have cE : ∀ W, (B W ∧ Kept w1 b0 W) → W.cell? ⟨wr.heap.size, 6, none⟩ = some (.slice pe e ce) := fun W h => (za0 CELL W h.2).2.2
    have cKE : ∀ W, (B W ∧ Kept w1 b0 W) → Leaves 62 #[.slice pe e ce] W LEk := fun W h => by rw [hLEd]; exact za0 HCE (by first | rfl | trivial) he W (toB W h.1)
    have HFI : Hid (LL Ls (k + 1) = L1 ++ [[101, 108, 115, 101]] ++ LEk) := by
     show _ = _
     rw [za0 HLS, hL1, hLEd, za0 HLBD]
     simp [stL, he]
    clear hL1 hLEd hst hln HLS HLBD
    go_wp2_with fail
    refine zbq (n := 119) (by kernel_rfl) (by kernel_rfl) (by kernel_rfl) rfl B (VP (vS26 wr.heap.size (.slice pe e ce))) (XCo w1 b0 w.heap.size 0 7 (some v3) L1 [(2, 1, [[101, 108, 115, 101]]), (6, 5, LEk)])
     (ofB _ (zad (za0 HB2))) (XCo.run ((za0 RUN2).below (zad (Below.refl _ _)))) ?each ?fin
    case each =>
     refine ⟨?_, ?_, ?_, ?_, ?_, ?_, ?_, ?_, trivial⟩
     ·refine OGoal.start rfl (by decide) (by simp) rfl rfl rfl (fun f down hno => ?_) (fun a' f hkp hlt hzn => ?_)
      ·have e2 := za7 down (i := 2) (j := 0) (by kernel_rfl) hno
       have e6 := za7 down (i := 6) (j := 2) (by kernel_rfl) e2
       have e7 := za7 down (i := 7) (j := 6) (by kernel_rfl) e6
       exact ⟨e7, by simp [e2, e6]⟩
      ·exact hlt 3 7 (by kernel_rfl) hzn
     ·exact OGoal.src (M := [[101, 108, 115, 101]]) sB (by decide) (by decide) (by simp) rfl (fun a' W hz hkp hBW dep => ⟨za1 rfl, zcy (s := ⟨#[101, 108, 115, 101]⟩) rfl rfl ⟨_, rfl, al1 _ _, src1 W [101, 108, 115, 101]⟩⟩)
     ·refine OGoal.app (q := 0) (s := 1) (Lq := L1) (M := [[101, 108, 115, 101]]) sB2 hbs (by decide) rfl rfl rfl rfl (by simp) (by simp) (by simp; omega) (by simp) (by kernel_rfl) (by kernel_rfl) (by kernel_rfl) (by kernel_rfl) (fun f v down hno hq => ?_)
      have e6 := za7 down (i := 6) (j := 2) (by kernel_rfl) hno
      have e7 := za7 down (i := 7) (j := 6) (by kernel_rfl) e6
      exact ⟨e7, by simp [zao, zav, hq, hno], by simp [zah, hno], fun x => ⟨by simp [zao, zav, zbx, hq, e6], by simp [zah, zbx, e6]⟩⟩
     ·exact OGoal.plain sB (by decide) (by decide) (by simp) (fun a' W f hz hkp hlt hBW hno down dep => ⟨za1 rfl, zk6 (by decide) rfl (show a'.eval (.tmp 5) = Value.pointer (some ⟨wr.heap.size, 0, none⟩) from hkp 5 (by kernel_rfl)) ⟨_, rfl, Below.refl _ _, rfl⟩⟩)
     ·exact OGoal.plain sB (by decide) (by decide) (by simp) (fun a' W f hz hkp hlt hBW hno down dep => ⟨za1 rfl, zgd rfl (dep 3 114 _ (by kernel_rfl) (by kernel_rfl) rfl) (cE W hBW) ⟨_, rfl, Below.refl _ _, rfl⟩⟩)
     ·exact OGoal.src (M := LEk) sB (by decide) (by decide) (by simp) rfl (fun a' W hz hkp hBW dep => ⟨za1 rfl, zcw rfl (dep 4 115 _ (by kernel_rfl) (by kernel_rfl) rfl) zha ((cKE W hBW).mono fun e w' ⟨⟨u, he, h1⟩, hb⟩ => ⟨u, he, u, rfl, hb, SRow.of_owns h1, fun g hg => h1.lt g hg⟩)⟩)
     ·refine OGoal.app (q := 2) (s := 5) (Lq := (L1 ++ [[101, 108, 115, 101]])) (M := LEk) sB2 hbs (by decide) rfl rfl rfl rfl (by simp) hLEk (by simp; omega) (by simp) (by kernel_rfl) (by kernel_rfl) (by kernel_rfl) (by kernel_rfl) (fun f v down hno hq => ?_)
      obtain ⟨v0, e0⟩ := Option.ne_none_iff_exists'.1 (down 2 0 (by kernel_rfl) (by rw [hq]; simp))
      have e7 := za7 down (i := 7) (j := 6) (by kernel_rfl) hno
      exact ⟨e7, by simp [zao, zav, e0, hq, hno], by simp [zah, hq, hno], fun x => ⟨by simp [zao, zav, zbx, e0, hq], by simp [zah, zbx, hq]⟩⟩
     ·refine OGoal.last (q := 6) (by decide) (by simp) rfl rfl rfl (by kernel_rfl) (by kernel_rfl) (fun f v down hq => ?_)
      obtain ⟨v2, e2⟩ := Option.ne_none_iff_exists'.1 (down 6 2 (by kernel_rfl) (by rw [hq]; simp))
      obtain ⟨v0, e0⟩ := Option.ne_none_iff_exists'.1 (down 2 0 (by kernel_rfl) (by rw [e2]; simp))
      simp [zao, zav, hq, e0, e2]
    case fin =>
     intro a' W f hz hdf hkp hBW hf hV hX
     have hdone : (∃ v, f 0 = some v) ∧ (∃ v, f 2 = some v) ∧ (∃ v, f 6 = some v) := ⟨⟨_, hf 0 111 (by kernel_rfl)⟩, ⟨_, hf 2 113 (by kernel_rfl)⟩, ⟨_, hf 6 117 (by kernel_rfl)⟩⟩
     have hL : zah f L1 [(2, 1, [[101, 108, 115, 101]]), (6, 5, LEk)] = (L1 ++ [[101, 108, 115, 101]] ++ LEk) := by
      obtain ⟨⟨_, _⟩, ⟨_, e2⟩, ⟨_, e6⟩⟩ := hdone
      simp [zah, e2, e6]
     obtain ⟨hown, _⟩ := hX.1.2.2 _ (hX.1.1 _ (hf 7 3 (by kernel_rfl)))
     rw [hL] at hown
     have HB3 := za3 (toB W hBW)
     rw [zd3 hz rfl hdf hkp]
     have HR : Hid (W.ownsRow w.heap.size 9 1 (a'.tmps.getD 3 undef) (LL Ls (k + 1)).length (zcg (LL Ls (k + 1)))) := by rw [za0 HFI]; exact za3 (by simpa using hown)
     clear hf hV hX hkp hdone hL cE cKE sB sB2 hbs toB ofB hown
     generalize hv4 : a'.tmps.getD 3 undef = v4 at HR
     simp only [List.foldl, Option.getD]
     rw [hv4]
     go_wp2
     go_roundw
     case rel => exact ⟨k + 1, _, by go_num, rfl, by omega, ⟨za0 HR, za0 HB3⟩⟩
     case measure => simp [intOf]; omega
  ·have hln : L0.length + (stL 5 S LT LX LB LE e).length ≤ 400000 := za0 HLN2
   obtain ⟨vo, hvo⟩ : ∃ vo, vo = Value.slice pv L0.length cv := ⟨_, rfl⟩
   obtain ⟨LBk, hLBd⟩ : ∃ LBk, LBk = blkS LB := ⟨_, rfl⟩
   have hLBk : 0 < LBk.length := by rw [hLBd]; simp [blkS]
   have hst : 1 + LX.length + LBk.length + 0 = (stL 5 S LT LX LB LE e).length := by rw [hLBd]; simp [stL]; omega
   rw [← hvo] at RUN
   rw [← hvo]
   clear hvo
   obtain ⟨B, hBd⟩ : ∃ B : World → Prop, B = fun W => Below w.heap.size w W := ⟨_, rfl⟩
   have toB : ∀ W, B W → Below w.heap.size w W := fun W h => by rw [hBd] at h; exact h
   have ofB : ∀ W, Below w.heap.size w W → B W := fun W h => by rw [hBd]; exact h
   have sB : ∀ W W', B W → Below W.heap.size W W' → B W' := fun W W' h hb => ofB _ (bon (toB _ h) hb)
   have sB2 : ∀ W W', B W → Below w.heap.size W W' → B W' := fun W W' h hb => ofB _ ((toB _ h).trans hb)
   have hbs : ∀ W, B W → w.heap.size ≤ W.heap.size := fun W h => (toB W h).size
   have cB : ∀ W, (B W ∧ Kept w1 b0 W) → W.cell? ⟨wr.heap.size, 5, none⟩ = some (.slice pb b cb) := fun W h => (za0 CELL W h.2).2.1
   have cK : ∀ W, (B W ∧ Kept w1 b0 W) → Leaves 62 #[.slice pb b cb] W LBk := fun W h => by rw [hLBd]; exact za0 HCB (by omega) W (toB W h.1)
   have HLBD := za3 hLBd
   clear HCT HCB hLBd HLN2
   go_wp2_with fail
   refine zbq (n := 119) (by kernel_rfl) (by kernel_rfl) (by kernel_rfl) rfl B (VP (vS22 wr.heap.size (.slice pb b cb))) (XCo w1 b0 w.heap.size 0 9 (some vo) L0 [(2, 1, [[119, 104, 105, 108, 101]]), (4, 3, LX), (8, 7, LBk)])
    (ofB _ (zad (za0 HB1))) (XCo.run ((za0 RUN).below (zad (Below.refl _ _)))) ?each ?fin
   case each =>
    refine ⟨?_, ?_, ?_, ?_, ?_, ?_, ?_, ?_, ?_, ?_, trivial⟩
    ·refine OGoal.start rfl (by decide) (by simp) rfl rfl rfl (fun f down hno => ?_) (fun a' f hkp hlt hzn => ?_)
     ·have e2 := za7 down (i := 2) (j := 0) (by kernel_rfl) hno
      have e4 := za7 down (i := 4) (j := 2) (by kernel_rfl) e2
      have e8 := za7 down (i := 8) (j := 4) (by kernel_rfl) e4
      have e9 := za7 down (i := 9) (j := 8) (by kernel_rfl) e8
      exact ⟨e9, by simp [e2, e4, e8]⟩
     ·exact hlt 3 9 (by kernel_rfl) hzn
    ·exact OGoal.src (M := [[119, 104, 105, 108, 101]]) sB (by decide) (by decide) (by simp) rfl (fun a' W hz hkp hBW dep => ⟨za1 rfl, zcy (s := ⟨#[119, 104, 105, 108, 101]⟩) rfl rfl ⟨_, rfl, al1 _ _, src1 W [119, 104, 105, 108, 101]⟩⟩)
    ·refine OGoal.app (q := 0) (s := 1) (Lq := L0) (M := [[119, 104, 105, 108, 101]]) sB2 hbs (by decide) rfl rfl rfl rfl (by simp) (by simp) (by simp; omega) (by simp) (by kernel_rfl) (by kernel_rfl) (by kernel_rfl) (by kernel_rfl) (fun f v down hno hq => ?_)
     have e4 := za7 down (i := 4) (j := 2) (by kernel_rfl) hno
     have e8 := za7 down (i := 8) (j := 4) (by kernel_rfl) e4
     have e9 := za7 down (i := 9) (j := 8) (by kernel_rfl) e8
     exact ⟨e9, by simp [zao, zav, hq, hno], by simp [zah, hno], fun x => ⟨by simp [zao, zav, zbx, hq, e4], by simp [zah, zbx, e4]⟩⟩
    ·exact OGoal.old (LX := LX) (by decide) (by decide) (by simp) rfl rfl rfl (za0 SX) (za0 EX) (fun a' hkp => hkp 6 (by kernel_rfl))
    ·refine OGoal.app (q := 2) (s := 3) (Lq := (L0 ++ [[119, 104, 105, 108, 101]])) (M := LX) sB2 hbs (by decide) rfl rfl rfl rfl (by simp) hLX (by simp; omega) (by simp) (by kernel_rfl) (by kernel_rfl) (by kernel_rfl) (by kernel_rfl) (fun f v down hno hq => ?_)
     obtain ⟨v0, e0⟩ := Option.ne_none_iff_exists'.1 (down 2 0 (by kernel_rfl) (by rw [hq]; simp))
     have e8 := za7 down (i := 8) (j := 4) (by kernel_rfl) hno
     have e9 := za7 down (i := 9) (j := 8) (by kernel_rfl) e8
     exact ⟨e9, by simp [zao, zav, e0, hq, hno], by simp [zah, hq, hno], fun x => ⟨by simp [zao, zav, zbx, e0, hq, e8], by simp [zah, zbx, hq, e8]⟩⟩
    ·exact OGoal.plain sB (by decide) (by decide) (by simp) (fun a' W f hz hkp hlt hBW hno down dep => ⟨za1 rfl, zk6 (by decide) rfl (show a'.eval (.tmp 5) = Value.pointer (some ⟨wr.heap.size, 0, none⟩) from hkp 5 (by kernel_rfl)) ⟨_, rfl, Below.refl _ _, rfl⟩⟩)
    ·exact OGoal.plain sB (by decide) (by decide) (by simp) (fun a' W f hz hkp hlt hBW hno down dep => ⟨za1 rfl, zgd rfl (dep 5 92 _ (by kernel_rfl) (by kernel_rfl) rfl) (cB W hBW) ⟨_, rfl, Below.refl _ _, rfl⟩⟩)
    ·exact OGoal.src (M := LBk) sB (by decide) (by decide) (by simp) rfl (fun a' W hz hkp hBW dep => ⟨za1 rfl, zcw rfl (dep 6 93 _ (by kernel_rfl) (by kernel_rfl) rfl) zha ((cK W hBW).mono fun e w' ⟨⟨u, he, h1⟩, hb⟩ => ⟨u, he, u, rfl, hb, SRow.of_owns h1, fun g hg => h1.lt g hg⟩)⟩)
    ·refine OGoal.app (q := 4) (s := 7) (Lq := (L0 ++ [[119, 104, 105, 108, 101]] ++ LX)) (M := LBk) sB2 hbs (by decide) rfl rfl rfl rfl (by simp) hLBk (by simp; omega) (by simp) (by kernel_rfl) (by kernel_rfl) (by kernel_rfl) (by kernel_rfl) (fun f v down hno hq => ?_)
     obtain ⟨v2, e2⟩ := Option.ne_none_iff_exists'.1 (down 4 2 (by kernel_rfl) (by rw [hq]; simp))
     obtain ⟨v0, e0⟩ := Option.ne_none_iff_exists'.1 (down 2 0 (by kernel_rfl) (by rw [e2]; simp))
     have e9 := za7 down (i := 9) (j := 8) (by kernel_rfl) hno
     exact ⟨e9, by simp [zao, zav, e0, e2, hq, hno], by simp [zah, e2, hq, hno], fun x => ⟨by simp [zao, zav, zbx, e0, e2, hq], by simp [zah, zbx, e2, hq]⟩⟩
    ·refine OGoal.last (q := 8) (by decide) (by simp) rfl rfl rfl (by kernel_rfl) (by kernel_rfl) (fun f v down hq => ?_)
     obtain ⟨v4, e4⟩ := Option.ne_none_iff_exists'.1 (down 8 4 (by kernel_rfl) (by rw [hq]; simp))
     obtain ⟨v2, e2⟩ := Option.ne_none_iff_exists'.1 (down 4 2 (by kernel_rfl) (by rw [e4]; simp))
     obtain ⟨v0, e0⟩ := Option.ne_none_iff_exists'.1 (down 2 0 (by kernel_rfl) (by rw [e2]; simp))
     simp [zao, zav, hq, e0, e2, e4]
   case fin =>
    intro a' W f hz hdf hkp hBW hf hV hX
    have hdone : (∃ v, f 0 = some v) ∧ (∃ v, f 2 = some v) ∧ (∃ v, f 4 = some v) ∧ (∃ v, f 8 = some v) := ⟨⟨_, hf 0 87 (by kernel_rfl)⟩, ⟨_, hf 2 89 (by kernel_rfl)⟩, ⟨_, hf 4 91 (by kernel_rfl)⟩, ⟨_, hf 8 95 (by kernel_rfl)⟩⟩
    have hL : zah f L0 [(2, 1, [[119, 104, 105, 108, 101]]), (4, 3, LX), (8, 7, LBk)] = (L0 ++ [[119, 104, 105, 108, 101]] ++ LX ++ LBk) := by
     obtain ⟨⟨_, _⟩, ⟨_, e2⟩, ⟨_, e4⟩, ⟨_, e8⟩⟩ := hdone
     simp [zah, e2, e4, e8]
    obtain ⟨hown, _⟩ := hX.1.2.2 _ (hX.1.1 _ (hf 9 3 (by kernel_rfl)))
    rw [hL] at hown
    have HB2 := za3 (toB W hBW)
    rw [zd3 hz rfl hdf hkp]
    have HR : Hid (W.ownsRow w.heap.size 9 1 (a'.tmps.getD 3 undef) (LL Ls (k + 1)).length (zcg (LL Ls (k + 1)))) := by rw [za0 HLS, show stL 5 S LT LX LB LE e = [[119, 104, 105, 108, 101]] ++ LX ++ LBk by rw [za0 HLBD]; rfl]; exact za3 (by simpa using hown)
    clear hf hV hX hkp hdone hL cB cK sB sB2 hbs toB ofB hown
    generalize hv3 : a'.tmps.getD 3 undef = v3 at HR
    simp only [List.foldl, Option.getD]
    rw [hv3]
    go_wp2
    go_roundw
    case rel => exact ⟨k + 1, _, by go_num, rfl, by omega, ⟨za0 HR, za0 HB2⟩⟩
    case measure => simp [intOf]; omega
  ·have hln : L0.length + (stL 6 S LT LX LB LE e).length ≤ 400000 := za0 HLN2
   have hst : (stL 6 S LT LX LB LE e).length = 1+LX.length+1 := by simp [stL] <;> omega
   obtain ⟨g1, n1, q1, W1, E1, R1, B1⟩ := (za0 RUN).one [114, 101, 116, 117, 114, 110] (by first | omega | (simp; omega))
   obtain ⟨g2, n2, q2, W2, E2, R2, B2⟩ := R1.take (za0 SX) (za0 EX) hLX (by first | omega | (simp; omega))
   obtain ⟨g3, n3, q3, W3, E3, R3, B3⟩ := R2.one [59] (by first | omega | (simp; omega))
   have HE1 := za3 E1
   have HE2 := za3 E2
   have HE3 := za3 E3
   have hR := R3.1
   rw [show (((L0 ++ [[114, 101, 116, 117, 114, 110]]) ++ LX) ++ [[59]]) = LL Ls (k + 1) by rw [za0 HLS]; simp [stL]] at hR
   have HR := za3 hR
   have HBZ := za3 (((((za0 HB1)).trans B1).trans B2).trans B3)
   clear E1 R1 B1 E2 R2 B2 E3 R3 B3 hR hln hst RUN SX EX EB CELL HB1 HLS HLN2 HCT HCB HCE
   go_wp2_with (first
    | (at_builtin; refine za4 rfl (.tmp 71) (.tmp 72) 25 rfl rfl rfl (za0 HE1) ?_; clear HE1)
    | (at_builtin; refine za4 rfl (.tmp 73) (.tmp 74) 25 rfl rfl rfl (za0 HE2) ?_; clear HE2)
    | (at_builtin; refine za4 rfl (.tmp 75) (.tmp 76) 25 rfl rfl rfl (za0 HE3) ?_; clear HE3))
   go_roundw
   case rel => exact ⟨k + 1, _, by go_num, rfl, by omega, ⟨za0 HR, za0 HBZ⟩⟩
   case measure => simp [intOf]; omega
  ·have hln : L0.length + (stL 7 S LT LX LB LE e).length ≤ 400000 := za0 HLN2
   have hst : (stL 7 S LT LX LB LE e).length = LX.length+1 := by simp [stL] <;> omega
   obtain ⟨g1, n1, q1, W1, E1, R1, B1⟩ := (za0 RUN).take (za0 SX) (za0 EX) hLX (by first | omega | (simp; omega))
   obtain ⟨g2, n2, q2, W2, E2, R2, B2⟩ := R1.one [59] (by first | omega | (simp; omega))
   have HE1 := za3 E1
   have HE2 := za3 E2
   have hR := R2.1
   rw [show ((L0 ++ LX) ++ [[59]]) = LL Ls (k + 1) by rw [za0 HLS]; simp [stL]] at hR
   have HR := za3 hR
   have HBZ := za3 ((((za0 HB1)).trans B1).trans B2)
   clear E1 R1 B1 E2 R2 B2 hR hln hst RUN SX EX EB CELL HB1 HLS HLN2 HCT HCB HCE
   go_wp2_with (first
    | (at_builtin; refine za4 rfl (.tmp 80) (.tmp 81) 25 rfl rfl rfl (za0 HE1) ?_; clear HE1)
    | (at_builtin; refine za4 rfl (.tmp 82) (.tmp 83) 25 rfl rfl rfl (za0 HE2) ?_; clear HE2))
   go_roundw
   case rel => exact ⟨k + 1, _, by go_num, rfl, by omega, ⟨za0 HR, za0 HBZ⟩⟩
   case measure => simp [intOf]; omega
theorem cn_types {D : Nat} : ∀ ts : List (Ty D), cn (ts.flatMap (zac D false)) ≤ 4 * szL D ts
 | [] => by simp [zb8, szL]
 | t :: r => by
  have h1 := zi8 D false t
  have h2 := cn_types r
  rw [List.flatMap_cons, zan]
  simp only [szL, List.map_cons, List.sum_cons] at h2 ⊢
  omega
theorem cn_first {D d : Nat} (xs : List (Ex D d)) : cn ((xs[0]?.map (zij D d)).getD []) ≤ 9 * ze9 D d xs := by
 cases xs with
 | nil => simp [zb8]
 | cons x r =>
  have h1 := ex_cnt D d x
  show cn (zij D d x) ≤ _
  simp only [ze9, List.map_cons, List.sum_cons]
  omega
theorem stT_cnt (K : Int) (S : Bs) (ty x b e : List Tok) (ne : Nat) : cn (stT K S ty x b e ne) ≤ 6 + cn ty + cn x + cn b + cn e := by
 unfold stT
 by_cases k4 : K = 4
 ·rw [if_pos k4]
  by_cases h : 0 < ne
  ·rw [if_pos h]; simp only [zag, zan, zb8]; omega
  ·rw [if_neg h]; simp only [zag, zan, zb8]; omega
 ·rw [if_neg k4]
  by_cases k5 : K = 5
  ·rw [if_pos k5]; simp only [zag, zan, zb8]; omega
  ·rw [if_neg k5]
   by_cases k1 : K = 1
   ·rw [if_pos k1]; simp only [zag, zan, zb8]; omega
   ·rw [if_neg k1]
    by_cases k2 : K = 2
    ·rw [if_pos k2]; simp only [zag, zan, zb8]; omega
    ·rw [if_neg k2]
     by_cases k3 : K = 3
     ·rw [if_pos k3]; simp only [zag, zan, zb8]; omega
     ·rw [if_neg k3]
      by_cases k6 : K = 6
      ·rw [if_pos k6]; simp only [zag, zan, zb8]; omega
      ·rw [if_neg k6]; simp only [zag, zan, zb8]; omega
theorem st_cnt (D d : Nat) : ∀ (m : Nat) (ss : List (St D d m)), cn (zf3 D d m ss) ≤ 9 * zey D d m ss
 | 0, _ => by simp [zf3, zb8]
 | m + 1, ss => by
  rw [zf3, zey]
  induction ss with
  | nil => simp [zb8]
  | cons s r ih =>
   rw [List.flatMap_cons, zan, List.map_cons, List.sum_cons]
   have h1 := stT_cnt (zhh s) (zc7 s) ((sT s).flatMap (zac D false)) (((sX s)[0]?.map (zij D d)).getD []) (zf3 D d m (sB s)) (zf3 D d m (sE s)) (sE s).length
   have h2 := cn_types (sT s)
   have h3 := cn_first (sX s)
   have h4 := st_cnt D d m (sB s)
   have h5 := st_cnt D d m (sE s)
   omega
theorem stS_le (D d m : Nat) (ss : List (St D d m)) : (stS D d m ss).length ≤ 9 * zey D d m ss := by
 have := st_cnt D d m ss
 rw [stS, List.length_map]
 exact this
theorem zg8 {K : Int} {S : Bs} {t x b e : Nat} {tk : Bool} (h : zf7 K S t x b e tk = true) : x = 1 ∧ (1 ≤ K ∧ K ≤ 7) ∧ (K = 1 → t ≤ 1 ∧ tk = true) ∧ (K = 2 → tk = true) ∧ (K ≠ 1 → t = 0) := by
 unfold zf7 at h
 rw [Bool.and_eq_true, decide_eq_true_eq] at h
 obtain ⟨hx, h⟩ := h
 refine ⟨hx, ?_⟩
 by_cases k1 : K = 1
 ·subst k1
  simp at h
  exact ⟨by omega, fun _ => ⟨by omega, h.2⟩, fun h => by omega, fun h => absurd rfl h⟩
 rw [if_neg k1] at h
 by_cases k2 : K = 2
 ·subst k2
  simp at h
  exact ⟨by omega, fun h => by omega, fun _ => h.2, fun _ => by omega⟩
 rw [if_neg k2] at h
 by_cases k3 : K = 3 ∨ K = 6 ∨ K = 7
 ·rw [if_pos k3] at h
  simp at h
  exact ⟨by omega, fun h => absurd h k1, fun h => absurd h k2, fun _ => by omega⟩
 rw [if_neg k3] at h
 by_cases k4 : K = 4
 ·rw [if_pos k4] at h
  simp at h
  exact ⟨by omega, fun h => absurd h k1, fun h => absurd h k2, fun _ => by omega⟩
 rw [if_neg k4] at h
 by_cases k5 : K = 5
 ·rw [if_pos k5] at h
  simp at h
  exact ⟨by omega, fun h => absurd h k1, fun h => absurd h k2, fun _ => by omega⟩
 rw [if_neg k5] at h
 cases h
theorem zgf {D d m : Nat} {room : Int} {ss : List (St D d (m + 1))} (h : zb4 D d (m + 1) room ss = true) : ∀ s ∈ ss, zff D d m s = true ∧ zak D 64 (sT s) = true ∧ (∀ x ∈ (sX s), (sX s).length = 1 → zbi D d 64 x = true) ∧ zb4 D d m (room - 1) (sB s) = true ∧ zb4 D d m (room - 1) (sE s) = true := fun s hs => by
 rw [zb4, List.all_eq_true] at h
 have := h s hs
 simp only [Bool.and_eq_true] at this
 obtain ⟨⟨⟨⟨⟨_, h1⟩, h2⟩, h3⟩, h4⟩, h5⟩ := this
 refine ⟨h1, h2, fun x hx hl => ?_, h4, h5⟩
 obtain ⟨y, hy⟩ := List.length_eq_one_iff.1 hl
 rw [hy] at hx h3
 obtain rfl : x = y := by simpa using hx
 exact h3
theorem iteB {p : Prop} [Decidable p] {P : List Tok → Prop} {a b : List Tok} (ha : p → P a) (hb : ¬ p → P b) : P (if p then a else b) := by
 by_cases h : p
 ·rw [if_pos h]; exact ha h
 ·rw [if_neg h]; exact hb h
theorem stT_short {B : Nat} {K : Int} {S : Bs} {ty x b e : List Tok} {ne : Nat} (hB : 25 ≤ B) (hS : S.length ≤ B) (h1 : Sh B ty) (h2 : Sh B x) (h3 : Sh B b) (h4 : Sh B e) : Sh B (stT K S ty x b e ne) := by
 have b1 : 1 ≤ B := by omega
 have b2 : 2 ≤ B := by omega
 have b3 : 3 ≤ B := by omega
 have b4 : 4 ≤ B := by omega
 have b5 : 5 ≤ B := by omega
 have b6 : 6 ≤ B := by omega
 unfold stT
 refine iteB (P := Sh B) (fun _ => ?_) fun _ => iteB (P := Sh B) (fun _ => ?_) fun _ => ?_
 ·exact sh_W b2 (zb5 (zb5 h2 (sh_S b1 (zb5 h3 (sh_S b1 zby)))) (sh_ite (sh_W b4 (sh_S b1 (zb5 h4 (sh_S b1 zby)))) zby))
 ·exact sh_W b5 (zb5 h2 (sh_S b1 (zb5 h3 (sh_S b1 zby))))
 ·exact zb5 (sh_ite (sh_W b3 (sh_N hS (zb5 h1 (sh_S b1 zby)))) (sh_ite (sh_N hS (sh_S b1 zby)) (sh_ite (sh_W b5 zby) (sh_ite (sh_W b6 zby) zby)))) (zb5 h2 (sh_S b1 zby))
theorem st_short (D d Z : Nat) : ∀ (m : Nat) (room : Int) (ss : List (St D d m)), zb4 D d m room ss = true → zey D d m ss ≤ Z → Sh (20 * Z + 25) (zf3 D d m ss)
 | 0, _, _, _, _ => zby
 | m + 1, room, ss, hr, hz => sh_flat fun s hs => by
  obtain ⟨h1, h2, h3, h4, h5⟩ := zgf hr s hs
  obtain ⟨f1, _⟩ := zg8 h1
  have hsz : 1 + (zc7 s).length + szL D (sT s) + ze9 D d (sX s) + zey D d m (sB s) + zey D d m (sE s) ≤ Z := by
   refine Nat.le_trans ?_ hz
   rw [zey]; exact zet (List.mem_map.2 ⟨s, hs, rfl⟩)
  refine stT_short (by omega) (by omega) (sh_flat fun t ht x hx => ?_) (sh_opt fun x hx => ?_) (st_short D d Z m _ _ h4 (by omega)) (st_short D d Z m _ _ h5 (by omega))
  ·have g1 := spaced_in hx
   have g2 := toks_len D false t
   have g3 : szD D t ≤ szL D (sT s) := ze6 ht
   unfold fl at g2
   omega
  ·have g3 : szX D d x ≤ ze9 D d (sX s) := zet (List.mem_map.2 ⟨x, hx, rfl⟩)
   exact ex_short D Z d x ⟨_, h3 x hx f1⟩ (by omega)
theorem stT_sound {K : Int} {S : Bs} {ty x b e : List Tok} {ne : Nat} (hS : K = 1 ∨ K = 2 → sound (tN S) = true) (h1 : ty.all sound = true) (h2 : x.all sound = true) (h3 : b.all sound = true) (h4 : e.all sound = true) : (stT K S ty x b e ne).all sound = true := by
 unfold stT
 refine iteB (P := fun l => l.all sound = true) (fun _ => ?_) fun _ => iteB (P := fun l => l.all sound = true) (fun _ => ?_) fun _ => ?_
 ·exact zb0 (by decide +kernel) (zcz (zcz h2 (zb0 (by decide +kernel) (zcz h3 (by decide +kernel)))) (snd_ite (zb0 (by decide +kernel) (zb0 (by decide +kernel) (zcz h4 (by decide +kernel)))) rfl))
 ·exact zb0 (by decide +kernel) (zcz h2 (zb0 (by decide +kernel) (zcz h3 (by decide +kernel))))
 ·refine zcz (iteB (P := fun l => l.all sound = true) (fun k => ?_) fun _ => iteB (P := fun l => l.all sound = true) (fun k => ?_) fun _ => snd_ite (by decide +kernel) (snd_ite (by decide +kernel) rfl)) (zcz h2 (by decide +kernel))
  ·exact zb0 (by decide +kernel) (zb0 (hS (.inl k)) (zcz h1 (by decide +kernel)))
  ·exact zb0 (hS (.inr k)) (by decide +kernel)
theorem st_sound (D d : Nat) : ∀ (m : Nat) (room : Int) (ss : List (St D d m)), zb4 D d m room ss = true → (zf3 D d m ss).all sound = true
 | 0, _, _, _ => rfl
 | m + 1, room, ss, hr => by
  rw [zf3, List.all_flatMap, List.all_eq_true]
  intro s hs
  obtain ⟨h1, h2, h3, h4, h5⟩ := zgf hr s hs
  obtain ⟨f1, _, f3, f4, _⟩ := zg8 h1
  refine stT_sound (fun hk => ?_) ?_ (zgp fun x hx => ex_sound D d x ⟨_, h3 x hx f1⟩) (st_sound D d m _ _ h4) (st_sound D d m _ _ h5)
  ·rcases hk with hk | hk
   ·exact (f3 hk).2
   ·exact f4 hk
  ·rw [List.all_flatMap, List.all_eq_true]
   exact fun t ht => zj3 D false t 64 (zf9 h2 t ht)
theorem st_text {D d m : Nat} {ss : List (St D d m)} (h : zb4 D d m 64 ss = true) : zex (stS D d m ss) = zfh D d m ss := by
 rw [zfh, if_pos h]
 exact text_join (st_sound D d m _ ss h)
theorem stS_short {D d m : Nat} {room : Int} {ss : List (St D d m)} (hr : zb4 D d m room ss = true) {s : Bs} (h : s ∈ stS D d m ss) : s.length ≤ 20 * zey D d m ss + 25 := by
 obtain ⟨t, ht, rfl⟩ := List.mem_map.1 h
 exact st_short D d _ m room ss hr (Nat.le_refl _) t ht
theorem range_flat {α β : Type} (f : α → List β) : ∀ l : List α, (List.range l.length).flatMap (fun i => (l[i]?.map f).getD []) = l.flatMap f
 | [] => rfl
 | x :: r => by
  have ih := range_flat f r
  rw [List.length_cons, List.range_succ_eq_map, List.flatMap_cons, List.flatMap_map, List.flatMap_cons, ← ih]
  rfl
def ListedAt (D d m : Nat) : Prop := ∀ (ss : List (St D d m)) (p : Option Addr) (c : Nat) (w : World), StRow w D d m (.slice p ss.length c) ss → (∃ room, zb4 D d m room ss = true) → zey D d m ss ≤ 30000 → Leaves 17 #[.slice p ss.length c] w (stS D d m ss)
theorem LL_stS (D d m : Nat) (ss : List (St D d (m + 1))) : LL (fun i => (ss[i]?.map fun s => (stTk D d m s).map za5).getD []) ss.length = stS D d (m + 1) ss := by
 unfold LL stS
 rw [range_flat, zf3, List.map_flatMap]
 rfl
theorem listed_any (D d : Nat) : ∀ m, ListedAt D d m
 | 0 => fun ss p c w _ _ _ => by
  match ss with
  | [] => exact lst_run p 0 c w (fun _ => []) (by omega) (by simp [LL]) fun k hk => absurd hk (by omega)
  | s :: _ => exact nomatch s
 | m + 1 => fun ss p c w hv hr hz => by
  have IH := listed_any D d m
  obtain ⟨room, hr⟩ := hr
  have hle := stS_le D d (m + 1) ss
  have hlen : ss.length ≤ zey D d (m + 1) ss := by
   clear hz hv hr hle
   rw [zey]
   induction ss with
   | nil => simp
   | cons x r ih =>
    simp only [List.map_cons, List.sum_cons, List.length_cons]
    omega
  rw [← LL_stS]
  rw [← LL_stS] at hle
  refine lst_run p ss.length c w _ (by omega) (by omega) fun k hk => ?_
  obtain ⟨p1, c1, e, hp⟩ := hv
  injection e with e1 _ _
  subst e1
  have hk' : ss[k]? = some ss[k] := by simp
  obtain ⟨g, o, vt, vx, vb, ve, rfl, a0, a1, a2, a3, a4, a5, a6, r1, ⟨r2, rc⟩, r3, r4⟩ := hp k ss[k] hk'
  obtain ⟨h1, h2, h3, h4, h5⟩ := zgf hr ss[k] (by simp)
  obtain ⟨f1, ⟨f2, f2'⟩, f3, _, f5⟩ := zg8 h1
  have hsz : 1 + (zc7 ss[k]).length + szL D (sT ss[k]) + ze9 D d (sX ss[k]) + zey D d m (sB ss[k]) + zey D d m (sE ss[k]) ≤ 30000 := by
   refine Nat.le_trans ?_ hz
   rw [zey]; exact zet (List.mem_map.2 ⟨ss[k], by simp, rfl⟩)
  rw [hk']
  show LSt w _ k ((stTk D d m ss[k]).map za5)
  generalize ss[k] = s at a0 a1 a2 a3 a4 a5 a6 r1 r2 rc r3 r4 h1 h2 h3 h4 h5 f1 f2 f2' f3 f5 hsz ⊢
  obtain ⟨A, K, S, ts, xs, bs, es⟩ := s
  dsimp only [sAt, zhh, zc7, sT, sX, sB, sE] at *
  obtain ⟨x0, rfl⟩ := List.length_eq_one_iff.1 f1
  obtain ⟨pt, ct, rfl⟩ := r1.slice
  obtain ⟨px, cx, rfl⟩ := r2.slice
  obtain ⟨pb, cb, rfl⟩ := r3.slice
  obtain ⟨pe, ce, rfl⟩ := r4.slice
  have hrx : ∃ room, zbi D d room x0 = true := ⟨_, h3 x0 (by simp) rfl⟩
  have hzx : szX D d x0 ≤ 30000 := by
   have : ze9 D d [x0] = szX D d x0 := by simp [ze9]
   omega
  obtain ⟨u, ⟨gx, ox, A', K', N', S', q1, q2, q3, n1, d1, n2, d2, n3, d3, rfl, rfl, x0', x1, x2, x3, x4, x5, x6⟩, hu⟩ := EV.at r2 rc 0 (by simp)
  simp only [Nat.zero_mul, Nat.add_zero] at x0' x1 x2 x3 x4 x5 x6
  have hlb := stS_le D d m bs
  have hle2 := stS_le D d m es
  refine ⟨g, o, A, K, S, pt, _, pb, pe, ts.length, bs.length, es.length, ct, cx, cb, ce, (ts.flatMap (zac D false)).map za5, exS D d x0, stS D d m bs, stS D d m es, rfl, f2, f2', ⟨a0, a1, a2, a3, a4, a5, a6⟩, ⟨gx, ox, A', K', N', S', q1, q2, q3, n1, n2, n3, d1, d2, d3, rfl, ⟨x0', x1, x2, x3, x4, x5, x6⟩, zec hrx, fun W hW => told_any D d x0 _ W (hu.below hW) hrx hzx⟩, fun hk1 => ?_, fun _ W hW => rblock_any pb _ cb _ W (by omega) fun W' hW' => IH bs pb cb W' (StRow.below (bon hW hW') m r3) ⟨_, h4⟩ (by omega), fun _ _ W hW => rblock_any pe _ ce _ W (by omega) fun W' hW' => IH es pe ce W' (StRow.below (bon hW hW') m r4) ⟨_, h5⟩ (by omega), ?_⟩
  ·have ht := (f3 hk1).1
   match ts, ht with
   | [], _ => exact .inl ⟨rfl, rfl⟩
   | [t], _ =>
    obtain ⟨u, ⟨gt, ot, K2, S2, t1, t2, t3, m1, e1, m2, e2, m3, e3, rfl, rfl, y0, y1, y2, y3, y4⟩, hx⟩ := TyRow.at r1 0 (by simp)
    simp only [Nat.zero_mul, Nat.add_zero] at y0 y1 y2 y3 y4
    have hrt : ∃ room, zci D room t = true := ⟨_, zf9 h2 t (by simp)⟩
    have hszt : szL D [t] = szD D t := by simp [szL]
    have eT : (([t] : List (Ty D)).flatMap (zac D false)).map za5 = tyS D t := by simp [tyS]
    rw [eT]
    exact .inr ⟨rfl, gt, ot, K2, S2, t1, t2, t3, m1, m2, m3, e1, e2, e3, rfl, ⟨y0, y1, y2, y3, y4⟩, zl3 hrt, fun W hW => (typed_any D t _ W (TyValD.below hW hx) hrt (by omega)).mono fun e w' ⟨⟨u, he, ho, _⟩, hb⟩ => ⟨⟨u, he, ho⟩, hb⟩⟩
  ·exact stT_map K S _ _ _ _ _
end Go.Proofs.YtmpbbmfbgcpplaaGreatDoor
