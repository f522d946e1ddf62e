import Derived.Test.YtmpbbmfbgcpplaaGreatDoorQOwnG
import Derived.Test.YtmpbbmfbgcpplaaGreatDoorQRegG
import Derived.Test.YtmpbbmfbgcpplaaGreatDoorQRunsG
namespace Go.Proofs.YtmpbbmfbgcpplaaGreatDoor
open Go Go.RowKit Lx
theorem Left.appends {base : Nat} {v : Value} {ns ms : List Bs} {w : World} {g0 o0 c0 : Nat} (h : w.ownsRow base 9 1 v ns.length (zcg ns)) (hl : base ≤ w.heap.size) (hn : ns.length + ms.length ≤ 1000000) (hm : 0 < ms.length) (hs : SRow w (.slice (some ⟨g0, o0, none⟩) ms.length c0) ms) :
  ∃ (g cap : Nat) (W4 : World), (Builtin.append_ #[25, 25] 25 #[v, .slice (some ⟨g0, o0, none⟩) ms.length c0]).run Tryz.prog w = .ok (.slice (some ⟨g, 0, none⟩) (ns.length + ms.length) cap) W4 ∧ Left base v w (.slice (some ⟨g, 0, none⟩) (ns.length + ms.length) cap) (ns ++ ms) W4 := by
 obtain ⟨i0, hi, hz0, hz1, hz2⟩ := info_parts zig
 obtain ⟨p', c', e', hp⟩ := hs
 injection e' with e1 e2 e3
 subst e1 e3
 have hlt : g0 < w.heap.size := by
  obtain ⟨g, o, e, q⟩ := hp 0 ms[0] (by simp)
  obtain ⟨rfl, rfl⟩ : g0 = g ∧ o0 = o := by simpa using e
  exact za2 q
 obtain ⟨g, cap, W4, hr, how, hgr, hgg, _⟩ := run_append_lies (P := Tryz.prog) w 25 25 base 9 i0 (.string ⟨#[]⟩) 1 16 Tryz.underlying25 hi hz0 hz1 hz2 rfl (by decide) v ns.length _
  h ⟨g0, o0, none⟩ ms.length c0 (zcg ms) (by simp [zcg])
  (fun j x hx => by
   obtain ⟨s, hs, rfl⟩ : ∃ s, ms[j]? = some s ∧ Value.string ⟨s.toArray⟩ = x := by simpa [zcg] using hx
   obtain ⟨g, o, e, q⟩ := hp j s hs
   obtain ⟨rfl, rfl⟩ : g0 = g ∧ o0 = o := by simpa using e
   have ha : (⟨g0, o0, none⟩ : Addr).add j = ⟨g0, o0 + j, none⟩ := by
    by_cases h0 : j = 0 <;> simp [Addr.add, h0]
   rw [ha]; exact q)
  (by intro u hu; simp [zcg] at hu; obtain ⟨s, _, rfl⟩ := hu; rfl) (by omega) (by unfold maxLen; omega) (by omega) (by omega) w.heap.size rfl
 refine ⟨g, cap, W4, hr, by simpa [zcg] using how, (Below.refl _ _).grown hgr (by omega) (fun k ek => (h.lt k ek).1), fun j hj hne => hgr.block j hj hne, ?_⟩
 rcases hgg with e | e
 ·exact .inl e.symm
 ·refine .inr fun g2 e2 => ?_
  have : g = g2 := by simpa [Value.ownBlock] using e2
  omega
open Go Go.RowKit
section
variable {o : Oper} {a : Act} {w : World} {K : Act → World → Prop} {Q : Exit → Act → World → Prop}
theorem zi6 {x y : Operand} {u v r : Value} {t : TypeId} {w' : World} (ho : o.op = .call { callee := .builtin .append, args := #[x, y], argTypes := #[t, t] }) (hx : a.eval x = u) (hy : a.eval y = v) (hr : (Builtin.append_ #[t, t] o.type #[u, v]).run Tryz.prog w = .ok r w') (h : K (a.put o.dst r) w') : o.wp Tryz.prog a w K Q := by
 unfold Oper.wp
 simp [execOp, ho, resolve, invoke, builtin, hx, hy, hr, Result.andThen]
 exact h
theorem op_len {x : Operand} {p : Option Addr} {n c : Nat} (ho : o.op = .call { callee := .builtin .len, args := #[x], argTypes := #[24] }) (hx : a.eval x = .slice p n c) (h : K (a.put o.dst (.int .i64 (n : Int))) w) : o.wp Tryz.prog a w K Q := by
 unfold Oper.wp
 simp [execOp, ho, resolve, invoke, builtin, hx]
 go_simp
 exact h
theorem zju {x : Operand} {b i : Nat} (hi : i < 5) (ho : o.op = .fieldAddr 53 x i) (hx : a.eval x = .pointer (some ⟨b, 0, none⟩)) (h : K (a.put o.dst (.pointer (some ⟨b, i, none⟩))) w) : o.wp Tryz.prog a w K Q := by
 unfold Oper.wp
 match i, hi with
 | 0, _ => simp only [execOp, ho, hx]; go_simp; exact h
 | 1, _ => simp only [execOp, ho, hx]; go_simp; exact h
 | 2, _ => simp only [execOp, ho, hx]; go_simp; exact h
 | 3, _ => simp only [execOp, ho, hx]; go_simp; exact h
 | 4, _ => simp only [execOp, ho, hx]; go_simp; exact h
theorem zcy {x : Operand} {s : ByteArray} (ho : o.op = .buildSlice 25 1 #[(0, x)]) (hx : a.eval x = .string s) (h : K (a.put o.dst (.slice (some ⟨w.heap.size, 0, none⟩) 1 1)) (w.alloc (.cells #[.string s] 9))) : o.wp Tryz.prog a w K Q := by
 unfold Oper.wp
 simp only [execOp, ho, List.map_toArray, List.map_cons, List.map_nil, hx]
 go_simp
 exact h
theorem zfi {x : Operand} {b i : Nat} {s : ByteArray} (ho : o.op = .load 9 x) (hx : a.eval x = .pointer (some ⟨b, i, none⟩)) (h0 : w.cell? ⟨b, i, none⟩ = some (.string s)) (h : K (a.put o.dst (.string s)) w) : o.wp Tryz.prog a w K Q := by
 unfold Oper.wp; simp only [execOp, ho, hx]; go_simp
 exact h
theorem zjs {x : Operand} {b i : Nat} {p : Option Addr} {n c : Nat} (ho : o.op = .load 25 x) (hx : a.eval x = .pointer (some ⟨b, i, none⟩)) (h0 : w.cell? ⟨b, i, none⟩ = some (.slice p n c)) (h : K (a.put o.dst (.slice p n c)) w) : o.wp Tryz.prog a w K Q := by
 unfold Oper.wp; simp only [execOp, ho, hx]; go_simp
 exact h
theorem zjl {x : Operand} {b i : Nat} {p : Option Addr} {n c : Nat} (ho : o.op = .load 24 x) (hx : a.eval x = .pointer (some ⟨b, i, none⟩)) (h0 : w.cell? ⟨b, i, none⟩ = some (.slice p n c)) (h : K (a.put o.dst (.slice p n c)) w) : o.wp Tryz.prog a w K Q := by
 unfold Oper.wp; simp only [execOp, ho, hx]; go_simp
 exact h
theorem zhv {x y : Operand} {g e : Nat} {n c k : Nat} (ho : o.op = .indexAddr 25 x y) (hx : a.eval x = .slice (some ⟨g, e, none⟩) n c) (hy : a.eval y = .int .i64 (k : Int)) (hk : (k : Int) < (n : Int)) (h : K (a.put o.dst (.pointer (some ⟨g, e + k, none⟩))) w) : o.wp Tryz.prog a w K Q := by
 unfold Oper.wp; simp only [execOp, ho, hx, hy]; go_simp
 exact h
theorem zhg {x y : Operand} {g e : Nat} {n c k : Nat} (ho : o.op = .indexAddr 24 x y) (hx : a.eval x = .slice (some ⟨g, e, none⟩) n c) (hy : a.eval y = .int .i64 (k : Int)) (hk : (k : Int) < (n : Int)) (h : K (a.put o.dst (.pointer (some ⟨g, e + k * 5, none⟩))) w) : o.wp Tryz.prog a w K Q := by
 unfold Oper.wp; simp only [execOp, ho, hx, hy]; go_simp
 exact h
end
structure YInv (ops : Array Oper) (a0 : Act) (B : World → Prop) (V : Nat → Value → World → Prop) (X : (Nat → Option Value) → World → Prop) (listed : Array Bool) (a : Act) (w : World) (f : Nat → Option Value) : Prop where
 size : listed.size = ops.size
 slots : a.tmps.size = a0.tmps.size
 defers : a.defers = a0.defers
 kept : ∀ t, noB ops t = true → a.tmps.getD t undef = a0.tmps.getD t undef
 late : ∀ t j, (ops[j]?).bind (·.dst) = some t → f j = none → a.tmps.getD t undef = a0.tmps.getD t undef
 base : B w
 yes : ∀ i d, (ops[i]?).bind (·.dst) = some d → listed.getD i false = true → f i = some (a.tmps.getD d undef)
 no : ∀ i, listed.getD i false = false → f i = none
 done : ∀ i v, f i = some v → V i v w
 down : ∀ i j, Region.waitsFor .any ops i j = true → f i ≠ none → f j ≠ none
 more : X f w
def YGoal (P : Program) (ops : Array Oper) (Q : Exit → Act → World → Prop) (a0 : Act) (n : Nat) (B : World → Prop) (V : Nat → Value → World → Prop) (X : (Nat → Option Value) → World → Prop) (i : Nat) (o : Oper) : Prop :=
 ∀ (a : Act) (w : World) (f : Nat → Option Value), a.tmps.size = n → a.defers = a0.defers → (∀ t, noB ops t = true → a.tmps.getD t undef = a0.tmps.getD t undef) → (∀ t j, (ops[j]?).bind (·.dst) = some t → f j = none → a.tmps.getD t undef = a0.tmps.getD t undef) → B w → (∀ j v, f j = some v → V j v w) → X f w → f i = none → (∀ i j, Region.waitsFor .any ops i j = true → f i ≠ none → f j ≠ none) → (∀ j d, (ops[j]?).bind (·.dst) = some d → Region.waitsFor .any ops i j = true → f j = some (a.tmps.getD d undef)) →
  Region.wanted o (yielded ops a.tmps) = true ∧ o.wp P a w (fun a' w' => ∃ v, a' = a.put o.dst v ∧ B w' ∧ V i v w' ∧ (∀ j u, f j = some u → V j u w') ∧ X (zbx f i v) w') Q
theorem zbq {P : Program} {id n : Nat} {ops : Array Oper} {Q : Exit → Act → World → Prop} {a0 : Act} {w : World} (hm : P.follows .mixedOrders = true) (hd : destB ops n = true) (hk : backB ops = true) (hn : a0.tmps.size = n) (B : World → Prop) (V : Nat → Value → World → Prop) (X : (Nat → Option Value) → World → Prop) (hB : B w.drew) (hX : X (fun _ => none) w.drew)
  (each : EachOp (YGoal P ops Q a0 n B V X) ops.toList 0)
  (fin : ∀ (a : Act) (w : World) (f : Nat → Option Value), a.tmps.size = n → a.defers = a0.defers → (∀ t, noB ops t = true → a.tmps.getD t undef = a0.tmps.getD t undef) → B w → (∀ j d, (ops[j]?).bind (·.dst) = some d → f j = some (a.tmps.getD d undef)) → (∀ j v, f j = some v → V j v w) → X f w → Q .normal a w) :
  (Code.region id ops true).wp P Q a0 w := by
 refine wp_region_any hm (zi0 (fun listed a w => ∃ f, YInv ops a0 B V X listed a w f) (fun _ _ _ ⟨_, h⟩ => h.size) ?_ ?_ ops.size (Array.replicate ops.size false) a0 _ ⟨fun _ => none, by simp, rfl, rfl, fun _ _ => rfl, fun _ _ _ _ => rfl, hB, ?_, fun _ _ => rfl, (fun _ _ h => nomatch h), (fun _ _ _ h => absurd rfl h), hX⟩ ?_)
 ·rintro listed a u i ⟨f, h⟩ hi
  have hi' := List.mem_filter.1 hi
  have hlt : i < ops.size := List.mem_range.1 hi'.1
  have ho : ops[i]? = some ops[i] := by simp [hlt]
  obtain ⟨d, e1, e2, e3⟩ := dest_of hd ho
  have hp := hi'.2
  rw [ho] at hp
  simp only [Bool.and_eq_true, Option.map_some, Option.getD_some] at hp
  have hil : i < listed.size := by rw [h.size]; exact hlt
  have hno : listed.getD i false = false := by
   have := hp.1
   simp only [Bool.not_eq_true'] at this
   simp only [Array.getD, hil, dite_true] at this ⊢
   exact this
  have hw : ∀ j d', (ops[j]?).bind (·.dst) = some d' → Region.waitsFor .any ops i j = true → f j = some (a.tmps.getD d' undef) := fun j d' hj hwait => by
   obtain ⟨oi, hoi, e, he, hb, rfl⟩ := Region.waitsFor_spec hwait
   rw [ho] at hoi
   obtain rfl := Option.some.inj hoi
   have := Array.all_eq_true'.1 hp.2 e he
   rw [hb] at this
   exact h.yes _ d' hj (by simpa using this)
  have hg := each_of _ _ each i ops[i] (by simp [hlt])
  rw [Nat.zero_add] at hg
  obtain ⟨h1, h2⟩ := hg a u f (h.slots.trans hn) h.defers h.kept h.late h.base h.done h.more (h.no i hno) h.down hw
  rw [wpOp, ho]
  simp only
  rw [if_pos h1]
  refine .inl (Oper.wp_mono ?_ h2)
  rintro a' w' ⟨v, rfl, hB', hv, hV', hX'⟩
  rw [e1]
  refine ⟨zbx f i v, by simp [h.size], by simp [Act.put, h.slots], by simp [Act.put, h.defers], fun t ht => ?_, fun t j hj hn => ?_, hB', fun j d' hj hl => ?_, fun j hl => ?_, fun j u hj => ?_, fun j m hwt hj => ?_, hX'⟩
  ·rw [zdg (fun e => no_of ht i _ ho (by rw [e1, e])), h.kept t ht]
  ·have hji : j ≠ i := fun e => by rw [e, zat] at hn; cases hn
   rw [za9 _ _ hji] at hn
   obtain ⟨o', ho', hd'⟩ := Option.bind_eq_some_iff.1 hj
   have htd : t ≠ d := fun e => hji (e3 j o' ho' (e ▸ hd'))
   rw [zdg htd, h.late t j hj hn]
  ·by_cases hji : j = i
   ·subst hji
    rw [ho] at hj
    obtain rfl := Option.some.inj (e1.symm.trans hj)
    rw [zjh (by rw [h.slots, hn]; exact e2), zat]
   ·obtain ⟨o', ho', hd'⟩ := Option.bind_eq_some_iff.1 hj
    have hdd : d' ≠ d := fun e => hji (e3 j o' ho' (e ▸ hd'))
    rw [zdg hdd, za9 _ _ hji]
    refine h.yes j d' hj ?_
    rw [← hl]
    simp only [Array.getD_eq_getD_getElem?]
    rw [Array.getElem?_setIfInBounds_ne (Ne.symm hji)]
  ·by_cases hji : j = i
   ·subst hji
    simp [Array.getD, hil] at hl
   ·rw [za9 _ _ hji]
    refine h.no j ?_
    have he : (listed.setIfInBounds i true).getD j false = listed.getD j false := by
     simp only [Array.getD_eq_getD_getElem?]
     rw [Array.getElem?_setIfInBounds_ne (Ne.symm hji)]
    exact he.symm.trans hl
  ·by_cases hji : j = i
   ·subst hji
    rw [zat] at hj
    obtain rfl := Option.some.inj hj
    exact hv
   ·rw [za9 _ _ hji] at hj
    exact hV' j u hj
  ·by_cases hmi : m = i
   ·subst hmi
    rw [zat]; simp
   ·rw [za9 _ _ hmi]
    by_cases hji : j = i
    ·subst hji
     obtain ⟨oi, hoi, e, he, hb, rfl⟩ := Region.waitsFor_spec hwt
     have hlt2 : e.on < ops.size := Nat.lt_trans (back_of hk hoi he hb) hlt
     obtain ⟨d2, k1, _, _⟩ := dest_of hd (show ops[e.on]? = some ops[e.on] by simp [hlt2])
     rw [hw e.on d2 (by simp [hlt2, k1]) hwt]
     simp
    ·rw [za9 _ _ hji] at hj
     exact h.down j m hwt hj
 ·rintro listed a u ⟨f, h⟩ hr
  refine fin a u f (h.slots.trans hn) h.defers h.kept h.base (fun j d hj => ?_) h.done h.more
  obtain ⟨o', ho', hd'⟩ := Option.bind_eq_some_iff.1 hj
  exact h.yes j d hj (all_done hk h.size hr j (Array.getElem?_eq_some_iff.1 ho').1)
 ·intro i d _ hl
  simp [Array.getD] at hl
 ·simp [zf1]
abbrev Link : Type := Nat × Nat × List Bs
def zav (f : Nat → Option Value) : Value → List Link → Value
 | v, [] => v
 | v, k :: r => match f k.1 with
  | none => v
  | some u => zav f u r
def zah (f : Nat → Option Value) : List Bs → List Link → List Bs
 | L, [] => L
 | L, k :: r => match f k.1 with
  | none => L
  | some _ => zah f (L ++ k.2.2) r
def zao (f : Nat → Option Value) (s0 : Nat) (pre : Option Value) (l : List Link) : Option Value :=
 match f s0 with
 | none => pre
 | some v => some (zav f v l)
theorem zi7 {f : Nat → Option Value} {i : Nat} (x : Value) : ∀ (v : Value) (l : List Link), (∀ k ∈ l, k.1 ≠ i) → zav (zbx f i x) v l = zav f v l
 | v, [], _ => rfl
 | v, k :: r, h => by
  unfold zav
  rw [za9 f x (h k (by simp))]
  cases f k.1 with
  | none => rfl
  | some u => exact zi7 x u r fun k hk => h k (by simp [hk])
theorem zgl {f : Nat → Option Value} {i : Nat} (x : Value) : ∀ (L : List Bs) (l : List Link), (∀ k ∈ l, k.1 ≠ i) → zah (zbx f i x) L l = zah f L l
 | L, [], _ => rfl
 | L, k :: r, h => by
  unfold zah
  rw [za9 f x (h k (by simp))]
  cases f k.1 with
  | none => rfl
  | some u => exact zgl x _ r fun k hk => h k (by simp [hk])
theorem zfs {f : Nat → Option Value} {i s0 : Nat} {pre : Option Value} {l : List Link} (x : Value) (h0 : s0 ≠ i) (h : ∀ k ∈ l, k.1 ≠ i) : zao (zbx f i x) s0 pre l = zao f s0 pre l := by
 unfold zao
 rw [za9 f x h0]
 cases f s0 with
 | none => rfl
 | some v => simp only [zi7 x v l h]
def XCh (base s0 z : Nat) (pre : Option Value) (L0 : List Bs) (l : List Link) (f : Nat → Option Value) (W : World) : Prop :=
 (∀ v, f z = some v → zao f s0 pre l = some v) ∧
 (∀ k ∈ l, f k.1 = none → ∀ u, f k.2.1 = some u → SRow W u k.2.2 ∧ ∀ g, u.ownBlock = some g → g < W.heap.size) ∧
 ∀ h, zao f s0 pre l = some h → W.ownsRow base 9 1 h (zah f L0 l).length (zcg (zah f L0 l)) ∧ ∀ k ∈ l, f k.1 = none → ∀ u, f k.2.1 = some u → ∀ g, u.ownBlock = some g → h.ownBlock ≠ some g
theorem XCh.init {base s0 z : Nat} {pre : Option Value} {L0 : List Bs} {l : List Link} {W : World} (h : ∀ v, pre = some v → W.ownsRow base 9 1 v L0.length (zcg L0)) : XCh base s0 z pre L0 l (fun _ => none) W := by
 refine ⟨(fun v hv => nomatch hv), (fun k _ _ u hu => nomatch hu), fun v hv => ⟨?_, (fun k _ _ u hu => nomatch hu)⟩⟩
 have e : zah (fun _ => none) L0 l = L0 := by cases l <;> rfl
 rw [e]
 exact h v hv
theorem XCh.other {base s0 z i : Nat} {pre : Option Value} {L0 : List Bs} {l : List Link} {f : Nat → Option Value} {W W' : World} {v : Value} (hz : i = z → zao f s0 pre l = some v) (h0 : s0 ≠ i) (hi : ∀ k ∈ l, k.1 ≠ i ∧ k.2.1 ≠ i) (h : XCh base s0 z pre L0 l f W) (hb : Below W.heap.size W W') : XCh base s0 z pre L0 l (zbx f i v) W' := by
 have hg := zaa hb
 refine ⟨fun x hx => ?_, fun k hk e u hu => ?_, fun x hx => ?_⟩
 ·rw [zfs v h0 fun k hk => (hi k hk).1]
  by_cases e : z = i
  ·subst e
   rw [zat] at hx
   rw [← hx]; exact hz rfl
  ·rw [za9 f v e] at hx
   exact h.1 x hx
 ·rw [za9 f v (hi k hk).1] at e
  rw [za9 f v (hi k hk).2] at hu
  obtain ⟨q1, q2⟩ := h.2.1 k hk e u hu
  exact ⟨q1.below hb, fun g hg => Nat.lt_of_lt_of_le (q2 g hg) hb.size⟩
 ·rw [zfs v h0 fun k hk => (hi k hk).1] at hx
  rw [zgl v _ _ fun k hk => (hi k hk).1]
  obtain ⟨q1, q2⟩ := h.2.2 x hx
  refine ⟨q1.kept hg (by cases x.ownBlock <;> simp), fun k hk e u hu => ?_⟩
  rw [za9 f v (hi k hk).1] at e
  rw [za9 f v (hi k hk).2] at hu
  exact q2 k hk e u hu
theorem XCh.source {base s0 z i : Nat} {pre : Option Value} {L0 M : List Bs} {l : List Link} {f : Nat → Option Value} {W W' : World} {v : Value} (hz : z ≠ i) (h0 : s0 ≠ i) (hi : ∀ k ∈ l, k.1 ≠ i ∧ (k.2.1 = i → k.2.2 = M)) (h : XCh base s0 z pre L0 l f W) (hb : Below W.heap.size W W') (hv : SRow W' v M) (hg1 : ∀ g, v.ownBlock = some g → W.heap.size ≤ g ∧ g < W'.heap.size) : XCh base s0 z pre L0 l (zbx f i v) W' := by
 have hg := zaa hb
 refine ⟨fun x hx => ?_, fun k hk e u hu => ?_, fun x hx => ?_⟩
 ·rw [zfs v h0 fun k hk => (hi k hk).1]
  rw [za9 f v hz] at hx
  exact h.1 x hx
 ·rw [za9 f v (hi k hk).1] at e
  by_cases hs : k.2.1 = i
  ·rw [hs, zat] at hu
   obtain rfl := Option.some.inj hu
   rw [(hi k hk).2 hs]
   exact ⟨hv, fun g hg => (hg1 g hg).2⟩
  ·rw [za9 f v hs] at hu
   obtain ⟨q1, q2⟩ := h.2.1 k hk e u hu
   exact ⟨q1.below hb, fun g hg => Nat.lt_of_lt_of_le (q2 g hg) hb.size⟩
 ·rw [zfs v h0 fun k hk => (hi k hk).1] at hx
  rw [zgl v _ _ fun k hk => (hi k hk).1]
  obtain ⟨q1, q2⟩ := h.2.2 x hx
  refine ⟨q1.kept hg (by cases x.ownBlock <;> simp), fun k hk e u hu g hg2 => ?_⟩
  rw [za9 f v (hi k hk).1] at e
  by_cases hs : k.2.1 = i
  ·rw [hs, zat] at hu
   obtain rfl := Option.some.inj hu
   intro e'
   have h1 := (q1.lt g e').2
   have h2 := (hg1 g hg2).1
   omega
  ·rw [za9 f v hs] at hu
   exact q2 k hk e u hu g hg2
theorem XCh.start {base s0 z : Nat} {pre : Option Value} {L0 : List Bs} {l : List Link} {f : Nat → Option Value} {W : World} {v : Value} (hp : pre = some v) (hn : f s0 = none) (hz : z ≠ s0) (hzn : f z = none) (hl : ∀ k ∈ l, f k.1 = none) (hi : ∀ k ∈ l, k.1 ≠ s0 ∧ k.2.1 ≠ s0) (h : XCh base s0 z pre L0 l f W) : XCh base s0 z pre L0 l (zbx f s0 v) W := by
 refine ⟨(fun x hx => by rw [za9 f v hz, hzn] at hx; cases hx), fun k hk e u hu => ?_, fun x hx => ?_⟩
 ·rw [za9 f v (hi k hk).1] at e
  rw [za9 f v (hi k hk).2] at hu
  exact h.2.1 k hk e u hu
 ·have hx2 : x = v := by
   unfold zao at hx
   rw [zat] at hx
   simp only at hx
   rw [zi7 v _ _ fun k hk => (hi k hk).1] at hx
   cases l with
   | nil => exact (Option.some.inj hx).symm
   | cons k r =>
    unfold zav at hx
    rw [hl k (by simp)] at hx
    exact (Option.some.inj hx).symm
  subst hx2
  rw [zgl x _ _ fun k hk => (hi k hk).1]
  obtain ⟨q1, q2⟩ := h.2.2 x (by unfold zao; rw [hn]; exact hp)
  refine ⟨q1, fun k hk e u hu => ?_⟩
  rw [za9 f x (hi k hk).1] at e
  rw [za9 f x (hi k hk).2] at hu
  exact q2 k hk e u hu
theorem XCh.fresh {base s0 z : Nat} {L0 : List Bs} {l : List Link} {f : Nat → Option Value} {W W' : World} {v : Value} (hz : z ≠ s0) (hzn : f z = none) (hl : ∀ k ∈ l, f k.1 = none) (hi : ∀ k ∈ l, k.1 ≠ s0 ∧ k.2.1 ≠ s0) (h : XCh base s0 z none L0 l f W) (hb : Below W.heap.size W W') (ho : W'.ownsRow W.heap.size 9 1 v L0.length (zcg L0)) (hbs : base ≤ W.heap.size) : XCh base s0 z none L0 l (zbx f s0 v) W' := by
 refine ⟨(fun x hx => by rw [za9 f v hz, hzn] at hx; cases hx), fun k hk e u hu => ?_, fun x hx => ?_⟩
 ·rw [za9 f v (hi k hk).1] at e
  rw [za9 f v (hi k hk).2] at hu
  obtain ⟨q1, q2⟩ := h.2.1 k hk e u hu
  exact ⟨q1.below hb, fun g hg => Nat.lt_of_lt_of_le (q2 g hg) hb.size⟩
 ·have hx2 : x = v := by
   unfold zao at hx
   rw [zat] at hx
   simp only at hx
   rw [zi7 v _ _ fun k hk => (hi k hk).1] at hx
   cases l with
   | nil => exact (Option.some.inj hx).symm
   | cons k r =>
    unfold zav at hx
    rw [hl k (by simp)] at hx
    exact (Option.some.inj hx).symm
  subst hx2
  have e : zah (zbx f s0 x) L0 l = L0 := by
   rw [zgl x _ _ fun k hk => (hi k hk).1]
   cases l with
   | nil => rfl
   | cons k r => unfold zah; rw [hl k (by simp)]
  rw [e]
  refine ⟨ho.mono hbs, fun k hk e u hu g hg e' => ?_⟩
  rw [za9 f x (hi k hk).1] at e
  rw [za9 f x (hi k hk).2] at hu
  have h1 := (h.2.1 k hk e u hu).2 g hg
  have h2 := (ho.lt g e').1
  omega
theorem XCh.app {base s0 z c s : Nat} {pre : Option Value} {L0 M : List Bs} {l : List Link} {f : Nat → Option Value} {W : World} {h u : Value} (hz : z ≠ c) (hzn : f z = none) (hX : XCh base s0 z pre L0 l f W) (hk : (c, s, M) ∈ l) (hh : zao f s0 pre l = some h) (hc : f c = none) (hu : f s = some u) (hm : 0 < M.length) (hbs : base ≤ W.heap.size) (hn : (zah f L0 l).length + M.length ≤ 1000000)
  (hne : ∀ k ∈ l, k.2.1 ≠ c) (nx : ∀ v, zao (zbx f c v) s0 pre l = some v ∧ zah (zbx f c v) L0 l = zah f L0 l ++ M) :
  ∃ (v : Value) (W' : World), (Builtin.append_ #[25, 25] 25 #[h, u]).run Tryz.prog W = .ok v W' ∧ XCh base s0 z pre L0 l (zbx f c v) W' ∧ Below base W W' := by
 obtain ⟨q1, q2⟩ := hX.2.2 h hh
 obtain ⟨r1, r2⟩ := hX.2.1 _ hk hc u hu
 have r1' := r1
 obtain ⟨p, cp, rfl, hp⟩ := r1
 obtain ⟨g0, o0, rfl, _⟩ := hp 0 M[0] (by simp)
 obtain ⟨g, cap, W4, E, hL⟩ := Left.appends q1 hbs hn hm r1'
 refine ⟨_, W4, E, ?_, hL.2.1⟩
 obtain ⟨n1, n2⟩ := nx (.slice (some ⟨g, 0, none⟩) ((zah f L0 l).length + M.length) cap)
 have hgr : W.grownBy W4 h.ownBlock := ⟨hL.2.1.os, hL.2.1.tape, hL.2.1.output, hL.2.1.size, hL.2.2.1⟩
 have keep : ∀ k ∈ l, zbx f c (.slice (some ⟨g, 0, none⟩) ((zah f L0 l).length + M.length) cap) k.1 = none → f k.1 = none ∧ k.1 ≠ c := fun k hk e => by
  by_cases hkc : k.1 = c
  ·rw [hkc, zat] at e; cases e
  ·rw [za9 f _ hkc] at e; exact ⟨e, hkc⟩
 refine ⟨(fun x hx => by rw [za9 f _ hz, hzn] at hx; cases hx), fun k hk e x hx => ?_, fun x hx => ?_⟩
 ·obtain ⟨e1, _⟩ := keep k hk e
  rw [za9 f _ (hne k hk)] at hx
  obtain ⟨t1, t2⟩ := hX.2.1 k hk e1 x hx
  refine ⟨?_, fun g hg => Nat.lt_of_lt_of_le (t2 g hg) hL.2.1.size⟩
  obtain ⟨p', c', rfl, hp'⟩ := t1
  refine ⟨p', c', rfl, fun j t ht => ?_⟩
  obtain ⟨g1, o1, rfl, a1⟩ := hp' j t ht
  refine ⟨g1, o1, rfl, (World.cell?_of_block (hL.2.2.1 g1 (t2 g1 rfl) fun e' => q2 k hk e1 _ hx g1 rfl e'.symm)).trans a1⟩
 ·rw [n1] at hx
  obtain rfl := Option.some.inj hx
  rw [n2]
  refine ⟨by simpa using hL.1, fun k hk e x hx g1 hg1 e' => ?_⟩
  obtain ⟨e1, _⟩ := keep k hk e
  rw [za9 f _ (hne k hk)] at hx
  have t2 := (hX.2.1 k hk e1 x hx).2 g1 hg1
  rcases hL.2.2.2 with z | z
  ·exact q2 k hk e1 x hx g1 hg1 (z ▸ e')
  ·have := z g1 e'
   omega
def VP (vs : List (Option Value)) (i : Nat) (v : Value) (_ : World) : Prop := ∀ x, vs.getD i none = some x → v = x
theorem VP.at {vs : List (Option Value)} {i : Nat} {v x : Value} {W : World} (h : VP vs i v W) (e : vs.getD i none = some x) : v = x := h x e
theorem VP.free {vs : List (Option Value)} {i : Nat} (v : Value) (W : World) (e : vs.getD i none = none) : VP vs i v W := fun _ hx => by rw [e] at hx; cases hx
theorem VP.is {vs : List (Option Value)} {i : Nat} (v : Value) (W : World) (e : vs.getD i none = some v) : VP vs i v W := fun _ hx => Option.some.inj (e.symm.trans hx)
theorem fold_puts (g : Nat → Value) : ∀ (l : List Oper) (b : Act), (l.foldl (fun b o => b.put o.dst (g (o.dst.getD 0))) b).tmps.size = b.tmps.size ∧ (l.foldl (fun b o => b.put o.dst (g (o.dst.getD 0))) b).defers = b.defers ∧ ∀ t, t < b.tmps.size → (l.foldl (fun b o => b.put o.dst (g (o.dst.getD 0))) b).tmps.getD t undef = if (l.any fun o => o.dst == some t) = true then g t else b.tmps.getD t undef
 | [], b => ⟨rfl, rfl, fun t _ => by simp⟩
 | o :: r, b => by
  obtain ⟨h1, h2, h3⟩ := fold_puts g r (b.put o.dst (g (o.dst.getD 0)))
  have e1 : (b.put o.dst (g (o.dst.getD 0))).tmps.size = b.tmps.size := by cases o.dst <;> simp [Act.put]
  have e2 : (b.put o.dst (g (o.dst.getD 0))).defers = b.defers := by cases o.dst <;> simp [Act.put]
  rw [List.foldl_cons]
  refine ⟨h1.trans e1, h2.trans e2, fun t ht => ?_⟩
  rw [h3 t (by rw [e1]; exact ht), List.any_cons]
  by_cases hr : (r.any fun o => o.dst == some t) = true
  ·rw [if_pos hr, if_pos (by rw [hr, Bool.or_true])]
  ·rw [if_neg hr]
   have hr' := (Bool.not_eq_true _).mp hr
   rw [hr', Bool.or_false]
   cases hd : o.dst with
   | none => simp [Act.put]
   | some d =>
    by_cases hdt : d = t
    ·subst hdt
     rw [zjh ht]; simp
    ·rw [zdg (Ne.symm hdt), if_neg (by simpa using hdt)]
theorem zd3 {ops : Array Oper} {n : Nat} {a a0 : Act} (hs : a.tmps.size = n) (h0 : a0.tmps.size = n) (hf : a.defers = a0.defers) (hk : ∀ t, noB ops t = true → a.tmps.getD t undef = a0.tmps.getD t undef) : a = ops.toList.foldl (fun b o => b.put o.dst (a.tmps.getD (o.dst.getD 0) undef)) a0 := by
 obtain ⟨h1, h2, h3⟩ := fold_puts (fun d => a.tmps.getD d undef) ops.toList a0
 generalize hr : ops.toList.foldl (fun b o => b.put o.dst (a.tmps.getD (o.dst.getD 0) undef)) a0 = r at h1 h2 h3 ⊢
 obtain ⟨t, ds⟩ := a
 obtain ⟨t', ds'⟩ := r
 simp only at *
 obtain rfl : ds = ds' := hf.trans h2.symm
 congr 1
 refine Array.ext (by rw [hs, h1, h0]) fun i hi hi' => ?_
 have h4 := h3 i (by rw [h0, ← hs]; exact hi)
 have e1 : t'.getD i undef = t'[i] := by simp [Array.getD, hi']
 have e2 : t.getD i undef = t[i] := by simp [Array.getD, hi]
 rw [e1] at h4
 rw [h4]
 by_cases hn : (ops.toList.any fun o => o.dst == some i) = true
 ·rw [if_pos hn]; exact e2.symm
 ·rw [if_neg hn, ← e2]
  refine hk i ?_
  unfold noB
  rw [Array.all_eq_true']
  intro o ho
  rw [List.any_eq_true] at hn
  simp only [bne_iff_ne, ne_eq]
  exact fun e => hn ⟨o, by simpa using ho, by rw [e]; simp⟩
theorem op_field5 {o : Oper} {a : Act} {w : World} {K : Act → World → Prop} {Q : Exit → Act → World → Prop} {x : Operand} {b e : Nat} (ho : o.op = .fieldAddr 53 x 4) (hx : a.eval x = .pointer (some ⟨b, e, none⟩)) (h : K (a.put o.dst (.pointer (some ⟨b, e + 4, none⟩))) w) : o.wp Tryz.prog a w K Q := by
 unfold Oper.wp; simp only [execOp, ho, hx]; go_simp; exact h
section
variable {P : Program} {ops : Array Oper} {Q : Exit → Act → World → Prop} {a0 : Act} {n base s0 z : Nat} {B : World → Prop} {vs : List (Option Value)} {pre : Option Value} {L0 : List Bs} {l : List Link} {i : Nat} {o : Oper}
theorem YGoal.plain (hB : ∀ W W', B W → Below W.heap.size W W' → B W') (hz : z ≠ i) (h0 : s0 ≠ i) (hi : ∀ k ∈ l, k.1 ≠ i ∧ k.2.1 ≠ i)
  (h : ∀ (a : Act) (w : World) (f : Nat → Option Value), a.tmps.size = n → (∀ t, noB ops t = true → a.tmps.getD t undef = a0.tmps.getD t undef) → (∀ t j, (ops[j]?).bind (·.dst) = some t → f j = none → a.tmps.getD t undef = a0.tmps.getD t undef) → B w → f i = none → (∀ i j, Region.waitsFor .any ops i j = true → f i ≠ none → f j ≠ none) →
   (∀ j d x, (ops[j]?).bind (·.dst) = some d → Region.waitsFor .any ops i j = true → vs.getD j none = some x → a.tmps.getD d undef = x) →
   Region.wanted o (yielded ops a.tmps) = true ∧ o.wp P a w (fun a' w' => ∃ v, a' = a.put o.dst v ∧ Below w.heap.size w w' ∧ vs.getD i none = some v) Q) :
  YGoal P ops Q a0 n B (VP vs) (XCh base s0 z pre L0 l) i o := fun a w f h1 h2 h3 hlt h4 h5 h6 hno down h8 => by
 obtain ⟨k1, k2⟩ := h a w f h1 h3 hlt h4 hno down fun j d x hj hw hx => VP.at (W := w) (h5 j _ (h8 j d hj hw)) hx
 refine ⟨k1, Oper.wp_mono ?_ k2⟩
 rintro a' w' ⟨v, rfl, hb, hv⟩
 exact ⟨v, rfl, hB _ _ h4 hb, VP.is v _ hv, fun j u hj => h5 j u hj, XCh.other (fun e => absurd e.symm hz) h0 hi h6 hb⟩
theorem YGoal.src {M : List Bs} (hB : ∀ W W', B W → Below W.heap.size W W' → B W') (hz : z ≠ i) (h0 : s0 ≠ i) (hi : ∀ k ∈ l, k.1 ≠ i ∧ (k.2.1 = i → k.2.2 = M)) (hv0 : vs.getD i none = none)
  (h : ∀ (a : Act) (w : World), a.tmps.size = n → (∀ t, noB ops t = true → a.tmps.getD t undef = a0.tmps.getD t undef) → B w →
   (∀ j d x, (ops[j]?).bind (·.dst) = some d → Region.waitsFor .any ops i j = true → vs.getD j none = some x → a.tmps.getD d undef = x) →
   Region.wanted o (yielded ops a.tmps) = true ∧ o.wp P a w (fun a' w' => ∃ v, a' = a.put o.dst v ∧ Below w.heap.size w w' ∧ SRow w' v M ∧ ∀ g, v.ownBlock = some g → w.heap.size ≤ g ∧ g < w'.heap.size) Q) :
  YGoal P ops Q a0 n B (VP vs) (XCh base s0 z pre L0 l) i o := fun a w f h1 h2 h3 hlt h4 h5 h6 hno down h8 => by
 obtain ⟨k1, k2⟩ := h a w h1 h3 h4 fun j d x hj hw hx => VP.at (W := w) (h5 j _ (h8 j d hj hw)) hx
 refine ⟨k1, Oper.wp_mono ?_ k2⟩
 rintro a' w' ⟨v, rfl, hb, hv, hg⟩
 exact ⟨v, rfl, hB _ _ h4 hb, VP.free v _ hv0, fun j u hj => h5 j u hj, XCh.source hz h0 hi h6 hb hv hg⟩
theorem za7 {f : Nat → Option Value} {i j : Nat} (down : ∀ i j, Region.waitsFor .any ops i j = true → f i ≠ none → f j ≠ none) (hw : Region.waitsFor .any ops i j = true) (e : f j = none) : f i = none := Decidable.byContradiction fun h => down i j hw h e
theorem YGoal.start {v : Value} {x : Operand} (hp : pre = some v) (hz : z ≠ i) (hi : ∀ k ∈ l, k.1 ≠ i ∧ k.2.1 ≠ i) (hv0 : vs.getD i none = none) (hg : o.guard = none) (hop : o.op = .move x)
  (ch : ∀ f : Nat → Option Value, (∀ i j, Region.waitsFor .any ops i j = true → f i ≠ none → f j ≠ none) → f i = none → f z = none ∧ ∀ k ∈ l, f k.1 = none)
  (hx : ∀ (a : Act) (f : Nat → Option Value), (∀ t, noB ops t = true → a.tmps.getD t undef = a0.tmps.getD t undef) → (∀ t j, (ops[j]?).bind (·.dst) = some t → f j = none → a.tmps.getD t undef = a0.tmps.getD t undef) → f z = none → a.eval x = v) :
  YGoal Tryz.prog ops Q a0 n B (VP vs) (XCh base i z pre L0 l) i o := fun a w f h1 h2 h3 hlt h4 h5 h6 hno down h8 => by
 obtain ⟨c1, c2⟩ := ch f down hno
 exact ⟨za1 hg, zbl hop (hx a f h3 hlt c1) ⟨v, rfl, h4, VP.free v _ hv0, h5, XCh.start hp hno hz c1 c2 hi h6⟩⟩
theorem YGoal.fresh (hB : ∀ W W', B W → Below W.heap.size W W' → B W') (hbs : ∀ W, B W → base ≤ W.heap.size) (hz : z ≠ i) (hi : ∀ k ∈ l, k.1 ≠ i ∧ k.2.1 ≠ i) (hv0 : vs.getD i none = none)
  (ch : ∀ f : Nat → Option Value, (∀ i j, Region.waitsFor .any ops i j = true → f i ≠ none → f j ≠ none) → f i = none → f z = none ∧ ∀ k ∈ l, f k.1 = none)
  (h : ∀ (a : Act) (w : World), a.tmps.size = n → (∀ t, noB ops t = true → a.tmps.getD t undef = a0.tmps.getD t undef) → B w →
   (∀ j d x, (ops[j]?).bind (·.dst) = some d → Region.waitsFor .any ops i j = true → vs.getD j none = some x → a.tmps.getD d undef = x) →
   Region.wanted o (yielded ops a.tmps) = true ∧ o.wp P a w (fun a' w' => ∃ v, a' = a.put o.dst v ∧ Below w.heap.size w w' ∧ w'.ownsRow w.heap.size 9 1 v L0.length (zcg L0)) Q) :
  YGoal P ops Q a0 n B (VP vs) (XCh base i z none L0 l) i o := fun a w f h1 h2 h3 hlt h4 h5 h6 hno down h8 => by
 obtain ⟨c1, c2⟩ := ch f down hno
 obtain ⟨k1, k2⟩ := h a w h1 h3 h4 fun j d x hj hw hx => VP.at (W := w) (h5 j _ (h8 j d hj hw)) hx
 refine ⟨k1, Oper.wp_mono ?_ k2⟩
 rintro a' w' ⟨v, rfl, hb, hv⟩
 exact ⟨v, rfl, hB _ _ h4 hb, VP.free v _ hv0, fun j u hj => h5 j u hj, XCh.fresh hz c1 c2 hi h6 hb hv (hbs _ h4)⟩
theorem YGoal.app {M Lq : List Bs} {q s dq ds : Nat} (hB2 : ∀ W W', B W → Below base W W' → B W') (hbs : ∀ W, B W → base ≤ W.heap.size) (hz : z ≠ i) (hv0 : vs.getD i none = none) (hg : o.guard = none)
  (hop : o.op = .call { callee := .builtin .append, args := #[.tmp dq, .tmp ds], argTypes := #[25, 25] }) (hty : o.type = 25)
  (hk : (i, s, M) ∈ l) (hm : 0 < M.length) (hn : Lq.length + M.length ≤ 1000000) (hne : ∀ k ∈ l, k.2.1 ≠ i) (hq : (ops[q]?).bind (·.dst) = some dq) (hqw : Region.waitsFor .any ops i q = true) (hs : (ops[s]?).bind (·.dst) = some ds) (hsw : Region.waitsFor .any ops i s = true)
  (nx : ∀ (f : Nat → Option Value) (v : Value), (∀ i j, Region.waitsFor .any ops i j = true → f i ≠ none → f j ≠ none) → f i = none → f q = some v → f z = none ∧ zao f s0 pre l = some v ∧ zah f L0 l = Lq ∧ ∀ x, zao (zbx f i x) s0 pre l = some x ∧ zah (zbx f i x) L0 l = Lq ++ M) :
  YGoal Tryz.prog ops Q a0 n B (VP vs) (XCh base s0 z pre L0 l) i o := fun a w f h1 h2 h3 hlt h4 h5 h6 hno down h8 => by
 have eq := h8 q dq hq hqw
 have es := h8 s ds hs hsw
 obtain ⟨n0, n1, n2, n3⟩ := nx f _ down hno eq
 obtain ⟨v, W', E, hX, hb⟩ := XCh.app hz n0 h6 hk n1 hno es hm (hbs _ h4) (by rw [n2]; exact hn) hne fun x => ⟨(n3 x).1, by rw [(n3 x).2, n2]⟩
 refine ⟨za1 hg, zi6 hop rfl rfl (by rw [hty]; exact E) ⟨v, rfl, hB2 _ _ h4 hb, VP.free v _ hv0, h5, hX⟩⟩
theorem YGoal.last {q dq : Nat} (h0 : s0 ≠ i) (hi : ∀ k ∈ l, k.1 ≠ i ∧ k.2.1 ≠ i) (hv0 : vs.getD i none = none) (hg : o.guard = none) (hop : o.op = .assign (.tmp dq)) (hq : (ops[q]?).bind (·.dst) = some dq) (hqw : Region.waitsFor .any ops i q = true)
  (nx : ∀ (f : Nat → Option Value) (v : Value), (∀ i j, Region.waitsFor .any ops i j = true → f i ≠ none → f j ≠ none) → f q = some v → zao f s0 pre l = some v) :
  YGoal Tryz.prog ops Q a0 n B (VP vs) (XCh base s0 i pre L0 l) i o := fun _ _ f _ _ _ _ h4 h5 h6 _ down h8 =>
 ⟨za1 hg, zk0 hop rfl ⟨_, rfl, h4, VP.free _ _ hv0, h5, XCh.other (fun _ => nx f _ down (h8 q dq hq hqw)) h0 hi h6 (Below.refl _ _)⟩⟩
end
end Go.Proofs.YtmpbbmfbgcpplaaGreatDoor
