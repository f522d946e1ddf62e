import Derived.Orders
import Derived.StillTail
import Derived.Test.YtmpbbmfbgcpplaaGreatDoorQSynA
import Derived.Handy
namespace Go.Proofs.YtmpbbmfbgcpplaaGreatDoor
open Go Go.RowKit
def zf1 (listed : Array Bool) : Nat := listed.toList.count false
theorem left_set {listed : Array Bool} {i : Nat} (hi : i < listed.size) (h : listed.getD i true = false) : zf1 (listed.setIfInBounds i true) + 1 = zf1 listed := by
 have hl : i < listed.toList.length := by simpa using hi
 have hv : listed.toList[i] = false := by
  have : listed[i] = false := by simpa [Array.getD, hi] using h
  simpa using this
 have hc : 0 < listed.toList.count false := List.count_pos_iff.2 (hv ▸ List.getElem_mem hl)
 rw [zf1, zf1, Array.toList_setIfInBounds, List.count_set hl, hv]
 rw [if_pos (show (false == false) = true from rfl), if_neg (show ¬ (true == false) = true by decide)]
 omega
theorem ready_none {md : Region.Mode} {ops : Array Oper} {listed : Array Bool} (hs : listed.size = ops.size) (h : zf1 listed = 0) : Region.ready md ops listed = [] := by
 rw [Region.ready, List.filter_eq_nil_iff]
 intro i hi
 have hi' : i < listed.size := by rw [hs]; exact List.mem_range.1 hi
 have hv : listed[i] = true := by
  rcases hb : listed[i] with _ | _
  ·exfalso
   have : 0 < listed.toList.count false := List.count_pos_iff.2 (by rw [← hb]; simp)
   unfold zf1 at h
   omega
  ·rfl
 simp [Array.getD, hi', hv]
theorem zi0 {P : Program} {md : Region.Mode} {ops : Array Oper} {Q : Exit → Act → World → Prop} (I : Array Bool → Act → World → Prop) (hsz : ∀ listed a w, I listed a w → listed.size = ops.size)
  (step : ∀ listed a w i, I listed a w → i ∈ Region.ready md ops listed → wpOp P ops Q i (I (listed.setIfInBounds i true)) a w)
  (fin : ∀ listed a w, I listed a w → Region.ready md ops listed = [] → Q .normal a w) :
  ∀ (fuel : Nat) (listed : Array Bool) (a : Act) (w : World), I listed a w → zf1 listed ≤ fuel → wpAny P md ops Q fuel listed a w
 | 0, listed, a, w, h, hl => by
  have hr := ready_none (md := md) (hsz _ _ _ h) (Nat.le_zero.1 hl)
  exact ⟨hr, fin _ _ _ h hr⟩
 | fuel + 1, listed, a, w, h, hl => by
  refine ⟨fun hr => fin _ _ _ h hr, fun i hi => ?_⟩
  have hi' := List.mem_filter.1 hi
  have hlt : i < listed.size := by rw [hsz _ _ _ h]; exact List.mem_range.1 hi'.1
  have hno : listed.getD i true = false := by
   have := hi'.2
   simp only [Bool.and_eq_true, Bool.not_eq_true'] at this
   exact this.1
  have := left_set hlt hno
  exact wpOp_mono (fun a' w' h' => zi0 I hsz step fin fuel _ a' w' h' (by omega)) (step _ _ _ _ h hi)
structure RInv (ops : Array Oper) (a0 : Act) (B : World → Prop) (V : Nat → Value → World → Prop) (listed : Array Bool) (a : Act) (w : World) : Prop where
 size : listed.size = ops.size
 slots : a.tmps.size = a0.tmps.size
 defers : a.defers = a0.defers
 kept : ∀ t, (∀ (i : Nat) (o : Oper), ops[i]? = some o → o.dst ≠ some t) → a.tmps.getD t undef = a0.tmps.getD t undef
 base : B w
 done : ∀ (i : Nat) (o : Oper) (d : Nat), ops[i]? = some o → o.dst = some d → listed.getD i false = true → V i (a.tmps.getD d undef) w
theorem zjh {a : Act} {d : Nat} {v : Value} (h : d < a.tmps.size) : (a.put (some d) v).tmps.getD d undef = v := by simp [Act.put, Array.getD, h]
theorem zdg {a : Act} {d t : Nat} {v : Value} (h : t ≠ d) : (a.put (some d) v).tmps.getD t undef = a.tmps.getD t undef := by
 simp only [Act.put, Array.getD_eq_getD_getElem?]
 rw [Array.getElem?_setIfInBounds_ne (Ne.symm h)]
def destB (ops : Array Oper) (n : Nat) : Bool := (List.range ops.size).all fun i => match (ops[i]?).bind (·.dst) with | none => false | some d => decide (d < n) && (List.range ops.size).all fun j => decide (j = i) || (ops[j]?).bind (·.dst) != some d
theorem dest_of {ops : Array Oper} {n i : Nat} {o : Oper} (h : destB ops n = true) (ho : ops[i]? = some o) : ∃ d, o.dst = some d ∧ d < n ∧ ∀ j o', ops[j]? = some o' → o'.dst = some d → j = i := by
 have hi : i < ops.size := (Array.getElem?_eq_some_iff.1 ho).1
 have h1 := List.all_eq_true.1 h i (List.mem_range.2 hi)
 rw [ho] at h1
 rcases hd : o.dst with _ | d
 ·simp [hd] at h1
 ·simp only [Option.bind_some, hd, Bool.and_eq_true, decide_eq_true_eq] at h1
  refine ⟨d, rfl, h1.1, fun j o' hj hd' => ?_⟩
  have h2 := List.all_eq_true.1 h1.2 j (List.mem_range.2 (Array.getElem?_eq_some_iff.1 hj).1)
  rw [hj] at h2
  simp [hd'] at h2
  exact h2
def backB (ops : Array Oper) : Bool := (List.range ops.size).all fun i => ((ops[i]?).map fun o => o.after.all fun e => !Region.binds .any e || decide (e.on < i)).getD true
theorem all_done {ops : Array Oper} {listed : Array Bool} (h : backB ops = true) (hs : listed.size = ops.size) (hr : Region.ready .any ops listed = []) : ∀ i, i < ops.size → listed.getD i false = true := by
 intro i
 induction i using Nat.strongRecOn with
 | ind i ih =>
  intro hi
  rcases hb : listed.getD i false with _ | _
  ·exfalso
   have hno : i ∉ Region.ready .any ops listed := by rw [hr]; simp
   apply hno
   rw [Region.ready, List.mem_filter]
   refine ⟨List.mem_range.2 hi, ?_⟩
   have h1 := List.all_eq_true.1 h i (List.mem_range.2 hi)
   have ho : ops[i]? = some ops[i] := by simp [hi]
   rw [ho] at h1 ⊢
   simp only [Option.map_some, Option.getD_some] at h1 ⊢
   have hi2 : i < listed.size := by rw [hs]; exact hi
   have hT : listed.getD i true = false := by
    simp only [Array.getD, hi2, dite_true] at hb ⊢
    exact hb
   rw [hT]
   simp only [Bool.not_false, Bool.true_and]
   rw [Array.all_eq_true']
   intro e he
   have h2 := Array.all_eq_true'.1 h1 e he
   rcases hbd : Region.binds .any e with _ | _
   ·rfl
   ·rw [hbd] at h2
    simp only [Bool.not_true, Bool.false_or, decide_eq_true_eq] at h2
    simpa using ih e.on h2 (by omega)
  ·rfl
def EachOp (R : Nat → Oper → Prop) : List Oper → Nat → Prop
 | [], _ => True
 | o :: r, n => R n o ∧ EachOp R r (n + 1)
theorem each_of {R : Nat → Oper → Prop} : ∀ (l : List Oper) (n : Nat), EachOp R l n → ∀ i o, l[i]? = some o → R (n + i) o
 | [], _, _, i, o, h => by simp at h
 | x :: r, n, h, 0, o, ho => by
  obtain rfl : x = o := by simpa using ho
  exact h.1
 | x :: r, n, h, i + 1, o, ho => by
  have := each_of r (n + 1) h.2 i o (by simpa using ho)
  rwa [show n + (i + 1) = n + 1 + i by omega]
def noB (ops : Array Oper) (t : Nat) : Bool := ops.all fun o => o.dst != some t
theorem no_of {ops : Array Oper} {t : Nat} (h : noB ops t = true) : ∀ (i : Nat) (o : Oper), ops[i]? = some o → o.dst ≠ some t := fun i o ho e => by
 have := Array.all_eq_true'.1 h o (Array.mem_of_getElem? ho)
 rw [e] at this
 simp at this
def OpGoal (P : Program) (ops : Array Oper) (Q : Exit → Act → World → Prop) (a0 : Act) (n : Nat) (B : World → Prop) (V : Nat → Value → World → Prop) (i : Nat) (o : Oper) : Prop :=
 ∀ (a : Act) (w : World), a.tmps.size = n → a.defers = a0.defers → (∀ t, noB ops t = true → a.tmps.getD t undef = a0.tmps.getD t undef) → B w → (∀ j d, (ops[j]?).bind (·.dst) = some d → Region.waitsFor .any ops i j = true → V j (a.tmps.getD d undef) w) →
  Region.wanted o (yielded ops a.tmps) = true ∧ o.wp P a w (fun a' w' => ∃ v, a' = a.put o.dst v ∧ Below w.heap.size w w' ∧ V i v w') Q
theorem za1 {o : Oper} {y : Nat → Option Bool} (h : o.guard = none) : Region.wanted o y = true := by simp [Region.wanted, h]
section
variable {o : Oper} {a : Act} {w : World} {K : Act → World → Prop} {Q : Exit → Act → World → Prop}
theorem zbl {x : Operand} {v : Value} (ho : o.op = .move x) (hx : a.eval x = v) (h : K (a.put o.dst v) w) : o.wp Tryz.prog a w K Q := by
 unfold Oper.wp; simp [execOp, ho, hx]; exact h
theorem zk0 {x : Operand} {v : Value} (ho : o.op = .assign x) (hx : a.eval x = v) (h : K (a.put o.dst v) w) : o.wp Tryz.prog a w K Q := by
 unfold Oper.wp; simp [execOp, ho, hx]; exact h
theorem zcw {f : FuncId} {x : Operand} {t : TypeId} {u : Value} (ho : o.op = .call { callee := .value (.func f), args := #[x], argTypes := #[t] }) (hx : a.eval x = u) (hF : ∀ args w, Sem.run Tryz.prog (callFunc f args) w = .ok (.enter f args) w) (h : Calls Tryz.prog f #[u] w fun e w' => ∃ v, e = .returned v ∧ K (a.put o.dst v) w') : o.wp Tryz.prog a w K Q := by
 unfold Oper.wp
 have he : a.eval (.func f) = .func (.func f) #[] #[] := rfl
 simp [execOp, ho, resolve, invoke, hx, he, Deferred.ofValue, hF]
 refine h.mono ?_
 rintro e w' ⟨v, rfl, hk⟩
 exact hk
theorem zfp {f : FuncId} {x y : Operand} {t s : TypeId} {u v : Value} (ho : o.op = .call { callee := .value (.func f), args := #[x, y], argTypes := #[t, s] }) (hx : a.eval x = u) (hy : a.eval y = v) (hF : ∀ args w, Sem.run Tryz.prog (callFunc f args) w = .ok (.enter f args) w) (h : Calls Tryz.prog f #[u, v] w fun e w' => ∃ v, e = .returned v ∧ K (a.put o.dst v) w') : o.wp Tryz.prog a w K Q := by
 unfold Oper.wp
 have he : a.eval (.func f) = .func (.func f) #[] #[] := rfl
 simp [execOp, ho, resolve, invoke, hx, hy, he, Deferred.ofValue, hF]
 refine h.mono ?_
 rintro e w' ⟨v, rfl, hk⟩
 exact hk
end
def zbx (f : Nat → Option Value) (i : Nat) (v : Value) : Nat → Option Value := fun j => if j = i then some v else f j
theorem zat (f : Nat → Option Value) (i : Nat) (v : Value) : zbx f i v i = some v := if_pos rfl
theorem za9 (f : Nat → Option Value) {i j : Nat} (v : Value) (h : j ≠ i) : zbx f i v j = f j := if_neg h
structure XInv (ops : Array Oper) (a0 : Act) (B : World → Prop) (V : Nat → Value → World → Prop) (X : (Nat → Option Value) → World → Prop) (listed : Array Bool) (a : Act) (w : World) (f : Nat → Option Value) : Prop where
 size : listed.size = ops.size
 slots : a.tmps.size = a0.tmps.size
 defers : a.defers = a0.defers
 kept : ∀ t, noB ops t = true → a.tmps.getD t undef = a0.tmps.getD t undef
 base : B w
 yes : ∀ i d, (ops[i]?).bind (·.dst) = some d → listed.getD i false = true → f i = some (a.tmps.getD d undef)
 no : ∀ i, listed.getD i false = false → f i = none
 done : ∀ i v, f i = some v → V i v w
 down : ∀ i j, Region.waitsFor .any ops i j = true → f i ≠ none → f j ≠ none
 more : X f w
def XGoal (P : Program) (ops : Array Oper) (Q : Exit → Act → World → Prop) (a0 : Act) (n : Nat) (B : World → Prop) (V : Nat → Value → World → Prop) (X : (Nat → Option Value) → World → Prop) (i : Nat) (o : Oper) : Prop :=
 ∀ (a : Act) (w : World) (f : Nat → Option Value), a.tmps.size = n → a.defers = a0.defers → (∀ t, noB ops t = true → a.tmps.getD t undef = a0.tmps.getD t undef) → B w → (∀ j v, f j = some v → V j v w) → X f w → f i = none → (∀ i j, Region.waitsFor .any ops i j = true → f i ≠ none → f j ≠ none) → (∀ j d, (ops[j]?).bind (·.dst) = some d → Region.waitsFor .any ops i j = true → f j = some (a.tmps.getD d undef)) →
  Region.wanted o (yielded ops a.tmps) = true ∧ o.wp P a w (fun a' w' => ∃ v, a' = a.put o.dst v ∧ B w' ∧ V i v w' ∧ (∀ j u, f j = some u → V j u w') ∧ X (zbx f i v) w') Q
theorem XGoal.of {P : Program} {ops : Array Oper} {Q : Exit → Act → World → Prop} {a0 : Act} {n : Nat} {B : World → Prop} {V : Nat → Value → World → Prop} {X : (Nat → Option Value) → World → Prop} {i : Nat} {o : Oper} (sB : ∀ w w', B w → Below w.heap.size w w' → B w') (sV : ∀ i v w w', V i v w → Below w.heap.size w w' → V i v w') (sX : ∀ f v w w', X f w → Below w.heap.size w w' → X (zbx f i v) w')
  (h : OpGoal P ops Q a0 n B V i o) : XGoal P ops Q a0 n B V X i o := fun a w f h1 h2 h3 h4 h5 h6 _ _ h8 => by
 obtain ⟨k1, k2⟩ := h a w h1 h2 h3 h4 fun j d hj hw => h5 j _ (h8 j d hj hw)
 refine ⟨k1, Oper.wp_mono ?_ k2⟩
 rintro a' w' ⟨v, rfl, hb, hv⟩
 exact ⟨v, rfl, sB _ _ h4 hb, hv, fun j u hj => sV _ _ _ _ (h5 j u hj) hb, sX f v _ _ h6 hb⟩
theorem back_of {ops : Array Oper} {i : Nat} {o : Oper} (h : backB ops = true) (ho : ops[i]? = some o) {e : _} (he : e ∈ o.after) (hb : Region.binds .any e = true) : e.on < i := by
 have h1 := List.all_eq_true.1 h i (List.mem_range.2 (Array.getElem?_eq_some_iff.1 ho).1)
 rw [ho] at h1
 simp only [Option.map_some, Option.getD_some] at h1
 have h2 := Array.all_eq_true'.1 h1 e he
 rw [hb] at h2
 simpa using h2
theorem region_more {P : Program} {id n : Nat} {ops : Array Oper} {Q : Exit → Act → World → Prop} {a0 : Act} {w : World} (hm : P.follows .mixedOrders = true) (hd : destB ops n = true) (hk : backB ops = true) (hn : a0.tmps.size = n) (B : World → Prop) (V : Nat → Value → World → Prop) (X : (Nat → Option Value) → World → Prop) (hB : B w.drew) (hX : X (fun _ => none) w.drew)
  (each : EachOp (XGoal P ops Q a0 n B V X) ops.toList 0)
  (fin : ∀ (a : Act) (w : World), a.tmps.size = n → a.defers = a0.defers → (∀ t, noB ops t = true → a.tmps.getD t undef = a0.tmps.getD t undef) → B w → (∀ j d, (ops[j]?).bind (·.dst) = some d → V j (a.tmps.getD d undef) w) → Q .normal a w) :
  (Code.region id ops true).wp P Q a0 w := by
 refine wp_region_any hm (zi0 (fun listed a w => ∃ f, XInv ops a0 B V X listed a w f) (fun _ _ _ ⟨_, h⟩ => h.size) ?_ ?_ ops.size (Array.replicate ops.size false) a0 _ ⟨fun _ => none, by simp, rfl, rfl, fun _ _ => rfl, hB, ?_, fun _ _ => rfl, (fun _ _ h => nomatch h), (fun _ _ _ h => absurd rfl h), hX⟩ ?_)
 ·rintro listed a u i ⟨f, h⟩ hi
  have hi' := List.mem_filter.1 hi
  have hlt : i < ops.size := List.mem_range.1 hi'.1
  have ho : ops[i]? = some ops[i] := by simp [hlt]
  obtain ⟨d, e1, e2, e3⟩ := dest_of hd ho
  have hp := hi'.2
  rw [ho] at hp
  simp only [Bool.and_eq_true, Option.map_some, Option.getD_some] at hp
  have hil : i < listed.size := by rw [h.size]; exact hlt
  have hno : listed.getD i false = false := by
   have := hp.1
   simp only [Bool.not_eq_true'] at this
   simp only [Array.getD, hil, dite_true] at this ⊢
   exact this
  have hw : ∀ j d', (ops[j]?).bind (·.dst) = some d' → Region.waitsFor .any ops i j = true → f j = some (a.tmps.getD d' undef) := fun j d' hj hwait => by
   obtain ⟨oi, hoi, e, he, hb, rfl⟩ := Region.waitsFor_spec hwait
   rw [ho] at hoi
   obtain rfl := Option.some.inj hoi
   have := Array.all_eq_true'.1 hp.2 e he
   rw [hb] at this
   exact h.yes _ d' hj (by simpa using this)
  have hg := each_of _ _ each i ops[i] (by simp [hlt])
  rw [Nat.zero_add] at hg
  obtain ⟨h1, h2⟩ := hg a u f (h.slots.trans hn) h.defers h.kept h.base h.done h.more (h.no i hno) h.down hw
  rw [wpOp, ho]
  simp only
  rw [if_pos h1]
  refine .inl (Oper.wp_mono ?_ h2)
  rintro a' w' ⟨v, rfl, hB', hv, hV', hX'⟩
  rw [e1]
  refine ⟨zbx f i v, by simp [h.size], by simp [Act.put, h.slots], by simp [Act.put, h.defers], fun t ht => ?_, hB', fun j d' hj hl => ?_, fun j hl => ?_, fun j u hj => ?_, fun j m hwt hj => ?_, hX'⟩
  ·rw [zdg (fun e => no_of ht i _ ho (by rw [e1, e])), h.kept t ht]
  ·by_cases hji : j = i
   ·subst hji
    rw [ho] at hj
    obtain rfl := Option.some.inj (e1.symm.trans hj)
    rw [zjh (by rw [h.slots, hn]; exact e2), zat]
   ·obtain ⟨o', ho', hd'⟩ := Option.bind_eq_some_iff.1 hj
    have hdd : d' ≠ d := fun e => hji (e3 j o' ho' (e ▸ hd'))
    rw [zdg hdd, za9 _ _ hji]
    refine h.yes j d' hj ?_
    rw [← hl]
    simp only [Array.getD_eq_getD_getElem?]
    rw [Array.getElem?_setIfInBounds_ne (Ne.symm hji)]
  ·by_cases hji : j = i
   ·subst hji
    simp [Array.getD, hil] at hl
   ·rw [za9 _ _ hji]
    refine h.no j ?_
    have he : (listed.setIfInBounds i true).getD j false = listed.getD j false := by
     simp only [Array.getD_eq_getD_getElem?]
     rw [Array.getElem?_setIfInBounds_ne (Ne.symm hji)]
    exact he.symm.trans hl
  ·by_cases hji : j = i
   ·subst hji
    rw [zat] at hj
    obtain rfl := Option.some.inj hj
    exact hv
   ·rw [za9 _ _ hji] at hj
    exact hV' j u hj
  ·by_cases hmi : m = i
   ·subst hmi
    rw [zat]; simp
   ·rw [za9 _ _ hmi]
    by_cases hji : j = i
    ·subst hji
     obtain ⟨oi, hoi, e, he, hb, rfl⟩ := Region.waitsFor_spec hwt
     have hlt2 : e.on < ops.size := Nat.lt_trans (back_of hk hoi he hb) hlt
     obtain ⟨d2, k1, _, _⟩ := dest_of hd (show ops[e.on]? = some ops[e.on] by simp [hlt2])
     rw [hw e.on d2 (by simp [hlt2, k1]) hwt]
     simp
    ·rw [za9 _ _ hji] at hj
     exact h.down j m hwt hj
 ·rintro listed a u ⟨f, h⟩ hr
  refine fin a u (h.slots.trans hn) h.defers h.kept h.base fun j d hj => ?_
  obtain ⟨o', ho', hd'⟩ := Option.bind_eq_some_iff.1 hj
  exact h.done j _ (h.yes j d hj (all_done hk h.size hr j (Array.getElem?_eq_some_iff.1 ho').1))
 ·intro i d _ hl
  simp [Array.getD] at hl
 ·simp [zf1]
end Go.Proofs.YtmpbbmfbgcpplaaGreatDoor
