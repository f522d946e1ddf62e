import Derived.Test.YtcfekhcdadldmaaGreatDoorAmL
import Derived.StillTail
import Derived.Below
import Derived.Laws.Externs
import Derived.Lib.Bytealg
set_option linter.unusedSimpArgs false
namespace Go.Proofs.YtcfekhcdadldmaaGreatDoor.Am
open Go
/- A region whose order is drawn: its heavy operations stand in one order; the others are worked out at each stage, and must stay. -/
def isHeavy : Op → Bool
  | .store .. => true
  | .alloc _ => true
  | .box .. => true
  | .buildSlice .. => true
  | .mapUpdate .. => true
  | .insert .. => true
  | .makeMap .. => true
  | .makeSlice .. => true
  | .range .. => true
  | .next .. => true
  | .entry _ => true
  | .call c => match c.callee with
    | .builtin .len => false
    | .builtin .cap => false
    | .builtin .min => false
    | .builtin .max => false
    | _ => true
  | _ => false
def lenV (E : Env) (t : List Value) (s : St) (c : Call) : Option Value :=
  match c.callee, c.args.toList, c.argTypes.toList with
  | .builtin .len, [x], [ty] => opLen s (opv t x) (E.und ty)
  | .builtin .cap, [x], [ty] => opCap (opv t x) (E.und ty)
  | .builtin .min, [x, y], _ => opMin false (opv t x) (opv t y)
  | .builtin .max, [x, y], _ => opMin true (opv t x) (opv t y)
  | _, _, _ => none
def lightV (E : Env) (t : List Value) (s : St) (o : Op) : Option Value :=
  match o with
  | .move x => some (opv t x)
  | .assign x => some (opv t x)
  | .pick c a b => opPick t a b (opv t c)
  | .binOp op ty x y _ => binV E op ty (isC x || isC y) (opv t x) (opv t y)
  | .unOp op _ x => opUn op (opv t x)
  | .load ty a => opLoad E s ty (opv t a)
  | .fieldAddr ty x f => opFieldAddr E ty f (opv t x)
  | .nilCheck x => opNilCheck (opv t x)
  | .indexAddr ty x i => opIA1 E ty (opv t x) (natOf (opv t i))
  | .index ty x i => opIx1 E ty (opv t x) (natOf (opv t i))
  | .build ty ps => E.build ty ps.toList t
  | .field ty x f => opF1 E f (opv t x) (E.und ty)
  | .extract x i => opEx i (opv t x)
  | .slice ty x lo hi mx => opSliceS E s t ty x lo hi mx
  | .makeInterface ty x => opMI ty (opv t x) (E.und ty)
  | .makeFunc fn first captured => opMF t fn first captured
  | .convert src dst x => opCv1 E s (opv t x) (E.und src) (E.und dst)
  | .call c => lenV E t s c
  | .lookup ty x i ok => opLk E s (opv t x) (opv t i) ok (E.und ty)
  | .typeAssert x _ ty ok => opTA E ty ok (opv t x) (E.und ty)
  | _ => none
def eqL (eq : Value → Value → Bool) : List Value → List Value → Bool
  | [], [] => true
  | a :: x, b :: y => cond (eq a b) (eqL eq x y) false
  | _, _ => false
def eqA : Option Addr → Option Addr → Bool
  | none, none => true
  | some ⟨b, o, none⟩, some ⟨b', o', none⟩ => Nat.beq b b' && Nat.beq o o'
  | _, _ => false
def eqVal : Nat → Value → Value → Bool
  | 0, _, _ => false
  | d + 1, v, u => match v, u with
    | .bool a, .bool b => a == b
    | .int k a, .int k' b => kindEq k k' && intEq a b
    | .string a, .string b => bytesEq a.data.toList b.data.toList
    | .pointer a, .pointer b => eqA a b
    | .slice a n c, .slice b m e => eqA a b && (Nat.beq n m && Nat.beq c e)
    | .map none, .map none => true
    | .map (some a), .map (some b) => Nat.beq a b
    | .chan none, .chan none => true
    | .nilFunc, .nilFunc => true
    | .nilIface, .nilIface => true
    | .iface t x, .iface t' y => Nat.beq t t' && eqVal d x y
    | .agg x, .agg y => eqL (eqVal d) x.toList y.toList
    | .tuple x, .tuple y => eqL (eqVal d) x.toList y.toList
    | .func (.func f) x y, .func (.func f') x' y' => Nat.beq f f' && (eqL (eqVal d) x.toList x'.toList && eqL (eqVal d) y.toList y'.toList)
    | .func (.methodOf t n) x y, .func (.methodOf t' n') x' y' => (Nat.beq t t' && n == n') && (eqL (eqVal d) x.toList x'.toList && eqL (eqVal d) y.toList y'.toList)
    | _, _ => false
def waits (o : Oper) : List Nat := (o.after.toList.filter (Region.binds .any)).map (·.on)
def hasN : List Nat → Nat → Bool
  | [], _ => false
  | x :: r, i => Bool.casesOn (motive := fun _ => Bool) (Nat.beq i x) (hasN r i) true
def nubA (acc : List Nat) : List Nat → List Nat
  | [] => acc
  | x :: r => Bool.casesOn (motive := fun _ => List Nat) (hasN acc x) (nubA (x :: acc) r) (nubA acc r)
/-- all that an operation waits for, whatever the way. -/
def preOf : List Oper → List (List Nat) → List (List Nat)
  | [], acc => acc
  | o :: r, acc => preOf r (acc ++ [nubA [] ((waits o).flatMap fun j => j :: acc.getD j [])])
def tmpsOf (all : List Oper) (o : Oper) : List Nat :=
  (o.op.operands.toList.filterMap fun | .tmp d => some d | _ => none) ++ (match o.guard with | some g => ((all[g.1]?).bind (·.dst)).toList | none => [])
def isDst (o : Oper) (d : Nat) : Bool := match o.dst with | some e => Nat.beq e d | none => false
/-- operations of a region that lay a new box, whose row is taken where the first heavy operation wants it; the name ahead of theirs. -/
structure Fl where
  fl : List Nat
  c0 : Nat
  an : List Nat
def isMv : Op → Bool
  | .move _ => true
  | .assign _ => true
  | _ => false
/-- a heavy operation: it turns memory, or a variable that others read before. -/
def hvy (F : Fl) (i : Nat) (o : Oper) : Bool := cond (hasN F.fl i) false (cond (hasN F.an i) (isHeavy o.op || isMv o.op) (isHeavy o.op))
def antiOf (all : List Oper) (pre : List (List Nat)) : List Nat :=
  (List.range all.length).filter fun j => match all[j]? with
    | some p => isMv p.op && (List.range all.length).any fun i => match all[i]? with
      | some o => (tmpsOf all o).any (isDst p) && !hasN (pre.getD i []) j
      | none => false
    | none => false
def isNw : Op → Bool
  | .alloc _ => true
  | .box .. => true
  | .buildSlice .. => true
  | .makeSlice .. => true
  | .makeMap _ r => match r with
    | none => true
    | some _ => false
  | _ => false
def isAl (o : Oper) : Bool := isNw o.op
def floatsOf (all : List Oper) (pre : List (List Nat)) : List Nat :=
  (List.range all.length).filter fun i => match all[i]? with
    | some o => isAl o && (List.range all.length).any fun j => match all[j]? with
      | some p => isHeavy p.op && (!Nat.beq i j && (!hasN (pre.getD i []) j && !hasN (pre.getD j []) i))
      | none => false
    | none => false
def stat1 (F : Fl) (all : List Oper) (pre : List (List Nat)) (i : Nat) (o : Oper) : Bool :=
  (waits o).all (fun j => Nat.blt j i) &&
  ((tmpsOf all o).all (fun d => (List.range all.length).all fun j => match all[j]? with | some p => cond (isDst p d) (cond (hvy F j p) true (hasN (pre.getD i []) j)) true | none => true) &&
  ((List.range all.length).all (fun j => match all[j]?, o.dst with | some p, some d => cond (Nat.beq i j) true (!isDst p d) | _, _ => true) &&
  cond (hasN F.fl i) ((tmpsOf all o).all fun d => (List.range all.length).all fun j => match all[j]? with | some p => cond (isDst p d) (hasN (pre.getD i []) j) true | none => true) true))
def statB (F : Fl) (all : List Oper) (pre : List (List Nat)) : Bool := (List.range all.length).all fun i => match all[i]? with | some o => stat1 F all pre i o | none => true
def heavies (F : Fl) (all : List Oper) : List Nat := (List.range all.length).filter fun i => match all[i]? with | some o => hvy F i o | none => false
def avail (pre : List (List Nat)) (rem : List Nat) (j : Nat) : Bool := (pre.getD j []).all fun i => !hasN rem i
/-- none of those that are done has waited for it. -/
def live (pre : List (List Nat)) (dn : List Nat) (j : Nat) : Bool := dn.all fun h => !hasN (pre.getD h []) j
def chk1 (t : List Value) (d : Option Tmp) : Option Value → Bool
  | some v => match d with
    | none => true
    | some n => match at? t n with
      | some u => eqVal 5 v u
      | none => false
  | none => false
/-- what a light operation gives, its guard looked at. -/
def guarded (E : Env) (all : List Oper) (t : List Value) (s : St) (o : Oper) : Option Value :=
  match o.guard with
  | none => lightV E t s o.op
  | some g => cond (isBoolV (guardV all t g.1)) (cond (isWant g.2 (guardV all t g.1)) (lightV E t s o.op) (some undef)) none
/-- is an operation's guard open? -/
def gdB (all : List Oper) (t : List Value) (o : Oper) : Option Bool := match o.guard with
  | none => some true
  | some g => cond (isBoolV (guardV all t g.1)) (some (isWant g.2 (guardV all t g.1))) none
def flV2 (E : Env) (F : Fl) (t : List Value) (i : Nat) (o : Oper) : Option Bool → Option Value
  | some true => match flInfo E t o.op with
    | some I => some (I.vl (some ⟨F.c0 + i, 0, none⟩))
    | none => none
  | some false => some undef
  | none => none
def flV (E : Env) (F : Fl) (all : List Oper) (t : List Value) (i : Nat) (o : Oper) : Option Value := flV2 E F t i o (gdB all t o)
def gd (E : Env) (F : Fl) (all : List Oper) (t : List Value) (s : St) (i : Nat) (o : Oper) : Option Value := cond (hasN F.fl i) (flV E F all t i o) (guarded E all t s o)
def chkAll (E : Env) (F : Fl) (all : List Oper) (pre : List (List Nat)) (dn rem : List Nat) (new : Nat → Bool) (t : List Value) (s : St) : Bool :=
  (List.range all.length).all fun i => match all[i]? with
    | some o => cond (hvy F i o) true (cond ((avail pre rem i && live pre dn i) && !new i) (chk1 t o.dst (gd E F all t s i o)) true)
    | none => true
def setO (t : List Value) (d : Option Tmp) (k : List Value → Bool) : Option Value → Bool
  | some v => putK t d v k
  | none => false
/-- the light operations that are new. -/
def passK (E : Env) (F : Fl) (all : List Oper) (new : Nat → Bool) (s : St) (k : List Value → Bool) : List Nat → List Value → Bool
  | [], t => k t
  | i :: r, t => match all[i]? with
    | some o => cond (hvy F i o) (passK E F all new s k r t) (cond (new i) (setO t o.dst (fun t => passK E F all new s k r t) (gd E F all t s i o)) (passK E F all new s k r t))
    | none => passK E F all new s k r t
def stageK (E : Env) (F : Fl) (all : List Oper) (pre : List (List Nat)) (dn rem : List Nat) (new : Nat → Bool) (next : KT) (t : List Value) (s : St) : Bool :=
  passK E F all new s (fun t => cond (chkAll E F all pre dn rem new t s) (next t s) false) (List.range all.length) t
def heavyK (E : Env) (call : CallK) (all : List Oper) (o : Oper) (k : K2) (t : List Value) (s : St) : Bool :=
  match o.guard with
  | none => oneOpK E call t s k o.op
  | some g => cond (isBoolV (guardV all t g.1)) (cond (isWant g.2 (guardV all t g.1)) (oneOpK E call t s k o.op) (k undef s)) false
/-- the rows of new boxes. -/
def mat1 (s : St) (n : Nat) (k : St → Bool) : Option FlI → Bool
  | some I => cond I.mp (Tr.setK 17 s.m.t n (some []) fun m => k ⟨s.h, ⟨m, s.m.it⟩, s.c⟩) (forceL I.cs fun z => Tr.setK 17 s.h n (some ⟨z, I.ty, I.sz⟩) fun h => k ⟨h, s.m, s.c⟩)
  | none => false
def mat2 (E : Env) (t : List Value) (s : St) (n : Nat) (k : St → Bool) (o : Oper) : Option Bool → Bool
  | some true => mat1 s n k (flInfo E t o.op)
  | some false => k s
  | none => false
def matK (E : Env) (F : Fl) (all : List Oper) (t : List Value) (k : St → Bool) : List Nat → St → Bool
  | [], s => k s
  | i :: r, s => match all[i]? with
    | some o => mat2 E t s (F.c0 + i) (fun s => matK E F all t k r s) o (gdB all t o)
    | none => false
def rmv (h : Nat) : List Nat → List Nat
  | [] => []
  | x :: r => cond (Nat.beq x h) (rmv h r) (x :: rmv h r)
def allO (f : Nat → Bool) : List Nat → Bool
  | [] => true
  | x :: r => cond (f x) (allO f r) false
/-- the heavy operations that may be next. -/
def frees (pre : List (List Nat)) (rem : List Nat) : List Nat := rem.filter (avail pre rem)
/-- every order of the heavy operations that is open. -/
def evS (E : Env) (F : Fl) (call : CallK) (all : List Oper) (pre : List (List Nat)) (k : KT) : Nat → List Nat → List Nat → KT
  | _, [], dn, t, s => matK E F all t (fun s => k t s) (F.fl.filter (live pre dn)) s
  | 0, _ :: _, _, _, _ => false
  | n + 1, x :: r, dn, t, s => allO (fun h => match all[h]? with
    | some o => matK E F all t (fun s => heavyK E call all o (fun v s' => putK t o.dst v fun t' => stageK E F all pre (dn ++ [h]) (rmv h (x :: r)) (fun j => avail pre (rmv h (x :: r)) j && !avail pre (x :: r) j) (evS E F call all pre k n (rmv h (x :: r)) (dn ++ [h])) t' s') t s) (F.fl.filter fun i => live pre dn i && hasN (pre.getD h []) i) s
    | none => false) (frees pre (x :: r))
def draw1 (E : Env) (F : Fl) (call : CallK) (all : List Oper) (pre : List (List Nat)) (k : KT) (t : List Value) (s : St) : Bool :=
  cond (statB ⟨F.fl, 0, F.an⟩ all pre) (stageK E F all pre [] (heavies ⟨F.fl, 0, F.an⟩ all) (avail pre (heavies ⟨F.fl, 0, F.an⟩ all)) (evS E F call all pre k (heavies ⟨F.fl, 0, F.an⟩ all).length (heavies ⟨F.fl, 0, F.an⟩ all) []) t s) false
def draw2 (E : Env) (call : CallK) (all : List Oper) (pre : List (List Nat)) (k : KT) (t : List Value) (s : St) (an : List Nat) : List Nat → Bool
  | [] => draw1 E ⟨[], s.c, an⟩ call all pre k t s
  | x :: r => forceN (fun c => draw1 E ⟨x :: r, s.c, an⟩ call all pre k t ⟨s.h, s.m, c⟩) (s.c + all.length)
def drawK (E : Env) (call : CallK) : DrawK := fun _ ops k t s =>
  draw2 E call ops.toList (preOf ops.toList []) k t s (antiOf ops.toList (preOf ops.toList [])) (floatsOf ops.toList (preOf ops.toList []))
theorem eqL_eq {eq : Value → Value → Bool} (h : ∀ v u, eq v u = true → v = u) : ∀ (x y : List Value), eqL eq x y = true → x = y
  | [], [], _ => rfl
  | [], _ :: _, e => by cases e
  | _ :: _, [], e => by cases e
  | a :: x, b :: y, e => by
    rw [eqL] at e
    cases hq : eq a b with
    | false => rw [hq] at e; cases e
    | true => rw [hq] at e; rw [h a b hq, eqL_eq h x y e]
theorem eqA_eq {a b : Option Addr} (h : eqA a b = true) : a = b := by
  unfold eqA at h
  split at h
  · rfl
  · simp only [Bool.and_eq_true] at h
    rw [Nat.eq_of_beq_eq_true h.1, Nat.eq_of_beq_eq_true h.2]
  · cases h
theorem eqVal_eq : ∀ (d : Nat) (v u : Value), eqVal d v u = true → v = u
  | 0, _, _, h => by cases h
  | d + 1, v, u, h => by
    unfold eqVal at h
    split at h
    · rw [beq_iff_eq.1 h]
    · simp only [Bool.and_eq_true] at h
      have e2 := h.2
      rw [intEq_eq] at e2
      rw [kindEq_eq h.1, beq_iff_eq.1 e2]
    · rename_i a b
      rw [bytesEq_eq] at h
      have := beq_iff_eq.1 h
      cases a with | mk a => cases b with | mk b => exact congrArg (fun z => Value.string ⟨z⟩) (Array.ext' this)
    · rw [eqA_eq h]
    · simp only [Bool.and_eq_true] at h
      rw [eqA_eq h.1, Nat.eq_of_beq_eq_true h.2.1, Nat.eq_of_beq_eq_true h.2.2]
    · rfl
    · rw [Nat.eq_of_beq_eq_true h]
    · rfl
    · rfl
    · rfl
    · simp only [Bool.and_eq_true] at h
      rw [Nat.eq_of_beq_eq_true h.1, eqVal_eq d _ _ h.2]
    · exact congrArg Value.agg (Array.ext' (eqL_eq (eqVal_eq d) _ _ h))
    · exact congrArg Value.tuple (Array.ext' (eqL_eq (eqVal_eq d) _ _ h))
    · simp only [Bool.and_eq_true] at h
      rw [Nat.eq_of_beq_eq_true h.1, Array.ext' (eqL_eq (eqVal_eq d) _ _ h.2.1), Array.ext' (eqL_eq (eqVal_eq d) _ _ h.2.2)]
    · simp only [Bool.and_eq_true] at h
      rw [Nat.eq_of_beq_eq_true h.1.1, beq_iff_eq.1 h.1.2, Array.ext' (eqL_eq (eqVal_eq d) _ _ h.2.1), Array.ext' (eqL_eq (eqVal_eq d) _ _ h.2.2)]
    · cases h
theorem hasN_cons (x : Nat) (r : List Nat) (i : Nat) : hasN (x :: r) i = (Nat.beq i x || hasN r i) := by
  show Bool.casesOn (motive := fun _ => Bool) (Nat.beq i x) (hasN r i) true = _
  cases Nat.beq i x <;> rfl
theorem hasN_iff {i : Nat} : ∀ {l : List Nat}, hasN l i = true ↔ i ∈ l
  | [] => ⟨fun h => (by cases h), fun h => (by cases h)⟩
  | x :: r => by
    rw [hasN_cons, Bool.or_eq_true, List.mem_cons, hasN_iff (l := r)]
    exact ⟨fun h => h.imp Nat.eq_of_beq_eq_true id, fun h => h.imp (fun e => by rw [e]; exact Nat.beq_refl x) id⟩
theorem rmv_mem {h j : Nat} : ∀ {l : List Nat}, j ∈ rmv h l ↔ j ∈ l ∧ j ≠ h
  | [] => ⟨fun e => (by cases e), fun e => (by cases e.1)⟩
  | x :: r => by
    rw [rmv]
    cases hq : Nat.beq x h with
    | true =>
      have := Nat.eq_of_beq_eq_true hq
      subst this
      simp only [cond_true]
      rw [rmv_mem (l := r), List.mem_cons]
      exact ⟨fun e => ⟨.inr e.1, e.2⟩, fun e => ⟨e.1.resolve_left e.2, e.2⟩⟩
    | false =>
      have hne : x ≠ h := fun e => by rw [e, Nat.beq_refl] at hq; cases hq
      simp only [cond_false]
      rw [List.mem_cons, List.mem_cons, rmv_mem (l := r)]
      exact ⟨fun e => e.elim (fun e => ⟨.inl e, e ▸ hne⟩) (fun e => ⟨.inr e.1, e.2⟩), fun e => e.1.elim .inl (fun q => .inr ⟨q, e.2⟩)⟩
theorem allO_mem {f : Nat → Bool} : ∀ {l : List Nat}, allO f l = true → ∀ x ∈ l, f x = true
  | [], _, x, hx => by cases hx
  | y :: r, h, x, hx => by
    rw [allO] at h
    cases hq : f y with
    | false => rw [hq] at h; cases h
    | true =>
      rw [hq] at h
      rcases List.mem_cons.1 hx with rfl | hx
      · exact hq
      · exact allO_mem h x hx
theorem evS_nil {E : Env} {F : Fl} {call : CallK} {all : List Oper} {pre : List (List Nat)} {k : KT} {dn : List Nat} {t : List Value} {s : St} : ∀ (n : Nat), evS E F call all pre k n [] dn t s = matK E F all t (fun s => k t s) (F.fl.filter (live pre dn)) s
  | 0 => rfl
  | _ + 1 => rfl
theorem evS_free {E : Env} {F : Fl} {call : CallK} {all : List Oper} {pre : List (List Nat)} {k : KT} {dn rem : List Nat} {t : List Value} {s : St} {n i : Nat} {o : Oper} (h : evS E F call all pre k n rem dn t s = true) (hi : i ∈ rem) (ha : avail pre rem i = true) (ho : all[i]? = some o) :
    ∃ m, matK E F all t (fun s => heavyK E call all o (fun v s' => putK t o.dst v fun t' => stageK E F all pre (dn ++ [i]) (rmv i rem) (fun j => avail pre (rmv i rem) j && !avail pre rem j) (evS E F call all pre k m (rmv i rem) (dn ++ [i])) t' s') t s) (F.fl.filter fun j => live pre dn j && hasN (pre.getD i []) j) s = true := by
  cases rem with
  | nil => cases hi
  | cons x r =>
    cases n with
    | zero => cases (show false = true from h)
    | succ n =>
      have h1 := allO_mem (show allO _ (frees pre (x :: r)) = true from h) i (List.mem_filter.2 ⟨hi, ha⟩)
      simp only [ho] at h1
      exact ⟨n, h1⟩
end Go.Proofs.YtcfekhcdadldmaaGreatDoor.Am
set_option linter.unusedSimpArgs false
namespace Go.Proofs.YtcfekhcdadldmaaGreatDoor.Am
open Go
section
variable {P : Program} {E : Env} {ρ : Rho} {s : St} {w : World} {t t' : List Value} {a : Act} {o : Oper}
theorem light_ok (g : Good P E) (hR : R ρ s w) (hT : TR ρ t a) {v : Value} (e : lightV E t s o.op = some v) : ∃ u, (execOp a.eval o).run P w = .ok (.value u) w ∧ VR ρ v u := by
  have hv : ∀ {S : Sem Value} {u : Value}, S.run P w = .ok u w → (do pure (.value (← S)) : Sem Next).run P w = .ok (.value u) w := fun e => by simp [e]
  unfold lightV at e
  split at e
  case h_1 x ho => exact ⟨a.eval x, by simp [execOp, ho], (Option.some.inj e) ▸ hT.opv x⟩
  case h_2 x ho => exact ⟨a.eval x, by simp [execOp, ho], (Option.some.inj e) ▸ hT.opv x⟩
  case h_3 c x y ho =>
    unfold opPick at e
    have hc := hT.opv c
    split at e
    · rename_i hcv
      rw [hcv, VR] at hc
      exact ⟨a.eval x, by simp [execOp, ho, hc, asBool], (Option.some.inj e) ▸ hT.opv x⟩
    · rename_i hcv
      rw [hcv, VR] at hc
      exact ⟨a.eval y, by simp [execOp, ho, hc, asBool], (Option.some.inj e) ▸ hT.opv y⟩
    · cases e
  case h_4 op ty x y ty2 ho =>
    obtain ⟨u, hu, hvr⟩ := bin_run (w := w) g e (hT.opv x) (hT.opv y)
    exact ⟨u, by simp only [execOp, ho]; exact hv hu, hvr⟩
  case h_5 op ty x ho =>
    obtain ⟨u, hu, hvr⟩ := un_run (P := P) (w := w) e (hT.opv x)
    exact ⟨u, by simp only [execOp, ho]; exact hv hu, hvr⟩
  case h_6 ty x ho =>
    obtain ⟨u, hu, hvr⟩ := load_run g hR e (hT.opv x)
    exact ⟨u, by simp only [execOp, ho]; exact hv hu, hvr⟩
  case h_7 ty x f ho =>
    obtain ⟨u, hu, hvr⟩ := fa_run (w := w) g e (hT.opv x)
    exact ⟨u, by simp only [execOp, ho]; exact hv hu, hvr⟩
  case h_8 x ho => exact nc_run e (hT.opv x) rfl ho
  case h_9 ty x i ho =>
    obtain ⟨u, hu, hvr⟩ := ia_run (w := w) g e (hT.opv x) (hT.opv i)
    exact ⟨u, by simp only [execOp, ho]; exact hv hu, hvr⟩
  case h_10 ty x i ho =>
    obtain ⟨u, hu, hvr⟩ := ix_run (w := w) g e (hT.opv x) (hT.opv i)
    exact ⟨u, by simp only [execOp, ho]; exact hv hu, hvr⟩
  case h_11 ty ps ho =>
    obtain ⟨u, hu, hvr⟩ := build_run (w := w) g hT e
    exact ⟨u, by simp only [execOp, ho]; exact hv hu, hvr⟩
  case h_12 ty x f ho =>
    obtain ⟨u, hu, hvr⟩ := field_run (w := w) g e (hT.opv x)
    exact ⟨u, by simp only [execOp, ho]; exact hv hu, hvr⟩
  case h_13 x i ho =>
    obtain ⟨u, hu, hvr⟩ := ex_run (P := P) (w := w) e (hT.opv x)
    exact ⟨u, by simp only [execOp, ho]; exact hv hu, hvr⟩
  case h_14 ty x lo hi mx ho =>
    rcases sliceS_run g hR hT e with e | ⟨rfl, u, hu, hvr⟩
    rotate_left
    · exact ⟨u, by simp only [execOp, ho]; exact hv hu, hvr⟩
    cases mx with
    | some m =>
      cases hi with
      | none => cases e
      | some y =>
        obtain ⟨u, hu, hvr⟩ := slm_run (w := w) g hT e (hT.opv x) (hT.opv y) (hT.opv m)
        exact ⟨u, by simp only [execOp, ho]; exact hv hu, hvr⟩
    | none =>
      obtain ⟨u, hu, hvr⟩ := sl_run (w := w) g hT e (hT.opv x)
      exact ⟨u, by simp only [execOp, ho]; exact hv hu, hvr⟩
  case h_15 ty x ho =>
    obtain ⟨u, hu, hvr⟩ := mi_run (w := w) g e (hT.opv x)
    exact ⟨u, by simp only [execOp, ho]; exact hv hu, hvr⟩
  case h_16 fn first captured ho =>
    unfold opMF at e
    refine ⟨.func fn (first.map a.eval) (captured.map a.eval), by simp [execOp, ho, Instr.makeFunc], ?_⟩
    rw [← Option.some.inj e]
    exact vr_func.2 ⟨_, _, rfl, by simpa using L2.evals hT first.toList, by simpa using L2.evals hT captured.toList⟩
  case h_17 src dst x ho =>
    obtain ⟨u, hu, hvr⟩ := cv1_run g hR e (hT.opv x)
    exact ⟨u, by simp only [execOp, ho]; exact hv hu, hvr⟩
  case h_18 c ho =>
    unfold lenV at e
    split at e
    · rename_i x ty hc h1 h2
      have e1 : c.args = #[x] := by apply Array.ext'; simpa using h1
      have e2 : c.argTypes = #[ty] := by apply Array.ext'; simpa using h2
      obtain ⟨u, hu, hvr⟩ := len_run (t2 := o.type) g hR e (hT.opv x)
      exact ⟨u, by simp [execOp, ho, resolve, hc, e1, e2, invoke, builtin, hu], hvr⟩
    · rename_i x ty hc h1 h2
      have e1 : c.args = #[x] := by apply Array.ext'; simpa using h1
      have e2 : c.argTypes = #[ty] := by apply Array.ext'; simpa using h2
      obtain ⟨u, hu, hvr⟩ := cap_run (P := P) (w := w) (ty := o.type) g e (hT.opv x)
      exact ⟨u, by simp [execOp, ho, resolve, hc, e1, e2, invoke, builtin, hu], hvr⟩
    · rename_i x y hc h1
      have e1 : c.args = #[x, y] := by apply Array.ext'; simpa using h1
      obtain ⟨u, hu, hvr⟩ := min_run (P := P) (w := w) (t1 := c.argTypes) (t2 := o.type) e (hT.opv x) (hT.opv y)
      exact ⟨u, by simp [execOp, ho, resolve, hc, e1, invoke, builtin, hu], hvr⟩
    · rename_i x y hc h1
      have e1 : c.args = #[x, y] := by apply Array.ext'; simpa using h1
      obtain ⟨u, hu, hvr⟩ := max_run (P := P) (w := w) (t1 := c.argTypes) (t2 := o.type) e (hT.opv x) (hT.opv y)
      exact ⟨u, by simp [execOp, ho, resolve, hc, e1, invoke, builtin, hu], hvr⟩
    · cases e
  case h_19 ty x i ok ho =>
    obtain ⟨u, hu, hvr⟩ := lk_run g hR e (hT.opv x) (hT.opv i)
    exact ⟨u, by simp only [execOp, ho]; exact hv hu, hvr⟩
  case h_20 x tx ty ok ho =>
    obtain ⟨u, hu, hvr⟩ := ta_run (w := w) (tx := tx) g e (hT.opv x)
    exact ⟨u, by simp only [execOp, ho]; exact hv hu, hvr⟩
  case h_21 => cases e
theorem fill_congr {place : Nat → Option (Nat × Nat)} : ∀ (ps : List (Nat × Operand)) (cs : List Value), (∀ p ∈ ps, opv t p.2 = opv t' p.2) → fillL E place t ps cs = fillL E place t' ps cs
  | [], _, _ => rfl
  | (i, x) :: r, cs, h => by
    rw [fillL, fillL]
    have h1 : opv t x = opv t' x := h (i, x) (by simp)
    rw [h1]
    cases place i with
    | none => rfl
    | some p =>
      simp only
      cases cellsO (opv t' x) with
      | none => rfl
      | some vs =>
        simp only
        rw [fill_congr r _ (fun p hp => h p (by simp [hp]))]
theorem natOr_congr {d : Nat} {x : Option Operand} (h : ∀ y ∈ x, opv t y = opv t' y) : natOr t d x = natOr t' d x := by
  cases x with
  | none => rfl
  | some y => simp only [natOr]; rw [h y rfl]
theorem slice_congr {ty : TypeId} {x : Operand} {lo hi mx : Option Operand} (h : opv t x = opv t' x) (h1 : ∀ y ∈ lo, opv t y = opv t' y) (h2 : ∀ y ∈ hi, opv t y = opv t' y) (h3 : ∀ y ∈ mx, opv t y = opv t' y) : opSlice E t ty x lo hi mx = opSlice E t' ty x lo hi mx := by
  cases mx with
  | some m =>
    cases hi with
    | none => rfl
    | some y =>
      simp only [opSlice]
      rw [h, natOr_congr h1, h2 y rfl, h3 m rfl]
  | none =>
    simp only [opSlice]
    rw [h]
    unfold opSl2
    split
    · split
      · rw [natOr_congr h1]
        split
        · rw [natOr_congr h2]
        · rfl
      · rfl
    · split
      · rw [natOr_congr h1]
        split
        · rw [natOr_congr h2]
        · rfl
      · rfl
    · rfl
theorem sliceS_congr {ty : TypeId} {x : Operand} {lo hi mx : Option Operand} (h : opv t x = opv t' x) (h1 : ∀ y ∈ lo, opv t y = opv t' y) (h2 : ∀ y ∈ hi, opv t y = opv t' y) (h3 : ∀ y ∈ mx, opv t y = opv t' y) : opSliceS E s t ty x lo hi mx = opSliceS E s t' ty x lo hi mx := by
  unfold opSliceS
  split
  · split
    · cases mx with
      | none => simp only [opSlA]; rw [h, natOr_congr h1, natOr_congr h2]
      | some m => rfl
    · rfl
  · exact slice_congr h h1 h2 h3
theorem light_congr {op : Op} (h : ∀ x ∈ op.operands.toList, opv t x = opv t' x) : lightV E t s op = lightV E t' s op := by
  cases op with
  | move x => simp [Op.operands] at h; simp [lightV, h]
  | assign x => simp [Op.operands] at h; simp [lightV, h]
  | pick c a b => simp [Op.operands] at h; simp [lightV, opPick, h]
  | binOp op ty x y ty2 => simp [Op.operands] at h; simp [lightV, h]
  | unOp op ty x => simp [Op.operands] at h; simp [lightV, h]
  | load ty x => simp [Op.operands] at h; simp [lightV, h]
  | fieldAddr ty x f => simp [Op.operands] at h; simp [lightV, h]
  | nilCheck x => simp [Op.operands] at h; simp [lightV, h]
  | indexAddr ty x i => simp [Op.operands] at h; simp [lightV, h]
  | index ty x i => simp [Op.operands] at h; simp [lightV, h]
  | build ty ps =>
    have h' : ∀ p ∈ ps.toList, opv t p.2 = opv t' p.2 := fun p hp => h p.2 (by simp only [Op.operands]; exact List.mem_map.2 ⟨p, hp, rfl⟩)
    simp only [lightV, Env.build]
    split
    · rfl
    · split
      · rw [fill_congr _ _ h']
      · split
        · rw [fill_congr _ _ h']
        · rfl
      · rfl
  | field ty x f => simp [Op.operands] at h; simp [lightV, h]
  | extract x i => simp [Op.operands] at h; simp [lightV, h]
  | slice ty x lo hi mx =>
    simp only [lightV]
    exact sliceS_congr (h x (by simp [Op.operands])) (fun y hy => h y (by simp [Op.operands, Option.mem_def.1 hy])) (fun y hy => h y (by simp [Op.operands, Option.mem_def.1 hy])) (fun y hy => h y (by simp [Op.operands, Option.mem_def.1 hy]))
  | makeInterface ty x => simp [Op.operands] at h; simp [lightV, h]
  | makeFunc fn first captured =>
    have h1 : first.toList.map (opv t) = first.toList.map (opv t') := List.map_congr_left fun x hx => h x (by simp [Op.operands]; exact .inl (by simpa using hx))
    have h2 : captured.toList.map (opv t) = captured.toList.map (opv t') := List.map_congr_left fun x hx => h x (by simp [Op.operands]; exact .inr (by simpa using hx))
    simp only [lightV, opMF, h1, h2]
  | convert src dst x => simp [Op.operands] at h; simp [lightV, h]
  | lookup ty x i ok => simp [Op.operands] at h; simp [lightV, h]
  | typeAssert x tx ty ok => simp [Op.operands] at h; simp [lightV, h]
  | call c =>
    simp only [lightV, lenV]
    split
    · rename_i x ty hc h1 h2
      rw [h x (by simp only [Op.operands, Call.operands, hc]; simp [h1])]
    · rename_i x ty hc h1 h2
      rw [h x (by simp only [Op.operands, Call.operands, hc]; simp [h1])]
    · rename_i x y hc h1
      rw [h x (by simp only [Op.operands, Call.operands, hc]; simp [h1]), h y (by simp only [Op.operands, Call.operands, hc]; simp [h1])]
    · rename_i x y hc h1
      rw [h x (by simp only [Op.operands, Call.operands, hc]; simp [h1]), h y (by simp only [Op.operands, Call.operands, hc]; simp [h1])]
    · rfl
  | _ => rfl
theorem heavy_congr {call : CallK} {k : K2} {op : Op} (hh : (isHeavy op || isMv op) = true) (h : ∀ x ∈ op.operands.toList, opv t x = opv t' x) : oneOpK E call t s k op = oneOpK E call t' s k op := by
  cases op with
  | move x => simp [Op.operands] at h; simp [oneOpK, h]
  | assign x => simp [Op.operands] at h; simp [oneOpK, h]
  | store ty x y => simp [Op.operands] at h; simp [oneOpK, h]
  | alloc ty => rfl
  | mapUpdate ty m x y => simp [Op.operands] at h; simp [oneOpK, h]
  | insert ty m x y => simp [Op.operands] at h; simp [oneOpK, h]
  | makeMap ty r => rfl
  | makeSlice ty x y => simp [Op.operands] at h; simp [oneOpK, h]
  | range ty x => simp [Op.operands] at h; simp [oneOpK, h]
  | next x isS => simp [Op.operands] at h; simp [oneOpK, h]
  | entry x => simp [Op.operands] at h; simp [oneOpK, h]
  | box ty x => simp [Op.operands] at h; simp [oneOpK, h]
  | buildSlice ty len ps =>
    have h' : ∀ p ∈ ps.toList, opv t p.2 = opv t' p.2 := fun p hp => h p.2 (by simp only [Op.operands]; exact List.mem_map.2 ⟨p, hp, rfl⟩)
    simp only [oneOpK, opBSK]
    split
    · unfold opBSK2
      split
      · unfold opBS2; rw [fill_congr _ _ h']
      · rfl
    · rfl
  | call c =>
    have h' : ∀ x ∈ c.args.toList, opv t x = opv t' x := fun x hx => h x (by simp only [Op.operands, Call.operands]; simp [hx])
    simp only [oneOpK, opCallK]
    split
    · rename_i f hc
      have hf : opv t f = opv t' f := h f (by simp only [Op.operands, Call.operands, hc]; simp)
      rw [hf, List.map_congr_left h']
    · rename_i b hc
      unfold opBIK
      split
      · split
        · rename_i x ty h1 h2
          rw [h' x (by rw [h1]; simp)]
        · rfl
      · split
        · rename_i x y t1 t2 h1 h2
          rw [h' x (by rw [h1]; simp), h' y (by rw [h1]; simp)]
        · rfl
      · split
        · rename_i x y h1
          rw [h' x (by rw [h1]; simp), h' y (by rw [h1]; simp)]
        · rfl
      · split
        · rename_i x y h1
          rw [h' x (by rw [h1]; simp), h' y (by rw [h1]; simp)]
        · rfl
      · split
        · rename_i x y t1 t2 h1 h2
          rw [h' x (by rw [h1]; simp), h' y (by rw [h1]; simp)]
        · rfl
      · split
        · rename_i x h1
          rw [h' x (by rw [h1]; simp)]
        · rfl
      · split
        · rename_i x ty h1 h2
          rw [h' x (by rw [h1]; simp)]
        · rfl
      · split
        · rename_i x y pt it h1 h2
          rw [h' x (by rw [h1]; simp), h' y (by rw [h1]; simp)]
        · rfl
      · split
        · rename_i x y mt it h1 h2
          rw [h' x (by rw [h1]; simp), h' y (by rw [h1]; simp)]
        · rfl
      · split
        · rename_i x ty h1 h2
          rw [h' x (by rw [h1]; simp)]
        · rfl
      · rfl
    · rfl
  | _ => simp [isHeavy, isMv] at hh
theorem fl_congr {op : Op} (h : ∀ x ∈ op.operands.toList, opv t x = opv t' x) : flInfo E t op = flInfo E t' op := by
  cases op with
  | alloc ty => rfl
  | box ty x => simp [Op.operands] at h; simp [flInfo, h]
  | makeSlice ty x y => simp [Op.operands] at h; simp [flInfo, h]
  | buildSlice ty len ps =>
    have h' : ∀ p ∈ ps.toList, opv t p.2 = opv t' p.2 := fun p hp => h p.2 (by simp only [Op.operands]; exact List.mem_map.2 ⟨p, hp, rfl⟩)
    simp only [flInfo]
    split
    · unfold flBS
      split
      · unfold opBS2; rw [fill_congr _ _ h']
      · rfl
    · rfl
  | _ => rfl
end
end Go.Proofs.YtcfekhcdadldmaaGreatDoor.Am
set_option linter.unusedSimpArgs false
namespace Go.Proofs.YtcfekhcdadldmaaGreatDoor.Am
open Go
/- a region in any order, by what holds where some of its operations are done. -/
def leftN (listed : Array Bool) : Nat := listed.toList.count false
theorem leftN_set {listed : Array Bool} {i : Nat} (hi : i < listed.size) (h : listed.getD i true = false) : leftN (listed.setIfInBounds i true) + 1 = leftN listed := by
  have hl : i < listed.toList.length := by simpa using hi
  have hv : listed.toList[i] = false := by
    have : listed[i] = false := by simpa [Array.getD, hi] using h
    simpa using this
  have hc : 0 < listed.toList.count false := List.count_pos_iff.2 (hv ▸ List.getElem_mem hl)
  rw [leftN, leftN, Array.toList_setIfInBounds, List.count_set hl, hv]
  rw [if_pos (show (false == false) = true from rfl), if_neg (show ¬ (true == false) = true by decide)]
  omega
theorem ready_nil {ops : Array Oper} {listed : Array Bool} (hs : listed.size = ops.size) (h : leftN listed = 0) : Region.ready .any ops listed = [] := by
  rw [Region.ready, List.filter_eq_nil_iff]
  intro i hi
  have hi' : i < listed.size := by rw [hs]; exact List.mem_range.1 hi
  have hv : listed[i] = true := by
    rcases hb : listed[i] with _ | _
    · exfalso
      have : 0 < listed.toList.count false := List.count_pos_iff.2 (by rw [← hb]; simp)
      unfold leftN at h
      omega
    · rfl
  simp [Array.getD, hi', hv]
section
variable {P : Program} {ops : Array Oper} {Q : Exit → Act → World → Prop}
theorem wpAny_invG (I : (Nat → Bool) → Act → World → Prop)
    (step : ∀ (i : Nat) (o : Oper) (S : Nat → Bool) (a : Act) (u : World), ops[i]? = some o → S i = false → (∀ j ∈ waits o, S j = true) → I S a u → wpOp P ops Q i (fun a' u' => I (fun j => decide (j = i) || S j) a' u') a u)
    (fin : ∀ (S : Nat → Bool) (a : Act) (u : World), (∀ i, i < ops.size → S i = true) → I S a u → Q .normal a u) (hb : ∀ (i : Nat) (o : Oper), ops[i]? = some o → ∀ j ∈ waits o, j < i) :
    ∀ (fuel : Nat) (listed : Array Bool) (a : Act) (w : World), listed.size = ops.size → (∃ S : Nat → Bool, (∀ i, S i = listed.getD i false) ∧ I S a w) → leftN listed ≤ fuel → wpAny P .any ops Q fuel listed a w := by
  have wt : ∀ (o : Oper) (j : Nat), j ∈ waits o ↔ ∃ e ∈ o.after.toList, Region.binds .any e = true ∧ e.on = j := fun o j => by
    unfold waits
    rw [List.mem_map]
    constructor
    · rintro ⟨e, he, rfl⟩
      exact ⟨e, (List.mem_filter.1 he).1, (List.mem_filter.1 he).2, rfl⟩
    · rintro ⟨e, h1, h2, rfl⟩
      exact ⟨e, List.mem_filter.2 ⟨h1, h2⟩, rfl⟩
  have finR : ∀ (listed : Array Bool) (a : Act) (w : World), listed.size = ops.size → (∃ S : Nat → Bool, (∀ i, S i = listed.getD i false) ∧ I S a w) → Region.ready .any ops listed = [] → Q .normal a w := by
    rintro listed a w hs ⟨S, hS, hI⟩ hr
    refine fin S a w ?_ hI
    intro i
    induction i using Nat.strongRecOn with
    | ind i ih =>
      intro hi
      rw [hS]
      rcases hbd : listed.getD i false with _ | _
      · exfalso
        have hno : i ∉ Region.ready .any ops listed := by rw [hr]; simp
        apply hno
        rw [Region.ready, List.mem_filter]
        refine ⟨List.mem_range.2 hi, ?_⟩
        have ho : ops[i]? = some ops[i] := by simp [hi]
        rw [ho]
        simp only [Option.map_some, Option.getD_some]
        have hi2 : i < listed.size := by rw [hs]; exact hi
        have hT : listed.getD i true = false := by
          simp only [Array.getD, hi2, dite_true] at hbd ⊢
          exact hbd
        rw [hT]
        simp only [Bool.not_false, Bool.true_and]
        rw [Array.all_eq_true']
        intro e he
        rcases hbe : Region.binds .any e with _ | _
        · rfl
        · have hj : e.on ∈ waits ops[i] := (wt _ _).2 ⟨e, by simpa using he, hbe, rfl⟩
          have hlt := hb i _ ho e.on hj
          have := ih e.on hlt (by omega)
          rw [hS] at this
          simpa using this
      · rfl
  intro fuel
  induction fuel with
  | zero =>
    intro listed a w hs h hl
    have hr := ready_nil hs (Nat.le_zero.1 hl)
    exact ⟨hr, finR _ _ _ hs h hr⟩
  | succ fuel ih =>
    intro listed a w hs h hl
    refine ⟨fun hr => finR _ _ _ hs h hr, fun i hi => ?_⟩
    obtain ⟨S, hS, hI⟩ := h
    have hi' := List.mem_filter.1 hi
    have hlt : i < ops.size := List.mem_range.1 hi'.1
    have ho : ops[i]? = some ops[i] := by simp [hlt]
    have hp := hi'.2
    rw [ho] at hp
    simp only [Bool.and_eq_true, Option.map_some, Option.getD_some] at hp
    have hil : i < listed.size := by rw [hs]; exact hlt
    have hno : listed.getD i true = false := by simpa using hp.1
    have hno2 : listed.getD i false = false := by
      simp only [Array.getD, hil, dite_true] at hno ⊢
      exact hno
    have hw : ∀ j ∈ waits ops[i], S j = true := fun j hj => by
      obtain ⟨e, he, hbe, rfl⟩ := (wt _ _).1 hj
      have := Array.all_eq_true'.1 hp.2 e (by simpa using he)
      rw [hbe] at this
      rw [hS]
      simpa using this
    have hstep := step i ops[i] S a w ho ((hS i).trans hno2) hw hI
    have hleft := leftN_set hil hno
    refine wpOp_mono (fun a' w' h' => ih _ a' w' (by simp [hs]) ⟨_, fun j => ?_, h'⟩ (by omega)) hstep
    by_cases hji : j = i
    · subst hji; simp [Array.getD, hil]
    · have he : (listed.setIfInBounds i true).getD j false = listed.getD j false := by
        simp only [Array.getD_eq_getD_getElem?]
        rw [Array.getElem?_setIfInBounds_ne (Ne.symm hji)]
      simp [hji, hS, he]
theorem region_invG {id : Nat} {a0 : Act} {w : World} (hm : P.follows .mixedOrders = true) (I : (Nat → Bool) → Act → World → Prop) (h0 : I (fun _ => false) a0 w.drew)
    (step : ∀ (i : Nat) (o : Oper) (S : Nat → Bool) (a : Act) (u : World), ops[i]? = some o → S i = false → (∀ j ∈ waits o, S j = true) → I S a u → wpOp P ops Q i (fun a' u' => I (fun j => decide (j = i) || S j) a' u') a u)
    (fin : ∀ (S : Nat → Bool) (a : Act) (u : World), (∀ i, i < ops.size → S i = true) → I S a u → Q .normal a u) (hb : ∀ (i : Nat) (o : Oper), ops[i]? = some o → ∀ j ∈ waits o, j < i) : (Code.region id ops true).wp P Q a0 w :=
  wp_region_any hm (wpAny_invG I step fin hb ops.size (Array.replicate ops.size false) a0 _ (by simp) ⟨fun _ => false, fun i => by simp [Array.getD], h0⟩ (by simp [leftN]))
end
/- what the look at a region says. -/
theorem flat_congr {f g : Nat → List Nat} : ∀ (l : List Nat), (∀ j ∈ l, f j = g j) → l.flatMap f = l.flatMap g
  | [], _ => rfl
  | x :: r, h => by rw [List.flatMap_cons, List.flatMap_cons, h x (by simp), flat_congr r (fun j hj => h j (by simp [hj]))]
theorem mem_nubA {j : Nat} : ∀ (l acc : List Nat), j ∈ nubA acc l → j ∈ acc ∨ j ∈ l
  | [], acc, h => .inl h
  | x :: r, acc, h => by
    unfold nubA at h
    cases hq : hasN acc x with
    | true =>
      rw [hq] at h
      exact (mem_nubA r acc h).imp id (List.mem_cons_of_mem _)
    | false =>
      rw [hq] at h
      rcases mem_nubA r (x :: acc) h with h | h
      · rcases List.mem_cons.1 h with rfl | h
        · exact .inr (List.mem_cons_self ..)
        · exact .inl h
      · exact .inr (List.mem_cons_of_mem _ h)
theorem preOf_spec : ∀ (l : List Oper) (acc : List (List Nat)), (∃ tl, preOf l acc = acc ++ tl ∧ tl.length = l.length) ∧ ∀ (i : Nat) (o : Oper), l[i]? = some o → (∀ j ∈ waits o, j < acc.length + i) → (preOf l acc).getD (acc.length + i) [] = nubA [] ((waits o).flatMap fun j => j :: (preOf l acc).getD j [])
  | [], acc => ⟨⟨[], by simp [preOf], rfl⟩, fun i o h => by simp at h⟩
  | p :: r, acc => by
    obtain ⟨⟨tl, h1, h2⟩, h3⟩ := preOf_spec r (acc ++ [nubA [] ((waits p).flatMap fun j => j :: acc.getD j [])])
    rw [show preOf (p :: r) acc = preOf r (acc ++ [nubA [] ((waits p).flatMap fun j => j :: acc.getD j [])]) from rfl]
    refine ⟨⟨_, by rw [h1, List.append_assoc], by simp [h2]⟩, fun i o ho hw => ?_⟩
    cases i with
    | zero =>
      simp only [List.getElem?_cons_zero, Option.some.injEq] at ho
      subst ho
      have e1 : (preOf r (acc ++ [nubA [] ((waits p).flatMap fun j => j :: acc.getD j [])])).getD (acc.length + 0) [] = nubA [] ((waits p).flatMap fun j => j :: acc.getD j []) := by
        rw [h1, List.append_assoc, List.getD_eq_getElem?_getD, List.getElem?_append_right (by simp)]
        simp
      rw [e1]
      refine congrArg (nubA []) (flat_congr _ fun j hj => ?_)
      have hlt := hw j hj
      congr 1
      rw [h1, List.append_assoc, List.getD_eq_getElem?_getD, List.getD_eq_getElem?_getD, List.getElem?_append_left (by omega)]
    | succ i =>
      have := h3 i o (by simpa using ho) (fun j hj => by have := hw j hj; simp; omega)
      rw [show (acc ++ [nubA [] ((waits p).flatMap fun j => j :: acc.getD j [])]).length + i = acc.length + (i + 1) by simp; omega] at this
      exact this
structure Stat (F : Fl) (all : List Oper) (pre : List (List Nat)) : Prop where
  back : ∀ (i : Nat) (o : Oper), all[i]? = some o → ∀ j ∈ waits o, j < i
  opnd : ∀ (i : Nat) (o : Oper), all[i]? = some o → ∀ d ∈ tmpsOf all o, ∀ (j : Nat) (p : Oper), all[j]? = some p → p.dst = some d → hvy F j p = false → j ∈ pre.getD i []
  dst : ∀ (i j : Nat) (o p : Oper) (d : Nat), all[i]? = some o → all[j]? = some p → o.dst = some d → p.dst = some d → i = j
  flt : ∀ (i : Nat) (o : Oper), hasN F.fl i = true → all[i]? = some o → ∀ d ∈ tmpsOf all o, ∀ (j : Nat) (p : Oper), all[j]? = some p → p.dst = some d → j ∈ pre.getD i []
theorem isDst_iff {o : Oper} {d : Nat} : isDst o d = true ↔ o.dst = some d := by
  unfold isDst
  cases o.dst with
  | none => simp
  | some e => simp only [Option.some.injEq]; exact ⟨Nat.eq_of_beq_eq_true, fun e => by rw [e]; exact Nat.beq_refl d⟩
theorem stat_of {F : Fl} {all : List Oper} {pre : List (List Nat)} (h : statB F all pre = true) : Stat F all pre := by
  have lt : ∀ (i : Nat) (o : Oper), all[i]? = some o → i < all.length := fun i o ho => (List.getElem?_eq_some_iff.1 ho).1
  have h1 : ∀ (i : Nat) (o : Oper), all[i]? = some o → stat1 F all pre i o = true := fun i o ho => by
    have := List.all_eq_true.1 h i (List.mem_range.2 (lt i o ho))
    rw [ho] at this
    exact this
  refine ⟨fun i o ho j hj => ?_, fun i o ho d hd j p hp hpd hpl => ?_, fun i j o p d ho hp hod hpd => ?_, fun i o hf ho d hd j p hp hpd => ?_⟩
  · have := h1 i o ho
    simp only [stat1, Bool.and_eq_true] at this
    exact (blt_iff _ _).1 (List.all_eq_true.1 this.1 j hj)
  · have := h1 i o ho
    simp only [stat1, Bool.and_eq_true] at this
    have h2 := List.all_eq_true.1 (List.all_eq_true.1 this.2.1 d hd) j (List.mem_range.2 (lt j p hp))
    rw [hp] at h2
    simp only [isDst_iff.2 hpd, hpl, cond_true, cond_false] at h2
    exact hasN_iff.1 h2
  · have := h1 i o ho
    simp only [stat1, Bool.and_eq_true] at this
    have h2 := List.all_eq_true.1 this.2.2.1 j (List.mem_range.2 (lt j p hp))
    rw [hp, hod] at h2
    simp only at h2
    cases hq : Nat.beq i j with
    | true => exact Nat.eq_of_beq_eq_true hq
    | false =>
      rw [hq] at h2
      simp only [cond_false, Bool.not_eq_true'] at h2
      rw [isDst_iff.2 hpd] at h2
      cases h2
  · have := h1 i o ho
    simp only [stat1, Bool.and_eq_true] at this
    have h2 := this.2.2.2
    rw [hf] at h2
    simp only [cond_true] at h2
    have h3 := List.all_eq_true.1 (List.all_eq_true.1 h2 d hd) j (List.mem_range.2 (lt j p hp))
    rw [hp] at h3
    simp only [isDst_iff.2 hpd, cond_true] at h3
    exact hasN_iff.1 h3
theorem pre_in {all : List Oper} (hb : ∀ (i : Nat) (o : Oper), all[i]? = some o → ∀ j ∈ waits o, j < i) {S : Nat → Bool} (hS : ∀ (i : Nat) (o : Oper), all[i]? = some o → S i = true → ∀ j ∈ waits o, S j = true) :
    ∀ (i : Nat) (o : Oper), all[i]? = some o → (∀ j ∈ waits o, S j = true) → ∀ j ∈ (preOf all []).getD i [], S j = true := by
  intro i
  induction i using Nat.strongRecOn with
  | ind i ih =>
    intro o ho hw j hj
    have h1 := (preOf_spec all []).2 i o ho (fun j hj => by simpa using hb i o ho j hj)
    simp only [List.length_nil, Nat.zero_add] at h1
    rw [h1] at hj
    replace hj := (mem_nubA _ _ hj).resolve_left (fun h => by cases h)
    rw [List.mem_flatMap] at hj
    obtain ⟨x, hx, hj⟩ := hj
    rcases List.mem_cons.1 hj with rfl | hj
    · exact hw _ hx
    · have hlt := hb i o ho x hx
      have hxl : x < all.length := Nat.lt_trans hlt (List.getElem?_eq_some_iff.1 ho).1
      have hox : all[x]? = some all[x] := by simp [hxl]
      exact ih x hlt _ hox (hS x _ hox (hw x hx)) j hj
end Go.Proofs.YtcfekhcdadldmaaGreatDoor.Am
set_option linter.unusedSimpArgs false
namespace Go.Proofs.YtcfekhcdadldmaaGreatDoor.Am
open Go
theorem putK_eq (t : List Value) (d : Option Tmp) (v : Value) (k : List Value → Bool) : putK t d v k = k (match d with | none => t | some n => t.set n v) := by
  cases d with
  | none => rfl
  | some n => simp only [putK, forceV_eq, setK_eq]
theorem passK_ok {E : Env} {F : Fl} {all : List Oper} {new : Nat → Bool} {s : St} {k : List Value → Bool} : ∀ (l : List Nat) (t : List Value), passK E F all new s k l t = true →
    ∃ t', k t' = true ∧ t'.length = t.length ∧ ∀ (d : Nat), (∀ i ∈ l, ∀ o, all[i]? = some o → hvy F i o = false → new i = true → o.dst ≠ some d) → t'[d]? = t[d]?
  | [], t, h => ⟨t, h, rfl, fun _ _ => rfl⟩
  | i :: r, t, h => by
    rw [passK] at h
    have skip : passK E F all new s k r t = true → ∃ t', k t' = true ∧ t'.length = t.length ∧ ∀ (d : Nat), (∀ j ∈ i :: r, ∀ o, all[j]? = some o → hvy F j o = false → new j = true → o.dst ≠ some d) → t'[d]? = t[d]? := fun h => by
      obtain ⟨t', h1, h2, h3⟩ := passK_ok r t h
      exact ⟨t', h1, h2, fun d hd => h3 d fun j hj => hd j (by simp [hj])⟩
    split at h
    · rename_i o ho
      cases hh : hvy F i o with
      | true => rw [hh] at h; exact skip h
      | false =>
        rw [hh] at h
        simp only [cond_false] at h
        cases hn : new i with
        | false => rw [hn] at h; exact skip h
        | true =>
          rw [hn] at h
          simp only [cond_true] at h
          unfold setO at h
          split at h
          · rename_i v hv
            rw [putK_eq] at h
            obtain ⟨t', h1, h2, h3⟩ := passK_ok r _ h
            refine ⟨t', h1, ?_, fun d hd => ?_⟩
            · rw [h2]; cases o.dst <;> simp
            · rw [h3 d fun j hj => hd j (by simp [hj])]
              have := hd i (by simp) o ho hh hn
              cases hdst : o.dst with
              | none => rfl
              | some n =>
                rw [hdst] at this
                simp only
                rw [List.getElem?_set_ne (fun e => this (by rw [e]))]
          · cases h
    · exact skip h
theorem heavies_mem {F : Fl} {all : List Oper} {i : Nat} : i ∈ heavies F all ↔ ∃ o, all[i]? = some o ∧ hvy F i o = true := by
  unfold heavies
  rw [List.mem_filter, List.mem_range]
  constructor
  · rintro ⟨h1, h2⟩
    have ho : all[i]? = some all[i] := by simp [h1]
    rw [ho] at h2
    exact ⟨_, ho, h2⟩
  · rintro ⟨o, ho, hh⟩
    exact ⟨(List.getElem?_eq_some_iff.1 ho).1, by rw [ho]; exact hh⟩
theorem heavies_sorted (F : Fl) (all : List Oper) : (heavies F all).Pairwise (· < ·) := List.Pairwise.filter _ (List.pairwise_lt_range)
/-- new boxes that are laid already or not, their rows not taken yet. -/
structure Pend (E : Env) (F : Fl) (all : List Oper) (w0 : World) (t : List Value) (S : Nat → Bool) (U : Nat → Bool) (ρ : Rho) (s : St) (w : World) : Prop where
  lt : ∀ i, U i = true → F.c0 + i < s.c
  no : ∀ i, U i = true → S i = false → ρ (F.c0 + i) = none
  yes : ∀ i, U i = true → S i = true → (∃ o : Oper, all[i]? = some o ∧ gdB all t o = some false ∧ ρ (F.c0 + i) = none) ∨ ∃ (o : Oper) (I : FlI) (b : Nat) (ys : Array Value), all[i]? = some o ∧ gdB all t o = some true ∧ flInfo E t o.op = some I ∧ ρ (F.c0 + i) = some (b, ys.size, I.sz) ∧ w.heap[b]? = some (I.ob ys) ∧ ¬ Own ρ s b ∧ w0.heap.size ≤ b ∧ L2 ρ I.cs (ys.toList.take I.cs.length) ∧ I.cs.length ≤ ys.size ∧ (∀ v ∈ I.cs, one v = true) ∧ (I.sz = 0 → I.cs.length = ys.size)
  inj : ∀ i j x y, U i = true → U j = true → S i = true → S j = true → ρ (F.c0 + i) = some x → ρ (F.c0 + j) = some y → x.1 = y.1 → i = j
def unm (F : Fl) (all : List Oper) (dn : List Nat) (i : Nat) : Bool := hasN F.fl i && live (preOf all []) dn i
/-- what light operations give is what lies in the frame. -/
def FixP (E : Env) (F : Fl) (all : List Oper) (dn rem : List Nat) (t : List Value) (s : St) : Prop := ∀ (i : Nat) (o : Oper), all[i]? = some o → hvy F i o = false → avail (preOf all []) rem i = true → live (preOf all []) dn i = true → ∃ v, gd E F all t s i o = some v ∧ ∀ d, o.dst = some d → d < t.length → t[d]? = some v
/-- where some operations of a region are done. -/
structure DI (P : Program) (E : Env) (F : Fl) (call : CallK) (all : List Oper) (k : KT) (ρ0 : Rho) (s0 : St) (w0 : World) (S : Nat → Bool) (a : Act) (w : World) (dn rem : List Nat) (t : List Value) (s : St) (ρ : Rho) : Prop where
  closed : ∀ (i : Nat) (o : Oper), all[i]? = some o → S i = true → ∀ j ∈ waits o, S j = true
  rems : ∀ x, x ∈ heavies F all ↔ x ∈ dn ∨ x ∈ rem
  apart : ∀ x ∈ dn, x ∉ rem
  heavy : ∀ (i : Nat) (o : Oper), all[i]? = some o → hvy F i o = true → (S i = true ↔ i ∉ rem)
  light : ∀ (i : Nat) (o : Oper), all[i]? = some o → hvy F i o = false → S i = true → avail (preOf all []) rem i = true
  rel : R ρ s w
  pend : Pend E F all w0 t S (unm F all dn) ρ s w
  ext : Ext ρ0 s0 w0 ρ s w
  size : a.tmps.size = t.length
  defers : a.defers = []
  slots : ∀ (d : Nat) (v : Value), t[d]? = some v → (∀ (i : Nat) (o : Oper), all[i]? = some o → o.dst = some d → hvy F i o = false → S i = true) → ∃ u, a.tmps[d]? = some u ∧ VR ρ v u
  fix : FixP E F all dn rem t s
  res : ∃ n, evS E F call all (preOf all []) k n rem dn t s = true
section
variable {P : Program} {E : Env} {F : Fl} {call : CallK} {all : List Oper} {k : KT} {ρ0 : Rho} {s0 : St} {w0 : World} {S : Nat → Bool} {a : Act} {w : World} {dn rem : List Nat} {t : List Value} {s : St} {ρ : Rho}
open Classical in
/-- what isn't there yet is masked. -/
theorem DI.mask (h : DI P E F call all k ρ0 s0 w0 S a w dn rem t s ρ) : ∃ t' : List Value, TR ρ t' a ∧ ∀ (d : Nat), (∀ (i : Nat) (o : Oper), all[i]? = some o → o.dst = some d → hvy F i o = false → S i = true) → t'[d]? = t[d]? := by
  refine ⟨t.mapIdx fun d v => if (∀ (i : Nat) (o : Oper), all[i]? = some o → o.dst = some d → hvy F i o = false → S i = true) then v else junk, ⟨⟨by simp [h.size], fun d v hv => ?_⟩, h.defers⟩, fun d hd => ?_⟩
  · rw [List.getElem?_mapIdx] at hv
    cases ht : t[d]? with
    | none => rw [ht] at hv; cases hv
    | some x =>
      rw [ht] at hv
      simp only [Option.map_some, Option.some.injEq] at hv
      by_cases hc : ∀ (i : Nat) (o : Oper), all[i]? = some o → o.dst = some d → hvy F i o = false → S i = true
      · rw [if_pos hc] at hv
        subst hv
        obtain ⟨u, h1, h2⟩ := h.slots d x ht hc
        exact ⟨u, by simpa using h1, h2⟩
      · rw [if_neg hc] at hv
        subst hv
        have hd : d < a.tmps.size := by rw [h.size]; exact (List.getElem?_eq_some_iff.1 ht).1
        exact ⟨a.tmps[d], by simp [hd], by rw [VR]; trivial⟩
  · rw [List.getElem?_mapIdx]
    cases ht : t[d]? with
    | none => rfl
    | some x => simp only [Option.map_some]; rw [if_pos hd]
theorem opv_congr {t' : List Value} {o : Oper} (h : ∀ d ∈ tmpsOf all o, t'[d]? = t[d]?) : (∀ x ∈ o.op.operands.toList, opv t' x = opv t x) ∧ ∀ g, o.guard = some g → guardV all t' g.1 = guardV all t g.1 := by
  constructor
  · intro x hx
    cases x with
    | tmp d =>
      simp only [opv, atD_eq]
      rw [h d (by unfold tmpsOf; rw [List.mem_append]; exact .inl (List.mem_filterMap.2 ⟨.tmp d, hx, rfl⟩))]
    | const v => rfl
    | global g => rfl
    | func f => rfl
  · intro g hg
    unfold guardV
    cases hd : (all[g.1]?).bind (·.dst) with
    | none => rfl
    | some d =>
      simp only [Option.bind_some, at?_eq]
      exact h d (by unfold tmpsOf; rw [List.mem_append]; right; rw [hg]; simp [hd])
theorem gd_congr {E : Env} {F : Fl} {all : List Oper} {t t' : List Value} {s : St} {i : Nat} {o : Oper} (h : ∀ d ∈ tmpsOf all o, t'[d]? = t[d]?) : gd E F all t' s i o = gd E F all t s i o := by
  obtain ⟨h1, h2⟩ := opv_congr (all := all) (t := t) (t' := t') (o := o) h
  unfold gd flV flV2 guarded gdB
  rw [fl_congr (t' := t) h1, light_congr (t' := t) h1]
  cases hg : o.guard with
  | none => rfl
  | some g =>
    simp only
    rw [h2 g hg]
theorem gdB_congr {all : List Oper} {t t' : List Value} {o : Oper} (h : ∀ d ∈ tmpsOf all o, t'[d]? = t[d]?) : gdB all t' o = gdB all t o := by
  obtain ⟨_, h2⟩ := opv_congr (all := all) (t := t) (t' := t') (o := o) h
  unfold gdB
  cases hg : o.guard with
  | none => rfl
  | some g =>
    simp only
    rw [h2 g hg]
end
end Go.Proofs.YtcfekhcdadldmaaGreatDoor.Am
set_option linter.unusedSimpArgs false
namespace Go.Proofs.YtcfekhcdadldmaaGreatDoor.Am
open Go
section
variable {P : Program} {E : Env} {F : Fl} {call : CallK} {all : List Oper} {k : KT} {ρ0 : Rho} {s0 : St} {w0 : World} {S : Nat → Bool} {a : Act} {w : World} {dn rem : List Nat} {t : List Value} {s : St} {ρ : Rho} {ops : Array Oper} {Q : Exit → Act → World → Prop}
theorem DI.next (h : DI P E F call all k ρ0 s0 w0 S a w dn rem t s ρ) {i : Nat} {o : Oper} (ho : all[i]? = some o) (hw : ∀ j ∈ waits o, S j = true) {dn2 rem2 : List Nat} {t2 : List Value} {s2 : St} {ρ2 : Rho} {w2 : World} {v u : Value} (hv : VR ρ2 v u) (hR : R ρ2 s2 w2) (hpd : Pend E F all w0 t2 (fun j => decide (j = i) || S j) (unm F all dn2) ρ2 s2 w2) (hx : Ext ρ0 s0 w0 ρ2 s2 w2) (hsub : Sub ρ ρ2) (hrems : ∀ x, x ∈ heavies F all ↔ x ∈ dn2 ∨ x ∈ rem2) (hap : ∀ x ∈ dn2, x ∉ rem2)
    (hheavy : ∀ (j : Nat) (p : Oper), all[j]? = some p → hvy F j p = true → ((decide (j = i) || S j) = true ↔ j ∉ rem2)) (hlight : ∀ (j : Nat) (p : Oper), all[j]? = some p → hvy F j p = false → (decide (j = i) || S j) = true → avail (preOf all []) rem2 j = true)
    (hlen : t2.length = t.length) (hdst : ∀ d, o.dst = some d → d < t.length → t2[d]? = some v) (hold : ∀ d, o.dst ≠ some d → (∀ (j : Nat) (p : Oper), all[j]? = some p → p.dst = some d → hvy F j p = false → S j = true) → t2[d]? = t[d]?) (fix : FixP E F all dn2 rem2 t2 s2) (res : ∃ n, evS E F call all (preOf all []) k n rem2 dn2 t2 s2 = true) :
    DI P E F call all k ρ0 s0 w0 (fun j => decide (j = i) || S j) (a.put o.dst u) w2 dn2 rem2 t2 s2 ρ2 := by
  have hps : (a.put o.dst u).tmps.size = a.tmps.size := by cases o.dst <;> simp [Act.put]
  refine ⟨fun j p hp hj x hxx => ?_, hrems, hap, hheavy, hlight, hR, hpd, hx, by rw [hps, h.size, hlen], by cases o.dst <;> exact h.defers, fun d v' hv' hws => ?_, fix, res⟩
  · rw [Bool.or_eq_true] at hj ⊢
    rcases hj with hj | hj
    · have := of_decide_eq_true hj
      subst this
      rw [ho] at hp
      obtain rfl := Option.some.inj hp
      exact .inr (hw x hxx)
    · exact .inr (h.closed j p hp hj x hxx)
  · have hlt : d < t.length := by rw [← hlen]; exact (List.getElem?_eq_some_iff.1 hv').1
    by_cases hd : o.dst = some d
    · have := hdst d hd hlt
      rw [hv'] at this
      obtain rfl := Option.some.inj this
      refine ⟨u, ?_, hv⟩
      rw [hd]
      have : d < a.tmps.size := by rw [h.size]; exact hlt
      simp [Act.put, this]
    · have hws' : ∀ (j : Nat) (p : Oper), all[j]? = some p → p.dst = some d → hvy F j p = false → S j = true := fun j p hp hpd hpl => by
        have := hws j p hp hpd hpl
        rw [Bool.or_eq_true] at this
        rcases this with e | e
        · have := of_decide_eq_true e
          subst this
          rw [ho] at hp
          obtain rfl := Option.some.inj hp
          exact absurd hpd hd
        · exact e
      rw [hold d hd hws'] at hv'
      obtain ⟨u', h1, h2⟩ := h.slots d v' hv' hws'
      refine ⟨u', ?_, h2.mono hsub⟩
      cases hod : o.dst with
      | none => exact h1
      | some e =>
        have hne : e ≠ d := fun e' => hd (by rw [hod, e'])
        show (a.tmps.setIfInBounds e u)[d]? = some u'
        rw [Array.getElem?_setIfInBounds_ne hne]
        exact h1
theorem DI.avail (h : DI P E F call all k ρ0 s0 w0 S a w dn rem t s ρ) {i : Nat} (hp : ∀ j ∈ (preOf all []).getD i [], S j = true) : Am.avail (preOf all []) rem i = true := by
  unfold Am.avail
  rw [List.all_eq_true]
  intro j hj
  rcases hb : hasN rem j with _ | _
  · rfl
  · have hjr := hasN_iff.1 hb
    have hjh : j ∈ heavies F all := (h.rems j).2 (.inr hjr)
    obtain ⟨p, hp1, hp2⟩ := heavies_mem.1 hjh
    exact absurd hjr ((h.heavy j p hp1 hp2).1 (hp j hj))
theorem chk_inv {new : Nat → Bool} (hf : chkAll E F all (preOf all []) dn rem new t s = true) {i : Nat} {o : Oper} (ho : all[i]? = some o) (hl : hvy F i o = false) (ha : Am.avail (preOf all []) rem i = true) (hlv : live (preOf all []) dn i = true) (hn : new i = false) : ∃ v, gd E F all t s i o = some v ∧ ∀ d, o.dst = some d → t[d]? = some v := by
  have h1 := List.all_eq_true.1 hf i (List.mem_range.2 (List.getElem?_eq_some_iff.1 ho).1)
  rw [ho] at h1
  simp only [hl, ha, hlv, hn, Bool.not_false, Bool.and_self, cond_false, cond_true] at h1
  unfold chk1 at h1
  split at h1
  · rename_i v hv
    refine ⟨v, hv, fun d hd => ?_⟩
    rw [hd] at h1
    simp only [at?_eq] at h1
    split at h1
    · rename_i u hu
      rw [hu, eqVal_eq _ _ _ h1]
    · cases h1
  · cases h1
theorem pre_lt (hst : Stat F all (preOf all [])) {i j : Nat} {o : Oper} (ho : all[i]? = some o) (hj : j ∈ (preOf all []).getD i []) : j < i := by
  have := pre_in hst.back (S := fun j => decide (j < i)) (fun i' o' ho' hi' j hj => by
    have h1 := of_decide_eq_true hi'
    have h2 := hst.back i' o' ho' j hj
    exact decide_eq_true (by omega)) i o ho (fun j hj => decide_eq_true (hst.back i o ho j hj)) j hj
  exact of_decide_eq_true this
/-- what a pass computes is what its operations give behind it. -/
theorem pass_fix (hst : Stat F all (preOf all [])) {new : Nat → Bool} {k1 : List Value → Bool} : ∀ (l : List Nat) (t : List Value), l.Pairwise (· < ·) → passK E F all new s k1 l t = true → ∃ t', k1 t' = true ∧ t'.length = t.length ∧ (∀ (d : Nat), (∀ i ∈ l, ∀ o, all[i]? = some o → hvy F i o = false → new i = true → o.dst ≠ some d) → t'[d]? = t[d]?) ∧ ∀ i ∈ l, ∀ o, all[i]? = some o → hvy F i o = false → new i = true → ∃ v, gd E F all t' s i o = some v ∧ ∀ d, o.dst = some d → d < t.length → t'[d]? = some v
  | [], t, _, h => ⟨t, h, rfl, fun _ _ => rfl, fun i hi => by cases hi⟩
  | i :: r, t, hs, h => by
    have hs' := List.pairwise_cons.1 hs
    rw [passK] at h
    have skip : passK E F all new s k1 r t = true → (∀ o, all[i]? = some o → hvy F i o = false → new i = true → False) → ∃ t', k1 t' = true ∧ t'.length = t.length ∧ (∀ (d : Nat), (∀ j ∈ i :: r, ∀ o, all[j]? = some o → hvy F j o = false → new j = true → o.dst ≠ some d) → t'[d]? = t[d]?) ∧ ∀ j ∈ i :: r, ∀ o, all[j]? = some o → hvy F j o = false → new j = true → ∃ v, gd E F all t' s j o = some v ∧ ∀ d, o.dst = some d → d < t.length → t'[d]? = some v := fun h hno => by
      obtain ⟨t', h1, h2, h3, h4⟩ := pass_fix hst r t hs'.2 h
      refine ⟨t', h1, h2, fun d hd => h3 d fun j hj => hd j (by simp [hj]), fun j hj o ho hl hn => ?_⟩
      rcases List.mem_cons.1 hj with rfl | hj
      · exact (hno o ho hl hn).elim
      · exact h4 j hj o ho hl hn
    split at h
    · rename_i o ho
      cases hh : hvy F i o with
      | true =>
        rw [hh] at h
        exact skip h fun o' ho' hl _ => by rw [ho] at ho'; obtain rfl := Option.some.inj ho'; rw [hh] at hl; cases hl
      | false =>
        rw [hh] at h
        simp only [cond_false] at h
        cases hn : new i with
        | false =>
          rw [hn] at h
          exact skip h fun _ _ _ hn' => by rw [hn] at hn'; cases hn'
        | true =>
          rw [hn] at h
          simp only [cond_true] at h
          unfold setO at h
          split at h
          · rename_i v hv
            rw [putK_eq] at h
            obtain ⟨t', h1, h2, h3, h4⟩ := pass_fix hst r _ hs'.2 h
            have hl2 : t'.length = t.length := by rw [h2]; cases o.dst <;> simp
            refine ⟨t', h1, hl2, fun d hd => ?_, fun j hj p hp hl hnj => ?_⟩
            · rw [h3 d fun j hj => hd j (by simp [hj])]
              have := hd i (by simp) o ho hh hn
              cases hdst : o.dst with
              | none => rfl
              | some n =>
                rw [hdst] at this
                simp only
                rw [List.getElem?_set_ne (fun e => this (by rw [e]))]
            · rcases List.mem_cons.1 hj with rfl | hj
              · rw [ho] at hp
                obtain rfl := Option.some.inj hp
                refine ⟨v, ?_, fun d hd hlt => ?_⟩
                · rw [gd_congr (t := t) fun d hd => ?_]
                  · exact hv
                  · rw [h3 d fun x hx q hq hlq _ e => ?_]
                    · cases hdst : o.dst with
                      | none => rfl
                      | some n =>
                        simp only
                        rw [List.getElem?_set_ne (fun e => ?_)]
                        subst e
                        exact absurd (pre_lt hst ho (hst.opnd _ o ho _ hd _ o ho hdst hh)) (Nat.lt_irrefl _)
                    · have := pre_lt hst ho (hst.opnd _ o ho d hd x q hq e hlq)
                      have := hs'.1 x hx
                      omega
                · rw [h3 d fun x hx q hq hlq _ e => ?_]
                  · rw [hd]; simp [hlt]
                  · have := hst.dst _ x o q d ho hq hd e
                    have h9 := hs'.1 x hx
                    omega
              · obtain ⟨v', g1, g2⟩ := h4 j hj p hp hl hnj
                exact ⟨v', g1, fun d hd hlt => g2 d hd (by cases o.dst <;> simpa using hlt)⟩
          · cases h
    · rename_i ho
      exact skip h fun o ho' => by rw [ho] at ho'; cases ho'
theorem Pend.mono {U U2 : Nat → Bool} {S2 : Nat → Bool} (h : Pend E F all w0 t S U ρ s w) (hU : ∀ i, U2 i = true → U i = true) (hS : ∀ i, U2 i = true → S2 i = S i) : Pend E F all w0 t S2 U2 ρ s w :=
  ⟨fun i hi => h.lt i (hU i hi), fun i hi hs => h.no i (hU i hi) (by rw [← hS i hi]; exact hs), fun i hi hs => h.yes i (hU i hi) (by rw [← hS i hi]; exact hs), fun i j x y hi hj hsi hsj => h.inj i j x y (hU i hi) (hU j hj) (by rw [← hS i hi]; exact hsi) (by rw [← hS j hj]; exact hsj)⟩
theorem Pend.turn {U : Nat → Bool} {t2 : List Value} (h : Pend E F all w0 t S U ρ s w) (ht : ∀ i o, U i = true → S i = true → all[i]? = some o → flInfo E t2 o.op = flInfo E t o.op ∧ gdB all t2 o = gdB all t o) : Pend E F all w0 t2 S U ρ s w :=
  ⟨h.lt, h.no, fun i hi hs => by
    rcases h.yes i hi hs with ⟨o, h1, h2, h3⟩ | ⟨o, I, b, ys, h1, h0, h2, h3⟩
    · exact .inl ⟨o, h1, (ht i o hi hs h1).2.trans h2, h3⟩
    · exact .inr ⟨o, I, b, ys, h1, (ht i o hi hs h1).2.trans h0, (ht i o hi hs h1).1.trans h2, h3⟩, h.inj⟩
theorem Pend.step {U : Nat → Bool} {ρ2 : Rho} {s2 : St} {w2 : World} (h : Pend E F all w0 t S U ρ s w) (hx : Ext ρ s w ρ2 s2 w2) : Pend E F all w0 t S U ρ2 s2 w2 := by
  refine ⟨fun i hi => Nat.lt_of_lt_of_le (h.lt i hi) hx.le, fun i hi hs => ?_, fun i hi hs => ?_, fun i j x y hi hj hsi hsj hxi hyj => ?_⟩
  · rw [hx.old _ (h.lt i hi)]; exact h.no i hi hs
  · rcases h.yes i hi hs with ⟨o, h1, h2, h3⟩ | ⟨o, I, b, ys, h1, h0, h2, h4, h5, h6, h7, l1, l2⟩
    · exact .inl ⟨o, h1, h2, by rw [hx.old _ (h.lt i hi)]; exact h3⟩
    have hb : b < w.heap.size := (Array.getElem?_eq_some_iff.1 h5).1
    refine .inr ⟨o, I, b, ys, h1, h0, h2, by rw [hx.old _ (h.lt i hi)]; exact h4, by rw [hx.frame b hb h6]; exact h5, fun ho => ?_, h7, l1.mono hx.sub, l2⟩
    rcases hx.own b ho with e | e
    · exact h6 e
    · omega
  · rw [hx.old _ (h.lt i hi)] at hxi
    rw [hx.old _ (h.lt j hj)] at hyj
    exact h.inj i j x y hi hj hsi hsj hxi hyj
theorem mat_one {U : Nat → Bool} {k1 : St → Bool} (hR : R ρ s w) (hx : Ext ρ0 s0 w0 ρ s w) (hp : Pend E F all w0 t S U ρ s w) {i : Nat} (hU : U i = true) (hS : S i = true) {o : Oper} (ho : all[i]? = some o) (h : mat2 E t s (F.c0 + i) k1 o (gdB all t o) = true) :
    ∃ s', k1 s' = true ∧ R ρ s' w ∧ Ext ρ0 s0 w0 ρ s' w ∧ Pend E F all w0 t S (fun j => U j && !Nat.beq j i) ρ s' w := by
  rcases hp.yes i hU hS with ⟨o', h1, h0, h4⟩ | ⟨o', I, b, ys, h1, h0, h2, h4, h5, h6, h7, l1, l2, l3, l4⟩
  · rw [ho] at h1
    obtain rfl := Option.some.inj h1
    rw [h0] at h
    exact ⟨s, h, hR, hx, hp.mono (fun j hj => by simp only [Bool.and_eq_true] at hj; exact hj.1) (fun _ _ => rfl)⟩
  rw [ho] at h1
  obtain rfl := Option.some.inj h1
  rw [h0] at h
  simp only [mat2] at h
  rw [h2] at h
  simp only [mat1] at h
  cases hmp : I.mp with
  | true =>
    rw [hmp] at h
    simp only [cond_true] at h
    have h5' : w.heap[b]? = some (.map #[] 0) := by rw [h5]; unfold FlI.ob; rw [hmp]; rfl
    obtain ⟨t', k2, k3⟩ := Tr.setK_get _ _ _ _ _ h
    have hg : ∀ m q, (⟨s.h, ⟨t', s.m.it⟩, s.c⟩ : St).gm m = some q → (m = F.c0 + i ∧ q = []) ∨ (m ≠ F.c0 + i ∧ s.gm m = some q) := fun m q hq => by
      rcases k3 m q hq with ⟨e1, e2⟩ | e1
      · exact .inl ⟨e1, (Option.some.inj e2).symm⟩
      · exact .inr e1
    have hown : ∀ j, Own ρ (⟨s.h, ⟨t', s.m.it⟩, s.c⟩ : St) j → j = b ∨ Own ρ s j := by
      rintro j ⟨n, x, ⟨r, q1⟩ | ⟨es, q1⟩, q2, rfl⟩
      · exact .inr ⟨n, x, .inl ⟨r, q1⟩, q2, rfl⟩
      · rcases hg n es q1 with ⟨rfl, _⟩ | ⟨_, q3⟩
        · rw [h4] at q2
          obtain rfl := Option.some.inj q2
          exact .inl rfl
        · exact .inr ⟨n, x, .inr ⟨es, q3⟩, q2, rfl⟩
    refine ⟨_, k2, ⟨hR.dom, hR.lt, hR.rows, fun n es hr => ?_, fun n m es fs x y q1 q2 q3 q4 q5 => ?_, hR.inj, hR.gl, hR.lo, fun e n es h => by
      rcases hg n es h with ⟨_, rfl⟩ | ⟨_, h0⟩
      · rfl
      · exact hR.it e n es h0⟩, ⟨hx.le, hx.sub, hx.size, hx.os, hx.tape, hx.output, hx.frame, fun j hj => ?_, hx.old⟩, ⟨fun j hj => ?_, fun j hj hs => ?_, fun j hj hs => ?_, fun j l x y hj hl hsj hsl => ?_⟩⟩
    · rcases hg n es hr with ⟨rfl, rfl⟩ | ⟨_, hr⟩
      · exact ⟨_, h4, .inl ⟨#[], 0, h5', ⟨rfl, ⟨fun x hx => by simp at hx, by simp⟩, rfl⟩, fun i kv hi => by simp at hi⟩⟩
      · exact hR.maps n es hr
    · rcases hg n es q1 with ⟨rfl, _⟩ | ⟨en, q1⟩ <;> rcases hg m fs q2 with ⟨rfl, _⟩ | ⟨em, q2⟩
      · rfl
      · rw [h4] at q3
        obtain rfl := Option.some.inj q3
        exact absurd ⟨m, y, .inr ⟨fs, q2⟩, q4, q5.symm⟩ h6
      · rw [h4] at q4
        obtain rfl := Option.some.inj q4
        exact absurd ⟨n, x, .inr ⟨es, q1⟩, q3, q5⟩ h6
      · exact hR.injm n m es fs x y q1 q2 q3 q4 q5
    · rcases hown j hj with rfl | e
      · exact .inr h7
      · exact hx.own j e
    · simp only [Bool.and_eq_true] at hj
      exact hp.lt j hj.1
    · simp only [Bool.and_eq_true] at hj
      exact hp.no j hj.1 hs
    · simp only [Bool.and_eq_true, Bool.not_eq_true'] at hj
      rcases hp.yes j hj.1 hs with h9 | ⟨o', I', b', ys', g1, g0, g2, g4, g5, g6, g7⟩
      · exact .inl h9
      refine .inr ⟨o', I', b', ys', g1, g0, g2, g4, g5, fun e => ?_, g7⟩
      rcases hown b' e with rfl | e
      · have := hp.inj j i _ _ hj.1 hU hs hS g4 h4 rfl
        subst this
        have := hj.2
        rw [Nat.beq_refl] at this
        cases this
      · exact g6 e
    · simp only [Bool.and_eq_true] at hj hl
      exact hp.inj j l x y hj.1 hl.1 hsj hsl
  | false =>
  rw [hmp] at h
  simp only [cond_false, forceL_eq] at h
  replace h5 : w.heap[b]? = some (.cells ys I.ty) := by rw [h5]; unfold FlI.ob; rw [hmp]; rfl
  obtain ⟨t', k2, k3⟩ := Tr.setK_get _ _ _ _ _ h
  have hg : ∀ m q, (⟨t', s.m, s.c⟩ : St).get m = some q → (m = F.c0 + i ∧ q = ⟨I.cs, I.ty, I.sz⟩) ∨ (m ≠ F.c0 + i ∧ s.get m = some q) := fun m q hq => by
    rcases k3 m q hq with ⟨e1, e2⟩ | e1
    · exact .inl ⟨e1, (Option.some.inj e2).symm⟩
    · exact .inr e1
  have hown : ∀ j, Own ρ (⟨t', s.m, s.c⟩ : St) j → j = b ∨ Own ρ s j := by
    rintro j ⟨n, x, ⟨r, q1⟩ | ⟨es, q1⟩, q2, rfl⟩
    · rcases hg n r q1 with ⟨rfl, _⟩ | ⟨_, q3⟩
      · rw [h4] at q2
        obtain rfl := Option.some.inj q2
        exact .inl rfl
      · exact .inr ⟨n, x, .inl ⟨r, q3⟩, q2, rfl⟩
    · exact .inr ⟨n, x, .inr ⟨es, q1⟩, q2, rfl⟩
  refine ⟨_, k2, ⟨hR.dom, hR.lt, fun n r hr => ?_, hR.maps, hR.injm, fun n m r q x y q1 q2 q3 q4 q5 => ?_, hR.gl, hR.lo, hR.it⟩, ⟨hx.le, hx.sub, hx.size, hx.os, hx.tape, hx.output, hx.frame, fun j hj => ?_, hx.old⟩, ⟨fun j hj => ?_, fun j hj hs => ?_, fun j hj hs => ?_, fun j l x y hj hl hsj hsl => ?_⟩⟩
  · rcases hg n r hr with ⟨rfl, rfl⟩ | ⟨_, hr⟩
    · exact ⟨_, _, h4, h5, rfl, l2, l1, l3, rfl, l4⟩
    · exact hR.rows n r hr
  · rcases hg n r q1 with ⟨rfl, _⟩ | ⟨en, q1⟩ <;> rcases hg m q q2 with ⟨rfl, _⟩ | ⟨em, q2⟩
    · rfl
    · rw [h4] at q3
      obtain rfl := Option.some.inj q3
      exact absurd ⟨m, y, .inl ⟨q, q2⟩, q4, q5.symm⟩ h6
    · rw [h4] at q4
      obtain rfl := Option.some.inj q4
      exact absurd ⟨n, x, .inl ⟨r, q1⟩, q3, q5⟩ h6
    · exact hR.inj n m r q x y q1 q2 q3 q4 q5
  · rcases hown j hj with rfl | e
    · exact .inr h7
    · exact hx.own j e
  · simp only [Bool.and_eq_true] at hj
    exact hp.lt j hj.1
  · simp only [Bool.and_eq_true] at hj
    exact hp.no j hj.1 hs
  · simp only [Bool.and_eq_true, Bool.not_eq_true'] at hj
    rcases hp.yes j hj.1 hs with h9 | ⟨o', I', b', ys', g1, g0, g2, g4, g5, g6, g7⟩
    · exact .inl h9
    refine .inr ⟨o', I', b', ys', g1, g0, g2, g4, g5, fun e => ?_, g7⟩
    rcases hown b' e with rfl | e
    · have := hp.inj j i _ _ hj.1 hU hs hS g4 h4 rfl
      subst this
      have := hj.2
      rw [Nat.beq_refl] at this
      cases this
    · exact g6 e
  · simp only [Bool.and_eq_true] at hj hl
    exact hp.inj j l x y hj.1 hl.1 hsj hsl
theorem matK_ok {k1 : St → Bool} : ∀ (l : List Nat) (U : Nat → Bool) (s : St), (∀ i ∈ l, U i = true ∧ S i = true) → l.Nodup → R ρ s w → Ext ρ0 s0 w0 ρ s w → Pend E F all w0 t S U ρ s w → matK E F all t k1 l s = true → ∃ s', k1 s' = true ∧ R ρ s' w ∧ Ext ρ0 s0 w0 ρ s' w ∧ Pend E F all w0 t S (fun j => U j && !hasN l j) ρ s' w
  | [], U, s, _, _, hR, hx, hp, h => ⟨s, h, hR, hx, hp.mono (fun i hi => by simp only [Bool.and_eq_true] at hi; exact hi.1) (fun _ _ => rfl)⟩
  | i :: r, U, s, hl, hn, hR, hx, hp, h => by
    rw [matK] at h
    split at h
    · rename_i o ho
      obtain ⟨hU, hS⟩ := hl i (by simp)
      obtain ⟨s1, q1, q2, q3, q4⟩ := mat_one hR hx hp hU hS ho h
      have hn' := List.nodup_cons.1 hn
      obtain ⟨s2, p1, p2, p3, p4⟩ := matK_ok r _ s1 (fun j hj => by
        have := hl j (by simp [hj])
        refine ⟨?_, this.2⟩
        simp only [this.1, Bool.true_and, Bool.not_eq_true']
        rcases hb : Nat.beq j i with _ | _
        · rfl
        · have := Nat.eq_of_beq_eq_true hb
          subst this
          exact absurd hj hn'.1) hn'.2 q2 q3 q4 q1
      refine ⟨s2, p1, p2, p3, p4.mono (fun j hj => ?_) (fun _ _ => rfl)⟩
      simp only [Bool.and_eq_true, Bool.not_eq_true'] at hj ⊢
      have h2 := hj.2
      rw [hasN_cons, Bool.or_eq_false_iff] at h2
      exact ⟨⟨hj.1, h2.1⟩, h2.2⟩
    · cases h
theorem float_late {U : Nat → Bool} (hR : R ρ s w) (hx : Ext ρ0 s0 w0 ρ s w) (hc0 : s0.c ≤ F.c0) (hp : Pend E F all w0 t S U ρ s w) {i : Nat} (hU : U i = true) (hS : S i = false) {o : Oper} {I : FlI} {ys : Array Value} (ho : all[i]? = some o) (hgo : gdB all t o = some true) (hI : flInfo E t o.op = some I) (l1 : L2 ρ I.cs (ys.toList.take I.cs.length)) (l2 : I.cs.length ≤ ys.size) (l3 : ∀ v ∈ I.cs, one v = true) (l4 : I.sz = 0 → I.cs.length = ys.size) :
    R (upd ρ (F.c0 + i) (w.heap.size, ys.size, I.sz)) s (w.alloc (I.ob ys)) ∧ Ext ρ0 s0 w0 (upd ρ (F.c0 + i) (w.heap.size, ys.size, I.sz)) s (w.alloc (I.ob ys)) ∧ Sub ρ (upd ρ (F.c0 + i) (w.heap.size, ys.size, I.sz)) ∧ Pend E F all w0 t (fun j => decide (j = i) || S j) U (upd ρ (F.c0 + i) (w.heap.size, ys.size, I.sz)) s (w.alloc (I.ob ys)) := by
  have hn := hp.no i hU hS
  have hlt := hp.lt i hU
  have hsub := sub_upd hn (w.heap.size, ys.size, I.sz)
  have hk : ∀ j, j < w.heap.size → (w.alloc (I.ob ys)).heap[j]? = w.heap[j]? := fun j hj => heap_alloc_old w _ hj
  have hrn : ∀ n r, s.get n = some r → n ≠ F.c0 + i := fun n r h e => by
    obtain ⟨x, _, hx, _⟩ := hR.rows n r h
    rw [e, hn] at hx; cases hx
  have hmn : ∀ n es, s.gm n = some es → n ≠ F.c0 + i := fun n r h e => by
    obtain ⟨x, hx, _⟩ := hR.maps n r h
    rw [e, hn] at hx; cases hx
  have hown : ∀ j, Own (upd ρ (F.c0 + i) (w.heap.size, ys.size, I.sz)) s j → Own ρ s j := by
    rintro j ⟨n, x, ⟨r, q1⟩ | ⟨es, q1⟩, q2, rfl⟩
    · rw [upd_other (hrn n r q1)] at q2
      exact ⟨n, x, .inl ⟨r, q1⟩, q2, rfl⟩
    · rw [upd_other (hmn n es q1)] at q2
      exact ⟨n, x, .inr ⟨es, q1⟩, q2, rfl⟩
  have hol : ∀ j, Own ρ s j → j < w.heap.size := by
    rintro j ⟨n, x, _, q2, rfl⟩
    exact hR.lt n x q2
  refine ⟨⟨fun n h => ?_, fun n x h => ?_, fun n r h => ?_, fun n es h => ?_, fun n m es fs x y q1 q2 q3 q4 q5 => ?_, fun n m r q x y q1 q2 q3 q4 q5 => ?_, hR.gl.keep fun k h _ => hk k h, lo_upd hR.lo (hR.gl.new (Nat.le_refl _)), hR.it⟩, ⟨hx.le, fun n x h => hsub n x (hx.sub n x h), ?_, hx.os, hx.tape, hx.output, fun j hj ho => ?_, fun j hj => hx.own j (hown j hj), fun n h => ?_⟩, hsub, ⟨hp.lt, fun j hj hs => ?_, fun j hj hs => ?_, fun j l x y hj hl hsj hsl hxj hyl hxy => ?_⟩⟩
  · rw [upd_other (by omega)]; exact hR.dom n h
  · by_cases e : n = F.c0 + i
    · subst e
      rw [upd_same] at h
      obtain rfl := Option.some.inj h
      simp
    · rw [upd_other e] at h
      have := hR.lt n x h
      simp; omega
  · obtain ⟨x, c', q1, q2, q3, q4, q5, q6⟩ := hR.rows n r h
    exact ⟨x, c', by rw [upd_other (hrn n r h)]; exact q1, (hk _ (hR.lt n x q1)).trans q2, q3, q4, q5.mono hsub, q6⟩
  · obtain ⟨x, q1, q2⟩ := hR.maps n es h
    exact ⟨x, by rw [upd_other (hmn n es h)]; exact q1, q2.keep hsub fun k o hk' _ => (hk k (Array.getElem?_eq_some_iff.1 hk').1).trans hk'⟩
  · rw [upd_other (hmn n es q1)] at q3
    rw [upd_other (hmn m fs q2)] at q4
    exact hR.injm n m es fs x y q1 q2 q3 q4 q5
  · rw [upd_other (hrn n r q1)] at q3
    rw [upd_other (hrn m q q2)] at q4
    exact hR.inj n m r q x y q1 q2 q3 q4 q5
  · have := hx.size
    simp; omega
  · rw [hk j (Nat.lt_of_lt_of_le hj hx.size)]; exact hx.frame j hj ho
  · rw [upd_other (by omega)]; exact hx.old n h
  · simp only [Bool.or_eq_false_iff, decide_eq_false_iff_not] at hs
    rw [upd_other (by omega)]; exact hp.no j hj hs.2
  · by_cases e : j = i
    · subst e
      refine .inr ⟨o, I, w.heap.size, ys, ho, hgo, hI, upd_same _ _ _, heap_alloc_new w _, fun e => ?_, hx.size, l1.mono hsub, l2, l3, l4⟩
      exact absurd (hol _ (hown _ e)) (Nat.lt_irrefl _)
    · simp only [e, decide_false, Bool.false_or] at hs
      rcases hp.yes j hj hs with ⟨o', g1, g2, g3⟩ | ⟨o', I', b', ys', g1, g0, g2, g4, g5, g6, g7, m1, m2⟩
      · exact .inl ⟨o', g1, g2, by rw [upd_other (by omega)]; exact g3⟩
      have hb : b' < w.heap.size := (Array.getElem?_eq_some_iff.1 g5).1
      exact .inr ⟨o', I', b', ys', g1, g0, g2, by rw [upd_other (by omega)]; exact g4, (hk b' hb).trans g5, fun e => g6 (hown b' e), g7, m1.mono hsub, m2⟩
  · have lt' : ∀ m v, m ≠ i → upd ρ (F.c0 + i) (w.heap.size, ys.size, I.sz) (F.c0 + m) = some v → v.1 < w.heap.size := fun m v hm hv => by
      rw [upd_other (by omega)] at hv
      exact hR.lt _ v hv
    by_cases e1 : j = i <;> by_cases e2 : l = i
    · rw [e1, e2]
    · subst e1
      rw [upd_same] at hxj
      obtain rfl := Option.some.inj hxj
      have := lt' l y e2 hyl
      simp only at hxy; omega
    · subst e2
      rw [upd_same] at hyl
      obtain rfl := Option.some.inj hyl
      have := lt' j x e1 hxj
      simp only at hxy; omega
    · simp only [e1, e2, decide_false, Bool.false_or] at hsj hsl
      rw [upd_other (by omega)] at hxj hyl
      exact hp.inj j l x y hj hl hsj hsl hxj hyl hxy
theorem DI.step_light (g : Good P E) (hst : Stat F all (preOf all [])) (hall : ops.toList = all) (h : DI P E F call all k ρ0 s0 w0 S a w dn rem t s ρ) {i : Nat} {o : Oper} (hc0 : s0.c ≤ F.c0) (ho : all[i]? = some o) (hS : S i = false) (hw : ∀ j ∈ waits o, S j = true) (hl : hvy F i o = false) :
    wpOp P ops Q i (fun a' w' => ∃ dn2 rem2 t2 s2 ρ2, DI P E F call all k ρ0 s0 w0 (fun j => decide (j = i) || S j) a' w' dn2 rem2 t2 s2 ρ2) a w := by
  have hpre := pre_in hst.back h.closed i o ho hw
  have hav := h.avail hpre
  have hlive : live (preOf all []) dn i = true := by
    unfold live
    rw [List.all_eq_true]
    intro x hx
    rcases hb : hasN ((preOf all []).getD x []) i with _ | _
    · rfl
    · exfalso
      have hxh : x ∈ heavies F all := (h.rems x).2 (.inl hx)
      obtain ⟨p, hp1, hp2⟩ := heavies_mem.1 hxh
      have hnr : x ∉ rem := h.apart x hx
      have hSx := (h.heavy x p hp1 hp2).2 hnr
      have := pre_in hst.back h.closed x p hp1 (h.closed x p hp1 hSx) i (hasN_iff.1 hb)
      rw [hS] at this
      cases this
  obtain ⟨v, hv, hd⟩ := h.fix i o ho hl hav hlive
  obtain ⟨t', hT, hm⟩ := h.mask
  have hcg := opv_congr (all := all) (t := t) (t' := t') (o := o) fun d hd => hm d fun j p hp hpd hpl => hpre j (hst.opnd i o ho d hd j p hp hpd hpl)
  have nx : ∀ u ρ2 w2, VR ρ2 v u → R ρ2 s w2 → Ext ρ0 s0 w0 ρ2 s w2 → Sub ρ ρ2 → Pend E F all w0 t (fun j => decide (j = i) || S j) (unm F all dn) ρ2 s w2 → DI P E F call all k ρ0 s0 w0 (fun j => decide (j = i) || S j) (a.put o.dst u) w2 dn rem t s ρ2 := fun u ρ2 w2 hu hR2 hx2 hsb2 hp2 =>
    h.next ho hw hu hR2 hp2 hx2 hsb2 h.rems h.apart (fun j p hp hh => by
      have hji : j ≠ i := fun e => by subst e; rw [ho] at hp; obtain rfl := Option.some.inj hp; rw [hl] at hh; cases hh
      simp only [hji, decide_false, Bool.false_or]
      exact h.heavy j p hp hh) (fun j p hp hh hj => by
      rw [Bool.or_eq_true] at hj
      rcases hj with e | e
      · have := of_decide_eq_true e
        subst this
        exact hav
      · exact h.light j p hp hh e) rfl (fun d hd' hlt => hd d hd' hlt) (fun _ _ _ => rfl) h.fix h.res
  have hoi : ops[i]? = some o := by rw [← hall] at ho; simpa using ho
  cases hfl : hasN F.fl i with
  | true =>
    unfold gd at hv
    rw [hfl] at hv
    simp only [cond_true] at hv
    have hU : unm F all dn i = true := by unfold unm; rw [hfl, hlive]; rfl
    unfold flV at hv
    cases hgb : gdB all t o with
    | none => rw [hgb] at hv; cases hv
    | some gb =>
    have hwant : Region.wanted o (yielded ops a.tmps) = gb := by
      unfold gdB at hgb
      cases hgn : o.guard with
      | none =>
        rw [hgn] at hgb
        simp only [Option.some.injEq] at hgb
        rw [← hgb]
        simp [Region.wanted, hgn]
      | some gd =>
        rw [hgn] at hgb
        simp only at hgb
        have e1 := hcg.2 gd hgn
        cases hb : isBoolV (guardV all t gd.1) with
        | false => rw [hb] at hgb; cases hgb
        | true =>
          rw [hb] at hgb
          simp only [cond_true, Option.some.injEq] at hgb
          have hy := yield_ok (want := gd.2) (ops := ops) hT (j := gd.1) (by rw [hall, e1]; exact hb)
          rw [hall, e1] at hy
          rw [← hgb, ← hy]
          simp [Region.wanted, hgn]
    rw [hgb] at hv
    cases gb with
    | true =>
      simp only [flV2] at hv
      split at hv
      · rename_i I hI
        have hI' : flInfo E t' o.op = some I := by rw [fl_congr (t' := t) hcg.1]; exact hI
        obtain ⟨ys, u, hrun, l1, l2, l3, l4, l5⟩ := fl_run (w := w) g hT hI'
        obtain ⟨f1, f2, f3, f4⟩ := float_late h.rel h.ext hc0 h.pend hU hS ho hgb hI l1 l2 l3 l4
        rw [wpOp, hoi]
        simp only
        rw [if_pos hwant]
        left
        unfold Oper.wp
        rw [hrun]
        refine ⟨dn, rem, t, s, _, nx _ _ _ ?_ f1 f2 f3 f4⟩
        rw [← Option.some.inj hv]
        exact l5 _ _ (upd_same _ _ _)
      · cases hv
    | false =>
      simp only [flV2, Option.some.injEq] at hv
      rw [wpOp, hoi]
      simp only
      rw [if_neg (by rw [hwant]; simp)]
      refine ⟨dn, rem, t, s, ρ, nx undef ρ w (hv ▸ undef_vr ρ) h.rel h.ext (fun _ _ h => h) ⟨h.pend.lt, fun j hj hs => h.pend.no j hj (by simp only [Bool.or_eq_false_iff] at hs; exact hs.2), fun j hj hs => ?_, fun j l x y hj hl hsj hsl hxj hyl hxy => ?_⟩⟩
      · by_cases e : j = i
        · subst e
          exact .inl ⟨o, ho, hgb, h.pend.no j hj hS⟩
        · simp only [e, decide_false, Bool.false_or] at hs
          exact h.pend.yes j hj hs
      · have hni : ∀ m z, (decide (m = i) || S m) = true → ρ (F.c0 + m) = some z → S m = true := fun m z hm hz => by
          rw [Bool.or_eq_true] at hm
          rcases hm with e | e
          · have := of_decide_eq_true e
            subst this
            rw [h.pend.no m hU hS] at hz
            cases hz
          · exact e
        exact h.pend.inj j l x y hj hl (hni j x hsj hxj) (hni l y hsl hyl) hxj hyl hxy
  | false =>
  have hp2 : Pend E F all w0 t (fun j => decide (j = i) || S j) (unm F all dn) ρ s w := h.pend.mono (fun _ e => e) (fun j hj => by
    have hji : j ≠ i := fun e => by
      subst e
      unfold unm at hj
      rw [hfl] at hj; cases hj
    simp [hji])
  unfold gd at hv
  rw [hfl] at hv
  simp only [cond_false] at hv
  have run : lightV E t s o.op = some v → o.wp P a w (fun a' w' => ∃ dn2 rem2 t2 s2 ρ2, DI P E F call all k ρ0 s0 w0 (fun j => decide (j = i) || S j) a' w' dn2 rem2 t2 s2 ρ2) Q := fun e => by
    rw [← light_congr hcg.1] at e
    obtain ⟨u, hr, hvr⟩ := light_ok g h.rel hT e
    unfold Oper.wp
    rw [hr]
    exact ⟨dn, rem, t, s, ρ, nx u ρ w hvr h.rel h.ext (fun _ _ h => h) hp2⟩
  rw [wpOp, hoi]
  simp only
  unfold guarded at hv
  cases hg : o.guard with
  | none =>
    rw [hg] at hv
    rw [if_pos (by simp [Region.wanted, hg])]
    exact .inl (run hv)
  | some gd =>
    rw [hg] at hv
    simp only at hv
    have e1 := hcg.2 gd hg
    cases hb : isBoolV (guardV all t gd.1) with
    | false => rw [hb] at hv; cases hv
    | true =>
      rw [hb] at hv
      simp only [cond_true] at hv
      have hy := yield_ok (want := gd.2) (ops := ops) hT (j := gd.1) (by rw [hall, e1]; exact hb)
      rw [hall, e1] at hy
      cases hw2 : isWant gd.2 (guardV all t gd.1) with
      | true =>
        rw [hw2] at hv hy
        rw [if_pos (by simp only [Region.wanted, hg]; exact hy)]
        exact .inl (run hv)
      | false =>
        rw [hw2] at hv hy
        rw [if_neg (by simp only [Region.wanted, hg]; rw [hy]; simp)]
        simp only [cond_false, Option.some.injEq] at hv
        exact ⟨dn, rem, t, s, ρ, nx undef ρ w (hv ▸ undef_vr ρ) h.rel h.ext (fun _ _ h => h) hp2⟩
theorem stageK_ok (hst : Stat F all (preOf all [])) {new : Nat → Bool} {next : KT} (h : stageK E F all (preOf all []) dn rem new next t s = true) : ∃ t', FixP E F all dn rem t' s ∧ next t' s = true ∧ t'.length = t.length ∧ ∀ (d : Nat), (∀ (i : Nat) (o : Oper), all[i]? = some o → hvy F i o = false → new i = true → o.dst ≠ some d) → t'[d]? = t[d]? := by
  obtain ⟨t', h1, h2, h3, h4⟩ := pass_fix hst _ _ List.pairwise_lt_range h
  cases hc : chkAll E F all (preOf all []) dn rem new t' s with
  | false => rw [hc] at h1; cases h1
  | true =>
    rw [hc] at h1
    refine ⟨t', fun i o ho hl ha hlv => ?_, h1, h2, fun d hd => h3 d fun i _ o ho => hd i o ho⟩
    cases hn : new i with
    | true =>
      obtain ⟨v, g1, g2⟩ := h4 i (List.mem_range.2 (List.getElem?_eq_some_iff.1 ho).1) o ho hl hn
      exact ⟨v, g1, fun d hd hlt => g2 d hd (by rw [← h2]; exact hlt)⟩
    | false =>
      obtain ⟨v, g1, g2⟩ := chk_inv hc ho hl ha hlv hn
      exact ⟨v, g1, fun d hd _ => g2 d hd⟩
theorem DI.step_heavy (g : Good P E) (hC : CallOk P call) (hst : Stat F all (preOf all [])) (hall : ops.toList = all) (h : DI P E F call all k ρ0 s0 w0 S a w dn rem t s ρ) {i : Nat} {o : Oper} (ho : all[i]? = some o) (hS : S i = false) (hw : ∀ j ∈ waits o, S j = true) (hfn : F.fl.Nodup) (hh : hvy F i o = true) :
    wpOp P ops Q i (fun a' w' => ∃ dn2 rem2 t2 s2 ρ2, DI P E F call all k ρ0 s0 w0 (fun j => decide (j = i) || S j) a' w' dn2 rem2 t2 s2 ρ2) a w := by
  have hpre := pre_in hst.back h.closed i o ho hw
  have hir : i ∈ rem := by
    rcases Classical.em (i ∈ rem) with e | e
    · exact e
    · have := (h.heavy i o ho hh).2 e
      rw [hS] at this
      cases this
  obtain ⟨hd, rfl⟩ : ∃ hd, hd = i := ⟨i, rfl⟩
  obtain ⟨n0, hres0⟩ := h.res
  obtain ⟨m0, hres⟩ := evS_free hres0 hir (h.avail hpre) ho
  obtain ⟨rem', hrm⟩ : ∃ r, rmv hd rem = r := ⟨_, rfl⟩
  rw [hrm] at hres
  have hmem : ∀ j, j ∈ rem' ↔ j ∈ rem ∧ j ≠ hd := fun j => by rw [← hrm]; exact rmv_mem
  have hnot : hd ∉ rem' := fun e => ((hmem hd).1 e).2 rfl
  obtain ⟨t', hT, hm⟩ := h.mask
  have hcg := opv_congr (all := all) (t := t) (t' := t') (o := o) fun d hd' => hm d fun j p hp hpd hpl => hpre j (hst.opnd hd o ho d hd' j p hp hpd hpl)
  have hnf : hasN F.fl hd = false := by
    unfold hvy at hh
    cases e : hasN F.fl hd with
    | true => rw [e] at hh; cases hh
    | false => rfl
  have hih : (isHeavy o.op || isMv o.op) = true := by
    unfold hvy at hh
    rw [hnf] at hh
    simp only [cond_false] at hh
    cases e : hasN F.an hd with
    | true => rw [e] at hh; exact hh
    | false => rw [e] at hh; simp only [cond_false] at hh; rw [hh]; rfl
  obtain ⟨s1, hres, hR1, hx1, hp1⟩ := matK_ok (F.fl.filter fun i => live (preOf all []) dn i && hasN ((preOf all []).getD hd []) i) (unm F all dn) s (fun i hi => by
    have := List.mem_filter.1 hi
    have h2 := this.2
    simp only [Bool.and_eq_true] at h2
    refine ⟨by unfold unm; rw [hasN_iff.2 this.1, h2.1]; rfl, hpre i (hasN_iff.1 h2.2)⟩) (hfn.filter _) h.rel h.ext h.pend hres
  have hpU : ∀ i, unm F all (dn ++ [hd]) i = true → (unm F all dn i && !hasN (F.fl.filter fun i => live (preOf all []) dn i && hasN ((preOf all []).getD hd []) i) i) = true := fun i hi => by
    unfold unm at hi
    simp only [Bool.and_eq_true] at hi
    have hl := hi.2
    unfold live at hl
    rw [List.all_append, Bool.and_eq_true] at hl
    have hl1 : live (preOf all []) dn i = true := hl.1
    have hl2 : hasN ((preOf all []).getD hd []) i = false := by simpa using hl.2
    simp only [Bool.and_eq_true, Bool.not_eq_true']
    refine ⟨by unfold unm; rw [hi.1, hl1]; rfl, ?_⟩
    rcases hb : hasN (F.fl.filter fun i => live (preOf all []) dn i && hasN ((preOf all []).getD hd []) i) i with _ | _
    · rfl
    · have := (List.mem_filter.1 (hasN_iff.1 hb)).2
      rw [hl2, Bool.and_false] at this
      cases this
  have hoi : ops[hd]? = some o := by rw [← hall] at ho; simpa using ho
  have nx : ∀ (v u : Value) (ρ2 : Rho) (s2 : St) (w2 : World), VR ρ2 v u → R ρ2 s2 w2 → Ext ρ s1 w ρ2 s2 w2 → (putK t o.dst v fun t' => stageK E F all (preOf all []) (dn ++ [hd]) rem' (fun j => Am.avail (preOf all []) rem' j && !Am.avail (preOf all []) rem j) (evS E F call all (preOf all []) k m0 rem' (dn ++ [hd])) t' s2) = true →
      ∃ dn2 rem2 t2 s2 ρ2, DI P E F call all k ρ0 s0 w0 (fun j => decide (j = hd) || S j) (a.put o.dst u) w2 dn2 rem2 t2 s2 ρ2 := fun v u ρ2 s2 w2 hv hR hx hk => by
    rw [putK_eq] at hk
    obtain ⟨t2, c1, c2, c3, c4⟩ := stageK_ok hst hk
    have hold : ∀ d, o.dst ≠ some d → (∀ (j : Nat) (p : Oper), all[j]? = some p → p.dst = some d → hvy F j p = false → S j = true) → t2[d]? = t[d]? := fun d hne hws => by
      rw [c4 d fun j p hp hpl hnew => fun e => ?_]
      · cases hod : o.dst with
        | none => rfl
        | some n =>
          simp only
          rw [List.getElem?_set_ne (fun e => hne (by rw [hod, e]))]
      · have := h.light j p hp hpl (hws j p hp e hpl)
        rw [this] at hnew
        simp at hnew
    have hturn : ∀ i q, (unm F all (dn ++ [hd])) i = true → S i = true → all[i]? = some q → flInfo E t2 q.op = flInfo E t q.op ∧ gdB all t2 q = gdB all t q := fun i q hu hSi hq => by
      have hfi : hasN F.fl i = true := by unfold unm at hu; simp only [Bool.and_eq_true] at hu; exact hu.1
      have hpi := pre_in hst.back h.closed i q hq (h.closed i q hq hSi)
      have hcc : ∀ d ∈ tmpsOf all q, t2[d]? = t[d]? := fun d hd' => hold d (fun e => ?_) fun j p hp hpd _ => hpi j (hst.flt i q hfi hq d hd' j p hp hpd)
      · exact ⟨fl_congr (opv_congr (all := all) (t := t) (t' := t2) (o := q) hcc).1, gdB_congr hcc⟩
      have := hpi hd (hst.flt i q hfi hq d hd' hd o ho e)
      rw [hS] at this; cases this
    refine ⟨dn ++ [hd], rem', t2, s2, ρ2, h.next ho hw hv hR ((((hp1.step hx).mono hpU (fun _ _ => rfl)).turn hturn).mono (fun _ e => e) (fun j hj => by
      have hji : j ≠ hd := fun e => by
        subst e
        unfold unm at hj
        rw [hnf] at hj; cases hj
      simp [hji])) (hx1.trans hx) hx.sub (fun x => by
        rw [h.rems x, List.mem_append, List.mem_singleton, hmem]
        constructor
        · rintro (e | e)
          · exact .inl (.inl e)
          · by_cases e2 : x = hd
            · exact .inl (.inr e2)
            · exact .inr ⟨e, e2⟩
        · rintro ((e | e) | e)
          · exact .inl e
          · exact .inr (e ▸ hir)
          · exact .inr e.1) (fun x hx hx' => by
        rcases List.mem_append.1 hx with e | e
        · exact h.apart x e ((hmem x).1 hx').1
        · exact ((hmem x).1 hx').2 (List.mem_singleton.1 e)) (fun j p hp hph => ?_) (fun j p hp hpl hj => ?_) ?_ (fun d hd' hlt' => ?_) (fun d hne hws => ?_) c1 ⟨m0, c2⟩⟩
    · by_cases e : j = hd
      · subst e; simp [hnot]
      · simp only [e, decide_false, Bool.false_or]
        rw [h.heavy j p hp hph, hmem]
        exact ⟨fun q q2 => q q2.1, fun q q2 => q ⟨q2, e⟩⟩
    · rw [Bool.or_eq_true] at hj
      have hav : Am.avail (preOf all []) rem j = true := by
        rcases hj with e | e
        · have := of_decide_eq_true e
          subst this
          rw [ho] at hp
          obtain rfl := Option.some.inj hp
          rw [hh] at hpl; cases hpl
        · exact h.light j p hp hpl e
      unfold Am.avail at hav ⊢
      rw [List.all_eq_true] at hav ⊢
      intro x hx'
      have := hav x hx'
      rcases hb : hasN rem' x with _ | _
      · rfl
      · have h1 := hasN_iff.1 hb
        have h2 : hasN rem x = true := hasN_iff.2 ((hmem x).1 h1).1
        rw [h2] at this; cases this
    · rw [c3]; cases o.dst <;> simp
    · rw [c4 d fun j p hp hpl _ => fun e => ?_]
      · rw [hd']; simp [hlt']
      · have := hst.dst hd j o p d ho hp hd' e
        subst this
        rw [ho] at hp
        obtain rfl := Option.some.inj hp
        rw [hh] at hpl; cases hpl
    · exact hold d hne hws
  have run : oneOpK E call t s1 (fun v s' => putK t o.dst v fun t' => stageK E F all (preOf all []) (dn ++ [hd]) rem' (fun j => Am.avail (preOf all []) rem' j && !Am.avail (preOf all []) rem j) (evS E F call all (preOf all []) k m0 rem' (dn ++ [hd])) t' s') o.op = true → o.wp P a w (fun a' w' => ∃ dn2 rem2 t2 s2 ρ2, DI P E F call all k ρ0 s0 w0 (fun j => decide (j = hd) || S j) a' w' dn2 rem2 t2 s2 ρ2) Q := fun e => by
    rw [← heavy_congr hih hcg.1] at e
    refine Oper.wp_mono ?_ (op_ok g hC hR1 hT e)
    rintro a' w' ⟨v, u, ρ', s', rfl, r1, r2, r3, r4⟩
    exact nx v u ρ' s' w' r1 r2 r3 r4
  rw [wpOp, hoi]
  simp only
  unfold heavyK at hres
  cases hg : o.guard with
  | none =>
    rw [hg] at hres
    rw [if_pos (by simp [Region.wanted, hg])]
    exact .inl (run hres)
  | some gd =>
    rw [hg] at hres
    simp only at hres
    have e1 := hcg.2 gd hg
    cases hb : isBoolV (guardV all t gd.1) with
    | false => rw [hb] at hres; cases hres
    | true =>
      rw [hb] at hres
      simp only [cond_true] at hres
      have hy := yield_ok (want := gd.2) (ops := ops) hT (j := gd.1) (by rw [hall, e1]; exact hb)
      rw [hall, e1] at hy
      cases hw2 : isWant gd.2 (guardV all t gd.1) with
      | true =>
        rw [hw2] at hres hy
        rw [if_pos (by simp only [Region.wanted, hg]; exact hy)]
        exact .inl (run hres)
      | false =>
        rw [hw2] at hres hy
        rw [if_neg (by simp only [Region.wanted, hg]; rw [hy]; simp)]
        simp only [cond_false] at hres
        exact nx undef undef ρ s1 w (undef_vr ρ) hR1 (Ext.refl _ _ _) hres
theorem draw1_ok (g : Good P E) (hm : P.follows .mixedOrders = true) (hC : CallOk P call) (hfn : F.fl.Nodup) (hfl : ∀ i ∈ F.fl, i < ops.size) {s1 : St} {kr : KT} {ke : Nat → KT} (hc0 : s.c ≤ F.c0) (h : draw1 E F call ops.toList (preOf ops.toList []) k t s1 = true) (hR : R ρ s1 w) (hx : Ext ρ s w ρ s1 w) (hlt : ∀ i, hasN F.fl i = true → F.c0 + i < s1.c ∧ ρ (F.c0 + i) = none) (hT : TR ρ t a) (id : Nat) : (Code.region id ops true).wp P (Po ρ s w k ke kr) a w := by
  have h : cond (statB F ops.toList (preOf ops.toList [])) (stageK E F ops.toList (preOf ops.toList []) [] (heavies F ops.toList) (Am.avail (preOf ops.toList []) (heavies F ops.toList)) (evS E F call ops.toList (preOf ops.toList []) k (heavies F ops.toList).length (heavies F ops.toList) []) t s1) false = true := h
  cases hs : statB F ops.toList (preOf ops.toList []) with
  | false => rw [hs] at h; cases h
  | true =>
    rw [hs] at h
    simp only [cond_true] at h
    have hst := stat_of hs
    obtain ⟨t0, c1, c2, c3, c4⟩ := stageK_ok hst h
    refine region_invG hm (fun S a' w' => ∃ dn rem t' s' ρ', DI P E F call ops.toList k ρ s w S a' w' dn rem t' s' ρ') ?_ ?_ ?_ ?_
    · refine ⟨[], heavies F ops.toList, t0, s1, ρ, (fun i o _ hi => (by cases hi)), (fun x => ⟨.inr, fun e => e.elim (fun e => by cases e) (fun e => e)⟩), (fun x hx => (by cases hx)), (fun i o ho hh => ?_), (fun i o _ _ hi => (by cases hi)), hR.drew, ⟨fun i hi => ?_, fun i hi _ => ?_, (fun i _ hi => (by cases hi)), (fun i j x y _ _ hi => (by cases hi))⟩, hx.trans Ext.drew, ?_, hT.defers, fun d v hv hws => ?_, c1, ⟨_, c2⟩⟩
      · simp only [Bool.false_eq_true, false_iff, Classical.not_not]
        exact heavies_mem.2 ⟨o, ho, hh⟩
      · unfold unm at hi
        simp only [Bool.and_eq_true] at hi
        exact (hlt i hi.1).1
      · unfold unm at hi
        simp only [Bool.and_eq_true] at hi
        exact (hlt i hi.1).2
      · rw [c3]; have := hT.vals.1; simpa using this
      · have : t0[d]? = t[d]? := c4 d fun i o ho hl _ e => by have := hws i o ho e hl; cases this
        rw [this] at hv
        obtain ⟨u, h1, h2⟩ := hT.vals.2 d v hv
        exact ⟨u, by simpa using h1, h2⟩
    · rintro i o S a' w' hoi hS hw ⟨dn, rem, t', s', ρ', hD⟩
      have ho : ops.toList[i]? = some o := by simpa using hoi
      cases hh : hvy F i o with
      | true => exact hD.step_heavy g hC hst rfl ho hS hw hfn hh
      | false => exact hD.step_light g hst rfl hc0 ho hS hw hh
    · rintro S a' w' hall ⟨dn, rem, t', s', ρ', hD⟩
      have hnil : rem = [] := by
        cases hr : rem with
        | nil => rfl
        | cons x r =>
          have hx : x ∈ heavies F ops.toList := (hD.rems x).2 (.inr (by rw [hr]; simp))
          obtain ⟨o, ho, hh⟩ := heavies_mem.1 hx
          have hlt : x < ops.size := by have := (List.getElem?_eq_some_iff.1 ho).1; simpa using this
          exact absurd (by rw [hr]; simp) ((hD.heavy x o ho hh).1 (hall x hlt))
      subst hnil
      obtain ⟨n0, hres⟩ := hD.res
      rw [evS_nil] at hres
      obtain ⟨s2, p1, p2, p3, _⟩ := matK_ok (F.fl.filter (live (preOf ops.toList []) dn)) (unm F ops.toList dn) s' (fun i hi => by
        have := List.mem_filter.1 hi
        have hU : unm F ops.toList dn i = true := by unfold unm; rw [hasN_iff.2 this.1, this.2]; rfl
        refine ⟨hU, ?_⟩
        rcases hb : S i with _ | _
        · exfalso
          rcases Nat.lt_or_ge i ops.size with e | e
          · rw [hall i e] at hb; cases hb
          · exact absurd e (by
              have := hfl i this.1
              omega)
        · rfl) (hfn.filter _) hD.rel hD.ext hD.pend hres
      refine ⟨ρ', s2, t', p2, ⟨⟨by have := hD.size; simpa using this, fun d v hv => ?_⟩, hD.defers⟩, p3, p1⟩
      obtain ⟨u, h1, h2⟩ := hD.slots d v hv fun i o ho _ _ => hall i (by have := (List.getElem?_eq_some_iff.1 ho).1; simpa using this)
      exact ⟨u, by simpa using h1, h2⟩
    · intro i o hoi
      exact hst.back i o (by simpa using hoi)
theorem floats_lt {all : List Oper} {pre : List (List Nat)} {i : Nat} (h : i ∈ floatsOf all pre) : i < all.length := List.mem_range.1 (List.mem_filter.1 h).1
theorem floats_nodup (all : List Oper) (pre : List (List Nat)) : (floatsOf all pre).Nodup := List.nodup_range.filter _
theorem draw_ok (g : Good P E) (hm : P.follows .mixedOrders = true) (hC : CallOk P call) : DrawOk P (drawK E call) := by
  intro id ops k t s h ρ w a ke kr hR hT
  unfold drawK at h
  generalize antiOf ops.toList (preOf ops.toList []) = an at h
  have hN := floats_nodup ops.toList (preOf ops.toList [])
  have hL : ∀ i ∈ floatsOf ops.toList (preOf ops.toList []), i < ops.size := fun i hi => by simpa using floats_lt hi
  generalize floatsOf ops.toList (preOf ops.toList []) = l at h hN hL
  cases l with
  | nil => exact draw1_ok g hm hC (F := ⟨[], s.c, an⟩) hN (fun i hi => hL i hi) (Nat.le_refl _) h hR (Ext.refl _ _ _) (fun i hi => by cases hi) hT id
  | cons x r =>
    simp only [draw2, forceN_eq] at h
    refine draw1_ok g hm hC (F := ⟨x :: r, s.c, an⟩) hN (fun i hi => hL i hi) (Nat.le_refl _) h ⟨fun n hn => hR.dom n ?_, hR.lt, hR.rows, hR.maps, hR.injm, hR.inj, hR.gl, hR.lo, hR.it⟩ ⟨Nat.le_add_right _ _, fun _ _ h => h, Nat.le_refl _, rfl, rfl, rfl, fun _ _ _ => rfl, fun _ h => .inl h, fun _ _ => rfl⟩ (fun i hi => ⟨?_, hR.dom _ (Nat.le_add_right _ _)⟩) hT id
    · have : s.c + ops.toList.length ≤ n := hn
      omega
    · have := hL i (hasN_iff.1 hi)
      show s.c + i < s.c + ops.toList.length
      simp; omega
end
end Go.Proofs.YtcfekhcdadldmaaGreatDoor.Am
set_option linter.unusedSimpArgs false
namespace Go.Proofs.YtcfekhcdadldmaaGreatDoor.Am
open Go Go.RowKit
/- a program's own environment. -/
def undOk (P : Program) : TypeDesc → Bool
  | .struct fs => fs.toList.all fun f => (P.info? f.type).isSome
  | _ => true
def undOf (P : Program) (t : TypeId) : Option TypeDesc := match P.underlying t with
  | some d => cond (undOk P d) (some d) none
  | none => none
def sizeOfP (P : Program) (t : TypeId) : Option Nat := match P.info? t with
  | some i => some i.size
  | none => none
def zeroOk (i : TypeInfo) (l : List Value) : Bool := Nat.beq i.size l.length && (Nat.ble i.bytes 1000 && l.all plain1)
def zeroOfP (P : Program) (t : TypeId) : Option (List Value) := match P.info? t with
  | some i => match i.zero with
    | some z => cond (zeroOk i z.cells.toList) (some z.cells.toList) none
    | none => none
  | none => none
def zvOk : Value → Bool
  | .agg cs => cs.toList.all plain1
  | v => plain1 v
def zvOfP (P : Program) (t : TypeId) : Option Value := match P.info? t with
  | some i => match i.zero with
    | some z => cond (zvOk z) (some z) none
    | none => none
  | none => none
def ptrB (P : Program) : TypeDesc → Bool
  | .pointer e => match P.info? e with
    | some i => !Nat.beq i.size 0
    | none => false
  | _ => true
def skDs (P : Program) : List Field → Nat → Option (List TypeDesc)
  | [], _ => some []
  | f :: r, i => match P.underlying f.type with
    | some d => cond (ptrB P d && (!(f.name == "_") && Nat.beq f.offset i)) (match skDs P r (i + 1) with
      | some ds => some (d :: ds)
      | none => none) none
    | none => none
def skArr (P : Program) (t : TypeId) (len : Nat) (e : TypeId) (i : TypeInfo) : TypeDesc → Option (List TypeDesc)
  | .struct fs => match skDs P fs.toList 0 with
    | some ds => cond (!P.stoodInHeld e && (!P.eqGuardType P.depth t && (Nat.beq i.size ds.length && Nat.ble len 100))) (some (List.replicate len ds).flatten) none
    | none => none
  | d => cond (ptrB P d && (!P.eqGuardType P.depth t && (Nat.beq i.size 1 && Nat.ble len 100))) (some (List.replicate len d)) none
def skOfP (P : Program) (t : TypeId) : Option (List TypeDesc) := match P.underlying t with
  | some (.struct fs) => cond (!P.stoodInHeld t && !P.eqGuardType P.depth t) (skDs P fs.toList 0) none
  | some (.array len e) => match P.underlying e with
    | some d => match P.info? e with
      | some i => skArr P t len e i d
      | none => none
    | none => none
  | _ => none
def fnOfP (P : Program) (f : FuncId) : Option Func := match P.funcs[f]? with
  | some fn => cond (!(fn.name == "runtime.NumGoroutine") && fn.body.isSome) (some fn) none
  | none => none
/-- where a path of embedded fields leads, from a struct in memory on. -/
def moGo (P : Program) : List FieldStep → TypeId → Nat → Option Nat
  | [], t, o => match P.underlying t with
    | some (.pointer _) => none
    | some _ => some o
    | none => none
  | s :: r, _, o => match P.underlying s.struct with
    | some (.struct fs) => match fs.toList[s.index]? with
      | some f => match P.info? f.type with
        | some i => cond (s.deref || Nat.beq i.size 0) none (moGo P r f.type (o + f.offset))
        | none => none
      | none => none
    | _ => none
def moTo (f : FuncId) : Option Nat → Option (FuncId × Nat)
  | some o => some (f, o)
  | none => none
def moM (P : Program) (t : TypeId) (m : Method) : Option (FuncId × Nat) := match m.func with
  | some (f, true) => match m.path.toList with
    | s :: r => cond s.deref (moTo f (moGo P (⟨s.struct, s.index, false⟩ :: r) t 0)) none
    | [] => none
  | _ => none
def moOf (P : Program) (t : TypeId) (name : String) : Option (FuncId × Nat) := match P.underlying t with
  | some (.pointer _) => match P.info? t with
    | some i => match i.methods.find? (·.name == name) with
      | some m => moM P t m
      | none => none
    | none => none
  | _ => none
theorem moGo_ok {P : Program} {w : World} (b o : Nat) : ∀ (r : List FieldStep) (t : TypeId) (k k' : Nat), moGo P r t k = some k' → ∃ xt d, (follow r t (.var ⟨b, o + k, none⟩)).run P w = .ok (xt, .var ⟨b, o + k', none⟩) w ∧ P.underlying xt = some d ∧ ∀ e, d ≠ .pointer e
  | [], t, k, k', h => by
    unfold moGo at h
    split at h
    · cases h
    · rename_i d hd hu
      obtain rfl := Option.some.inj h
      exact ⟨t, d, by simp [follow], hu, fun e he => hd e (by rw [← he])⟩
    · cases h
  | s :: r, t, k, k', h => by
    rw [moGo] at h
    split at h
    · rename_i fs hd
      split at h
      · rename_i f hf
        split at h
        · rename_i i hi
          cases hq : (s.deref || Nat.beq i.size 0) with
          | true => rw [hq] at h; cases h
          | false =>
            rw [hq] at h
            simp only [Bool.or_eq_false_iff] at hq
            have hne : i.size ≠ 0 := fun e => by rw [e] at hq; exact absurd hq.2 (by decide)
            have hf' : fs[s.index]? = some f := by simpa using hf
            obtain ⟨xt, d, h1, h2, h3⟩ := moGo_ok (w := w) b o r f.type (k + f.offset) k' h
            refine ⟨xt, d, ?_, h2, h3⟩
            simp [follow, run_underlying hd, hf', hq.1, fieldPlace, run_sizeOf hi, hne, addr_add, Nat.add_assoc, h1]
        · cases h
      · cases h
    · cases h
theorem moOf_ok {P : Program} {t : TypeId} {name : String} {p : FuncId × Nat} (h : moOf P t name = some p) : (∃ e, P.underlying t = some (.pointer e)) ∧ ∀ (b o : Nat) (w : World), (method (P.types.size + Made.depth) t (.pointer (some ⟨b, o, none⟩)) name).run P w = .ok (p.1, .pointer (some ⟨b, o + p.2, none⟩)) w := by
  unfold moOf at h
  split at h
  · rename_i e he
    split at h
    · rename_i i hi
      split at h
      · rename_i m hm
        refine ⟨⟨e, he⟩, fun b o w => ?_⟩
        unfold moM at h
        split at h
        · rename_i f hf
          split at h
          · rename_i s r hp
            cases hs : s.deref with
            | false => rw [hs] at h; cases h
            | true =>
              rw [hs] at h
              simp only [cond_true] at h
              cases hg : moGo P (⟨s.struct, s.index, false⟩ :: r) t 0 with
              | none => rw [hg] at h; cases h
              | some k' =>
                rw [hg] at h
                obtain rfl := Option.some.inj h
                obtain ⟨xt, d, h1, h2, h3⟩ := moGo_ok (P := P) (w := w) b o _ _ _ _ hg
                have hfol : (follow m.path.toList t (.val (.pointer (some ⟨b, o, none⟩)))).run P w = .ok (xt, .var ⟨b, o + k', none⟩) w := by
                  rw [hp]
                  simp only [follow, Nat.add_zero] at h1 ⊢
                  simpa [hs, Place.get, asAddr] using h1
                have hrec : ∀ x, (receiverAt xt (.var ⟨b, o + k', none⟩) true x).run P w = .ok (.pointer (some ⟨b, o + k', none⟩)) w := fun x => by
                  simp only [receiverAt, Sem.run_bind, run_underlying h2, Result.andThen_ok]
                  rfl
                show (method (P.types.size + 99 + 1) t _ name).run P w = _
                rw [method]
                simp [typeInfo, hi, hm, hfol, hf, hrec]
          · cases h
        · cases h
      · cases h
    · cases h
  · cases h
def envOf (P : Program) (ext : FuncId → Option (List Value → St → (Value → St → Bool) → Bool)) (xt : FuncId → Option (List Value → Option Value)) (hs : FuncId → Nat → List Value → Bool) : Env := ⟨undOf P, sizeOfP P, zeroOfP P, zvOfP P, skOfP P, fnOfP P, ext, xt, fun e n o u => liesAt P P.depth e (n / P.cellsOf e) o u 1, hs, moOf P⟩
/-- what functions without a body answer. -/
def XtOk (P : Program) (xt : FuncId → Option (List Value → Option Value)) : Prop := ∀ f g, xt f = some g → ∀ l v, g l = some v → ∀ (ρ : Rho) (us : List Value) (w : World), L2 ρ l us → ∃ u, (callFunc f us.toArray).run P w = .ok (.value u) w ∧ VR ρ v u
theorem zv_vr {z : Value} (h : zvOk z = true) (ρ : Rho) : VR ρ z z := by
  unfold zvOk at h
  split at h
  · rename_i cs
    have hp : ∀ v ∈ cs.toList, plain1 v = true := fun v hv => List.all_eq_true.1 h v hv
    exact vr_agg.2 ⟨cs, rfl, plains_l2 hp, fun v hv => (plain_vr (ρ := ρ) (hp v hv)).2⟩
  · exact (plain_vr h).1
theorem ptrB_ok {P : Program} {d : TypeDesc} (h : ptrB P d = true) : PtrOk P d := fun e he => by
  subst he
  unfold ptrB at h
  split at h
  · rename_i e' he
    cases he
    split at h
    · rename_i i hi
      exact ⟨i, hi, fun e => by rw [e] at h; cases h⟩
    · cases h
  · rename_i hn
    exact absurd rfl (hn e)
theorem skDs_ok {P : Program} : ∀ (fs : List Field) (off : Nat) (ds : List TypeDesc), skDs P fs off = some ds → fs.length = ds.length ∧ (∀ d ∈ ds, PtrOk P d) ∧ ∀ (i : Nat) (f : Field), fs[i]? = some f → f.name ≠ "_" ∧ f.offset = off + i ∧ ∃ d, ds[i]? = some d ∧ P.underlying f.type = some d
  | [], _, ds, h => by
    obtain rfl := Option.some.inj h
    exact ⟨rfl, fun d hd => by simp at hd, fun i f hi => by simp at hi⟩
  | f :: r, off, ds, h => by
    rw [skDs] at h
    split at h
    · rename_i d hd
      cases hq : (ptrB P d && (!(f.name == "_") && Nat.beq f.offset off)) with
      | false => rw [hq] at h; cases h
      | true =>
        rw [hq] at h
        simp only [cond_true] at h
        split at h
        · rename_i ds' hds
          obtain rfl := Option.some.inj h
          obtain ⟨h1, h3, h2⟩ := skDs_ok r (off + 1) ds' hds
          simp only [Bool.and_eq_true, Bool.not_eq_true', beq_eq_false_iff_ne] at hq
          refine ⟨by simp [h1], fun d' hd' => ?_, fun i g hi => ?_⟩
          · rcases List.mem_cons.1 hd' with rfl | hd'
            · exact ptrB_ok hq.1
            · exact h3 d' hd'
          · cases i with
            | zero =>
              simp only [List.getElem?_cons_zero, Option.some.injEq] at hi
              subst hi
              exact ⟨hq.2.1, by rw [Nat.eq_of_beq_eq_true hq.2.2]; rfl, d, rfl, hd⟩
            | succ i =>
              obtain ⟨g1, g2, d', g3, g4⟩ := h2 i g (by simpa using hi)
              exact ⟨g1, by omega, d', by simpa using g3, g4⟩
        · cases h
    · cases h
theorem good_of (P : Program) (ext : FuncId → Option (List Value → St → (Value → St → Bool) → Bool)) {xt : FuncId → Option (List Value → Option Value)} {hs : FuncId → Nat → List Value → Bool} (hxt : XtOk P xt) : Good P (envOf P ext xt hs) := by
  have hund : ∀ t d, undOf P t = some d → P.underlying t = some d ∧ undOk P d = true := fun t d h => by
    unfold undOf at h
    split at h
    · rename_i d' hd
      cases hq : undOk P d' with
      | false => rw [hq] at h; cases h
      | true =>
        rw [hq] at h
        obtain rfl := Option.some.inj h
        exact ⟨hd, hq⟩
    · cases h
  refine ⟨fun t d h => (hund t d h).1, fun t n h => ?_, fun t fs h f hf => ?_, fun t z h => ?_, fun t ds h => ?_, hxt, fun _ _ _ h => moOf_ok h, fun _ _ _ _ h => h, fun t l h => ?_⟩
  · have h : sizeOfP P t = some n := h
    unfold sizeOfP at h
    split at h
    · rename_i i hi
      exact ⟨i, hi, Option.some.inj h⟩
    · cases h
  · have := (hund t _ h).2
    have := List.all_eq_true.1 this f hf
    exact Option.isSome_iff_exists.1 this
  · have h : zvOfP P t = some z := h
    unfold zvOfP at h
    split at h
    · rename_i i hi
      split at h
      · rename_i z' hz
        cases hq : zvOk z' with
        | false => rw [hq] at h; cases h
        | true =>
          rw [hq] at h
          obtain rfl := Option.some.inj h
          exact ⟨⟨i, hi, hz⟩, zv_vr hq⟩
      · cases h
    · cases h
  · have h : skOfP P t = some ds := h
    unfold skOfP at h
    split at h
    · rename_i fs hd
      cases hq : (!P.stoodInHeld t && !P.eqGuardType P.depth t) with
      | false => rw [hq] at h; cases h
      | true =>
        rw [hq] at h
        simp only [cond_true] at h
        simp only [Bool.and_eq_true, Bool.not_eq_true'] at hq
        obtain ⟨h1, h3, h2⟩ := skDs_ok _ _ _ h
        exact ⟨hq.2, .inl ⟨fs, h3, hd, hq.1, h1, fun i f hi => by simpa using h2 i f hi⟩⟩
    · rename_i len e hd
      split at h
      · rename_i d he
        split at h
        · rename_i i hi
          unfold skArr at h
          split at h
          · rename_i fs
            split at h
            · rename_i ds0 h0
              cases hq : (!P.stoodInHeld e && (!P.eqGuardType P.depth t && (Nat.beq i.size ds0.length && Nat.ble len 100))) with
              | false => rw [hq] at h; cases h
              | true =>
                rw [hq] at h
                obtain rfl := Option.some.inj h
                simp only [Bool.and_eq_true, Bool.not_eq_true'] at hq
                obtain ⟨h1, h3, h2⟩ := skDs_ok _ _ _ h0
                exact ⟨hq.2.1, .inr (.inr ⟨len, e, fs, ds0, i, hd, he, hq.1, h1, fun i f hi => by simpa using h2 i f hi, hi, Nat.eq_of_beq_eq_true hq.2.2.1, rfl, h3⟩)⟩
            · cases h
          · cases hq : (ptrB P d && (!P.eqGuardType P.depth t && (Nat.beq i.size 1 && Nat.ble len 100))) with
            | false => rw [hq] at h; cases h
            | true =>
              rw [hq] at h
              obtain rfl := Option.some.inj h
              simp only [Bool.and_eq_true, Bool.not_eq_true'] at hq
              exact ⟨hq.2.1, .inr (.inl ⟨len, e, d, i, hd, he, hi, Nat.eq_of_beq_eq_true hq.2.2.1, rfl, ptrB_ok hq.1⟩)⟩
        · cases h
      · cases h
    · cases h
  · have h : zeroOfP P t = some l := h
    unfold zeroOfP at h
    split at h
    · rename_i i hi
      split at h
      · rename_i z hz
        cases hq : zeroOk i z.cells.toList with
        | false => rw [hq] at h; cases h
        | true =>
          rw [hq] at h
          obtain rfl := Option.some.inj h
          unfold zeroOk at hq
          simp only [Bool.and_eq_true, Nat.ble_eq] at hq
          exact ⟨i, z, hi, hz, rfl, Nat.eq_of_beq_eq_true hq.1, hq.2.1, fun v hv => List.all_eq_true.1 hq.2.2 v hv⟩
      · cases h
    · cases h
/-- what functions that are not run here must do. -/
def ExtOk (P : Program) (ext : FuncId → Option (List Value → St → (Value → St → Bool) → Bool)) : Prop := ∀ f g, ext f = some g → CallOk P (fun f' args s k => cond (Nat.beq f' f) (g args s k) false)
theorem goodF_of {P : Program} {ext : FuncId → Option (List Value → St → (Value → St → Bool) → Bool)} {xt : FuncId → Option (List Value → Option Value)} {hs : FuncId → Nat → List Value → Bool} (hx : ExtOk P ext) : GoodF P (envOf P ext xt hs) := by
  refine ⟨fun f fn h => ?_, fun f g h => hx f g h⟩
  have h : fnOfP P f = some fn := h
  unfold fnOfP at h
  split at h
  · rename_i fn' hf
    cases hq : (!(fn'.name == "runtime.NumGoroutine") && fn'.body.isSome) with
    | false => rw [hq] at h; cases h
    | true =>
      rw [hq] at h
      obtain rfl := Option.some.inj h
      simp only [Bool.and_eq_true, Bool.not_eq_true'] at hq
      refine ⟨hf, fun as w => ?_⟩
      have hb : fn'.body.isNone = false := by
        cases hb : fn'.body with
        | none => rw [hb] at hq; simp at hq
        | some c => rfl
      have hn : ¬ fn'.name = "runtime.NumGoroutine" := by simpa using hq.1
      have hb2 : ¬ fn'.body = none := fun e => by rw [e] at hb; cases hb
      simp [callFunc, hf, hn, hb2]
  · cases h
/-- a run that begins with nothing. -/
def nilSt : St := ⟨Tr.nil 17, ⟨Tr.nil 17, false⟩, 0⟩
def isTrue : Value → St → Bool
  | .bool true, _ => true
  | _, _ => false
theorem nil_get (n : Nat) : nilSt.get n = none := Tr.get_nil 17 n
theorem nil_gm (n : Nat) : nilSt.gm n = none := Tr.get_nil 17 n
theorem R.nil {w : World} (hG : GlobOk w) : R (fun _ => none) nilSt w :=
  ⟨fun _ _ => rfl, fun _ _ h => (by cases h), fun n r h => (by rw [nil_get] at h; cases h), fun n r h => (by rw [nil_gm] at h; cases h), fun n m r q x y h => (by rw [nil_gm] at h; cases h), fun n m r q x y h => (by rw [nil_get] at h; cases h), hG, fun _ _ h => (by cases h), fun _ n es h => (by rw [nil_gm] at h; cases h)⟩
theorem runs_of {P : Program} {ext : FuncId → Option (List Value → St → (Value → St → Bool) → Bool)} {xt : FuncId → Option (List Value → Option Value)} {hs : FuncId → Nat → List Value → Bool} (hm : P.follows .mixedOrders = true) (hxt : XtOk P xt) (hx : ExtOk P ext) {n : Nat} {f : FuncId} (h : evCallK (envOf P ext xt hs) (drawK (envOf P ext xt hs)) n f [] nilSt isTrue = true) (w : World) (hG : GlobOk w) : Calls P f #[] w fun e w' => e = .returned (.bool true) ∧ Below w.heap.size w w' := by
  have g := good_of P ext (hs := hs) hxt
  refine ((call_ok g (goodF_of hx) (fun call hC => draw_ok g hm hC) n f [] nilSt isTrue h).2 (fun _ => none) w [] (R.nil hG) (L2.nil _)).mono ?_
  rintro e w' ⟨v, u, ρ', s', rfl, hv, _, hx, hk⟩
  have : v = .bool true := by
    unfold isTrue at hk
    split at hk
    · rfl
    · cases hk
  subst this
  obtain rfl : u = .bool true := by rw [VR] at hv; exact hv
  refine ⟨rfl, hx.os, hx.tape, hx.output, hx.size, fun k hk => hx.frame k hk ?_⟩
  rintro ⟨n, x, ⟨r, h1⟩ | ⟨r, h1⟩, _⟩
  · rw [nil_get] at h1; cases h1
  · rw [nil_gm] at h1; cases h1
/-- what grows behind all that is there. -/
theorem R.grow {ρ : Rho} {s : St} {w w' : World} (hR : R ρ s w) (hb : Below w.heap.size w w') : R ρ s w' ∧ Ext ρ s w ρ s w' := by
  refine ⟨⟨hR.dom, fun n x h => Nat.lt_of_lt_of_le (hR.lt n x h) hb.size, fun n r h => ?_, fun n es h => ?_, hR.injm, hR.inj, hR.gl.keep fun k h _ => hb.block k h, hR.lo, hR.it⟩, ⟨Nat.le_refl _, fun _ _ h => h, hb.size, hb.os, hb.tape, hb.output, fun k hk _ => hb.block k hk, fun _ h => .inl h, fun _ _ => rfl⟩⟩
  · obtain ⟨x, c, h1, h2, h3⟩ := hR.rows n r h
    exact ⟨x, c, h1, (hb.block _ (hR.lt n x h1)).trans h2, h3⟩
  · obtain ⟨x, h1, h2⟩ := hR.maps n es h
    exact ⟨x, h1, h2.keep (fun _ _ h => h) fun k o hk' _ => (hb.block k (Array.getElem?_eq_some_iff.1 hk').1).trans hk'⟩
/- functions of Go's library that have no body. -/
def xtHas (P : Program) (f : FuncId) (e : Array Value → Sem Value) : Prop := ∃ fn, P.funcs[f]? = some fn ∧ (fn.name == "runtime.NumGoroutine") = false ∧ fn.body.isNone = true ∧ Extern.findNext fn = none ∧ Extern.find fn = some e
def findB (c : Nat) : List UInt8 → Nat → Option Nat
  | [], _ => none
  | b :: r, i => cond (Nat.beq b.toNat c) (some i) (findB c r (i + 1))
def idxV : Option Nat → Value
  | some i => .int .i64 (.ofNat i)
  | none => .int .i64 (.negSucc 0)
def xIndexByte : List Value → Option Value
  | [.string b, .int .u8 (.ofNat c)] => cond (Nat.blt c 256) (some (idxV (findB c b.data.toList 0))) none
  | _ => none
def cmpV (a b : List UInt8) : Value := cond (bytesEq a b) (.int .i64 0) (cond (Op.bytesLess a b) (.int .i64 (.negSucc 0)) (.int .i64 1))
def xSame : List Value → Option Value
  | [v] => some v
  | _ => none
theorem xSame_ok {P : Program} {f : FuncId} (h : xtHas P f Extern.AbiNoEscape.same) {l : List Value} {v : Value} (hg : xSame l = some v) {ρ : Rho} {us : List Value} {w : World} (hl : L2 ρ l us) : ∃ u, (callFunc f us.toArray).run P w = .ok (.value u) w ∧ VR ρ v u := by
  obtain ⟨fn, h1, h2, h3, h4, h5⟩ := h
  unfold xSame at hg
  split at hg
  · rename_i x
    obtain rfl := Option.some.inj hg
    obtain ⟨u, r, rfl, hv, hr⟩ := hl.inv
    have : r = [] := List.length_eq_zero_iff.1 hr.1
    subst this
    refine ⟨u, ?_, hv⟩
    rw [run_callFunc_extern h1 h2 h3 h4 h5]
    rfl
  · cases hg
end Go.Proofs.YtcfekhcdadldmaaGreatDoor.Am
set_option linter.unusedSimpArgs false
namespace Go.Proofs.YtcfekhcdadldmaaGreatDoor.Am
open Go
theorem find_range (c : Nat) : ∀ (l : List UInt8) (off : Nat) (p : Nat → Bool), (∀ (i : Nat) (b : UInt8), l[i]? = some b → p (off + i) = Nat.beq b.toNat c) → (List.range' off l.length).find? p = findB c l off
  | [], off, p, _ => rfl
  | b :: r, off, p, h => by
    rw [List.length_cons, List.range'_succ, List.find?_cons, findB]
    have h0 := h 0 b rfl
    rw [Nat.add_zero] at h0
    rw [h0]
    cases hb : Nat.beq b.toNat c with
    | true => rfl
    | false =>
      simp only [cond_false]
      exact find_range c r (off + 1) p fun i b hi => by rw [show off + 1 + i = off + (i + 1) by omega]; exact h (i + 1) b (by simpa using hi)
theorem firstIdx_eq (s : ByteArray) (c : Nat) (hc : c < 256) : Value.int .i64 (firstIdx s ((c : Int).toNat.toUInt8)) = idxV (findB c s.data.toList 0) := by
  have h := find_range c s.data.toList 0 (fun i => s[i]! == ((c : Int).toNat.toUInt8)) (fun i b hi => by
    have hlt : i < s.size := by
      have := (List.getElem?_eq_some_iff.1 hi).1
      cases s; simp only [Array.length_toList] at this; exact this
    have hg : s[i]! = b := by
      rw [getElem!_pos s i hlt]
      have : s.data.toList[i]? = some s[i] := by
        cases s with | mk d => 
          have hd : i < d.size := hlt
          simp only [Array.getElem?_toList]
          rw [Array.getElem?_eq_getElem hd]
          rfl
      rw [hi] at this
      exact (Option.some.inj this).symm
    rw [Nat.zero_add, hg]
    rw [Bool.eq_iff_iff, beq_iff_eq]
    constructor
    · rintro rfl
      have : (((c : Int).toNat).toUInt8).toNat = c := by simp; omega
      rw [this]; exact Nat.beq_refl c
    · intro e
      have := Nat.eq_of_beq_eq_true e
      rw [← this]
      simp)
  have hs : s.data.toList.length = s.size := by cases s; rfl
  unfold firstIdx
  rw [List.range_eq_range', ← hs, h]
  cases findB c s.data.toList 0 <;> rfl
theorem xIndexByte_ok {P : Program} {f : FuncId} (h : xtHas P f Extern.BytealgIndexByte.indexByte) {l : List Value} {v : Value} (hg : xIndexByte l = some v) {ρ : Rho} {us : List Value} {w : World} (hl : L2 ρ l us) : ∃ u, (callFunc f us.toArray).run P w = .ok (.value u) w ∧ VR ρ v u := by
  obtain ⟨fn, h1, h2, h3, h4, h5⟩ := h
  unfold xIndexByte at hg
  split at hg
  · rename_i b c
    cases hq : Nat.blt c 256 with
    | false => rw [hq] at hg; cases hg
    | true =>
      rw [hq] at hg
      obtain rfl := Option.some.inj hg
      obtain ⟨u, r, rfl, hv, hr⟩ := hl.inv
      obtain ⟨u2, r2, rfl, hv2, hr2⟩ := hr.inv
      have : r2 = [] := List.length_eq_zero_iff.1 hr2.1
      subst this
      obtain rfl : u = .string b := by rw [VR] at hv; exact hv
      obtain rfl : u2 = .int .u8 (.ofNat c) := by rw [VR] at hv2; exact hv2
      refine ⟨idxV (findB c b.data.toList 0), ?_, by unfold idxV; split <;> rw [VR]⟩
      rw [run_callFunc_extern h1 h2 h3 h4 h5]
      have := run_indexByte_string (P := P) b (c : Int) w
      rw [firstIdx_eq b c ((blt_iff _ _).1 hq)] at this
      have e : (#[.string b, .int .u8 (.ofNat c)] : Array Value) = #[.string b, .int .u8 (c : Int)] := rfl
      rw [show ([.string b, .int .u8 (.ofNat c)] : List Value).toArray = #[.string b, .int .u8 (c : Int)] from rfl, this]
      rfl
  · cases hg
def xCmp : List Value → Option Value
  | [.string a, .string b] => some (.int .i64 (Lib.compareBytes a.data.toList b.data.toList))
  | _ => none
theorem xCmp_ok {P : Program} {f : FuncId} (h : xtHas P f Extern.BytealgCompare.compare) {l : List Value} {v : Value} (hg : xCmp l = some v) {ρ : Rho} {us : List Value} {w : World} (hl : L2 ρ l us) : ∃ u, (callFunc f us.toArray).run P w = .ok (.value u) w ∧ VR ρ v u := by
  obtain ⟨fn, h1, h2, h3, h4, h5⟩ := h
  unfold xCmp at hg
  split at hg
  · rename_i a b
    obtain rfl := Option.some.inj hg
    obtain ⟨u, r, rfl, hv, hr⟩ := hl.inv
    obtain ⟨u2, r2, rfl, hv2, hr2⟩ := hr.inv
    have : r2 = [] := List.length_eq_zero_iff.1 hr2.1
    subst this
    obtain rfl : u = .string a := by rw [VR] at hv; exact hv
    obtain rfl : u2 = .string b := by rw [VR] at hv2; exact hv2
    refine ⟨_, ?_, by rw [VR]⟩
    rw [run_callFunc_extern h1 h2 h3 h4 h5, show ([.string a, .string b] : List Value).toArray = #[.string a, .string b] from rfl, Lib.run_compareString a b w]
    rfl
  · cases hg
end Go.Proofs.YtcfekhcdadldmaaGreatDoor.Am
