import Derived.Test.YtllahinoomahnaaGreatDoorAmL
import Derived.StillTail
set_option linter.unusedSimpArgs false
namespace Go.Proofs.YtllahinoomahnaaGreatDoor.Am
open Go

/- A region whose order is drawn: its heavy operations stand in one order; the others are worked out at each stage, and must stay. -/
def isHeavy : Op → Bool
  | .store .. => true
  | .alloc _ => true
  | .box .. => true
  | .buildSlice .. => true
  | .mapUpdate .. => true
  | .makeMap .. => true
  | .makeSlice .. => true
  | .range .. => true
  | .next .. => true
  | .entry _ => true
  | .call c => match c.callee with
    | .builtin .len => false
    | .builtin .cap => false
    | .builtin .min => false
    | .builtin .max => false
    | _ => true
  | _ => false
def lenV (E : Env) (t : List Value) (s : St) (c : Call) : Option Value :=
  match c.callee, c.args.toList, c.argTypes.toList with
  | .builtin .len, [x], [ty] => opLen s (opv t x) (E.und ty)
  | .builtin .cap, [x], [ty] => opCap (opv t x) (E.und ty)
  | .builtin .min, [x, y], _ => opMin false (opv t x) (opv t y)
  | .builtin .max, [x, y], _ => opMin true (opv t x) (opv t y)
  | _, _, _ => none
def lightV (E : Env) (t : List Value) (s : St) (o : Op) : Option Value :=
  match o with
  | .move x => some (opv t x)
  | .assign x => some (opv t x)
  | .pick c a b => opPick t a b (opv t c)
  | .binOp op ty x y _ => binV E op ty (isC x || isC y) (opv t x) (opv t y)
  | .unOp op _ x => opUn op (opv t x)
  | .load ty a => opLoad E s ty (opv t a)
  | .fieldAddr ty x f => opFieldAddr E ty f (opv t x)
  | .nilCheck x => opNilCheck (opv t x)
  | .indexAddr ty x i => opIA1 E ty (opv t x) (natOf (opv t i))
  | .index ty x i => opIx1 E ty (opv t x) (natOf (opv t i))
  | .build ty ps => E.build ty ps.toList t
  | .field ty x f => opF1 E f (opv t x) (E.und ty)
  | .extract x i => opEx i (opv t x)
  | .slice ty x lo hi mx => opSlice E t ty x lo hi mx
  | .makeInterface ty x => opMI ty (opv t x) (E.und ty)
  | .makeFunc fn first captured => opMF t fn first captured
  | .convert src dst x => opCv1 E s (opv t x) (E.und src) (E.und dst)
  | .call c => lenV E t s c
  | .lookup ty x i ok => opLk E s (opv t x) (opv t i) ok (E.und ty)
  | _ => none
def eqL (eq : Value → Value → Bool) : List Value → List Value → Bool
  | [], [] => true
  | a :: x, b :: y => cond (eq a b) (eqL eq x y) false
  | _, _ => false
def eqA : Option Addr → Option Addr → Bool
  | none, none => true
  | some ⟨b, o, none⟩, some ⟨b', o', none⟩ => Nat.beq b b' && Nat.beq o o'
  | _, _ => false
def eqVal : Nat → Value → Value → Bool
  | 0, _, _ => false
  | d + 1, v, u => match v, u with
    | .bool a, .bool b => a == b
    | .int k a, .int k' b => kindEq k k' && intEq a b
    | .string a, .string b => bytesEq a.data.toList b.data.toList
    | .pointer a, .pointer b => eqA a b
    | .slice a n c, .slice b m e => eqA a b && (Nat.beq n m && Nat.beq c e)
    | .map none, .map none => true
    | .map (some a), .map (some b) => Nat.beq a b
    | .chan none, .chan none => true
    | .nilFunc, .nilFunc => true
    | .nilIface, .nilIface => true
    | .iface t x, .iface t' y => Nat.beq t t' && eqVal d x y
    | .agg x, .agg y => eqL (eqVal d) x.toList y.toList
    | .tuple x, .tuple y => eqL (eqVal d) x.toList y.toList
    | .func (.func f) x y, .func (.func f') x' y' => Nat.beq f f' && (eqL (eqVal d) x.toList x'.toList && eqL (eqVal d) y.toList y'.toList)
    | _, _ => false
def waits (o : Oper) : List Nat := (o.after.toList.filter (Region.binds .any)).map (·.on)
/-- all that an operation waits for, whatever the way. -/
def preOf : List Oper → List (List Nat) → List (List Nat)
  | [], acc => acc
  | o :: r, acc => preOf r (acc ++ [(waits o).flatMap fun j => j :: acc.getD j []])
def hasN : List Nat → Nat → Bool
  | [], _ => false
  | x :: r, i => Bool.casesOn (motive := fun _ => Bool) (Nat.beq i x) (hasN r i) true
def tmpsOf (all : List Oper) (o : Oper) : List Nat :=
  (o.op.operands.toList.filterMap fun | .tmp d => some d | _ => none) ++ (match o.guard with | some g => ((all[g.1]?).bind (·.dst)).toList | none => [])
def isDst (o : Oper) (d : Nat) : Bool := match o.dst with | some e => Nat.beq e d | none => false
/-- operations of a region that lay a new box, whose row is taken where the first heavy operation wants it; the name ahead of theirs. -/
structure Fl where
  fl : List Nat
  c0 : Nat
  an : List Nat
def isMv : Op → Bool
  | .move _ => true
  | .assign _ => true
  | _ => false
/-- a heavy operation: it turns memory, or a variable that others read before. -/
def hvy (F : Fl) (i : Nat) (o : Oper) : Bool := cond (hasN F.fl i) false (cond (hasN F.an i) (isHeavy o.op || isMv o.op) (isHeavy o.op))
def antiOf (all : List Oper) (pre : List (List Nat)) : List Nat :=
  (List.range all.length).filter fun j => match all[j]? with
    | some p => isMv p.op && (List.range all.length).any fun i => match all[i]? with
      | some o => (tmpsOf all o).any (isDst p) && !hasN (pre.getD i []) j
      | none => false
    | none => false
def isNw : Op → Bool
  | .alloc _ => true
  | .box .. => true
  | .buildSlice .. => true
  | .makeSlice .. => true
  | _ => false
def isAl (o : Oper) : Bool := match o.guard with
  | none => isNw o.op
  | some _ => false
def floatsOf (all : List Oper) (pre : List (List Nat)) : List Nat :=
  (List.range all.length).filter fun i => match all[i]? with
    | some o => isAl o && (List.range all.length).any fun j => match all[j]? with
      | some p => isHeavy p.op && (!Nat.beq i j && (!hasN (pre.getD i []) j && !hasN (pre.getD j []) i))
      | none => false
    | none => false
def stat1 (F : Fl) (all : List Oper) (pre : List (List Nat)) (i : Nat) (o : Oper) : Bool :=
  (waits o).all (fun j => Nat.blt j i) &&
  ((tmpsOf all o).all (fun d => (List.range all.length).all fun j => match all[j]? with | some p => cond (isDst p d) (cond (hvy F j p) true (hasN (pre.getD i []) j)) true | none => true) &&
  (cond (hvy F i o) ((List.range i).all fun j => match all[j]? with | some p => cond (hvy F j p) (hasN (pre.getD i []) j) true | none => true) true &&
  ((List.range all.length).all (fun j => match all[j]?, o.dst with | some p, some d => cond (Nat.beq i j) true (!isDst p d) | _, _ => true) &&
  cond (hasN F.fl i) ((tmpsOf all o).all fun d => (List.range all.length).all fun j => match all[j]? with | some p => cond (isDst p d) (hasN (pre.getD i []) j) true | none => true) true)))
def statB (F : Fl) (all : List Oper) (pre : List (List Nat)) : Bool := (List.range all.length).all fun i => match all[i]? with | some o => stat1 F all pre i o | none => true
def heavies (F : Fl) (all : List Oper) : List Nat := (List.range all.length).filter fun i => match all[i]? with | some o => hvy F i o | none => false
def avail (pre : List (List Nat)) (rem : List Nat) (j : Nat) : Bool := (pre.getD j []).all fun i => !hasN rem i
/-- none of those that are done has waited for it. -/
def live (pre : List (List Nat)) (dn : List Nat) (j : Nat) : Bool := dn.all fun h => !hasN (pre.getD h []) j
def chk1 (t : List Value) (d : Option Tmp) : Option Value → Bool
  | some v => match d with
    | none => true
    | some n => match at? t n with
      | some u => eqVal 5 v u
      | none => false
  | none => false
/-- what a light operation gives, its guard looked at. -/
def guarded (E : Env) (all : List Oper) (t : List Value) (s : St) (o : Oper) : Option Value :=
  match o.guard with
  | none => lightV E t s o.op
  | some g => cond (isBoolV (guardV all t g.1)) (cond (isWant g.2 (guardV all t g.1)) (lightV E t s o.op) (some undef)) none
def flV (E : Env) (F : Fl) (t : List Value) (i : Nat) (o : Oper) : Option Value :=
  match o.guard with
  | none => match flInfo E t o.op with
    | some I => some (I.vl (some ⟨F.c0 + i, 0, none⟩))
    | none => none
  | some _ => none
def gd (E : Env) (F : Fl) (all : List Oper) (t : List Value) (s : St) (i : Nat) (o : Oper) : Option Value := cond (hasN F.fl i) (flV E F t i o) (guarded E all t s o)
def chkAll (E : Env) (F : Fl) (all : List Oper) (pre : List (List Nat)) (dn rem : List Nat) (new : Nat → Bool) (t : List Value) (s : St) : Bool :=
  (List.range all.length).all fun i => match all[i]? with
    | some o => cond (hvy F i o) true (cond ((avail pre rem i && live pre dn i) && !new i) (chk1 t o.dst (gd E F all t s i o)) true)
    | none => true
def setO (t : List Value) (d : Option Tmp) (k : List Value → Bool) : Option Value → Bool
  | some v => putK t d v k
  | none => false
/-- the light operations that are new. -/
def passK (E : Env) (F : Fl) (all : List Oper) (new : Nat → Bool) (s : St) (k : List Value → Bool) : List Nat → List Value → Bool
  | [], t => k t
  | i :: r, t => match all[i]? with
    | some o => cond (hvy F i o) (passK E F all new s k r t) (cond (new i) (setO t o.dst (fun t => passK E F all new s k r t) (gd E F all t s i o)) (passK E F all new s k r t))
    | none => passK E F all new s k r t
def stageK (E : Env) (F : Fl) (all : List Oper) (pre : List (List Nat)) (dn rem : List Nat) (new : Nat → Bool) (next : KT) (t : List Value) (s : St) : Bool :=
  passK E F all new s (fun t => cond (chkAll E F all pre dn rem new t s) (next t s) false) (List.range all.length) t
def heavyK (E : Env) (call : CallK) (all : List Oper) (o : Oper) (k : K2) (t : List Value) (s : St) : Bool :=
  match o.guard with
  | none => oneOpK E call t s k o.op
  | some g => cond (isBoolV (guardV all t g.1)) (cond (isWant g.2 (guardV all t g.1)) (oneOpK E call t s k o.op) (k undef s)) false
/-- the rows of new boxes. -/
def mat1 (s : St) (n : Nat) (k : St → Bool) : Option FlI → Bool
  | some I => forceL I.cs fun z => Tr.setK 17 s.h n (some ⟨z, I.ty, I.sz⟩) fun h => k ⟨h, s.m, s.c⟩
  | none => false
def matK (E : Env) (F : Fl) (all : List Oper) (t : List Value) (k : St → Bool) : List Nat → St → Bool
  | [], s => k s
  | i :: r, s => match all[i]? with
    | some o => mat1 s (F.c0 + i) (fun s => matK E F all t k r s) (flInfo E t o.op)
    | none => false
def evS (E : Env) (F : Fl) (call : CallK) (all : List Oper) (pre : List (List Nat)) (k : KT) : List Nat → List Nat → KT
  | [], dn, t, s => matK E F all t (fun s => k t s) (F.fl.filter (live pre dn)) s
  | h :: rem, dn, t, s => match all[h]? with
    | some o => matK E F all t (fun s => heavyK E call all o (fun v s' => putK t o.dst v fun t' => stageK E F all pre (dn ++ [h]) rem (fun j => avail pre rem j && !avail pre (h :: rem) j) (evS E F call all pre k rem (dn ++ [h])) t' s') t s) (F.fl.filter fun i => live pre dn i && hasN (pre.getD h []) i) s
    | none => false
def draw1 (E : Env) (F : Fl) (call : CallK) (all : List Oper) (pre : List (List Nat)) (k : KT) (t : List Value) (s : St) : Bool :=
  cond (statB ⟨F.fl, 0, F.an⟩ all pre) (stageK E F all pre [] (heavies ⟨F.fl, 0, F.an⟩ all) (avail pre (heavies ⟨F.fl, 0, F.an⟩ all)) (evS E F call all pre k (heavies ⟨F.fl, 0, F.an⟩ all) []) t s) false
def draw2 (E : Env) (call : CallK) (all : List Oper) (pre : List (List Nat)) (k : KT) (t : List Value) (s : St) (an : List Nat) : List Nat → Bool
  | [] => draw1 E ⟨[], s.c, an⟩ call all pre k t s
  | x :: r => forceN (fun c => draw1 E ⟨x :: r, s.c, an⟩ call all pre k t ⟨s.h, s.m, c⟩) (s.c + all.length)
def drawK (E : Env) (call : CallK) : DrawK := fun _ ops k t s =>
  draw2 E call ops.toList (preOf ops.toList []) k t s (antiOf ops.toList (preOf ops.toList [])) (floatsOf ops.toList (preOf ops.toList []))

theorem eqL_eq {eq : Value → Value → Bool} (h : ∀ v u, eq v u = true → v = u) : ∀ (x y : List Value), eqL eq x y = true → x = y
  | [], [], _ => rfl
  | [], _ :: _, e => by cases e
  | _ :: _, [], e => by cases e
  | a :: x, b :: y, e => by
    rw [eqL] at e
    cases hq : eq a b with
    | false => rw [hq] at e; cases e
    | true => rw [hq] at e; rw [h a b hq, eqL_eq h x y e]
theorem eqA_eq {a b : Option Addr} (h : eqA a b = true) : a = b := by
  unfold eqA at h
  split at h
  · rfl
  · simp only [Bool.and_eq_true] at h
    rw [Nat.eq_of_beq_eq_true h.1, Nat.eq_of_beq_eq_true h.2]
  · cases h
theorem eqVal_eq : ∀ (d : Nat) (v u : Value), eqVal d v u = true → v = u
  | 0, _, _, h => by cases h
  | d + 1, v, u, h => by
    unfold eqVal at h
    split at h
    · rw [beq_iff_eq.1 h]
    · simp only [Bool.and_eq_true] at h
      have e2 := h.2
      rw [intEq_eq] at e2
      rw [kindEq_eq h.1, beq_iff_eq.1 e2]
    · rename_i a b
      rw [bytesEq_eq] at h
      have := beq_iff_eq.1 h
      cases a with | mk a => cases b with | mk b => exact congrArg (fun z => Value.string ⟨z⟩) (Array.ext' this)
    · rw [eqA_eq h]
    · simp only [Bool.and_eq_true] at h
      rw [eqA_eq h.1, Nat.eq_of_beq_eq_true h.2.1, Nat.eq_of_beq_eq_true h.2.2]
    · rfl
    · rw [Nat.eq_of_beq_eq_true h]
    · rfl
    · rfl
    · rfl
    · simp only [Bool.and_eq_true] at h
      rw [Nat.eq_of_beq_eq_true h.1, eqVal_eq d _ _ h.2]
    · exact congrArg Value.agg (Array.ext' (eqL_eq (eqVal_eq d) _ _ h))
    · exact congrArg Value.tuple (Array.ext' (eqL_eq (eqVal_eq d) _ _ h))
    · simp only [Bool.and_eq_true] at h
      rw [Nat.eq_of_beq_eq_true h.1, Array.ext' (eqL_eq (eqVal_eq d) _ _ h.2.1), Array.ext' (eqL_eq (eqVal_eq d) _ _ h.2.2)]
    · cases h
theorem hasN_cons (x : Nat) (r : List Nat) (i : Nat) : hasN (x :: r) i = (Nat.beq i x || hasN r i) := by
  show Bool.casesOn (motive := fun _ => Bool) (Nat.beq i x) (hasN r i) true = _
  cases Nat.beq i x <;> rfl
theorem hasN_iff {i : Nat} : ∀ {l : List Nat}, hasN l i = true ↔ i ∈ l
  | [] => ⟨fun h => (by cases h), fun h => (by cases h)⟩
  | x :: r => by
    rw [hasN_cons, Bool.or_eq_true, List.mem_cons, hasN_iff (l := r)]
    exact ⟨fun h => h.imp Nat.eq_of_beq_eq_true id, fun h => h.imp (fun e => by rw [e]; exact Nat.beq_refl x) id⟩
end Go.Proofs.YtllahinoomahnaaGreatDoor.Am
