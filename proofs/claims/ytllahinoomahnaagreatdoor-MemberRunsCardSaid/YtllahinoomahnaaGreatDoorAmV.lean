import Derived.Test.YtllahinoomahnaaGreatDoorAmW
set_option linter.unusedVariables false
namespace Go.Proofs.YtllahinoomahnaaGreatDoor.Am
open Go

/- regions whose order is drawn. -/
structure LW where
  run : Nat → Tm → St → (Value → Bool) → Bool
structure PaW where
  run : Nat → St → Tm → (Tm → Bool) → Bool
structure ChW where
  run : Nat → Tm → St → Bool
structure MW where
  run : Nat → Tm → St → (St → Bool) → Bool
structure FlW where
  run : Tm → (FlI → Bool) → Bool
structure DjW where
  run : CallK → Nat → KJ → KJ
def noCall : CallK := fun _ _ _ _ => false
def flK (k : FlI → Bool) : Option FlI → Bool
  | some I => k I
  | none => false
def flBZ (e : TypeId) (len n : Nat) (ps : List (Nat × Operand)) (len1 : Nat) (z : List Value) : FlW := ⟨fun t k => (fillJ (fun j => some (j * n, n)) ps).run t z fun cs => k ⟨cs, e, n, fun ad => .slice ad len len1⟩⟩
def flInfoJ (E : Env) : Op → FlW
  | .alloc ty => match E.zero ty with
    | some z => listK z fun z => ⟨fun _ k => k ⟨z, ty, 0, .pointer⟩⟩
    | none => ⟨fun _ _ => false⟩
  | .box ty x => ⟨fun t k => (opK x).run t fun v => onCells v (fun cs => k ⟨cs, ty, 0, .pointer⟩) (k ⟨[v], ty, 0, .pointer⟩)⟩
  | .buildSlice ty len ps => match E.und ty with
    | some (.slice e) => match E.zero e with
      | some z => cond (Nat.ble (len * z.length) 100000 && Nat.blt 0 z.length) (natK (fun n => natK (fun len => natK (fun len1 => listK (reps z len) (flBZ e len n ps.toList len1)) (len + 1)) len) z.length) ⟨fun _ _ => false⟩
      | none => ⟨fun _ _ => false⟩
    | _ => ⟨fun _ _ => false⟩
  | .makeSlice ty x y => match E.und ty with
    | some (.slice e) => ⟨fun t k => flK k (flMS e (natOf ((opW x).run t)) (natOf ((opW y).run t)) (E.zero e))⟩
    | _ => ⟨fun _ _ => false⟩
  | _ => ⟨fun _ _ => false⟩
def flJ (E : Env) (i : Nat) (o : Oper) : LW := match o.guard with
  | none => ⟨fun c0 t _ k => (flInfoJ E o.op).run t fun I => fN (fun n => fV k (I.vl (some ⟨n, 0, none⟩))) (Nat.add c0 i)⟩
  | some _ => ⟨fun _ _ _ _ => false⟩
def gdJ (E : Env) (fl : List Nat) (all : List Oper) (i : Nat) (o : Oper) : LW := cond (hasN fl i) (flJ E i o) (match o.guard with
  | none => match moveOf o.op with
    | some x => ⟨fun _ t _ k => k ((opW x).run t)⟩
    | none => ⟨fun _ t s k => (opJ E o.op).run noCall t s fun v _ => k v⟩
  | some g => match gdst all g.1 with
    | none => ⟨fun _ _ _ _ => false⟩
    | some d => ⟨fun _ t s k => (guardJ d g.2).run t ((opJ E o.op).run noCall t s fun v _ => k v) (k undef)⟩)
def passJ (E : Env) (fl : List Nat) (all : List Oper) : List Nat → PaW
  | [] => ⟨fun _ _ t k => k t⟩
  | i :: r => match all[i]? with
    | some o => ⟨fun c0 s t k => (gdJ E fl all i o).run c0 t s fun v => (putJ o.dst).run t v fun t => (passJ E fl all r).run c0 s t k⟩
    | none => ⟨fun c0 s t k => (passJ E fl all r).run c0 s t k⟩
structure CvW where
  run : Value → Tm → Bool
def eqAd (a b : Option Addr) : Bool := (Option.casesOn (motive := fun _ => Bool) a (Option.casesOn (motive := fun _ => Bool) b true (fun _ => false)) (fun x => Addr.casesOn (motive := fun _ => Bool) x (fun b1 o1 sp => (Option.casesOn (motive := fun _ => Bool) sp (Option.casesOn (motive := fun _ => Bool) b false (fun y => Addr.casesOn (motive := fun _ => Bool) y (fun b2 o2 sp2 => (Option.casesOn (motive := fun _ => Bool) sp2 (Bool.casesOn (motive := fun _ => Bool) (Nat.beq b1 b2) false (Nat.beq o1 o2)) (fun _ => false))))) (fun _ => false)))))
def eqF (v u : Value) : Bool := (Value.casesOn (motive_1 := fun _ => Bool) v (fun a => (Value.casesOn (motive_1 := fun _ => Bool) u (fun b => (Bool.casesOn (motive := fun _ => Bool) a (!b) b)) (fun _ _ => false) (fun _ _ => false) (fun _ _ _ => false) (fun _ => false) (fun _ => false) (fun _ _ _ => false) (fun _ => false) (fun _ => false) (fun _ _ _ => false) false (fun _ _ => false) false (fun _ => false) (fun _ => false))) (fun kd a => int1 u fun kd' b => (Bool.casesOn (motive := fun _ => Bool) (kindEq kd kd') false (eqI a b))) (fun _ _ => (eqVal 5 v u)) (fun _ _ _ => (eqVal 5 v u)) (fun a => onStr u fun b => eqBy a.data.toList b.data.toList) (fun a => (Value.casesOn (motive_1 := fun _ => Bool) u (fun _ => false) (fun _ _ => false) (fun _ _ => false) (fun _ _ _ => false) (fun _ => false) (fun b => eqAd a b) (fun _ _ _ => false) (fun _ => false) (fun _ => false) (fun _ _ _ => false) false (fun _ _ => false) false (fun _ => false) (fun _ => false))) (fun a n c => onSl3 u fun b m e => (Bool.casesOn (motive := fun _ => Bool) (eqAd a b) false (Bool.casesOn (motive := fun _ => Bool) (Nat.beq n m) false (Nat.beq c e)))) (fun _ => (eqVal 5 v u)) (fun _ => (eqVal 5 v u)) (fun _ _ _ => (eqVal 5 v u)) (eqVal 5 v u) (fun _ _ => (eqVal 5 v u)) (eqVal 5 v u) (fun _ => (eqVal 5 v u)) (fun _ => (eqVal 5 v u)))
def chkV (d : Option Tmp) : CvW := match d with
  | none => ⟨fun _ _ => true⟩
  | some n => ⟨fun v t => Bool.casesOn (motive := fun _ => Bool) (Nat.blt n t.n) false (eqF v ((twJ n).run t))⟩
def chkJ (E : Env) (fl : List Nat) (all : List Oper) : List Nat → ChW
  | [] => ⟨fun _ _ _ => true⟩
  | i :: r => match all[i]? with
    | some o => ⟨fun c0 t s => (gdJ E fl all i o).run c0 t s fun v => Bool.casesOn (motive := fun _ => Bool) ((chkV o.dst).run v t) false ((chkJ E fl all r).run c0 t s)⟩
    | none => ⟨fun c0 t s => (chkJ E fl all r).run c0 t s⟩
def matJ (E : Env) (all : List Oper) : List Nat → MW
  | [] => ⟨fun _ _ s k => k s⟩
  | i :: r => match all[i]? with
    | some o => ⟨fun c0 t s k => (flInfoJ E o.op).run t fun I => fL I.cs fun z => St.casesOn (motive := fun _ => Bool) s fun h m c => fN (fun n => (hu n).run h (some ⟨z, I.ty, I.sz⟩) fun h => (matJ E all r).run c0 t ⟨h, m, c⟩ k) (Nat.add c0 i)⟩
    | none => ⟨fun _ _ _ _ => false⟩
def lightsOf (F : Fl) (all : List Oper) (p : Nat → Bool) : List Nat := (List.range all.length).filter fun i => match all[i]? with
  | some o => cond (hvy F i o) false (p i)
  | none => false
def stageJ (E : Env) (fl an : List Nat) (all : List Oper) (pre : List (List Nat)) (dn rem : List Nat) (new : Nat → Bool) : DjW := ⟨fun call c0 next t s => (passJ E fl all (lightsOf ⟨fl, 0, an⟩ all new)).run c0 s t fun t => Bool.casesOn (motive := fun _ => Bool) ((chkJ E fl all (lightsOf ⟨fl, 0, an⟩ all fun i => (avail pre rem i && live pre dn i) && !new i)).run c0 t s) false (next t s)⟩
def heavyJ (E : Env) (all : List Oper) (o : Oper) : OW := match o.guard with
  | none => opJ E o.op
  | some g => match gdst all g.1 with
    | none => ofW
    | some d => ⟨fun call t s k => (guardJ d g.2).run t ((opJ E o.op).run call t s k) (k undef s)⟩
def evSJ (E : Env) (fl an : List Nat) (all : List Oper) (pre : List (List Nat)) : List Nat → List Nat → DjW
  | [], dn => ⟨fun _ c0 k t s => (matJ E all (fl.filter (live pre dn))).run c0 t s fun s => k t s⟩
  | h :: rem, dn => match all[h]? with
    | some o => ⟨fun call c0 k t s => (matJ E all (fl.filter fun i => live pre dn i && hasN (pre.getD h []) i)).run c0 t s fun s => (heavyJ E all o).run call t s fun v s' => (putJ o.dst).run t v fun t' => (stageJ E fl an all pre (dn ++ [h]) rem (fun j => avail pre rem j && !avail pre (h :: rem) j)).run call c0 ((evSJ E fl an all pre rem (dn ++ [h])).run call c0 k) t' s'⟩
    | none => ⟨fun _ _ _ _ _ => false⟩
def draw1J (E : Env) (fl an : List Nat) (all : List Oper) (pre : List (List Nat)) (hs : List Nat) : DjW := ⟨fun call c0 k t s => (stageJ E fl an all pre [] hs (avail pre hs)).run call c0 ((evSJ E fl an all pre hs []).run call c0 k) t s⟩
def draw2J (E : Env) (fl an : List Nat) (all : List Oper) (pre : List (List Nat)) (hs : List Nat) : RW := match fl with
  | [] => ⟨fun call k t s => (draw1J E [] an all pre hs).run call s.c k t s⟩
  | x :: r => ⟨fun call k t s => St.casesOn (motive := fun _ => Bool) s fun h m c => fN (fun d => (draw1J E (x :: r) an all pre hs).run call c k t ⟨h, m, d⟩) (Nat.add c all.length)⟩
def listLK {β : Type} : List (List Nat) → (List (List Nat) → β) → β
  | [], k => k []
  | a :: r, k => listK a fun a => listLK r fun r => k (a :: r)
def drawJ (E : Env) (ops : Array Oper) : RW := listLK (preOf ops.toList []) fun pre => listK (antiOf ops.toList pre) fun an => listK (floatsOf ops.toList pre) fun fl => cond (statB ⟨fl, 0, an⟩ ops.toList pre) (listK (heavies ⟨fl, 0, an⟩ ops.toList) fun hs => draw2J E fl an ops.toList pre hs) ⟨fun _ _ _ _ => false⟩
end Go.Proofs.YtllahinoomahnaaGreatDoor.Am
