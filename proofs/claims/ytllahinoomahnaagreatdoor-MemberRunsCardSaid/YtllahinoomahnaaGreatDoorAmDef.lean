import Derived.Test.YtllahinoomahnaaGreatDoorAmTr
namespace Go.Proofs.YtllahinoomahnaaGreatDoor.Am
open Go

structure Row where
  cells : List Value
  elem : TypeId
  sz : Nat
/-- rows by their names, and the next name. -/
structure Mp where
  t : Tr (List (Value × Value)) 17
structure St where
  h : Tr Row 17
  m : Mp
  c : Nat
def St.gm (s : St) (n : Nat) : Option (List (Value × Value)) := Tr.get 17 s.m.t n
def St.get (s : St) (n : Nat) : Option Row := Tr.get 17 s.h n
/-- what an operation asks of the program. -/
structure Env where
  und : TypeId → Option TypeDesc
  size : TypeId → Option Nat
  zero : TypeId → Option (List Value)
  zv : TypeId → Option Value
  sk : TypeId → Option (List TypeDesc)
  fn : FuncId → Option Func
  ext : FuncId → Option (List Value → St → (Value → St → Bool) → Bool)
  xt : FuncId → Option (List Value → Option Value)
  lies : TypeId → Nat → Nat → TypeId → Bool

abbrev junk : Value := .chan none
def at? : List Value → Nat → Option Value
  | [], _ => none
  | v :: r, n => match n with | 0 => some v | k + 1 => at? r k
def atD : List Value → Nat → Value
  | [], _ => undef
  | v :: r, n => match n with | 0 => v | k + 1 => atD r k
def plain1 : Value → Bool
  | .int _ _ => true
  | .string _ => true
  | .bool _ => true
  | .pointer none => true
  | .slice none 0 0 => true
  | .map none => true
  | .nilFunc => true
  | .nilIface => true
  | _ => false
def constV : Value → Value
  | .agg cs => cond (cs.toList.all plain1) (.agg cs) junk
  | v => cond (plain1 v) v junk
def opv (t : List Value) : Operand → Value
  | .tmp k => atD t k
  | .const v => constV v
  | .global _ => junk
  | .func f => .func (.func f) #[] #[]
/-- the cells of a value. -/
def cellsO : Value → Option (List Value)
  | .agg cs => some cs.toList
  | .tuple _ => none
  | .chan _ => none
  | v => some [v]

def isAggD : TypeDesc → Bool
  | .struct _ => true
  | .array _ _ => true
  | _ => false
def kindEq (a b : IntKind) : Bool := Nat.beq a.ctorIdx b.ctorIdx
def wrapF (k : IntKind) (n : Int) : Int :=
  match k with
  | .i64 => match n with
    | .ofNat m => cond (Nat.blt m 9223372036854775808) n (k.wrap n)
    | .negSucc m => cond (Nat.blt m 9223372036854775808) n (k.wrap n)
  | .u8 => match n with
    | .ofNat m => cond (Nat.blt m 256) n (k.wrap n)
    | .negSucc _ => k.wrap n
  | _ => k.wrap n
def bytesEq : List UInt8 → List UInt8 → Bool
  | [], [] => true
  | a :: x, b :: y => cond (Nat.beq a.toNat b.toNat) (bytesEq x y) false
  | _, _ => false
def intEq : Int → Int → Bool
  | .ofNat a, .ofNat b => Nat.beq a b
  | .negSucc a, .negSucc b => Nat.beq a b
  | _, _ => false
def intLt : Int → Int → Bool
  | .ofNat a, .ofNat b => Nat.blt a b
  | .negSucc a, .negSucc b => Nat.blt b a
  | .negSucc _, .ofNat _ => true
  | .ofNat _, .negSucc _ => false
def binI (op : BinOp) (k : IntKind) (a b : Int) : Option Value :=
  match op with
  | .add => some (.int k (wrapF k (a + b)))
  | .sub => some (.int k (wrapF k (a - b)))
  | .mul => some (.int k (wrapF k (a * b)))
  | .quo => cond (intEq b 0) none (some (.int k (wrapF k (a.tdiv b))))
  | .rem => cond (intEq b 0) none (some (.int k (a.tmod b)))
  | .eql => some (.bool (intEq a b))
  | .neq => some (.bool (!intEq a b))
  | .lss => some (.bool (intLt a b))
  | .leq => some (.bool (!intLt b a))
  | .gtr => some (.bool (intLt b a))
  | .geq => some (.bool (!intLt a b))
  | .and => some (.int k (k.wrap (BitVec.ofInt k.bits a &&& BitVec.ofInt k.bits b).toNat))
  | .or => some (.int k (k.wrap (BitVec.ofInt k.bits a ||| BitVec.ofInt k.bits b).toNat))
  | .xor => some (.int k (k.wrap (BitVec.ofInt k.bits a ^^^ BitVec.ofInt k.bits b).toNat))
  | _ => none
def isSh : BinOp → Bool
  | .shl => true
  | .shr => true
  | _ => false
/-- a shift, whatever the second kind. -/
def shV (op : BinOp) (k : IntKind) (a : Int) : Int → Option Value
  | .ofNat n => match op with
    | .shl => some (.int k (k.wrap (a * 2 ^ (min n k.bits))))
    | .shr => some (.int k (a.fdiv (2 ^ (min n k.bits))))
    | _ => none
  | .negSucc _ => none
def binS (op : BinOp) (a b : List UInt8) : Option Value :=
  match op with
  | .add => cond (Nat.blt (a.length + b.length) 4611686018427387904) (some (.string ⟨⟨a ++ b⟩⟩)) none
  | .eql => some (.bool (bytesEq a b))
  | .neq => some (.bool (!bytesEq a b))
  | .lss => some (.bool (Op.bytesLess a b))
  | .leq => some (.bool (Op.bytesLess a b || bytesEq a b))
  | .gtr => some (.bool (!(Op.bytesLess a b || bytesEq a b)))
  | .geq => some (.bool (!Op.bytesLess a b))
  | _ => none
/-- are two values the same, of that type? -/
def eqV (c : Bool) : Option TypeDesc → Value → Value → Option Bool
  | some .bool, .bool a, .bool b => some (a == b)
  | some (.pointer _), .pointer none, .pointer b => some b.isNone
  | some (.pointer _), .pointer (some _), .pointer none => some false
  | some (.interface _), .nilIface, .nilIface => cond c (some true) none
  | some (.interface _), .nilIface, .iface _ _ => some false
  | some (.interface _), .iface _ _, .nilIface => some false
  | some (.slice _), .slice none _ _, .slice b _ _ => some b.isNone
  | some (.slice _), .slice (some _) _ _, .slice none _ _ => some false
  | some (.map _ _), .map none, .map b => some b.isNone
  | some (.map _ _), .map (some _), .map none => some false
  | some (.func _ _ _), .nilFunc, .nilFunc => some true
  | some (.func _ _ _), .nilFunc, .func _ _ _ => some false
  | some (.func _ _ _), .func _ _ _, .nilFunc => some false
  | _, _, _ => none
def eqB (op : BinOp) : Option Bool → Option Value
  | some b => match op with
    | .eql => some (.bool b)
    | .neq => some (.bool (!b))
    | _ => none
  | none => none
def isC : Operand → Bool
  | .const _ => true
  | _ => false
def keyEq1 : Value → Value → Option Bool
  | .int k a, .int k' b => cond (kindEq k k') (some (intEq a b)) none
  | .string a, .string b => some (bytesEq a.data.toList b.data.toList)
  | .bool a, .bool b => some (a == b)
  | _, _ => none
def keyEqL : List Value → List Value → Option Bool
  | [], [] => some true
  | a :: x, b :: y => match keyEq1 a b with
    | some true => keyEqL x y
    | some false => some false
    | none => none
  | _, _ => none
def keyEq : Value → Value → Option Bool
  | .agg x, y => match y with
    | .agg y => keyEqL x.toList y.toList
    | _ => none
  | x, y => keyEq1 x y
def keyFits : TypeDesc → Value → Bool
  | .int _, .int _ _ => true
  | .string, .string _ => true
  | .bool, .bool _ => true
  | _, _ => false
def fitL : List TypeDesc → List Value → Bool
  | [], [] => true
  | d :: ds, x :: xs => cond (keyFits d x) (fitL ds xs) false
  | _, _ => false
def fitO (xs : List Value) : Option (List TypeDesc) → Bool
  | some ds => fitL ds xs
  | none => false
def fit1 (v : Value) : Option TypeDesc → Bool
  | some d => keyFits d v
  | none => false
def keyFit (E : Env) (kt : TypeId) : Value → Bool
  | .agg xs => fitO xs.toList (E.sk kt)
  | v => fit1 v (E.und kt)
/-- two pointers that are one. -/
def ptrV (E : Env) (op : BinOp) (d : Option TypeDesc) (c : Bool) (a : Addr) : Value → Option Value
  | .pointer (some b) => match d with
    | some (.pointer te) => match E.size te with
      | some _ => match op with
        | .neq => cond (Nat.beq a.block b.block && Nat.beq a.off b.off) (some (.bool false)) none
        | _ => none
      | none => none
    | _ => none
  | y => eqB op (eqV c d (.pointer (some a)) y)
def binV (E : Env) (op : BinOp) (ty : TypeId) (c : Bool) : Value → Value → Option Value
  | .int k a, y => match y with
    | .int k' b => cond (isSh op) (shV op k a b) (cond (kindEq k k') (binI op k a b) none)
    | _ => none
  | .string a, y => match y with
    | .string b => binS op a.data.toList b.data.toList
    | _ => none
  | .agg a, y => match y with
    | .agg b => cond (fitO a.toList (E.sk ty)) (eqB op (keyEqL a.toList b.toList)) none
    | _ => none
  | .pointer (some a), y => ptrV E op (E.und ty) c a y
  | x, y => eqB op (eqV c (E.und ty) x y)

def takeN : List Value → Nat → List Value
  | [], _ => []
  | v :: r, n => match n with | 0 => [] | k + 1 => v :: takeN r k
def dropN : List Value → Nat → List Value
  | [], _ => []
  | v :: r, n => match n with | 0 => v :: r | k + 1 => dropN r k
def putN : List Value → Nat → List Value → List Value
  | l, 0, [] => l
  | l, 0, v :: r => match l with | [] => [] | _ :: l => v :: putN l 0 r
  | l, n + 1, vs => match l with | [] => [] | u :: l => u :: putN l n vs
/-- a part of a row of cells, of that type. -/
def Env.part (E : Env) (t : TypeId) (cs : List Value) (off : Nat) : Option Value :=
  match E.und t with
  | some d => cond (isAggD d) (match E.size t with
      | some n => cond (Nat.ble (off + n) cs.length) (some (.agg ⟨takeN (dropN cs off) n⟩)) none
      | none => none) (at? cs off)
  | none => none
def reps (z : List Value) : Nat → List Value
  | 0 => []
  | n + 1 => z ++ reps z n
def fillL (E : Env) (place : Nat → Option (Nat × Nat)) (t : List Value) : List (Nat × Operand) → List Value → Option (List Value)
  | [], cs => some cs
  | (i, x) :: r, cs => match place i with
    | none => none
    | some p => match cellsO (opv t x) with
      | none => none
      | some vs => cond (Nat.beq vs.length p.2 && Nat.ble (p.1 + vs.length) cs.length) (fillL E place t r (putN cs p.1 vs)) none
def fieldPl (E : Env) (fs : List Field) (k : Nat) : Option (Nat × Nat) :=
  match fs[k]? with
  | some f => (E.size f.type).map (f.offset, ·)
  | none => none
def Env.build (E : Env) (t : TypeId) (ps : List (Nat × Operand)) (tm : List Value) : Option Value :=
  match E.zero t with
  | none => none
  | some z => match E.und t with
    | some (.struct fs) => (fillL E (fieldPl E fs.toList) tm ps z).map fun cs => .agg ⟨cs⟩
    | some (.array _ e) => match E.size e with
      | some n => (fillL E (fun j => some (j * n, n)) tm ps z).map fun cs => .agg ⟨cs⟩
      | none => none
    | _ => none
def natOf : Value → Option Nat
  | .int _ (.ofNat n) => some n
  | _ => none
def natOr (t : List Value) (d : Nat) : Option Operand → Option Nat
  | none => some d
  | some x => natOf (opv t x)

/- what is handed on is worked out first. -/
abbrev K2 := Value → St → Bool
abbrev KT := List Value → St → Bool
abbrev CallK := FuncId → List Value → St → K2 → Bool
def forceN (k : Nat → Bool) : Nat → Bool
  | 0 => k 0
  | n + 1 => k (Nat.succ n)
def forceI (k : Int → Bool) : Int → Bool
  | .ofNat n => forceN (fun n => k (.ofNat n)) n
  | .negSucc n => forceN (fun n => k (.negSucc n)) n
def forceB (k : Bool → Bool) : Bool → Bool
  | true => k true
  | false => k false
def forceL {α : Type} : List α → (List α → Bool) → Bool
  | [], k => k []
  | a :: r, k => forceL r fun r => k (a :: r)
def forceS (k : ByteArray → Bool) (s : ByteArray) : Bool := forceL s.data.toList fun l => k ⟨⟨l⟩⟩
def forceA (k : Option Addr → Bool) : Option Addr → Bool
  | none => k none
  | some a => forceN (fun b => forceN (fun o => k (some ⟨b, o, a.spot⟩)) a.off) a.block
def forceV (k : Value → Bool) : Value → Bool
  | .int kd n => forceI (fun n => k (.int kd n)) n
  | .bool b => forceB (fun b => k (.bool b)) b
  | .string s => forceS (fun s => k (.string s)) s
  | .pointer a => forceA (fun a => k (.pointer a)) a
  | .slice a n c => forceA (fun a => forceN (fun n => forceN (fun c => k (.slice a n c)) c) n) a
  | v => k v
def setK : List Value → Nat → Value → (List Value → Bool) → Bool
  | [], _, _, k => k []
  | u :: r, n, v, k => match n with
    | 0 => k (v :: r)
    | n + 1 => setK r n v fun r => k (u :: r)
def putK (t : List Value) (d : Option Tmp) (v : Value) (k : List Value → Bool) : Bool :=
  match d with
  | none => k t
  | some n => forceV (fun v => setK t n v k) v
def putRowK (s : St) (n : Nat) (r : Option Row) (k : St → Bool) : Bool := Tr.setK 17 s.h n r fun h => k ⟨h, s.m, s.c⟩
/-- a new row. -/
def newK (s : St) (cs : List Value) (ty : TypeId) (sz : Nat) (k : Nat → St → Bool) : Bool :=
  forceL cs fun cs => Tr.setK 17 s.h s.c (some ⟨cs, ty, sz⟩) fun h => forceN (fun c => k s.c ⟨h, s.m, c⟩) (s.c + 1)
def nPK (k : K2) (s : St) (ty : TypeId) : Option (List Value) → Bool
  | some cs => newK s cs ty 0 fun n s => k (.pointer (some ⟨n, 0, none⟩)) s
  | none => false
def nSK (k : K2) (s : St) (e : TypeId) (sz len c : Nat) : Option (List Value) → Bool
  | some cs => newK s cs e sz fun n s => k (.slice (some ⟨n, 0, none⟩) len c) s
  | none => false
def vK (k : K2) (s : St) : Option Value → Bool
  | some v => k v s
  | none => false
def opPick (t : List Value) (a b : Operand) : Value → Option Value
  | .bool true => some (opv t a)
  | .bool false => some (opv t b)
  | _ => none
def opUn (op : UnOp) : Value → Option Value
  | .bool b => match op with | .not => some (.bool !b) | _ => none
  | .int k n => match op with | .neg => some (.int k (wrapF k (0 - n))) | _ => none
  | _ => none
def opLoad (E : Env) (s : St) (ty : TypeId) : Value → Option Value
  | .pointer (some a) => match s.get a.block with
    | some r => E.part ty r.cells a.off
    | none => none
  | _ => none
def storeK3 (s : St) (b : Nat) (e : TypeId) (sz : Nat) (k : K2) (cs : List Value) : Bool := forceL cs fun cs => putRowK s b (some ⟨cs, e, sz⟩) fun s => k undef s
def storeK2 (s : St) (a : Addr) (r : Row) (k : K2) (n : Option Nat) : Option (List Value) → Bool
  | some vs => match n with
    | some n => cond (Nat.beq vs.length n && Nat.ble (a.off + n) r.cells.length) (storeK3 s a.block r.elem r.sz k (putN r.cells a.off vs)) false
    | none => false
  | none => false
def opStoreK (E : Env) (s : St) (ty : TypeId) (v : Value) (k : K2) : Value → Bool
  | .pointer (some a) => match s.get a.block with
    | some r => storeK2 s a r k (E.size ty) (cellsO v)
    | none => false
  | _ => false
def opFA2 (E : Env) (a : Addr) : Option Field → Option Value
  | some f => match E.size f.type with
    | some n => cond (Nat.beq n 0) none (some (.pointer (some ⟨a.block, a.off + f.offset, none⟩)))
    | none => none
  | none => none
def opFA1 (E : Env) (a : Addr) (f : Nat) : Option TypeDesc → Option Value
  | some (.struct fs) => opFA2 E a fs.toList[f]?
  | _ => none
def opFieldAddr (E : Env) (ty : TypeId) (f : Nat) : Value → Option Value
  | .pointer (some a) => opFA1 E a f (E.und ty)
  | _ => none
def opNilCheck : Value → Option Value
  | .pointer (some a) => some (.pointer (some a))
  | .func (.func f) x y => some (.func (.func f) x y)
  | .iface t v => some (.iface t v)
  | _ => none
def opIA3 (a : Addr) (k len : Nat) : Option Nat → Option Value
  | some n => cond (Nat.blt k len) (some (.pointer (some ⟨a.block, a.off + k * n, none⟩))) none
  | none => none
def opIA2 (E : Env) (x : Value) (k : Nat) : Option TypeDesc → Option Value
  | some (.slice e) => match x with
    | .slice (some a) len _ => opIA3 a k len (E.size e)
    | _ => none
  | some (.array len e) => match x with
    | .pointer (some a) => opIA3 a k len (E.size e)
    | _ => none
  | _ => none
def opIA1 (E : Env) (ty : TypeId) (x : Value) : Option Nat → Option Value
  | some k => opIA2 E x k (E.und ty)
  | none => none
def byteV : Option UInt8 → Option Value
  | some c => some (.int .u8 (.ofNat c.toNat))
  | none => none
def opIx2 (x : Value) (k : Nat) : Option TypeDesc → Option Value
  | some .string => match x with
    | .string b => byteV b.data.toList[k]?
    | _ => none
  | _ => none
def opIx1 (E : Env) (ty : TypeId) (x : Value) : Option Nat → Option Value
  | some k => opIx2 x k (E.und ty)
  | none => none
def opBS2 (E : Env) (t : List Value) (len n : Nat) (ps : List (Nat × Operand)) (z : List Value) : Option (List Value) :=
  cond (Nat.ble (len * n) 100000 && Nat.blt 0 n) (fillL E (fun k => some (k * n, n)) t ps (reps z len)) none
def opBSK2 (E : Env) (s : St) (t : List Value) (len : Nat) (ps : List (Nat × Operand)) (k : K2) (e : TypeId) : Option (List Value) → Bool
  | some z => nSK k s e z.length len (len + 1) (opBS2 E t len z.length ps z)
  | none => false
def opBSK (E : Env) (s : St) (t : List Value) (len : Nat) (ps : List (Nat × Operand)) (k : K2) : Option TypeDesc → Bool
  | some (.slice e) => opBSK2 E s t len ps k e (E.zero e)
  | _ => false
def opMSK3 (s : St) (e : TypeId) (z : List Value) (l c : Nat) (k : K2) : Bool :=
  cond (Nat.ble l c && (Nat.ble (c * z.length) 100000 && Nat.blt 0 z.length)) (nSK k s e z.length l (c + 1) (some (reps z l))) false
def opMSK2 (s : St) (e : TypeId) (k : K2) (l c : Option Nat) : Option (List Value) → Bool
  | some z => match l with
    | some l => match c with
      | some c => opMSK3 s e z l c k
      | none => false
    | none => false
  | none => false
def opMSK (E : Env) (s : St) (x y : Value) (k : K2) : Option TypeDesc → Bool
  | some (.slice e) => opMSK2 s e k (natOf x) (natOf y) (E.zero e)
  | _ => false
def opF2 (E : Env) (cs : List Value) : Option Field → Option Value
  | some f => E.part f.type cs f.offset
  | none => none
def opF1 (E : Env) (f : Nat) (x : Value) : Option TypeDesc → Option Value
  | some (.struct fs) => match x with
    | .agg cs => opF2 E cs.toList fs.toList[f]?
    | _ => none
  | _ => none
def opEx (i : Nat) : Value → Option Value
  | .tuple vs => at? vs.toList i
  | _ => none
def opSl3 (a : Option Addr) (l h len : Nat) : Option Nat → Option Value
  | some n => cond (Nat.ble h len && Nat.ble l h) (match a with
      | none => some (.slice none 0 0)
      | some a => some (.slice (some ⟨a.block, a.off + l * n, none⟩) (h - l) 0)) none
  | none => none
def opSlS (b : List UInt8) (l h : Nat) : Option Value :=
  cond (Nat.ble h b.length && Nat.ble l h) (some (.string ⟨⟨(b.take h).drop l⟩⟩)) none
def opSl2 (E : Env) (x : Value) (t : List Value) (lo hi : Option Operand) : Option TypeDesc → Option Value
  | some .string => match x with
    | .string b => match natOr t 0 lo with
      | some l => match natOr t b.data.toList.length hi with
        | some h => opSlS b.data.toList l h
        | none => none
      | none => none
    | _ => none
  | some (.slice e) => match x with
    | .slice a len _ => match natOr t 0 lo with
      | some l => match natOr t len hi with
        | some h => opSl3 a l h len (E.size e)
        | none => none
      | none => none
    | _ => none
  | _ => none
def opSlM2 (a : Option Addr) (l h c len : Nat) : Option Nat → Option Value
  | some n => cond (Nat.ble c len && (Nat.ble h c && Nat.ble l h)) (match a with
      | none => some (.slice none 0 0)
      | some a => some (.slice (some ⟨a.block, a.off + l * n, none⟩) (h - l) (c - l + 1))) none
  | none => none
def opSlM (E : Env) (x : Value) (l h c : Option Nat) : Option TypeDesc → Option Value
  | some (.slice e) => match x with
    | .slice a len _ => match l with
      | some l => match h with
        | some h => match c with
          | some c => opSlM2 a l h c len (E.size e)
          | none => none
        | none => none
      | none => none
    | _ => none
  | _ => none
def opSlice (E : Env) (t : List Value) (ty : TypeId) (x : Operand) (lo hi : Option Operand) : Option Operand → Option Value
  | none => opSl2 E (opv t x) t lo hi (E.und ty)
  | some m => match hi with
    | some hi => opSlM E (opv t x) (natOr t 0 lo) (natOf (opv t hi)) (natOf (opv t m)) (E.und ty)
    | none => none
def opMI (ty : TypeId) (v : Value) : Option TypeDesc → Option Value
  | some (.interface _) => none
  | some _ => some (.iface ty v)
  | none => none
def opCv (x : Value) : Option TypeDesc → Option Value
  | some (.int k) => match x with
    | .int _ n => some (.int k (wrapF k n))
    | _ => none
  | some .string => match x with
    | .string b => some (.string b)
    | _ => none
  | _ => none
def opCv0 (v : Option Value) : Option TypeDesc → Option Value
  | some _ => v
  | none => none
/- pointers to anything and back. -/
def toUn2 (a : Addr) : Option Row → Option Value
  | some r => cond (Nat.blt a.off r.cells.length) (some (.pointer (some a))) none
  | none => none
def toUn1 (E : Env) (s : St) (t : TypeId) : Value → Option Value
  | .pointer (some a) => match E.size t with
    | some n => cond (Nat.beq n 0) none (toUn2 a (s.get a.block))
    | none => none
  | _ => none
def ofUn2 (E : Env) (a : Addr) (u : TypeId) : Option Row → Option Value
  | some r => cond (Nat.beq r.sz 0 && E.lies r.elem r.cells.length a.off u) (some (.pointer (some a))) none
  | none => none
def ofUn1 (E : Env) (s : St) (u : TypeId) : Value → Option Value
  | .pointer (some a) => match E.size u with
    | some _ => ofUn2 E a u (s.get a.block)
    | none => none
  | _ => none
def toUn (E : Env) (s : St) (x : Value) : Option TypeDesc → Option Value
  | some (.pointer t) => toUn1 E s t x
  | _ => none
def ofUn (E : Env) (s : St) (x : Value) (u : TypeId) : Option TypeDesc → Option Value
  | some .unsafePointer => ofUn1 E s u x
  | _ => none
/- a string of the bytes of a slice. -/
def rowPart (s : St) (k : Nat) : Option Addr → Option (List Value)
  | none => cond (Nat.beq k 0) (some []) none
  | some a => match s.get a.block with
    | some r => cond (Nat.ble (a.off + k) r.cells.length) (some (takeN (dropN r.cells a.off) k)) none
    | none => none
def unByte : Value → Option UInt8
  | .int .u8 (.ofNat n) => cond (Nat.blt n 256) (some (UInt8.ofNat n)) none
  | _ => none
def unBytes : List Value → Option (List UInt8)
  | [] => some []
  | v :: r => match unByte v with
    | some b => match unBytes r with
      | some l => some (b :: l)
      | none => none
    | none => none
def strB2 : Option (List UInt8) → Option Value
  | some l => some (.string ⟨⟨l⟩⟩)
  | none => none
def strB1 : Option (List Value) → Option Value
  | some l => strB2 (unBytes l)
  | none => none
def strB (s : St) : Value → Option Value
  | .slice none _ _ => some (.string ⟨⟨[]⟩⟩)
  | .slice (some a) n _ => cond (Nat.beq n 0) (some (.string ⟨⟨[]⟩⟩)) (strB1 (rowPart s n (some a)))
  | _ => none
def strE (s : St) (x : Value) : Option TypeDesc → Option Value
  | some (.int .u8) => strB s x
  | _ => none
def cvStr (E : Env) (s : St) (x : Value) : Option TypeDesc → Option Value
  | some (.slice e) => strE s x (E.und e)
  | d => opCv0 (opCv x (some .string)) d
def opCv1 (E : Env) (s : St) (x : Value) (src : Option TypeDesc) : Option TypeDesc → Option Value
  | some .string => cvStr E s x src
  | some .unsafePointer => toUn E s x src
  | some (.pointer u) => ofUn E s x u src
  | d => opCv0 (opCv x d) src
def entries (s : St) : Value → Option (List (Value × Value))
  | .map none => some []
  | .map (some n) => s.gm n
  | _ => none
/- an iterator over a map, kept as a list whose first key is none: the map; how many entries it had, which one is looked at; which are left. -/
def itLeft (left : List Nat) : List (Value × Value) := left.map fun i => (.int .i64 (.ofNat i), junk)
def itList (m : Value) (n : Nat) (cur : Value) (left : List Nat) : List (Value × Value) := (junk, m) :: (.int .i64 (.ofNat n), cur) :: itLeft left
def isIt : List (Value × Value) → Bool
  | (.chan none, _) :: _ => true
  | _ => false
def unLeft : List (Value × Value) → Option (List Nat)
  | [] => some []
  | p :: r => match p with
    | (.int .i64 (.ofNat i), .chan none) => match unLeft r with
      | some l => some (i :: l)
      | none => none
    | _ => none
def dropIt (i : Nat) : List Nat → List Nat
  | [] => []
  | j :: l => cond (Nat.beq i j) (dropIt i l) (j :: dropIt i l)
def upTo : Nat → List Nat → List Nat
  | 0, l => l
  | n + 1, l => upTo n (n :: l)
def nthE : List (Value × Value) → Nat → Option (Value × Value)
  | [], _ => none
  | p :: r, n => match n with | 0 => some p | k + 1 => nthE r k
def opLenM : Option (List (Value × Value)) → Option Value
  | some es => cond (isIt es) none (some (.int .i64 (.ofNat es.length)))
  | none => none
def opLen (s : St) (x : Value) : Option TypeDesc → Option Value
  | some .string => match x with
    | .string b => some (.int .i64 (.ofNat b.data.toList.length))
    | _ => none
  | some (.slice _) => match x with
    | .slice _ n _ => some (.int .i64 (.ofNat n))
    | _ => none
  | some (.map _ _) => opLenM (entries s x)
  | _ => none
def catO (x : List Value) : Option (List Value) → Option (List Value)
  | some y => some (x ++ y)
  | none => none
/-- append: behind a slice without room, or behind a part of a row from its beginning on. -/
def opApK4 (s : St) (e : TypeId) (n m c size : Nat) (base : Option Addr) (k : K2) (new : Option (List Value)) : Bool :=
  match base with
  | none => nSK k s e size (n + m) 0 new
  | some a => cond (Nat.beq c (n + 1))
    (match rowPart s (n * size) (some a) with
      | some old => nSK k s e size (n + m) 0 (catO old new)
      | none => false)
    (match s.get a.block with
      | some r => cond (Nat.beq a.off 0 && (Nat.ble (n * size) r.cells.length && (Nat.beq r.sz size && Nat.beq r.elem e))) (putRowK s a.block none fun s => nSK k s e size (n + m) 0 (catO (takeN r.cells (n * size)) new)) false
      | none => false)
def opApK3 (s : St) (e : TypeId) (x y : Value) (size : Nat) (k : K2) : Bool :=
  match x with
  | .slice base n c => match y with
    | .slice b2 m _ => cond (Nat.beq m 0) (k (.slice base n c) s) (cond (Nat.blt 1000000 (n + m)) false (opApK4 s e n m c size base k (rowPart s (m * size) b2)))
    | _ => false
  | _ => false
def opApK2 (E : Env) (s : St) (x y : Value) (k : K2) : Option TypeDesc → Bool
  | some (.slice e) => match E.zero e with
    | some z => cond (Nat.beq z.length 0) false (opApK3 s e x y z.length k)
    | none => false
  | _ => false
/- a string's bytes behind a slice. -/
def byteVs (b : List UInt8) : List Value := b.map fun c => .int .u8 (.ofNat c.toNat)
def opApS4 (s : St) (e : TypeId) (n : Nat) (b : List UInt8) (k : K2) : Option Addr → Bool
  | none => nSK k s e 1 (n + b.length) 0 (some (byteVs b))
  | some a => match s.get a.block with
    | some r => cond (Nat.beq a.off 0 && (Nat.ble n r.cells.length && (Nat.beq r.sz 1 && Nat.beq r.elem e))) (putRowK s a.block none fun s => nSK k s e 1 (n + b.length) 0 (some (takeN r.cells n ++ byteVs b))) false
    | none => false
def opApS3 (s : St) (e : TypeId) (x : Value) (b : List UInt8) (k : K2) : Bool := match x with
  | .slice base n c => cond (Nat.beq b.length 0) (k (.slice base n c) s) (cond (Nat.blt 1000000 (n + b.length)) false (opApS4 s e n b k base))
  | _ => false
def opApZ2 (s : St) (e : TypeId) (m : Nat) (k : K2) (z : List Value) : Bool := cond (Nat.blt 0 m && (Nat.ble m 100000 && Nat.blt 0 z.length)) (nSK k s e z.length m 0 (some (reps z m))) false
def opApZ1 (s : St) (e : TypeId) (m : Nat) (k : K2) : Option (List Value) → Bool
  | some z => opApZ2 s e m k z
  | none => false
def opApZ (E : Env) (s : St) (e : TypeId) (x y : Value) (k : K2) : Bool := match x with
  | .slice none _ _ => match y with
    | .int .i64 (.ofNat m) => opApZ1 s e m k (E.zero e)
    | _ => false
  | _ => false
def opApS2 (E : Env) (s : St) (e : TypeId) (x y : Value) (k : K2) : Option TypeDesc → Bool
  | some (.int .i64) => opApZ E s e x y k
  | some .string => match y with
    | .string b => match E.zero e with
      | some z => cond (Nat.beq z.length 1) (opApS3 s e x b.data.toList k) false
      | none => false
    | _ => false
  | _ => false
def opApS (E : Env) (s : St) (x y : Value) (k : K2) (d : Option TypeDesc) : Option TypeDesc → Bool
  | some (.slice e) => opApS2 E s e x y k d
  | _ => false
/- a string of a row's bytes. -/
def opUSD : Value → Option Value
  | .slice none _ _ => some (.pointer none)
  | .slice (some a) n _ => cond (Nat.blt 0 n) (some (.pointer (some ⟨a.block, a.off, none⟩))) none
  | _ => none
def uStr4 (s : St) (b : Nat) (k : K2) : Option (List UInt8) → Bool
  | some l => forceL l fun l => putRowK s b none fun s => k (.string ⟨⟨l⟩⟩) s
  | none => false
def uStr3 (s : St) (a : Addr) (n : Nat) (e : TypeId) (k : K2) : Option Row → Bool
  | some r => cond (Nat.beq a.off 0 && (Nat.beq r.elem e && Nat.ble n r.cells.length)) (uStr4 s a.block k (unBytes (takeN r.cells n))) false
  | none => false
def uStr2 (E : Env) (s : St) (x : Value) (n : Nat) (k : K2) : Option TypeDesc → Bool
  | some (.pointer e) => match x with
    | .pointer (some a) => match E.size e with
      | some z => cond (Nat.beq z 1 && Nat.ble n 1000000) (uStr3 s a n e k (s.get a.block)) false
      | none => false
    | _ => false
  | _ => false
def uStr1 (E : Env) (s : St) (x : Value) (k : K2) (d : Option TypeDesc) (n : Nat) : Bool := cond (Nat.beq n 0) (match x with
    | .pointer _ => k (.string ⟨⟨[]⟩⟩) s
    | _ => false) (uStr2 E s x n k d)
def opUStr (E : Env) (s : St) (x : Value) (k : K2) (d : Option TypeDesc) : Value → Bool
  | .int .i64 (.ofNat n) => uStr1 E s x k d n
  | _ => false
/- copy. -/
def opCp4 (s : St) (a : Addr) (r : Row) (cnt : Nat) (k : K2) : Option (List Value) → Bool
  | some vs => cond (Nat.ble (a.off + vs.length) r.cells.length) (forceL (putN r.cells a.off vs) fun cs => putRowK s a.block (some ⟨cs, r.elem, r.sz⟩) fun s => k (.int .i64 (.ofNat cnt)) s) false
  | none => false
def opCp3 (s : St) (a : Addr) (b : Option Addr) (cnt size : Nat) (k : K2) : Option Row → Bool
  | some r => opCp4 s a r cnt k (rowPart s (cnt * size) b)
  | none => false
def opCp2 (s : St) (x y : Value) (size : Nat) (k : K2) : Bool := match x with
  | .slice base n _ => match y with
    | .slice b m _ => cond (Nat.beq (Nat.min m n) 0) (k (.int .i64 (.ofNat 0)) s) (match base with
      | some a => opCp3 s a b (Nat.min m n) size k (s.get a.block)
      | none => false)
    | _ => false
  | _ => false
def opCp (E : Env) (s : St) (x y : Value) (k : K2) : Option TypeDesc → Bool
  | some (.slice e) => match E.size e with
    | some size => opCp2 s x y size k
    | none => false
  | _ => false
def capN : Nat → Option Value
  | 0 => none
  | c + 1 => some (.int .i64 (.ofNat c))
def opCap (x : Value) : Option TypeDesc → Option Value
  | some (.slice _) => match x with
    | .slice none _ _ => some (.int .i64 (.ofNat 0))
    | .slice (some _) _ c => capN c
    | _ => none
  | _ => none
def opMin (hi : Bool) : Value → Value → Option Value
  | .int k x, .int _ y => some (.int k (cond (cond hi (intLt x y) (intLt y x)) y x))
  | _, _ => none
def opBIK (E : Env) (s : St) (t : List Value) (args : List Operand) (ts : List TypeId) (k : K2) : Builtin → Bool
  | .len => match args, ts with
    | [x], [ty] => vK k s (opLen s (opv t x) (E.und ty))
    | _, _ => false
  | .append => match args, ts with
    | [x, y], [t1, t2] => cond (Nat.beq t1 t2) (opApK2 E s (opv t x) (opv t y) k (E.und t1)) (opApS E s (opv t x) (opv t y) k (E.und t2) (E.und t1))
    | _, _ => false
  | .min => match args with
    | [x, y] => vK k s (opMin false (opv t x) (opv t y))
    | _ => false
  | .max => match args with
    | [x, y] => vK k s (opMin true (opv t x) (opv t y))
    | _ => false
  | .copy => match args, ts with
    | [x, y], [t1, t2] => cond (Nat.beq t1 t2) (opCp E s (opv t x) (opv t y) k (E.und t1)) false
    | _, _ => false
  | .unsafeSliceData => match args with
    | [x] => vK k s (opUSD (opv t x))
    | _ => false
  | .cap => match args, ts with
    | [x], [ty] => vK k s (opCap (opv t x) (E.und ty))
    | _, _ => false
  | .unsafeString => match args, ts with
    | [x, y], [pt, _] => opUStr E s (opv t x) k (E.und pt) (opv t y)
    | _, _ => false
  | _ => false
def xtK (call : CallK) (s : St) (k : K2) (f : FuncId) (l : List Value) : Option (List Value → Option Value) → Bool
  | some g => vK k s (g l)
  | none => call f l s k
def opCvK (E : Env) (call : CallK) (s : St) (args : List Value) (k : K2) : Value → Bool
  | .func (.func f) first captured => forceL (first.toList ++ (args ++ captured.toList)) fun l => xtK call s k f l (E.xt f)
  | _ => false
def opCallK (E : Env) (call : CallK) (t : List Value) (s : St) (args : List Operand) (ts : List TypeId) (k : K2) : Callee → Bool
  | .value f => opCvK E call s (args.map (opv t)) k (opv t f)
  | .builtin b => opBIK E s t args ts k b
  | _ => false
/-- where a key stands. -/
def mfind (k : Value) : List (Value × Value) → Nat → Option (Option (Nat × Value))
  | [], _ => some none
  | e :: r, i => match keyEq k e.1 with
    | some true => some (some (i, e.2))
    | some false => mfind k r (i + 1)
    | none => none
def withOk (ok : Bool) (v : Value) (b : Bool) : Value := cond ok (.tuple ⟨[v, .bool b]⟩) v
def opLk3 (ok : Bool) (z : Option Value) : Option (Option (Nat × Value)) → Option Value
  | some (some p) => some (withOk ok p.2 true)
  | some none => match z with
    | some z => some (withOk ok z false)
    | none => none
  | none => none
def opLk2 (E : Env) (ok : Bool) (elem : TypeId) (k : Value) (kt : TypeId) : Option (List (Value × Value)) → Option Value
  | some es => cond (keyFit E kt k) (opLk3 ok (E.zv elem) (mfind k es 0)) none
  | none => none
def opLk (E : Env) (s : St) (x k : Value) (ok : Bool) : Option TypeDesc → Option Value
  | some (.map key elem) => opLk2 E ok elem k key (entries s x)
  | _ => none
def putMapK (s : St) (n : Nat) (k : K2) (es : List (Value × Value)) : Bool := forceL es fun es => Tr.setK 17 s.m.t n (some es) fun m => k undef ⟨s.h, ⟨m⟩, s.c⟩
def opMU3 (s : St) (n : Nat) (es : List (Value × Value)) (key v : Value) (k : K2) : Option (Option (Nat × Value)) → Bool
  | some (some p) => putMapK s n k (es.set p.1 (key, v))
  | some none => putMapK s n k (es ++ [(key, v)])
  | none => false
def opMU2 (E : Env) (s : St) (n : Nat) (key v : Value) (k : K2) (kt : TypeId) : Option (List (Value × Value)) → Bool
  | some es => cond (keyFit E kt key) (opMU3 s n es key v k (mfind key es 0)) false
  | none => false
def opMU1 (E : Env) (s : St) (key v : Value) (k : K2) (m : Value) : Option TypeDesc → Bool
  | some (.map kt _) => match m with
    | .map (some n) => opMU2 E s n key v k kt (s.gm n)
    | _ => false
  | _ => false
def newMapK (s : St) (k : K2) : Bool := Tr.setK 17 s.m.t s.c (some []) fun m => forceN (fun c => k (.map (some s.c)) ⟨s.h, ⟨m⟩, c⟩) (s.c + 1)
def opMK (s : St) (k : K2) : Option Operand → Bool
  | none => newMapK s k
  | some _ => false
def newItK (s : St) (k : K2) (l : List (Value × Value)) : Bool := forceL l fun l => Tr.setK 17 s.m.t s.c (some l) fun m => forceN (fun c => k (.pointer (some ⟨s.c, 0, none⟩)) ⟨s.h, ⟨m⟩, c⟩) (s.c + 1)
def opRg2 (s : St) (n : Nat) (k : K2) : Option (List (Value × Value)) → Bool
  | some es => cond (isIt es) false (newItK s k (itList (.map (some n)) es.length junk (upTo es.length [])))
  | none => false
def opRg1 (s : St) (k : K2) : Value → Bool
  | .map none => newItK s k (itList (.map none) 0 junk [])
  | .map (some n) => opRg2 s n k (s.gm n)
  | _ => false
def opRg (s : St) (x : Value) (k : K2) : Option TypeDesc → Bool
  | some (.map _ _) => opRg1 s k x
  | _ => false
def putItK (s : St) (n : Nat) (k : St → Bool) (es : List (Value × Value)) : Bool := forceL es fun es => Tr.setK 17 s.m.t n (some es) fun m => k ⟨s.h, ⟨m⟩, s.c⟩
def nx5 (s : St) (n m c i : Nat) (all : List Nat) (k : K2) : Option (Value × Value) → Bool
  | some kv => putItK s n (fun s => k (.tuple ⟨[.bool true, kv.1, kv.2]⟩) s) (itList (.map (some m)) c (.int .i64 (.ofNat i)) (dropIt i all))
  | none => false
def nx4 (s : St) (n m c : Nat) (es : List (Value × Value)) (all : List Nat) (k : K2) : List Nat → Bool
  | [] => true
  | i :: l => cond (nx5 s n m c i all k (nthE es i)) (nx4 s n m c es all k l) false
def nx3 (s : St) (n m c : Nat) (es : List (Value × Value)) (k : K2) : Option (List Nat) → Bool
  | some [] => k (.tuple ⟨[.bool false]⟩) s
  | some (i :: l) => nx4 s n m c es (i :: l) k (i :: l)
  | none => false
def nx2 (s : St) (n m c : Nat) (left : List (Value × Value)) (k : K2) : Option (List (Value × Value)) → Bool
  | some es => cond (Nat.beq es.length c && !isIt es) (nx3 s n m c es k (unLeft left)) false
  | none => false
def nx1 (s : St) (n : Nat) (k : K2) : Option (List (Value × Value)) → Bool
  | some ((.chan none, .map none) :: (.int .i64 (.ofNat _), _) :: _) => k (.tuple ⟨[.bool false]⟩) s
  | some ((.chan none, .map (some m)) :: (.int .i64 (.ofNat c), _) :: left) => nx2 s n m c left k (s.gm m)
  | _ => false
def opNx (s : St) (k : K2) : Value → Bool
  | .pointer (some a) => cond (Nat.beq a.off 0) (nx1 s a.block k (s.gm a.block)) false
  | _ => false
def en2 (s : St) (c i : Nat) (k : K2) : Option (List (Value × Value)) → Bool
  | some es => cond (Nat.beq es.length c && !isIt es) (match nthE es i with
    | some kv => k (.tuple ⟨[kv.1, kv.2]⟩) s
    | none => false) false
  | none => false
def en1 (s : St) (k : K2) : Option (List (Value × Value)) → Bool
  | some ((.chan none, .map (some m)) :: (.int .i64 (.ofNat c), .int .i64 (.ofNat i)) :: _) => en2 s c i k (s.gm m)
  | _ => false
def opEn (s : St) (k : K2) : Value → Bool
  | .pointer (some a) => cond (Nat.beq a.off 0) (en1 s k (s.gm a.block)) false
  | _ => false
def opMF (t : List Value) (fn : Fn) (first captured : Array Operand) : Option Value := some (.func fn ⟨first.toList.map (opv t)⟩ ⟨captured.toList.map (opv t)⟩)
/- what a new row is to be. -/
structure FlI where
  cs : List Value
  ty : TypeId
  sz : Nat
  vl : Option Addr → Value
def flP (ty : TypeId) : Option (List Value) → Option FlI
  | some cs => some ⟨cs, ty, 0, .pointer⟩
  | none => none
def flBS2 (e : TypeId) (len n : Nat) : Option (List Value) → Option FlI
  | some cs => some ⟨cs, e, n, fun ad => .slice ad len (len + 1)⟩
  | none => none
def flBS (E : Env) (t : List Value) (len : Nat) (ps : List (Nat × Operand)) (e : TypeId) : Option (List Value) → Option FlI
  | some z => flBS2 e len z.length (opBS2 E t len z.length ps z)
  | none => none
def flMS2 (z : List Value) (e : TypeId) (l c : Nat) : Option FlI := cond (Nat.ble l c && (Nat.ble (c * z.length) 100000 && Nat.blt 0 z.length)) (some ⟨reps z l, e, z.length, fun ad => .slice ad l (c + 1)⟩) none
def flMS (e : TypeId) (l c : Option Nat) : Option (List Value) → Option FlI
  | some z => match l with
    | some l => match c with
      | some c => flMS2 z e l c
      | none => none
    | none => none
  | none => none
def flInfo (E : Env) (t : List Value) : Op → Option FlI
  | .alloc ty => flP ty (E.zero ty)
  | .box ty x => flP ty (cellsO (opv t x))
  | .buildSlice ty len ps => match E.und ty with
    | some (.slice e) => flBS E t len ps.toList e (E.zero e)
    | _ => none
  | .makeSlice ty x y => match E.und ty with
    | some (.slice e) => flMS e (natOf (opv t x)) (natOf (opv t y)) (E.zero e)
    | _ => none
  | _ => none
def oneOpK (E : Env) (call : CallK) (t : List Value) (s : St) (k : K2) (o : Op) : Bool :=
  match o with
  | .move x => k (opv t x) s
  | .assign x => k (opv t x) s
  | .pick c a b => vK k s (opPick t a b (opv t c))
  | .binOp op ty x y _ => vK k s (binV E op ty (isC x || isC y) (opv t x) (opv t y))
  | .unOp op _ x => vK k s (opUn op (opv t x))
  | .load ty a => vK k s (opLoad E s ty (opv t a))
  | .store ty a v => opStoreK E s ty (opv t v) k (opv t a)
  | .fieldAddr ty x f => vK k s (opFieldAddr E ty f (opv t x))
  | .nilCheck x => vK k s (opNilCheck (opv t x))
  | .indexAddr ty x i => vK k s (opIA1 E ty (opv t x) (natOf (opv t i)))
  | .index ty x i => vK k s (opIx1 E ty (opv t x) (natOf (opv t i)))
  | .alloc ty => nPK k s ty (E.zero ty)
  | .box ty x => nPK k s ty (cellsO (opv t x))
  | .build ty ps => vK k s (E.build ty ps.toList t)
  | .buildSlice ty len ps => opBSK E s t len ps.toList k (E.und ty)
  | .field ty x f => vK k s (opF1 E f (opv t x) (E.und ty))
  | .extract x i => vK k s (opEx i (opv t x))
  | .slice ty x lo hi mx => vK k s (opSlice E t ty x lo hi mx)
  | .makeInterface ty x => vK k s (opMI ty (opv t x) (E.und ty))
  | .makeFunc fn first captured => vK k s (opMF t fn first captured)
  | .convert src dst x => vK k s (opCv1 E s (opv t x) (E.und src) (E.und dst))
  | .call c => opCallK E call t s c.args.toList c.argTypes.toList k c.callee
  | .lookup ty x i ok => vK k s (opLk E s (opv t x) (opv t i) ok (E.und ty))
  | .mapUpdate ty m x v => opMU1 E s (opv t x) (opv t v) k (opv t m) (E.und ty)
  | .makeMap _ r => opMK s k r
  | .makeSlice ty x y => opMSK E s (opv t x) (opv t y) k (E.und ty)
  | .range ty x => opRg s (opv t x) k (E.und ty)
  | .next x isS => cond isS false (opNx s k (opv t x))
  | .entry x => opEn s k (opv t x)
  | _ => false
def isWant (want : Bool) : Option Value → Bool
  | some (.bool b) => b == want
  | _ => false
def isBoolV : Option Value → Bool
  | some (.bool _) => true
  | some (.tuple _) => true
  | _ => false
def guardV (all : List Oper) (t : List Value) (j : Nat) : Option Value := ((all[j]?).bind (·.dst)).bind (at? t)
def evOpsK (E : Env) (call : CallK) (all : List Oper) (k : KT) : List Oper → KT
  | [], t, s => k t s
  | o :: r, t, s => match o.guard with
    | none => oneOpK E call t s (fun v s => putK t o.dst v fun t => evOpsK E call all k r t s) o.op
    | some g => cond (isBoolV (guardV all t g.1)) (cond (isWant g.2 (guardV all t g.1))
      (oneOpK E call t s (fun v s => putK t o.dst v fun t => evOpsK E call all k r t s) o.op)
      (putK t o.dst undef fun t => evOpsK E call all k r t s)) false
def loopK (body : KT → KT) : Nat → KT
  | 0, _, _ => false
  | n + 1, t, s => body (fun t s => loopK body n t s) t s
def exitK (id : Nat) (k : KT) (ke : Nat → KT) (i : Nat) : KT := cond (Nat.beq i id) k (ke i)
def condK (a b : Bool) : Value → Bool
  | .bool true => a
  | .bool false => b
  | _ => false
/-- a region whose order is drawn. -/
abbrev DrawK := Nat → Array Oper → KT → KT
def evCodeK (E : Env) (call : CallK) (draw : DrawK) (kr : KT) : Code → (Nat → KT) → KT → KT
  | .skip, _, k, t, s => k t s
  | .label _, _, k, t, s => k t s
  | .region id ops d, _, k, t, s => match d with
    | false => evOpsK E call ops.toList k ops.toList t s
    | true => draw id ops k t s
  | .seq a b, ke, k, t, s => evCodeK E call draw kr a ke (evCodeK E call draw kr b ke k) t s
  | .cond c a b, ke, k, t, s => condK (evCodeK E call draw kr a ke k t s) (evCodeK E call draw kr b ke k t s) (opv t c)
  | .block id b, ke, k, t, s => evCodeK E call draw kr b (exitK id k ke) k t s
  | .loop b, ke, _, t, s => loopK (evCodeK E call draw kr b ke) 100000 t s
  | .exit id, ke, _, t, s => ke id t s
  | .ret, _, _, t, s => kr t s
  | _, _, _, _, _ => false
def resL (E : Env) (t : List Value) (s : St) : List ResultVar → Option (List Value)
  | [] => some []
  | .tmp k :: r => match resL E t s r with
    | some l => some (atD t k :: l)
    | none => none
  | .cell a ty :: r => match opLoad E s ty (atD t a) with
    | some v => match resL E t s r with
      | some l => some (v :: l)
      | none => none
    | none => none
def resK (k : K2) (s : St) : Option (List Value) → Bool
  | some [v] => k v s
  | some l => forceL l fun l => k (.tuple ⟨l⟩) s
  | none => false
def bodyK (E : Env) (call : CallK) (draw : DrawK) (fn : Func) (args : List Value) (s : St) (k : K2) : Option Code → Bool
  | none => false
  | some c => forceL (args ++ List.replicate (fn.ntmps - args.length) undef) fun t =>
      evCodeK E call draw (fun t s => resK k s (resL E t s fn.results.toList)) c (fun _ _ _ => false) (fun t s => resK k s (resL E t s fn.results.toList)) t s
end Go.Proofs.YtllahinoomahnaaGreatDoor.Am
