import Derived.Test.YtcfekhcdadldmaaGreatDoorAmTr
import Derived.Test.YtcfekhcdadldmaaGreatDoorAmGl
import Derived.RowKit
import Derived.ChangeKeysEq
import Derived.ArgAppend
import Derived.Deep.AppendLies
import Derived.Laws.Concat
import Derived.Laws.Strings
import Derived.Laws.StructEq
import Derived.Lib.Builder
import Derived.LaidEql
import Derived.Laws.MakeOwn
namespace Go.Proofs.YtcfekhcdadldmaaGreatDoor.Am
open Go
structure Row where
  cells : List Value
  elem : TypeId
  sz : Nat
/-- rows by their names, and the next name. -/
structure Mp where
  t : Tr (List (Value × Value)) 17
  it : Bool
structure St where
  h : Tr Row 17
  m : Mp
  c : Nat
def St.gm (s : St) (n : Nat) : Option (List (Value × Value)) := Tr.get 17 s.m.t n
/-- what becomes of the maps, and whether there may be iterators. -/
def St.gi (s : St) (n : Nat) : Option (List (Value × Value)) × Bool := (s.gm n, s.m.it)
def St.get (s : St) (n : Nat) : Option Row := Tr.get 17 s.h n
def isRow : Option Row → Bool
  | some _ => true
  | none => false
/-- is there a row of that name? -/
def St.al (s : St) (n : Nat) : Bool := isRow (s.get n)
/-- what an operation asks of the program. -/
structure Env where
  und : TypeId → Option TypeDesc
  size : TypeId → Option Nat
  zero : TypeId → Option (List Value)
  zv : TypeId → Option Value
  sk : TypeId → Option (List TypeDesc)
  fn : FuncId → Option Func
  ext : FuncId → Option (List Value → St → (Value → St → Bool) → Bool)
  xt : FuncId → Option (List Value → Option Value)
  lies : TypeId → Nat → Nat → TypeId → Bool
  has : FuncId → Nat → List Value → Bool
  mo : TypeId → String → Option (FuncId × Nat)
abbrev junk : Value := .chan none
def at? : List Value → Nat → Option Value
  | [], _ => none
  | v :: r, n => match n with | 0 => some v | k + 1 => at? r k
def atD : List Value → Nat → Value
  | [], _ => undef
  | v :: r, n => match n with | 0 => v | k + 1 => atD r k
def plain1 : Value → Bool
  | .int _ _ => true
  | .string _ => true
  | .bool _ => true
  | .pointer none => true
  | .slice none 0 0 => true
  | .map none => true
  | .nilFunc => true
  | .nilIface => true
  | _ => false
def constV : Value → Value
  | .agg cs => cond (cs.toList.all plain1) (.agg cs) junk
  | v => cond (plain1 v) v junk
def opv (t : List Value) : Operand → Value
  | .tmp k => atD t k
  | .const v => constV v
  | .global g => .complex .f64 g 0
  | .func f => .func (.func f) #[] #[]
/-- the cells of a value. -/
def cellsO : Value → Option (List Value)
  | .agg cs => some cs.toList
  | .tuple _ => none
  | .chan _ => none
  | v => some [v]
def isAggD : TypeDesc → Bool
  | .struct _ => true
  | .array _ _ => true
  | _ => false
def kindEq (a b : IntKind) : Bool := Nat.beq a.ctorIdx b.ctorIdx
def wrapF (k : IntKind) (n : Int) : Int :=
  match k with
  | .i64 => match n with
    | .ofNat m => cond (Nat.blt m 9223372036854775808) n (k.wrap n)
    | .negSucc m => cond (Nat.blt m 9223372036854775808) n (k.wrap n)
  | .u8 => match n with
    | .ofNat m => cond (Nat.blt m 256) n (k.wrap n)
    | .negSucc _ => k.wrap n
  | _ => k.wrap n
/- a text that values may hold. -/
def okT (b : UInt8) : Bool := cond (Nat.beq b.toNat 10) true (cond (Nat.ble 32 b.toNat) (Nat.ble b.toNat 126) false)
def allT : List UInt8 → Bool
  | [] => true
  | b :: l => cond (okT b) (allT l) false
def textT (l : List UInt8) : Bool := cond (Nat.ble l.length 4096) (allT l) false
/- numbers and texts as natural numbers: what is not known of them is kept beside a name. -/
def codeI : Int → Nat
  | .ofNat m => 2 * m
  | .negSucc m => 2 * m + 1
def codeS : List UInt8 → Nat
  | [] => 0
  | b :: l => 256 * codeS l + b.toNat + 1
def bytesEq : List UInt8 → List UInt8 → Bool
  | [], [] => true
  | a :: x, b :: y => cond (Nat.beq a.toNat b.toNat) (bytesEq x y) false
  | _, _ => false
def intEq : Int → Int → Bool
  | .ofNat a, .ofNat b => Nat.beq a b
  | .negSucc a, .negSucc b => Nat.beq a b
  | _, _ => false
def intLt : Int → Int → Bool
  | .ofNat a, .ofNat b => Nat.blt a b
  | .negSucc a, .negSucc b => Nat.blt b a
  | .negSucc _, .ofNat _ => true
  | .ofNat _, .negSucc _ => false
def binI (op : BinOp) (k : IntKind) (a b : Int) : Option Value :=
  match op with
  | .add => some (.int k (wrapF k (a + b)))
  | .sub => some (.int k (wrapF k (a - b)))
  | .mul => some (.int k (wrapF k (a * b)))
  | .quo => cond (intEq b 0) none (some (.int k (wrapF k (a.tdiv b))))
  | .rem => cond (intEq b 0) none (some (.int k (a.tmod b)))
  | .eql => some (.bool (intEq a b))
  | .neq => some (.bool (!intEq a b))
  | .lss => some (.bool (intLt a b))
  | .leq => some (.bool (!intLt b a))
  | .gtr => some (.bool (intLt b a))
  | .geq => some (.bool (!intLt a b))
  | .and => some (.int k (k.wrap (BitVec.ofInt k.bits a &&& BitVec.ofInt k.bits b).toNat))
  | .or => some (.int k (k.wrap (BitVec.ofInt k.bits a ||| BitVec.ofInt k.bits b).toNat))
  | .xor => some (.int k (k.wrap (BitVec.ofInt k.bits a ^^^ BitVec.ofInt k.bits b).toNat))
  | _ => none
def isSh : BinOp → Bool
  | .shl => true
  | .shr => true
  | _ => false
/-- a shift, whatever the second kind. -/
def shV (op : BinOp) (k : IntKind) (a : Int) : Int → Option Value
  | .ofNat n => match op with
    | .shl => some (.int k (k.wrap (a * 2 ^ (min n k.bits))))
    | .shr => some (.int k (a.fdiv (2 ^ (min n k.bits))))
    | _ => none
  | .negSucc _ => none
def binS (op : BinOp) (a b : List UInt8) : Option Value :=
  match op with
  | .add => cond (Nat.blt (a.length + b.length) 4611686018427387904) (some (.string ⟨⟨a ++ b⟩⟩)) none
  | .eql => some (.bool (bytesEq a b))
  | .neq => some (.bool (!bytesEq a b))
  | .lss => some (.bool (Op.bytesLess a b))
  | .leq => some (.bool (Op.bytesLess a b || bytesEq a b))
  | .gtr => some (.bool (!(Op.bytesLess a b || bytesEq a b)))
  | .geq => some (.bool (!Op.bytesLess a b))
  | _ => none
/-- are two values the same, of that type? -/
def eqV (c : Bool) : Option TypeDesc → Value → Value → Option Bool
  | some .bool, .bool a, .bool b => some (a == b)
  | some (.pointer _), .pointer none, .pointer b => some b.isNone
  | some (.pointer _), .pointer (some _), .pointer none => some false
  | some (.interface _), .nilIface, .nilIface => cond c (some true) none
  | some (.interface _), .nilIface, .iface _ _ => some false
  | some (.interface _), .iface _ _, .nilIface => some false
  | some (.slice _), .slice none _ _, .slice b _ _ => some b.isNone
  | some (.slice _), .slice (some _) _ _, .slice none _ _ => some false
  | some (.map _ _), .map none, .map b => some b.isNone
  | some (.map _ _), .map (some _), .map none => some false
  | some (.func _ _ _), .nilFunc, .nilFunc => some true
  | some (.func _ _ _), .nilFunc, .func _ _ _ => some false
  | some (.func _ _ _), .func _ _ _, .nilFunc => some false
  | _, _, _ => none
def eqB (op : BinOp) : Option Bool → Option Value
  | some b => match op with
    | .eql => some (.bool b)
    | .neq => some (.bool (!b))
    | _ => none
  | none => none
def isC : Operand → Bool
  | .const _ => true
  | _ => false
/-- two pointers as keys: al says which names have rows. -/
def ptrEq (al : Nat → Bool) : Option Addr → Option Addr → Option Bool
  | none, b => some b.isNone
  | some _, none => some false
  | some a, some b => cond (Nat.beq a.block b.block) (some (Nat.beq a.off b.off)) (cond (al a.block && al b.block) (some false) none)
def keyEq1 (al : Nat → Bool) : Value → Value → Option Bool
  | .int k a, .int k' b => cond (kindEq k k') (some (intEq a b)) none
  | .string a, .string b => some (bytesEq a.data.toList b.data.toList)
  | .bool a, .bool b => some (a == b)
  | .pointer a, .pointer b => ptrEq al a b
  | _, _ => none
def lenQ : List Value → List Value → Option Bool
  | [], [] => some false
  | _ :: x, _ :: y => lenQ x y
  | _, _ => none
def keyEqL (al : Nat → Bool) : List Value → List Value → Option Bool
  | [], [] => some true
  | a :: x, b :: y => match keyEq1 al a b with
    | some true => keyEqL al x y
    | some false => lenQ x y
    | none => none
  | _, _ => none
def keyEq (al : Nat → Bool) : Value → Value → Option Bool
  | .agg x, y => match y with
    | .agg y => keyEqL al x.toList y.toList
    | _ => none
  | x, y => keyEq1 al x y
def keyFits : TypeDesc → Value → Bool
  | .int _, .int _ _ => true
  | .string, .string _ => true
  | .bool, .bool _ => true
  | .pointer _, .pointer _ => true
  | _, _ => false
def fitL : List TypeDesc → List Value → Bool
  | [], [] => true
  | d :: ds, x :: xs => cond (keyFits d x) (fitL ds xs) false
  | _, _ => false
def fitO (xs : List Value) : Option (List TypeDesc) → Bool
  | some ds => fitL ds xs
  | none => false
def fit1 (v : Value) : Option TypeDesc → Bool
  | some (.pointer _) => false
  | some d => keyFits d v
  | none => false
def keyFit (E : Env) (kt : TypeId) : Value → Bool
  | .agg xs => fitO xs.toList (E.sk kt)
  | v => fit1 v (E.und kt)
/-- two pointers that are one. -/
def ptrV (E : Env) (op : BinOp) (d : Option TypeDesc) (c : Bool) (a : Addr) : Value → Option Value
  | .pointer (some b) => match d with
    | some (.pointer te) => match E.size te with
      | some _ => match op with
        | .neq => cond (Nat.beq a.block b.block && Nat.beq a.off b.off) (some (.bool false)) none
        | _ => none
      | none => none
    | _ => none
  | y => eqB op (eqV c d (.pointer (some a)) y)
def binV (E : Env) (op : BinOp) (ty : TypeId) (c : Bool) : Value → Value → Option Value
  | .int k a, y => match y with
    | .int k' b => cond (isSh op) (shV op k a b) (cond (kindEq k k') (binI op k a b) none)
    | _ => none
  | .string a, y => match y with
    | .string b => binS op a.data.toList b.data.toList
    | _ => none
  | .agg a, y => match y with
    | .agg b => cond (fitO a.toList (E.sk ty)) (eqB op (keyEqL (fun _ => false) a.toList b.toList)) none
    | _ => none
  | .pointer (some a), y => ptrV E op (E.und ty) c a y
  | x, y => eqB op (eqV c (E.und ty) x y)
def takeN : List Value → Nat → List Value
  | [], _ => []
  | v :: r, n => match n with | 0 => [] | k + 1 => v :: takeN r k
def dropN : List Value → Nat → List Value
  | [], _ => []
  | v :: r, n => match n with | 0 => v :: r | k + 1 => dropN r k
def putN : List Value → Nat → List Value → List Value
  | l, 0, [] => l
  | l, 0, v :: r => match l with | [] => [] | _ :: l => v :: putN l 0 r
  | l, n + 1, vs => match l with | [] => [] | u :: l => u :: putN l n vs
/-- a part of a row of cells, of that type. -/
def Env.part (E : Env) (t : TypeId) (cs : List Value) (off : Nat) : Option Value :=
  match E.und t with
  | some d => cond (isAggD d) (match E.size t with
      | some n => cond (Nat.ble (off + n) cs.length) (some (.agg ⟨takeN (dropN cs off) n⟩)) none
      | none => none) (at? cs off)
  | none => none
def reps (z : List Value) : Nat → List Value
  | 0 => []
  | n + 1 => z ++ reps z n
def fillL (E : Env) (place : Nat → Option (Nat × Nat)) (t : List Value) : List (Nat × Operand) → List Value → Option (List Value)
  | [], cs => some cs
  | (i, x) :: r, cs => match place i with
    | none => none
    | some p => match cellsO (opv t x) with
      | none => none
      | some vs => cond (Nat.beq vs.length p.2 && Nat.ble (p.1 + vs.length) cs.length) (fillL E place t r (putN cs p.1 vs)) none
def fieldPl (E : Env) (fs : List Field) (k : Nat) : Option (Nat × Nat) :=
  match fs[k]? with
  | some f => (E.size f.type).map (f.offset, ·)
  | none => none
def Env.build (E : Env) (t : TypeId) (ps : List (Nat × Operand)) (tm : List Value) : Option Value :=
  match E.zero t with
  | none => none
  | some z => match E.und t with
    | some (.struct fs) => (fillL E (fieldPl E fs.toList) tm ps z).map fun cs => .agg ⟨cs⟩
    | some (.array _ e) => match E.size e with
      | some n => (fillL E (fun j => some (j * n, n)) tm ps z).map fun cs => .agg ⟨cs⟩
      | none => none
    | _ => none
def natOf : Value → Option Nat
  | .int _ (.ofNat n) => some n
  | _ => none
def natOr (t : List Value) (d : Nat) : Option Operand → Option Nat
  | none => some d
  | some x => natOf (opv t x)
/- what is handed on is worked out first. -/
abbrev K2 := Value → St → Bool
abbrev KT := List Value → St → Bool
abbrev CallK := FuncId → List Value → St → K2 → Bool
def forceN (k : Nat → Bool) : Nat → Bool
  | 0 => k 0
  | n + 1 => k (Nat.succ n)
def forceI (k : Int → Bool) : Int → Bool
  | .ofNat n => forceN (fun n => k (.ofNat n)) n
  | .negSucc n => forceN (fun n => k (.negSucc n)) n
def forceB (k : Bool → Bool) : Bool → Bool
  | true => k true
  | false => k false
def forceL {α : Type} : List α → (List α → Bool) → Bool
  | [], k => k []
  | a :: r, k => forceL r fun r => k (a :: r)
def forceS (k : ByteArray → Bool) (s : ByteArray) : Bool := forceL s.data.toList fun l => k ⟨⟨l⟩⟩
def forceA (k : Option Addr → Bool) : Option Addr → Bool
  | none => k none
  | some a => forceN (fun b => forceN (fun o => k (some ⟨b, o, a.spot⟩)) a.off) a.block
def forceV (k : Value → Bool) : Value → Bool
  | .int kd n => forceI (fun n => k (.int kd n)) n
  | .bool b => forceB (fun b => k (.bool b)) b
  | .string s => forceS (fun s => k (.string s)) s
  | .pointer a => forceA (fun a => k (.pointer a)) a
  | .slice a n c => forceA (fun a => forceN (fun n => forceN (fun c => k (.slice a n c)) c) n) a
  | v => k v
def setK : List Value → Nat → Value → (List Value → Bool) → Bool
  | [], _, _, k => k []
  | u :: r, n, v, k => match n with
    | 0 => k (v :: r)
    | n + 1 => setK r n v fun r => k (u :: r)
def putK (t : List Value) (d : Option Tmp) (v : Value) (k : List Value → Bool) : Bool :=
  match d with
  | none => k t
  | some n => forceV (fun v => setK t n v k) v
def putRowK (s : St) (n : Nat) (r : Option Row) (k : St → Bool) : Bool := Tr.setK 17 s.h n r fun h => k ⟨h, s.m, s.c⟩
/-- a new row. -/
def newK (s : St) (cs : List Value) (ty : TypeId) (sz : Nat) (k : Nat → St → Bool) : Bool :=
  forceL cs fun cs => Tr.setK 17 s.h s.c (some ⟨cs, ty, sz⟩) fun h => forceN (fun c => k s.c ⟨h, s.m, c⟩) (s.c + 1)
def nPK (k : K2) (s : St) (ty : TypeId) : Option (List Value) → Bool
  | some cs => newK s cs ty 0 fun n s => k (.pointer (some ⟨n, 0, none⟩)) s
  | none => false
def nSK (k : K2) (s : St) (e : TypeId) (sz len c : Nat) : Option (List Value) → Bool
  | some cs => newK s cs e sz fun n s => k (.slice (some ⟨n, 0, none⟩) len c) s
  | none => false
def vK (k : K2) (s : St) : Option Value → Bool
  | some v => k v s
  | none => false
def opPick (t : List Value) (a b : Operand) : Value → Option Value
  | .bool true => some (opv t a)
  | .bool false => some (opv t b)
  | _ => none
def opUn (op : UnOp) : Value → Option Value
  | .bool b => match op with | .not => some (.bool !b) | _ => none
  | .int k n => match op with
    | .neg => some (.int k (wrapF k (0 - n)))
    | .xor => binI .xor k (cond k.signed (-1) k.max) n
    | _ => none
  | _ => none
def opLoad0 (E : Env) (s : St) (ty : TypeId) : Value → Option Value
  | .pointer (some a) => match s.get a.block with
    | some r => E.part ty r.cells a.off
    | none => none
  | _ => none
/- a place of a table is kept as a number that Go has none of here. -/
def opLoadG (E : Env) (ty : TypeId) (o : Nat) : Option (List Value) → Option Value
  | some cs => E.part ty cs o
  | none => none
def opLoad (E : Env) (s : St) (ty : TypeId) : Value → Option Value
  | .complex _ g o => opLoadG E ty o (gtab g)
  | v => opLoad0 E s ty v
def storeK3 (s : St) (b : Nat) (e : TypeId) (sz : Nat) (k : K2) (cs : List Value) : Bool := forceL cs fun cs => putRowK s b (some ⟨cs, e, sz⟩) fun s => k undef s
def storeK2 (s : St) (a : Addr) (r : Row) (k : K2) (n : Option Nat) : Option (List Value) → Bool
  | some vs => match n with
    | some n => cond (Nat.beq vs.length n && Nat.ble (a.off + n) r.cells.length) (storeK3 s a.block r.elem r.sz k (putN r.cells a.off vs)) false
    | none => false
  | none => false
def opStoreK (E : Env) (s : St) (ty : TypeId) (v : Value) (k : K2) : Value → Bool
  | .pointer (some a) => match s.get a.block with
    | some r => storeK2 s a r k (E.size ty) (cellsO v)
    | none => false
  | _ => false
def opFA2 (E : Env) (a : Addr) : Option Field → Option Value
  | some f => match E.size f.type with
    | some n => cond (Nat.beq n 0) none (some (.pointer (some ⟨a.block, a.off + f.offset, none⟩)))
    | none => none
  | none => none
def opFA1 (E : Env) (a : Addr) (f : Nat) : Option TypeDesc → Option Value
  | some (.struct fs) => opFA2 E a fs.toList[f]?
  | _ => none
def opFieldAddr (E : Env) (ty : TypeId) (f : Nat) : Value → Option Value
  | .pointer (some a) => opFA1 E a f (E.und ty)
  | _ => none
def opNilCheck : Value → Option Value
  | .pointer (some a) => some (.pointer (some a))
  | .func (.func f) x y => some (.func (.func f) x y)
  | .func (.methodOf ty name) x y => some (.func (.methodOf ty name) x y)
  | .iface t v => some (.iface t v)
  | _ => none
def opIA3 (a : Addr) (k len : Nat) : Option Nat → Option Value
  | some n => cond (Nat.blt k len) (some (.pointer (some ⟨a.block, a.off + k * n, none⟩))) none
  | none => none
def opIG (g o k len : Nat) : Option Nat → Option Value
  | some n => cond (Nat.blt k len) (some (.complex .f64 g (o + k * n))) none
  | none => none
def opIA2 (E : Env) (x : Value) (k : Nat) : Option TypeDesc → Option Value
  | some (.slice e) => match x with
    | .slice (some a) len _ => opIA3 a k len (E.size e)
    | _ => none
  | some (.array len e) => match x with
    | .pointer (some a) => opIA3 a k len (E.size e)
    | .complex _ g o => opIG g o k len (E.size e)
    | _ => none
  | _ => none
def opIA1 (E : Env) (ty : TypeId) (x : Value) : Option Nat → Option Value
  | some k => opIA2 E x k (E.und ty)
  | none => none
def byteV : Option UInt8 → Option Value
  | some c => some (.int .u8 (.ofNat c.toNat))
  | none => none
def opIx2 (x : Value) (k : Nat) : Option TypeDesc → Option Value
  | some .string => match x with
    | .string b => byteV b.data.toList[k]?
    | _ => none
  | _ => none
def opIx1 (E : Env) (ty : TypeId) (x : Value) : Option Nat → Option Value
  | some k => opIx2 x k (E.und ty)
  | none => none
def opBS2 (E : Env) (t : List Value) (len n : Nat) (ps : List (Nat × Operand)) (z : List Value) : Option (List Value) :=
  cond (Nat.ble (len * n) 100000 && Nat.blt 0 n) (fillL E (fun k => some (k * n, n)) t ps (reps z len)) none
def opBSK2 (E : Env) (s : St) (t : List Value) (len : Nat) (ps : List (Nat × Operand)) (k : K2) (e : TypeId) : Option (List Value) → Bool
  | some z => nSK k s e z.length len (len + 1) (opBS2 E t len z.length ps z)
  | none => false
def opBSK (E : Env) (s : St) (t : List Value) (len : Nat) (ps : List (Nat × Operand)) (k : K2) : Option TypeDesc → Bool
  | some (.slice e) => opBSK2 E s t len ps k e (E.zero e)
  | _ => false
def opMSK3 (s : St) (e : TypeId) (z : List Value) (l c : Nat) (k : K2) : Bool :=
  cond (Nat.ble l c && (Nat.ble (c * z.length) 100000 && Nat.blt 0 z.length)) (nSK k s e z.length l (c + 1) (some (reps z l))) false
def opMSK2 (s : St) (e : TypeId) (k : K2) (l c : Option Nat) : Option (List Value) → Bool
  | some z => match l with
    | some l => match c with
      | some c => opMSK3 s e z l c k
      | none => false
    | none => false
  | none => false
def opMSK (E : Env) (s : St) (x y : Value) (k : K2) : Option TypeDesc → Bool
  | some (.slice e) => opMSK2 s e k (natOf x) (natOf y) (E.zero e)
  | _ => false
def opF2 (E : Env) (cs : List Value) : Option Field → Option Value
  | some f => E.part f.type cs f.offset
  | none => none
def opF1 (E : Env) (f : Nat) (x : Value) : Option TypeDesc → Option Value
  | some (.struct fs) => match x with
    | .agg cs => opF2 E cs.toList fs.toList[f]?
    | _ => none
  | _ => none
def opEx (i : Nat) : Value → Option Value
  | .tuple vs => at? vs.toList i
  | _ => none
def opSl3 (a : Option Addr) (l h len : Nat) : Option Nat → Option Value
  | some n => cond (Nat.ble h len && Nat.ble l h) (match a with
      | none => some (.slice none 0 0)
      | some a => some (.slice (some ⟨a.block, a.off + l * n, none⟩) (h - l) 0)) none
  | none => none
def opSlS (b : List UInt8) (l h : Nat) : Option Value :=
  cond (Nat.ble h b.length && Nat.ble l h) (some (.string ⟨⟨(b.take h).drop l⟩⟩)) none
def opSl2 (E : Env) (x : Value) (t : List Value) (lo hi : Option Operand) : Option TypeDesc → Option Value
  | some .string => match x with
    | .string b => match natOr t 0 lo with
      | some l => match natOr t b.data.toList.length hi with
        | some h => opSlS b.data.toList l h
        | none => none
      | none => none
    | _ => none
  | some (.slice e) => match x with
    | .slice a len _ => match natOr t 0 lo with
      | some l => match natOr t len hi with
        | some h => opSl3 a l h len (E.size e)
        | none => none
      | none => none
    | _ => none
  | _ => none
def opSlM2 (a : Option Addr) (l h c len : Nat) : Option Nat → Option Value
  | some n => cond (Nat.ble c len && (Nat.ble h c && Nat.ble l h)) (match a with
      | none => some (.slice none 0 0)
      | some a => some (.slice (some ⟨a.block, a.off + l * n, none⟩) (h - l) (c - l + 1))) none
  | none => none
def opSlM (E : Env) (x : Value) (l h c : Option Nat) : Option TypeDesc → Option Value
  | some (.slice e) => match x with
    | .slice a len _ => match l with
      | some l => match h with
        | some h => match c with
          | some c => opSlM2 a l h c len (E.size e)
          | none => none
        | none => none
      | none => none
    | _ => none
  | _ => none
def opSlice (E : Env) (t : List Value) (ty : TypeId) (x : Operand) (lo hi : Option Operand) : Option Operand → Option Value
  | none => opSl2 E (opv t x) t lo hi (E.und ty)
  | some m => match hi with
    | some hi => opSlM E (opv t x) (natOr t 0 lo) (natOf (opv t hi)) (natOf (opv t m)) (E.und ty)
    | none => none
/- an array's part. -/
def opSlA3 (a : Addr) (n l h z : Nat) : Option Row → Option Value
  | some r => cond (Nat.beq r.sz 0 && (Nat.ble h n && Nat.ble l h)) (some (.slice (some ⟨a.block, a.off + l * z, none⟩) (h - l) (n - l + 1))) none
  | none => none
def opSlA2 (s : St) (x : Value) (n z : Nat) (l h : Option Nat) : Option Value := match x with
  | .pointer (some a) => match l with
    | some l => match h with
      | some h => opSlA3 a n l h z (s.get a.block)
      | none => none
    | none => none
  | _ => none
def opSlA (s : St) (t : List Value) (x : Operand) (lo hi : Option Operand) (n z : Nat) : Option Operand → Option Value
  | none => opSlA2 s (opv t x) n z (natOr t 0 lo) (natOr t n hi)
  | some _ => none
def opSliceS (E : Env) (s : St) (t : List Value) (ty : TypeId) (x : Operand) (lo hi mx : Option Operand) : Option Value := match E.und ty with
  | some (.array n e) => match E.size e with
    | some z => opSlA s t x lo hi n z mx
    | none => none
  | _ => opSlice E t ty x lo hi mx
def opMI (ty : TypeId) (v : Value) : Option TypeDesc → Option Value
  | some (.interface _) => none
  | some _ => some (.iface ty v)
  | none => none
def opCv (x : Value) : Option TypeDesc → Option Value
  | some (.int k) => match x with
    | .int _ n => some (.int k (wrapF k n))
    | _ => none
  | some .string => match x with
    | .string b => some (.string b)
    | _ => none
  | _ => none
def opCv0 (v : Option Value) : Option TypeDesc → Option Value
  | some _ => v
  | none => none
/- pointers to anything and back. -/
def toUn2 (a : Addr) : Option Row → Option Value
  | some r => cond (Nat.blt a.off r.cells.length) (some (.pointer (some a))) none
  | none => none
def toUn1 (E : Env) (s : St) (t : TypeId) : Value → Option Value
  | .pointer (some a) => match E.size t with
    | some n => cond (Nat.beq n 0) none (toUn2 a (s.get a.block))
    | none => none
  | _ => none
def ofUn2 (E : Env) (a : Addr) (u : TypeId) : Option Row → Option Value
  | some r => cond (Nat.beq r.sz 0 && E.lies r.elem r.cells.length a.off u) (some (.pointer (some a))) none
  | none => none
def ofUn1 (E : Env) (s : St) (u : TypeId) : Value → Option Value
  | .pointer (some a) => match E.size u with
    | some _ => ofUn2 E a u (s.get a.block)
    | none => none
  | _ => none
def toUn (E : Env) (s : St) (x : Value) : Option TypeDesc → Option Value
  | some (.pointer t) => toUn1 E s t x
  | _ => none
def ofUn (E : Env) (s : St) (x : Value) (u : TypeId) : Option TypeDesc → Option Value
  | some .unsafePointer => ofUn1 E s u x
  | _ => none
/- a string of the bytes of a slice. -/
def rowPart (s : St) (k : Nat) : Option Addr → Option (List Value)
  | none => cond (Nat.beq k 0) (some []) none
  | some a => match s.get a.block with
    | some r => cond (Nat.ble (a.off + k) r.cells.length) (some (takeN (dropN r.cells a.off) k)) none
    | none => none
def unByte : Value → Option UInt8
  | .int .u8 (.ofNat n) => cond (Nat.blt n 256) (some (UInt8.ofNat n)) none
  | _ => none
def unBytes : List Value → Option (List UInt8)
  | [] => some []
  | v :: r => match unByte v with
    | some b => match unBytes r with
      | some l => some (b :: l)
      | none => none
    | none => none
def strB2 : Option (List UInt8) → Option Value
  | some l => some (.string ⟨⟨l⟩⟩)
  | none => none
def strB1 : Option (List Value) → Option Value
  | some l => strB2 (unBytes l)
  | none => none
def strB (s : St) : Value → Option Value
  | .slice none _ _ => some (.string ⟨⟨[]⟩⟩)
  | .slice (some a) n _ => cond (Nat.beq n 0) (some (.string ⟨⟨[]⟩⟩)) (strB1 (rowPart s n (some a)))
  | _ => none
def strE (s : St) (x : Value) : Option TypeDesc → Option Value
  | some (.int .u8) => strB s x
  | _ => none
def cvStr (E : Env) (s : St) (x : Value) : Option TypeDesc → Option Value
  | some (.slice e) => strE s x (E.und e)
  | d => opCv0 (opCv x (some .string)) d
def opCv1 (E : Env) (s : St) (x : Value) (src : Option TypeDesc) : Option TypeDesc → Option Value
  | some .string => cvStr E s x src
  | some .unsafePointer => toUn E s x src
  | some (.pointer u) => ofUn E s x u src
  | d => opCv0 (opCv x d) src
def entries (s : St) : Value → Option (List (Value × Value))
  | .map none => some []
  | .map (some n) => s.gm n
  | _ => none
/- an iterator over a map, kept as a list whose first key is none: the map; how many entries it had, which one is looked at; which are left. -/
def itLeft (left : List Nat) : List (Value × Value) := left.map fun i => (.int .i64 (.ofNat i), junk)
def itList (m : Value) (n : Nat) (cur : Value) (left : List Nat) : List (Value × Value) := (junk, m) :: (.int .i64 (.ofNat n), cur) :: itLeft left
def isIt : List (Value × Value) → Bool
  | (.chan none, _) :: _ => true
  | _ => false
def unLeft : List (Value × Value) → Option (List Nat)
  | [] => some []
  | p :: r => match p with
    | (.int .i64 (.ofNat i), .chan none) => match unLeft r with
      | some l => some (i :: l)
      | none => none
    | _ => none
def dropIt (i : Nat) : List Nat → List Nat
  | [] => []
  | j :: l => cond (Nat.beq i j) (dropIt i l) (j :: dropIt i l)
def upTo : Nat → List Nat → List Nat
  | 0, l => l
  | n + 1, l => upTo n (n :: l)
def nthE : List (Value × Value) → Nat → Option (Value × Value)
  | [], _ => none
  | p :: r, n => match n with | 0 => some p | k + 1 => nthE r k
def opLenM : Option (List (Value × Value)) → Option Value
  | some es => cond (isIt es) none (some (.int .i64 (.ofNat es.length)))
  | none => none
def opLen (s : St) (x : Value) : Option TypeDesc → Option Value
  | some .string => match x with
    | .string b => some (.int .i64 (.ofNat b.data.toList.length))
    | _ => none
  | some (.slice _) => match x with
    | .slice _ n _ => some (.int .i64 (.ofNat n))
    | _ => none
  | some (.map _ _) => opLenM (entries s x)
  | _ => none
def catO (x : List Value) : Option (List Value) → Option (List Value)
  | some y => some (x ++ y)
  | none => none
/- a slice whose room is known, and too little. -/
def apG (c n m : Nat) : Bool := Nat.blt 0 c && Nat.blt c (n + m + 1)
/- behind a part of an array that has room. -/
def opApX2 (s : St) (n m c size : Nat) (a : Addr) (r : Row) (k : K2) (vs : List Value) : Bool := cond (Nat.beq a.off 0 && (Nat.ble (n + m + 1) c && Nat.ble ((n + m) * size) r.cells.length)) (forceL (putN r.cells (n * size) vs) fun cs => putRowK s a.block (some ⟨cs, r.elem, r.sz⟩) fun s => k (.slice (some a) (n + m) c) s) false
def opApX (s : St) (n m c size : Nat) (a : Addr) (r : Row) (k : K2) : Option (List Value) → Bool
  | some vs => opApX2 s n m c size a r k vs
  | none => false
/-- append: behind a slice without room, or behind a part of a row from its beginning on. -/
def opApK4 (s : St) (e : TypeId) (n m c size : Nat) (base : Option Addr) (k : K2) (new : Option (List Value)) : Bool :=
  match base with
  | none => nSK k s e size (n + m) 0 new
  | some a => cond (apG c n m)
    (match rowPart s (n * size) (some a) with
      | some old => nSK k s e size (n + m) 0 (catO old new)
      | none => false)
    (match s.get a.block with
      | some r => cond (Nat.beq r.sz 0) (opApX s n m c size a r k new) (cond (Nat.beq a.off 0 && (Nat.ble (n * size) r.cells.length && (Nat.beq r.sz size && Nat.beq r.elem e))) (putRowK s a.block none fun s => nSK k s e size (n + m) 0 (catO (takeN r.cells (n * size)) new)) false)
      | none => false)
def opApK3 (s : St) (e : TypeId) (x y : Value) (size : Nat) (k : K2) : Bool :=
  match x with
  | .slice base n c => match y with
    | .slice b2 m _ => cond (Nat.beq m 0) (k (.slice base n c) s) (cond (Nat.blt 1000000 (n + m)) false (opApK4 s e n m c size base k (rowPart s (m * size) b2)))
    | _ => false
  | _ => false
def opApK2 (E : Env) (s : St) (x y : Value) (k : K2) : Option TypeDesc → Bool
  | some (.slice e) => match E.zero e with
    | some z => cond (Nat.beq z.length 0) false (opApK3 s e x y z.length k)
    | none => false
  | _ => false
/- a string's bytes behind a slice. -/
def byteVs (b : List UInt8) : List Value := b.map fun c => .int .u8 (.ofNat c.toNat)
def opApS4 (s : St) (e : TypeId) (n : Nat) (b : List UInt8) (k : K2) : Option Addr → Bool
  | none => nSK k s e 1 (n + b.length) 0 (some (byteVs b))
  | some a => match s.get a.block with
    | some r => cond (Nat.beq a.off 0 && (Nat.ble n r.cells.length && (Nat.beq r.sz 1 && Nat.beq r.elem e))) (putRowK s a.block none fun s => nSK k s e 1 (n + b.length) 0 (some (takeN r.cells n ++ byteVs b))) false
    | none => false
def opApS3 (s : St) (e : TypeId) (x : Value) (b : List UInt8) (k : K2) : Bool := match x with
  | .slice base n c => cond (Nat.beq b.length 0) (k (.slice base n c) s) (cond (Nat.blt 1000000 (n + b.length)) false (opApS4 s e n b k base))
  | _ => false
def opApZ2 (s : St) (e : TypeId) (m : Nat) (k : K2) (z : List Value) : Bool := cond (Nat.blt 0 m && (Nat.ble m 100000 && Nat.blt 0 z.length)) (nSK k s e z.length m 0 (some (reps z m))) false
def opApZ1 (s : St) (e : TypeId) (m : Nat) (k : K2) : Option (List Value) → Bool
  | some z => opApZ2 s e m k z
  | none => false
def opApZ (E : Env) (s : St) (e : TypeId) (x y : Value) (k : K2) : Bool := match x with
  | .slice none _ _ => match y with
    | .int .i64 (.ofNat m) => opApZ1 s e m k (E.zero e)
    | _ => false
  | _ => false
def opApS2 (E : Env) (s : St) (e : TypeId) (x y : Value) (k : K2) : Option TypeDesc → Bool
  | some (.int .i64) => opApZ E s e x y k
  | some .string => match y with
    | .string b => match E.zero e with
      | some z => cond (Nat.beq z.length 1) (opApS3 s e x b.data.toList k) false
      | none => false
    | _ => false
  | _ => false
def opApS (E : Env) (s : St) (x y : Value) (k : K2) (d : Option TypeDesc) : Option TypeDesc → Bool
  | some (.slice e) => opApS2 E s e x y k d
  | _ => false
/- a string of a row's bytes. -/
def opUSD : Value → Option Value
  | .slice none _ _ => some (.pointer none)
  | .slice (some a) n _ => cond (Nat.blt 0 n) (some (.pointer (some ⟨a.block, a.off, none⟩))) none
  | _ => none
def uStr4 (s : St) (b : Nat) (k : K2) : Option (List UInt8) → Bool
  | some l => forceL l fun l => putRowK s b none fun s => k (.string ⟨⟨l⟩⟩) s
  | none => false
def uStr3 (s : St) (a : Addr) (n : Nat) (e : TypeId) (k : K2) : Option Row → Bool
  | some r => cond (Nat.beq a.off 0 && (Nat.beq r.elem e && Nat.ble n r.cells.length)) (uStr4 s a.block k (unBytes (takeN r.cells n))) false
  | none => false
def uStr2 (E : Env) (s : St) (x : Value) (n : Nat) (k : K2) : Option TypeDesc → Bool
  | some (.pointer e) => match x with
    | .pointer (some a) => match E.size e with
      | some z => cond (Nat.beq z 1 && Nat.ble n 1000000) (uStr3 s a n e k (s.get a.block)) false
      | none => false
    | _ => false
  | _ => false
def uStr1 (E : Env) (s : St) (x : Value) (k : K2) (d : Option TypeDesc) (n : Nat) : Bool := cond (Nat.beq n 0) (match x with
    | .pointer _ => k (.string ⟨⟨[]⟩⟩) s
    | _ => false) (uStr2 E s x n k d)
def opUStr (E : Env) (s : St) (x : Value) (k : K2) (d : Option TypeDesc) : Value → Bool
  | .int .i64 (.ofNat n) => uStr1 E s x k d n
  | _ => false
/- copy. -/
def opCp4 (s : St) (a : Addr) (r : Row) (cnt : Nat) (k : K2) : Option (List Value) → Bool
  | some vs => cond (Nat.ble (a.off + vs.length) r.cells.length) (forceL (putN r.cells a.off vs) fun cs => putRowK s a.block (some ⟨cs, r.elem, r.sz⟩) fun s => k (.int .i64 (.ofNat cnt)) s) false
  | none => false
def opCp3 (s : St) (a : Addr) (b : Option Addr) (cnt size : Nat) (k : K2) : Option Row → Bool
  | some r => opCp4 s a r cnt k (rowPart s (cnt * size) b)
  | none => false
def opCp2 (s : St) (x y : Value) (size : Nat) (k : K2) : Bool := match x with
  | .slice base n _ => match y with
    | .slice b m _ => cond (Nat.beq (Nat.min m n) 0) (k (.int .i64 (.ofNat 0)) s) (match base with
      | some a => opCp3 s a b (Nat.min m n) size k (s.get a.block)
      | none => false)
    | _ => false
  | _ => false
def opCp (E : Env) (s : St) (x y : Value) (k : K2) : Option TypeDesc → Bool
  | some (.slice e) => match E.size e with
    | some size => opCp2 s x y size k
    | none => false
  | _ => false
def capN : Nat → Option Value
  | 0 => none
  | c + 1 => some (.int .i64 (.ofNat c))
def opCap (x : Value) : Option TypeDesc → Option Value
  | some (.slice _) => match x with
    | .slice none _ _ => some (.int .i64 (.ofNat 0))
    | .slice (some _) _ c => capN c
    | _ => none
  | _ => none
def opMin (hi : Bool) : Value → Value → Option Value
  | .int k x, .int _ y => some (.int k (cond (cond hi (intLt x y) (intLt y x)) y x))
  | _, _ => none
/-- where a key stands. -/
def mfind (al : Nat → Bool) (k : Value) : List (Value × Value) → Nat → Option (Option (Nat × Value))
  | [], _ => some none
  | e :: r, i => match keyEq al k e.1 with
    | some true => some (some (i, e.2))
    | some false => mfind al k r (i + 1)
    | none => none
def putMapK (s : St) (n : Nat) (k : K2) (es : List (Value × Value)) : Bool := forceL es fun es => Tr.setK 17 s.m.t n (some es) fun m => k undef ⟨s.h, ⟨m, s.m.it⟩, s.c⟩
/- an entry that is struck: only where there are no iterators. -/
def eraseE : List (Value × Value) → Nat → List (Value × Value)
  | [], _ => []
  | p :: r, n => match n with | 0 => r | k + 1 => p :: eraseE r k
def opDel3 (s : St) (n : Nat) (es : List (Value × Value)) (k : K2) : Option (Option (Nat × Value)) → Bool
  | some (some p) => cond (s.m.it || isIt (eraseE es p.1)) false (putMapK s n k (eraseE es p.1))
  | some none => k undef s
  | none => false
def opDel2 (E : Env) (s : St) (n : Nat) (key : Value) (k : K2) (kt : TypeId) : Option (List (Value × Value)) → Bool
  | some es => cond (keyFit E kt key) (opDel3 s n es k (mfind s.al key es 0)) false
  | none => false
def opDel1 (E : Env) (s : St) (key : Value) (k : K2) (m : Value) : Option TypeDesc → Bool
  | some (.map kt _) => match m with
    | .map none => cond (keyFit E kt key) (k undef s) false
    | .map (some n) => opDel2 E s n key k kt (s.gm n)
    | _ => false
  | _ => false
/- clear, of a slice. -/
def opClr3 (s : St) (a : Addr) (n : Nat) (k : K2) (z : List Value) : Option Row → Bool
  | some r => cond (Nat.blt 0 z.length && Nat.ble (a.off + n * z.length) r.cells.length) (forceL (putN r.cells a.off (reps z n)) fun cs => putRowK s a.block (some ⟨cs, r.elem, r.sz⟩) fun s => k undef s) false
  | none => false
def opClr2 (s : St) (x : Value) (k : K2) : Option (List Value) → Bool
  | some z => match x with
    | .slice none _ _ => k undef s
    | .slice (some a) n _ => cond (Nat.beq n 0) (k undef s) (opClr3 s a n k z (s.get a.block))
    | _ => false
  | none => false
def opClr (E : Env) (s : St) (x : Value) (k : K2) : Option TypeDesc → Bool
  | some (.slice e) => opClr2 s x k (E.zero e)
  | _ => false
def opBIK (E : Env) (s : St) (t : List Value) (args : List Operand) (ts : List TypeId) (k : K2) : Builtin → Bool
  | .len => match args, ts with
    | [x], [ty] => vK k s (opLen s (opv t x) (E.und ty))
    | _, _ => false
  | .append => match args, ts with
    | [x, y], [t1, t2] => cond (Nat.beq t1 t2) (opApK2 E s (opv t x) (opv t y) k (E.und t1)) (opApS E s (opv t x) (opv t y) k (E.und t2) (E.und t1))
    | _, _ => false
  | .min => match args with
    | [x, y] => vK k s (opMin false (opv t x) (opv t y))
    | _ => false
  | .max => match args with
    | [x, y] => vK k s (opMin true (opv t x) (opv t y))
    | _ => false
  | .copy => match args, ts with
    | [x, y], [t1, t2] => cond (Nat.beq t1 t2) (opCp E s (opv t x) (opv t y) k (E.und t1)) false
    | _, _ => false
  | .unsafeSliceData => match args with
    | [x] => vK k s (opUSD (opv t x))
    | _ => false
  | .cap => match args, ts with
    | [x], [ty] => vK k s (opCap (opv t x) (E.und ty))
    | _, _ => false
  | .unsafeString => match args, ts with
    | [x, y], [pt, _] => opUStr E s (opv t x) k (E.und pt) (opv t y)
    | _, _ => false
  | .delete => match args, ts with
    | [x, y], [mt, _] => opDel1 E s (opv t y) k (opv t x) (E.und mt)
    | _, _ => false
  | .clear => match args, ts with
    | [x], [ty] => opClr E s (opv t x) k (E.und ty)
    | _, _ => false
  | _ => false
def xtK (call : CallK) (s : St) (k : K2) (f : FuncId) (l : List Value) : Option (List Value → Option Value) → Bool
  | some g => vK k s (g l)
  | none => call f l s k
/-- a method by its name, at a pointer: the function, and how far behind the pointer its receiver lies. -/
def moK (call : CallK) (s : St) (k : K2) : Option (FuncId × Nat) → List Value → Bool
  | some p, .pointer (some a) :: r => forceN (fun o => call p.1 (.pointer (some ⟨a.block, o, none⟩) :: r) s k) (a.off + p.2)
  | _, _ => false
def opCvK (E : Env) (call : CallK) (s : St) (args : List Value) (k : K2) : Value → Bool
  | .func (.func f) first captured => forceL (first.toList ++ (args ++ captured.toList)) fun l => xtK call s k f l (E.xt f)
  | .func (.methodOf ty name) first _ => moK call s k (E.mo ty name) (first.toList ++ args)
  | _ => false
def opCallK (E : Env) (call : CallK) (t : List Value) (s : St) (args : List Operand) (ts : List TypeId) (k : K2) : Callee → Bool
  | .value f => opCvK E call s (args.map (opv t)) k (opv t f)
  | .builtin b => opBIK E s t args ts k b
  | _ => false
def withOk (ok : Bool) (v : Value) (b : Bool) : Value := cond ok (.tuple ⟨[v, .bool b]⟩) v
def opLk3 (ok : Bool) (z : Option Value) : Option (Option (Nat × Value)) → Option Value
  | some (some p) => some (withOk ok p.2 true)
  | some none => match z with
    | some z => some (withOk ok z false)
    | none => none
  | none => none
def opLk2 (E : Env) (s : St) (ok : Bool) (elem : TypeId) (k : Value) (kt : TypeId) : Option (List (Value × Value)) → Option Value
  | some es => cond (keyFit E kt k) (opLk3 ok (E.zv elem) (mfind s.al k es 0)) none
  | none => none
def opLk (E : Env) (s : St) (x k : Value) (ok : Bool) : Option TypeDesc → Option Value
  | some (.map key elem) => opLk2 E s ok elem k key (entries s x)
  | _ => none
/- of an interface's value: is it of that type, which is none of an interface? -/
def taNo (ok : Bool) (z : Option Value) : Option Value := match z with
  | some z => cond ok (some (withOk true z false)) none
  | none => none
def opTA2 (ty : TypeId) (ok : Bool) (z : Option Value) : Value → Option Value
  | .nilIface => taNo ok z
  | .iface t v => cond (Nat.beq t ty) (some (withOk ok v true)) (taNo ok z)
  | _ => none
def opTA (E : Env) (ty : TypeId) (ok : Bool) (x : Value) : Option TypeDesc → Option Value
  | some (.interface _) => none
  | some _ => opTA2 ty ok (E.zv ty) x
  | none => none
def opMU3 (s : St) (n : Nat) (es : List (Value × Value)) (key v : Value) (k : K2) : Option (Option (Nat × Value)) → Bool
  | some (some p) => putMapK s n k (es.set p.1 (key, v))
  | some none => putMapK s n k (es ++ [(key, v)])
  | none => false
def opMU2 (E : Env) (s : St) (n : Nat) (key v : Value) (k : K2) (kt : TypeId) : Option (List (Value × Value)) → Bool
  | some es => cond (keyFit E kt key) (opMU3 s n es key v k (mfind s.al key es 0)) false
  | none => false
def opMU1 (E : Env) (s : St) (key v : Value) (k : K2) (m : Value) : Option TypeDesc → Bool
  | some (.map kt _) => match m with
    | .map (some n) => opMU2 E s n key v k kt (s.gm n)
    | _ => false
  | _ => false
def newMapK (s : St) (k : K2) : Bool := Tr.setK 17 s.m.t s.c (some []) fun m => forceN (fun c => k (.map (some s.c)) ⟨s.h, ⟨m, s.m.it⟩, c⟩) (s.c + 1)
def opMK (s : St) (k : K2) : Option Operand → Bool
  | none => newMapK s k
  | some _ => false
def newItK (s : St) (k : K2) (l : List (Value × Value)) : Bool := forceL l fun l => Tr.setK 17 s.m.t s.c (some l) fun m => forceN (fun c => k (.pointer (some ⟨s.c, 0, none⟩)) ⟨s.h, ⟨m, true⟩, c⟩) (s.c + 1)
def opRg2 (s : St) (n : Nat) (k : K2) : Option (List (Value × Value)) → Bool
  | some es => cond (isIt es) false (newItK s k (itList (.map (some n)) es.length junk (upTo es.length [])))
  | none => false
def opRg1 (s : St) (k : K2) : Value → Bool
  | .map none => newItK s k (itList (.map none) 0 junk [])
  | .map (some n) => opRg2 s n k (s.gm n)
  | _ => false
def opRg (s : St) (x : Value) (k : K2) : Option TypeDesc → Bool
  | some (.map _ _) => opRg1 s k x
  | _ => false
def putItK (s : St) (n : Nat) (k : St → Bool) (es : List (Value × Value)) : Bool := forceL es fun es => Tr.setK 17 s.m.t n (some es) fun m => k ⟨s.h, ⟨m, true⟩, s.c⟩
def nx5 (s : St) (n m c i : Nat) (all : List Nat) (k : K2) : Option (Value × Value) → Bool
  | some kv => putItK s n (fun s => k (.tuple ⟨[.bool true, kv.1, kv.2]⟩) s) (itList (.map (some m)) c (.int .i64 (.ofNat i)) (dropIt i all))
  | none => false
def nx4 (s : St) (n m c : Nat) (es : List (Value × Value)) (all : List Nat) (k : K2) : List Nat → Bool
  | [] => true
  | i :: l => cond (nx5 s n m c i all k (nthE es i)) (nx4 s n m c es all k l) false
def nx3 (s : St) (n m c : Nat) (es : List (Value × Value)) (k : K2) : Option (List Nat) → Bool
  | some [] => k (.tuple ⟨[.bool false]⟩) s
  | some (i :: l) => nx4 s n m c es (i :: l) k (i :: l)
  | none => false
def nx2 (s : St) (n m c : Nat) (left : List (Value × Value)) (k : K2) : Option (List (Value × Value)) → Bool
  | some es => cond (Nat.beq es.length c && !isIt es) (nx3 s n m c es k (unLeft left)) false
  | none => false
def nx1 (s : St) (n : Nat) (k : K2) : Option (List (Value × Value)) → Bool
  | some ((.chan none, .map none) :: (.int .i64 (.ofNat _), _) :: _) => k (.tuple ⟨[.bool false]⟩) s
  | some ((.chan none, .map (some m)) :: (.int .i64 (.ofNat c), _) :: left) => nx2 s n m c left k (s.gm m)
  | _ => false
def opNx (s : St) (k : K2) : Value → Bool
  | .pointer (some a) => cond (Nat.beq a.off 0) (nx1 s a.block k (s.gm a.block)) false
  | _ => false
def en2 (s : St) (c i : Nat) (k : K2) : Option (List (Value × Value)) → Bool
  | some es => cond (Nat.beq es.length c && !isIt es) (match nthE es i with
    | some kv => k (.tuple ⟨[kv.1, kv.2]⟩) s
    | none => false) false
  | none => false
def en1 (s : St) (k : K2) : Option (List (Value × Value)) → Bool
  | some ((.chan none, .map (some m)) :: (.int .i64 (.ofNat c), .int .i64 (.ofNat i)) :: _) => en2 s c i k (s.gm m)
  | _ => false
def opEn (s : St) (k : K2) : Value → Bool
  | .pointer (some a) => cond (Nat.beq a.off 0) (en1 s k (s.gm a.block)) false
  | _ => false
def opMF (t : List Value) (fn : Fn) (first captured : Array Operand) : Option Value := some (.func fn ⟨first.toList.map (opv t)⟩ ⟨captured.toList.map (opv t)⟩)
/- what a new row is to be. -/
structure FlI where
  cs : List Value
  ty : TypeId
  sz : Nat
  vl : Option Addr → Value
  mp : Bool
/-- a new row, or a new map. -/
def FlI.ob (I : FlI) (ys : Array Value) : Obj := cond I.mp (.map #[] 0) (.cells ys I.ty)
def mapVl : Option Addr → Value
  | some a => .map (some a.block)
  | none => junk
def flP (ty : TypeId) : Option (List Value) → Option FlI
  | some cs => some ⟨cs, ty, 0, .pointer, false⟩
  | none => none
def flBS2 (e : TypeId) (len n : Nat) : Option (List Value) → Option FlI
  | some cs => some ⟨cs, e, n, fun ad => .slice ad len (len + 1), false⟩
  | none => none
def flBS (E : Env) (t : List Value) (len : Nat) (ps : List (Nat × Operand)) (e : TypeId) : Option (List Value) → Option FlI
  | some z => flBS2 e len z.length (opBS2 E t len z.length ps z)
  | none => none
def flMS2 (z : List Value) (e : TypeId) (l c : Nat) : Option FlI := cond (Nat.ble l c && (Nat.ble (c * z.length) 100000 && Nat.blt 0 z.length)) (some ⟨reps z l, e, z.length, fun ad => .slice ad l (c + 1), false⟩) none
def flMS (e : TypeId) (l c : Option Nat) : Option (List Value) → Option FlI
  | some z => match l with
    | some l => match c with
      | some c => flMS2 z e l c
      | none => none
    | none => none
  | none => none
def flInfo (E : Env) (t : List Value) : Op → Option FlI
  | .alloc ty => flP ty (E.zero ty)
  | .box ty x => flP ty (cellsO (opv t x))
  | .buildSlice ty len ps => match E.und ty with
    | some (.slice e) => flBS E t len ps.toList e (E.zero e)
    | _ => none
  | .makeSlice ty x y => match E.und ty with
    | some (.slice e) => flMS e (natOf (opv t x)) (natOf (opv t y)) (E.zero e)
    | _ => none
  | .makeMap _ r => match r with
    | none => some ⟨[], 0, 0, mapVl, true⟩
    | some _ => none
  | _ => none
def oneOpK (E : Env) (call : CallK) (t : List Value) (s : St) (k : K2) (o : Op) : Bool :=
  match o with
  | .move x => k (opv t x) s
  | .assign x => k (opv t x) s
  | .pick c a b => vK k s (opPick t a b (opv t c))
  | .binOp op ty x y _ => vK k s (binV E op ty (isC x || isC y) (opv t x) (opv t y))
  | .unOp op _ x => vK k s (opUn op (opv t x))
  | .load ty a => vK k s (opLoad E s ty (opv t a))
  | .store ty a v => opStoreK E s ty (opv t v) k (opv t a)
  | .fieldAddr ty x f => vK k s (opFieldAddr E ty f (opv t x))
  | .nilCheck x => vK k s (opNilCheck (opv t x))
  | .indexAddr ty x i => vK k s (opIA1 E ty (opv t x) (natOf (opv t i)))
  | .index ty x i => vK k s (opIx1 E ty (opv t x) (natOf (opv t i)))
  | .alloc ty => nPK k s ty (E.zero ty)
  | .box ty x => nPK k s ty (cellsO (opv t x))
  | .build ty ps => vK k s (E.build ty ps.toList t)
  | .buildSlice ty len ps => opBSK E s t len ps.toList k (E.und ty)
  | .field ty x f => vK k s (opF1 E f (opv t x) (E.und ty))
  | .extract x i => vK k s (opEx i (opv t x))
  | .slice ty x lo hi mx => vK k s (opSliceS E s t ty x lo hi mx)
  | .makeInterface ty x => vK k s (opMI ty (opv t x) (E.und ty))
  | .makeFunc fn first captured => vK k s (opMF t fn first captured)
  | .convert src dst x => vK k s (opCv1 E s (opv t x) (E.und src) (E.und dst))
  | .call c => opCallK E call t s c.args.toList c.argTypes.toList k c.callee
  | .lookup ty x i ok => vK k s (opLk E s (opv t x) (opv t i) ok (E.und ty))
  | .mapUpdate ty m x v => opMU1 E s (opv t x) (opv t v) k (opv t m) (E.und ty)
  | .makeMap _ r => opMK s k r
  | .makeSlice ty x y => opMSK E s (opv t x) (opv t y) k (E.und ty)
  | .range ty x => opRg s (opv t x) k (E.und ty)
  | .next x isS => cond isS false (opNx s k (opv t x))
  | .entry x => opEn s k (opv t x)
  | .insert ty m x v => opMU1 E s (opv t x) (opv t v) k (opv t m) (E.und ty)
  | .typeAssert x _ ty ok => vK k s (opTA E ty ok (opv t x) (E.und ty))
  | _ => false
def isWant (want : Bool) : Option Value → Bool
  | some (.bool b) => b == want
  | _ => false
def isBoolV : Option Value → Bool
  | some (.bool _) => true
  | some (.tuple _) => true
  | _ => false
def guardV (all : List Oper) (t : List Value) (j : Nat) : Option Value := ((all[j]?).bind (·.dst)).bind (at? t)
def evOpsK (E : Env) (call : CallK) (all : List Oper) (k : KT) : List Oper → KT
  | [], t, s => k t s
  | o :: r, t, s => match o.guard with
    | none => oneOpK E call t s (fun v s => putK t o.dst v fun t => evOpsK E call all k r t s) o.op
    | some g => cond (isBoolV (guardV all t g.1)) (cond (isWant g.2 (guardV all t g.1))
      (oneOpK E call t s (fun v s => putK t o.dst v fun t => evOpsK E call all k r t s) o.op)
      (putK t o.dst undef fun t => evOpsK E call all k r t s)) false
def loopK (body : KT → KT) : Nat → KT
  | 0, _, _ => false
  | n + 1, t, s => body (fun t s => loopK body n t s) t s
def exitK (id : Nat) (k : KT) (ke : Nat → KT) (i : Nat) : KT := cond (Nat.beq i id) k (ke i)
def condK (a b : Bool) : Value → Bool
  | .bool true => a
  | .bool false => b
  | _ => false
/-- a region whose order is drawn. -/
abbrev DrawK := Nat → Array Oper → KT → KT
def evCodeK (E : Env) (call : CallK) (draw : DrawK) (kr : KT) : Code → (Nat → KT) → KT → KT
  | .skip, _, k, t, s => k t s
  | .label _, _, k, t, s => k t s
  | .region id ops d, _, k, t, s => match d with
    | false => evOpsK E call ops.toList k ops.toList t s
    | true => draw id ops k t s
  | .seq a b, ke, k, t, s => evCodeK E call draw kr a ke (evCodeK E call draw kr b ke k) t s
  | .cond c a b, ke, k, t, s => condK (evCodeK E call draw kr a ke k t s) (evCodeK E call draw kr b ke k t s) (opv t c)
  | .block id b, ke, k, t, s => evCodeK E call draw kr b (exitK id k ke) k t s
  | .loop b, ke, _, t, s => loopK (evCodeK E call draw kr b ke) 100000 t s
  | .exit id, ke, _, t, s => ke id t s
  | .ret, _, _, t, s => kr t s
  | _, _, _, _, _ => false
def resL (E : Env) (t : List Value) (s : St) : List ResultVar → Option (List Value)
  | [] => some []
  | .tmp k :: r => match resL E t s r with
    | some l => some (atD t k :: l)
    | none => none
  | .cell a ty :: r => match opLoad0 E s ty (atD t a) with
    | some v => match resL E t s r with
      | some l => some (v :: l)
      | none => none
    | none => none
def resK (k : K2) (s : St) : Option (List Value) → Bool
  | some [v] => k v s
  | some l => forceL l fun l => k (.tuple ⟨l⟩) s
  | none => false
def bodyK (E : Env) (call : CallK) (draw : DrawK) (fn : Func) (args : List Value) (s : St) (k : K2) : Option Code → Bool
  | none => false
  | some c => forceL (args ++ List.replicate (fn.ntmps - args.length) undef) fun t =>
      evCodeK E call draw (fun t s => resK k s (resL E t s fn.results.toList)) c (fun _ _ _ => false) (fun t s => resK k s (resL E t s fn.results.toList)) t s
end Go.Proofs.YtcfekhcdadldmaaGreatDoor.Am
namespace Go.Proofs.YtcfekhcdadldmaaGreatDoor.Am
open Go
/-- where a row lies: its block, how many cells the block has, how many an element has. -/
abbrev Rho := Nat → Option (Nat × Nat × Nat)
def one : Value → Bool
  | .agg _ => false
  | .tuple _ => false
  | .chan _ => false
  | _ => true
/-- an address as it lies. -/
def AR (ρ : Rho) (a : Addr) (b : Addr) : Prop := ∃ x, ρ a.block = some x ∧ b = ⟨x.1, a.off, none⟩
/-- what a capacity says: nothing, or just how great it is. -/
def capOk (c cap : Nat) : Prop := c = 0 ∨ c = cap + 1
def SR (ρ : Rho) (a : Option Addr) (n c : Nat) (u : Value) : Prop :=
  match a with
  | none => n = 0 ∧ u = .slice none 0 0
  | some a => ∃ (b : Addr) (cap : Nat) (x : Nat × Nat × Nat), u = .slice (some b) n cap ∧ n ≤ cap ∧ capOk c cap ∧ ρ a.block = some x ∧ (a.off = 0 → cap * x.2.2 ≤ x.2.1) ∧ (a.off = 0 ∨ 0 < n → b = ⟨x.1, a.off, none⟩)
/-- a value and what it is in a world. -/
def VR (ρ : Rho) : Value → Value → Prop
  | .bool b, u => u = .bool b
  | .int k n, u => u = .int k n
  | .string s, u => u = .string s
  | .pointer none, u => u = .pointer none
  | .pointer (some a), u => ∃ b, AR ρ a b ∧ u = .pointer (some b)
  | .slice a n c, u => SR ρ a n c u
  | .map none, u => u = .map none
  | .map (some n), u => ∃ x, ρ n = some x ∧ u = .map (some x.1)
  | .nilFunc, u => u = .nilFunc
  | .nilIface, u => u = .nilIface
  | .chan none, _ => True
  | .iface t v, u => ∃ y, u = .iface t y ∧ VR ρ v y
  | .agg xs, u => ∃ ys : Array Value, u = .agg ys ∧ ys.size = xs.size ∧ ∀ i (h : i < xs.size), one xs[i] = true ∧ ∃ y, ys[i]? = some y ∧ VR ρ xs[i] y
  | .tuple xs, u => ∃ ys : Array Value, u = .tuple ys ∧ ys.size = xs.size ∧ ∀ i (h : i < xs.size), ∃ y, ys[i]? = some y ∧ VR ρ xs[i] y
  | .func fn xs zs, u => ∃ ys vs : Array Value, u = .func fn ys vs ∧ ys.size = xs.size ∧ vs.size = zs.size ∧ (∀ i (h : i < xs.size), ∃ y, ys[i]? = some y ∧ VR ρ xs[i] y) ∧ ∀ i (h : i < zs.size), ∃ y, vs[i]? = some y ∧ VR ρ zs[i] y
  | .complex _ g o, u => u = .pointer (some ⟨g, o, none⟩)
  | .float .f64 0, u => ∃ n : Int, u = .int .i64 n ∧ -9223372036854775808 ≤ n ∧ n ≤ 9223372036854775807
  | .float .f64 (j + 1), u => ∃ (n : Int) (x : Nat × Nat × Nat), ρ j = some x ∧ u = .int .i64 n ∧ -9223372036854775808 ≤ n ∧ n ≤ 9223372036854775807 ∧ x.2.1 = codeI n
  | .float .f32 b, u => ∃ (s : ByteArray) (x : Nat × Nat × Nat), ρ (b / 2) = some x ∧ u = .string s ∧ s.size ≤ 5000 ∧ x.2.1 = codeS s.data.toList ∧ textT s.data.toList = Nat.beq (b % 2) 0
  | _, _ => False
theorem codeI_inj : ∀ {a b : Int}, codeI a = codeI b → a = b
  | .ofNat m, .ofNat n, h => by
    simp only [codeI] at h
    obtain rfl : m = n := by omega
    rfl
  | .ofNat m, .negSucc n, h => by simp only [codeI] at h; omega
  | .negSucc m, .ofNat n, h => by simp only [codeI] at h; omega
  | .negSucc m, .negSucc n, h => by
    simp only [codeI] at h
    obtain rfl : m = n := by omega
    rfl
theorem codeS_inj : ∀ {a b : List UInt8}, codeS a = codeS b → a = b
  | [], [], _ => rfl
  | [], b :: l, h => by simp [codeS] at h
  | a :: l, [], h => by simp [codeS] at h
  | a :: x, b :: y, h => by
    simp only [codeS] at h
    have h1 := a.toNat_lt
    have h2 := b.toNat_lt
    have e1 : a.toNat = b.toNat := by omega
    have e2 : codeS x = codeS y := by omega
    rw [codeS_inj e2, UInt8.toNat_inj.1 e1]
def Sub (ρ ρ' : Rho) : Prop := ∀ n x, ρ n = some x → ρ' n = some x
theorem VR.mono {ρ ρ' : Rho} (h : Sub ρ ρ') : ∀ (v u : Value), VR ρ v u → VR ρ' v u := by
  intro v u
  fun_induction VR ρ v u with
  | case1 b u => intro h1; simpa [VR] using h1
  | case2 k n u => intro h1; simpa [VR] using h1
  | case3 s u => intro h1; simpa [VR] using h1
  | case4 u => intro h1; simpa [VR] using h1
  | case5 a u =>
    rintro ⟨b, ⟨x, hx, rfl⟩, rfl⟩
    rw [VR]; exact ⟨_, ⟨x, h _ _ hx, rfl⟩, rfl⟩
  | case6 a n c u =>
    intro h1
    rw [VR]
    cases a with
    | none => exact h1
    | some a =>
      obtain ⟨b, cap, x, e, h2, h3, hx, h4, h5⟩ := h1
      exact ⟨b, cap, x, e, h2, h3, h _ _ hx, h4, h5⟩
  | case7 u => intro h1; simpa [VR] using h1
  | case8 n u =>
    rintro ⟨x, hx, rfl⟩
    rw [VR]; exact ⟨x, h _ _ hx, rfl⟩
  | case9 u => intro h1; simpa [VR] using h1
  | case10 u => intro h1; simpa [VR] using h1
  | case11 u => intro _; rw [VR]; trivial
  | case12 t v u ih =>
    rintro ⟨y, e, hy⟩
    rw [VR]; exact ⟨y, e, ih y hy⟩
  | case13 xs u ih =>
    rintro ⟨ys, e, hs, hy⟩
    rw [VR]; exact ⟨ys, e, hs, fun i hi => ⟨(hy i hi).1, let ⟨y, e, hv⟩ := (hy i hi).2; ⟨y, e, ih i hi y hv⟩⟩⟩
  | case14 xs u ih =>
    rintro ⟨ys, e, hs, hy⟩
    rw [VR]; exact ⟨ys, e, hs, fun i hi => let ⟨y, e, hv⟩ := hy i hi; ⟨y, e, ih i hi y hv⟩⟩
  | case15 fn xs zs u ih1 ih2 =>
    rintro ⟨ys, vs, e, hs, hs2, hy, hz⟩
    rw [VR]; exact ⟨ys, vs, e, hs, hs2, fun i hi => let ⟨y, e, hv⟩ := hy i hi; ⟨y, e, ih1 i hi y hv⟩, fun i hi => let ⟨y, e, hv⟩ := hz i hi; ⟨y, e, ih2 i hi y hv⟩⟩
  | case16 k g o u => intro h1; simpa [VR] using h1
  | case17 u => intro h1; rw [VR]; exact h1
  | case18 j u => rintro ⟨n, x, hx, e⟩; rw [VR]; exact ⟨n, x, h _ _ hx, e⟩
  | case19 b u => rintro ⟨s, x, hx, e⟩; rw [VR]; exact ⟨s, x, h _ _ hx, e⟩
  | case20 => intro h1; exact h1.elim
theorem VR.one {ρ : Rho} {v u : Value} (h : VR ρ v u) (ho : one v = true) : one u = true := by
  cases v with
  | agg xs => simp [Am.one] at ho
  | tuple xs => simp [Am.one] at ho
  | chan r => simp [Am.one] at ho
  | bool b => rw [VR] at h; subst h; rfl
  | int k n => rw [VR] at h; subst h; rfl
  | string s => rw [VR] at h; subst h; rfl
  | pointer a =>
    cases a with
    | none => rw [VR] at h; subst h; rfl
    | some a => rw [VR] at h; obtain ⟨b, _, rfl⟩ := h; rfl
  | slice a n c =>
    rw [VR] at h
    cases a with
    | none => obtain ⟨_, rfl⟩ := h; rfl
    | some a => obtain ⟨b, cap, x, rfl, _⟩ := h; rfl
  | map r => cases r with
    | none => rw [VR] at h; subst h; rfl
    | some r => rw [VR] at h; obtain ⟨x, _, rfl⟩ := h; rfl
  | nilFunc => rw [VR] at h; subst h; rfl
  | nilIface => rw [VR] at h; subst h; rfl
  | iface t v => rw [VR] at h; obtain ⟨y, rfl, _⟩ := h; rfl
  | func fn xs zs => rw [VR] at h; obtain ⟨ys, vs, rfl, _⟩ := h; rfl
  | float k b =>
    cases k with
    | f32 => rw [VR] at h; obtain ⟨s, x, _, rfl, _⟩ := h; rfl
    | f64 => cases b with
      | zero => rw [VR] at h; obtain ⟨n, rfl, _⟩ := h; rfl
      | succ j => rw [VR] at h; obtain ⟨n, x, _, rfl, _⟩ := h; rfl
  | complex k a b => rw [VR] at h; subst h; rfl
/-- values one by one. -/
def L2 (ρ : Rho) (xs ys : List Value) : Prop := ys.length = xs.length ∧ ∀ (i : Nat) (v : Value), xs[i]? = some v → ∃ u, ys[i]? = some u ∧ VR ρ v u
theorem L2.mono {ρ ρ' : Rho} (h : Sub ρ ρ') {xs ys : List Value} (hl : L2 ρ xs ys) : L2 ρ' xs ys := ⟨hl.1, fun i v hv => let ⟨u, e, hu⟩ := hl.2 i v hv; ⟨u, e, hu.mono h⟩⟩
theorem L2.nil (ρ : Rho) : L2 ρ [] [] := ⟨rfl, fun i v h => by simp at h⟩
theorem L2.cons {ρ : Rho} {v u : Value} {xs ys : List Value} (h : VR ρ v u) (hl : L2 ρ xs ys) : L2 ρ (v :: xs) (u :: ys) := ⟨by simp [hl.1], fun i x hx => by
  cases i with
  | zero => simp at hx; subst hx; exact ⟨u, rfl, h⟩
  | succ i => simpa using hl.2 i x (by simpa using hx)⟩
theorem L2.inv {ρ : Rho} {v : Value} {xs zs : List Value} (h : L2 ρ (v :: xs) zs) : ∃ u ys, zs = u :: ys ∧ VR ρ v u ∧ L2 ρ xs ys := by
  match zs, h with
  | [], h => exact absurd h.1 (by simp)
  | u :: ys, h =>
    obtain ⟨u', e, hu⟩ := h.2 0 v rfl
    obtain rfl : u = u' := by simpa using e
    exact ⟨u, ys, rfl, hu, by simpa using h.1, fun i x hx => by simpa using h.2 (i + 1) x (by simpa using hx)⟩
theorem L2.append {ρ : Rho} : ∀ {xs ys zs vs : List Value}, L2 ρ xs ys → L2 ρ zs vs → L2 ρ (xs ++ zs) (ys ++ vs)
  | [], ys, zs, vs, h, k => by
    have : ys = [] := List.length_eq_zero_iff.1 h.1
    subst this; simpa using k
  | x :: xs, ys, zs, vs, h, k => by
    obtain ⟨u, ys, rfl, hu, hl⟩ := h.inv
    exact (hl.append k).cons hu
theorem L2.take {ρ : Rho} {xs ys : List Value} (h : L2 ρ xs ys) (n : Nat) : L2 ρ (xs.take n) (ys.take n) := ⟨by simp [h.1], fun i v hv => by
  rw [List.getElem?_take] at hv ⊢
  split at hv
  · rename_i hi; rw [if_pos hi]; exact h.2 i v hv
  · cases hv⟩
theorem L2.drop {ρ : Rho} {xs ys : List Value} (h : L2 ρ xs ys) (n : Nat) : L2 ρ (xs.drop n) (ys.drop n) := ⟨by simp [h.1], fun i v hv => by
  rw [List.getElem?_drop] at hv ⊢
  exact h.2 _ v hv⟩
theorem vr_agg {ρ : Rho} {xs : Array Value} {u : Value} : VR ρ (.agg xs) u ↔ ∃ ys : Array Value, u = .agg ys ∧ L2 ρ xs.toList ys.toList ∧ ∀ v ∈ xs.toList, one v = true := by
  rw [VR]
  constructor
  · rintro ⟨ys, rfl, hs, h⟩
    refine ⟨ys, rfl, ⟨by simpa using hs, fun i v hv => ?_⟩, fun v hv => ?_⟩
    · have hi : i < xs.size := by simpa using (List.getElem?_eq_some_iff.1 hv).1
      obtain ⟨y, e, hy⟩ := (h i hi).2
      have : xs[i] = v := by simpa [hi] using hv
      exact ⟨y, by simpa using e, this ▸ hy⟩
    · obtain ⟨i, hi, rfl⟩ := List.getElem_of_mem hv
      simpa using (h i (by simpa using hi)).1
  · rintro ⟨ys, rfl, hl, ho⟩
    refine ⟨ys, rfl, by simpa using hl.1, fun i hi => ⟨ho _ (by simp), ?_⟩⟩
    obtain ⟨u, e, hu⟩ := hl.2 i xs[i] (by simp [hi])
    exact ⟨u, by simpa using e, hu⟩
theorem vr_tuple {ρ : Rho} {xs : Array Value} {u : Value} : VR ρ (.tuple xs) u ↔ ∃ ys : Array Value, u = .tuple ys ∧ L2 ρ xs.toList ys.toList := by
  rw [VR]
  constructor
  · rintro ⟨ys, rfl, hs, h⟩
    refine ⟨ys, rfl, by simpa using hs, fun i v hv => ?_⟩
    have hi : i < xs.size := by simpa using (List.getElem?_eq_some_iff.1 hv).1
    obtain ⟨y, e, hy⟩ := h i hi
    have : xs[i] = v := by simpa [hi] using hv
    exact ⟨y, by simpa using e, this ▸ hy⟩
  · rintro ⟨ys, rfl, hl⟩
    refine ⟨ys, rfl, by simpa using hl.1, fun i hi => ?_⟩
    obtain ⟨u, e, hu⟩ := hl.2 i xs[i] (by simp [hi])
    exact ⟨u, by simpa using e, hu⟩
theorem arr_l2 {ρ : Rho} {xs ys : Array Value} : (ys.size = xs.size ∧ ∀ i (h : i < xs.size), ∃ y, ys[i]? = some y ∧ VR ρ xs[i] y) ↔ L2 ρ xs.toList ys.toList := by
  constructor
  · rintro ⟨hs, h⟩
    obtain ⟨zs, e, hl⟩ := vr_tuple.1 (by rw [VR]; exact ⟨ys, rfl, hs, h⟩ : VR ρ (.tuple xs) (.tuple ys))
    injection e with e
    exact e ▸ hl
  · intro h
    have := vr_tuple.2 ⟨ys, rfl, h⟩
    rw [VR] at this
    obtain ⟨zs, e, h1⟩ := this
    injection e with e
    exact e ▸ h1
theorem vr_func {ρ : Rho} {fn : Fn} {xs zs : Array Value} {u : Value} : VR ρ (.func fn xs zs) u ↔ ∃ ys vs : Array Value, u = .func fn ys vs ∧ L2 ρ xs.toList ys.toList ∧ L2 ρ zs.toList vs.toList := by
  rw [VR]
  constructor
  · rintro ⟨ys, vs, rfl, h1, h2, h3, h4⟩
    exact ⟨ys, vs, rfl, arr_l2.1 ⟨h1, h3⟩, arr_l2.1 ⟨h2, h4⟩⟩
  · rintro ⟨ys, vs, rfl, h1, h2⟩
    exact ⟨ys, vs, rfl, (arr_l2.2 h1).1, (arr_l2.2 h2).1, (arr_l2.2 h1).2, (arr_l2.2 h2).2⟩
/-- a constant is what it is. -/
theorem plain_vr {ρ : Rho} : ∀ {v : Value}, plain1 v = true → VR ρ v v ∧ one v = true
  | .int .., _ => ⟨by rw [VR], rfl⟩
  | .string .., _ => ⟨by rw [VR], rfl⟩
  | .bool .., _ => ⟨by rw [VR], rfl⟩
  | .pointer none, _ => ⟨by rw [VR], rfl⟩
  | .slice none 0 0, _ => ⟨by rw [VR]; exact ⟨rfl, rfl⟩, rfl⟩
  | .map none, _ => ⟨by rw [VR], rfl⟩
  | .nilFunc, _ => ⟨by rw [VR], rfl⟩
  | .nilIface, _ => ⟨by rw [VR], rfl⟩
theorem plains_l2 {ρ : Rho} {l : List Value} (h : ∀ v ∈ l, plain1 v = true) : L2 ρ l l := ⟨rfl, fun _ v hv => ⟨v, hv, (plain_vr (h v (List.mem_of_getElem? hv))).1⟩⟩
theorem const_vr {ρ : Rho} (v : Value) : VR ρ (constV v) v := by
  have hj : VR ρ junk v := by rw [VR]; trivial
  unfold constV
  split
  · rename_i cs
    rcases h : cs.toList.all plain1 with _ | _
    · exact hj
    · have h' := List.all_eq_true.1 h
      exact vr_agg.2 ⟨cs, rfl, plains_l2 h', fun v hv => (plain_vr (ρ := ρ) (h' v hv)).2⟩
  · rcases h : plain1 v with _ | _
    · exact hj
    · exact (plain_vr h).1
end Go.Proofs.YtcfekhcdadldmaaGreatDoor.Am
namespace Go.Proofs.YtcfekhcdadldmaaGreatDoor.Am
open Go
theorem forceN_eq (k : Nat → Bool) (n : Nat) : forceN k n = k n := by cases n <;> rfl
theorem forceI_eq (k : Int → Bool) (n : Int) : forceI k n = k n := by cases n <;> simp [forceI, forceN_eq]
theorem forceB_eq (k : Bool → Bool) (b : Bool) : forceB k b = k b := by cases b <;> rfl
theorem forceL_eq {α : Type} : ∀ (l : List α) (k : List α → Bool), forceL l k = k l
  | [], _ => rfl
  | a :: r, k => by rw [forceL, forceL_eq r]
theorem forceA_eq (k : Option Addr → Bool) (a : Option Addr) : forceA k a = k a := by cases a <;> simp [forceA, forceN_eq]
theorem forceV_eq (k : Value → Bool) (v : Value) : forceV k v = k v := by
  cases v <;> simp [forceV, forceN_eq, forceI_eq, forceB_eq, forceA_eq, forceS, forceL_eq]
theorem setK_eq : ∀ (t : List Value) (n : Nat) (v : Value) (k : List Value → Bool), setK t n v k = k (t.set n v)
  | [], _, _, _ => rfl
  | u :: r, 0, v, k => rfl
  | u :: r, n + 1, v, k => by rw [setK, setK_eq r n v]; rfl
theorem at?_eq : ∀ (t : List Value) (n : Nat), at? t n = t[n]?
  | [], _ => by simp [at?]
  | u :: r, 0 => rfl
  | u :: r, n + 1 => by rw [at?, at?_eq r n]; simp
theorem atD_eq : ∀ (t : List Value) (n : Nat), atD t n = t[n]?.getD undef
  | [], _ => by simp [atD]
  | u :: r, 0 => rfl
  | u :: r, n + 1 => by rw [atD, atD_eq r n]; simp
theorem takeN_eq : ∀ (t : List Value) (n : Nat), takeN t n = t.take n
  | [], _ => by simp [takeN]
  | u :: r, 0 => rfl
  | u :: r, n + 1 => by rw [takeN, takeN_eq r n]; rfl
theorem dropN_eq : ∀ (t : List Value) (n : Nat), dropN t n = t.drop n
  | [], _ => by simp [dropN]
  | u :: r, 0 => rfl
  | u :: r, n + 1 => by rw [dropN, dropN_eq r n]; rfl
/-- a frame. -/
structure TR (ρ : Rho) (t : List Value) (a : Act) : Prop where
  vals : L2 ρ t a.tmps.toList
  defers : a.defers = []
theorem TR.mono {ρ ρ' : Rho} (h : Sub ρ ρ') {t : List Value} {a : Act} (ht : TR ρ t a) : TR ρ' t a := ⟨ht.vals.mono h, ht.defers⟩
theorem undef_vr (ρ : Rho) : VR ρ undef undef := vr_tuple.2 ⟨#[], rfl, L2.nil _⟩
theorem TR.at {ρ : Rho} {t : List Value} {a : Act} (ht : TR ρ t a) (n : Nat) : VR ρ (atD t n) (a.tmps.getD n undef) := by
  rw [atD_eq, Array.getD_eq_getD_getElem?]
  cases h : t[n]? with
  | none =>
    have hl : t.length ≤ n := List.getElem?_eq_none_iff.1 h
    have : a.tmps[n]? = none := by
      rw [Array.getElem?_eq_none_iff]
      have := ht.vals.1
      simp at this; omega
    rw [this]; exact undef_vr ρ
  | some v =>
    obtain ⟨u, e, hu⟩ := ht.vals.2 n v h
    have : a.tmps[n]? = some u := by simpa using e
    rw [this]; exact hu
theorem TR.opv {ρ : Rho} {t : List Value} {a : Act} (ht : TR ρ t a) (x : Operand) : VR ρ (opv t x) (a.eval x) := by
  cases x with
  | tmp n => exact ht.at n
  | const v => exact const_vr v
  | global g => show VR ρ (.complex .f64 g 0) _; rw [VR]; rfl
  | func f => exact vr_func.2 ⟨#[], #[], rfl, L2.nil _, L2.nil _⟩
theorem L2.set {ρ : Rho} {xs ys : List Value} (h : L2 ρ xs ys) (n : Nat) {v u : Value} (hv : VR ρ v u) : L2 ρ (xs.set n v) (ys.set n u) := by
  refine ⟨by simp [h.1], fun i x hx => ?_⟩
  rw [List.getElem?_set] at hx ⊢
  by_cases hn : n = i
  · rw [if_pos hn] at hx ⊢
    split at hx
    · rename_i hl
      simp at hx; subst hx
      exact ⟨u, by rw [if_pos (by rw [h.1]; exact hl)], hv⟩
    · cases hx
  · rw [if_neg hn] at hx ⊢
    exact h.2 i x hx
theorem TR.put {ρ : Rho} {t : List Value} {a : Act} (ht : TR ρ t a) {v u : Value} (hv : VR ρ v u) (n : Nat) : TR ρ (t.set n v) (a.put (some n) u) :=
  ⟨by show L2 ρ _ (a.tmps.setIfInBounds n u).toList; rw [Array.toList_setIfInBounds]; exact ht.vals.set n hv, ht.defers⟩
theorem putK_ok {ρ : Rho} {t : List Value} {a : Act} (ht : TR ρ t a) {v u : Value} (hv : VR ρ v u) {d : Option Tmp} {k : List Value → Bool} (h : putK t d v k = true) : ∃ t', k t' = true ∧ TR ρ t' (a.put d u) := by
  cases d with
  | none => exact ⟨t, h, ht⟩
  | some n =>
    rw [putK] at h
    simp only [forceV_eq, setK_eq] at h
    exact ⟨_, h, ht.put hv n⟩
/-- the births of a map's entries. -/
def Born (cs : Array MapEntry) (clock : Nat) : Prop := (∀ x ∈ cs.toList, x.born < clock) ∧ (cs.toList.map (·.born)).Nodup
/-- an iterator and its map. -/
structure IR (n : Nat) (cur : Value) (left : List Nat) (cs : Array MapEntry) (clock since : Nat) (seen : Array Nat) (last : Nat) : Prop where
  le : n ≤ cs.size
  clk : clock + n = since + cs.size
  l1 : since ≤ last
  l2 : last ≤ clock
  old : ∀ i e, cs[i]? = some e → i < n → e.born < since
  left : ∀ i e, i < n → cs[i]? = some e → (i ∈ left ↔ seen.contains e.born = false)
  cur : ∀ i, cur = .int .i64 (.ofNat i) → ∃ (e : MapEntry) (seen0 : Array Nat), cs[i]? = some e ∧ i < n ∧ seen = seen0.push e.born
def ITm (ρ : Rho) (w : World) (b n : Nat) (cur : Value) (left : List Nat) : Option Nat → Prop
  | none => ∃ p q r, w.heap[b]? = some (.mapIter none p q r)
  | some m => ∃ (y : Nat × Nat × Nat) (cs : Array MapEntry) (clock since : Nat) (seen : Array Nat) (last : Nat), ρ m = some y ∧ w.heap[y.1]? = some (.map cs clock) ∧ Born cs clock ∧ w.heap[b]? = some (.mapIter (some y.1) since seen last) ∧ IR n cur left cs clock since seen last
def IT (ρ : Rho) (w : World) (es : List (Value × Value)) (b : Nat) : Prop := ∃ t n cur left, es = itList (.map t) n cur left ∧ ITm ρ w b n cur left t
def MM (ρ : Rho) (w : World) (es : List (Value × Value)) (b : Nat) : Prop := ∃ (cs : Array MapEntry) (clock : Nat), w.heap[b]? = some (.map cs clock) ∧ (cs.size = es.length ∧ Born cs clock ∧ isIt es = false) ∧ ∀ (i : Nat) (kv : Value × Value), es[i]? = some kv → ∃ e, cs[i]? = some e ∧ VR ρ kv.1 e.key ∧ VR ρ kv.2 e.val
def MR (ρ : Rho) (w : World) (es : List (Value × Value)) (b : Nat) : Prop := MM ρ w es b ∨ IT ρ w es b
def noCells (o : Obj) : Prop := ∀ c e f, o ≠ .cells c e f
theorem MR.nc {ρ : Rho} {w : World} {es : List (Value × Value)} {b : Nat} (h : MR ρ w es b) : ∃ o, w.heap[b]? = some o ∧ noCells o := by
  rcases h with ⟨cs, cl, h1, _⟩ | ⟨t, n, cur, left, _, h⟩
  · exact ⟨_, h1, fun _ _ _ e => by cases e⟩
  · cases t with
    | none => obtain ⟨p, q, r, h⟩ := h; exact ⟨_, h, fun _ _ _ e => by cases e⟩
    | some m => obtain ⟨y, cs, cl, si, se, la, _, _, _, h, _⟩ := h; exact ⟨_, h, fun _ _ _ e => by cases e⟩
theorem MR.no {ρ : Rho} {w : World} {es : List (Value × Value)} {b : Nat} (h : MR ρ w es b) {c : Array Value} {e : TypeId} {f : Nat × Nat} (hc : w.heap[b]? = some (.cells c e f)) : False := by
  obtain ⟨o, h1, h2⟩ := h.nc
  rw [hc] at h1
  obtain rfl := Option.some.inj h1
  exact h2 _ _ _ rfl
theorem MR.keep {ρ ρ' : Rho} {w w' : World} {es : List (Value × Value)} {b : Nat} (h : MR ρ w es b) (hs : Sub ρ ρ') (hk : ∀ (k : Nat) (o : Obj), w.heap[k]? = some o → noCells o → w'.heap[k]? = some o) : MR ρ' w' es b := by
  rcases h with ⟨cs, cl, h1, h2, h3⟩ | ⟨t, n, cur, left, he, h⟩
  · exact .inl ⟨cs, cl, hk _ _ h1 (fun _ _ _ e => by cases e), h2, fun i kv hi => let ⟨e, a, b, c⟩ := h3 i kv hi; ⟨e, a, b.mono hs, c.mono hs⟩⟩
  · refine .inr ⟨t, n, cur, left, he, ?_⟩
    cases t with
    | none => obtain ⟨p, q, r, h⟩ := h; exact ⟨p, q, r, hk _ _ h (fun _ _ _ e => by cases e)⟩
    | some m =>
      obtain ⟨y, cs, cl, si, se, la, g1, g2, g3, g4, g5⟩ := h
      exact ⟨y, cs, cl, si, se, la, hs _ _ g1, hk _ _ g2 (fun _ _ _ e => by cases e), g3, hk _ _ g4 (fun _ _ _ e => by cases e), g5⟩
/-- what a run may do to a map. -/
structure MStep (cs : Array MapEntry) (cl : Nat) (cs' : Array MapEntry) (cl' : Nat) : Prop where
  size : cs.size ≤ cs'.size
  clk : cl' + cs.size = cl + cs'.size
  born : ∀ (i : Nat) (e : MapEntry), cs[i]? = some e → ∃ e' : MapEntry, cs'[i]? = some e' ∧ e'.born = e.born
  ok : Born cs cl → Born cs' cl'
theorem MStep.refl (cs : Array MapEntry) (cl : Nat) : MStep cs cl cs cl := ⟨Nat.le_refl _, rfl, fun _ e h => ⟨e, h, rfl⟩, id⟩
theorem MStep.trans {a b c : Array MapEntry} {x y z : Nat} (h : MStep a x b y) (k : MStep b y c z) : MStep a x c z :=
  ⟨Nat.le_trans h.size k.size, by have := h.clk; have := k.clk; omega, fun i e he => let ⟨e1, h1, h2⟩ := h.born i e he; let ⟨e2, h3, h4⟩ := k.born i e1 h1; ⟨e2, h3, h4.trans h2⟩, fun hb => k.ok (h.ok hb)⟩
theorem IR.step {n : Nat} {cur : Value} {left : List Nat} {cs cs' : Array MapEntry} {cl cl' si : Nat} {se : Array Nat} {la : Nat} (h : IR n cur left cs cl si se la) (k : MStep cs cl cs' cl') : IR n cur left cs' cl' si se la := by
  have h1 := h.le
  have h2 := h.clk
  have h3 := h.l2
  have k1 := k.size
  have k2 := k.clk
  have hb : ∀ (i : Nat) (e' : MapEntry), i < n → cs'[i]? = some e' → ∃ e : MapEntry, cs[i]? = some e ∧ e'.born = e.born := fun i e' hi he => by
    have hlt : i < cs.size := by omega
    obtain ⟨e1, g1, g2⟩ := k.born i cs[i] (Array.getElem?_eq_getElem hlt)
    rw [he] at g1
    obtain rfl := Option.some.inj g1
    exact ⟨cs[i], Array.getElem?_eq_getElem hlt, g2⟩
  refine ⟨by omega, by omega, h.l1, by omega, fun i e' he hi => ?_, fun i e' hi he => ?_, fun i hi => ?_⟩
  · obtain ⟨e, g1, g2⟩ := hb i e' hi he
    rw [g2]; exact h.old i e g1 hi
  · obtain ⟨e, g1, g2⟩ := hb i e' hi he
    rw [g2]; exact h.left i e hi g1
  · obtain ⟨e, s0, g1, g2, g3⟩ := h.cur i hi
    obtain ⟨e', g4, g5⟩ := k.born i e g1
    exact ⟨e', s0, g4, g2, by rw [g3, g5]⟩
/-- the tables as they lie. -/
def isG (g : Nat) : Bool := ((gtab g).isSome || (gobj g).isSome) || gifc g
structure GlobOk (w : World) : Prop where
  tab : ∀ (g : Nat) (cs : List Value), gtab g = some cs → ∃ (c : Array Value) (e : TypeId) (f : Nat × Nat), w.heap[g]? = some (.cells c e f) ∧ c.toList = cs ∧ ∀ v ∈ cs, plain1 v = true
  obj : ∀ (g : Nat) (cs : List Value), gobj g = some cs → ∃ (c : Array Value) (e : TypeId) (f : Nat × Nat), w.heap[g]? = some (.cells c e f) ∧ c.toList = cs
  ifc : ∀ g, gifc g = true → ∃ (t : TypeId) (p : Value) (e : TypeId) (f : Nat × Nat), w.heap[g]? = some (.cells #[.iface t p] e f)
theorem isG_tab {g : Nat} {cs : List Value} (h : gtab g = some cs) : isG g = true := by unfold isG; rw [h]; rfl
theorem isG_obj {g : Nat} {cs : List Value} (h : gobj g = some cs) : isG g = true := by unfold isG; rw [h]; simp
theorem isG_ifc {g : Nat} (h : gifc g = true) : isG g = true := by unfold isG; rw [h]; simp
theorem GlobOk.lt {w : World} (h : GlobOk w) {g : Nat} (hg : isG g = true) : g < w.heap.size := by
  unfold isG at hg
  rw [Bool.or_eq_true, Bool.or_eq_true] at hg
  rcases hg with (hg | hg) | hg
  · obtain ⟨cs, hg⟩ := Option.isSome_iff_exists.1 hg
    obtain ⟨c, e, f, h1, _⟩ := h.tab g cs hg
    exact (Array.getElem?_eq_some_iff.1 h1).1
  · obtain ⟨cs, hg⟩ := Option.isSome_iff_exists.1 hg
    obtain ⟨c, e, f, h1, _⟩ := h.obj g cs hg
    exact (Array.getElem?_eq_some_iff.1 h1).1
  · obtain ⟨t, p, e, f, h1⟩ := h.ifc g hg
    exact (Array.getElem?_eq_some_iff.1 h1).1
theorem GlobOk.keep {w w' : World} (h : GlobOk w) (hk : ∀ (k : Nat), k < w.heap.size → isG k = true → w'.heap[k]? = w.heap[k]?) : GlobOk w' :=
  ⟨fun g cs hg => let ⟨c, e, f, h1, h2⟩ := h.tab g cs hg; ⟨c, e, f, (hk g (h.lt (isG_tab hg)) (isG_tab hg)).trans h1, h2⟩,
   fun g cs hg => let ⟨c, e, f, h1, h2⟩ := h.obj g cs hg; ⟨c, e, f, (hk g (h.lt (isG_obj hg)) (isG_obj hg)).trans h1, h2⟩,
   fun g hg => let ⟨t, p, e, f, h1⟩ := h.ifc g hg; ⟨t, p, e, f, (hk g (h.lt (isG_ifc hg)) (isG_ifc hg)).trans h1⟩⟩
theorem GlobOk.new {w : World} (h : GlobOk w) {b : Nat} (hb : w.heap.size ≤ b) : isG b = false := by
  cases hg : isG b with
  | false => rfl
  | true => exact absurd (h.lt hg) (by omega)
/-- the rows as they lie. -/
structure R (ρ : Rho) (s : St) (w : World) : Prop where
  dom : ∀ n, s.c ≤ n → ρ n = none
  lt : ∀ n x, ρ n = some x → x.1 < w.heap.size
  rows : ∀ n r, s.get n = some r → ∃ (x : Nat × Nat × Nat) (c : Array Value), ρ n = some x ∧ w.heap[x.1]? = some (.cells c r.elem) ∧ c.size = x.2.1 ∧ r.cells.length ≤ x.2.1 ∧ L2 ρ r.cells (c.toList.take r.cells.length) ∧ (∀ v ∈ r.cells, one v = true) ∧ x.2.2 = r.sz ∧ (r.sz = 0 → r.cells.length = x.2.1)
  maps : ∀ n es, s.gm n = some es → ∃ x : Nat × Nat × Nat, ρ n = some x ∧ MR ρ w es x.1
  injm : ∀ n m es fs x y, s.gm n = some es → s.gm m = some fs → ρ n = some x → ρ m = some y → x.1 = y.1 → n = m
  inj : ∀ n m r q x y, s.get n = some r → s.get m = some q → ρ n = some x → ρ m = some y → x.1 = y.1 → n = m
  gl : GlobOk w
  lo : ∀ n x, ρ n = some x → isG x.1 = false
  it : s.m.it = false → ∀ n es, s.gm n = some es → isIt es = false
/-- the blocks of the rows. -/
def Own (ρ : Rho) (s : St) (k : Nat) : Prop := ∃ n x, ((∃ r, s.get n = some r) ∨ ∃ es, s.gm n = some es) ∧ ρ n = some x ∧ x.1 = k
/-- what a run leaves as it was. -/
structure Ext (ρ : Rho) (s : St) (w : World) (ρ' : Rho) (s' : St) (w' : World) : Prop where
  le : s.c ≤ s'.c
  sub : Sub ρ ρ'
  size : w.heap.size ≤ w'.heap.size
  os : w'.os = w.os
  tape : w'.tape = w.tape
  output : w'.output = w.output
  frame : ∀ k, k < w.heap.size → ¬ Own ρ s k → w'.heap[k]? = w.heap[k]?
  own : ∀ k, Own ρ' s' k → Own ρ s k ∨ w.heap.size ≤ k
  old : ∀ n, n < s.c → ρ' n = ρ n
theorem Ext.refl (ρ : Rho) (s : St) (w : World) : Ext ρ s w ρ s w := ⟨Nat.le_refl _, fun _ _ h => h, Nat.le_refl _, rfl, rfl, rfl, fun _ _ _ => rfl, fun _ h => .inl h, fun _ _ => rfl⟩
theorem Ext.trans {ρ ρ1 ρ2 : Rho} {s s1 s2 : St} {w w1 w2 : World} (h : Ext ρ s w ρ1 s1 w1) (k : Ext ρ1 s1 w1 ρ2 s2 w2) : Ext ρ s w ρ2 s2 w2 :=
  ⟨Nat.le_trans h.le k.le, fun n x hx => k.sub n x (h.sub n x hx), Nat.le_trans h.size k.size, k.os.trans h.os, k.tape.trans h.tape, k.output.trans h.output,
    fun j hj ho => (k.frame j (Nat.lt_of_lt_of_le hj h.size) (fun ho' => by rcases h.own j ho' with h1 | h1; exact ho h1; omega)).trans (h.frame j hj ho),
    fun j hj => by
      rcases k.own j hj with h1 | h1
      · exact h.own j h1
      · exact .inr (Nat.le_trans h.size h1),
    fun n hn => (k.old n (Nat.lt_of_lt_of_le hn h.le)).trans (h.old n hn)⟩
theorem Ext.drew {ρ : Rho} {s : St} {w : World} : Ext ρ s w ρ s w.drew := ⟨Nat.le_refl _, fun _ _ h => h, Nat.le_refl _, rfl, rfl, rfl, fun _ _ _ => rfl, fun _ h => .inl h, fun _ _ => rfl⟩
theorem R.drew {ρ : Rho} {s : St} {w : World} (h : R ρ s w) : R ρ s w.drew := ⟨h.dom, h.lt, h.rows, h.maps, h.injm, h.inj, ⟨h.gl.tab, h.gl.obj, h.gl.ifc⟩, h.lo, h.it⟩
end Go.Proofs.YtcfekhcdadldmaaGreatDoor.Am
set_option linter.unusedSimpArgs false
set_option maxRecDepth 4000
namespace Go.Proofs.YtcfekhcdadldmaaGreatDoor.Am
open Go
theorem blt_iff (a b : Nat) : Nat.blt a b = true ↔ a < b := by simp [Nat.blt]; omega
theorem cond_or {b : Bool} {x y : Int} (h : b = true → x = y) : cond b x y = y := by
  cases b
  · rfl
  · exact h rfl
theorem wrapF_eq (k : IntKind) (n : Int) : wrapF k n = k.wrap n := by
  cases k with
  | i64 => cases n with
    | ofNat m =>
      refine cond_or fun h => ?_
      have := (blt_iff _ _).1 h
      rw [IntKind.wrap_i64, Int.ofNat_eq_natCast]
      omega
    | negSucc m =>
      refine cond_or fun h => ?_
      have := (blt_iff _ _).1 h
      rw [IntKind.wrap_i64]
      omega
  | u8 => cases n with
    | ofNat m =>
      refine cond_or fun h => ?_
      have := (blt_iff _ _).1 h
      simp only [IntKind.wrap, IntKind.bits, IntKind.signed]
      simp
      omega
    | negSucc m => rfl
  | _ => rfl
theorem intEq_eq (a b : Int) : intEq a b = (a == b) := by
  rw [Bool.eq_iff_iff, beq_iff_eq]
  cases a <;> cases b <;> simp [intEq] <;> omega
theorem intLt_eq (a b : Int) : intLt a b = decide (a < b) := by
  rw [Bool.eq_iff_iff, decide_eq_true_eq]
  have h1 : ∀ n : Nat, Int.ofNat n = (n : Int) := fun _ => rfl
  cases a <;> cases b <;> simp only [intLt, blt_iff, h1, Int.negSucc_eq, reduceCtorEq, false_iff, true_iff] <;> omega
theorem kindEq_eq {a b : IntKind} (h : kindEq a b = true) : a = b := by
  cases a <;> cases b <;> first | rfl | (simp [kindEq, IntKind.ctorIdx] at h)
theorem bytesEq_eq : ∀ (a b : List UInt8), bytesEq a b = (a == b)
  | [], [] => rfl
  | [], _ :: _ => rfl
  | _ :: _, [] => rfl
  | a :: x, b :: y => by
    rw [bytesEq]
    cases h : Nat.beq a.toNat b.toNat with
    | true =>
      have : a = b := UInt8.toNat_inj.1 (Nat.eq_of_beq_eq_true h)
      subst this
      simp [bytesEq_eq x y]
    | false =>
      have : ¬ a = b := fun e => by rw [e] at h; simp at h
      simp [this]
/-- pointers among a key's parts are to what has a size. -/
def PtrOk (P : Program) (d : TypeDesc) : Prop := ∀ e, d = .pointer e → ∃ i, P.info? e = some i ∧ i.size ≠ 0
/-- what the program says of types. -/
structure Good (P : Program) (E : Env) : Prop where
  und : ∀ t d, E.und t = some d → P.underlying t = some d
  size : ∀ t n, E.size t = some n → ∃ i, P.info? t = some i ∧ i.size = n
  fields : ∀ t fs, E.und t = some (.struct fs) → ∀ f ∈ fs.toList, ∃ i, P.info? f.type = some i
  zv : ∀ t z, E.zv t = some z → (∃ i, P.info? t = some i ∧ i.zero = some z) ∧ ∀ ρ : Rho, VR ρ z z
  sk : ∀ t ds, E.sk t = some ds → P.eqGuardType P.depth t = false ∧ ((∃ fs : Array Field, (∀ d ∈ ds, PtrOk P d) ∧ P.underlying t = some (.struct fs) ∧ P.stoodInHeld t = false ∧ fs.toList.length = ds.length ∧ ∀ (i : Nat) (f : Field), fs.toList[i]? = some f → f.name ≠ "_" ∧ f.offset = i ∧ ∃ d, ds[i]? = some d ∧ P.underlying f.type = some d) ∨ (∃ (len : Nat) (e : TypeId) (d : TypeDesc) (i : TypeInfo), P.underlying t = some (.array len e) ∧ P.underlying e = some d ∧ P.info? e = some i ∧ i.size = 1 ∧ ds = List.replicate len d ∧ PtrOk P d) ∨ ∃ (len : Nat) (e : TypeId) (fs : Array Field) (ds0 : List TypeDesc) (i : TypeInfo), P.underlying t = some (.array len e) ∧ P.underlying e = some (.struct fs) ∧ P.stoodInHeld e = false ∧ fs.toList.length = ds0.length ∧ (∀ (i : Nat) (f : Field), fs.toList[i]? = some f → f.name ≠ "_" ∧ f.offset = i ∧ ∃ d, ds0[i]? = some d ∧ P.underlying f.type = some d) ∧ P.info? e = some i ∧ i.size = ds0.length ∧ ds = (List.replicate len ds0).flatten ∧ ∀ d ∈ ds0, PtrOk P d)
  xt : ∀ f g, E.xt f = some g → ∀ l v, g l = some v → ∀ (ρ : Rho) (us : List Value) (w : World), L2 ρ l us → ∃ u, (callFunc f us.toArray).run P w = .ok (.value u) w ∧ VR ρ v u
  mo : ∀ t name p, E.mo t name = some p → (∃ e, P.underlying t = some (.pointer e)) ∧ ∀ (b o : Nat) (w : World), (method (P.types.size + Made.depth) t (.pointer (some ⟨b, o, none⟩)) name).run P w = .ok (p.1, .pointer (some ⟨b, o + p.2, none⟩)) w
  lies : ∀ e n o u, E.lies e n o u = true → liesAt P P.depth e (n / P.cellsOf e) o u 1 = true
  zero : ∀ t l, E.zero t = some l → ∃ i z, P.info? t = some i ∧ i.zero = some z ∧ z.cells.toList = l ∧ i.size = l.length ∧ i.bytes ≤ 1000 ∧ ∀ v ∈ l, plain1 v = true
theorem run_sizeOf {P : Program} {t : TypeId} {i : TypeInfo} (h : P.info? t = some i) (w : World) : (sizeOf t).run P w = .ok i.size w := by simp [sizeOf, typeInfo, h]
section
variable {P : Program} {E : Env} {ρ : Rho} {w : World}
theorem bin_int {op : BinOp} {ty : TypeId} {k : IntKind} {a b : Int} {v : Value} {x y : Operand} (h : binI op k a b = some v) : (do eqGuard op ty x y (.int k a) (.int k b); binOp op ty (.int k a) (.int k b) : Sem Value).run P w = .ok v w ∧ VR ρ v v := by
  have hg : (eqGuard op ty x y (.int k a) (.int k b)).run P w = .ok () w := by
    unfold eqGuard; cases op <;> simp
  rw [Sem.run_bind, hg, Result.andThen_ok]
  cases op <;> simp only [binI, reduceCtorEq, Option.some.injEq] at h
  all_goals first
    | (subst h; refine ⟨?_, by rw [VR]⟩; simp [binOp, Op.intArith, Op.intCmp, wrapF_eq, intEq_eq, intLt_eq]; done)
    | (subst h; refine ⟨?_, by rw [VR]⟩; simp [binOp, Op.intArith, Op.intCmp, wrapF_eq, intEq_eq, intLt_eq, bne]; done)
    | (subst h; refine ⟨?_, by rw [VR]⟩; simp [binOp, Op.intArith, Op.intCmp, wrapF_eq, intEq_eq, intLt_eq, bne]; rw [Bool.eq_iff_iff]; simp; done)
    | (subst h; refine ⟨?_, by rw [VR]⟩; simp [binOp, Op.intBits]; done)
    | (cases hb : intEq b 0 with
        | true => rw [hb] at h; cases h
        | false =>
          rw [hb] at h
          simp only [cond_false, Option.some.injEq] at h
          subst h
          have : ¬ b = 0 := by rw [intEq_eq] at hb; simpa using hb
          refine ⟨?_, by rw [VR]⟩
          simp [binOp, Op.intDiv, wrapF_eq, this])
theorem bin_sh {op : BinOp} {ty : TypeId} {k k2 : IntKind} {a b : Int} {v : Value} {x y : Operand} (h : shV op k a b = some v) : (do eqGuard op ty x y (.int k a) (.int k2 b); binOp op ty (.int k a) (.int k2 b) : Sem Value).run P w = .ok v w ∧ VR ρ v v := by
  have hg : (eqGuard op ty x y (.int k a) (.int k2 b)).run P w = .ok () w := by
    unfold eqGuard; cases op <;> simp
  rw [Sem.run_bind, hg, Result.andThen_ok]
  cases b with
  | negSucc n => cases h
  | ofNat n =>
    have hn : ¬ (Int.ofNat n) < 0 := by simp
    cases op <;> simp only [shV, reduceCtorEq, Option.some.injEq] at h
    all_goals (subst h; refine ⟨?_, by rw [VR]⟩; simp [binOp, Op.shift]; intro h9; omega)
theorem bin_str {op : BinOp} {ty : TypeId} {a b : ByteArray} {v : Value} {x y : Operand} (h : binS op a.data.toList b.data.toList = some v) : (do eqGuard op ty x y (.string a) (.string b); binOp op ty (.string a) (.string b) : Sem Value).run P w = .ok v w ∧ VR ρ v v := by
  have hg : (eqGuard op ty x y (.string a) (.string b)).run P w = .ok () w := by
    unfold eqGuard; cases op <;> simp
  rw [Sem.run_bind, hg, Result.andThen_ok]
  cases op <;> simp only [binS, reduceCtorEq, Option.some.injEq] at h
  all_goals first
    | (subst h; refine ⟨?_, by rw [VR]⟩; simp [binOp, Op.stringOp, ByteArray.toList_eq, bytesEq_eq]; done)
    | (cases hb : Nat.blt (a.data.toList.length + b.data.toList.length) 4611686018427387904 with
        | false => rw [hb] at h; cases h
        | true =>
          rw [hb] at h
          simp only [cond_true, Option.some.injEq] at h
          subst h
          have hl := (blt_iff _ _).1 hb
          refine ⟨?_, by rw [VR]⟩
          have e : a ++ b = ⟨⟨a.data.toList ++ b.data.toList⟩⟩ := by
            cases a with | mk a => cases b with | mk b => cases a with | mk a => cases b with | mk b => exact ByteArray.mk_append_mk a b
          have hs : a.size + b.size ≤ 9223372036854775807 := by
            have h1 : a.size = a.data.toList.length := by cases a; rfl
            have h2 : b.size = b.data.toList.length := by cases b; rfl
            omega
          rw [← e]
          simp only [binOp]
          exact run_string_add_sum w a b hs)
def noAr : Value → Bool
  | .int .. => false
  | .string _ => false
  | .float .. => false
  | .complex .. => false
  | _ => true
theorem eq_run {ty : TypeId} {d : TypeDesc} (hd : P.underlying ty = some d) {c : Bool} {x y x' y' : Value} {b : Bool} (h : eqV c (some d) x y = some b) (hx : VR ρ x x') (hy : VR ρ y y') (op : BinOp) (hop : op = .eql ∨ op = .neq) {ox oy : Operand} (hc : c = true → isC ox = true ∨ isC oy = true) :
    (eqGuard op ty ox oy x' y').run P w = .ok () w ∧ (Op.equal ty x' y').run P w = .ok b w ∧ noAr x' = true := by
  have hq : ∀ (p q : Value), (∀ v, p ≠ .agg v) → (p ≠ .nilIface ∨ q ≠ .nilIface) → (eqGuard op ty ox oy p q).run P w = .ok () w := fun p q h1 h2 => by
    unfold eqGuard
    rcases hop with rfl | rfl <;> simp <;> split <;> first | rfl | (simp_all; done)
  have B : ∀ {v u : Value}, VR ρ v u → (∀ b, v = .bool b → u = .bool b) ∧ (v = .pointer none → u = .pointer none) ∧ (∀ a, v = .pointer (some a) → ∃ b, u = .pointer (some b)) ∧ (v = .nilIface → u = .nilIface) ∧ (∀ t x, v = .iface t x → ∃ y, u = .iface t y) ∧ (∀ n c, v = .slice none n c → u = .slice none 0 0) ∧ (∀ a n c, v = .slice (some a) n c → ∃ b k, u = .slice (some b) n k) ∧ (v = .map none → u = .map none) ∧ (v = .nilFunc → u = .nilFunc) ∧ (∀ f p q, v = .func f p q → ∃ p' q', u = .func f p' q') ∧ (∀ n, v = .map (some n) → ∃ m, u = .map (some m)) := by
    intro v u hv
    refine ⟨?_, ?_, ?_, ?_, ?_, ?_, ?_, ?_, ?_, ?_, ?_⟩
    · rintro b rfl; rw [VR] at hv; exact hv
    · rintro rfl; rw [VR] at hv; exact hv
    · rintro a rfl; rw [VR] at hv; obtain ⟨b, _, rfl⟩ := hv; exact ⟨b, rfl⟩
    · rintro rfl; rw [VR] at hv; exact hv
    · rintro t x rfl; rw [VR] at hv; obtain ⟨y, rfl, _⟩ := hv; exact ⟨y, rfl⟩
    · rintro n c rfl; rw [VR] at hv; exact hv.2
    · rintro a n c rfl; rw [VR] at hv; obtain ⟨b, k, _, rfl, _⟩ := hv; exact ⟨b, k, rfl⟩
    · rintro rfl; rw [VR] at hv; exact hv
    · rintro rfl; rw [VR] at hv; exact hv
    · rintro f p q rfl; obtain ⟨p', q', rfl, _⟩ := vr_func.1 hv; exact ⟨p', q', rfl⟩
    · rintro n rfl; rw [VR] at hv; obtain ⟨m, _, rfl⟩ := hv; exact ⟨m.1, rfl⟩
  obtain ⟨x1, x2, x3, x4, x5, x6, x7, x8, x9, x10, x11⟩ := B hx
  obtain ⟨y1, y2, y3, y4, y5, y6, y7, y8, y9, y10, y11⟩ := B hy
  have fin : ∀ {p q : Value} {r : Bool}, x' = p → y' = q → (∀ v, p ≠ .agg v) → (p ≠ .nilIface ∨ q ≠ .nilIface) → (∀ d, (Op.equalIn (d + 1) ty p q).run P w = .ok r w) → noAr p = true → r = b → (eqGuard op ty ox oy x' y').run P w = .ok () w ∧ (Op.equal ty x' y').run P w = .ok b w ∧ noAr x' = true := by
    rintro p q r rfl rfl h1 h2 h3 h4 rfl
    exact ⟨hq _ _ h1 h2, h3 9999, h4⟩
  unfold eqV at h
  split at h
  case h_1 e =>
    obtain rfl := Option.some.inj e
    simp only [Option.some.injEq] at h
    exact fin (x1 _ rfl) (y1 _ rfl) (fun _ => by simp) (.inl (by simp)) (fun d => by simp [Op.equalIn, run_underlying hd]) rfl h
  case h_2 bb e =>
    obtain rfl := Option.some.inj e
    simp only [Option.some.injEq] at h
    cases bb with
    | none => exact fin (x2 rfl) (y2 rfl) (fun _ => by simp) (.inl (by simp)) (fun d => by simp [Op.equalIn, run_underlying hd]) rfl h
    | some q =>
      obtain ⟨q', hq'⟩ := y3 _ rfl
      exact fin (x2 rfl) hq' (fun _ => by simp) (.inl (by simp)) (fun d => by simp [Op.equalIn, run_underlying hd]) rfl h
  case h_3 e =>
    obtain rfl := Option.some.inj e
    simp only [Option.some.injEq] at h
    obtain ⟨p', hp'⟩ := x3 _ rfl
    exact fin hp' (y2 rfl) (fun _ => by simp) (.inl (by simp)) (fun d => by simp [Op.equalIn, run_underlying hd]) rfl h
  case h_4 e =>
    obtain rfl := Option.some.inj e
    cases c with
    | false => cases h
    | true =>
      simp only [cond_true, Option.some.injEq] at h
      subst h
      rw [x4 rfl, y4 rfl]
      refine ⟨?_, (fun d => by simp [Op.equalIn, run_underlying hd] : ∀ d, (Op.equalIn (d + 1) ty .nilIface .nilIface).run P w = .ok true w) 9999, rfl⟩
      unfold eqGuard
      rcases hop with rfl | rfl <;> rcases hc rfl with h1 | h1 <;> (cases ox <;> cases oy <;> simp [isC] at h1 ⊢)
  case h_5 e =>
    obtain rfl := Option.some.inj e
    simp only [Option.some.injEq] at h
    obtain ⟨p', hp'⟩ := y5 _ _ rfl
    exact fin (x4 rfl) hp' (fun _ => by simp) (.inr (by simp)) (fun d => by simp [Op.equalIn, run_underlying hd]) rfl h
  case h_6 e =>
    obtain rfl := Option.some.inj e
    simp only [Option.some.injEq] at h
    obtain ⟨p', hp'⟩ := x5 _ _ rfl
    exact fin hp' (y4 rfl) (fun _ => by simp) (.inl (by simp)) (fun d => by simp [Op.equalIn, run_underlying hd]) rfl h
  case h_7 bb n k e =>
    obtain rfl := Option.some.inj e
    simp only [Option.some.injEq] at h
    cases bb with
    | none => exact fin (x6 _ _ rfl) (y6 _ _ rfl) (fun _ => by simp) (.inl (by simp)) (fun d => by simp [Op.equalIn, run_underlying hd]) rfl h
    | some q =>
      obtain ⟨q', k', hq'⟩ := y7 _ _ _ rfl
      exact fin (x6 _ _ rfl) hq' (fun _ => by simp) (.inl (by simp)) (fun d => by simp [Op.equalIn, run_underlying hd]) rfl h
  case h_8 e =>
    obtain rfl := Option.some.inj e
    simp only [Option.some.injEq] at h
    obtain ⟨p', k', hp'⟩ := x7 _ _ _ rfl
    exact fin hp' (y6 _ _ rfl) (fun _ => by simp) (.inl (by simp)) (fun d => by simp [Op.equalIn, run_underlying hd]) rfl h
  case h_9 bb e =>
    obtain rfl := Option.some.inj e
    simp only [Option.some.injEq] at h
    cases bb with
    | none => exact fin (x8 rfl) (y8 rfl) (fun _ => by simp) (.inl (by simp)) (fun d => by simp [Op.equalIn, run_underlying hd]) rfl h
    | some q =>
      obtain ⟨q', hq'⟩ := y11 _ rfl
      exact fin (x8 rfl) hq' (fun _ => by simp) (.inl (by simp)) (fun d => by simp [Op.equalIn, run_underlying hd]) rfl h
  case h_10 e =>
    obtain rfl := Option.some.inj e
    simp only [Option.some.injEq] at h
    obtain ⟨p', hp'⟩ := x11 _ rfl
    exact fin hp' (y8 rfl) (fun _ => by simp) (.inl (by simp)) (fun d => by simp [Op.equalIn, run_underlying hd]) rfl h
  case h_11 e =>
    obtain rfl := Option.some.inj e
    simp only [Option.some.injEq] at h
    exact fin (x9 rfl) (y9 rfl) (fun _ => by simp) (.inl (by simp)) (fun d => by simp [Op.equalIn, run_underlying hd]) rfl h
  case h_12 e =>
    obtain rfl := Option.some.inj e
    simp only [Option.some.injEq] at h
    obtain ⟨p', k', hp'⟩ := y10 _ _ _ rfl
    exact fin (x9 rfl) hp' (fun _ => by simp) (.inl (by simp)) (fun d => by simp [Op.equalIn, run_underlying hd]) rfl h
  case h_13 e =>
    obtain rfl := Option.some.inj e
    simp only [Option.some.injEq] at h
    obtain ⟨p', k', hp'⟩ := x10 _ _ _ rfl
    exact fin hp' (y9 rfl) (fun _ => by simp) (.inl (by simp)) (fun d => by simp [Op.equalIn, run_underlying hd]) rfl h
  case h_14 => cases h
/-- two values, a sign between them. -/
theorem ba_beq (a b : ByteArray) : (a == b) = bytesEq a.data.toList b.data.toList := by
  rw [bytesEq_eq, Bool.eq_iff_iff]
  have h1 : (a == b) = true ↔ a = b := by
    show (a.data == b.data) = true ↔ _
    rw [beq_iff_eq, ByteArray.ext_iff]
  rw [h1, beq_iff_eq]
  constructor
  · rintro rfl; rfl
  · intro h
    cases a with | mk a => cases b with | mk b => exact congrArg ByteArray.mk (Array.ext' h)
theorem vr_ptr0 {u : Value} (h : VR ρ (.pointer none) u) : u = .pointer none := by rw [VR] at h; exact h
theorem vr_ptr1 {a : Addr} {u : Value} (h : VR ρ (.pointer (some a)) u) : ∃ x, ρ a.block = some x ∧ u = .pointer (some ⟨x.1, a.off, none⟩) := by
  rw [VR] at h
  obtain ⟨b, ⟨x, hx, rfl⟩, rfl⟩ := h
  exact ⟨x, hx, rfl⟩
/-- what has a row lies in blocks of their own. -/
def AlOk (ρ : Rho) (w : World) (al : Nat → Bool) : Prop := ∀ n m x y, al n = true → al m = true → ρ n = some x → ρ m = some y → n ≠ m → x.1 ≠ y.1 ∧ (∃ c e, w.heap[x.1]? = some (.cells c e)) ∧ ∃ c e, w.heap[y.1]? = some (.cells c e)
theorem AlOk.non : AlOk ρ w (fun _ => false) := fun _ _ _ _ h => by cases h
theorem al_row {s : St} {n : Nat} (h : s.al n = true) : ∃ r, s.get n = some r := by
  unfold St.al isRow at h
  split at h
  · rename_i r hr; exact ⟨r, hr⟩
  · cases h
theorem AlOk.of {s : St} (hR : R ρ s w) : AlOk ρ w s.al := fun n m x y h1 h2 hx hy hne => by
  obtain ⟨r, hr⟩ := al_row h1
  obtain ⟨q, hq⟩ := al_row h2
  obtain ⟨x', c, e1, e2, _⟩ := hR.rows n r hr
  obtain ⟨y', d, f1, f2, _⟩ := hR.rows m q hq
  rw [hx] at e1
  rw [hy] at f1
  obtain rfl := Option.some.inj e1
  obtain rfl := Option.some.inj f1
  exact ⟨fun e => hne (hR.inj n m r q x y hr hq hx hy e), ⟨c, _, e2⟩, d, _, f2⟩
theorem keyFits_u {d : TypeDesc} {v u : Value} (h : keyFits d v = true) (hv : VR ρ v u) : keyFits d u = true := by
  unfold keyFits at h
  split at h
  · rw [VR] at hv; rw [hv]; rfl
  · rw [VR] at hv; rw [hv]; rfl
  · rw [VR] at hv; rw [hv]; rfl
  · rename_i a
    cases a with
    | none => rw [vr_ptr0 hv]; rfl
    | some a => obtain ⟨x, _, rfl⟩ := vr_ptr1 hv; rfl
  · cases h
theorem fitL_u : ∀ {ds : List TypeDesc} {xs ys : List Value}, fitL ds xs = true → L2 ρ xs ys → fitL ds ys = true
  | [], [], ys, _, h => by rw [List.length_eq_zero_iff.1 h.1]; rfl
  | [], _ :: _, _, h, _ => by cases h
  | _ :: _, [], _, h, _ => by cases h
  | d :: ds, x :: xs, ys, h, hl => by
    obtain ⟨u, zs, rfl, h1, h2⟩ := hl.inv
    rw [fitL] at h
    cases hf : keyFits d x with
    | false => rw [hf] at h; cases h
    | true =>
      rw [hf] at h
      rw [fitL, keyFits_u hf h1]
      exact fitL_u (h : fitL ds xs = true) h2
theorem fit1_und {v : Value} {o : Option TypeDesc} (h : fit1 v o = true) : ∃ d, o = some d ∧ keyFits d v = true ∧ ∀ e, d ≠ .pointer e := by
  unfold fit1 at h
  split at h
  · cases h
  · rename_i d hd
    exact ⟨d, rfl, h, fun e he => hd e (by rw [he])⟩
  · cases h
theorem keyFits_same {d : TypeDesc} {v u : Value} (h : keyFits d v = true) (hn : ∀ e, d ≠ .pointer e) (hv : VR ρ v u) : u = v := by
  unfold keyFits at h
  split at h
  · rw [VR] at hv; exact hv
  · rw [VR] at hv; exact hv
  · rw [VR] at hv; exact hv
  · exact absurd rfl (hn _)
  · cases h
theorem keyFit_u {kt : TypeId} {v u : Value} (h : keyFit E kt v = true) (hv : VR ρ v u) : keyFit E kt u = true := by
  unfold keyFit at h
  split at h
  · rename_i xs
    obtain ⟨ys, rfl, hl⟩ := vr_agg.1 hv
    cases hs : E.sk kt with
    | none => rw [hs] at h; cases h
    | some ds =>
      rw [hs] at h
      unfold keyFit
      rw [hs]
      exact fitL_u (h : fitL ds xs.toList = true) hl.1
  · rename_i hne
    obtain ⟨d, hd, hk, hn⟩ := fit1_und h
    obtain rfl := keyFits_same hk hn hv
    unfold keyFit
    split
    · exact absurd rfl (hne _)
    · exact h
theorem keyEq1_vr {al : Nat → Bool} {v v' u u' : Value} (h : keyEq1 al v v' = some true) (hu : VR ρ v u) (hu' : VR ρ v' u') : u = u' := by
  unfold keyEq1 at h
  split at h
  · rename_i k a k' b
    cases hk : kindEq k k' with
    | false => rw [hk] at h; cases h
    | true =>
      rw [hk] at h
      simp only [cond_true, Option.some.injEq, intEq_eq, beq_iff_eq] at h
      rw [VR] at hu hu'
      rw [hu, hu', kindEq_eq hk, h]
  · rename_i a b
    simp only [Option.some.injEq, bytesEq_eq, beq_iff_eq] at h
    rw [VR] at hu
    rw [VR] at hu'
    rw [hu, hu']
    cases a with | mk a => cases b with | mk b => exact congrArg (fun z => Value.string ⟨z⟩) (Array.ext' h)
  · simp only [Option.some.injEq, beq_iff_eq] at h
    rw [VR] at hu
    rw [VR] at hu'
    rw [hu, hu', h]
  · rename_i a b
    unfold ptrEq at h
    split at h
    · simp only [Option.some.injEq, Option.isNone_iff_eq_none] at h
      subst h
      rw [vr_ptr0 hu, vr_ptr0 hu']
    · cases h
    · rename_i a b
      obtain ⟨x, hx, rfl⟩ := vr_ptr1 hu
      obtain ⟨y, hy, rfl⟩ := vr_ptr1 hu'
      cases hb : Nat.beq a.block b.block with
      | false =>
        rw [hb] at h
        cases hc : (al a.block && al b.block) with
        | false => rw [hc] at h; cases h
        | true => rw [hc] at h; cases h
      | true =>
        rw [hb] at h
        simp only [cond_true, Option.some.injEq] at h
        rw [Nat.eq_of_beq_eq_true hb, hy] at hx
        rw [Option.some.inj hx, Nat.eq_of_beq_eq_true h]
  · cases h
theorem lenQ_len : ∀ {x y : List Value} {b : Bool}, lenQ x y = some b → x.length = y.length ∧ b = false
  | [], [], _, h => ⟨rfl, (Option.some.inj h).symm⟩
  | [], _ :: _, _, h => by cases h
  | _ :: _, [], _, h => by cases h
  | a :: x, c :: y, b, h => by
    obtain ⟨h1, h2⟩ := lenQ_len (x := x) (y := y) (b := b) h
    exact ⟨by simp [h1], h2⟩
theorem keyEqL_vr {al : Nat → Bool} : ∀ {x y u z : List Value}, keyEqL al x y = some true → L2 ρ x u → L2 ρ y z → u = z
  | [], [], u, z, _, h1, h2 => by rw [List.length_eq_zero_iff.1 h1.1, List.length_eq_zero_iff.1 h2.1]
  | [], _ :: _, _, _, h, _, _ => by cases h
  | _ :: _, [], _, _, h, _, _ => by cases h
  | a :: x, b :: y, u, z, h, h1, h2 => by
    obtain ⟨u0, us, rfl, p1, p2⟩ := h1.inv
    obtain ⟨z0, zs, rfl, q1, q2⟩ := h2.inv
    rw [keyEqL] at h
    split at h
    · rename_i he
      rw [keyEq1_vr he p1 q1, keyEqL_vr h p2 q2]
    · cases (lenQ_len h).2
    · cases h
theorem keyEq_vr {al : Nat → Bool} {v v' u u' : Value} (h : keyEq al v v' = some true) (hu : VR ρ v u) (hu' : VR ρ v' u') : u = u' := by
  unfold keyEq at h
  split at h
  · split at h
    · obtain ⟨us, rfl, l1⟩ := vr_agg.1 hu
      obtain ⟨zs, rfl, l2⟩ := vr_agg.1 hu'
      exact congrArg Value.agg (Array.ext' (keyEqL_vr h l1.1 l2.1))
    · cases h
  · exact keyEq1_vr h hu hu'
theorem sameBits_fits {d : TypeDesc} {v : Value} (h : keyFits d v = true) (n : Nat) : Instr.sameBits n v v = true := by
  unfold keyFits at h
  split at h
  · cases n <;> simp [Instr.sameBits]
  · cases n <;> simp [Instr.sameBits, ba_beq, bytesEq_eq]
  · cases n <;> simp [Instr.sameBits]
  · cases n <;> simp [Instr.sameBits]
  · cases h
theorem sameBits_l (n : Nat) : ∀ {ds : List TypeDesc} {xs : List Value}, fitL ds xs = true → ((xs.zip xs).all fun (x, y) => Instr.sameBits n x y) = true
  | [], [], _ => rfl
  | [], _ :: _, h => by cases h
  | _ :: _, [], h => by cases h
  | d :: ds, x :: xs, h => by
    rw [fitL] at h
    cases hf : keyFits d x with
    | false => rw [hf] at h; cases h
    | true =>
      rw [hf] at h
      have := sameBits_l n (h : fitL ds xs = true)
      simp only [List.zip_cons_cons, List.all_cons, sameBits_fits hf n, Bool.true_and]
      exact this
theorem sameBits_self {kt : TypeId} {v : Value} (h : keyFit E kt v = true) : Instr.sameBits 10000 v v = true := by
  unfold keyFit at h
  split at h
  · rename_i xs
    cases hs : E.sk kt with
    | none => rw [hs] at h; cases h
    | some ds =>
      rw [hs] at h
      simp only [Instr.sameBits, beq_self_eq_true, Bool.true_and]
      exact sameBits_l 9999 (h : fitL ds xs.toList = true)
  · obtain ⟨d, _, hk, _⟩ := fit1_und h
    exact sameBits_fits hk 10000
theorem part_key2 {d : TypeDesc} {kt : TypeId} {u v : Value} {xs : Array Value} {i : Nat} (hd : P.underlying kt = some d) (h : keyFits d v = true) (hx : xs[i]? = some u) : (part kt xs i).run P w = .ok u w := by
  unfold keyFits at h
  split at h
  · simp [part, isAgg, run_underlying hd, hx]
  · simp [part, isAgg, run_underlying hd, hx]
  · simp [part, isAgg, run_underlying hd, hx]
  · simp [part, isAgg, run_underlying hd, hx]
  · cases h
theorem part_key {d : TypeDesc} {kt : TypeId} {v : Value} {xs : Array Value} {i : Nat} (hd : P.underlying kt = some d) (h : keyFits d v = true) (hx : xs[i]? = some v) : (part kt xs i).run P w = .ok v w := part_key2 hd h hx
theorem equal1 {al : Nat → Bool} {d : TypeDesc} {kt : TypeId} {v v' u u' : Value} {b : Bool} (hd : P.underlying kt = some d) (h : keyFits d v = true) (hp : PtrOk P d) (hA : AlOk ρ w al) (he : keyEq1 al v v' = some b) (hu : VR ρ v u) (hv : VR ρ v' u') (n : Nat) : (Op.equalIn (n + 1) kt u u').run P w = .ok b w := by
  unfold keyFits at h
  split at h
  · cases v' with
    | int k' n' =>
      rw [VR] at hv; subst hv
      rw [VR] at hu; subst hu
      simp only [keyEq1] at he
      rename_i _ k m
      cases hk : kindEq k k' with
      | false => rw [hk] at he; cases he
      | true =>
        rw [hk] at he
        simp only [cond_true, Option.some.injEq] at he
        obtain rfl := kindEq_eq hk
        simp [Op.equalIn, run_underlying hd, ← he, intEq_eq]
    | _ => simp [keyEq1] at he
  · cases v' with
    | string b' =>
      rw [VR] at hv; subst hv
      rw [VR] at hu; subst hu
      simp only [keyEq1, Option.some.injEq] at he
      simp [Op.equalIn, run_underlying hd, ← he, ba_beq]
    | _ => simp [keyEq1] at he
  · cases v' with
    | bool b' =>
      rw [VR] at hv; subst hv
      rw [VR] at hu; subst hu
      simp only [keyEq1, Option.some.injEq] at he
      simp [Op.equalIn, run_underlying hd, ← he]
    | _ => simp [keyEq1] at he
  · rename_i te a
    cases v' with
    | pointer a' =>
      simp only [keyEq1] at he
      unfold ptrEq at he
      split at he
      · rw [vr_ptr0 hu]
        simp only [Option.some.injEq] at he
        cases a' with
        | none => rw [vr_ptr0 hv]; simp [Op.equalIn, run_underlying hd, ← he]
        | some b' => obtain ⟨y, hy, rfl⟩ := vr_ptr1 hv; simp [Op.equalIn, run_underlying hd, ← he]
      · rw [vr_ptr0 hv]
        simp only [Option.some.injEq] at he
        obtain ⟨x, hx, rfl⟩ := vr_ptr1 hu
        simp [Op.equalIn, run_underlying hd, ← he]
      · rename_i a b'
        obtain ⟨x, hx, rfl⟩ := vr_ptr1 hu
        obtain ⟨y, hy, rfl⟩ := vr_ptr1 hv
        obtain ⟨i, hi, hsz⟩ := hp te rfl
        have key : (sameAddr ⟨x.1, a.off, none⟩ ⟨y.1, b'.off, none⟩).run P w = .ok b w := by
          cases hb : Nat.beq a.block b'.block with
          | true =>
            rw [hb] at he
            simp only [cond_true, Option.some.injEq] at he
            rw [Nat.eq_of_beq_eq_true hb, hy] at hx
            obtain rfl := Option.some.inj hx
            have e : ((⟨y.1, a.off, none⟩ : Addr) == ⟨y.1, b'.off, none⟩) = b := by
              rw [← he, Bool.eq_iff_iff, beq_iff_eq, Addr.mk.injEq]
              constructor
              · rintro ⟨_, e, _⟩; rw [e]; exact Nat.beq_refl _
              · intro e; exact ⟨rfl, Nat.eq_of_beq_eq_true e, rfl⟩
            simp [sameAddr, e]
          | false =>
            rw [hb] at he
            simp only [cond_false] at he
            cases hc : (al a.block && al b'.block) with
            | false => rw [hc] at he; cases he
            | true =>
              rw [hc] at he
              simp only [cond_true, Option.some.injEq] at he
              simp only [Bool.and_eq_true] at hc
              obtain ⟨hne, ⟨c1, e1, g1⟩, c2, e2, g2⟩ := hA _ _ _ _ hc.1 hc.2 hx hy (fun e => by rw [e, Nat.beq_refl] at hb; cases hb)
              rw [← he]
              exact run_sameAddr_other w (a := ⟨x.1, a.off, none⟩) (b := ⟨y.1, b'.off, none⟩) (fun e => hne (by simpa using congrArg Addr.block e)) g1 g2
        simp [Op.equalIn, run_underlying hd, run_sizeOf hi, hsz, key]
    | _ => simp [keyEq1] at he
  · cases h
theorem eqFields_run {al : Nat → Bool} (hA : AlOk ρ w al) (X Y : Array Value) (n : Nat) : ∀ (fs : List Field) (ds : List TypeDesc) (xs us ys zs : List Value) (off : Nat) (b : Bool), fs.length = ds.length → (∀ (i : Nat) (f : Field), fs[i]? = some f → f.name ≠ "_" ∧ f.offset = off + i ∧ ∃ d, ds[i]? = some d ∧ P.underlying f.type = some d) → (∀ d ∈ ds, PtrOk P d) → (∀ (i : Nat) v, us[i]? = some v → X[off + i]? = some v) → (∀ (i : Nat) v, zs[i]? = some v → Y[off + i]? = some v) → fitL ds xs = true → keyEqL al xs ys = some b → L2 ρ xs us → L2 ρ ys zs → (Op.eqFields (n + 1) X Y fs).run P w = .ok b w
  | [], ds, xs, us, ys, zs, off, b, hl, _, _, _, _, hf, he, _, hL => by
    have : ds = [] := List.length_eq_zero_iff.1 (by simpa using hl.symm)
    subst this
    cases xs with
    | cons x xs => cases hf
    | nil =>
      cases ys with
      | cons y ys => cases he
      | nil =>
        obtain rfl := Option.some.inj he
        simp [Op.eqFields]
  | f :: fs, [], _, _, _, _, _, _, hl, _, _, _, _, _, _, _, _ => by simp at hl
  | f :: fs, d :: ds, [], _, _, _, _, _, _, _, _, _, _, hf, _, _, _ => by cases hf
  | f :: fs, d :: ds, x :: xs, _, [], _, _, _, _, _, _, _, _, _, he, _, _ => by cases he
  | f :: fs, d :: ds, x :: xs, us, y :: ys, zs, off, b, hl, hfs, hpt, hX, hY, hf, he, hU, hL => by
    obtain ⟨u, zs, rfl, h1, h2⟩ := hL.inv
    obtain ⟨u1, us, rfl, k1, k2⟩ := hU.inv
    obtain ⟨f1, f2, d', f3, f4⟩ := hfs 0 f rfl
    simp only [List.getElem?_cons_zero, Option.some.injEq] at f3
    subst f3
    rw [fitL] at hf
    cases hk : keyFits d x with
    | false => rw [hk] at hf; cases hf
    | true =>
      rw [hk] at hf
      have p1 := part_key2 (w := w) f4 hk (hX 0 u1 rfl)
      have p2 := part_key2 (w := w) f4 hk (hY 0 u rfl)
      rw [keyEqL] at he
      rw [Op.eqFields, if_pos f1, f2]
      split at he
      · rename_i hq
        have p3 := equal1 (w := w) f4 hk (hpt d (by simp)) hA hq k1 h1 n
        simp only [Sem.run_bind, p1, p2, p3, Result.andThen_ok, Bool.not_true, Bool.false_eq_true, if_false]
        exact eqFields_run hA X Y n fs ds xs us ys zs (off + 1) b (by simpa using hl) (fun i f hi => by
          have := hfs (i + 1) f (by simpa using hi)
          rw [show off + 1 + i = off + (i + 1) by omega]
          simpa using this) (fun d hd => hpt d (by simp [hd])) (fun i v hi => by rw [show off + 1 + i = off + (i + 1) by omega]; exact hX (i + 1) v (by simpa using hi)) (fun i v hi => by rw [show off + 1 + i = off + (i + 1) by omega]; exact hY (i + 1) v (by simpa using hi)) hf he k2 h2
      · rename_i hq
        obtain rfl := (lenQ_len he).2
        have p3 := equal1 (w := w) f4 hk (hpt d (by simp)) hA hq k1 h1 n
        simp only [Sem.run_bind, p1, p2, p3, Result.andThen_ok, Bool.not_false, if_true, Sem.run_pure]
      · cases he
theorem eqItems_run {al : Nat → Bool} (hA : AlOk ρ w al) (X Y : Array Value) (n : Nat) {e : TypeId} {d : TypeDesc} (hd : P.underlying e = some d) (hpt : PtrOk P d) (hc : P.cellsOf e = 1) : ∀ (len off : Nat) (xs us ys zs : List Value) (b : Bool), (∀ (i : Nat) v, us[i]? = some v → X[off + i]? = some v) → (∀ (i : Nat) v, zs[i]? = some v → Y[off + i]? = some v) → fitL (List.replicate len d) xs = true → keyEqL al xs ys = some b → L2 ρ xs us → L2 ρ ys zs → (Op.eqItems (n + 1) e (P.cellsOf e) X Y (List.range' off len)).run P w = .ok b w
  | 0, off, xs, us, ys, zs, b, _, _, hf, he, _, _ => by
    cases xs with
    | cons x xs => cases hf
    | nil =>
      cases ys with
      | cons y ys => cases he
      | nil =>
        obtain rfl := Option.some.inj he
        simp [Op.eqItems]
  | len + 1, off, [], _, _, _, _, _, _, hf, _, _, _ => by cases hf
  | len + 1, off, x :: xs, _, [], _, _, _, _, _, he, _, _ => by cases he
  | len + 1, off, x :: xs, us, y :: ys, zs, b, hX, hY, hf, he, hU, hL => by
    obtain ⟨u, zs, rfl, h1, h2⟩ := hL.inv
    obtain ⟨u1, us, rfl, k1, k2⟩ := hU.inv
    rw [List.replicate_succ, fitL] at hf
    cases hk : keyFits d x with
    | false => rw [hk] at hf; cases hf
    | true =>
      rw [hk] at hf
      have p1 := part_key2 (w := w) hd hk (hX 0 u1 rfl)
      have p2 := part_key2 (w := w) hd hk (hY 0 u rfl)
      rw [keyEqL] at he
      simp only [Nat.add_zero] at p1 p2
      rw [List.range'_succ, Op.eqItems, hc, Nat.mul_one]
      split at he
      · rename_i hq
        have p3 := equal1 (w := w) hd hk hpt hA hq k1 h1 n
        simp only [Sem.run_bind, p1, p2, p3, Result.andThen_ok, Bool.not_true, Bool.false_eq_true, if_false]
        have ih := eqItems_run hA X Y n hd hpt hc len (off + 1) xs us ys zs b (fun i v hi => by rw [show off + 1 + i = off + (i + 1) by omega]; exact hX (i + 1) v (by simpa using hi)) (fun i v hi => by rw [show off + 1 + i = off + (i + 1) by omega]; exact hY (i + 1) v (by simpa using hi)) hf he k2 h2
        rw [hc] at ih
        exact ih
      · rename_i hq
        obtain rfl := (lenQ_len he).2
        have p3 := equal1 (w := w) hd hk hpt hA hq k1 h1 n
        simp only [Sem.run_bind, p1, p2, p3, Result.andThen_ok, Bool.not_false, if_true, Sem.run_pure]
      · cases he
theorem cells_one {e : TypeId} {i : TypeInfo} (h : P.info? e = some i) (hs : i.size = 1) : P.cellsOf e = 1 := by simp [Program.cellsOf, h, hs]
theorem fields_of {kt : TypeId} {fs : Array Field} (h : P.underlying kt = some (.struct fs)) : P.fieldsOf kt = fs := by simp [Program.fieldsOf, h]
/- an array of structs: their parts one behind the other. -/
theorem lenQ_app : ∀ {x x2 y y2 : List Value} {b : Bool}, x.length = y.length → lenQ (x ++ x2) (y ++ y2) = some b → lenQ x y = some false ∧ b = false
  | [], _, [], _, _, _, h => ⟨rfl, (lenQ_len h).2⟩
  | [], _, _ :: _, _, _, hl, _ => by simp at hl
  | _ :: _, _, [], _, _, hl, _ => by simp at hl
  | a :: x, x2, c :: y, y2, b, hl, h => lenQ_app (x := x) (y := y) (by simpa using hl) h
theorem keyEqL_app {al : Nat → Bool} : ∀ {x x2 y y2 : List Value} {b : Bool}, x.length = y.length → keyEqL al (x ++ x2) (y ++ y2) = some b → (keyEqL al x y = some false ∧ b = false) ∨ (keyEqL al x y = some true ∧ keyEqL al x2 y2 = some b)
  | [], x2, [], y2, b, _, h => .inr ⟨rfl, h⟩
  | [], _, _ :: _, _, _, hl, _ => by simp at hl
  | _ :: _, _, [], _, _, hl, _ => by simp at hl
  | a :: x, x2, c :: y, y2, b, hl, h => by
    simp only [List.cons_append] at h
    rw [keyEqL] at h
    rw [keyEqL]
    split at h
    · exact keyEqL_app (by simpa using hl) h
    · exact .inl (lenQ_app (by simpa using hl) h)
    · cases h
theorem fitL_len : ∀ {ds : List TypeDesc} {xs : List Value}, fitL ds xs = true → xs.length = ds.length
  | [], [], _ => rfl
  | [], _ :: _, h => by cases h
  | _ :: _, [], h => by cases h
  | d :: ds, x :: xs, h => by
    rw [fitL] at h
    cases hf : keyFits d x with
    | false => rw [hf] at h; cases h
    | true => rw [hf] at h; simp [fitL_len (h : fitL ds xs = true)]
theorem fitL_app : ∀ {ds ds2 : List TypeDesc} {xs : List Value}, fitL (ds ++ ds2) xs = true → ∃ x y, xs = x ++ y ∧ fitL ds x = true ∧ fitL ds2 y = true
  | [], _, xs, h => ⟨[], xs, rfl, rfl, h⟩
  | _ :: _, _, [], h => by cases h
  | d :: ds, ds2, x :: xs, h => by
    simp only [List.cons_append] at h
    rw [fitL] at h
    cases hf : keyFits d x with
    | false => rw [hf] at h; cases h
    | true =>
      rw [hf] at h
      obtain ⟨y, z, rfl, h1, h2⟩ := fitL_app (h : fitL (ds ++ ds2) xs = true)
      exact ⟨x :: y, z, rfl, by rw [fitL, hf]; exact h1, h2⟩
theorem L2.split : ∀ {x y us : List Value}, L2 ρ (x ++ y) us → ∃ u v, us = u ++ v ∧ L2 ρ x u ∧ L2 ρ y v
  | [], y, us, h => ⟨[], us, rfl, L2.nil ρ, h⟩
  | a :: x, y, us, h => by
    obtain ⟨u, zs, rfl, h1, h2⟩ := L2.inv (h : L2 ρ (a :: (x ++ y)) us)
    obtain ⟨p, q, rfl, h3, h4⟩ := L2.split h2
    exact ⟨u :: p, q, rfl, h3.cons h1, h4⟩
theorem keyEqL_len {al : Nat → Bool} : ∀ {x y : List Value} {b : Bool}, keyEqL al x y = some b → x.length = y.length
  | [], [], _, _ => rfl
  | [], _ :: _, _, h => by cases h
  | _ :: _, [], _, h => by cases h
  | a :: x, c :: y, b, h => by
    rw [keyEqL] at h
    split at h
    · simp [keyEqL_len h]
    · simp [(lenQ_len h).1]
    · cases h
theorem extract_of {X : Array Value} {off : Nat} {us : List Value} (h : ∀ (i : Nat) v, us[i]? = some v → X[off + i]? = some v) : X.extract off (off + us.length) = us.toArray := by
  apply Array.ext'
  apply List.ext_getElem?
  intro i
  rw [Array.getElem?_toList, Array.getElem?_extract]
  simp only [Array.getElem?_toList, List.getElem?_toArray]
  by_cases hi : i < us.length
  · have e := h i us[i] (List.getElem?_eq_getElem hi)
    have hlt := (Array.getElem?_eq_some_iff.1 e).1
    rw [if_pos (by omega), e, List.getElem?_eq_getElem hi]
  · rw [if_neg (by omega), List.getElem?_eq_none (by omega)]
theorem part_struct {e : TypeId} {fs : Array Field} {i : TypeInfo} {X : Array Value} {off : Nat} {us : List Value} (hd : P.underlying e = some (.struct fs)) (hi : P.info? e = some i) (hs : i.size = us.length) (h : ∀ (i : Nat) v, us[i]? = some v → X[off + i]? = some v) : (part e X off).run P w = .ok (.agg us.toArray) w := by
  simp [part, isAgg, run_underlying hd, run_sizeOf hi, hs, extract_of h]
theorem eqStructs_run {al : Nat → Bool} (hA : AlOk ρ w al) (X Y : Array Value) (n : Nat) {e : TypeId} {fs : Array Field} {ds : List TypeDesc} {i : TypeInfo} (hd : P.underlying e = some (.struct fs)) (hst : P.stoodInHeld e = false) (hl : fs.toList.length = ds.length) (hfs : ∀ (i : Nat) (f : Field), fs.toList[i]? = some f → f.name ≠ "_" ∧ f.offset = i ∧ ∃ d, ds[i]? = some d ∧ P.underlying f.type = some d) (hpt : ∀ d ∈ ds, PtrOk P d) (hi : P.info? e = some i) (hs : i.size = ds.length) :
    ∀ (len off : Nat) (xs us ys zs : List Value) (b : Bool), (∀ (i : Nat) v, us[i]? = some v → X[off * ds.length + i]? = some v) → (∀ (i : Nat) v, zs[i]? = some v → Y[off * ds.length + i]? = some v) → fitL (List.replicate len ds).flatten xs = true → keyEqL al xs ys = some b → L2 ρ xs us → L2 ρ ys zs → (Op.eqItems (n + 2) e (P.cellsOf e) X Y (List.range' off len)).run P w = .ok b w
  | 0, off, xs, us, ys, zs, b, _, _, hf, he, _, _ => by
    cases xs with
    | cons x xs => cases hf
    | nil =>
      cases ys with
      | cons y ys => cases he
      | nil =>
        obtain rfl := Option.some.inj he
        simp [Op.eqItems]
  | len + 1, off, xs, us, ys, zs, b, hX, hY, hf, he, hU, hL => by
    have hlen := keyEqL_len he
    rw [List.replicate_succ, List.flatten_cons] at hf
    obtain ⟨x1, x2, rfl, f1, f2⟩ := fitL_app hf
    obtain ⟨u1, u2, rfl, g1, g2⟩ := hU.split
    have hx1 := fitL_len f1
    have hu1 : u1.length = ds.length := by rw [g1.1, hx1]
    obtain ⟨y1, y2, rfl, hy1⟩ : ∃ y1 y2, ys = y1 ++ y2 ∧ y1.length = ds.length := ⟨ys.take ds.length, ys.drop ds.length, (List.take_append_drop _ _).symm, by rw [List.length_take]; simp at hlen; omega⟩
    obtain ⟨z1, z2, rfl, h1, h2⟩ := hL.split
    have hz1 : z1.length = ds.length := by rw [h1.1, hy1]
    have hc : P.cellsOf e = ds.length := by simp [Program.cellsOf, hi, hs]
    have hX1 : ∀ (i : Nat) v, u1[i]? = some v → X[off * ds.length + i]? = some v := fun i v hv => hX i v (by rw [List.getElem?_append_left (List.getElem?_eq_some_iff.1 hv).1]; exact hv)
    have hY1 : ∀ (i : Nat) v, z1[i]? = some v → Y[off * ds.length + i]? = some v := fun i v hv => hY i v (by rw [List.getElem?_append_left (List.getElem?_eq_some_iff.1 hv).1]; exact hv)
    have p1 := part_struct (w := w) hd hi (by rw [hs, hu1]) hX1
    have p2 := part_struct (w := w) hd hi (by rw [hs, hz1]) hY1
    have p3 : ∀ b1, keyEqL al x1 y1 = some b1 → (Op.equalIn (n + 2) e (.agg u1.toArray) (.agg z1.toArray)).run P w = .ok b1 w := fun b1 hb1 => by
      rw [run_equalIn_struct w _ e _ _ (by rw [fields_of hd]; exact hd) hst, fields_of hd]
      exact eqFields_run hA u1.toArray z1.toArray n fs.toList ds x1 u1 y1 z1 0 b1 hl (fun i f hi => by simpa using hfs i f hi) hpt (fun i v hi => by simpa using hi) (fun i v hi => by simpa using hi) f1 hb1 g1 h1
    rw [List.range'_succ, Op.eqItems, hc]
    rcases keyEqL_app (by rw [hx1, hy1]) he with ⟨k1, rfl⟩ | ⟨k1, k2⟩
    · simp only [Sem.run_bind, p1, p2, p3 _ k1, Result.andThen_ok, Bool.not_false, if_true, Sem.run_pure]
    · simp only [Sem.run_bind, p1, p2, p3 _ k1, Result.andThen_ok, Bool.not_true, Bool.false_eq_true, if_false]
      have ih := eqStructs_run hA X Y n hd hst hl hfs hpt hi hs len (off + 1) x2 u2 y2 z2 b (fun i v hv => by
        have := hX (ds.length + i) v (by rw [List.getElem?_append_right (by omega), show ds.length + i - u1.length = i by omega]; exact hv)
        rw [Nat.add_mul, Nat.one_mul, Nat.add_assoc]; exact this) (fun i v hv => by
        have := hY (ds.length + i) v (by rw [List.getElem?_append_right (by omega), show ds.length + i - z1.length = i by omega]; exact hv)
        rw [Nat.add_mul, Nat.one_mul, Nat.add_assoc]; exact this) f2 k2 g2 h2
      rw [hc] at ih
      exact ih
theorem equal_key (g : Good P E) {al : Nat → Bool} (hA : AlOk ρ w al) {kt : TypeId} {v v' u u' : Value} {b : Bool} (hf : keyFit E kt v = true) (he : keyEq al v v' = some b) (hu : VR ρ v u) (hv : VR ρ v' u') : (Op.equal kt u u').run P w = .ok b w := by
  unfold keyFit at hf
  split at hf
  · rename_i xs
    cases hs : E.sk kt with
    | none => rw [hs] at hf; cases hf
    | some ds =>
      rw [hs] at hf
      obtain ⟨_, gs⟩ := g.sk _ _ hs
      simp only [keyEq] at he
      split at he
      · rename_i ys
        obtain ⟨us, rfl, hU⟩ := vr_agg.1 hu
        obtain ⟨zs, rfl, hl⟩ := vr_agg.1 hv
        rcases gs with ⟨fs, hpt, g1, g2, g3, g4⟩ | ⟨len, e, d, i, g1, g2, g3, g4, rfl, hpt⟩ | ⟨len, e, fs, ds0, i, g1, g2, g3, g4, g5, g6, g7, rfl, hpt⟩
        · rw [Op.equal, show Op.maxDepth = 9998 + 1 + 1 from rfl, run_equalIn_struct w _ kt us zs (by rw [fields_of g1]; exact g1) g2, fields_of g1]
          exact eqFields_run hA us zs 9998 fs.toList ds xs.toList us.toList ys.toList zs.toList 0 b g3 (fun i f hi => by simpa using g4 i f hi) hpt (fun i v hi => by simpa using hi) (fun i v hi => by simpa using hi) hf he hU.1 hl.1
        · rw [Op.equal, show Op.maxDepth = 9998 + 1 + 1 from rfl, run_equalIn_array w _ us zs g1 g3, List.range_eq_range']
          exact eqItems_run hA us zs 9998 g2 hpt (cells_one g3 g4) len 0 xs.toList us.toList ys.toList zs.toList b (fun i v hi => by simpa using hi) (fun i v hi => by simpa using hi) hf he hU.1 hl.1
        · rw [Op.equal, show Op.maxDepth = 9997 + 2 + 1 from rfl, run_equalIn_array w _ us zs g1 g6, List.range_eq_range']
          exact eqStructs_run hA us zs 9997 g2 g3 g4 g5 hpt g6 g7 len 0 xs.toList us.toList ys.toList zs.toList b (fun i v hi => by simpa using hi) (fun i v hi => by simpa using hi) hf he hU.1 hl.1
      · cases he
  · rename_i hne
    obtain ⟨d, hd, hk, hn⟩ := fit1_und hf
    have he1 : keyEq1 al v v' = some b := by
      unfold keyEq at he
      split at he
      · exact absurd rfl (hne _)
      · exact he
    exact equal1 (g.und _ _ hd) hk (fun e h => absurd h (hn e)) hA he1 hu hv 9999
theorem bin_run (g : Good P E) {op : BinOp} {ty : TypeId} {x y x' y' v : Value} {ox oy : Operand} (h : binV E op ty (isC ox || isC oy) x y = some v) (hx : VR ρ x x') (hy : VR ρ y y') :
    ∃ u, (do eqGuard op ty ox oy x' y'; binOp op ty x' y' : Sem Value).run P w = .ok u w ∧ VR ρ v u := by
  have other : (∀ k a, x ≠ .int k a) → (∀ a, x ≠ .string a) → eqB op (eqV (isC ox || isC oy) (E.und ty) x y) = some v → ∃ u, (do eqGuard op ty ox oy x' y'; binOp op ty x' y' : Sem Value).run P w = .ok u w ∧ VR ρ v u := fun _ _ h => by
    cases hd : E.und ty with
    | none => rw [hd] at h; simp [eqV, eqB] at h
    | some d =>
      rw [hd] at h
      cases hb : eqV (isC ox || isC oy) (some d) x y with
      | none => rw [hb] at h; simp [eqB] at h
      | some b =>
        rw [hb] at h
        have hop : op = .eql ∨ op = .neq := by cases op <;> simp [eqB] at h <;> simp
        obtain ⟨r1, r2, r3⟩ := eq_run (w := w) (g.und _ _ hd) hb hx hy op hop (ox := ox) (oy := oy) (fun e => by simpa using e)
        rw [Sem.run_bind, r1, Result.andThen_ok]
        rcases hop with rfl | rfl
        · simp only [eqB, Option.some.injEq] at h
          subst h
          refine ⟨.bool b, ?_, by rw [VR]⟩
          have e : binOp .eql ty x' y' = (do pure (.bool (← Op.equal ty x' y')) : Sem Value) := by
            cases x' <;> first | (simp [noAr] at r3; done) | (cases y' <;> rfl)
          rw [e]; simp [r2]
        · simp only [eqB, Option.some.injEq] at h
          subst h
          refine ⟨.bool !b, ?_, by rw [VR]⟩
          have e : binOp .neq ty x' y' = (do pure (.bool (!(← Op.equal ty x' y'))) : Sem Value) := by
            cases x' <;> first | (simp [noAr] at r3; done) | (cases y' <;> rfl)
          rw [e]; simp [r2]
  cases x with
  | int k a => cases y with
    | int k' b =>
      simp only [binV] at h
      cases hsh : isSh op with
      | true =>
        rw [hsh] at h
        obtain rfl : x' = .int k a := by rw [VR] at hx; exact hx
        obtain rfl : y' = .int k' b := by rw [VR] at hy; exact hy
        exact ⟨v, bin_sh h⟩
      | false =>
      rw [hsh] at h
      simp only [cond_false] at h
      cases hk : kindEq k k' with
      | false => rw [hk] at h; cases h
      | true =>
        obtain rfl := kindEq_eq hk
        rw [hk] at h
        obtain rfl : x' = .int k a := by rw [VR] at hx; exact hx
        obtain rfl : y' = .int k b := by rw [VR] at hy; exact hy
        exact ⟨v, bin_int h⟩
    | _ => simp [binV] at h
  | string a => cases y with
    | string b =>
      simp only [binV] at h
      obtain rfl : x' = .string a := by rw [VR] at hx; exact hx
      obtain rfl : y' = .string b := by rw [VR] at hy; exact hy
      exact ⟨v, bin_str h⟩
    | _ => simp [binV] at h
  | agg a => cases y with
    | agg b =>
      simp only [binV] at h
      cases hs : E.sk ty with
      | none => rw [hs] at h; cases h
      | some ds =>
        rw [hs] at h
        cases hf : fitL ds a.toList with
        | false => simp only [fitO, hf] at h; cases h
        | true =>
          simp only [fitO, hf, cond_true] at h
          cases hb : keyEqL (fun _ => false) a.toList b.toList with
          | none => rw [hb] at h; simp [eqB] at h
          | some r =>
            rw [hb] at h
            have hkf : keyFit E ty (.agg a) = true := by simp only [keyFit, hs, fitO, hf]
            obtain ⟨as, rfl, hla⟩ := vr_agg.1 hx
            have he := equal_key (w := w) g AlOk.non hkf (show keyEq (fun _ => false) (.agg a) (.agg b) = some r from hb) hx hy
            obtain ⟨ys, rfl, hl⟩ := vr_agg.1 hy
            obtain ⟨g3, _⟩ := g.sk _ _ hs
            have hop : op = .eql ∨ op = .neq := by cases op <;> simp [eqB] at h <;> simp
            rw [Sem.run_bind, run_eqGuard_agg w op ty ox oy as ys g3, Result.andThen_ok]
            have he' : (Op.equalIn 10000 ty (.agg as) (.agg ys)).run P w = .ok r w := he
            rcases hop with rfl | rfl
            · simp only [eqB, Option.some.injEq] at h
              subst h
              exact ⟨.bool r, by rw [run_eql_struct, he']; rfl, by rw [VR]⟩
            · simp only [eqB, Option.some.injEq] at h
              subst h
              exact ⟨.bool !r, by rw [run_neq_struct, he']; rfl, by rw [VR]⟩
    | _ => simp [binV] at h
  | pointer a => cases a with
    | none => exact other (fun _ _ => by simp) (fun _ => by simp) h
    | some a =>
      have h : ptrV E op (E.und ty) (isC ox || isC oy) a y = some v := h
      cases y with
      | pointer b => cases b with
        | none => exact other (fun _ _ => by simp) (fun _ => by simp) h
        | some b =>
          simp only [ptrV] at h
          split at h
          · rename_i te hd
            cases hs : E.size te with
            | none => rw [hs] at h; cases h
            | some n =>
              rw [hs] at h
              obtain ⟨j, hj, _⟩ := g.size _ _ hs
              cases op with
              | neq =>
                simp only at h
                cases hq : (Nat.beq a.block b.block && Nat.beq a.off b.off) with
                | false => rw [hq] at h; cases h
                | true =>
                  rw [hq] at h
                  obtain rfl := Option.some.inj h
                  simp only [Bool.and_eq_true] at hq
                  rw [VR] at hx hy
                  obtain ⟨_, ⟨p, hp, rfl⟩, rfl⟩ := hx
                  obtain ⟨_, ⟨q, hq', rfl⟩, rfl⟩ := hy
                  rw [← Nat.eq_of_beq_eq_true hq.1, hp] at hq'
                  obtain rfl := Option.some.inj hq'
                  rw [← Nat.eq_of_beq_eq_true hq.2]
                  have hgd : (eqGuard .neq ty ox oy (.pointer (some ⟨p.1, a.off, none⟩)) (.pointer (some ⟨p.1, a.off, none⟩))).run P w = .ok () w := by
                    unfold eqGuard
                    simp
                  rw [Sem.run_bind, hgd, Result.andThen_ok]
                  exact ⟨_, Go.Lib.run_neq_ptr_same (P := P) w _ (g.und _ _ hd) hj, by rw [VR]⟩
              | _ => cases h
          · cases h
      | _ => exact other (fun _ _ => by simp) (fun _ => by simp) h
  | _ => exact other (fun _ _ => by simp) (fun _ => by simp) h
end
end Go.Proofs.YtcfekhcdadldmaaGreatDoor.Am
set_option linter.unusedSimpArgs false
namespace Go.Proofs.YtcfekhcdadldmaaGreatDoor.Am
open Go
theorem addr_add (b o n : Nat) : (⟨b, o, none⟩ : Addr).add n = ⟨b, o + n, none⟩ := by
  by_cases h : n = 0
  · subst h; rfl
  · simp [Addr.add, h]
theorem cell_at_block {w : World} {b : Nat} {c : Array Value} {e : TypeId} {f : Nat × Nat} (h : w.heap[b]? = some (.cells c e f)) (i : Nat) : w.cell? ⟨b, i, none⟩ = c[i]? := by
  simp [World.cell?, h]
theorem frozen_at_block {w : World} {b : Nat} {c : Array Value} {e : TypeId} (h : w.heap[b]? = some (.cells c e)) (i : Nat) : w.frozen? ⟨b, i, none⟩ = false := by
  simp [World.frozen?, h]
section
variable {P : Program} {E : Env} {ρ : Rho} {w : World}
theorem run_isAgg {t : TypeId} {d : TypeDesc} (h : P.underlying t = some d) : (isAgg t).run P w = .ok (isAggD d) w := by
  cases d <;> simp [isAgg, run_underlying h, isAggD]
/-- a part of cells that stand in a block. -/
theorem part_load (g : Good P E) {t : TypeId} {cs : List Value} {off : Nat} {v : Value} (h : E.part t cs off = some v) {b : Nat} {c : Array Value} {e : TypeId} {f : Nat × Nat} (hb : w.heap[b]? = some (.cells c e f)) (hl : L2 ρ cs (c.toList.take cs.length)) (ho : ∀ v ∈ cs, one v = true) : ∃ u, (loadVar t ⟨b, off, none⟩).run P w = .ok u w ∧ VR ρ v u := by
  unfold Env.part at h
  cases hd : E.und t with
  | none => rw [hd] at h; cases h
  | some d =>
    rw [hd] at h
    simp only at h
    have ha := run_isAgg (w := w) (g.und _ _ hd)
    cases hq : isAggD d with
    | true =>
      rw [hq] at h ha
      simp only [cond_true] at h
      cases hs : E.size t with
      | none => rw [hs] at h; cases h
      | some n =>
        rw [hs] at h
        simp only at h
        cases hn : Nat.ble (off + n) cs.length with
        | false => rw [hn] at h; cases h
        | true =>
          rw [hn] at h
          simp only [cond_true, Option.some.injEq] at h
          have hle : off + n ≤ cs.length := Nat.le_of_ble_eq_true hn
          obtain ⟨i, hi, rfl⟩ := g.size _ _ hs
          have hcl : cs.length ≤ c.toList.length := by
            have := hl.1
            rw [List.length_take] at this
            omega
          have hlen : ((c.toList.drop off).take i.size).length = i.size := by
            rw [List.length_take, List.length_drop]; omega
          have hr := run_loadCells_list (P := P) w ⟨b, off, none⟩ ((c.toList.drop off).take i.size) (fun j u hu => by
            rw [addr_add, cell_at_block hb, ← Array.getElem?_toList]
            rw [List.getElem?_take] at hu
            split at hu
            · rw [List.getElem?_drop] at hu; exact hu
            · cases hu)
          rw [hlen] at hr
          refine ⟨.agg ((c.toList.drop off).take i.size).toArray, ?_, ?_⟩
          · simp [loadVar, ha, run_sizeOf hi, hr]
          · subst h
            rw [takeN_eq, dropN_eq]
            refine vr_agg.2 ⟨_, rfl, ?_, fun v hv => ho v (List.mem_of_mem_drop (List.mem_of_mem_take hv))⟩
            have := (hl.drop off).take i.size
            rwa [List.drop_take, List.take_take, Nat.min_eq_left (by omega)] at this
    | false =>
      rw [hq] at h ha
      simp only [cond_false, at?_eq] at h
      obtain ⟨u, hu, hv⟩ := hl.2 off v h
      have hlt : off < cs.length := (List.getElem?_eq_some_iff.1 h).1
      rw [List.getElem?_take, if_pos hlt, Array.getElem?_toList] at hu
      refine ⟨u, ?_, hv⟩
      have : w.cell? ⟨b, off, none⟩ = some u := by rw [cell_at_block hb]; exact hu
      simp [loadVar, ha, run_load, this]
/-- a part of a struct's cells. -/
theorem part_part (g : Good P E) {t : TypeId} {cs ys : List Value} {off : Nat} {v : Value} (h : E.part t cs off = some v) (hl : L2 ρ cs ys) (ho : ∀ v ∈ cs, one v = true) : ∃ u, (part t ys.toArray off).run P w = .ok u w ∧ VR ρ v u := by
  unfold Env.part at h
  cases hd : E.und t with
  | none => rw [hd] at h; cases h
  | some d =>
    rw [hd] at h
    simp only at h
    have ha := run_isAgg (w := w) (g.und _ _ hd)
    cases hq : isAggD d with
    | true =>
      rw [hq] at h ha
      simp only [cond_true] at h
      cases hs : E.size t with
      | none => rw [hs] at h; cases h
      | some n =>
        rw [hs] at h
        simp only at h
        cases hn : Nat.ble (off + n) cs.length with
        | false => rw [hn] at h; cases h
        | true =>
          rw [hn] at h
          simp only [cond_true, Option.some.injEq] at h
          obtain ⟨i, hi, rfl⟩ := g.size _ _ hs
          refine ⟨.agg (ys.toArray.extract off (off + i.size)), by simp [part, ha, run_sizeOf hi], ?_⟩
          subst h
          rw [takeN_eq, dropN_eq]
          refine vr_agg.2 ⟨_, rfl, ?_, fun v hv => ho v (List.mem_of_mem_drop (List.mem_of_mem_take hv))⟩
          have := (hl.drop off).take i.size
          rw [Array.toList_extract]
          simpa [List.extract_eq_take_drop] using this
    | false =>
      rw [hq] at h ha
      simp only [cond_false, at?_eq] at h
      obtain ⟨u, hu, hv⟩ := hl.2 off v h
      exact ⟨u, by simp [part, ha, hu], hv⟩
theorem ptr_vr {a : Addr} {u : Value} (h : VR ρ (.pointer (some a)) u) : ∃ x, ρ a.block = some x ∧ u = .pointer (some ⟨x.1, a.off, none⟩) := by
  rw [VR] at h
  obtain ⟨b, ⟨x, hx, rfl⟩, rfl⟩ := h
  exact ⟨x, hx, rfl⟩
theorem R.row {s : St} (h : R ρ s w) {n : Nat} {r : Row} {x : Nat × Nat × Nat} (hr : s.get n = some r) (hx : ρ n = some x) : ∃ c : Array Value, w.heap[x.1]? = some (.cells c r.elem) ∧ c.size = x.2.1 ∧ r.cells.length ≤ x.2.1 ∧ L2 ρ r.cells (c.toList.take r.cells.length) ∧ (∀ v ∈ r.cells, one v = true) ∧ x.2.2 = r.sz ∧ (r.sz = 0 → r.cells.length = x.2.1) := by
  obtain ⟨y, c, e, h1⟩ := h.rows n r hr
  rw [hx] at e
  obtain rfl := Option.some.inj e
  exact ⟨c, h1⟩
theorem load_run0 (g : Good P E) {s : St} (hR : R ρ s w) {ty : TypeId} {x v x' : Value} (h : opLoad0 E s ty x = some v) (hx : VR ρ x x') : ∃ u, (Instr.loadAt ty x').run P w = .ok u w ∧ VR ρ v u := by
  unfold opLoad0 at h
  split at h
  · rename_i a
    split at h
    · rename_i r hr
      obtain ⟨y, hy, rfl⟩ := ptr_vr hx
      obtain ⟨c, h1, h2, h3, h4, h5, _⟩ := hR.row hr hy
      obtain ⟨u, hu, hv⟩ := part_load (w := w) g h h1 h4 h5
      exact ⟨u, by simp [Instr.loadAt, Instr.sureAddr, hu], hv⟩
    · cases h
  · cases h
theorem load_run (g : Good P E) {s : St} (hR : R ρ s w) {ty : TypeId} {x v x' : Value} (h : opLoad E s ty x = some v) (hx : VR ρ x x') : ∃ u, (Instr.loadAt ty x').run P w = .ok u w ∧ VR ρ v u := by
  unfold opLoad at h
  split at h
  · rename_i kd gg o
    unfold opLoadG at h
    split at h
    · rename_i cs hcs
      obtain rfl : x' = .pointer (some ⟨gg, o, none⟩) := by rw [VR] at hx; exact hx
      obtain ⟨c, e, f, h1, rfl, h3⟩ := hR.gl.tab gg _ hcs
      obtain ⟨u, hu, hv⟩ := part_load (ρ := ρ) (w := w) (b := gg) g h h1 (by rw [List.take_of_length_le (Nat.le_refl _)]; exact plains_l2 h3) (fun v hv => (plain_vr (ρ := ρ) (h3 v hv)).2)
      exact ⟨u, by simp [Instr.loadAt, Instr.sureAddr, hu], hv⟩
    · cases h
  · exact load_run0 g hR h hx
theorem natOf_run {v v' : Value} {n : Nat} (h : natOf v = some n) (hv : VR ρ v v') : ∃ k, v' = .int k (n : Int) := by
  unfold natOf at h
  split at h
  · rename_i k m
    simp only [Option.some.injEq] at h
    subst h
    rw [VR] at hv
    exact ⟨k, hv⟩
  · cases h
theorem fa_run (g : Good P E) {ty : TypeId} {f : Nat} {x v x' : Value} (h : opFieldAddr E ty f x = some v) (hx : VR ρ x x') : ∃ u, (Instr.fieldAt ty x' f).run P w = .ok u w ∧ VR ρ v u := by
  unfold opFieldAddr at h
  split at h
  · rename_i a
    unfold opFA1 at h
    split at h
    · rename_i fs hd
      unfold opFA2 at h
      split at h
      · rename_i fl hf
        split at h
        · rename_i n hn
          cases h0 : Nat.beq n 0 with
          | true => rw [h0] at h; cases h
          | false =>
            rw [h0] at h
            simp only [cond_false, Option.some.injEq] at h
            subst h
            obtain ⟨i, hi, rfl⟩ := g.size _ _ hn
            have hne : i.size ≠ 0 := fun e => by rw [e] at h0; cases h0
            obtain ⟨y, hy, rfl⟩ := ptr_vr hx
            have hf' : fs[f]? = some fl := by simpa using hf
            refine ⟨.pointer (some ⟨y.1, a.off + fl.offset, none⟩), ?_, ?_⟩
            · simp [Instr.fieldAt, run_underlying (g.und _ _ hd), hf', Instr.sureAddr, fieldPlace, run_sizeOf hi, hne, addr_add]
            · rw [VR]; exact ⟨_, ⟨y, hy, rfl⟩, rfl⟩
        · cases h
      · cases h
    · cases h
  · cases h
theorem slice_vr {a : Addr} {n c : Nat} {u : Value} (h : VR ρ (.slice (some a) n c) u) : ∃ (b : Addr) (cap : Nat) (x : Nat × Nat × Nat), u = .slice (some b) n cap ∧ n ≤ cap ∧ capOk c cap ∧ ρ a.block = some x ∧ (a.off = 0 → cap * x.2.2 ≤ x.2.1) ∧ (a.off = 0 ∨ 0 < n → b = ⟨x.1, a.off, none⟩) := by
  rw [VR] at h; exact h
theorem ia_run (g : Good P E) {ty : TypeId} {x v x' i i' : Value} (h : opIA1 E ty x (natOf i) = some v) (hx : VR ρ x x') (hi : VR ρ i i') : ∃ u, (Instr.indexAt ty x' i').run P w = .ok u w ∧ VR ρ v u := by
  unfold opIA1 at h
  split at h
  · rename_i k hk
    obtain ⟨kd, rfl⟩ := natOf_run hk hi
    unfold opIA2 at h
    split at h
    · rename_i e hd
      split at h
      · rename_i a len c
        unfold opIA3 at h
        split at h
        · rename_i n hn
          cases h0 : Nat.blt k len with
          | false => rw [h0] at h; cases h
          | true =>
            rw [h0] at h
            simp only [cond_true, Option.some.injEq] at h
            subst h
            have hlt := (blt_iff _ _).1 h0
            obtain ⟨j, hj, rfl⟩ := g.size _ _ hn
            obtain ⟨b, cap, y, rfl, h1, h2, h3, h4, h5⟩ := slice_vr hx
            obtain rfl := h5 (.inr (by omega))
            refine ⟨.pointer (some ⟨y.1, a.off + k * j.size, none⟩), ?_, by rw [VR]; exact ⟨_, ⟨y, h3, rfl⟩, rfl⟩⟩
            have : (k : Int) < (len : Int) := by omega
            simp [Instr.indexAt, asIntOf, run_underlying (g.und _ _ hd), run_sizeOf hj, addr_add, this]
            exact fun h => absurd h (by omega)
        · cases h
      · cases h
    · rename_i len e hd
      split at h
      · rename_i a
        unfold opIA3 at h
        split at h
        · rename_i n hn
          cases h0 : Nat.blt k len with
          | false => rw [h0] at h; cases h
          | true =>
            rw [h0] at h
            simp only [cond_true, Option.some.injEq] at h
            subst h
            have hlt := (blt_iff _ _).1 h0
            obtain ⟨j, hj, rfl⟩ := g.size _ _ hn
            obtain ⟨y, h3, rfl⟩ := ptr_vr hx
            refine ⟨.pointer (some ⟨y.1, a.off + k * j.size, none⟩), ?_, by rw [VR]; exact ⟨_, ⟨y, h3, rfl⟩, rfl⟩⟩
            have : (k : Int) < (len : Int) := by omega
            simp [Instr.indexAt, asIntOf, run_underlying (g.und _ _ hd), run_sizeOf hj, addr_add, this, Instr.sureAddr]
            exact fun h => absurd h (by omega)
        · cases h
      · rename_i kc gg o
        unfold opIG at h
        split at h
        · rename_i n hn
          cases h0 : Nat.blt k len with
          | false => rw [h0] at h; cases h
          | true =>
            rw [h0] at h
            simp only [cond_true, Option.some.injEq] at h
            subst h
            have hlt := (blt_iff _ _).1 h0
            obtain ⟨j, hj, rfl⟩ := g.size _ _ hn
            obtain rfl : x' = .pointer (some ⟨gg, o, none⟩) := by rw [VR] at hx; exact hx
            refine ⟨.pointer (some ⟨gg, o + k * j.size, none⟩), ?_, by rw [VR]⟩
            have : (k : Int) < (len : Int) := by omega
            simp [Instr.indexAt, asIntOf, run_underlying (g.und _ _ hd), run_sizeOf hj, addr_add, this, Instr.sureAddr]
            exact fun h => absurd h (by omega)
        · cases h
      · cases h
    · cases h
  · cases h
theorem ix_run (g : Good P E) {ty : TypeId} {x v x' i i' : Value} (h : opIx1 E ty x (natOf i) = some v) (hx : VR ρ x x') (hi : VR ρ i i') : ∃ u, (Instr.index ty x' i').run P w = .ok u w ∧ VR ρ v u := by
  unfold opIx1 at h
  split at h
  · rename_i k hk
    obtain ⟨kd, rfl⟩ := natOf_run hk hi
    unfold opIx2 at h
    split at h
    · rename_i hd
      split at h
      · rename_i b
        unfold byteV at h
        split at h
        · rename_i c hc
          simp only [Option.some.injEq] at h
          subst h
          obtain rfl : x' = .string b := by rw [VR] at hx; exact hx
          have hlt : k < b.size := by
            have h1 : b.size = b.data.toList.length := by cases b; rfl
            rw [h1]; exact (List.getElem?_eq_some_iff.1 hc).1
          refine ⟨_, ?_, by rw [VR]⟩
          rw [run_index_string w ty b kd _ (g.und _ _ hd), dif_pos ⟨by omega, by omega⟩]
          have : b[((k : Int)).toNat]'(by omega) = c := by
            have h2 : b.data.toList[k]'(by cases b; exact hlt) = c := by
              have := List.getElem?_eq_some_iff.1 hc
              exact this.2
            rw [← h2]
            cases b; rfl
          rw [this]; rfl
        · cases h
      · cases h
    · cases h
  · cases h
theorem field_run (g : Good P E) {ty : TypeId} {f : Nat} {x v x' : Value} (h : opF1 E f x (E.und ty) = some v) (hx : VR ρ x x') : ∃ u, (Instr.field ty x' f).run P w = .ok u w ∧ VR ρ v u := by
  unfold opF1 at h
  split at h
  · rename_i fs hd
    split at h
    · rename_i cs
      unfold opF2 at h
      split at h
      · rename_i fl hf
        obtain ⟨ys, rfl, h1, h2⟩ := vr_agg.1 hx
        obtain ⟨u, hu, hv⟩ := part_part (w := w) g h h1 h2
        have hf' : fs[f]? = some fl := by simpa using hf
        refine ⟨u, ?_, hv⟩
        have hu' : (part fl.type ys fl.offset).run P w = .ok u w := by simpa using hu
        simp [Instr.field, run_underlying (g.und _ _ hd), hf', asAgg, hu']
      · cases h
    · cases h
  · cases h
theorem ex_run {i : Nat} {x v x' : Value} (h : opEx i x = some v) (hx : VR ρ x x') : ∃ u, (Instr.extract x' i).run P w = .ok u w ∧ VR ρ v u := by
  unfold opEx at h
  split at h
  · rename_i vs
    rw [at?_eq] at h
    obtain ⟨ys, rfl, hl⟩ := vr_tuple.1 hx
    obtain ⟨u, hu, hv⟩ := hl.2 i v h
    have : ys[i]? = some u := by simpa using hu
    exact ⟨u, by simp [Instr.extract, this], hv⟩
  · cases h
end
end Go.Proofs.YtcfekhcdadldmaaGreatDoor.Am
set_option linter.unusedSimpArgs false
namespace Go.Proofs.YtcfekhcdadldmaaGreatDoor.Am
open Go
section
variable {P : Program} {E : Env} {ρ : Rho} {w : World} {s : St}
theorem un_run {op : UnOp} {x v x' : Value} (h : opUn op x = some v) (hx : VR ρ x x') : ∃ u, (Op.unary op x').run P w = .ok u w ∧ VR ρ v u := by
  unfold opUn at h
  split at h
  · rename_i b
    obtain rfl : x' = .bool b := by rw [VR] at hx; exact hx
    cases op <;> simp at h
    subst h
    exact ⟨.bool !b, by simp [Op.unary], by rw [VR]⟩
  · rename_i k n
    obtain rfl : x' = .int k n := by rw [VR] at hx; exact hx
    cases op with
    | neg =>
      simp at h
      subst h
      exact ⟨.int k (k.wrap (0 - n)), by simp [Op.unary, Op.intArith], by rw [VR, wrapF_eq]; simp⟩
    | xor =>
      simp only [binI, Option.some.injEq] at h
      subst h
      refine ⟨_, ?_, by rw [VR]⟩
      cases hk : k.signed <;> simp [Op.unary, Op.intBits, hk]
    | not => cases h
    | plus => cases h
  · cases h
theorem nc_run {x v x' : Value} {ox : Operand} {a : Act} (h : opNilCheck x = some v) (hx : VR ρ x x') (he : a.eval ox = x') {o : Oper} (ho : o.op = .nilCheck ox) : ∃ u, (execOp a.eval o).run P w = .ok (.value u) w ∧ VR ρ v u := by
  unfold opNilCheck at h
  split at h
  · rename_i b
    simp only [Option.some.injEq] at h
    subst h
    obtain ⟨y, hy, rfl⟩ := ptr_vr hx
    exact ⟨_, by simp [execOp, ho, he], hx⟩
  · rename_i f p q
    simp only [Option.some.injEq] at h
    subst h
    obtain ⟨p', q', rfl, _⟩ := vr_func.1 hx
    exact ⟨_, by simp [execOp, ho, he], hx⟩
  · rename_i ty name p q
    simp only [Option.some.injEq] at h
    subst h
    obtain ⟨p', q', rfl, _⟩ := vr_func.1 hx
    exact ⟨_, by simp [execOp, ho, he], hx⟩
  · rename_i t z
    simp only [Option.some.injEq] at h
    subst h
    obtain ⟨y, rfl, _⟩ : ∃ y, x' = .iface t y ∧ VR ρ z y := by rw [VR] at hx; exact hx
    exact ⟨_, by simp [execOp, ho, he], hx⟩
  · cases h
theorem mi_run (g : Good P E) {ty : TypeId} {x v x' : Value} (h : opMI ty x (E.und ty) = some v) (hx : VR ρ x x') : ∃ u, (Instr.makeInterface ty x').run P w = .ok u w ∧ VR ρ v u := by
  unfold opMI at h
  split at h
  · cases h
  · rename_i d hn hd
    simp only [Option.some.injEq] at h
    subst h
    refine ⟨.iface ty x', ?_, by rw [VR]; exact ⟨_, rfl, hx⟩⟩
    have hu := run_underlying (g.und _ _ hd) w
    cases d <;> simp [Instr.makeInterface, hu]
    exact absurd rfl (hn _)
  · cases h
theorem ta_no (g : Good P E) {ty : TypeId} {ok : Bool} {v : Value} (h : taNo ok (E.zv ty) = some v) (st dy : Option TypeId) (m : String) : ∃ u, (do if ok then pure (.tuple #[← zeroValue ty, .bool false]) else runtimePanic (.typeAssertion st dy ty m) : Sem Value).run P w = .ok u w ∧ VR ρ v u := by
  unfold taNo at h
  split at h
  · rename_i z hz
    obtain ⟨⟨j, hj1, hj2⟩, hj3⟩ := g.zv _ _ hz
    cases ok with
    | false => cases h
    | true =>
      simp only [cond_true, Option.some.injEq] at h
      subst h
      exact ⟨.tuple #[z, .bool false], by simp [zeroValue, typeInfo, hj1, hj2], vr_tuple.2 ⟨#[z, .bool false], rfl, ((L2.nil ρ).cons (by rw [VR])).cons (hj3 ρ)⟩⟩
  · cases h
theorem ta_run (g : Good P E) {tx ty : TypeId} {x v x' : Value} {ok : Bool} (h : opTA E ty ok x (E.und ty) = some v) (hx : VR ρ x x') : ∃ u, (Instr.typeAssert x' tx ty ok).run P w = .ok u w ∧ VR ρ v u := by
  unfold opTA at h
  split at h
  · cases h
  · rename_i d hn hd
    have hu := run_underlying (g.und _ _ hd) w
    unfold opTA2 at h
    split at h
    · obtain rfl : x' = .nilIface := by rw [VR] at hx; exact hx
      obtain ⟨u, h1, h2⟩ := ta_no (w := w) (ρ := ρ) g h (some tx) none ""
      refine ⟨u, ?_, h2⟩
      rw [← h1]
      cases d <;> simp [Instr.typeAssert, hu]
      exact absurd rfl (hn _)
    · rename_i t y
      obtain ⟨y', rfl, hy⟩ : ∃ y', x' = .iface t y' ∧ VR ρ y y' := by rw [VR] at hx; exact hx
      cases hq : Nat.beq t ty with
      | true =>
        rw [hq] at h
        simp only [cond_true, Option.some.injEq] at h
        subst h
        obtain rfl : t = ty := Nat.eq_of_beq_eq_true hq
        refine ⟨if ok then .tuple #[y', .bool true] else y', ?_, ?_⟩
        · cases d <;> simp [Instr.typeAssert, hu]
          exact absurd rfl (hn _)
        · cases ok with
          | false => exact hy
          | true => exact vr_tuple.2 ⟨#[y', .bool true], rfl, ((L2.nil ρ).cons (by rw [VR])).cons hy⟩
      | false =>
        rw [hq] at h
        simp only [cond_false] at h
        have hne : ¬ t = ty := fun e => by rw [e, show Nat.beq ty ty = true from Nat.beq_refl ty] at hq; cases hq
        obtain ⟨u, h1, h2⟩ := ta_no (w := w) (ρ := ρ) g h (some tx) (some t) ""
        refine ⟨u, ?_, h2⟩
        rw [← h1]
        cases d <;> simp [Instr.typeAssert, hu, hne]
        exact absurd rfl (hn _)
    · cases h
  · cases h
theorem cv_run (g : Good P E) {src dst : TypeId} {x v x' : Value} (h : opCv0 (opCv x (E.und dst)) (E.und src) = some v) (hx : VR ρ x x') : ∃ u, (convert src dst x').run P w = .ok u w ∧ VR ρ v u := by
  unfold opCv0 at h
  split at h
  case h_2 => cases h
  case h_1 sd hsd =>
  have hs := g.und _ _ hsd
  unfold opCv at h
  split at h
  · rename_i k hd
    split at h
    · rename_i kd n
      simp only [Option.some.injEq] at h
      subst h
      obtain rfl : x' = .int kd n := by rw [VR] at hx; exact hx
      exact ⟨.int k (k.wrap n), by simp [convert, run_underlying hs, run_underlying (g.und _ _ hd), Conv.intToInt], by rw [VR, wrapF_eq]⟩
    · cases h
  · rename_i hd
    split at h
    · rename_i b
      simp only [Option.some.injEq] at h
      subst h
      obtain rfl : x' = .string b := by rw [VR] at hx; exact hx
      exact ⟨.string b, by simp [convert, run_underlying hs, run_underlying (g.und _ _ hd)], by rw [VR]⟩
    · cases h
  · cases h
theorem getObj_map {b clock : Nat} {cs : Array MapEntry} (h : w.heap[b]? = some (.map cs clock)) : (getObj b).run P w = .ok (.map cs clock) w := by
  simp [getObj, Sem.run, h]
theorem len_run (g : Good P E) (hR : R ρ s w) {ty t2 : TypeId} {x v x' : Value} (h : opLen s x (E.und ty) = some v) (hx : VR ρ x x') : ∃ u, (Builtin.len_ #[ty] t2 #[x']).run P w = .ok u w ∧ VR ρ v u := by
  unfold opLen at h
  split at h
  · rename_i hd
    split at h
    · rename_i b
      simp only [Option.some.injEq] at h
      subst h
      obtain rfl : x' = .string b := by rw [VR] at hx; exact hx
      refine ⟨goInt b.size, by simp [Builtin.len_, run_underlying (g.und _ _ hd)], ?_⟩
      have h1 : b.size = b.data.toList.length := by cases b; rfl
      rw [VR, ← h1]; rfl
    · cases h
  · rename_i e hd
    split at h
    · rename_i a n c
      simp only [Option.some.injEq] at h
      subst h
      cases a with
      | none =>
        obtain ⟨rfl, rfl⟩ : n = 0 ∧ x' = .slice none 0 0 := by rw [VR] at hx; exact hx
        exact ⟨goInt 0, by simp [Builtin.len_, run_underlying (g.und _ _ hd)], by rw [VR]; rfl⟩
      | some a =>
        obtain ⟨b, cap, y, rfl, _⟩ := slice_vr hx
        exact ⟨goInt n, by simp [Builtin.len_, run_underlying (g.und _ _ hd)], by rw [VR]; rfl⟩
    · cases h
  · rename_i ke el hd
    cases he : entries s x with
    | none => rw [he] at h; cases h
    | some es =>
      rw [he] at h
      simp only [opLenM] at h
      cases hit : isIt es with
      | true => rw [hit] at h; cases h
      | false =>
      rw [hit] at h
      obtain rfl := Option.some.inj h
      unfold entries at he
      split at he
      · obtain rfl : x' = .map none := by rw [VR] at hx; exact hx
        obtain rfl := Option.some.inj he
        exact ⟨goInt 0, by simp [Builtin.len_, run_underlying (g.und _ _ hd)], by rw [VR]; rfl⟩
      · rename_i n
        obtain ⟨y, h1, hM⟩ := hR.maps n es he
        rcases hM with ⟨cs, cl, h2, h3, h4⟩ | ⟨t0, n0, cur0, left0, e0, _⟩
        · obtain ⟨y', hy', rfl⟩ : ∃ y', ρ n = some y' ∧ x' = .map (some y'.1) := by rw [VR] at hx; exact hx
          rw [h1] at hy'
          obtain rfl := Option.some.inj hy'
          exact ⟨goInt cs.size, by simp [Builtin.len_, run_underlying (g.und _ _ hd), getObj_map h2], by rw [VR, ← h3.1]; rfl⟩
        · rw [e0] at hit; cases hit
      · cases he
  · cases h
theorem natOr_run {t : List Value} {a : Act} (hT : TR ρ t a) {d n : Nat} {x : Option Operand} (h : natOr t d x = some n) : (x = none ∧ n = d) ∨ ∃ o k, x = some o ∧ a.eval o = .int k (n : Int) := by
  cases x with
  | none => simp [natOr] at h; exact .inl ⟨rfl, h.symm⟩
  | some o =>
    obtain ⟨k, hk⟩ := natOf_run (h : natOf (opv t o) = some n) (hT.opv o)
    exact .inr ⟨o, k, rfl, hk⟩
theorem bounds_run {b : Bool} {len cap l h : Nat} {lo hi : Option Operand} {a : Act} (hl : (lo = none ∧ l = 0) ∨ ∃ o k, lo = some o ∧ a.eval o = .int k (l : Int)) (hh : (hi = none ∧ h = len) ∨ ∃ o k, hi = some o ∧ a.eval o = .int k (h : Int)) (h1 : h ≤ cap) (h2 : l ≤ h) : (Instr.sliceBounds b len cap (lo.map a.eval) (hi.map a.eval) none).run P w = .ok (l, h, cap) w := by
  have e1 : (0 : Int) ≤ (h : Int) ∧ (h : Int) ≤ (cap : Int) := by omega
  have e2 : (0 : Int) ≤ (l : Int) ∧ (l : Int) ≤ (h : Int) := by omega
  rcases hl with ⟨rfl, rfl⟩ | ⟨o, k, rfl, ho⟩ <;> rcases hh with ⟨rfl, rfl⟩ | ⟨o', k', rfl, ho'⟩
  · simp [Instr.sliceBounds]
  · simp [Instr.sliceBounds, Instr.sliceBound, asIntOf, ho']
    exact fun h => absurd h (by omega)
  · simp [Instr.sliceBounds, Instr.sliceBound, asIntOf, ho]
    exact fun h => absurd h (by omega)
  · simp [Instr.sliceBounds, Instr.sliceBound, asIntOf, ho, ho', h1, h2]
theorem sl_run (g : Good P E) {t : List Value} {a : Act} (hT : TR ρ t a) {ty : TypeId} {x x' v : Value} {lo hi : Option Operand} (h : opSl2 E x t lo hi (E.und ty) = some v) (hx : VR ρ x x') : ∃ u, (Instr.sliceAt ty x' (lo.map a.eval) (hi.map a.eval) none).run P w = .ok u w ∧ VR ρ v u := by
  unfold opSl2 at h
  split at h
  · rename_i hd
    split at h
    · rename_i b
      split at h
      · rename_i l hl
        split at h
        · rename_i hh hhi
          unfold opSlS at h
          cases hc : (Nat.ble hh b.data.toList.length && Nat.ble l hh) with
          | false => rw [hc] at h; cases h
          | true =>
            rw [hc] at h
            simp only [cond_true, Option.some.injEq] at h
            subst h
            obtain rfl : x' = .string b := by rw [VR] at hx; exact hx
            simp only [Bool.and_eq_true, Nat.ble_eq] at hc
            have hs : b.size = b.data.toList.length := by cases b; rfl
            rw [← hs] at hhi hc
            have hb := bounds_run (P := P) (w := w) (b := false) (len := b.size) (cap := b.size) (natOr_run hT hl) (natOr_run hT hhi) hc.1 hc.2
            refine ⟨.string (b.extract l hh), by simp [Instr.sliceAt, Instr.slice, run_underlying (g.und _ _ hd), hb], ?_⟩
            rw [VR]
            congr 1
            apply ByteArray.ext
            rw [ByteArray.data_extract]
            apply Array.ext'
            rw [Array.toList_extract, List.extract_eq_take_drop, List.drop_take]
        · cases h
      · cases h
    · cases h
  · rename_i e hd
    split at h
    · rename_i ad len c
      split at h
      · rename_i l hl
        split at h
        · rename_i hh hhi
          unfold opSl3 at h
          split at h
          · rename_i n hn
            cases hc : (Nat.ble hh len && Nat.ble l hh) with
            | false => rw [hc] at h; cases h
            | true =>
              rw [hc] at h
              simp only [cond_true] at h
              simp only [Bool.and_eq_true, Nat.ble_eq] at hc
              obtain ⟨j, hj, rfl⟩ := g.size _ _ hn
              cases ad with
              | none =>
                simp only [Option.some.injEq] at h
                subst h
                obtain ⟨rfl, rfl⟩ : len = 0 ∧ x' = .slice none 0 0 := by rw [VR] at hx; exact hx
                have e0 : hh = 0 ∧ l = 0 := by omega
                obtain ⟨rfl, rfl⟩ := e0
                have hb := bounds_run (P := P) (w := w) (b := true) (len := 0) (cap := 0) (natOr_run hT hl) (natOr_run hT hhi) (Nat.le_refl _) (Nat.le_refl _)
                exact ⟨.slice none 0 0, by simp [Instr.sliceAt, Instr.slice, run_underlying (g.und _ _ hd), hb, run_sizeOf hj], by rw [VR]; exact ⟨rfl, rfl⟩⟩
              | some ad =>
                simp only [Option.some.injEq] at h
                subst h
                obtain ⟨b, cap, y, rfl, h1, h2, h3, h4, h5⟩ := slice_vr hx
                have hb := bounds_run (P := P) (w := w) (b := true) (len := len) (cap := cap) (natOr_run hT hl) (natOr_run hT hhi) (by omega) hc.2
                refine ⟨.slice (some (if cap = l then b else b.add (l * j.size))) (hh - l) (cap - l), ?_, ?_⟩
                · simp [Instr.sliceAt, Instr.slice, run_underlying (g.und _ _ hd), hb, run_sizeOf hj]
                  split <;> rfl
                · rw [VR]
                  refine ⟨_, _, y, rfl, by omega, .inl rfl, h3, ?_, ?_⟩
                  · intro e0
                    simp only at e0
                    have h6 := h4 (by omega)
                    exact Nat.le_trans (Nat.mul_le_mul_right _ (Nat.sub_le _ _)) h6
                  · intro e0
                    simp only at e0
                    by_cases hcl : cap = l
                    · rw [if_pos hcl]
                      rcases e0 with e0 | e0
                      · rw [h5 (.inl (by omega))]
                        simp; omega
                      · omega
                    · rw [if_neg hcl]
                      rcases e0 with e0 | e0
                      · rw [h5 (.inl (by omega)), addr_add]
                      · rw [h5 (.inr (by omega)), addr_add]
          · cases h
        · cases h
      · cases h
    · cases h
  · cases h
theorem bounds_run3 {len cap l h c : Nat} {lo : Option Operand} {a : Act} {vh vm : Value} {k1 k2 : IntKind} (hl : (lo = none ∧ l = 0) ∨ ∃ o k, lo = some o ∧ a.eval o = .int k (l : Int)) (hh : vh = .int k1 (h : Int)) (hm : vm = .int k2 (c : Int)) (h0 : c ≤ cap) (h1 : h ≤ c) (h2 : l ≤ h) : (Instr.sliceBounds true len cap (lo.map a.eval) (some vh) (some vm)).run P w = .ok (l, h, c) w := by
  subst hh hm
  have e1 : (0 : Int) ≤ (h : Int) ∧ (h : Int) ≤ (c : Int) := by omega
  have e2 : (0 : Int) ≤ (l : Int) ∧ (l : Int) ≤ (h : Int) := by omega
  have e3 : (0 : Int) ≤ (c : Int) ∧ (c : Int) ≤ (cap : Int) := by omega
  rcases hl with ⟨rfl, rfl⟩ | ⟨o, k, rfl, ho⟩
  · simp [Instr.sliceBounds, Instr.sliceBound, asIntOf, h0, h1]
  · simp [Instr.sliceBounds, Instr.sliceBound, asIntOf, ho, h0, h1, h2]
theorem slm_run (g : Good P E) {t : List Value} {a : Act} (hT : TR ρ t a) {ty : TypeId} {x x' v H M H' M' : Value} {lo : Option Operand} (h : opSlM E x (natOr t 0 lo) (natOf H) (natOf M) (E.und ty) = some v) (hx : VR ρ x x') (hH : VR ρ H H') (hM : VR ρ M M') : ∃ u, (Instr.sliceAt ty x' (lo.map a.eval) (some H') (some M')).run P w = .ok u w ∧ VR ρ v u := by
  unfold opSlM at h
  split at h
  · rename_i e hd
    split at h
    · rename_i ad len c0
      cases hl : natOr t 0 lo with
      | none => rw [hl] at h; cases h
      | some l =>
        cases hh : natOf H with
        | none => rw [hl, hh] at h; cases h
        | some hi =>
          cases hm : natOf M with
          | none => rw [hl, hh, hm] at h; cases h
          | some c =>
            rw [hl, hh, hm] at h
            simp only at h
            obtain ⟨k1, e1⟩ := natOf_run hh hH
            obtain ⟨k2, e2⟩ := natOf_run hm hM
            unfold opSlM2 at h
            split at h
            · rename_i n hn
              cases hc : (Nat.ble c len && (Nat.ble hi c && Nat.ble l hi)) with
              | false => rw [hc] at h; cases h
              | true =>
                rw [hc] at h
                simp only [cond_true] at h
                simp only [Bool.and_eq_true, Nat.ble_eq] at hc
                obtain ⟨c1, c2, c3⟩ := hc
                obtain ⟨j, hj, rfl⟩ := g.size _ _ hn
                cases ad with
                | none =>
                  simp only [Option.some.injEq] at h
                  subst h
                  obtain ⟨rfl, rfl⟩ : len = 0 ∧ x' = .slice none 0 0 := by rw [VR] at hx; exact hx
                  obtain ⟨rfl, rfl, rfl⟩ : c = 0 ∧ hi = 0 ∧ l = 0 := by omega
                  have hb := bounds_run3 (P := P) (w := w) (len := 0) (cap := 0) (natOr_run hT hl) e1 e2 (Nat.le_refl _) (Nat.le_refl _) (Nat.le_refl _)
                  exact ⟨.slice none 0 0, by simp [Instr.sliceAt, Instr.slice, run_underlying (g.und _ _ hd), hb, run_sizeOf hj], by rw [VR]; exact ⟨rfl, rfl⟩⟩
                | some ad =>
                  simp only [Option.some.injEq] at h
                  subst h
                  obtain ⟨b, cap, y, rfl, h1, h2, h3, h4, h5⟩ := slice_vr hx
                  have hb := bounds_run3 (P := P) (w := w) (len := len) (cap := cap) (natOr_run hT hl) e1 e2 (by omega) c2 c3
                  refine ⟨.slice (some (if c = l then b else b.add (l * j.size))) (hi - l) (c - l), ?_, ?_⟩
                  · simp [Instr.sliceAt, Instr.slice, run_underlying (g.und _ _ hd), hb, run_sizeOf hj]
                    split <;> rfl
                  · rw [VR]
                    refine ⟨_, _, y, rfl, by omega, .inr rfl, h3, ?_, ?_⟩
                    · intro e0
                      simp only at e0
                      have h6 := h4 (by omega)
                      exact Nat.le_trans (Nat.mul_le_mul_right _ (by omega)) h6
                    · intro e0
                      simp only at e0
                      by_cases hcl : c = l
                      · rw [if_pos hcl]
                        rcases e0 with e0 | e0
                        · rw [h5 (.inl (by omega))]
                          simp; omega
                        · omega
                      · rw [if_neg hcl]
                        rcases e0 with e0 | e0
                        · rw [h5 (.inl (by omega)), addr_add]
                        · rw [h5 (.inr (by omega)), addr_add]
            · cases h
    · cases h
  · cases h
theorem min_run {t1 : Array TypeId} {t2 : TypeId} {x y v x' y' : Value} (h : opMin false x y = some v) (hx : VR ρ x x') (hy : VR ρ y y') : ∃ u, (Builtin.min_ t1 t2 #[x', y']).run P w = .ok u w ∧ VR ρ v u := by
  unfold opMin at h
  split at h
  · rename_i k a k' b
    rw [VR] at hx hy
    subst hx hy
    obtain rfl := Option.some.inj h
    refine ⟨.int k (if b < a then b else a), by simp [Builtin.min_, Builtin.min2], ?_⟩
    rw [VR, cond_false, intLt_eq]
    by_cases hq : b < a <;> simp [hq]
  · cases h
theorem max_run {t1 : Array TypeId} {t2 : TypeId} {x y v x' y' : Value} (h : opMin true x y = some v) (hx : VR ρ x x') (hy : VR ρ y y') : ∃ u, (Builtin.max_ t1 t2 #[x', y']).run P w = .ok u w ∧ VR ρ v u := by
  unfold opMin at h
  split at h
  · rename_i k a k' b
    rw [VR] at hx hy
    subst hx hy
    obtain rfl := Option.some.inj h
    refine ⟨.int k (if b > a then b else a), by simp [Builtin.max_, Builtin.max2], ?_⟩
    rw [VR, cond_true, intLt_eq]
    by_cases hq : a < b <;> simp [hq]
  · cases h
theorem sla_run (g : Good P E) {s : St} (hR : R ρ s w) {t : List Value} {a : Act} (hT : TR ρ t a) {ty : TypeId} {n : Nat} {e : TypeId} {i : TypeInfo} (hd : E.und ty = some (.array n e)) {x : Operand} {lo hi mx : Option Operand} {v : Value} (hj : P.info? e = some i) (h : opSlA s t x lo hi n i.size mx = some v) : mx = none ∧ ∃ u, (Instr.sliceAt ty (a.eval x) (lo.map a.eval) (hi.map a.eval) none).run P w = .ok u w ∧ VR ρ v u := by
  cases mx with
  | some m => cases h
  | none =>
    refine ⟨rfl, ?_⟩
    have hx := hT.opv x
    simp only [opSlA] at h
    generalize opv t x = X at h hx
    unfold opSlA2 at h
    split at h
    case h_2 => cases h
    rename_i ad
    split at h
    case h_2 => cases h
    rename_i ll hl
    split at h
    case h_2 => cases h
    rename_i hh hhi
    unfold opSlA3 at h
    split at h
    case h_2 => cases h
    rename_i r hr
    cases hq : (Nat.beq r.sz 0 && (Nat.ble hh n && Nat.ble ll hh)) with
    | false => rw [hq] at h; cases h
    | true =>
      rw [hq] at h
      obtain rfl := Option.some.inj h
      simp only [Bool.and_eq_true, Nat.ble_eq] at hq
      have hsz0 := Nat.eq_of_beq_eq_true hq.1
      obtain ⟨y, hy, ex⟩ := ptr_vr hx
      obtain ⟨c, _, _, _, _, _, c6, _⟩ := hR.row hr hy
      refine ⟨.slice (some (if n = ll then ⟨y.1, ad.off, none⟩ else ⟨y.1, ad.off + ll * i.size, none⟩)) (hh - ll) (n - ll), ?_, ?_⟩
      · have e1 : (lo = none ∧ ll = 0) ∨ ∃ o kd, lo = some o ∧ a.eval o = .int kd (ll : Int) := natOr_run hT hl
        have e2 : (hi = none ∧ hh = n) ∨ ∃ o kd, hi = some o ∧ a.eval o = .int kd (hh : Int) := natOr_run hT hhi
        have hle : (hh : Int) ≤ (n : Int) := by omega
        have hle2 : (ll : Int) ≤ (hh : Int) := by omega
        have hle3 : (ll : Int) ≤ (n : Int) := by omega
        rcases e1 with ⟨rfl, rfl⟩ | ⟨o1, k1, rfl, q1⟩ <;> rcases e2 with ⟨rfl, rfl⟩ | ⟨o2, k2, rfl, q2⟩
        · simp_all [Instr.sliceAt, run_underlying (g.und _ _ hd), Instr.sureAddr, Instr.sliceBounds, Instr.sliceBound, asIntOf, run_sizeOf hj, addr_add]
        · simp_all [Instr.sliceAt, run_underlying (g.und _ _ hd), Instr.sureAddr, Instr.sliceBounds, Instr.sliceBound, asIntOf, run_sizeOf hj, addr_add]
        · simp_all [Instr.sliceAt, run_underlying (g.und _ _ hd), Instr.sureAddr, Instr.sliceBounds, Instr.sliceBound, asIntOf, run_sizeOf hj, addr_add]
        · simp_all [Instr.sliceAt, run_underlying (g.und _ _ hd), Instr.sureAddr, Instr.sliceBounds, Instr.sliceBound, asIntOf, run_sizeOf hj, addr_add]
      · rw [VR]
        refine ⟨_, n - ll, y, rfl, by omega, .inr rfl, hy, fun _ => ?_, fun ho => ?_⟩
        · rw [c6, hsz0]; simp
        · by_cases en : n = ll
          · rw [if_pos en]
            rcases ho with ho | ho
            · have h1 : ad.off + ll * i.size = 0 := ho
              have h2 : ad.off = 0 := by omega
              rw [h1, h2]
            · omega
          · rw [if_neg en]
theorem sliceS_run (g : Good P E) {s : St} (hR : R ρ s w) {t : List Value} {a : Act} (hT : TR ρ t a) {ty : TypeId} {x : Operand} {lo hi mx : Option Operand} {v : Value} (h : opSliceS E s t ty x lo hi mx = some v) : opSlice E t ty x lo hi mx = some v ∨ (mx = none ∧ ∃ u, (Instr.sliceAt ty (a.eval x) (lo.map a.eval) (hi.map a.eval) none).run P w = .ok u w ∧ VR ρ v u) := by
  unfold opSliceS at h
  split at h
  · rename_i n e hd
    split at h
    · rename_i m hm
      obtain ⟨j, hj, rfl⟩ := g.size _ _ hm
      exact .inr (sla_run g hR hT hd hj h)
    · cases h
  · exact .inl h
end
end Go.Proofs.YtcfekhcdadldmaaGreatDoor.Am
set_option linter.unusedSimpArgs false
namespace Go.Proofs.YtcfekhcdadldmaaGreatDoor.Am
open Go
def upd (ρ : Rho) (n : Nat) (x : Nat × Nat × Nat) : Rho := fun m => if m = n then some x else ρ m
theorem upd_same (ρ : Rho) (n : Nat) (x : Nat × Nat × Nat) : upd ρ n x n = some x := by simp [upd]
theorem upd_other {ρ : Rho} {n m : Nat} {x : Nat × Nat × Nat} (h : m ≠ n) : upd ρ n x m = ρ m := by simp [upd, h]
theorem sub_upd {ρ : Rho} {n : Nat} (h : ρ n = none) (x : Nat × Nat × Nat) : Sub ρ (upd ρ n x) := fun m y hy => by
  by_cases e : m = n
  · subst e; rw [h] at hy; cases hy
  · rw [upd_other e]; exact hy
theorem putRowK_ok {s : St} {n : Nat} {r : Option Row} {k : St → Bool} (h : putRowK s n r k = true) : ∃ s', k s' = true ∧ s'.c = s.c ∧ (∀ m q, s'.get m = some q → (m = n ∧ r = some q) ∨ (m ≠ n ∧ s.get m = some q)) ∧ ∀ m, s'.gi m = s.gi m := by
  obtain ⟨t', h1, h2⟩ := Tr.setK_get _ _ _ _ _ h
  exact ⟨_, h1, rfl, h2, fun _ => rfl⟩
theorem newK_ok {s : St} {cs : List Value} {ty : TypeId} {sz : Nat} {k : Nat → St → Bool} (h : newK s cs ty sz k = true) : ∃ s', k s.c s' = true ∧ s'.c = s.c + 1 ∧ (∀ m q, s'.get m = some q → (m = s.c ∧ q = ⟨cs, ty, sz⟩) ∨ (m ≠ s.c ∧ s.get m = some q)) ∧ ∀ m, s'.gi m = s.gi m := by
  rw [newK, forceL_eq] at h
  obtain ⟨t', h1, h2⟩ := Tr.setK_get _ _ _ _ _ h
  rw [forceN_eq] at h1
  refine ⟨_, h1, rfl, fun m q hq => ?_, fun _ => rfl⟩
  rcases h2 m q hq with ⟨e, e'⟩ | h3
  · exact .inl ⟨e, (Option.some.inj e').symm⟩
  · exact .inr h3
section
variable {ρ : Rho} {s s' : St} {w w' : World}
theorem lo_upd {m : Nat} {y : Nat × Nat × Nat} (h : ∀ n x, ρ n = some x → isG x.1 = false) (hy : isG y.1 = false) : ∀ n x, upd ρ m y n = some x → isG x.1 = false := fun n x hx => by
  by_cases e : n = m
  · subst e
    rw [upd_same] at hx
    obtain rfl := Option.some.inj hx
    exact hy
  · rw [upd_other e] at hx
    exact h n x hx
/-- a new row in a new block. -/
theorem R.new (hR : R ρ s w) {b sz : Nat} {c : Array Value} {cs : List Value} {ty : TypeId} (hc : s'.c = s.c + 1) (hg : ∀ m q, s'.get m = some q → (m = s.c ∧ q = ⟨cs, ty, sz⟩) ∨ (m ≠ s.c ∧ s.get m = some q)) (hgm : ∀ m, s'.gi m = s.gi m)
    (hb : w.heap.size ≤ b) (hw : w'.heap[b]? = some (.cells c ty)) (hs : w.heap.size ≤ w'.heap.size) (hk : ∀ k, k < w.heap.size → w'.heap[k]? = w.heap[k]?) (hl : L2 ρ cs (c.toList.take cs.length)) (hle : cs.length ≤ c.size) (ho : ∀ v ∈ cs, one v = true) (hx0 : sz = 0 → cs.length = c.size) (e1 : w'.os = w.os) (e2 : w'.tape = w.tape) (e3 : w'.output = w.output) :
    R (upd ρ s.c (b, c.size, sz)) s' w' ∧ Ext ρ s w (upd ρ s.c (b, c.size, sz)) s' w' := by
  have hit : s'.m.it = s.m.it := congrArg Prod.snd (hgm 0)
  replace hgm : ∀ m, s'.gm m = s.gm m := fun m => congrArg Prod.fst (hgm m)
  have hitR : s'.m.it = false → ∀ n es, s'.gm n = some es → isIt es = false := fun e n es h => hR.it (hit ▸ e) n es (by rw [← hgm]; exact h)
  have hn := hR.dom s.c (Nat.le_refl _)
  have hsub := sub_upd hn (b, c.size, sz)
  have hlt : ∀ n x, ρ n = some x → x.1 < w.heap.size := hR.lt
  have hmne : ∀ n es, s.gm n = some es → n ≠ s.c := fun n es h e => by
    obtain ⟨x, hx, _⟩ := hR.maps n es h
    rw [e, hn] at hx; cases hx
  refine ⟨⟨fun n h => ?_, fun n x h => ?_, fun n r h => ?_, fun n es h => ?_, fun n m es fs x y h1 h2 h3 h4 h5 => ?_, fun n m r q x y h1 h2 h3 h4 h5 => ?_, hR.gl.keep fun k h _ => hk k h, lo_upd hR.lo (hR.gl.new hb), hitR⟩, ⟨by omega, hsub, hs, e1, e2, e3, fun k h1 _ => hk k h1, ?_, fun j hj => upd_other (by omega)⟩⟩
  · rw [upd_other (by omega)]; exact hR.dom n (by omega)
  · by_cases e : n = s.c
    · subst e
      rw [upd_same] at h
      obtain rfl := Option.some.inj h
      exact (Array.getElem?_eq_some_iff.1 hw).1
    · rw [upd_other e] at h
      exact Nat.lt_of_lt_of_le (hlt n x h) hs
  · rcases hg n r h with ⟨rfl, rfl⟩ | ⟨e, h⟩
    · exact ⟨_, c, upd_same _ _ _, hw, rfl, hle, hl.mono hsub, ho, rfl, hx0⟩
    · obtain ⟨x, c', h1, h2, h3, h4, h5, h6⟩ := hR.rows n r h
      exact ⟨x, c', by rw [upd_other e]; exact h1, (hk _ (hlt n x h1)).trans h2, h3, h4, h5.mono hsub, h6⟩
  · rw [hgm] at h
    obtain ⟨x, h1, h2⟩ := hR.maps n es h
    exact ⟨x, by rw [upd_other (hmne n es h)]; exact h1, h2.keep hsub fun k o hk' _ => (hk k (Array.getElem?_eq_some_iff.1 hk').1).trans hk'⟩
  · rw [hgm] at h1 h2
    rw [upd_other (hmne n es h1)] at h3
    rw [upd_other (hmne m fs h2)] at h4
    exact hR.injm n m es fs x y h1 h2 h3 h4 h5
  · rcases hg n r h1 with ⟨rfl, rfl⟩ | ⟨e, h1⟩ <;> rcases hg m q h2 with ⟨rfl, rfl⟩ | ⟨e', h2⟩
    · rfl
    · rw [upd_same] at h3
      rw [upd_other e'] at h4
      obtain rfl := Option.some.inj h3
      have := hlt m y h4
      simp only at h5; omega
    · rw [upd_same] at h4
      rw [upd_other e] at h3
      obtain rfl := Option.some.inj h4
      have := hlt n x h3
      simp only at h5; omega
    · rw [upd_other e] at h3
      rw [upd_other e'] at h4
      exact hR.inj n m r q x y h1 h2 h3 h4 h5
  · rintro k ⟨n, x, ⟨r, h1⟩ | ⟨es, h1⟩, h2, rfl⟩
    · rcases hg n r h1 with ⟨rfl, rfl⟩ | ⟨e, h1⟩
      · rw [upd_same] at h2
        obtain rfl := Option.some.inj h2
        exact .inr hb
      · rw [upd_other e] at h2
        exact .inl ⟨n, x, .inl ⟨r, h1⟩, h2, rfl⟩
    · rw [hgm] at h1
      rw [upd_other (hmne n es h1)] at h2
      exact .inl ⟨n, x, .inr ⟨es, h1⟩, h2, rfl⟩
/-- a row under another name, longer, in the same block. -/
theorem R.grown (hR : R ρ s w) {n : Nat} {r : Row} {x : Nat × Nat × Nat} (hr : s.get n = some r) (hx : ρ n = some x) (hxs : x.2.2 = r.sz) {c : Array Value} {cs : List Value} (hc : s'.c = s.c + 1) (hg : ∀ m q, s'.get m = some q → (m = s.c ∧ q = ⟨cs, r.elem, r.sz⟩) ∨ (m ≠ s.c ∧ m ≠ n ∧ s.get m = some q)) (hgm : ∀ m, s'.gi m = s.gi m)
    (hw : w'.heap[x.1]? = some (.cells c r.elem)) (hs : w.heap.size ≤ w'.heap.size) (hk : ∀ k, k < w.heap.size → k ≠ x.1 → w'.heap[k]? = w.heap[k]?) (hl : L2 ρ cs (c.toList.take cs.length)) (hle : cs.length ≤ c.size) (hsz : c.size = x.2.1) (ho : ∀ v ∈ cs, one v = true) (hx0 : r.sz = 0 → cs.length = x.2.1) (e1 : w'.os = w.os) (e2 : w'.tape = w.tape) (e3 : w'.output = w.output) {c0 : Array Value} (hw0 : w.heap[x.1]? = some (.cells c0 r.elem)) :
    R (upd ρ s.c x) s' w' ∧ Ext ρ s w (upd ρ s.c x) s' w' := by
  have hit : s'.m.it = s.m.it := congrArg Prod.snd (hgm 0)
  replace hgm : ∀ m, s'.gm m = s.gm m := fun m => congrArg Prod.fst (hgm m)
  have hitR : s'.m.it = false → ∀ n es, s'.gm n = some es → isIt es = false := fun e n es h => hR.it (hit ▸ e) n es (by rw [← hgm]; exact h)
  have hn := hR.dom s.c (Nat.le_refl _)
  have hsub := sub_upd hn x
  have hlt : ∀ n x, ρ n = some x → x.1 < w.heap.size := hR.lt
  have hne : ∀ m q y, m ≠ n → s.get m = some q → ρ m = some y → y.1 ≠ x.1 := fun m q y h1 h2 h3 e => h1 (hR.inj m n q r y x h2 hr h3 hx e)
  have hmne : ∀ n es, s.gm n = some es → n ≠ s.c := fun n es h e => by
    obtain ⟨x, hx, _⟩ := hR.maps n es h
    rw [e, hn] at hx; cases hx
  have hmb : ∀ m es y, s.gm m = some es → ρ m = some y → y.1 ≠ x.1 := fun m es y h1 h2 e => by
    obtain ⟨y', q1, q2⟩ := hR.maps m es h1
    rw [h2] at q1
    obtain rfl := Option.some.inj q1
    rw [e] at q2
    exact q2.no hw0
  refine ⟨⟨fun m h => ?_, fun m y h => ?_, fun m q h => ?_, fun m es h => ?_, fun m k es fs y z h1 h2 h3 h4 h5 => ?_, fun m k q p y z h1 h2 h3 h4 h5 => ?_, hR.gl.keep fun k h hg => hk k h (fun e => by rw [e, hR.lo n x hx] at hg; cases hg), lo_upd hR.lo (hR.lo n x hx), hitR⟩, ⟨by omega, hsub, hs, e1, e2, e3, fun k h1 h2 => hk k h1 (fun e => h2 ⟨n, x, .inl ⟨r, hr⟩, hx, e.symm⟩), ?_, fun j hj => upd_other (by omega)⟩⟩
  · rw [upd_other (by omega)]; exact hR.dom m (by omega)
  · by_cases e : m = s.c
    · subst e
      rw [upd_same] at h
      obtain rfl := Option.some.inj h
      exact Nat.lt_of_lt_of_le (hlt n _ hx) hs
    · rw [upd_other e] at h
      exact Nat.lt_of_lt_of_le (hlt m y h) hs
  · rcases hg m q h with ⟨rfl, rfl⟩ | ⟨e, en, h⟩
    · exact ⟨_, c, upd_same _ _ _, hw, hsz, by rw [← hsz]; exact hle, hl.mono hsub, ho, hxs, hx0⟩
    · obtain ⟨y, c', h1, h2, h3, h4, h5, h6⟩ := hR.rows m q h
      exact ⟨y, c', by rw [upd_other e]; exact h1, (hk _ (hlt m y h1) (hne m q y en h h1)).trans h2, h3, h4, h5.mono hsub, h6⟩
  · rw [hgm] at h
    obtain ⟨y, h1, h2⟩ := hR.maps m es h
    exact ⟨y, by rw [upd_other (hmne m es h)]; exact h1, h2.keep hsub fun k o hk' hn => (hk k (Array.getElem?_eq_some_iff.1 hk').1 (fun e => by rw [e, hw0] at hk'; exact hn _ _ _ (Option.some.inj hk').symm)).trans hk'⟩
  · rw [hgm] at h1 h2
    rw [upd_other (hmne m es h1)] at h3
    rw [upd_other (hmne k fs h2)] at h4
    exact hR.injm m k es fs y z h1 h2 h3 h4 h5
  · rcases hg m q h1 with ⟨rfl, rfl⟩ | ⟨e, en, h1⟩ <;> rcases hg k p h2 with ⟨rfl, rfl⟩ | ⟨e', en', h2⟩
    · rfl
    · rw [upd_same] at h3
      rw [upd_other e'] at h4
      obtain rfl := Option.some.inj h3
      exact absurd h5.symm (hne k p z en' h2 h4)
    · rw [upd_same] at h4
      rw [upd_other e] at h3
      obtain rfl := Option.some.inj h4
      exact absurd h5 (hne m q y en h1 h3)
    · rw [upd_other e] at h3
      rw [upd_other e'] at h4
      exact hR.inj m k q p y z h1 h2 h3 h4 h5
  · rintro k ⟨m, y, ⟨q, h1⟩ | ⟨es, h1⟩, h2, rfl⟩
    · rcases hg m q h1 with ⟨rfl, rfl⟩ | ⟨e, en, h1⟩
      · rw [upd_same] at h2
        obtain rfl := Option.some.inj h2
        exact .inl ⟨n, x, .inl ⟨r, hr⟩, hx, rfl⟩
      · rw [upd_other e] at h2
        exact .inl ⟨m, y, .inl ⟨q, h1⟩, h2, rfl⟩
    · rw [hgm] at h1
      rw [upd_other (hmne m es h1)] at h2
      exact .inl ⟨m, y, .inr ⟨es, h1⟩, h2, rfl⟩
/-- a row that is written. -/
theorem R.write (hR : R ρ s w) {n : Nat} {r : Row} {x : Nat × Nat × Nat} (hr : s.get n = some r) (hx : ρ n = some x) (hxs : x.2.2 = r.sz) {c : Array Value} {cs : List Value} (hc : s'.c = s.c) (hg : ∀ m q, s'.get m = some q → (m = n ∧ q = ⟨cs, r.elem, r.sz⟩) ∨ (m ≠ n ∧ s.get m = some q)) (hgm : ∀ m, s'.gi m = s.gi m)
    (hw : w'.heap[x.1]? = some (.cells c r.elem)) (hs : w.heap.size ≤ w'.heap.size) (hk : ∀ k, k < w.heap.size → k ≠ x.1 → w'.heap[k]? = w.heap[k]?) (hl : L2 ρ cs (c.toList.take cs.length)) (hle : cs.length ≤ c.size) (hsz : c.size = x.2.1) (ho : ∀ v ∈ cs, one v = true) (hx0 : r.sz = 0 → cs.length = x.2.1) (e1 : w'.os = w.os) (e2 : w'.tape = w.tape) (e3 : w'.output = w.output) {c0 : Array Value} (hw0 : w.heap[x.1]? = some (.cells c0 r.elem)) :
    R ρ s' w' ∧ Ext ρ s w ρ s' w' := by
  have hit : s'.m.it = s.m.it := congrArg Prod.snd (hgm 0)
  replace hgm : ∀ m, s'.gm m = s.gm m := fun m => congrArg Prod.fst (hgm m)
  have hitR : s'.m.it = false → ∀ n es, s'.gm n = some es → isIt es = false := fun e n es h => hR.it (hit ▸ e) n es (by rw [← hgm]; exact h)
  have hlt : ∀ n x, ρ n = some x → x.1 < w.heap.size := hR.lt
  have hne : ∀ m q y, m ≠ n → s.get m = some q → ρ m = some y → y.1 ≠ x.1 := fun m q y h1 h2 h3 e => h1 (hR.inj m n q r y x h2 hr h3 hx e)
  have hold : ∀ m q, s'.get m = some q → ∃ p, s.get m = some p := fun m q h => by
    rcases hg m q h with ⟨rfl, _⟩ | ⟨_, h⟩
    · exact ⟨r, hr⟩
    · exact ⟨q, h⟩
  have hmb : ∀ m es y, s.gm m = some es → ρ m = some y → y.1 ≠ x.1 := fun m es y h1 h2 e => by
    obtain ⟨y', q1, q2⟩ := hR.maps m es h1
    rw [h2] at q1
    obtain rfl := Option.some.inj q1
    rw [e] at q2
    exact q2.no hw0
  refine ⟨⟨fun m h => hR.dom m (by omega), fun m y h => Nat.lt_of_lt_of_le (hlt m y h) hs, fun m q h => ?_, fun m es h => ?_, fun m k es fs y z h1 h2 h3 h4 h5 => ?_, fun m k q p y z h1 h2 h3 h4 h5 => ?_, hR.gl.keep fun k h hg => hk k h (fun e => by rw [e, hR.lo n x hx] at hg; cases hg), hR.lo, hitR⟩, ⟨by omega, fun _ _ h => h, hs, e1, e2, e3, fun k h1 h2 => hk k h1 (fun e => h2 ⟨n, x, .inl ⟨r, hr⟩, hx, e.symm⟩), ?_, fun _ _ => rfl⟩⟩
  · rcases hg m q h with ⟨rfl, rfl⟩ | ⟨en, h⟩
    · exact ⟨x, c, hx, hw, hsz, by rw [← hsz]; exact hle, hl, ho, hxs, hx0⟩
    · obtain ⟨y, c', h1, h2, h3, h4, h5, h6⟩ := hR.rows m q h
      exact ⟨y, c', h1, (hk _ (hlt m y h1) (hne m q y en h h1)).trans h2, h3, h4, h5, h6⟩
  · rw [hgm] at h
    obtain ⟨y, h1, h2⟩ := hR.maps m es h
    exact ⟨y, h1, h2.keep (fun _ _ h => h) fun k o hk' hn => (hk k (Array.getElem?_eq_some_iff.1 hk').1 (fun e => by rw [e, hw0] at hk'; exact hn _ _ _ (Option.some.inj hk').symm)).trans hk'⟩
  · rw [hgm] at h1 h2
    exact hR.injm m k es fs y z h1 h2 h3 h4 h5
  · obtain ⟨p1, h1⟩ := hold m q h1
    obtain ⟨p2, h2⟩ := hold k p h2
    exact hR.inj m k p1 p2 y z h1 h2 h3 h4 h5
  · rintro k ⟨m, y, ⟨q, h1⟩ | ⟨es, h1⟩, h2, rfl⟩
    · obtain ⟨p1, h1⟩ := hold m q h1
      exact .inl ⟨m, y, .inl ⟨p1, h1⟩, h2, rfl⟩
    · rw [hgm] at h1
      exact .inl ⟨m, y, .inr ⟨es, h1⟩, h2, rfl⟩
end
theorem putN_len : ∀ (l : List Value) (n : Nat) (vs : List Value), (putN l n vs).length = l.length
  | l, 0, [] => by simp [putN]
  | [], 0, v :: r => by simp [putN]
  | u :: l, 0, v :: r => by simp [putN, putN_len l 0 r]
  | [], n + 1, vs => by simp [putN]
  | u :: l, n + 1, vs => by simp [putN, putN_len l n vs]
theorem putN_get : ∀ (l : List Value) (n : Nat) (vs : List Value) (i : Nat), n + vs.length ≤ l.length → (putN l n vs)[i]? = if n ≤ i ∧ i < n + vs.length then vs[i - n]? else l[i]?
  | l, 0, [], i, _ => by simp [putN]
  | [], 0, v :: r, i, h => by simp at h
  | u :: l, 0, v :: r, i, h => by
    simp only [List.length_cons] at h
    cases i with
    | zero => simp [putN]
    | succ i =>
      have ih := putN_get l 0 r i (by omega)
      simp only [Nat.zero_add, Nat.sub_zero, Nat.zero_le, true_and] at ih
      simp only [putN, List.getElem?_cons_succ, ih, List.length_cons, Nat.zero_add, Nat.zero_le, true_and, Nat.sub_zero, Nat.add_lt_add_iff_right]
  | [], n + 1, vs, i, h => by simp at h
  | u :: l, n + 1, vs, i, h => by
    simp only [List.length_cons] at h
    cases i with
    | zero => simp [putN]
    | succ i =>
      have ih := putN_get l n vs i (by omega)
      simp only [putN, List.getElem?_cons_succ, ih, Nat.add_le_add_iff_right, show n + 1 + vs.length = n + vs.length + 1 by omega, Nat.add_lt_add_iff_right, show i + 1 - (n + 1) = i - n by omega]
end Go.Proofs.YtcfekhcdadldmaaGreatDoor.Am
set_option linter.unusedSimpArgs false
namespace Go.Proofs.YtcfekhcdadldmaaGreatDoor.Am
open Go
theorem one_cell {u : Value} (h : one u = true) : u.oneCell' = true := by cases u <;> simp [one] at h <;> rfl
theorem setCell_heap {w : World} {b o : Nat} {c : Array Value} {e : TypeId} (h : w.heap[b]? = some (.cells c e)) (v : Value) : (w.setCell ⟨b, o, none⟩ v).heap[b]? = some (.cells (c.setIfInBounds o v) e) := by
  simp [World.setCell, Array.getElem?_modify, h]
theorem setCell_other {w : World} {b o k : Nat} (v : Value) (h : k ≠ b) : (w.setCell ⟨b, o, none⟩ v).heap[k]? = w.heap[k]? := by
  simp [World.setCell, Array.getElem?_modify, Ne.symm h]
theorem setCells_heap {b : Nat} {e : TypeId} : ∀ (vs : List Value) (o : Nat) (w : World) (c : Array Value), w.heap[b]? = some (.cells c e) → o + vs.length ≤ c.size →
    ∃ c' : Array Value, (w.setCells b o vs).heap[b]? = some (.cells c' e) ∧ c'.toList = putN c.toList o vs ∧ (∀ k, k ≠ b → (w.setCells b o vs).heap[k]? = w.heap[k]?) ∧ (w.setCells b o vs).heap.size = w.heap.size ∧ (w.setCells b o vs).os = w.os ∧ (w.setCells b o vs).tape = w.tape ∧ (w.setCells b o vs).output = w.output
  | [], o, w, c, h, _ => ⟨c, h, by
      apply List.ext_getElem?
      intro i
      by_cases hl : o ≤ c.toList.length
      · rw [putN_get _ _ _ _ (by simpa using hl)]
        simp
        intro h1 h2; omega
      · rename_i hlen
        simp at hlen hl; omega, fun _ _ => rfl, rfl, rfl, rfl, rfl⟩
  | v :: r, o, w, c, h, hl => by
    simp only [List.length_cons] at hl
    obtain ⟨c', h1, h2, h3, h4, h5, h6, h7⟩ := setCells_heap r (o + 1) (w.setCell ⟨b, o, none⟩ v) _ (setCell_heap h v) (by simp; omega)
    refine ⟨c', h1, ?_, fun k hk => (h3 k hk).trans (setCell_other v hk), h4.trans (by simp [World.setCell]), h5, h6, h7⟩
    rw [h2]
    apply List.ext_getElem?
    intro i
    rw [putN_get _ _ _ _ (by simp; omega), putN_get _ _ _ _ (by simp; omega), Array.toList_setIfInBounds, List.getElem?_set, List.length_cons]
    by_cases h8 : o = i
    · subst h8
      rw [if_neg (by omega), if_pos rfl, if_pos (by simp; omega), if_pos ⟨Nat.le_refl _, by omega⟩]
      simp
    · rw [if_neg h8]
      by_cases h9 : o + 1 ≤ i ∧ i < o + 1 + r.length
      · rw [if_pos h9, if_pos ⟨by omega, by omega⟩, show i - o = (i - (o + 1)) + 1 by omega, List.getElem?_cons_succ]
      · rw [if_neg h9, if_neg (by omega)]
section
variable {ρ : Rho}
theorem cells_ok {v u : Value} {vs : List Value} (h : cellsO v = some vs) (hv : VR ρ v u) : L2 ρ vs u.cells.toList ∧ ∀ x ∈ vs, one x = true := by
  have gen : one v = true → vs = [v] → L2 ρ vs u.cells.toList ∧ ∀ x ∈ vs, one x = true := fun ho e => by
    subst e
    have hu := hv.one ho
    have : u.cells.toList = [u] := by cases u <;> simp [one] at hu <;> rfl
    rw [this]
    exact ⟨(L2.nil ρ).cons hv, fun x hx => by rw [List.mem_singleton.1 hx]; exact ho⟩
  cases v with
  | agg cs =>
    simp only [cellsO, Option.some.injEq] at h
    subst h
    obtain ⟨ys, rfl, h1, h2⟩ := vr_agg.1 hv
    exact ⟨h1, h2⟩
  | tuple cs => simp [cellsO] at h
  | chan r => simp [cellsO] at h
  | _ => simp only [cellsO, Option.some.injEq] at h; exact gen rfl h.symm
theorem L2.putN {xs ys : List Value} (h : L2 ρ xs ys) {vs us : List Value} (hv : L2 ρ vs us) {n : Nat} (hn : n + vs.length ≤ xs.length) : L2 ρ (Am.putN xs n vs) (Am.putN ys n us) := by
  refine ⟨by rw [putN_len, putN_len, h.1], fun i v hi => ?_⟩
  rw [putN_get _ _ _ _ hn] at hi
  rw [putN_get _ _ _ _ (by rw [h.1, hv.1]; exact hn), hv.1]
  split at hi
  · rename_i hc; rw [if_pos hc]; exact hv.2 _ v hi
  · rename_i hc; rw [if_neg hc]; exact h.2 _ v hi
theorem putN_mem {xs vs : List Value} {n : Nat} (hn : n + vs.length ≤ xs.length) {p : Value → Prop} (h1 : ∀ x ∈ xs, p x) (h2 : ∀ x ∈ vs, p x) : ∀ x ∈ putN xs n vs, p x := by
  intro x hx
  obtain ⟨i, hi⟩ := List.mem_iff_getElem?.1 hx
  rw [putN_get _ _ _ _ hn] at hi
  split at hi
  · exact h2 x (List.mem_of_getElem? hi)
  · exact h1 x (List.mem_of_getElem? hi)
theorem fold_set (off : Nat) : ∀ (l : List Value) (k : Nat) (cs : Array Value), off + k + l.length ≤ cs.size → ((l.zipIdx k).foldl (fun cs p => cs.setIfInBounds (off + p.2) p.1) cs).toList = putN cs.toList (off + k) l
  | [], k, cs, h => by
    apply List.ext_getElem?
    intro i
    rw [putN_get _ _ _ _ (by simpa using h)]
    simp; intro h1 h2; omega
  | v :: r, k, cs, h => by
    simp only [List.length_cons] at h
    rw [List.zipIdx_cons, List.foldl_cons, fold_set off r (k + 1) _ (by simp; omega)]
    apply List.ext_getElem?
    intro i
    rw [putN_get _ _ _ _ (by simp; omega), putN_get _ _ _ _ (by simp; omega), Array.toList_setIfInBounds, List.getElem?_set, List.length_cons]
    by_cases h8 : off + k = i
    · subst h8
      rw [if_neg (by omega), if_pos rfl, if_pos (by simp; omega), if_pos ⟨Nat.le_refl _, by omega⟩]
      simp
    · rw [if_neg h8]
      by_cases h9 : off + (k + 1) ≤ i ∧ i < off + (k + 1) + r.length
      · rw [if_pos h9, if_pos ⟨by omega, by omega⟩, show i - (off + k) = (i - (off + (k + 1))) + 1 by omega, List.getElem?_cons_succ]
      · rw [if_neg h9, if_neg (by omega)]
theorem fill_ok {E : Env} {t : List Value} {a : Act} (hT : TR ρ t a) {place : Nat → Option (Nat × Nat)} {placeC : Nat → Option (Nat × Nat)} (hp : ∀ i p, place i = some p → placeC i = some p) : ∀ (ps : List (Nat × Operand)) (cs cs' ys : List Value), fillL E place t ps cs = some cs' → L2 ρ cs ys → (∀ v ∈ cs, one v = true) →
    ∃ ys', Instr.fill placeC ys.toArray (ps.map fun p => (p.1, a.eval p.2)) = some ys'.toArray ∧ L2 ρ cs' ys' ∧ (∀ v ∈ cs', one v = true) ∧ cs'.length = cs.length
  | [], cs, cs', ys, h, hl, ho => by
    simp only [fillL, Option.some.injEq] at h
    subst h
    exact ⟨ys, by simp [Instr.fill], hl, ho, rfl⟩
  | (i, x) :: r, cs, cs', ys, h, hl, ho => by
    rw [fillL] at h
    cases hpi : place i with
    | none => rw [hpi] at h; cases h
    | some p =>
      rw [hpi] at h
      simp only at h
      cases hc : cellsO (opv t x) with
      | none => rw [hc] at h; cases h
      | some vs =>
        rw [hc] at h
        simp only at h
        cases hq : (Nat.beq vs.length p.2 && Nat.ble (p.1 + vs.length) cs.length) with
        | false => rw [hq] at h; cases h
        | true =>
          rw [hq] at h
          simp only [cond_true] at h
          simp only [Bool.and_eq_true, Nat.ble_eq] at hq
          have hq1 : vs.length = p.2 := Nat.eq_of_beq_eq_true hq.1
          obtain ⟨l1, l2⟩ := cells_ok hc (hT.opv x)
          have hsz : (a.eval x).cells.size = vs.length := by have := l1.1; simpa using this
          obtain ⟨ys', r1, r2, r3, r4⟩ := fill_ok hT hp r _ _ _ h (hl.putN l1 hq.2) (putN_mem hq.2 ho l2)
          refine ⟨ys', ?_, r2, r3, r4.trans (putN_len _ _ _)⟩
          have hfold : ((a.eval x).cells.zipIdx.foldl (fun cs q => cs.setIfInBounds (p.1 + q.2) q.1) ys.toArray) = (putN ys p.1 (a.eval x).cells.toList).toArray := by
            apply Array.ext'
            rw [← Array.foldl_toList, Array.toList_zipIdx]
            have := fold_set p.1 (a.eval x).cells.toList 0 ys.toArray (by simp; rw [hsz, hl.1]; exact hq.2)
            simpa using this
          have hne : ¬ ((a.eval x).cells.size ≠ p.2 ∨ p.1 + (a.eval x).cells.size > ys.toArray.size) := by
            rw [hsz]; simp; rw [hl.1]; exact ⟨hq1, hq.2⟩
          rw [List.map_cons, Instr.fill, hp i p hpi]
          simp only
          rw [if_neg (by simpa using hne)]
          rw [← r1]
          congr 1
end
end Go.Proofs.YtcfekhcdadldmaaGreatDoor.Am
set_option linter.unusedSimpArgs false
namespace Go.Proofs.YtcfekhcdadldmaaGreatDoor.Am
open Go
theorem reps_get (z : List Value) : ∀ (n i : Nat), i < n * z.length → (reps z n)[i]? = z[i % z.length]?
  | 0, i, h => by simp at h
  | n + 1, i, h => by
    rw [reps]
    by_cases hi : i < z.length
    · rw [List.getElem?_append_left hi, Nat.mod_eq_of_lt hi]
    · rw [List.getElem?_append_right (by omega), reps_get z n (i - z.length) (by rw [Nat.succ_mul] at h; omega), ← Nat.mod_eq_sub_mod (by omega)]
theorem reps_len (z : List Value) : ∀ n, (reps z n).length = n * z.length
  | 0 => by simp [reps]
  | n + 1 => by rw [reps, List.length_append, reps_len z n, Nat.succ_mul]; omega
theorem reps_mem {z : List Value} {p : Value → Prop} (h : ∀ v ∈ z, p v) : ∀ n, ∀ v ∈ reps z n, p v
  | 0, v, hv => by simp [reps] at hv
  | n + 1, v, hv => by
    rcases List.mem_append.1 hv with h1 | h1
    · exact h v h1
    · exact reps_mem h n v h1
theorem zeros_reps (z : Array Value) (n : Nat) (hz : 0 < z.size) : (Array.range (n * z.size)).map (fun i => z[i % z.size]!) = (reps z.toList n).toArray := by
  apply Array.ext'
  apply List.ext_getElem?
  intro i
  simp only [Array.toList_map, Array.toList_range, List.getElem?_map]
  by_cases hi : i < n * z.size
  · rw [List.getElem?_range hi, reps_get _ _ _ (by simpa using hi)]
    have hm : i % z.size < z.size := Nat.mod_lt _ hz
    simp [hm]
  · rw [List.getElem?_eq_none (by simpa using hi), List.getElem?_eq_none (by rw [reps_len]; simpa using hi)]
    rfl
/-- what stands behind one operation. -/
def Nx (ρ : Rho) (s : St) (w : World) (k : K2) (o : Oper) (a : Act) (a' : Act) (w' : World) : Prop := ∃ v u ρ' s', a' = a.put o.dst u ∧ VR ρ' v u ∧ R ρ' s' w' ∧ Ext ρ s w ρ' s' w' ∧ k v s' = true
/-- what a call does. -/
def CallOk (P : Program) (call : CallK) : Prop := ∀ f args s k, call f args s k = true → (∀ as w, (callFunc f as).run P w = .ok (.enter f as) w) ∧ ∀ ρ w us, R ρ s w → L2 ρ args us →
  Calls P f us.toArray w (fun e w' => ∃ v u ρ' s', e = .returned u ∧ VR ρ' v u ∧ R ρ' s' w' ∧ Ext ρ s w ρ' s' w' ∧ k v s' = true)
section
variable {P : Program} {E : Env} {ρ : Rho} {s : St} {w : World} {t : List Value} {a : Act} {o : Oper} {k : K2} {Q : Exit → Act → World → Prop}
theorem light_wp (hR : R ρ s w) {v u : Value} (hr : (execOp a.eval o).run P w = .ok (.value u) w) (hv : VR ρ v u) (hk : k v s = true) : o.wp P a w (Nx ρ s w k o a) Q := by
  unfold Oper.wp
  rw [hr]
  exact ⟨v, u, ρ, s, rfl, hv, hR, Ext.refl _ _ _, hk⟩
theorem vK_inv {x : Option Value} (h : vK k s x = true) : ∃ v, x = some v ∧ k v s = true := by
  cases x with
  | none => cases h
  | some v => exact ⟨v, rfl, h⟩
theorem vK_wp (hR : R ρ s w) {x : Option Value} (h : vK k s x = true) (hx : ∀ v, x = some v → ∃ u, (execOp a.eval o).run P w = .ok (.value u) w ∧ VR ρ v u) : o.wp P a w (Nx ρ s w k o a) Q := by
  obtain ⟨v, e, hk⟩ := vK_inv h
  obtain ⟨u, hr, hv⟩ := hx v e
  exact light_wp hR hr hv hk
/-- a new box. -/
theorem new_wp (hR : R ρ s w) {ty : TypeId} {cs : List Value} {ys : Array Value} {sz : Nat} {mk : Option Addr → Value} (hr : (execOp a.eval o).run P w = .ok (.value (mk (some ⟨w.heap.size, 0, none⟩))) (w.alloc (.cells ys ty))) (hl : L2 ρ cs ys.toList) (ho : ∀ v ∈ cs, one v = true)
    {k' : Nat → St → Bool} (h : newK s cs ty sz k' = true) {mkA : Option Addr → Value} (hk : ∀ s', k' s.c s' = true → k (mkA (some ⟨s.c, 0, none⟩)) s' = true) (hv : ∀ ρ' : Rho, ρ' s.c = some (w.heap.size, ys.size, sz) → VR ρ' (mkA (some ⟨s.c, 0, none⟩)) (mk (some ⟨w.heap.size, 0, none⟩))) : o.wp P a w (Nx ρ s w k o a) Q := by
  obtain ⟨s', h1, h2, h3, h3m⟩ := newK_ok h
  have hlen : cs.length = ys.size := by have := hl.1; simp at this; omega
  obtain ⟨r1, r2⟩ := hR.new (w' := w.alloc (.cells ys ty)) (b := w.heap.size) (c := ys) h2 h3 h3m (Nat.le_refl _) (heap_alloc_new w _) (by simp) (fun k hk => heap_alloc_old w _ k hk) (by rw [hlen, List.take_of_length_le (by simp)]; exact hl) (by omega) ho (fun _ => hlen) rfl rfl rfl
  unfold Oper.wp
  rw [hr]
  exact ⟨_, _, _, s', rfl, hv _ (upd_same _ _ _), r1, r2, hk s' h1⟩
theorem op_alloc (g : Good P E) (hR : R ρ s w) {ty : TypeId} (ho : o.op = .alloc ty) (h : nPK k s ty (E.zero ty) = true) : o.wp P a w (Nx ρ s w k o a) Q := by
  unfold nPK at h
  split at h
  · rename_i cs hz
    obtain ⟨i, z, hi, hz0, rfl, hsz, hb, hp⟩ := g.zero _ _ hz
    refine new_wp hR (mk := .pointer) (mkA := .pointer) (ys := z.cells) ?_ (plains_l2 hp) (fun v hv => (plain_vr (ρ := ρ) (hp v hv)).2) h (fun s' hk => hk) (fun ρ' hρ => by rw [VR]; exact ⟨_, ⟨_, hρ, rfl⟩, rfl⟩)
    simp [execOp, ho, Instr.alloc, zeroValue, typeInfo, hi, hz0, newVar, newRow]
  · cases h
theorem op_box (hR : R ρ s w) (hT : TR ρ t a) {ty : TypeId} {x : Operand} (ho : o.op = .box ty x) (h : nPK k s ty (cellsO (opv t x)) = true) : o.wp P a w (Nx ρ s w k o a) Q := by
  unfold nPK at h
  split at h
  · rename_i cs hz
    obtain ⟨l1, l2⟩ := cells_ok hz (hT.opv x)
    refine new_wp hR (mk := .pointer) (mkA := .pointer) (ys := (a.eval x).cells) ?_ l1 l2 h (fun s' hk => hk) (fun ρ' hρ => by rw [VR]; exact ⟨_, ⟨_, hρ, rfl⟩, rfl⟩)
    simp [execOp, ho, Instr.box, newVar, newRow]
  · cases h
theorem op_bs (g : Good P E) (hR : R ρ s w) (hT : TR ρ t a) {ty : TypeId} {len : Nat} {ps : Array (Nat × Operand)} (ho : o.op = .buildSlice ty len ps) (h : opBSK E s t len ps.toList k (E.und ty) = true) : o.wp P a w (Nx ρ s w k o a) Q := by
  unfold opBSK at h
  split at h
  · rename_i e hd
    unfold opBSK2 at h
    split at h
    · rename_i z hz
      obtain ⟨i, zv, hi, hz0, rfl, hsz, hb, hp⟩ := g.zero _ _ hz
      unfold nSK at h
      split at h
      · rename_i cs hcs
        unfold opBS2 at hcs
        cases hq : (Nat.ble (len * zv.cells.toList.length) 100000 && Nat.blt 0 zv.cells.toList.length) with
        | false => rw [hq] at hcs; cases hcs
        | true =>
          rw [hq] at hcs
          simp only [cond_true] at hcs
          simp only [Bool.and_eq_true, Nat.ble_eq, blt_iff] at hq
          obtain ⟨ys', f1, f2, f3, f4⟩ := fill_ok (placeC := fun k => some (k * i.size, i.size)) hT (fun j p hj => by rw [hsz]; exact hj) ps.toList _ _ _ hcs (plains_l2 (reps_mem hp len)) (fun v hv => (plain_vr (ρ := ρ) (reps_mem hp len v hv)).2)
          have hzr := zeros_reps zv.cells len (by simpa using hq.2)
          have hne : ¬ len * i.size = 0 ∨ len = 0 := by
            rcases Nat.eq_zero_or_pos len with e | e
            · exact .inr e
            · left
              have : 0 < len * i.size := Nat.mul_pos e (by rw [hsz]; exact hq.2)
              omega
          have hsz' : i.size = zv.cells.size := by rw [hsz]; simp
          refine new_wp hR (mk := fun ad => .slice ad len len) (mkA := fun ad => .slice ad len (len + 1)) (ys := ys'.toArray) ?_ (by simpa using f2) f3 h (fun s' hk => hk) (fun ρ' hρ => ?_)
          · have hbig : ¬ (len * i.size > 2 ^ 24) := by rw [hsz]; omega
            have f1' : Instr.fill (fun k => some (k * i.size, i.size)) (reps zv.cells.toList len).toArray (Array.map (fun x => (x.fst, a.eval x.snd)) ps).toList = some ys'.toArray := by rw [Array.toList_map]; exact f1
            simp only [execOp, ho, Instr.buildSlice, Sem.run_bind, run_underlying (g.und _ _ hd), Result.andThen_ok, run_sizeOf hi, if_neg hbig]
            by_cases h0 : len * i.size = 0
            · have hl0 : len = 0 := by rcases hne with h | h; exact absurd h0 h; exact h
              subst hl0
              rw [if_pos h0]
              simp only [Sem.run_bind, Sem.run_pure, Result.andThen_ok, h0]
              simp only [reps] at f1'
              rw [show (Array.map (fun x => (#[] : Array Value)[x % (#[] : Array Value).size]!) (Array.range 0)) = #[] from by apply Array.ext'; simp, f1']
              simp [newRow]
            · rw [if_neg h0]
              have hz3 : (Array.range (len * i.size)).map (fun j => zv.cells[j % zv.cells.size]!) = (reps zv.cells.toList len).toArray := by rw [hsz']; exact hzr
              simp only [Sem.run_bind, Sem.run_pure, Result.andThen_ok, zeroValue, typeInfo, run_program, hi, hz0, hz3, f1']
              simp [newRow]
          · rw [VR]
            refine ⟨_, len, _, rfl, Nat.le_refl _, .inr rfl, hρ, fun _ => ?_, fun _ => rfl⟩
            have h5 := f2.1
            rw [f4, reps_len] at h5
            simp only [List.size_toArray]
            rw [h5]
            exact Nat.le_refl _
      · cases h
    · cases h
  · cases h
theorem reps_take (z : List Value) : ∀ {l c : Nat}, l ≤ c → (reps z c).take (l * z.length) = reps z l
  | 0, c, _ => by simp [reps]
  | l + 1, 0, h => by omega
  | l + 1, c + 1, h => by
    rw [reps, reps, List.take_append, Nat.succ_mul, List.take_of_length_le (by omega), Nat.add_sub_cancel, reps_take z (by omega)]
theorem new_wp2 (hR : R ρ s w) {ty : TypeId} {cs : List Value} {ys : Array Value} {sz : Nat} {mk : Option Addr → Value} (hr : (execOp a.eval o).run P w = .ok (.value (mk (some ⟨w.heap.size, 0, none⟩))) (w.alloc (.cells ys ty))) (hl : L2 ρ cs (ys.toList.take cs.length)) (hle : cs.length ≤ ys.size) (hsz0 : sz ≠ 0) (ho : ∀ v ∈ cs, one v = true)
    {k' : Nat → St → Bool} (h : newK s cs ty sz k' = true) {mkA : Option Addr → Value} (hk : ∀ s', k' s.c s' = true → k (mkA (some ⟨s.c, 0, none⟩)) s' = true) (hv : ∀ ρ' : Rho, ρ' s.c = some (w.heap.size, ys.size, sz) → VR ρ' (mkA (some ⟨s.c, 0, none⟩)) (mk (some ⟨w.heap.size, 0, none⟩))) : o.wp P a w (Nx ρ s w k o a) Q := by
  obtain ⟨s', h1, h2, h3, h3m⟩ := newK_ok h
  obtain ⟨r1, r2⟩ := hR.new (w' := w.alloc (.cells ys ty)) (b := w.heap.size) (c := ys) h2 h3 h3m (Nat.le_refl _) (heap_alloc_new w _) (by simp) (fun k hk => heap_alloc_old w _ k hk) hl hle ho (fun e => absurd e hsz0) rfl rfl rfl
  unfold Oper.wp
  rw [hr]
  exact ⟨_, _, _, s', rfl, hv _ (upd_same _ _ _), r1, r2, hk s' h1⟩
theorem op_ms (g : Good P E) (hR : R ρ s w) (hT : TR ρ t a) {ty : TypeId} {x y : Operand} (ho : o.op = .makeSlice ty x y) (h : opMSK E s (opv t x) (opv t y) k (E.und ty) = true) : o.wp P a w (Nx ρ s w k o a) Q := by
  unfold opMSK at h
  split at h
  · rename_i e hd
    unfold opMSK2 at h
    split at h
    · rename_i z hz
      obtain ⟨i, zv, hi, hz0, rfl, hsz, hb, hp⟩ := g.zero _ _ hz
      cases hl : natOf (opv t x) with
      | none => rw [hl] at h; cases h
      | some l =>
        cases hc : natOf (opv t y) with
        | none => rw [hl, hc] at h; cases h
        | some c =>
          rw [hl, hc] at h
          simp only at h
          obtain ⟨kl, el⟩ := natOf_run hl (hT.opv x)
          obtain ⟨kc, ec⟩ := natOf_run hc (hT.opv y)
          unfold opMSK3 at h
          cases hq : (Nat.ble l c && (Nat.ble (c * zv.cells.toList.length) 100000 && Nat.blt 0 zv.cells.toList.length)) with
          | false => rw [hq] at h; cases h
          | true =>
            rw [hq] at h
            simp only [cond_true, nSK] at h
            simp only [Bool.and_eq_true, Nat.ble_eq, blt_iff] at hq
            obtain ⟨q1, q2, q3⟩ := hq
            have hsz' : i.size = zv.cells.size := by rw [hsz]; simp
            have hc5 : c ≤ 100000 := Nat.le_trans (Nat.le_mul_of_pos_right c q3) q2
            have hmc : madeCells zv.cells (c * i.size) = (reps zv.cells.toList c).toArray := by
              rw [madeCells, hsz']; exact zeros_reps zv.cells c (by simpa using q3)
            have hr := run_makeSlice (P := P) w ty e i zv (g.und _ _ hd) hi hz0 kl kc (l : Int) (c : Int) (by omega) (by omega) (by
              simp only [Int.toNat_natCast]; rw [hsz]; omega) (by
              have : ((i.bytes * c : Nat) : Int) ≤ 281474976710656 := by
                have : i.bytes * c ≤ 1000 * 100000 := Nat.mul_le_mul hb hc5
                omega
              rwa [Int.natCast_mul] at this) (by omega)
            simp only [Int.toNat_natCast] at hr
            rw [hmc] at hr
            have hlen : (reps zv.cells.toList l).length ≤ (reps zv.cells.toList c).toArray.size := by
              simp only [List.size_toArray, reps_len]; exact Nat.mul_le_mul_right _ q1
            refine new_wp2 hR (mk := fun ad => .slice ad l c) (mkA := fun ad => .slice ad l (c + 1)) (ys := (reps zv.cells.toList c).toArray) ?_ ?_ hlen (by omega) (fun v hv => (plain_vr (ρ := ρ) (reps_mem hp l v hv)).2) h (fun s' hk => hk) (fun ρ' hρ => ?_)
            · simp only [execOp, ho, el, ec, Sem.run_bind, hr, Result.andThen_ok, Sem.run_pure]
            · rw [reps_len]
              simp only [reps_take _ q1]
              exact plains_l2 (reps_mem hp l)
            · rw [VR]
              refine ⟨_, c, _, rfl, q1, .inr rfl, hρ, fun _ => ?_, fun _ => rfl⟩
              simp only [List.size_toArray, reps_len]
              exact Nat.le_refl _
    · cases h
  · cases h
/-- a new row, whenever it is laid. -/
theorem fl_run (g : Good P E) (hT : TR ρ t a) {I : FlI} (h : flInfo E t o.op = some I) : ∃ (ys : Array Value) (u : Value), (execOp a.eval o).run P w = .ok (.value u) (w.alloc (I.ob ys)) ∧ L2 ρ I.cs (ys.toList.take I.cs.length) ∧ I.cs.length ≤ ys.size ∧ (∀ v ∈ I.cs, one v = true) ∧ (I.sz = 0 → I.cs.length = ys.size) ∧ ∀ (ρ' : Rho) (n : Nat), ρ' n = some (w.heap.size, ys.size, I.sz) → VR ρ' (I.vl (some ⟨n, 0, none⟩)) u := by
  have full : ∀ {cs : List Value} {ys : Array Value}, L2 ρ cs ys.toList → L2 ρ cs (ys.toList.take cs.length) ∧ cs.length ≤ ys.size ∧ cs.length = ys.size := fun {cs ys} hl => by
    have hlen : cs.length = ys.size := by have := hl.1; simp at this; omega
    exact ⟨by rw [hlen, List.take_of_length_le (by simp)]; exact hl, by omega, hlen⟩
  unfold flInfo at h
  split at h
  · rename_i ty ho
    cases hz : E.zero ty with
    | none => rw [hz] at h; cases h
    | some z =>
      rw [hz] at h
      obtain rfl := Option.some.inj h
      obtain ⟨i, zv, hi, hz0, rfl, hsz, hb, hp⟩ := g.zero _ _ hz
      obtain ⟨q1, q2, q3⟩ := full (ys := zv.cells) (plains_l2 (ρ := ρ) hp)
      exact ⟨zv.cells, .pointer (some ⟨w.heap.size, 0, none⟩), by simp [execOp, ho, Instr.alloc, zeroValue, typeInfo, hi, hz0, newVar, newRow, FlI.ob], q1, q2, fun v hv => (plain_vr (ρ := ρ) (hp v hv)).2, fun _ => q3, fun ρ' n hρ => by rw [VR]; exact ⟨_, ⟨_, hρ, rfl⟩, rfl⟩⟩
  · rename_i ty x ho
    cases hz : cellsO (opv t x) with
    | none => rw [hz] at h; cases h
    | some cs =>
      rw [hz] at h
      obtain rfl := Option.some.inj h
      obtain ⟨l1, l2⟩ := cells_ok hz (hT.opv x)
      obtain ⟨q1, q2, q3⟩ := full (ys := (a.eval x).cells) l1
      exact ⟨(a.eval x).cells, .pointer (some ⟨w.heap.size, 0, none⟩), by simp [execOp, ho, Instr.box, newVar, newRow, FlI.ob], q1, q2, l2, fun _ => q3, fun ρ' n hρ => by rw [VR]; exact ⟨_, ⟨_, hρ, rfl⟩, rfl⟩⟩
  · rename_i ty len ps ho
    split at h
    · rename_i e hd
      unfold flBS at h
      split at h
      · rename_i z hz
        obtain ⟨i, zv, hi, hz0, rfl, hsz, hb, hp⟩ := g.zero _ _ hz
        unfold flBS2 at h
        split at h
        · rename_i cs hcs
          obtain rfl := Option.some.inj h
          unfold opBS2 at hcs
          cases hq : (Nat.ble (len * zv.cells.toList.length) 100000 && Nat.blt 0 zv.cells.toList.length) with
          | false => rw [hq] at hcs; cases hcs
          | true =>
            rw [hq] at hcs
            simp only [cond_true] at hcs
            simp only [Bool.and_eq_true, Nat.ble_eq, blt_iff] at hq
            obtain ⟨ys', f1, f2, f3, f4⟩ := fill_ok (placeC := fun k => some (k * i.size, i.size)) hT (fun j p hj => by rw [hsz]; exact hj) ps.toList _ _ _ hcs (plains_l2 (reps_mem hp len)) (fun v hv => (plain_vr (ρ := ρ) (reps_mem hp len v hv)).2)
            have hzr := zeros_reps zv.cells len (by simpa using hq.2)
            have hne : ¬ len * i.size = 0 ∨ len = 0 := by
              rcases Nat.eq_zero_or_pos len with e | e
              · exact .inr e
              · left
                have : 0 < len * i.size := Nat.mul_pos e (by rw [hsz]; exact hq.2)
                omega
            have hsz' : i.size = zv.cells.size := by rw [hsz]; simp
            obtain ⟨q1, q2, q3⟩ := full (ys := ys'.toArray) (by simpa using f2)
            refine ⟨ys'.toArray, .slice (some ⟨w.heap.size, 0, none⟩) len len, ?_, q1, q2, f3, fun _ => q3, fun ρ' n hρ => ?_⟩
            · have hbig : ¬ (len * i.size > 2 ^ 24) := by rw [hsz]; omega
              have f1' : Instr.fill (fun k => some (k * i.size, i.size)) (reps zv.cells.toList len).toArray (Array.map (fun x => (x.fst, a.eval x.snd)) ps).toList = some ys'.toArray := by rw [Array.toList_map]; exact f1
              simp only [execOp, ho, Instr.buildSlice, Sem.run_bind, run_underlying (g.und _ _ hd), Result.andThen_ok, run_sizeOf hi, if_neg hbig]
              by_cases h0 : len * i.size = 0
              · have hl0 : len = 0 := by rcases hne with h | h; exact absurd h0 h; exact h
                subst hl0
                rw [if_pos h0]
                simp only [Sem.run_bind, Sem.run_pure, Result.andThen_ok, h0]
                simp only [reps] at f1'
                rw [show (Array.map (fun x => (#[] : Array Value)[x % (#[] : Array Value).size]!) (Array.range 0)) = #[] from by apply Array.ext'; simp, f1']
                simp [newRow, FlI.ob]
              · rw [if_neg h0]
                have hz3 : (Array.range (len * i.size)).map (fun j => zv.cells[j % zv.cells.size]!) = (reps zv.cells.toList len).toArray := by rw [hsz']; exact hzr
                simp only [Sem.run_bind, Sem.run_pure, Result.andThen_ok, zeroValue, typeInfo, run_program, hi, hz0, hz3, f1']
                simp [newRow, FlI.ob]
            · rw [VR]
              refine ⟨_, len, _, rfl, Nat.le_refl _, .inr rfl, hρ, fun _ => ?_, fun _ => rfl⟩
              have h5 := f2.1
              rw [f4, reps_len] at h5
              simp only [List.size_toArray]
              rw [h5]
              exact Nat.le_refl _
        · cases h
      · cases h
    · cases h
  · rename_i ty x y ho
    split at h
    · rename_i e hd
      unfold flMS at h
      split at h
      · rename_i z hz
        obtain ⟨i, zv, hi, hz0, rfl, hsz, hb, hp⟩ := g.zero _ _ hz
        cases hl : natOf (opv t x) with
        | none => rw [hl] at h; cases h
        | some l =>
          cases hc : natOf (opv t y) with
          | none => rw [hl, hc] at h; cases h
          | some c =>
            rw [hl, hc] at h
            simp only at h
            obtain ⟨kl, el⟩ := natOf_run hl (hT.opv x)
            obtain ⟨kc, ec⟩ := natOf_run hc (hT.opv y)
            unfold flMS2 at h
            cases hq : (Nat.ble l c && (Nat.ble (c * zv.cells.toList.length) 100000 && Nat.blt 0 zv.cells.toList.length)) with
            | false => rw [hq] at h; cases h
            | true =>
              rw [hq] at h
              obtain rfl := Option.some.inj h
              simp only [Bool.and_eq_true, Nat.ble_eq, blt_iff] at hq
              obtain ⟨q1, q2, q3⟩ := hq
              have hsz' : i.size = zv.cells.size := by rw [hsz]; simp
              have hc5 : c ≤ 100000 := Nat.le_trans (Nat.le_mul_of_pos_right c q3) q2
              have hmc : madeCells zv.cells (c * i.size) = (reps zv.cells.toList c).toArray := by
                rw [madeCells, hsz']; exact zeros_reps zv.cells c (by simpa using q3)
              have hr := run_makeSlice (P := P) w ty e i zv (g.und _ _ hd) hi hz0 kl kc (l : Int) (c : Int) (by omega) (by omega) (by
                simp only [Int.toNat_natCast]; rw [hsz]; omega) (by
                have : ((i.bytes * c : Nat) : Int) ≤ 281474976710656 := by
                  have : i.bytes * c ≤ 1000 * 100000 := Nat.mul_le_mul hb hc5
                  omega
                rwa [Int.natCast_mul] at this) (by omega)
              simp only [Int.toNat_natCast] at hr
              rw [hmc] at hr
              have hlen : (reps zv.cells.toList l).length ≤ (reps zv.cells.toList c).toArray.size := by
                simp only [List.size_toArray, reps_len]; exact Nat.mul_le_mul_right _ q1
              refine ⟨(reps zv.cells.toList c).toArray, .slice (some ⟨w.heap.size, 0, none⟩) l c, ?_, ?_, hlen, fun v hv => (plain_vr (ρ := ρ) (reps_mem hp l v hv)).2, fun e0 => ?_, fun ρ' n hρ => ?_⟩
              · simp only [execOp, ho, el, ec, Sem.run_bind, hr, Result.andThen_ok, Sem.run_pure]
                rfl
              · rw [reps_len]
                simp only [reps_take _ q1]
                exact plains_l2 (reps_mem hp l)
              · have e1 : zv.cells.toList.length = 0 := e0
                omega
              · rw [VR]
                refine ⟨_, c, _, rfl, q1, .inr rfl, hρ, fun _ => ?_, fun _ => rfl⟩
                simp only [List.size_toArray, reps_len]
                exact Nat.le_refl _
      · cases h
    · cases h
  · rename_i ty r ho
    split at h
    · obtain rfl := Option.some.inj h
      refine ⟨#[], .map (some w.heap.size), ?_, L2.nil _, Nat.zero_le _, fun v hv => (by cases hv), fun _ => rfl, fun ρ' n hρ => ?_⟩
      · simp [execOp, ho, Instr.makeMap, FlI.ob]
      · show VR ρ' (.map (some n)) _
        rw [VR]; exact ⟨_, hρ, rfl⟩
    · cases h
  · cases h
end
end Go.Proofs.YtcfekhcdadldmaaGreatDoor.Am
set_option linter.unusedSimpArgs false
namespace Go.Proofs.YtcfekhcdadldmaaGreatDoor.Am
open Go
section
variable {P : Program} {E : Env} {ρ : Rho} {s : St} {w : World} {t : List Value} {a : Act} {o : Oper} {k : K2} {Q : Exit → Act → World → Prop}
theorem L2.take_drop_of {c : List Value} {cs : List Value} (hl : L2 ρ cs (c.take cs.length)) {off n : Nat} (h : off + n ≤ cs.length) : L2 ρ ((cs.drop off).take n) ((c.drop off).take n) := by
  have := (hl.drop off).take n
  rwa [List.drop_take, List.take_take, Nat.min_eq_left (by omega)] at this
theorem op_store (g : Good P E) (hR : R ρ s w) (hT : TR ρ t a) {ty : TypeId} {x y : Operand} (ho : o.op = .store ty x y) (h : opStoreK E s ty (opv t y) k (opv t x) = true) : o.wp P a w (Nx ρ s w k o a) Q := by
  have hx := hT.opv x
  have hy := hT.opv y
  generalize opv t x = X at h hx
  unfold opStoreK at h
  split at h
  · rename_i ad
    split at h
    · rename_i r hr
      unfold storeK2 at h
      split at h
      · rename_i vs hvs
        split at h
        · rename_i n hn
          cases hq : (Nat.beq vs.length n && Nat.ble (ad.off + n) r.cells.length) with
          | false => rw [hq] at h; cases h
          | true =>
            rw [hq] at h
            simp only [cond_true] at h
            simp only [Bool.and_eq_true, Nat.ble_eq] at hq
            have hlen : vs.length = n := Nat.eq_of_beq_eq_true hq.1
            rw [storeK3, forceL_eq] at h
            obtain ⟨s', h1, h2, h3, h3m⟩ := putRowK_ok h
            obtain ⟨l1, l2⟩ := cells_ok hvs hy
            obtain ⟨z, hz, e⟩ := ptr_vr hx
            obtain ⟨c, c1, c2, c3, c4, c5, c6⟩ := hR.row hr hz
            obtain ⟨i, hi, rfl⟩ := g.size _ _ hn
            have hcs : (a.eval y).cells.toList.length = i.size := by rw [l1.1, hlen]
            have hle : ad.off + (a.eval y).cells.toList.length ≤ c.size := by rw [hcs, c2]; omega
            obtain ⟨c', d1, d2, d3, d4, d5, d6, d7⟩ := setCells_heap (a.eval y).cells.toList ad.off w c c1 hle
            have hst := run_storeCells_cells (P := P) z.1 ad.off (a.eval y).cells.toList 0 w (fun j hj => by
                rw [cell_at_block c1]
                have : ad.off + j < c.size := by omega
                simp [this]) (fun j hj => frozen_at_block c1 _) (fun v hv => by
                obtain ⟨j, hj⟩ := List.mem_iff_getElem?.1 hv
                have hj' : j < vs.length := by rw [← l1.1]; exact (List.getElem?_eq_some_iff.1 hj).1
                obtain ⟨u, hu, hvr⟩ := l1.2 j vs[j] (by simp)
                rw [hj] at hu
                obtain rfl := Option.some.inj hu
                exact one_cell (hvr.one (l2 _ (by simp))))
            rw [Nat.add_zero] at hst
            have hc's : c'.size = c.size := by have := congrArg List.length d2; rw [putN_len] at this; simpa using this
            have hpl : (putN r.cells ad.off vs).length = r.cells.length := putN_len _ _ _
            have hvl : ad.off + vs.length ≤ r.cells.length := by rw [hlen]; exact hq.2
            obtain ⟨r1, r2⟩ := hR.write (s' := s') (w' := w.setCells z.1 ad.off (a.eval y).cells.toList) (c := c') (cs := putN r.cells ad.off vs) hr hz c6.1 h2 (fun m q hm => by
                rcases h3 m q hm with ⟨e, e'⟩ | h4
                · exact .inl ⟨e, (Option.some.inj e').symm⟩
                · exact .inr h4) h3m d1 (by rw [d4]; exact Nat.le_refl _) (fun j _ hj => d3 j hj) (by
                rw [d2, hpl]
                have hp := c4.putN l1 hvl
                refine ⟨by rw [List.length_take, putN_len, hpl]; simp; omega, fun j v hj => ?_⟩
                obtain ⟨u, hu, hv⟩ := hp.2 j v hj
                refine ⟨u, ?_, hv⟩
                have hjl : j < r.cells.length := by rw [← hpl]; exact (List.getElem?_eq_some_iff.1 hj).1
                rw [List.getElem?_take, if_pos hjl]
                rw [putN_get _ _ _ _ (by rw [List.length_take, hcs]; simp; omega)] at hu
                rw [putN_get _ _ _ _ (by rw [hcs]; simp; omega)]
                split at hu
                · rename_i hc; rw [if_pos hc]; exact hu
                · rename_i hc; rw [if_neg hc]
                  rw [List.getElem?_take, if_pos hjl] at hu
                  exact hu) (by rw [hpl, hc's, c2]; exact c3) (by rw [hc's, c2]) (putN_mem hvl c5 l2) (fun e => by rw [hpl]; exact c6.2 e) d5 d6 d7 c1
            unfold Oper.wp
            have hrun : (execOp a.eval o).run P w = .ok .skip (w.setCells z.1 ad.off (a.eval y).cells.toList) := by
              have hne : ¬ ((a.eval y).cells.size ≠ i.size) := by simpa using hcs
              simp [execOp, ho, e, Instr.storeAt, Instr.sureAddr, storeVar, run_sizeOf hi, hst]
              simpa using hcs
            rw [hrun]
            exact ⟨undef, undef, ρ, s', rfl, undef_vr ρ, r1, r2, h1⟩
        · cases h
      · cases h
    · cases h
  · cases h
theorem catO_inv {x : List Value} {y : Option (List Value)} {z : List Value} (h : catO x y = some z) : ∃ y', y = some y' ∧ z = x ++ y' := by
  cases y with
  | none => cases h
  | some y => exact ⟨y, rfl, (Option.some.inj h).symm⟩
/-- cells that a slice shows. -/
theorem rowPart_ok (hR : R ρ s w) {m c size : Nat} {b2 : Option Addr} {new : List Value} {u : Value} (h : rowPart s (m * size) b2 = some new) (hm : 0 < m) (hu : VR ρ (.slice b2 m c) u) : ∃ (ad : Addr) (cap : Nat) (ys : List Value), u = .slice (some ad) m cap ∧ L2 ρ new ys ∧ (∀ v ∈ new, one v = true) ∧ new.length = m * size ∧ ∀ (j : Nat) (v : Value), ys[j]? = some v → w.cell? (ad.add j) = some v := by
  cases b2 with
  | none =>
    obtain ⟨rfl, _⟩ : m = 0 ∧ u = .slice none 0 0 := by rw [VR] at hu; exact hu
    omega
  | some ad =>
    obtain ⟨b, cap, y, rfl, h1, h2, h3, h4, h5⟩ := slice_vr hu
    obtain rfl := h5 (.inr hm)
    unfold rowPart at h
    simp only at h
    split at h
    · rename_i r hr
      cases hq : Nat.ble (ad.off + m * size) r.cells.length with
      | false => rw [hq] at h; cases h
      | true =>
        rw [hq] at h
        simp only [cond_true, Option.some.injEq] at h
        have hle : ad.off + m * size ≤ r.cells.length := Nat.le_of_ble_eq_true hq
        obtain ⟨c', c1, c2, c3, c4, c5, c6⟩ := hR.row hr h3
        subst h
        rw [takeN_eq, dropN_eq]
        refine ⟨_, cap, (c'.toList.drop ad.off).take (m * size), rfl, L2.take_drop_of c4 hle, fun v hv => c5 v (List.mem_of_mem_drop (List.mem_of_mem_take hv)), by rw [List.length_take, List.length_drop]; omega, fun j v hj => ?_⟩
        rw [addr_add, cell_at_block c1, ← Array.getElem?_toList]
        rw [List.getElem?_take] at hj
        split at hj
        · rw [List.getElem?_drop] at hj; exact hj
        · cases hj
    · cases h
theorem l2_one {xs ys : List Value} (h : L2 ρ xs ys) (ho : ∀ v ∈ xs, one v = true) : ∀ u ∈ ys, u.oneCell' = true := fun u hu => by
  obtain ⟨j, hj⟩ := List.mem_iff_getElem?.1 hu
  have hj' : j < xs.length := by rw [← h.1]; exact (List.getElem?_eq_some_iff.1 hj).1
  obtain ⟨u', hu', hvr⟩ := h.2 j xs[j] (by simp)
  rw [hj] at hu'
  obtain rfl := Option.some.inj hu'
  exact one_cell (hvr.one (ho _ (by simp)))
end
end Go.Proofs.YtcfekhcdadldmaaGreatDoor.Am
set_option linter.unusedSimpArgs false
namespace Go.Proofs.YtcfekhcdadldmaaGreatDoor.Am
open Go
section
variable {P : Program} {E : Env} {ρ : Rho} {s : St} {w : World} {t : List Value} {a : Act} {o : Oper} {k : K2} {Q : Exit → Act → World → Prop}
/-- what an append leaves. -/
def Ap (ρ : Rho) (s : St) (w : World) (k : K2) (u : Value) (w' : World) : Prop := ∃ v ρ' s', VR ρ' v u ∧ R ρ' s' w' ∧ Ext ρ s w ρ' s' w' ∧ k v s' = true
theorem append_new (hR : R ρ s w) {s0 : St} {w' : World} {cs xs : List Value} {e : TypeId} {size N : Nat} {v' : Value} (hs0 : s0.c = s.c) (hs0m : ∀ m, s0.gi m = s.gi m) (hs0g : ∀ m q, s0.get m = some q → s.get m = some q) (hn : newK s0 cs e size (fun n s => k (.slice (some ⟨n, 0, none⟩) N 0) s) = true) (how : w'.ownsRow w.heap.size e size v' N xs) (hN : 0 < N) (hsz0 : size ≠ 0) (hgr : w.grownBy w' none) (hl : L2 ρ cs xs) (ho : ∀ v ∈ cs, one v = true) : Ap ρ s w k v' w' := by
  obtain ⟨s', h1, h2, h3, h3m⟩ := newK_ok hn
  rw [hs0] at h1 h2 h3
  rcases how.2 with ⟨_, h0⟩ | ⟨g, cap, cur, rfl, q1, q2, q3, q4, q5, q6⟩
  · omega
  · have hlen : cs.length = N * size := by rw [← hl.1, how.1]
    have hcs : cs.length ≤ cur.size := by rw [hlen, q5]; exact Nat.mul_le_mul_right _ q3
    obtain ⟨r1, r2⟩ := hR.new (w' := w') (b := g) (c := cur) (sz := size) h2 (fun m q hm => (h3 m q hm).imp id fun hh => ⟨hh.1, hs0g m q hh.2⟩) (fun m => (h3m m).trans (hs0m m)) q1 q2 hgr.size (fun j hj => hgr.block j hj (by simp)) (by rw [hlen, q6]; exact hl) hcs ho (fun e => absurd e hsz0) hgr.os hgr.tape hgr.output
    refine ⟨_, _, s', ?_, r1, r2, h1⟩
    rw [VR]
    exact ⟨_, cap, _, rfl, q3, .inl rfl, upd_same _ _ _, fun _ => by rw [q5]; exact Nat.le_refl _, fun _ => rfl⟩
theorem append_in (hR : R ρ s w) {s0 : St} {cs ys old : List Value} {size n m cap nm : Nat} {r : Row} {x : Nat × Nat × Nat} {c : Array Value} (hr : s.get nm = some r) (hx : ρ nm = some x) (hs0 : s0.c = s.c) (hs0m : ∀ m, s0.gi m = s.gi m) (hs0g : ∀ j q, s0.get j = some q → j ≠ nm ∧ s.get j = some q) (hn : newK s0 (old ++ cs) r.elem r.sz (fun n' s => k (.slice (some ⟨n', 0, none⟩) (n + m) 0) s) = true)
    (c1 : w.heap[x.1]? = some (.cells c r.elem)) (c2 : c.size = x.2.1) (c4 : L2 ρ old (c.toList.take old.length)) (c5 : ∀ v ∈ old, one v = true) (c6 : x.2.2 = r.sz) (hrl : old.length = n * size) (hl : L2 ρ cs ys) (hcl : cs.length = m * size) (ho : ∀ v ∈ cs, one v = true) (hcap : n + m ≤ cap) (hct : cap * size ≤ c.size) (hsz : r.sz = size) (hsz0 : size ≠ 0) : Ap ρ s w k (.slice (some ⟨x.1, 0, none⟩) (n + m) cap) (w.setCells x.1 (0 + n * size) ys) := by
  obtain ⟨s', h1, h2, h3, h3m⟩ := newK_ok hn
  rw [hs0] at h1 h2 h3
  have hyl : ys.length = m * size := by rw [hl.1, hcl]
  have hfit : n * size + m * size ≤ c.size := by rw [← Nat.add_mul]; exact Nat.le_trans (Nat.mul_le_mul_right _ hcap) hct
  obtain ⟨c', d1, d2, d3, d4, d5, d6, d7⟩ := setCells_heap ys (0 + n * size) w c c1 (by rw [hyl]; omega)
  have hc's : c'.size = c.size := by have := congrArg List.length d2; rw [putN_len] at this; simpa using this
  have hlen : (old ++ cs).length = n * size + m * size := by rw [List.length_append, hrl, hcl]
  obtain ⟨r1, r2⟩ := hR.grown (s' := s') (w' := w.setCells x.1 (0 + n * size) ys) (c := c') (cs := old ++ cs) hr hx c6 h2 (fun j q hj => (h3 j q hj).imp id fun hh => ⟨hh.1, hs0g j q hh.2⟩) (fun m => (h3m m).trans (hs0m m)) d1 (by rw [d4]; exact Nat.le_refl _) (fun j _ hj => d3 j hj) (by
    have e1 : (c'.toList.take (old ++ cs).length) = c.toList.take old.length ++ ys := by
      rw [d2, hlen, hrl]
      apply List.ext_getElem?
      intro j
      rw [List.getElem?_take]
      by_cases hj : j < n * size + m * size
      · rw [if_pos hj, putN_get _ _ _ _ (by rw [hyl]; simp; omega)]
        by_cases h4 : n * size ≤ j
        · rw [if_pos ⟨by omega, by omega⟩, List.getElem?_append_right (by rw [List.length_take]; simp; omega)]
          congr 1
          rw [List.length_take, Nat.min_eq_left (by simp; omega)]
          omega
        · rw [if_neg (by omega), List.getElem?_append_left (by rw [List.length_take]; simp; omega), List.getElem?_take, if_pos (by omega)]
      · rw [if_neg hj, List.getElem?_eq_none (by rw [List.length_append, List.length_take, hyl]; simp; omega)]
    rw [e1]
    exact c4.append hl) (by rw [hlen, hc's]; exact hfit) (by rw [hc's, c2]) (fun v hv => by
      rcases List.mem_append.1 hv with h4 | h4
      · exact c5 v h4
      · exact ho v h4) (fun e => absurd (hsz ▸ e) hsz0) d5 d6 d7 c1
  refine ⟨_, _, s', ?_, r1, r2, h1⟩
  rw [VR]
  exact ⟨_, cap, _, rfl, hcap, .inl rfl, upd_same _ _ _, fun _ => by rw [c6, hsz, ← c2]; exact hct, fun _ => rfl⟩
theorem append_none {t1 ty e : TypeId} {i : TypeInfo} (hund : P.underlying t1 = some (.slice e)) (hi : P.info? e = some i) {base b : Option Addr} {n c c2 : Nat} (hle : n ≤ c) : (Builtin.append_ #[t1, t1] ty #[.slice base n c, .slice b 0 c2]).run P w = .ok (.slice base n c) w := by
  cases b with
  | none =>
    cases base <;> simp [Builtin.append_, run_underlying hund, run_sizeOf hi, Builtin.lenOf, Builtin.firstCells, hle, storeCells]
  | some b =>
    cases base <;> simp [Builtin.append_, run_underlying hund, run_sizeOf hi, Builtin.lenOf, Builtin.firstCells, hle, loadCells, loadCellsFrom, storeCells]
theorem append_run (g : Good P E) (hR : R ρ s w) {t1 : TypeId} {X Y X' Y' : Value} (h : opApK2 E s X Y k (E.und t1) = true) (hX : VR ρ X X') (hY : VR ρ Y Y') (ty : TypeId) : ∃ u w', (Builtin.append_ #[t1, t1] ty #[X', Y']).run P w = .ok u w' ∧ Ap ρ s w k u w' := by
  unfold opApK2 at h
  split at h
  · rename_i e hd
    split at h
    · rename_i z hz
      obtain ⟨i, zv, hi, hz0, rfl, hsz, hb, hp⟩ := g.zero _ _ hz
      cases hzl : Nat.beq zv.cells.toList.length 0 with
      | true => rw [hzl] at h; cases h
      | false =>
        rw [hzl] at h
        simp only [cond_false] at h
        have hpos : 0 < zv.cells.toList.length := by
          rcases Nat.eq_zero_or_pos zv.cells.toList.length with e0 | e0
          · rw [e0] at hzl; cases hzl
          · exact e0
        obtain ⟨size, hsize⟩ : ∃ z, z = zv.cells.toList.length := ⟨_, rfl⟩
        rw [← hsize] at h hpos hsz
        have hzs : zv.cells.size = size := by rw [hsize]; simp
        unfold opApK3 at h
        split at h
        · rename_i base n c
          split at h
          · rename_i b2 m c2
            cases hm0 : Nat.beq m 0 with
            | true =>
              rw [hm0] at h
              obtain rfl : m = 0 := Nat.eq_of_beq_eq_true hm0
              have hund := g.und _ _ hd
              obtain ⟨b', c', rfl⟩ : ∃ b' c', Y' = .slice b' 0 c' := by
                cases b2 with
                | none =>
                  obtain ⟨_, rfl⟩ : 0 = 0 ∧ Y' = .slice none 0 0 := by rw [VR] at hY; exact hY
                  exact ⟨none, 0, rfl⟩
                | some ad =>
                  obtain ⟨b, cap, x, rfl, _⟩ := slice_vr hY
                  exact ⟨_, _, rfl⟩
              obtain ⟨b'', c'', rfl, hle⟩ : ∃ b' c', X' = .slice b' n c' ∧ n ≤ c' := by
                cases base with
                | none =>
                  obtain ⟨rfl, rfl⟩ : n = 0 ∧ X' = .slice none 0 0 := by rw [VR] at hX; exact hX
                  exact ⟨none, 0, rfl, Nat.le_refl _⟩
                | some ad =>
                  obtain ⟨b, cap, x, rfl, h1, _⟩ := slice_vr hX
                  exact ⟨_, _, rfl, h1⟩
              exact ⟨_, w, append_none hund hi hle, _, ρ, s, hX, hR, Ext.refl _ _ _, h⟩
            | false =>
            rw [hm0] at h
            simp only [cond_false, Bool.false_or] at h
            cases hq : Nat.blt 1000000 (n + m) with
            | true => rw [hq] at h; cases h
            | false =>
              rw [hq] at h
              simp only [cond_false] at h
              have hm : 0 < m := by
                rcases Nat.eq_zero_or_pos m with e0 | e0
                · rw [e0] at hm0; simp at hm0
                · exact e0
              have hnm : n + m ≤ 1000000 := by
                have := hq
                rw [Bool.eq_false_iff] at this
                have h4 : ¬ 1000000 < n + m := fun e0 => this ((blt_iff _ _).2 e0)
                omega
              have hbytes : (n + m) * i.bytes ≤ 140737488355328 := Nat.le_trans (Nat.mul_le_mul hnm hb) (by decide)
              have h63 : n + m ≤ maxLen := by unfold maxLen; omega
              have hund := g.und _ _ hd
              unfold opApK4 at h
              cases hnew : rowPart s (m * size) b2 with
              | none =>
                rw [hnew] at h
                cases base with
                | none => simp [nSK] at h
                | some ad =>
                  simp only at h
                  cases hc : apG c n m with
                  | true =>
                    rw [hc] at h
                    simp only [cond_true] at h
                    split at h
                    · simp [catO, nSK] at h
                    · cases h
                  | false =>
                    rw [hc] at h
                    simp only [cond_false] at h
                    split at h
                    · rename_i r hr
                      cases hrz : Nat.beq r.sz 0 with
                      | true => rw [hrz] at h; cases h
                      | false =>
                      rw [hrz] at h
                      simp only [cond_false] at h
                      cases hq2 : (Nat.beq ad.off 0 && (Nat.ble (n * size) r.cells.length && (Nat.beq r.sz size && Nat.beq r.elem e))) with
                      | false => rw [hq2] at h; cases h
                      | true =>
                        rw [hq2] at h
                        simp only [cond_true] at h
                        obtain ⟨s0, h1, _⟩ := putRowK_ok h
                        simp [catO, nSK] at h1
                    · cases h
              | some nw =>
                rw [hnew] at h
                obtain ⟨ad2, cap2, ys, rfl, l1, l2, l3, l4⟩ := rowPart_ok hR hnew hm hY
                have hyl : ys.length = m * size := by rw [l1.1, l3]
                have hones := l2_one l1 l2
                cases base with
                | none =>
                  obtain ⟨rfl, rfl⟩ : n = 0 ∧ X' = .slice none 0 0 := by rw [VR] at hX; exact hX
                  simp only [nSK] at h
                  obtain ⟨g', cap', w', hr, how, hgr, _, _⟩ := run_append_lies (P := P) w t1 ty w.heap.size e i zv size i.bytes hund hi hz0 hsz rfl hzs hpos (.slice none 0 0) 0 [] ⟨by simp, .inl ⟨rfl, rfl⟩⟩ ad2 m cap2 ys hyl l4 hones hm h63 hbytes (Nat.le_refl _) w.heap.size rfl
                  exact ⟨_, w', hr, append_new hR rfl (fun _ => rfl) (fun _ _ h => h) h (by simpa using how) (by omega) (by omega) hgr l1 l2⟩
                | some ad =>
                  obtain ⟨b, cap, x, rfl, h1, h2, h3, h4, h5⟩ := slice_vr hX
                  simp only at h
                  cases hc : apG c n m with
                  | true =>
                    rw [hc] at h
                    simp only [cond_true] at h
                    simp only [apG, Bool.and_eq_true, blt_iff] at hc
                    have hcap : cap < n + m := by rcases h2 with e0 | e0 <;> omega
                    split at h
                    · rename_i old hold
                      simp only [catO, nSK] at h
                      have hold2 : ∃ os, L2 ρ old os ∧ (∀ v ∈ old, one v = true) ∧ old.length = n * size ∧ ∀ (j : Nat) (v : Value), os[j]? = some v → w.cell? (b.add j) = some v := by
                        rcases Nat.eq_zero_or_pos n with e0 | e0
                        · subst e0
                          have : old = [] := by
                            unfold rowPart at hold
                            simp only [Nat.zero_mul] at hold
                            split at hold
                            · rename_i r hr
                              cases hq2 : Nat.ble (ad.off + 0) r.cells.length with
                              | false => rw [hq2] at hold; cases hold
                              | true =>
                                rw [hq2] at hold
                                simp only [cond_true, Option.some.injEq, takeN_eq, List.take_zero] at hold
                                exact hold.symm
                            · cases hold
                          subst this
                          exact ⟨[], L2.nil ρ, fun _ h => by simp at h, by simp, fun j v hj => by simp at hj⟩
                        · obtain ⟨ad3, cap3, os, e3, m1, m2, m3, m4⟩ := rowPart_ok hR hold e0 hX
                          injection e3 with e3 _ _
                          obtain rfl := Option.some.inj e3
                          exact ⟨os, m1, m2, m3, m4⟩
                      obtain ⟨os, m1, m2, m3, m4⟩ := hold2
                      obtain ⟨v', w', hr, how, hgr⟩ := run_append_arg_grows (P := P) w t1 ty e i zv size i.bytes hund hi hz0 hsz rfl hzs hpos b n cap os (by rw [m1.1, m3]) m4 ad2 m cap2 ys hyl l4 (by omega) h63 hbytes
                      exact ⟨v', w', hr, append_new hR rfl (fun _ => rfl) (fun _ _ h => h) h how (by omega) (by omega) hgr (m1.append l1) (fun v hv => by rcases List.mem_append.1 hv with h6 | h6; exact m2 v h6; exact l2 v h6)⟩
                    · cases h
                  | false =>
                    rw [hc] at h
                    simp only [cond_false] at h
                    split at h
                    · rename_i r hr
                      cases hrz : Nat.beq r.sz 0 with
                      | true =>
                        rw [hrz] at h
                        simp only [cond_true, opApX, opApX2] at h
                        cases hq2 : (Nat.beq ad.off 0 && (Nat.ble (n + m + 1) c && Nat.ble ((n + m) * size) r.cells.length)) with
                        | false => rw [hq2] at h; cases h
                        | true =>
                          rw [hq2] at h
                          simp only [cond_true, forceL_eq] at h
                          simp only [Bool.and_eq_true, Nat.ble_eq] at hq2
                          have f1 : ad.off = 0 := Nat.eq_of_beq_eq_true hq2.1
                          have f3 : r.sz = 0 := Nat.eq_of_beq_eq_true hrz
                          have hroom : n + m ≤ cap := by rcases h2 with e0 | e0 <;> omega
                          obtain rfl := h5 (.inl f1)
                          rw [f1]
                          obtain ⟨s0, p1, p2, p3, p4⟩ := putRowK_ok h
                          obtain ⟨cc, c1, c2, c3, c4, c5, c6, c7⟩ := hR.row hr h3
                          have hlen : r.cells.length = cc.size := by rw [c7 f3, c2]
                          have hfit : n * size + m * size ≤ cc.size := by rw [← Nat.add_mul, ← hlen]; exact hq2.2.2
                          have c4' : L2 ρ r.cells cc.toList := by
                            rw [hlen, List.take_of_length_le (by simp)] at c4; exact c4
                          have hr2 := run_append_room_cells (P := P) w t1 ty e i hund hi x.1 0 n cap ad2 m cap2 ys (by rw [hyl, hsz]) l4 hones hroom (fun j hj => by
                            rw [cell_at_block c1]
                            have : 0 + n * i.size + j < cc.size := by rw [hsz]; omega
                            simp at this
                            simp [this]) (fun j hj => frozen_at_block c1 _)
                          rw [hsz] at hr2
                          obtain ⟨c', d1, d2, d3, d4, d5, d6, d7⟩ := setCells_heap ys (0 + n * size) w cc c1 (by rw [hyl]; omega)
                          have hc's : c'.size = cc.size := by have := congrArg List.length d2; rw [putN_len] at this; simpa using this
                          have hpl : (putN r.cells (n * size) nw).length = r.cells.length := putN_len _ _ _
                          obtain ⟨r1, r2⟩ := hR.write (s' := s0) (w' := w.setCells x.1 (0 + n * size) ys) (c := c') (cs := putN r.cells (n * size) nw) hr h3 c6 p2 (fun j q hj => by
                            rcases p3 j q hj with ⟨e0, e1⟩ | h6
                            · exact .inl ⟨e0, (Option.some.inj e1).symm⟩
                            · exact .inr h6) p4 d1 (by rw [d4]; exact Nat.le_refl _) (fun j _ hj => d3 j hj) (by
                            rw [hpl, hlen, d2, List.take_of_length_le (by rw [putN_len]; simp), Nat.zero_add]
                            exact c4'.putN l1 (by rw [l3, hlen]; exact hfit)) (by rw [hpl, hc's, hlen]; exact Nat.le_refl _) (by rw [hc's, c2]) (putN_mem (by rw [l3, hlen]; exact hfit) c5 l2) (fun e0 => by rw [hpl]; exact c7 e0) d5 d6 d7 c1
                          refine ⟨_, _, hr2, _, ρ, s0, ?_, r1, r2, p1⟩
                          rw [VR]
                          exact ⟨⟨x.1, 0, none⟩, cap, x, rfl, hroom, h2, h3, h4, fun _ => by rw [f1]⟩
                      | false =>
                      rw [hrz] at h
                      simp only [cond_false] at h
                      cases hq2 : (Nat.beq ad.off 0 && (Nat.ble (n * size) r.cells.length && (Nat.beq r.sz size && Nat.beq r.elem e))) with
                      | false => rw [hq2] at h; cases h
                      | true =>
                        rw [hq2] at h
                        simp only [cond_true] at h
                        simp only [Bool.and_eq_true] at hq2
                        have f1 : ad.off = 0 := Nat.eq_of_beq_eq_true hq2.1
                        have f2 : n * size ≤ r.cells.length := Nat.le_of_ble_eq_true hq2.2.1
                        have f3 : r.sz = size := Nat.eq_of_beq_eq_true hq2.2.2.1
                        have f4 : r.elem = e := Nat.eq_of_beq_eq_true hq2.2.2.2
                        obtain rfl := h5 (.inl f1)
                        rw [f1]
                        obtain ⟨s0, p1, p2, p3, p4⟩ := putRowK_ok h
                        simp only [catO, nSK] at p1
                        obtain ⟨cc, c1, c2, c3, c4, c5, c6⟩ := hR.row hr h3
                        have o1 : (takeN r.cells (n * size)).length = n * size := by rw [takeN_eq, List.length_take]; omega
                        have o4 : L2 ρ (takeN r.cells (n * size)) (cc.toList.take (n * size)) := by
                          have := c4.take (n * size)
                          rw [List.take_take, Nat.min_eq_left f2] at this
                          rw [takeN_eq]; exact this
                        have o5 : ∀ v ∈ takeN r.cells (n * size), one v = true := fun v hv => c5 v (by rw [takeN_eq] at hv; exact List.mem_of_mem_take hv)
                        have hs0g : ∀ j q, s0.get j = some q → j ≠ ad.block ∧ s.get j = some q := fun j q hj => by
                          rcases p3 j q hj with ⟨_, e0⟩ | h6
                          · cases e0
                          · exact h6
                        have hct : cap * size ≤ cc.size := by rw [c2, ← f3, ← c6.1]; exact h4 f1
                        by_cases hroom : n + m ≤ cap
                        · have hr2 := run_append_room_cells (P := P) w t1 ty e i hund hi x.1 0 n cap ad2 m cap2 ys (by rw [hyl, hsz]) l4 hones hroom (fun j hj => by
                            rw [cell_at_block c1]
                            have h7 : n * size + m * size ≤ cc.size := by rw [← Nat.add_mul]; exact Nat.le_trans (Nat.mul_le_mul_right _ hroom) hct
                            have : 0 + n * i.size + j < cc.size := by rw [hsz]; omega
                            simp at this
                            simp [this]) (fun j hj => frozen_at_block c1 _)
                          rw [hsz] at hr2
                          refine ⟨_, _, hr2, append_in hR hr h3 p2 p4 hs0g ?_ c1 c2 (by rw [o1]; exact o4) o5 c6.1 o1 l1 l3 l2 hroom hct f3 (by omega)⟩
                          rw [f4, f3]; exact p1
                        · obtain ⟨v', w', hr2, how, hgr⟩ := run_append_arg_grows (P := P) w t1 ty e i zv size i.bytes hund hi hz0 hsz rfl hzs hpos ⟨x.1, 0, none⟩ n cap (cc.toList.take (n * size)) (by rw [o4.1, o1]) (fun j v hj => by
                            rw [addr_add, Nat.zero_add, cell_at_block c1, ← Array.getElem?_toList]
                            rw [List.getElem?_take] at hj
                            split at hj
                            · exact hj
                            · cases hj) ad2 m cap2 ys hyl l4 (by omega) h63 hbytes
                          exact ⟨v', w', hr2, append_new hR p2 p4 (fun j q hj => (hs0g j q hj).2) p1 how (by omega) (by omega) hgr (o4.append l1) (fun v hv => by rcases List.mem_append.1 hv with h6 | h6; exact o5 v h6; exact l2 v h6)⟩
                    · cases h
          · cases h
        · cases h
    · cases h
  · cases h
end
end Go.Proofs.YtcfekhcdadldmaaGreatDoor.Am
