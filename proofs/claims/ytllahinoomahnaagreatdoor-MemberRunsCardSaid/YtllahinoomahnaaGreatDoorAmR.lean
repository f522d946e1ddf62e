import Derived.Test.YtllahinoomahnaaGreatDoorAmQ
import Derived.Below
import Derived.Laws.Externs
set_option linter.unusedSimpArgs false
namespace Go.Proofs.YtllahinoomahnaaGreatDoor.Am
open Go Go.RowKit

/- a program's own environment. -/
def undOk (P : Program) : TypeDesc → Bool
  | .struct fs => fs.toList.all fun f => (P.info? f.type).isSome
  | _ => true
def undOf (P : Program) (t : TypeId) : Option TypeDesc := match P.underlying t with
  | some d => cond (undOk P d) (some d) none
  | none => none
def sizeOfP (P : Program) (t : TypeId) : Option Nat := match P.info? t with
  | some i => some i.size
  | none => none
def zeroOk (i : TypeInfo) (l : List Value) : Bool := Nat.beq i.size l.length && (Nat.ble i.bytes 1000 && l.all plain1)
def zeroOfP (P : Program) (t : TypeId) : Option (List Value) := match P.info? t with
  | some i => match i.zero with
    | some z => cond (zeroOk i z.cells.toList) (some z.cells.toList) none
    | none => none
  | none => none
def zvOk : Value → Bool
  | .agg cs => cs.toList.all plain1
  | v => plain1 v
def zvOfP (P : Program) (t : TypeId) : Option Value := match P.info? t with
  | some i => match i.zero with
    | some z => cond (zvOk z) (some z) none
    | none => none
  | none => none
def skDs (P : Program) : List Field → Nat → Option (List TypeDesc)
  | [], _ => some []
  | f :: r, i => match P.underlying f.type with
    | some d => cond (!(f.name == "_") && Nat.beq f.offset i) (match skDs P r (i + 1) with
      | some ds => some (d :: ds)
      | none => none) none
    | none => none
def skOfP (P : Program) (t : TypeId) : Option (List TypeDesc) := match P.underlying t with
  | some (.struct fs) => cond (!P.stoodInHeld t && !P.eqGuardType P.depth t) (skDs P fs.toList 0) none
  | some (.array len e) => match P.underlying e with
    | some d => match P.info? e with
      | some i => cond (!P.eqGuardType P.depth t && (Nat.beq i.size 1 && Nat.ble len 100)) (some (List.replicate len d)) none
      | none => none
    | none => none
  | _ => none
def fnOfP (P : Program) (f : FuncId) : Option Func := match P.funcs[f]? with
  | some fn => cond (!(fn.name == "runtime.NumGoroutine") && fn.body.isSome) (some fn) none
  | none => none
def envOf (P : Program) (ext : FuncId → Option (List Value → St → (Value → St → Bool) → Bool)) (xt : FuncId → Option (List Value → Option Value)) : Env := ⟨undOf P, sizeOfP P, zeroOfP P, zvOfP P, skOfP P, fnOfP P, ext, xt, fun e n o u => liesAt P P.depth e (n / P.cellsOf e) o u 1⟩
/-- what functions without a body answer. -/
def XtOk (P : Program) (xt : FuncId → Option (List Value → Option Value)) : Prop := ∀ f g, xt f = some g → ∀ l v, g l = some v → ∀ (ρ : Rho) (us : List Value) (w : World), L2 ρ l us → ∃ u, (callFunc f us.toArray).run P w = .ok (.value u) w ∧ VR ρ v u
theorem zv_vr {z : Value} (h : zvOk z = true) (ρ : Rho) : VR ρ z z := by
  unfold zvOk at h
  split at h
  · rename_i cs
    have hp : ∀ v ∈ cs.toList, plain1 v = true := fun v hv => List.all_eq_true.1 h v hv
    exact vr_agg.2 ⟨cs, rfl, plains_l2 hp, fun v hv => (plain_vr (ρ := ρ) (hp v hv)).2⟩
  · exact (plain_vr h).1
theorem skDs_ok {P : Program} : ∀ (fs : List Field) (off : Nat) (ds : List TypeDesc), skDs P fs off = some ds → fs.length = ds.length ∧ ∀ (i : Nat) (f : Field), fs[i]? = some f → f.name ≠ "_" ∧ f.offset = off + i ∧ ∃ d, ds[i]? = some d ∧ P.underlying f.type = some d
  | [], _, ds, h => by
    obtain rfl := Option.some.inj h
    exact ⟨rfl, fun i f hi => by simp at hi⟩
  | f :: r, off, ds, h => by
    rw [skDs] at h
    split at h
    · rename_i d hd
      cases hq : (!(f.name == "_") && Nat.beq f.offset off) with
      | false => rw [hq] at h; cases h
      | true =>
        rw [hq] at h
        simp only [cond_true] at h
        split at h
        · rename_i ds' hds
          obtain rfl := Option.some.inj h
          obtain ⟨h1, h2⟩ := skDs_ok r (off + 1) ds' hds
          simp only [Bool.and_eq_true, Bool.not_eq_true', beq_eq_false_iff_ne] at hq
          refine ⟨by simp [h1], fun i g hi => ?_⟩
          cases i with
          | zero =>
            simp only [List.getElem?_cons_zero, Option.some.injEq] at hi
            subst hi
            exact ⟨hq.1, by rw [Nat.eq_of_beq_eq_true hq.2]; rfl, d, rfl, hd⟩
          | succ i =>
            obtain ⟨g1, g2, d', g3, g4⟩ := h2 i g (by simpa using hi)
            exact ⟨g1, by omega, d', by simpa using g3, g4⟩
        · cases h
    · cases h
theorem good_of (P : Program) (ext : FuncId → Option (List Value → St → (Value → St → Bool) → Bool)) {xt : FuncId → Option (List Value → Option Value)} (hxt : XtOk P xt) : Good P (envOf P ext xt) := by
  have hund : ∀ t d, undOf P t = some d → P.underlying t = some d ∧ undOk P d = true := fun t d h => by
    unfold undOf at h
    split at h
    · rename_i d' hd
      cases hq : undOk P d' with
      | false => rw [hq] at h; cases h
      | true =>
        rw [hq] at h
        obtain rfl := Option.some.inj h
        exact ⟨hd, hq⟩
    · cases h
  refine ⟨fun t d h => (hund t d h).1, fun t n h => ?_, fun t fs h f hf => ?_, fun t z h => ?_, fun t ds h => ?_, hxt, fun _ _ _ _ h => h, fun t l h => ?_⟩
  · have h : sizeOfP P t = some n := h
    unfold sizeOfP at h
    split at h
    · rename_i i hi
      exact ⟨i, hi, Option.some.inj h⟩
    · cases h
  · have := (hund t _ h).2
    have := List.all_eq_true.1 this f hf
    exact Option.isSome_iff_exists.1 this
  · have h : zvOfP P t = some z := h
    unfold zvOfP at h
    split at h
    · rename_i i hi
      split at h
      · rename_i z' hz
        cases hq : zvOk z' with
        | false => rw [hq] at h; cases h
        | true =>
          rw [hq] at h
          obtain rfl := Option.some.inj h
          exact ⟨⟨i, hi, hz⟩, zv_vr hq⟩
      · cases h
    · cases h
  · have h : skOfP P t = some ds := h
    unfold skOfP at h
    split at h
    · rename_i fs hd
      cases hq : (!P.stoodInHeld t && !P.eqGuardType P.depth t) with
      | false => rw [hq] at h; cases h
      | true =>
        rw [hq] at h
        simp only [cond_true] at h
        simp only [Bool.and_eq_true, Bool.not_eq_true'] at hq
        obtain ⟨h1, h2⟩ := skDs_ok _ _ _ h
        exact ⟨hq.2, .inl ⟨fs, hd, hq.1, h1, fun i f hi => by simpa using h2 i f hi⟩⟩
    · rename_i len e hd
      split at h
      · rename_i d he
        split at h
        · rename_i i hi
          cases hq : (!P.eqGuardType P.depth t && (Nat.beq i.size 1 && Nat.ble len 100)) with
          | false => rw [hq] at h; cases h
          | true =>
            rw [hq] at h
            obtain rfl := Option.some.inj h
            simp only [Bool.and_eq_true, Bool.not_eq_true'] at hq
            exact ⟨hq.1, .inr ⟨len, e, d, i, hd, he, hi, Nat.eq_of_beq_eq_true hq.2.1, rfl⟩⟩
        · cases h
      · cases h
    · cases h
  · have h : zeroOfP P t = some l := h
    unfold zeroOfP at h
    split at h
    · rename_i i hi
      split at h
      · rename_i z hz
        cases hq : zeroOk i z.cells.toList with
        | false => rw [hq] at h; cases h
        | true =>
          rw [hq] at h
          obtain rfl := Option.some.inj h
          unfold zeroOk at hq
          simp only [Bool.and_eq_true, Nat.ble_eq] at hq
          exact ⟨i, z, hi, hz, rfl, Nat.eq_of_beq_eq_true hq.1, hq.2.1, fun v hv => List.all_eq_true.1 hq.2.2 v hv⟩
      · cases h
    · cases h
/-- what functions that are not run here must do. -/
def ExtOk (P : Program) (ext : FuncId → Option (List Value → St → (Value → St → Bool) → Bool)) : Prop := ∀ f g, ext f = some g → CallOk P (fun f' args s k => cond (Nat.beq f' f) (g args s k) false)
theorem goodF_of {P : Program} {ext : FuncId → Option (List Value → St → (Value → St → Bool) → Bool)} {xt : FuncId → Option (List Value → Option Value)} (hx : ExtOk P ext) : GoodF P (envOf P ext xt) := by
  refine ⟨fun f fn h => ?_, fun f g h => hx f g h⟩
  have h : fnOfP P f = some fn := h
  unfold fnOfP at h
  split at h
  · rename_i fn' hf
    cases hq : (!(fn'.name == "runtime.NumGoroutine") && fn'.body.isSome) with
    | false => rw [hq] at h; cases h
    | true =>
      rw [hq] at h
      obtain rfl := Option.some.inj h
      simp only [Bool.and_eq_true, Bool.not_eq_true'] at hq
      refine ⟨hf, fun as w => ?_⟩
      have hb : fn'.body.isNone = false := by
        cases hb : fn'.body with
        | none => rw [hb] at hq; simp at hq
        | some c => rfl
      have hn : ¬ fn'.name = "runtime.NumGoroutine" := by simpa using hq.1
      have hb2 : ¬ fn'.body = none := fun e => by rw [e] at hb; cases hb
      simp [callFunc, hf, hn, hb2]
  · cases h
/-- a run that begins with nothing. -/
def nilSt : St := ⟨Tr.nil 17, ⟨Tr.nil 17⟩, 0⟩
def isTrue : Value → St → Bool
  | .bool true, _ => true
  | _, _ => false
theorem nil_get (n : Nat) : nilSt.get n = none := Tr.get_nil 17 n
theorem nil_gm (n : Nat) : nilSt.gm n = none := Tr.get_nil 17 n
theorem R.nil (w : World) : R (fun _ => none) nilSt w :=
  ⟨fun _ _ => rfl, fun _ _ h => (by cases h), fun n r h => (by rw [nil_get] at h; cases h), fun n r h => (by rw [nil_gm] at h; cases h), fun n m r q x y h => (by rw [nil_gm] at h; cases h), fun n m r q x y h => (by rw [nil_get] at h; cases h)⟩
theorem runs_of {P : Program} {ext : FuncId → Option (List Value → St → (Value → St → Bool) → Bool)} {xt : FuncId → Option (List Value → Option Value)} (hm : P.follows .mixedOrders = true) (hxt : XtOk P xt) (hx : ExtOk P ext) {n : Nat} {f : FuncId} (h : evCallK (envOf P ext xt) (drawK (envOf P ext xt)) n f [] nilSt isTrue = true) (w : World) : Calls P f #[] w fun e w' => e = .returned (.bool true) ∧ Below w.heap.size w w' := by
  have g := good_of P ext hxt
  refine ((call_ok g (goodF_of hx) (fun call hC => draw_ok g hm hC) n f [] nilSt isTrue h).2 (fun _ => none) w [] (R.nil w) (L2.nil _)).mono ?_
  rintro e w' ⟨v, u, ρ', s', rfl, hv, _, hx, hk⟩
  have : v = .bool true := by
    unfold isTrue at hk
    split at hk
    · rfl
    · cases hk
  subst this
  obtain rfl : u = .bool true := by rw [VR] at hv; exact hv
  refine ⟨rfl, hx.os, hx.tape, hx.output, hx.size, fun k hk => hx.frame k hk ?_⟩
  rintro ⟨n, x, ⟨r, h1⟩ | ⟨r, h1⟩, _⟩
  · rw [nil_get] at h1; cases h1
  · rw [nil_gm] at h1; cases h1
/-- what grows behind all that is there. -/
theorem R.grow {ρ : Rho} {s : St} {w w' : World} (hR : R ρ s w) (hb : Below w.heap.size w w') : R ρ s w' ∧ Ext ρ s w ρ s w' := by
  refine ⟨⟨hR.dom, fun n x h => Nat.lt_of_lt_of_le (hR.lt n x h) hb.size, fun n r h => ?_, fun n es h => ?_, hR.injm, hR.inj⟩, ⟨Nat.le_refl _, fun _ _ h => h, hb.size, hb.os, hb.tape, hb.output, fun k hk _ => hb.block k hk, fun _ h => .inl h, fun _ _ => rfl, MapsGo.of fun k o hk' _ => (hb.block k (Array.getElem?_eq_some_iff.1 hk').1).trans hk'⟩⟩
  · obtain ⟨x, c, h1, h2, h3⟩ := hR.rows n r h
    exact ⟨x, c, h1, (hb.block _ (hR.lt n x h1)).trans h2, h3⟩
  · obtain ⟨x, h1, h2⟩ := hR.maps n es h
    exact ⟨x, h1, h2.keep (fun _ _ h => h) fun k o hk' _ => (hb.block k (Array.getElem?_eq_some_iff.1 hk').1).trans hk'⟩
/- functions of Go's library that have no body. -/
def xtHas (P : Program) (f : FuncId) (e : Array Value → Sem Value) : Prop := ∃ fn, P.funcs[f]? = some fn ∧ (fn.name == "runtime.NumGoroutine") = false ∧ fn.body.isNone = true ∧ Extern.findNext fn = none ∧ Extern.find fn = some e
def findB (c : Nat) : List UInt8 → Nat → Option Nat
  | [], _ => none
  | b :: r, i => cond (Nat.beq b.toNat c) (some i) (findB c r (i + 1))
def idxV : Option Nat → Value
  | some i => .int .i64 (.ofNat i)
  | none => .int .i64 (.negSucc 0)
def xIndexByte : List Value → Option Value
  | [.string b, .int .u8 (.ofNat c)] => cond (Nat.blt c 256) (some (idxV (findB c b.data.toList 0))) none
  | _ => none
def cmpV (a b : List UInt8) : Value := cond (bytesEq a b) (.int .i64 0) (cond (Op.bytesLess a b) (.int .i64 (.negSucc 0)) (.int .i64 1))
def xSame : List Value → Option Value
  | [v] => some v
  | _ => none
theorem xSame_ok {P : Program} {f : FuncId} (h : xtHas P f Extern.AbiNoEscape.same) {l : List Value} {v : Value} (hg : xSame l = some v) {ρ : Rho} {us : List Value} {w : World} (hl : L2 ρ l us) : ∃ u, (callFunc f us.toArray).run P w = .ok (.value u) w ∧ VR ρ v u := by
  obtain ⟨fn, h1, h2, h3, h4, h5⟩ := h
  unfold xSame at hg
  split at hg
  · rename_i x
    obtain rfl := Option.some.inj hg
    obtain ⟨u, r, rfl, hv, hr⟩ := hl.inv
    have : r = [] := List.length_eq_zero_iff.1 hr.1
    subst this
    refine ⟨u, ?_, hv⟩
    rw [run_callFunc_extern h1 h2 h3 h4 h5]
    rfl
  · cases hg
end Go.Proofs.YtllahinoomahnaaGreatDoor.Am
