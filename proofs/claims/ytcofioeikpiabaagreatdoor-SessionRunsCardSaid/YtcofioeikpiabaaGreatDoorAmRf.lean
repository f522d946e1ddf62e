import Derived.Test.YtcofioeikpiabaaGreatDoorAmAs
import Derived.Shelf.Strings.IndexAnyAll
import Derived.Lib.ItoaNum
import Derived.WalkKit
import Derived.Stop.Asserts
import Derived.Handy
import Derived.Deep.DeepFit
set_option linter.unusedSimpArgs false
namespace Go.Proofs.YtcofioeikpiabaaGreatDoor.Am
open Go Go.RowKit Go.Shelf Go.Proofs
/- strings.IndexAny, told by the library's own contract: bytes below 128 alone. -/
def hasB (b : Nat) : List UInt8 → Bool
  | [] => false
  | c :: r => cond (Nat.beq c.toNat b) true (hasB b r)
def asciiB : List UInt8 → Bool
  | [] => true
  | c :: r => cond (Nat.blt c.toNat 128) (asciiB r) false
def idxK (cs : List UInt8) (s : St) (k : K2) : List UInt8 → Nat → Bool
  | [], _ => k (.int .i64 (.negSucc 0)) s
  | b :: l, i => cond (hasB b.toNat cs) (k (.int .i64 (.ofNat i)) s) (forceN (fun j => idxK cs s k l j) (i + 1))
def xIndexAny : List Value → St → K2 → Bool
  | [.string a, .string b], s, k => cond (asciiB a.data.toList && (asciiB b.data.toList && (Nat.ble a.data.toList.length 1000000 && Nat.ble b.data.toList.length 1000000))) (idxK b.data.toList s k a.data.toList 0) false
  | _, _, _ => false
theorem hasB_eq (b : UInt8) : ∀ l : List UInt8, hasB b.toNat l = l.contains b
  | [] => rfl
  | c :: r => by
    rw [hasB, hasB_eq b r, List.contains_cons]
    cases h : Nat.beq c.toNat b.toNat with
    | true =>
      have := Nat.eq_of_beq_eq_true h
      have e : c = b := UInt8.toNat_inj.1 this
      subst e
      simp
    | false =>
      have e : (b == c) = false := by
        refine beq_eq_false_iff_ne.2 fun e => ?_
        subst e
        rw [Nat.beq_refl] at h
        cases h
      rw [e]; rfl
theorem asciiB_ok : ∀ {l : List UInt8}, asciiB l = true → ∀ (j : Nat) b, l[j]? = some b → b.toNat < 128
  | [], _, j, b, h => by simp at h
  | c :: r, hl, j, b, h => by
    rw [asciiB] at hl
    cases hc : Nat.blt c.toNat 128 with
    | false => rw [hc] at hl; cases hl
    | true =>
      rw [hc] at hl
      cases j with
      | zero =>
        obtain rfl : c = b := by simpa using h
        exact Nat.le_of_ble_eq_true hc
      | succ j => exact asciiB_ok hl j b (by simpa using h)
theorem idxK_eq {cs : List UInt8} {s : St} {k : K2} : ∀ (l : List UInt8) (i : Nat), idxK cs s k l i = true → k (.int .i64 (if Lib.indexAny l cs = -1 then -1 else (i : Int) + Lib.indexAny l cs)) s = true
  | [], i, h => by
    rw [idxK] at h
    rw [Lib.indexAny, if_pos rfl]
    exact h
  | b :: l, i, h => by
    rw [idxK, hasB_eq] at h
    rw [Lib.indexAny]
    cases hc : cs.contains b with
    | true =>
      rw [hc] at h
      simp only [cond_true] at h
      simp only [if_true]
      rw [if_neg (by decide)]
      simpa using h
    | false =>
      rw [hc] at h
      simp only [cond_false, forceN_eq] at h
      have ih := idxK_eq l (i + 1) h
      have hge := Lib.indexAny_ge cs l
      simp only [Bool.false_eq_true, if_false]
      by_cases he : Lib.indexAny l cs = -1
      · rw [if_pos he] at ih
        rw [he]
        simpa using ih
      · rw [if_neg he] at ih
        have hbe : (Lib.indexAny l cs == -1) = false := beq_eq_false_iff_ne.2 he
        rw [hbe]
        simp only [Bool.false_eq_true, if_false]
        rw [if_neg (by omega)]
        have e : ((i + 1 : Nat) : Int) + Lib.indexAny l cs = (i : Int) + (Lib.indexAny l cs + 1) := by omega
        rw [e] at ih
        exact ih
theorem indexany_ok {P : Program} {ren : Ren} (L : Lays.n153 P ren) (h116 : (P.info? (ren.t 116)).map (fun i => (i.zero, i.size)) = some (some (.agg (Array.replicate 256 (.bool false))), 256)) (hf : (fnOfP P (ren.f 153)).isSome = true) : CallOk P (fun f' args s k => cond (Nat.beq f' (ren.f 153)) (xIndexAny args s k) false) := by
  refine ext_one hf fun args s k h ρ w us hR hl => ?_
  unfold xIndexAny at h
  split at h
  case h_2 => cases h
  rename_i a b
  cases hq : (asciiB a.data.toList && (asciiB b.data.toList && (Nat.ble a.data.toList.length 1000000 && Nat.ble b.data.toList.length 1000000))) with
  | false => rw [hq] at h; cases h
  | true =>
    rw [hq] at h
    simp only [cond_true] at h
    simp only [Bool.and_eq_true] at hq
    obtain ⟨h1, h2, h3, h4⟩ := hq
    obtain ⟨u, l, rfl, hv, hl⟩ := hl.inv
    obtain ⟨u2, l2, rfl, hv2, hl⟩ := hl.inv
    obtain rfl : l2 = [] := List.length_eq_zero_iff.1 hl.1
    obtain rfl : u = .string a := by rw [VR] at hv; exact hv
    obtain rfl : u2 = .string b := by rw [VR] at hv2; exact hv2
    have ha : a.data.toList.length = a.size := by cases a; rfl
    have hb : b.data.toList.length = b.size := by cases b; rfl
    have h3' := Nat.le_of_ble_eq_true h3
    have h4' := Nat.le_of_ble_eq_true h4
    refine (Any.strings_IndexAny_laid L h116 a b w (by omega) (by omega) (asciiB_ok h1) (asciiB_ok h2)).mono ?_
    rintro e w' ⟨rfl, hb⟩
    obtain ⟨r1, r2⟩ := hR.grow hb
    have hk := idxK_eq _ _ h
    have e : (if Lib.indexAny a.data.toList b.data.toList = -1 then -1 else ((0 : Nat) : Int) + Lib.indexAny a.data.toList b.data.toList) = Lib.indexAny a.data.toList b.data.toList := by
      split
      · rename_i he; exact he.symm
      · omega
    rw [e] at hk
    exact ⟨_, _, ρ, s, rfl, by rw [VR], r1, r2, hk⟩
/- internal/bytealg.CountString, a function without a body. -/
def cntB (c : Nat) : List UInt8 → Nat → Nat
  | [], n => n
  | b :: l, n => cntB c l (cond (Nat.beq b.toNat c) (Nat.succ n) n)
def xCount : List Value → Option Value
  | [.string b, .int .u8 (.ofNat c)] => cond (Nat.blt c 256) (some (.int .i64 (.ofNat (cntB c b.data.toList 0)))) none
  | _ => none
theorem cntB_eq (c : Nat) (d : UInt8) (hd : d.toNat = c) : ∀ (l : List UInt8) (n : Nat), cntB c l n = n + Lib.countByte l d
  | [], n => by simp [cntB, Lib.countByte]
  | b :: l, n => by
    rw [cntB, cntB_eq c d hd l]
    unfold Lib.countByte
    rw [List.count_cons]
    cases h : Nat.beq b.toNat c with
    | true =>
      have e : b = d := UInt8.toNat_inj.1 ((Nat.eq_of_beq_eq_true h).trans hd.symm)
      subst e
      simp
      omega
    | false =>
      have e : (b == d) = false := by
        refine beq_eq_false_iff_ne.2 fun e => ?_
        subst e
        rw [hd, Nat.beq_refl] at h
        cases h
      simp [e]
theorem xCount_ok {P : Program} {f : FuncId} (h : xtHas P f Extern.BytealgCount.count) {l : List Value} {v : Value} (hg : xCount l = some v) {ρ : Rho} {us : List Value} {w : World} (hl : L2 ρ l us) : ∃ u, (callFunc f us.toArray).run P w = .ok (.value u) w ∧ VR ρ v u := by
  obtain ⟨fn, h1, h2, h3, h4, h5⟩ := h
  unfold xCount at hg
  split at hg
  · rename_i b c
    cases hq : Nat.blt c 256 with
    | false => rw [hq] at hg; cases hg
    | true =>
      rw [hq] at hg
      obtain rfl := Option.some.inj hg
      obtain ⟨u, r, rfl, hv, hr⟩ := hl.inv
      obtain ⟨u2, r2, rfl, hv2, hr2⟩ := hr.inv
      have : r2 = [] := List.length_eq_zero_iff.1 hr2.1
      subst this
      obtain rfl : u = .string b := by rw [VR] at hv; exact hv
      obtain rfl : u2 = .int .u8 (.ofNat c) := by rw [VR] at hv2; exact hv2
      have hc := (blt_iff _ _).1 hq
      refine ⟨.int .i64 (.ofNat (cntB c b.data.toList 0)), ?_, by rw [VR]⟩
      rw [run_callFunc_extern h1 h2 h3 h4 h5]
      have hr := Lib.run_countString (P := P) b (c : Int) w
      rw [cntB_eq c ((c : Int).toNat.toUInt8) (by simp; omega), Nat.zero_add]
      rw [show ([.string b, .int .u8 (.ofNat c)] : List Value).toArray = #[.string b, .int .u8 (c : Int)] from rfl, hr]
      rfl
  · cases hg
end Go.Proofs.YtcofioeikpiabaaGreatDoor.Am
set_option linter.unusedSimpArgs false
namespace Go.Proofs.YtcofioeikpiabaaGreatDoor.Am
open Go Go.RowKit Go.Shelf Go.Proofs
/- a number below a hundred, written. -/
def byt (n : Nat) : UInt8 := UInt8.ofNat (48 + n)
def two (n : Nat) : List UInt8 := cond (Nat.blt n 10) [byt n] [byt (n / 10), byt (n % 10)]
theorem two_eq {n : Nat} (h : n < 100) : two n = Lib.decDigits n := by
  have : ∀ m, m < 100 → two m = Lib.decDigits m := by
    intro m hm
    unfold two
    cases hq : Nat.blt m 10 with
    | true =>
      have h10 : m < 10 := Nat.le_of_ble_eq_true hq
      simp only [cond_true]
      rw [Lib.decDigits]
      simp [h10, byt]
      try rfl
    | false =>
      have h10 : ¬ m < 10 := fun hh => by rw [show Nat.blt m 10 = true from Nat.ble_eq_true_of_le hh] at hq; cases hq
      simp only [cond_false]
      rw [Lib.decDigits, Lib.decDigits]
      have h11 : m / 10 < 10 := by omega
      simp [h10, h11, byt]
      try rfl
  exact this n h
/- how an error is told: its number, and its place. -/
def errB : List UInt8 := [101, 114, 114, 111, 114, 32]
def atB : List UInt8 := [32, 97, 116, 32]
def errT (y : List UInt8) : List UInt8 := errB ++ y
def errA (y a : List UInt8) : List UInt8 := errB ++ y ++ (atB ++ a)
def refRow (k : K2) (s : St) : Option Row → Bool
  | some r => match r.cells with
    | .int .i64 (.ofNat a) :: .int .i64 (.ofNat y) :: _ => cond (Nat.blt a 100 && Nat.blt y 100) (k (.string ⟨⟨errA (two y) (two a)⟩⟩) s) false
    | _ => false
  | none => false
def xRefusal (te tl tg : TypeId) : List Value → St → K2 → Bool
  | [.iface t (.int .i64 (.ofNat y))], s, k => cond (Nat.beq t te && Nat.blt y 100) (k (.string ⟨⟨errT (two y)⟩⟩) s) false
  | [.iface t (.pointer (some p))], s, k => cond ((Nat.beq t tl || Nat.beq t tg) && Nat.beq p.off 0) (refRow k s (s.get p.block)) false
  | _, _, _ => false
theorem refusal_ok {P : Program} {f : FuncId} {te tl tg : TypeId} (hf : (fnOfP P f).isSome = true)
    (hE : ∀ (y : Nat) (w : World), GlobOk w → y < 100 → Calls P f #[.iface te (.int .i64 (y : Int))] w fun e w' => e = .returned (.string ⟨⟨errT (two y)⟩⟩) ∧ Below w.heap.size w w')
    (hR2 : ∀ (t : TypeId), t = tl ∨ t = tg → ∀ (b : Nat) (a y : Nat) (w : World), GlobOk w → a < 100 → y < 100 → w.cell? ⟨b, 0, none⟩ = some (.int .i64 (a : Int)) → w.cell? ⟨b, 1, none⟩ = some (.int .i64 (y : Int)) →
      Calls P f #[.iface t (.pointer (some ⟨b, 0, none⟩))] w fun e w' => e = .returned (.string ⟨⟨errA (two y) (two a)⟩⟩) ∧ Below w.heap.size w w') :
    CallOk P (fun f' args s k => cond (Nat.beq f' f) (xRefusal te tl tg args s k) false) := by
  refine ext_one hf fun args s k h ρ w us hR hl => ?_
  unfold xRefusal at h
  split at h
  case h_3 => cases h
  · rename_i t y
    cases hq : (Nat.beq t te && Nat.blt y 100) with
    | false => rw [hq] at h; cases h
    | true =>
      rw [hq] at h
      simp only [cond_true] at h
      simp only [Bool.and_eq_true] at hq
      obtain rfl := Nat.eq_of_beq_eq_true hq.1
      have hy : y < 100 := Nat.le_of_ble_eq_true hq.2
      obtain ⟨u, l, rfl, hv, hl⟩ := hl.inv
      obtain rfl : l = [] := List.length_eq_zero_iff.1 hl.1
      rw [VR] at hv
      obtain ⟨z, rfl, hv⟩ := hv
      rw [VR] at hv
      subst hv
      refine (hE y w hR.gl hy).mono ?_
      rintro e w' ⟨rfl, hb⟩
      obtain ⟨r1, r2⟩ := hR.grow hb
      exact ⟨_, _, ρ, s, rfl, by rw [VR], r1, r2, h⟩
  · rename_i t p
    cases hq : ((Nat.beq t tl || Nat.beq t tg) && Nat.beq p.off 0) with
    | false => rw [hq] at h; cases h
    | true =>
      rw [hq] at h
      simp only [cond_true] at h
      simp only [Bool.and_eq_true, Bool.or_eq_true] at hq
      have ht : t = tl ∨ t = tg := hq.1.imp Nat.eq_of_beq_eq_true Nat.eq_of_beq_eq_true
      have ho : p.off = 0 := Nat.eq_of_beq_eq_true hq.2
      unfold refRow at h
      split at h
      case h_2 => cases h
      rename_i r hr
      split at h
      case h_2 => cases h
      rename_i a y rest hcells
      cases hq2 : (Nat.blt a 100 && Nat.blt y 100) with
      | false => rw [hq2] at h; cases h
      | true =>
        rw [hq2] at h
        simp only [cond_true] at h
        simp only [Bool.and_eq_true] at hq2
        have ha : a < 100 := Nat.le_of_ble_eq_true hq2.1
        have hy : y < 100 := Nat.le_of_ble_eq_true hq2.2
        obtain ⟨u, l, rfl, hv, hl⟩ := hl.inv
        obtain rfl : l = [] := List.length_eq_zero_iff.1 hl.1
        obtain ⟨x, hx, rfl⟩ := ifc_ptr hv
        rw [ho]
        obtain ⟨c, c1, c2, c3, c4, c5, c6, c7⟩ := hR.row hr hx
        have cell : ∀ (i : Nat) (n : Int), r.cells[i]? = some (.int .i64 n) → w.cell? ⟨x.1, i, none⟩ = some (.int .i64 n) := by
          intro i n hi
          obtain ⟨v, hv1, hv2⟩ := c4.2 i _ hi
          rw [VR] at hv2
          subst hv2
          rw [cell_at_block c1, ← Array.getElem?_toList]
          rw [List.getElem?_take] at hv1
          split at hv1
          · exact hv1
          · cases hv1
        refine (hR2 t ht x.1 a y w hR.gl ha hy (cell 0 _ (by rw [hcells]; rfl)) (cell 1 _ (by rw [hcells]; rfl))).mono ?_
        rintro e w' ⟨rfl, hb⟩
        obtain ⟨r1, r2⟩ := hR.grow hb
        exact ⟨_, _, ρ, s, rfl, by rw [VR], r1, r2, h⟩
/- a word read as a number: a table says what is answered. -/
def numL (b : List UInt8) (s : St) (k : K2) : List (List UInt8 × Int × Bool) → Bool
  | [] => false
  | (l, n, ok) :: r => cond (bytesEq b l) (k (.tuple #[.int .i64 n, .bool ok]) s) (numL b s k r)
def xNumber (t : List (List UInt8 × Int × Bool)) : List Value → St → K2 → Bool
  | [.string b], s, k => numL b.data.toList s k t
  | _, _, _ => false
theorem numL_ok {b : List UInt8} {s : St} {k : K2} : ∀ (t : List (List UInt8 × Int × Bool)), numL b s k t = true → ∃ x ∈ t, b = x.1 ∧ k (.tuple #[.int .i64 x.2.1, .bool x.2.2]) s = true
  | [], h => by cases h
  | (l, n, ok) :: r, h => by
    rw [numL] at h
    cases hq : bytesEq b l with
    | true =>
      rw [hq] at h
      simp only [cond_true] at h
      exact ⟨_, List.mem_cons_self, by rw [bytesEq_eq] at hq; simpa using hq, h⟩
    | false =>
      rw [hq] at h
      simp only [cond_false] at h
      obtain ⟨x, h1, h2⟩ := numL_ok r h
      exact ⟨x, List.mem_cons_of_mem _ h1, h2⟩
theorem number_ok {P : Program} {f : FuncId} {t : List (List UInt8 × Int × Bool)} (hf : (fnOfP P f).isSome = true)
    (hN : ∀ x ∈ t, ∀ (w : World), GlobOk w → Calls P f #[.string ⟨⟨x.1⟩⟩] w fun e w' => e = .returned (.tuple #[.int .i64 x.2.1, .bool x.2.2]) ∧ Below w.heap.size w w') :
    CallOk P (fun f' args s k => cond (Nat.beq f' f) (xNumber t args s k) false) := by
  refine ext_one hf fun args s k h ρ w us hR hl => ?_
  unfold xNumber at h
  split at h
  case h_2 => cases h
  rename_i b
  obtain ⟨u, l, rfl, hv, hl⟩ := hl.inv
  obtain rfl : l = [] := List.length_eq_zero_iff.1 hl.1
  obtain rfl : u = .string b := by rw [VR] at hv; exact hv
  obtain ⟨x, hx, hb, hk⟩ := numL_ok t h
  obtain rfl : b = ⟨⟨x.1⟩⟩ := by
    rw [← hb]
  refine (hN x hx w hR.gl).mono ?_
  rintro e w' ⟨rfl, hbel⟩
  obtain ⟨r1, r2⟩ := hR.grow hbel
  refine ⟨_, _, ρ, s, rfl, ?_, r1, r2, hk⟩
  rw [VR]
  refine ⟨_, rfl, rfl, fun i hi => ?_⟩
  match i, hi with
  | 0, _ => exact ⟨.int .i64 x.2.1, rfl, by show VR ρ (.int .i64 x.2.1) _; rw [VR]⟩
  | 1, _ => exact ⟨.bool x.2.2, rfl, by show VR ρ (.bool x.2.2) _; rw [VR]⟩
theorem mwhere {P : Program} (fuel : Nat) (t s : TypeId) (name : String) (g : FuncId) (i : TypeInfo) (m : Method) (fs : Array Field) (fld : Field) (d : Array Field) (a : Addr) (n : Int) (w : World)
    (hI : P.info? t = some i) (hM : i.methods.find? (·.name == name) = some m) (hp : m.path.toList = [⟨s, 0, true⟩]) (hf : m.func = some (g, false)) (he : m.path.isEmpty = false)
    (hu : P.underlying s = some (.struct fs)) (hfs : fs[0]? = some fld) (ho : fld.offset = 0)
    (hd : P.underlying fld.type = some (.struct d)) (hz : (sizeOf fld.type).run P w = .ok 1 w) (hb : a.spot = none)
    (hc : w.cell? a = some (.int .i64 n)) : (Go.method (fuel + 1) t (.pointer (some a)) name).run P w = .ok (g, .agg #[.int .i64 n]) w := by
  obtain ⟨ab, ao, asp⟩ := a
  simp only at hb
  subst hb
  have h1 : (typeInfo t).run P w = .ok i w := by simp [typeInfo, hI]
  have h2 : (underlying s).run P w = .ok (.struct fs) w := by simp [underlying, hu]
  have h3 : (underlying fld.type).run P w = .ok (.struct d) w := by simp [underlying, hd]
  have h4 : (isAgg fld.type).run P w = .ok true w := by simp [isAgg, Sem.run_bind, h3, Result.andThen]
  unfold Go.method
  simp only [Sem.run_bind, h1, Result.andThen, hM, hp, follow, h2, hfs, Place.get, asAddr, hf, he]
  simp [fieldPlace, Sem.run_bind, hz, Result.andThen, ho, Addr.add, receiverAt, h3, Place.get, loadVar, h4, loadCells, loadCellsFrom, hc]
theorem underR {P : Program} {t : TypeId} {w : World} {α : Type} {g : TypeInfo → α} {r : α} (h : (do let x ← Extern.Rtype.under t; pure (g x.2)).run P w = .ok r w) : ∃ x, (Extern.Rtype.under t).run P w = .ok x w ∧ g x.2 = r := by
  rw [Sem.run_bind] at h
  cases hu : (Extern.Rtype.under t).run P w with
  | ok x w' =>
    rw [hu] at h
    simp only [Result.andThen] at h
    obtain ⟨h1, h2⟩ : g x.2 = r ∧ w' = w := by simpa using h
    exact ⟨x, by rw [h2], h1⟩
  | _ => rw [hu] at h; simp [Result.andThen] at h
theorem implements_no {P : Program} {T V : TypeId} {w : World} {want : Array (String × TypeId)} (h1 : ∀ s, (Extern.Rtype.noPackMethods s V).run P w = .ok () w) (h2 : ∀ s, (Extern.Rtype.noPackMethods s T).run P w = .ok () w)
    (hT : (do let x ← Extern.Rtype.under T; pure (match x.2.desc with | .interface l => some l | _ => none)).run P w = .ok (some want) w)
    (hV : (do let x ← Extern.Rtype.under V; pure (match x.2.desc with | .interface _ => true | _ => false)).run P w = .ok false w)
    (hl : (P.info? V).map (fun i => (lacking want i.methods).isEmpty) = some false) : (Extern.Rtype.implements T V).run P w = .ok false w := by
  obtain ⟨x, hx, hx2⟩ := underR (g := fun i => match i.desc with | .interface l => some l | _ => none) hT
  obtain ⟨y, hy, hy2⟩ := underR (g := fun i => match i.desc with | .interface _ => true | _ => false) hV
  obtain ⟨i, hi, hl⟩ := Option.map_eq_some_iff.1 hl
  obtain ⟨m, hm⟩ := missingMethod_some (want := want) (got := i.methods) (fun e => by rw [e] at hl; cases hl)
  unfold Extern.Rtype.implements
  simp only [Sem.run_bind, h1, h2, hx, hy, Result.andThen]
  cases hd : x.2.desc <;> rw [hd] at hx2 <;> simp only at hx2 <;> try cases hx2
  cases hd2 : y.2.desc <;> rw [hd2] at hy2 <;> simp only at hy2 <;> first | exact Bool.noConfusion hy2 | simp [typeInfo, hi, hm]
theorem mwhereB {P : Program} (fuel : Nat) (t s ft : TypeId) (name : String) (g : FuncId) (d : Array Field) (a : Addr) (n : Int) (w : World)
    (hM : ((P.info? t).bind fun i => (i.methods.find? (·.name == name)).map fun m => (m.path.toList.map (fun p => (p.struct, p.index, p.deref)), m.func, m.path.isEmpty)) = some ([(s, 0, true)], some (g, false), false))
    (hU : ((P.underlying s).bind fun d => match d with | .struct fs => (fs[0]?).map fun f => (f.offset, f.type) | _ => none) = some (0, ft))
    (hd : P.underlying ft = some (.struct d)) (hz : (sizeOf ft).run P w = .ok 1 w) (hb : a.spot = none)
    (hc : w.cell? a = some (.int .i64 n)) : (Go.method (fuel + 1) t (.pointer (some a)) name).run P w = .ok (g, .agg #[.int .i64 n]) w := by
  obtain ⟨i, hi, hM⟩ := Option.bind_eq_some_iff.1 hM
  obtain ⟨m, hm, hM⟩ := Option.map_eq_some_iff.1 hM
  obtain ⟨h1, h2⟩ := Prod.mk.inj hM
  obtain ⟨h2, h3⟩ := Prod.mk.inj h2
  obtain ⟨u, hu, hU⟩ := Option.bind_eq_some_iff.1 hU
  split at hU
  case h_2 => cases hU
  rename_i fs
  obtain ⟨fld, hf, hU⟩ := Option.map_eq_some_iff.1 hU
  obtain ⟨h4, rfl⟩ := Prod.mk.inj hU
  have hp : m.path.toList = [⟨s, 0, true⟩] := by
    match hq : m.path.toList, h1 with
    | [], h1 => cases h1
    | [⟨x, y, z⟩], h1 => simp at h1; obtain ⟨rfl, rfl, rfl⟩ := h1; rfl
    | _ :: _ :: _, h1 => simp at h1
  exact mwhere fuel t s name g i m fs fld d a n w hi hm hp h2 h3 hu hf h4 hd hz hb hc
end Go.Proofs.YtcofioeikpiabaaGreatDoor.Am
