/-
  Go's strings.Join and stringslite.Clone by the library's contracts at this program; what functions without a body answer; the evaluator's own table of them.
-/
import Derived.Test.YtfcmkklmhdlpkaaGreatDoorProg
import Derived.Test.YtfcmkklmhdlpkaaGreatDoorAmAs
import Derived.Test.YtfcmkklmhdlpkaaGreatDoorRShelf
import Derived.Test.YtfcmkklmhdlpkaaGreatDoorRAs
namespace Go.Proofs.YtfcmkklmhdlpkaaGreatDoor
open Go Go.RowKit Go.Shelf Go.Proofs Am

def ren : Ren where
  f := fun
    | 156 => 248
    | 165 => 283
    | 166 => 275
    | 169 => 232
    | 240 => 274
    | 241 => 307
    | 276 => 299
    | 277 => 330
    | 316 => 280
    | n => n
  t := fun
    | 0 => 0
    | 3 => 3
    | 4 => 4
    | 5 => 5
    | 9 => 9
    | 20 => 20
    | 31 => 49
    | 37 => 326
    | 70 => 388
    | 72 => 390
    | 75 => 28
    | 76 => 429
    | 80 => 393
    | 127 => 432
    | 164 => 125
    | n => n
  g := fun n => n
theorem lays156 : Lays.n156 Tryz.prog ren where
  mixed := by kernel_rfl
  f156 := by kernel_rfl
  f165 := by kernel_rfl
  f166 := by kernel_rfl
  f169 := by kernel_rfl
  f240 := by kernel_rfl
  f241 := by kernel_rfl
  f276 := by kernel_rfl
  f277 := by kernel_rfl
  t0 := Tryz.underlying0
  a0 := Tryz.isAgg0
  z0 := Tryz.sizeOf0
  v0 := Tryz.zeroValue0
  t3 := Tryz.underlying3
  a3 := Tryz.isAgg3
  z3 := Tryz.sizeOf3
  v3 := Tryz.zeroValue3
  t4 := Tryz.underlying4
  a4 := Tryz.isAgg4
  z4 := Tryz.sizeOf4
  v4 := Tryz.zeroValue4
  t9 := Tryz.underlying9
  a9 := Tryz.isAgg9
  z9 := Tryz.sizeOf9
  v9 := Tryz.zeroValue9
  t20 := Tryz.underlying20
  a20 := Tryz.isAgg20
  z20 := Tryz.sizeOf20
  v20 := Tryz.zeroValue20
  t31 := Tryz.underlying49
  a31 := Tryz.isAgg49
  z31 := Tryz.sizeOf49
  v31 := Tryz.zeroValue49
  t37 := Tryz.underlying326
  a37 := Tryz.isAgg326
  z37 := Tryz.sizeOf326
  v37 := Tryz.zeroValue326
  t70 := Tryz.underlying388
  a70 := Tryz.isAgg388
  z70 := Tryz.sizeOf388
  v70 := Tryz.zeroValue388
  t72 := Tryz.underlying390
  a72 := Tryz.isAgg390
  z72 := Tryz.sizeOf390
  v72 := Tryz.zeroValue390
  t75 := Tryz.underlying28
  a75 := Tryz.isAgg28
  z75 := Tryz.sizeOf28
  v75 := Tryz.zeroValue28
  t76 := Tryz.underlying429
  a76 := Tryz.isAgg429
  z76 := Tryz.sizeOf429
  v76 := Tryz.zeroValue429
  t127 := Tryz.underlying432
  a127 := Tryz.isAgg432
  z127 := Tryz.sizeOf432
  v127 := Tryz.zeroValue432
  t164 := Tryz.underlying125
  a164 := Tryz.isAgg125
  z164 := Tryz.sizeOf125
  v164 := Tryz.zeroValue125
theorem extra : Builder.Extra Tryz.prog ren where
  sizeBuilder := by kernel_rfl
  liesBuilder := by kernel_rfl
  t5 := Tryz.underlying5
  a5 := Tryz.isAgg5
  z5 := Tryz.sizeOf5
  v5 := Tryz.zeroValue5
  infoByte := by kernel_rfl
  cellsByte := by kernel_rfl
  sizeByte := by kernel_rfl
  neB5 := by decide
theorem lays316 : LaysM.n316 Tryz.prog ren where
  mixed := by kernel_rfl
  f316 := by kernel_rfl
  t0 := Tryz.underlying0
  a0 := Tryz.isAgg0
  z0 := Tryz.sizeOf0
  v0 := Tryz.zeroValue0
  t3 := Tryz.underlying3
  a3 := Tryz.isAgg3
  z3 := Tryz.sizeOf3
  v3 := Tryz.zeroValue3
  t4 := Tryz.underlying4
  a4 := Tryz.isAgg4
  z4 := Tryz.sizeOf4
  v4 := Tryz.zeroValue4
  t9 := Tryz.underlying9
  a9 := Tryz.isAgg9
  z9 := Tryz.sizeOf9
  v9 := Tryz.zeroValue9
  t37 := Tryz.underlying326
  a37 := Tryz.isAgg326
  z37 := Tryz.sizeOf326
  v37 := Tryz.zeroValue326
  t127 := Tryz.underlying432
  a127 := Tryz.isAgg432
  z127 := Tryz.sizeOf432
  v127 := Tryz.zeroValue432
  t5 := Tryz.underlying5
  a5 := Tryz.isAgg5
  z5 := Tryz.sizeOf5
  v5 := Tryz.zeroValue5
  i0 := by kernel_rfl
  i3 := by kernel_rfl
  i4 := by kernel_rfl
  i5 := by kernel_rfl
  i9 := by kernel_rfl
  i37 := by kernel_rfl
  i127 := by kernel_rfl
def exts (f : FuncId) : Option (List Value → St → K2 → Bool) := cond (Nat.beq f 248) (some xJoin) (cond (Nat.beq f 280) (some xClone) (cond (Nat.beq f 113) (some (xSorted keyFns (sortedA_ren.t 26))) (cond (Nat.beq f 16) (some (xAs 55 60)) none)))
theorem exts_ok : ExtOk Tryz.prog exts := fun f g h => by
  unfold exts at h
  cases h1 : Nat.beq f 248 with
  | true =>
    rw [h1] at h
    obtain rfl := Option.some.inj h
    obtain rfl := Nat.eq_of_beq_eq_true h1
    exact join_ok lays156 extra (by kernel_rfl)
  | false =>
    rw [h1] at h
    simp only [cond_false] at h
    cases h2 : Nat.beq f 280 with
    | true =>
      rw [h2] at h
      obtain rfl := Option.some.inj h
      obtain rfl := Nat.eq_of_beq_eq_true h2
      exact clone_ok lays316 (by kernel_rfl)
    | false =>
      rw [h2] at h
      simp only [cond_false] at h
      cases h3 : Nat.beq f 113 with
      | true =>
        rw [h3] at h
        obtain rfl := Option.some.inj h
        obtain rfl := Nat.eq_of_beq_eq_true h3
        exact sorted_fn
      | false =>
        rw [h3] at h
        simp only [cond_false] at h
        cases h4 : Nat.beq f 16 with
        | true =>
          rw [h4] at h
          obtain rfl := Option.some.inj h
          obtain rfl := Nat.eq_of_beq_eq_true h4
          exact as_fn
        | false => rw [h4] at h; cases h
def xts (f : FuncId) : Option (List Value → Option Value) := cond (Nat.beq f 299) (some xSame) (cond (Nat.beq f 362) (some xIndexByte) (cond (Nat.beq f 217) (some xCmp) none))
theorem xts_ok : XtOk Tryz.prog xts := fun f g h => by
  unfold xts at h
  cases h1 : Nat.beq f 299 with
  | true =>
    rw [h1] at h
    obtain rfl := Option.some.inj h
    obtain rfl := Nat.eq_of_beq_eq_true h1
    exact fun l v hg ρ us w hl => xSame_ok ⟨Tryz.f299, Tryz.func299, by kernel_rfl, by kernel_rfl, by kernel_rfl, by kernel_rfl⟩ hg hl
  | false =>
    rw [h1] at h
    simp only [cond_false] at h
    cases h2 : Nat.beq f 362 with
    | true =>
      rw [h2] at h
      obtain rfl := Option.some.inj h
      obtain rfl := Nat.eq_of_beq_eq_true h2
      exact fun l v hg ρ us w hl => xIndexByte_ok ⟨Tryz.f362, Tryz.func362, by kernel_rfl, by kernel_rfl, by kernel_rfl, by kernel_rfl⟩ hg hl
    | false =>
      rw [h2] at h
      simp only [cond_false] at h
      cases h3 : Nat.beq f 217 with
      | true =>
        rw [h3] at h
        obtain rfl := Option.some.inj h
        obtain rfl := Nat.eq_of_beq_eq_true h3
        exact fun l v hg ρ us w hl => xCmp_ok ⟨Tryz.f217, Tryz.func217, by kernel_rfl, by kernel_rfl, by kernel_rfl, by kernel_rfl⟩ hg hl
      | false => rw [h3] at h; cases h
end Go.Proofs.YtfcmkklmhdlpkaaGreatDoor
