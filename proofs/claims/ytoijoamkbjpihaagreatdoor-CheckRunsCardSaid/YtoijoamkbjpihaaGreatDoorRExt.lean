/-
  Go's strings.Join and stringslite.Clone by the library's contracts at this program; what functions without a body answer; the evaluator's own table of them.
-/
import Derived.Test.YtoijoamkbjpihaaGreatDoorProg
import Derived.Test.YtoijoamkbjpihaaGreatDoorAmAs
import Derived.Test.YtoijoamkbjpihaaGreatDoorRShelf
import Derived.Test.YtoijoamkbjpihaaGreatDoorRIs
namespace Go.Proofs.YtoijoamkbjpihaaGreatDoor
open Go Go.RowKit Go.Shelf Go.Proofs Am

def ren : Ren where
  f := fun
    | 156 => 333
    | 165 => 365
    | 166 => 201
    | 169 => 157
    | 240 => 200
    | 241 => 390
    | 276 => 232
    | 277 => 404
    | 316 => 324
    | n => n
  t := fun
    | 0 => 0
    | 3 => 3
    | 4 => 4
    | 5 => 5
    | 9 => 9
    | 20 => 20
    | 31 => 43
    | 37 => 275
    | 70 => 291
    | 72 => 293
    | 75 => 24
    | 76 => 337
    | 80 => 106
    | 127 => 340
    | 164 => 185
    | n => n
  g := fun n => n
theorem lays156 : Lays.n156 Tryz.prog ren where
  mixed := by kernel_rfl
  f156 := by kernel_rfl
  f165 := by kernel_rfl
  f166 := by kernel_rfl
  f169 := by kernel_rfl
  f240 := by kernel_rfl
  f241 := by kernel_rfl
  f276 := by kernel_rfl
  f277 := by kernel_rfl
  t0 := Tryz.underlying0
  a0 := Tryz.isAgg0
  z0 := Tryz.sizeOf0
  v0 := Tryz.zeroValue0
  t3 := Tryz.underlying3
  a3 := Tryz.isAgg3
  z3 := Tryz.sizeOf3
  v3 := Tryz.zeroValue3
  t4 := Tryz.underlying4
  a4 := Tryz.isAgg4
  z4 := Tryz.sizeOf4
  v4 := Tryz.zeroValue4
  t9 := Tryz.underlying9
  a9 := Tryz.isAgg9
  z9 := Tryz.sizeOf9
  v9 := Tryz.zeroValue9
  t20 := Tryz.underlying20
  a20 := Tryz.isAgg20
  z20 := Tryz.sizeOf20
  v20 := Tryz.zeroValue20
  t31 := Tryz.underlying43
  a31 := Tryz.isAgg43
  z31 := Tryz.sizeOf43
  v31 := Tryz.zeroValue43
  t37 := Tryz.underlying275
  a37 := Tryz.isAgg275
  z37 := Tryz.sizeOf275
  v37 := Tryz.zeroValue275
  t70 := Tryz.underlying291
  a70 := Tryz.isAgg291
  z70 := Tryz.sizeOf291
  v70 := Tryz.zeroValue291
  t72 := Tryz.underlying293
  a72 := Tryz.isAgg293
  z72 := Tryz.sizeOf293
  v72 := Tryz.zeroValue293
  t75 := Tryz.underlying24
  a75 := Tryz.isAgg24
  z75 := Tryz.sizeOf24
  v75 := Tryz.zeroValue24
  t76 := Tryz.underlying337
  a76 := Tryz.isAgg337
  z76 := Tryz.sizeOf337
  v76 := Tryz.zeroValue337
  t127 := Tryz.underlying340
  a127 := Tryz.isAgg340
  z127 := Tryz.sizeOf340
  v127 := Tryz.zeroValue340
  t164 := Tryz.underlying185
  a164 := Tryz.isAgg185
  z164 := Tryz.sizeOf185
  v164 := Tryz.zeroValue185
theorem extra : Builder.Extra Tryz.prog ren where
  sizeBuilder := by kernel_rfl
  liesBuilder := by kernel_rfl
  t5 := Tryz.underlying5
  a5 := Tryz.isAgg5
  z5 := Tryz.sizeOf5
  v5 := Tryz.zeroValue5
  infoByte := by kernel_rfl
  cellsByte := by kernel_rfl
  sizeByte := by kernel_rfl
  neB5 := by decide
theorem lays316 : LaysM.n316 Tryz.prog ren where
  mixed := by kernel_rfl
  f316 := by kernel_rfl
  t0 := Tryz.underlying0
  a0 := Tryz.isAgg0
  z0 := Tryz.sizeOf0
  v0 := Tryz.zeroValue0
  t3 := Tryz.underlying3
  a3 := Tryz.isAgg3
  z3 := Tryz.sizeOf3
  v3 := Tryz.zeroValue3
  t4 := Tryz.underlying4
  a4 := Tryz.isAgg4
  z4 := Tryz.sizeOf4
  v4 := Tryz.zeroValue4
  t9 := Tryz.underlying9
  a9 := Tryz.isAgg9
  z9 := Tryz.sizeOf9
  v9 := Tryz.zeroValue9
  t37 := Tryz.underlying275
  a37 := Tryz.isAgg275
  z37 := Tryz.sizeOf275
  v37 := Tryz.zeroValue275
  t127 := Tryz.underlying340
  a127 := Tryz.isAgg340
  z127 := Tryz.sizeOf340
  v127 := Tryz.zeroValue340
  t5 := Tryz.underlying5
  a5 := Tryz.isAgg5
  z5 := Tryz.sizeOf5
  v5 := Tryz.zeroValue5
  i0 := by kernel_rfl
  i3 := by kernel_rfl
  i4 := by kernel_rfl
  i5 := by kernel_rfl
  i9 := by kernel_rfl
  i37 := by kernel_rfl
  i127 := by kernel_rfl
def exts (f : FuncId) : Option (List Value → St → K2 → Bool) := cond (Nat.beq f 333) (some xJoin) (cond (Nat.beq f 324) (some xClone) (cond (Nat.beq f 210) (some (xSorted keyFns (sortedA_ren.t 26))) (cond (Nat.beq f 33) (some (xAs 82 105)) (cond (Nat.beq f 35) (some (xIs 82 79 1)) none))))
theorem exts_ok : ExtOk Tryz.prog exts := fun f g h => by
  unfold exts at h
  cases h1 : Nat.beq f 333 with
  | true =>
    rw [h1] at h
    obtain rfl := Option.some.inj h
    obtain rfl := Nat.eq_of_beq_eq_true h1
    exact join_ok lays156 extra (by kernel_rfl)
  | false =>
    rw [h1] at h
    simp only [cond_false] at h
    cases h2 : Nat.beq f 324 with
    | true =>
      rw [h2] at h
      obtain rfl := Option.some.inj h
      obtain rfl := Nat.eq_of_beq_eq_true h2
      exact clone_ok lays316 (by kernel_rfl)
    | false =>
      rw [h2] at h
      simp only [cond_false] at h
      cases h3 : Nat.beq f 210 with
      | true =>
        rw [h3] at h
        obtain rfl := Option.some.inj h
        obtain rfl := Nat.eq_of_beq_eq_true h3
        exact sorted_fn
      | false =>
        rw [h3] at h
        simp only [cond_false] at h
        cases h4 : Nat.beq f 33 with
        | true =>
          rw [h4] at h
          obtain rfl := Option.some.inj h
          obtain rfl := Nat.eq_of_beq_eq_true h4
          exact as_fn
        | false =>
          rw [h4] at h
          simp only [cond_false] at h
          cases h5 : Nat.beq f 35 with
          | true =>
            rw [h5] at h
            obtain rfl := Option.some.inj h
            obtain rfl := Nat.eq_of_beq_eq_true h5
            exact is_fn
          | false => rw [h5] at h; cases h
def xts (f : FuncId) : Option (List Value → Option Value) := cond (Nat.beq f 232) (some xSame) (cond (Nat.beq f 385) (some xIndexByte) (cond (Nat.beq f 389) (some xCmp) none))
theorem xts_ok : XtOk Tryz.prog xts := fun f g h => by
  unfold xts at h
  cases h1 : Nat.beq f 232 with
  | true =>
    rw [h1] at h
    obtain rfl := Option.some.inj h
    obtain rfl := Nat.eq_of_beq_eq_true h1
    exact fun l v hg ρ us w hl => xSame_ok ⟨Tryz.f232, Tryz.func232, by kernel_rfl, by kernel_rfl, by kernel_rfl, by kernel_rfl⟩ hg hl
  | false =>
    rw [h1] at h
    simp only [cond_false] at h
    cases h2 : Nat.beq f 385 with
    | true =>
      rw [h2] at h
      obtain rfl := Option.some.inj h
      obtain rfl := Nat.eq_of_beq_eq_true h2
      exact fun l v hg ρ us w hl => xIndexByte_ok ⟨Tryz.f385, Tryz.func385, by kernel_rfl, by kernel_rfl, by kernel_rfl, by kernel_rfl⟩ hg hl
    | false =>
      rw [h2] at h
      simp only [cond_false] at h
      cases h3 : Nat.beq f 389 with
      | true =>
        rw [h3] at h
        obtain rfl := Option.some.inj h
        obtain rfl := Nat.eq_of_beq_eq_true h3
        exact fun l v hg ρ us w hl => xCmp_ok ⟨Tryz.f389, Tryz.func389, by kernel_rfl, by kernel_rfl, by kernel_rfl, by kernel_rfl⟩ hg hl
      | false => rw [h3] at h; cases h
end Go.Proofs.YtoijoamkbjpihaaGreatDoor
