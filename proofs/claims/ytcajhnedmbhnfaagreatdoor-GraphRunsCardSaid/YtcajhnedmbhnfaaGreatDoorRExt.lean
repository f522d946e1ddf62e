/-
  Go's stringslite.Clone by the library's contract at this program; errors.As, errors.Is by walks of my own; what functions without a body answer.
-/
import Derived.Test.YtcajhnedmbhnfaaGreatDoorProg
import Derived.Test.YtcajhnedmbhnfaaGreatDoorAmAs
import Derived.Test.YtcajhnedmbhnfaaGreatDoorRIs
namespace Go.Proofs.YtcajhnedmbhnfaaGreatDoor
open Go Go.RowKit Go.Shelf Go.Proofs Am

def renP : Ren where
  f := fun
    | 316 => 114
    | n => n
  t := fun
    | 0 => 0
    | 3 => 3
    | 4 => 4
    | 5 => 5
    | 9 => 9
    | 37 => 155
    | 127 => 224
    | n => n
  g := fun n => n
theorem lays316 : LaysM.n316 Tryz.prog renP where
  mixed := by kernel_rfl
  f316 := by kernel_rfl
  t0 := Tryz.underlying0
  a0 := Tryz.isAgg0
  z0 := Tryz.sizeOf0
  v0 := Tryz.zeroValue0
  t3 := Tryz.underlying3
  a3 := Tryz.isAgg3
  z3 := Tryz.sizeOf3
  v3 := Tryz.zeroValue3
  t4 := Tryz.underlying4
  a4 := Tryz.isAgg4
  z4 := Tryz.sizeOf4
  v4 := Tryz.zeroValue4
  t9 := Tryz.underlying9
  a9 := Tryz.isAgg9
  z9 := Tryz.sizeOf9
  v9 := Tryz.zeroValue9
  t37 := Tryz.underlying155
  a37 := Tryz.isAgg155
  z37 := Tryz.sizeOf155
  v37 := Tryz.zeroValue155
  t127 := Tryz.underlying224
  a127 := Tryz.isAgg224
  z127 := Tryz.sizeOf224
  v127 := Tryz.zeroValue224
  t5 := Tryz.underlying5
  a5 := Tryz.isAgg5
  z5 := Tryz.sizeOf5
  v5 := Tryz.zeroValue5
  i0 := by kernel_rfl
  i3 := by kernel_rfl
  i4 := by kernel_rfl
  i5 := by kernel_rfl
  i9 := by kernel_rfl
  i37 := by kernel_rfl
  i127 := by kernel_rfl
def exts (f : FuncId) : Option (List Value → St → K2 → Bool) := cond (Nat.beq f 114) (some xClone) (cond (Nat.beq f 35) (some (xAs 60 87)) (cond (Nat.beq f 38) (some (xIs 60 88 1)) none))
theorem exts_ok : ExtOk Tryz.prog exts := fun f g h => by
  unfold exts at h
  cases h1 : Nat.beq f 114 with
  | true =>
    rw [h1] at h
    obtain rfl := Option.some.inj h
    obtain rfl := Nat.eq_of_beq_eq_true h1
    exact clone_ok lays316 (by kernel_rfl)
  | false =>
    rw [h1] at h
    simp only [cond_false] at h
    cases h2 : Nat.beq f 35 with
    | true =>
      rw [h2] at h
      obtain rfl := Option.some.inj h
      obtain rfl := Nat.eq_of_beq_eq_true h2
      exact as_fn
    | false =>
      rw [h2] at h
      simp only [cond_false] at h
      cases h3 : Nat.beq f 38 with
      | true =>
        rw [h3] at h
        obtain rfl := Option.some.inj h
        obtain rfl := Nat.eq_of_beq_eq_true h3
        exact is_fn
      | false => rw [h3] at h; cases h
def xts (f : FuncId) : Option (List Value → Option Value) := cond (Nat.beq f 133) (some xSame) (cond (Nat.beq f 179) (some xIndexByte) none)
theorem xts_ok : XtOk Tryz.prog xts := fun f g h => by
  unfold xts at h
  cases h1 : Nat.beq f 133 with
  | true =>
    rw [h1] at h
    obtain rfl := Option.some.inj h
    obtain rfl := Nat.eq_of_beq_eq_true h1
    exact fun l v hg ρ us w hl => xSame_ok ⟨Tryz.f133, Tryz.func133, by kernel_rfl, by kernel_rfl, by kernel_rfl, by kernel_rfl⟩ hg hl
  | false =>
    rw [h1] at h
    simp only [cond_false] at h
    cases h2 : Nat.beq f 179 with
    | true =>
      rw [h2] at h
      obtain rfl := Option.some.inj h
      obtain rfl := Nat.eq_of_beq_eq_true h2
      exact fun l v hg ρ us w hl => xIndexByte_ok ⟨Tryz.f179, Tryz.func179, by kernel_rfl, by kernel_rfl, by kernel_rfl, by kernel_rfl⟩ hg hl
    | false => rw [h2] at h; cases h
end Go.Proofs.YtcajhnedmbhnfaaGreatDoor
