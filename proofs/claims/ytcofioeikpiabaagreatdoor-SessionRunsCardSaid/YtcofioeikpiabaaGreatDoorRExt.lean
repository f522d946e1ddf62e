/-
  Go's strings.Join and stringslite.Clone by the library's contracts at this program; what functions without a body answer; the evaluator's own table of them.
-/
import Derived.Test.YtcofioeikpiabaaGreatDoorProg
import Derived.Test.YtcofioeikpiabaaGreatDoorAmAs
import Derived.Test.YtcofioeikpiabaaGreatDoorRShelf
import Derived.Test.YtcofioeikpiabaaGreatDoorShelf
import Derived.Test.YtcofioeikpiabaaGreatDoorAmRf
import Derived.Test.YtcofioeikpiabaaGreatDoorRNum
import Derived.Test.YtcofioeikpiabaaGreatDoorRRef
import Derived.Test.YtcofioeikpiabaaGreatDoorRTok
namespace Go.Proofs.YtcofioeikpiabaaGreatDoor
open Go Go.RowKit Go.Shelf Go.Proofs Am

def renX : Ren where
  f := fun
    | 156 => 16
    | 165 => 47
    | 166 => 10
    | 169 => 12
    | 240 => 18
    | 241 => 101
    | 276 => 49
    | 277 => 168
    | 316 => 452
    | n => n
  t := fun
    | 0 => 0
    | 3 => 3
    | 4 => 4
    | 5 => 5
    | 9 => 9
    | 20 => 20
    | 31 => 24
    | 37 => 40
    | 70 => 39
    | 72 => 42
    | 75 => 44
    | 76 => 45
    | 80 => 48
    | 127 => 60
    | 164 => 88
    | n => n
  g := fun n => n
theorem lays156 : Lays.n156 Tryz.prog renX where
  mixed := by kernel_rfl
  f156 := by kernel_rfl
  f165 := by kernel_rfl
  f166 := by kernel_rfl
  f169 := by kernel_rfl
  f240 := by kernel_rfl
  f241 := by kernel_rfl
  f276 := by kernel_rfl
  f277 := by kernel_rfl
  t0 := Tryz.underlying0
  a0 := Tryz.isAgg0
  z0 := Tryz.sizeOf0
  v0 := Tryz.zeroValue0
  t3 := Tryz.underlying3
  a3 := Tryz.isAgg3
  z3 := Tryz.sizeOf3
  v3 := Tryz.zeroValue3
  t4 := Tryz.underlying4
  a4 := Tryz.isAgg4
  z4 := Tryz.sizeOf4
  v4 := Tryz.zeroValue4
  t9 := Tryz.underlying9
  a9 := Tryz.isAgg9
  z9 := Tryz.sizeOf9
  v9 := Tryz.zeroValue9
  t20 := Tryz.underlying20
  a20 := Tryz.isAgg20
  z20 := Tryz.sizeOf20
  v20 := Tryz.zeroValue20
  t31 := Tryz.underlying24
  a31 := Tryz.isAgg24
  z31 := Tryz.sizeOf24
  v31 := Tryz.zeroValue24
  t37 := Tryz.underlying40
  a37 := Tryz.isAgg40
  z37 := Tryz.sizeOf40
  v37 := Tryz.zeroValue40
  t70 := Tryz.underlying39
  a70 := Tryz.isAgg39
  z70 := Tryz.sizeOf39
  v70 := Tryz.zeroValue39
  t72 := Tryz.underlying42
  a72 := Tryz.isAgg42
  z72 := Tryz.sizeOf42
  v72 := Tryz.zeroValue42
  t75 := Tryz.underlying44
  a75 := Tryz.isAgg44
  z75 := Tryz.sizeOf44
  v75 := Tryz.zeroValue44
  t76 := Tryz.underlying45
  a76 := Tryz.isAgg45
  z76 := Tryz.sizeOf45
  v76 := Tryz.zeroValue45
  t127 := Tryz.underlying60
  a127 := Tryz.isAgg60
  z127 := Tryz.sizeOf60
  v127 := Tryz.zeroValue60
  t164 := Tryz.underlying88
  a164 := Tryz.isAgg88
  z164 := Tryz.sizeOf88
  v164 := Tryz.zeroValue88
theorem extraX : Builder.Extra Tryz.prog renX where
  sizeBuilder := by kernel_rfl
  liesBuilder := by kernel_rfl
  t5 := Tryz.underlying5
  a5 := Tryz.isAgg5
  z5 := Tryz.sizeOf5
  v5 := Tryz.zeroValue5
  infoByte := by kernel_rfl
  cellsByte := by kernel_rfl
  sizeByte := by kernel_rfl
  neB5 := by decide
theorem lays316 : LaysM.n316 Tryz.prog renX where
  mixed := by kernel_rfl
  f316 := by kernel_rfl
  t0 := Tryz.underlying0
  a0 := Tryz.isAgg0
  z0 := Tryz.sizeOf0
  v0 := Tryz.zeroValue0
  t3 := Tryz.underlying3
  a3 := Tryz.isAgg3
  z3 := Tryz.sizeOf3
  v3 := Tryz.zeroValue3
  t4 := Tryz.underlying4
  a4 := Tryz.isAgg4
  z4 := Tryz.sizeOf4
  v4 := Tryz.zeroValue4
  t9 := Tryz.underlying9
  a9 := Tryz.isAgg9
  z9 := Tryz.sizeOf9
  v9 := Tryz.zeroValue9
  t37 := Tryz.underlying40
  a37 := Tryz.isAgg40
  z37 := Tryz.sizeOf40
  v37 := Tryz.zeroValue40
  t127 := Tryz.underlying60
  a127 := Tryz.isAgg60
  z127 := Tryz.sizeOf60
  v127 := Tryz.zeroValue60
  t5 := Tryz.underlying5
  a5 := Tryz.isAgg5
  z5 := Tryz.sizeOf5
  v5 := Tryz.zeroValue5
  i0 := by kernel_rfl
  i3 := by kernel_rfl
  i4 := by kernel_rfl
  i5 := by kernel_rfl
  i9 := by kernel_rfl
  i37 := by kernel_rfl
  i127 := by kernel_rfl
def exts (f : FuncId) : Option (List Value → St → K2 → Bool) := (cond (Nat.beq f 16) (some xJoin) (cond (Nat.beq f 452) (some xClone) (cond (Nat.beq f 255) (some (xSortedB valFns keyFns (sortedA_ren.t 26))) (cond (Nat.beq f 179) (some (xTok 371 4 lexT)) (cond (Nat.beq f 22) (some xIndexAny) (cond (Nat.beq f 13) (some (xRefusal 27 359 265)) (cond (Nat.beq f 93) (some (xNumber RE.numT)) none)))))))
theorem exts_ok : ExtOk Tryz.prog exts := fun f g h => by
  unfold exts at h
  cases h0 : Nat.beq f 16 with
  | true =>
    rw [h0] at h
    obtain rfl := Option.some.inj h
    obtain rfl := Nat.eq_of_beq_eq_true h0
    exact join_ok lays156 extraX (by kernel_rfl)
  | false =>
  rw [h0] at h
  simp only [cond_false] at h
  cases h1 : Nat.beq f 452 with
  | true =>
    rw [h1] at h
    obtain rfl := Option.some.inj h
    obtain rfl := Nat.eq_of_beq_eq_true h1
    exact clone_ok lays316 (by kernel_rfl)
  | false =>
  rw [h1] at h
  simp only [cond_false] at h
  cases h2 : Nat.beq f 255 with
  | true =>
    rw [h2] at h
    obtain rfl := Option.some.inj h
    obtain rfl := Nat.eq_of_beq_eq_true h2
    exact sorted_fn
  | false =>
  rw [h2] at h
  simp only [cond_false] at h
  cases h3 : Nat.beq f 179 with
  | true =>
    rw [h3] at h
    obtain rfl := Option.some.inj h
    obtain rfl := Nat.eq_of_beq_eq_true h3
    exact tok_fn
  | false =>
  rw [h3] at h
  simp only [cond_false] at h
  cases h4 : Nat.beq f 22 with
  | true =>
    rw [h4] at h
    obtain rfl := Option.some.inj h
    obtain rfl := Nat.eq_of_beq_eq_true h4
    exact indexany_ok Tryz.lays153 (by kernel_rfl) (by kernel_rfl)
  | false =>
  rw [h4] at h
  simp only [cond_false] at h
  cases h5 : Nat.beq f 13 with
  | true =>
    rw [h5] at h
    obtain rfl := Option.some.inj h
    obtain rfl := Nat.eq_of_beq_eq_true h5
    exact RE.refusal_fn
  | false =>
  rw [h5] at h
  simp only [cond_false] at h
  cases h6 : Nat.beq f 93 with
  | true =>
    rw [h6] at h
    obtain rfl := Option.some.inj h
    obtain rfl := Nat.eq_of_beq_eq_true h6
    exact RE.number_fn
  | false =>
  rw [h6] at h
  simp only [cond_false] at h
  cases h
def xts (f : FuncId) : Option (List Value → Option Value) := (cond (Nat.beq f 49) (some xSame) (cond (Nat.beq f 275) (some xIndexByte) (cond (Nat.beq f 519) (some xCmp) (cond (Nat.beq f 170) (some xCount) none))))
theorem xts_ok : XtOk Tryz.prog xts := fun f g h => by
  unfold xts at h
  cases h0 : Nat.beq f 49 with
  | true =>
    rw [h0] at h
    obtain rfl := Option.some.inj h
    obtain rfl := Nat.eq_of_beq_eq_true h0
    exact fun l v hg ρ us w hl => xSame_ok ⟨Tryz.f49, Tryz.func49, by kernel_rfl, by kernel_rfl, by kernel_rfl, by kernel_rfl⟩ hg hl
  | false =>
  rw [h0] at h
  simp only [cond_false] at h
  cases h1 : Nat.beq f 275 with
  | true =>
    rw [h1] at h
    obtain rfl := Option.some.inj h
    obtain rfl := Nat.eq_of_beq_eq_true h1
    exact fun l v hg ρ us w hl => xIndexByte_ok ⟨Tryz.f275, Tryz.func275, by kernel_rfl, by kernel_rfl, by kernel_rfl, by kernel_rfl⟩ hg hl
  | false =>
  rw [h1] at h
  simp only [cond_false] at h
  cases h2 : Nat.beq f 519 with
  | true =>
    rw [h2] at h
    obtain rfl := Option.some.inj h
    obtain rfl := Nat.eq_of_beq_eq_true h2
    exact fun l v hg ρ us w hl => xCmp_ok ⟨Tryz.f519, Tryz.func519, by kernel_rfl, by kernel_rfl, by kernel_rfl, by kernel_rfl⟩ hg hl
  | false =>
  rw [h2] at h
  simp only [cond_false] at h
  cases h3 : Nat.beq f 170 with
  | true =>
    rw [h3] at h
    obtain rfl := Option.some.inj h
    obtain rfl := Nat.eq_of_beq_eq_true h3
    exact fun l v hg ρ us w hl => xCount_ok ⟨Tryz.f170, Tryz.func170, by kernel_rfl, by kernel_rfl, by kernel_rfl, by kernel_rfl⟩ hg hl
  | false =>
  rw [h3] at h
  simp only [cond_false] at h
  cases h
end Go.Proofs.YtcofioeikpiabaaGreatDoor
