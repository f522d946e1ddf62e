/-
  Go's strings.Join and stringslite.Clone by the library's contracts at this program; what functions without a body answer; the evaluator's own table of them.
-/
import Derived.Test.YtcfekhcdadldmaaGreatDoorProg
import Derived.Test.YtcfekhcdadldmaaGreatDoorAmAs
import Derived.Test.YtcfekhcdadldmaaGreatDoorRShelf
namespace Go.Proofs.YtcfekhcdadldmaaGreatDoor
open Go Go.RowKit Go.Shelf Go.Proofs Am

def ren : Ren where
  f := fun
    | 156 => 412
    | 165 => 437
    | 166 => 104
    | 169 => 60
    | 240 => 166
    | 241 => 460
    | 276 => 223
    | 277 => 471
    | 316 => 404
    | n => n
  t := fun
    | 0 => 0
    | 3 => 3
    | 4 => 4
    | 5 => 5
    | 9 => 9
    | 20 => 20
    | 31 => 23
    | 37 => 103
    | 70 => 154
    | 72 => 156
    | 75 => 43
    | 76 => 246
    | 80 => 161
    | 127 => 248
    | 164 => 292
    | n => n
  g := fun n => n
theorem lays156 : Lays.n156 Tryz.prog ren where
  mixed := by kernel_rfl
  f156 := by kernel_rfl
  f165 := by kernel_rfl
  f166 := by kernel_rfl
  f169 := by kernel_rfl
  f240 := by kernel_rfl
  f241 := by kernel_rfl
  f276 := by kernel_rfl
  f277 := by kernel_rfl
  t0 := Tryz.underlying0
  a0 := Tryz.isAgg0
  z0 := Tryz.sizeOf0
  v0 := Tryz.zeroValue0
  t3 := Tryz.underlying3
  a3 := Tryz.isAgg3
  z3 := Tryz.sizeOf3
  v3 := Tryz.zeroValue3
  t4 := Tryz.underlying4
  a4 := Tryz.isAgg4
  z4 := Tryz.sizeOf4
  v4 := Tryz.zeroValue4
  t9 := Tryz.underlying9
  a9 := Tryz.isAgg9
  z9 := Tryz.sizeOf9
  v9 := Tryz.zeroValue9
  t20 := Tryz.underlying20
  a20 := Tryz.isAgg20
  z20 := Tryz.sizeOf20
  v20 := Tryz.zeroValue20
  t31 := Tryz.underlying23
  a31 := Tryz.isAgg23
  z31 := Tryz.sizeOf23
  v31 := Tryz.zeroValue23
  t37 := Tryz.underlying103
  a37 := Tryz.isAgg103
  z37 := Tryz.sizeOf103
  v37 := Tryz.zeroValue103
  t70 := Tryz.underlying154
  a70 := Tryz.isAgg154
  z70 := Tryz.sizeOf154
  v70 := Tryz.zeroValue154
  t72 := Tryz.underlying156
  a72 := Tryz.isAgg156
  z72 := Tryz.sizeOf156
  v72 := Tryz.zeroValue156
  t75 := Tryz.underlying43
  a75 := Tryz.isAgg43
  z75 := Tryz.sizeOf43
  v75 := Tryz.zeroValue43
  t76 := Tryz.underlying246
  a76 := Tryz.isAgg246
  z76 := Tryz.sizeOf246
  v76 := Tryz.zeroValue246
  t127 := Tryz.underlying248
  a127 := Tryz.isAgg248
  z127 := Tryz.sizeOf248
  v127 := Tryz.zeroValue248
  t164 := Tryz.underlying292
  a164 := Tryz.isAgg292
  z164 := Tryz.sizeOf292
  v164 := Tryz.zeroValue292
theorem extra : Builder.Extra Tryz.prog ren where
  sizeBuilder := by kernel_rfl
  liesBuilder := by kernel_rfl
  t5 := Tryz.underlying5
  a5 := Tryz.isAgg5
  z5 := Tryz.sizeOf5
  v5 := Tryz.zeroValue5
  infoByte := by kernel_rfl
  cellsByte := by kernel_rfl
  sizeByte := by kernel_rfl
  neB5 := by decide
theorem lays316 : LaysM.n316 Tryz.prog ren where
  mixed := by kernel_rfl
  f316 := by kernel_rfl
  t0 := Tryz.underlying0
  a0 := Tryz.isAgg0
  z0 := Tryz.sizeOf0
  v0 := Tryz.zeroValue0
  t3 := Tryz.underlying3
  a3 := Tryz.isAgg3
  z3 := Tryz.sizeOf3
  v3 := Tryz.zeroValue3
  t4 := Tryz.underlying4
  a4 := Tryz.isAgg4
  z4 := Tryz.sizeOf4
  v4 := Tryz.zeroValue4
  t9 := Tryz.underlying9
  a9 := Tryz.isAgg9
  z9 := Tryz.sizeOf9
  v9 := Tryz.zeroValue9
  t37 := Tryz.underlying103
  a37 := Tryz.isAgg103
  z37 := Tryz.sizeOf103
  v37 := Tryz.zeroValue103
  t127 := Tryz.underlying248
  a127 := Tryz.isAgg248
  z127 := Tryz.sizeOf248
  v127 := Tryz.zeroValue248
  t5 := Tryz.underlying5
  a5 := Tryz.isAgg5
  z5 := Tryz.sizeOf5
  v5 := Tryz.zeroValue5
  i0 := by kernel_rfl
  i3 := by kernel_rfl
  i4 := by kernel_rfl
  i5 := by kernel_rfl
  i9 := by kernel_rfl
  i37 := by kernel_rfl
  i127 := by kernel_rfl
def exts (f : FuncId) : Option (List Value → St → K2 → Bool) := cond (Nat.beq f 412) (some xJoin) (cond (Nat.beq f 404) (some xClone) (cond (Nat.beq f 258) (some (xSorted keyFns (sortedA_ren.t 26))) none))
theorem exts_ok : ExtOk Tryz.prog exts := fun f g h => by
  unfold exts at h
  cases h1 : Nat.beq f 412 with
  | true =>
    rw [h1] at h
    obtain rfl := Option.some.inj h
    obtain rfl := Nat.eq_of_beq_eq_true h1
    exact join_ok lays156 extra (by kernel_rfl)
  | false =>
    rw [h1] at h
    simp only [cond_false] at h
    cases h2 : Nat.beq f 404 with
    | true =>
      rw [h2] at h
      obtain rfl := Option.some.inj h
      obtain rfl := Nat.eq_of_beq_eq_true h2
      exact clone_ok lays316 (by kernel_rfl)
    | false =>
      rw [h2] at h
      simp only [cond_false] at h
      cases h3 : Nat.beq f 258 with
      | true =>
        rw [h3] at h
        obtain rfl := Option.some.inj h
        obtain rfl := Nat.eq_of_beq_eq_true h3
        exact sorted_fn
      | false => rw [h3] at h; cases h
def xts (f : FuncId) : Option (List Value → Option Value) := cond (Nat.beq f 223) (some xSame) (cond (Nat.beq f 455) (some xIndexByte) (cond (Nat.beq f 459) (some xCmp) none))
theorem xts_ok : XtOk Tryz.prog xts := fun f g h => by
  unfold xts at h
  cases h1 : Nat.beq f 223 with
  | true =>
    rw [h1] at h
    obtain rfl := Option.some.inj h
    obtain rfl := Nat.eq_of_beq_eq_true h1
    exact fun l v hg ρ us w hl => xSame_ok ⟨Tryz.f223, Tryz.func223, by kernel_rfl, by kernel_rfl, by kernel_rfl, by kernel_rfl⟩ hg hl
  | false =>
    rw [h1] at h
    simp only [cond_false] at h
    cases h2 : Nat.beq f 455 with
    | true =>
      rw [h2] at h
      obtain rfl := Option.some.inj h
      obtain rfl := Nat.eq_of_beq_eq_true h2
      exact fun l v hg ρ us w hl => xIndexByte_ok ⟨Tryz.f455, Tryz.func455, by kernel_rfl, by kernel_rfl, by kernel_rfl, by kernel_rfl⟩ hg hl
    | false =>
      rw [h2] at h
      simp only [cond_false] at h
      cases h3 : Nat.beq f 459 with
      | true =>
        rw [h3] at h
        obtain rfl := Option.some.inj h
        obtain rfl := Nat.eq_of_beq_eq_true h3
        exact fun l v hg ρ us w hl => xCmp_ok ⟨Tryz.f459, Tryz.func459, by kernel_rfl, by kernel_rfl, by kernel_rfl, by kernel_rfl⟩ hg hl
      | false => rw [h3] at h; cases h
end Go.Proofs.YtcfekhcdadldmaaGreatDoor
