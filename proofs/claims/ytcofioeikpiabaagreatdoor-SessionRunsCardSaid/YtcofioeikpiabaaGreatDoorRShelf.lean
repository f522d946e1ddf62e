/-
  slices.Sorted over a map's keys: where its functions and types stand in this program.
-/
import Derived.Shelf.SlIter.Nil
import Derived.Shelf.SortM.Plain
import Derived.Shelf.SortM.SortNone
import Derived.Test.YtcofioeikpiabaaGreatDoorProg
import Derived.Test.YtcofioeikpiabaaGreatDoorAmAs
import Derived.Test.YtcofioeikpiabaaGreatDoorRVal
namespace Go.Proofs.YtcofioeikpiabaaGreatDoor
open Go Go.RowKit Go.Maps Go.Sort Go.Shelf Go.Proofs Am
def keys0_ren : Go.Shelf.Ren := ⟨fun | 10 => 358 | n => n, fun | 33 => 528 | 23 => 315 | 0 => 0 | 4 => 4 | 26 => 9 | 3 => 495 | n => n, fun | n => n⟩
theorem keys0 : Go.Proofs.SlLaysZ.n10 Tryz.prog keys0_ren := {
  mixed := by kernel_rfl
  f10 := ⟨Tryz.f358.name, by decide, Tryz.func358.trans (congrArg some (by kernel_rfl))⟩
  t0 := Tryz.underlying0
  a0 := Tryz.isAgg0
  z0 := Tryz.sizeOf0
  v0 := Tryz.zeroValue0
  t4 := Tryz.underlying4
  a4 := Tryz.isAgg4
  z4 := Tryz.sizeOf4
  v4 := Tryz.zeroValue4
  t23 := Tryz.underlying315
  a23 := Tryz.isAgg315
  z23 := Tryz.sizeOf315
  v23 := Tryz.zeroValue315
  t26 := Tryz.underlying9
  a26 := Tryz.isAgg9
  z26 := Tryz.sizeOf9
  v26 := Tryz.zeroValue9
  t33 := Tryz.underlying528
  a33 := Tryz.isAgg528
  z33 := Tryz.sizeOf528
  v33 := Tryz.zeroValue528 }
def keys1_ren : Go.Shelf.Ren := ⟨fun | 10 => 432 | n => n, fun | 33 => 528 | 23 => 251 | 0 => 0 | 4 => 4 | 26 => 9 | 3 => 3 | n => n, fun | n => n⟩
theorem keys1 : Go.Proofs.SlLaysZ.n10 Tryz.prog keys1_ren := {
  mixed := by kernel_rfl
  f10 := ⟨Tryz.f432.name, by decide, Tryz.func432.trans (congrArg some (by kernel_rfl))⟩
  t0 := Tryz.underlying0
  a0 := Tryz.isAgg0
  z0 := Tryz.sizeOf0
  v0 := Tryz.zeroValue0
  t4 := Tryz.underlying4
  a4 := Tryz.isAgg4
  z4 := Tryz.sizeOf4
  v4 := Tryz.zeroValue4
  t23 := Tryz.underlying251
  a23 := Tryz.isAgg251
  z23 := Tryz.sizeOf251
  v23 := Tryz.zeroValue251
  t26 := Tryz.underlying9
  a26 := Tryz.isAgg9
  z26 := Tryz.sizeOf9
  v26 := Tryz.zeroValue9
  t33 := Tryz.underlying528
  a33 := Tryz.isAgg528
  z33 := Tryz.sizeOf528
  v33 := Tryz.zeroValue528 }
def sortedA_ren : Go.Shelf.Ren := ⟨fun | 6 => 255 | 8 => 357 | 9 => 259 | 11 => 440 | 13 => 362 | 12 => 361 | 23 => 449 | 24 => 271 | 14 => 441 | 15 => 442 | 16 => 443 | 17 => 444 | 18 => 445 | 19 => 446 | 20 => 363 | 21 => 447 | 22 => 448 | 25 => 520 | 26 => 521 | 27 => 522 | 28 => 523 | 29 => 524 | 30 => 450 | 31 => 582 | n => n, fun | 26 => 9 | 28 => 491 | 24 => 24 | 0 => 0 | 3 => 3 | 37 => 215 | 48 => 512 | 50 => 351 | 4 => 4 | 40 => 726 | 39 => 725 | 45 => 158 | 5 => 5 | 9 => 9 | 51 => 832 | 55 => 829 | 57 => 885 | 58 => 191 | 33 => 528 | n => n, fun | n => n⟩
theorem sortedA : Go.Proofs.SlLaysZ.n6 Tryz.prog sortedA_ren := {
  mixed := by kernel_rfl
  f6 := ⟨Tryz.f255.name, by decide, Tryz.func255.trans (congrArg some (by kernel_rfl))⟩
  f8 := ⟨Tryz.f357.name, by decide, Tryz.func357.trans (congrArg some (by kernel_rfl))⟩
  f11 := ⟨Tryz.f440.name, by decide, Tryz.func440.trans (congrArg some (by kernel_rfl))⟩
  t0 := Tryz.underlying0
  a0 := Tryz.isAgg0
  z0 := Tryz.sizeOf0
  v0 := Tryz.zeroValue0
  t24 := Tryz.underlying24
  a24 := Tryz.isAgg24
  z24 := Tryz.sizeOf24
  v24 := Tryz.zeroValue24
  t26 := Tryz.underlying9
  a26 := Tryz.isAgg9
  z26 := Tryz.sizeOf9
  v26 := Tryz.zeroValue9
  t28 := Tryz.underlying491
  a28 := Tryz.isAgg491
  z28 := Tryz.sizeOf491
  v28 := Tryz.zeroValue491
  i26 := by kernel_rfl }
def sortA_ren : Go.Shelf.Ren := ⟨fun | 6 => 259 | 8 => 362 | 9 => 361 | 19 => 449 | 20 => 271 | 21 => 441 | 22 => 442 | 23 => 443 | 24 => 444 | 25 => 445 | 26 => 446 | 27 => 363 | 28 => 447 | 29 => 448 | 36 => 520 | 31 => 521 | 32 => 522 | 37 => 523 | 38 => 524 | 39 => 450 | 41 => 582 | n => n, fun | 27 => 24 | 29 => 9 | 3 => 3 | 32 => 215 | 26 => 24 | 0 => 0 | 44 => 512 | 46 => 351 | 4 => 4 | 36 => 726 | 35 => 725 | 41 => 158 | 5 => 5 | 9 => 9 | 53 => 832 | 57 => 829 | 63 => 885 | 64 => 191 | n => n, fun | n => n⟩
theorem sortA : Go.Proofs.SlLaysM.n6 Tryz.prog sortA_ren := {
  mixed := by kernel_rfl
  f6 := ⟨Tryz.f259.name, by decide, Tryz.func259.trans (congrArg some (by kernel_rfl))⟩
  f8 := Tryz.func362.trans (congrArg some (by kernel_rfl))
  f9 := ⟨Tryz.f361.name, by decide, Tryz.func361.trans (congrArg some (by kernel_rfl))⟩
  f19 := Tryz.func449.trans (congrArg some (by kernel_rfl))
  f20 := Tryz.func271.trans (congrArg some (by kernel_rfl))
  f21 := ⟨Tryz.f441.name, by decide, Tryz.func441.trans (congrArg some (by kernel_rfl))⟩
  f22 := ⟨Tryz.f442.name, by decide, Tryz.func442.trans (congrArg some (by kernel_rfl))⟩
  f23 := ⟨Tryz.f443.name, by decide, Tryz.func443.trans (congrArg some (by kernel_rfl))⟩
  f24 := ⟨Tryz.f444.name, by decide, Tryz.func444.trans (congrArg some (by kernel_rfl))⟩
  f25 := ⟨Tryz.f445.name, by decide, Tryz.func445.trans (congrArg some (by kernel_rfl))⟩
  f26 := ⟨Tryz.f446.name, by decide, Tryz.func446.trans (congrArg some (by kernel_rfl))⟩
  f27 := ⟨Tryz.f363.name, by decide, Tryz.func363.trans (congrArg some (by kernel_rfl))⟩
  f28 := ⟨Tryz.f447.name, by decide, Tryz.func447.trans (congrArg some (by kernel_rfl))⟩
  f29 := ⟨Tryz.f448.name, by decide, Tryz.func448.trans (congrArg some (by kernel_rfl))⟩
  f31 := Tryz.func521.trans (congrArg some (by kernel_rfl))
  f32 := Tryz.func522.trans (congrArg some (by kernel_rfl))
  f36 := ⟨Tryz.f520.name, by decide, Tryz.func520.trans (congrArg some (by kernel_rfl))⟩
  f37 := ⟨Tryz.f523.name, by decide, Tryz.func523.trans (congrArg some (by kernel_rfl))⟩
  f38 := ⟨Tryz.f524.name, by decide, Tryz.func524.trans (congrArg some (by kernel_rfl))⟩
  f39 := ⟨Tryz.f450.name, by decide, Tryz.func450.trans (congrArg some (by kernel_rfl))⟩
  f41 := ⟨Tryz.f582.name, by decide, Tryz.func582.trans (congrArg some (by kernel_rfl))⟩
  t0 := Tryz.underlying0
  a0 := Tryz.isAgg0
  z0 := Tryz.sizeOf0
  v0 := Tryz.zeroValue0
  t3 := Tryz.underlying3
  a3 := Tryz.isAgg3
  z3 := Tryz.sizeOf3
  v3 := Tryz.zeroValue3
  t4 := Tryz.underlying4
  a4 := Tryz.isAgg4
  z4 := Tryz.sizeOf4
  v4 := Tryz.zeroValue4
  t5 := Tryz.underlying5
  a5 := Tryz.isAgg5
  z5 := Tryz.sizeOf5
  v5 := Tryz.zeroValue5
  t9 := Tryz.underlying9
  a9 := Tryz.isAgg9
  z9 := Tryz.sizeOf9
  v9 := Tryz.zeroValue9
  t26 := Tryz.underlying24
  a26 := Tryz.isAgg24
  z26 := Tryz.sizeOf24
  v26 := Tryz.zeroValue24
  t27 := Tryz.underlying24
  a27 := Tryz.isAgg24
  z27 := Tryz.sizeOf24
  v27 := Tryz.zeroValue24
  t29 := Tryz.underlying9
  a29 := Tryz.isAgg9
  z29 := Tryz.sizeOf9
  v29 := Tryz.zeroValue9
  t32 := Tryz.underlying215
  a32 := Tryz.isAgg215
  z32 := Tryz.sizeOf215
  v32 := Tryz.zeroValue215
  t35 := Tryz.underlying725
  a35 := Tryz.isAgg725
  z35 := Tryz.sizeOf725
  v35 := Tryz.zeroValue725
  t36 := Tryz.underlying726
  a36 := Tryz.isAgg726
  z36 := Tryz.sizeOf726
  v36 := Tryz.zeroValue726
  t41 := Tryz.underlying158
  a41 := Tryz.isAgg158
  z41 := Tryz.sizeOf158
  v41 := Tryz.zeroValue158
  t44 := Tryz.underlying512
  a44 := Tryz.isAgg512
  z44 := Tryz.sizeOf512
  v44 := Tryz.zeroValue512
  t46 := Tryz.underlying351
  a46 := Tryz.isAgg351
  z46 := Tryz.sizeOf351
  v46 := Tryz.zeroValue351
  t53 := Tryz.underlying832
  a53 := Tryz.isAgg832
  z53 := Tryz.sizeOf832
  v53 := Tryz.zeroValue832
  t57 := Tryz.underlying829
  a57 := Tryz.isAgg829
  z57 := Tryz.sizeOf829
  v57 := Tryz.zeroValue829
  t63 := Tryz.underlying885
  a63 := Tryz.isAgg885
  z63 := Tryz.sizeOf885
  v63 := Tryz.zeroValue885
  t64 := Tryz.underlying191
  a64 := Tryz.isAgg191
  z64 := Tryz.sizeOf191
  v64 := Tryz.zeroValue191 }
theorem sortsA (m : Nat) : AnyZ.SortsIn Tryz.prog sortedA_ren Fence.wide m :=
  ⟨fun blk off cap ss W hH hblk hsz => callsIn_wide.2 (AnyM.slices_Sort_string sortA blk off cap ss W hH hblk hsz),
   fun p cap W => callsIn_wide.2 (AnyM.slices_Sort_string_none sortA p cap W)⟩
def keyFns : List FuncId := [358, 432]
theorem keyFns_ok : ∀ g, hasN keyFns g = true → ∃ ren2 : Ren, ren2.f 10 = g ∧ SlLaysZ.n10 Tryz.prog ren2 ∧ (fnOfP Tryz.prog g).isSome = true := fun g h => by
  have h := hasN_iff.1 h
  simp only [keyFns, List.mem_cons, List.not_mem_nil, or_false] at h
  rcases h with rfl | rfl
  · exact ⟨keys0_ren, rfl, keys0, by kernel_rfl⟩
  · exact ⟨keys1_ren, rfl, keys1, by kernel_rfl⟩
def valFns : List FuncId := [633]
theorem valFns_ok : ∀ g, hasN valFns g = true → ValsOk Tryz.prog g := fun g h => by
  have h := hasN_iff.1 h
  simp only [valFns, List.mem_cons, List.not_mem_nil, or_false] at h
  subst h
  exact vals_ok
theorem sorted_fn : CallOk Tryz.prog (fun f' args s k => cond (Nat.beq f' 255) (xSortedB valFns keyFns (sortedA_ren.t 26) args s k) false) := sortedB_ok sortedA keyFns_ok valFns_ok sortsA (by kernel_rfl) (by kernel_rfl)
end Go.Proofs.YtcofioeikpiabaaGreatDoor
