/-
  slices.Sorted over a map's keys: where its functions and types stand in this program.
-/
import Derived.Shelf.SlIter.Nil
import Derived.Shelf.SortM.Plain
import Derived.Shelf.SortM.SortNone
import Derived.Test.YtipcccigigpbcaaGreatDoorProg
import Derived.Test.YtipcccigigpbcaaGreatDoorAmAs
namespace Go.Proofs.YtipcccigigpbcaaGreatDoor
open Go Go.RowKit Go.Maps Go.Sort Go.Shelf Go.Proofs Am
def keys0_ren : Go.Shelf.Ren := ⟨fun | 10 => 291 | n => n, fun | 33 => 99 | 23 => 127 | 0 => 0 | 4 => 4 | 26 => 9 | 3 => 3 | n => n, fun | n => n⟩
theorem keys0 : Go.Proofs.SlLaysZ.n10 Tryz.prog keys0_ren := {
  mixed := by kernel_rfl
  f10 := ⟨Tryz.f291.name, by decide, Tryz.func291.trans (congrArg some (by kernel_rfl))⟩
  t0 := Tryz.underlying0
  a0 := Tryz.isAgg0
  z0 := Tryz.sizeOf0
  v0 := Tryz.zeroValue0
  t4 := Tryz.underlying4
  a4 := Tryz.isAgg4
  z4 := Tryz.sizeOf4
  v4 := Tryz.zeroValue4
  t23 := Tryz.underlying127
  a23 := Tryz.isAgg127
  z23 := Tryz.sizeOf127
  v23 := Tryz.zeroValue127
  t26 := Tryz.underlying9
  a26 := Tryz.isAgg9
  z26 := Tryz.sizeOf9
  v26 := Tryz.zeroValue9
  t33 := Tryz.underlying99
  a33 := Tryz.isAgg99
  z33 := Tryz.sizeOf99
  v33 := Tryz.zeroValue99 }
def keys1_ren : Go.Shelf.Ren := ⟨fun | 10 => 468 | n => n, fun | 33 => 99 | 23 => 579 | 0 => 0 | 4 => 4 | 26 => 9 | 3 => 605 | n => n, fun | n => n⟩
theorem keys1 : Go.Proofs.SlLaysZ.n10 Tryz.prog keys1_ren := {
  mixed := by kernel_rfl
  f10 := ⟨Tryz.f468.name, by decide, Tryz.func468.trans (congrArg some (by kernel_rfl))⟩
  t0 := Tryz.underlying0
  a0 := Tryz.isAgg0
  z0 := Tryz.sizeOf0
  v0 := Tryz.zeroValue0
  t4 := Tryz.underlying4
  a4 := Tryz.isAgg4
  z4 := Tryz.sizeOf4
  v4 := Tryz.zeroValue4
  t23 := Tryz.underlying579
  a23 := Tryz.isAgg579
  z23 := Tryz.sizeOf579
  v23 := Tryz.zeroValue579
  t26 := Tryz.underlying9
  a26 := Tryz.isAgg9
  z26 := Tryz.sizeOf9
  v26 := Tryz.zeroValue9
  t33 := Tryz.underlying99
  a33 := Tryz.isAgg99
  z33 := Tryz.sizeOf99
  v33 := Tryz.zeroValue99 }
def sortedA_ren : Go.Shelf.Ren := ⟨fun | 6 => 247 | 8 => 290 | 9 => 217 | 11 => 353 | 13 => 260 | 12 => 259 | 23 => 319 | 24 => 306 | 14 => 310 | 15 => 311 | 16 => 312 | 17 => 313 | 18 => 314 | 19 => 315 | 20 => 316 | 21 => 317 | 22 => 318 | 25 => 366 | 26 => 367 | 27 => 368 | 28 => 369 | 29 => 370 | 30 => 371 | 31 => 405 | n => n, fun | 26 => 9 | 28 => 413 | 24 => 23 | 0 => 0 | 3 => 3 | 37 => 430 | 48 => 418 | 50 => 394 | 4 => 4 | 40 => 486 | 39 => 485 | 45 => 221 | 5 => 5 | 9 => 9 | 51 => 535 | 55 => 539 | 57 => 573 | 58 => 574 | 33 => 99 | n => n, fun | n => n⟩
theorem sortedA : Go.Proofs.SlLaysZ.n6 Tryz.prog sortedA_ren := {
  mixed := by kernel_rfl
  f6 := ⟨Tryz.f247.name, by decide, Tryz.func247.trans (congrArg some (by kernel_rfl))⟩
  f8 := ⟨Tryz.f290.name, by decide, Tryz.func290.trans (congrArg some (by kernel_rfl))⟩
  f11 := ⟨Tryz.f353.name, by decide, Tryz.func353.trans (congrArg some (by kernel_rfl))⟩
  t0 := Tryz.underlying0
  a0 := Tryz.isAgg0
  z0 := Tryz.sizeOf0
  v0 := Tryz.zeroValue0
  t24 := Tryz.underlying23
  a24 := Tryz.isAgg23
  z24 := Tryz.sizeOf23
  v24 := Tryz.zeroValue23
  t26 := Tryz.underlying9
  a26 := Tryz.isAgg9
  z26 := Tryz.sizeOf9
  v26 := Tryz.zeroValue9
  t28 := Tryz.underlying413
  a28 := Tryz.isAgg413
  z28 := Tryz.sizeOf413
  v28 := Tryz.zeroValue413
  i26 := by kernel_rfl }
def sortA_ren : Go.Shelf.Ren := ⟨fun | 6 => 217 | 8 => 260 | 9 => 259 | 19 => 319 | 20 => 306 | 21 => 310 | 22 => 311 | 23 => 312 | 24 => 313 | 25 => 314 | 26 => 315 | 27 => 316 | 28 => 317 | 29 => 318 | 36 => 366 | 31 => 367 | 32 => 368 | 37 => 369 | 38 => 370 | 39 => 371 | 41 => 405 | n => n, fun | 27 => 23 | 29 => 9 | 3 => 3 | 32 => 430 | 26 => 23 | 0 => 0 | 44 => 418 | 46 => 394 | 4 => 4 | 36 => 486 | 35 => 485 | 41 => 221 | 5 => 5 | 9 => 9 | 53 => 535 | 57 => 539 | 63 => 573 | 64 => 574 | n => n, fun | n => n⟩
theorem sortA : Go.Proofs.SlLaysM.n6 Tryz.prog sortA_ren := {
  mixed := by kernel_rfl
  f6 := ⟨Tryz.f217.name, by decide, Tryz.func217.trans (congrArg some (by kernel_rfl))⟩
  f8 := Tryz.func260.trans (congrArg some (by kernel_rfl))
  f9 := ⟨Tryz.f259.name, by decide, Tryz.func259.trans (congrArg some (by kernel_rfl))⟩
  f19 := Tryz.func319.trans (congrArg some (by kernel_rfl))
  f20 := Tryz.func306.trans (congrArg some (by kernel_rfl))
  f21 := ⟨Tryz.f310.name, by decide, Tryz.func310.trans (congrArg some (by kernel_rfl))⟩
  f22 := ⟨Tryz.f311.name, by decide, Tryz.func311.trans (congrArg some (by kernel_rfl))⟩
  f23 := ⟨Tryz.f312.name, by decide, Tryz.func312.trans (congrArg some (by kernel_rfl))⟩
  f24 := ⟨Tryz.f313.name, by decide, Tryz.func313.trans (congrArg some (by kernel_rfl))⟩
  f25 := ⟨Tryz.f314.name, by decide, Tryz.func314.trans (congrArg some (by kernel_rfl))⟩
  f26 := ⟨Tryz.f315.name, by decide, Tryz.func315.trans (congrArg some (by kernel_rfl))⟩
  f27 := ⟨Tryz.f316.name, by decide, Tryz.func316.trans (congrArg some (by kernel_rfl))⟩
  f28 := ⟨Tryz.f317.name, by decide, Tryz.func317.trans (congrArg some (by kernel_rfl))⟩
  f29 := ⟨Tryz.f318.name, by decide, Tryz.func318.trans (congrArg some (by kernel_rfl))⟩
  f31 := Tryz.func367.trans (congrArg some (by kernel_rfl))
  f32 := Tryz.func368.trans (congrArg some (by kernel_rfl))
  f36 := ⟨Tryz.f366.name, by decide, Tryz.func366.trans (congrArg some (by kernel_rfl))⟩
  f37 := ⟨Tryz.f369.name, by decide, Tryz.func369.trans (congrArg some (by kernel_rfl))⟩
  f38 := ⟨Tryz.f370.name, by decide, Tryz.func370.trans (congrArg some (by kernel_rfl))⟩
  f39 := ⟨Tryz.f371.name, by decide, Tryz.func371.trans (congrArg some (by kernel_rfl))⟩
  f41 := ⟨Tryz.f405.name, by decide, Tryz.func405.trans (congrArg some (by kernel_rfl))⟩
  t0 := Tryz.underlying0
  a0 := Tryz.isAgg0
  z0 := Tryz.sizeOf0
  v0 := Tryz.zeroValue0
  t3 := Tryz.underlying3
  a3 := Tryz.isAgg3
  z3 := Tryz.sizeOf3
  v3 := Tryz.zeroValue3
  t4 := Tryz.underlying4
  a4 := Tryz.isAgg4
  z4 := Tryz.sizeOf4
  v4 := Tryz.zeroValue4
  t5 := Tryz.underlying5
  a5 := Tryz.isAgg5
  z5 := Tryz.sizeOf5
  v5 := Tryz.zeroValue5
  t9 := Tryz.underlying9
  a9 := Tryz.isAgg9
  z9 := Tryz.sizeOf9
  v9 := Tryz.zeroValue9
  t26 := Tryz.underlying23
  a26 := Tryz.isAgg23
  z26 := Tryz.sizeOf23
  v26 := Tryz.zeroValue23
  t27 := Tryz.underlying23
  a27 := Tryz.isAgg23
  z27 := Tryz.sizeOf23
  v27 := Tryz.zeroValue23
  t29 := Tryz.underlying9
  a29 := Tryz.isAgg9
  z29 := Tryz.sizeOf9
  v29 := Tryz.zeroValue9
  t32 := Tryz.underlying430
  a32 := Tryz.isAgg430
  z32 := Tryz.sizeOf430
  v32 := Tryz.zeroValue430
  t35 := Tryz.underlying485
  a35 := Tryz.isAgg485
  z35 := Tryz.sizeOf485
  v35 := Tryz.zeroValue485
  t36 := Tryz.underlying486
  a36 := Tryz.isAgg486
  z36 := Tryz.sizeOf486
  v36 := Tryz.zeroValue486
  t41 := Tryz.underlying221
  a41 := Tryz.isAgg221
  z41 := Tryz.sizeOf221
  v41 := Tryz.zeroValue221
  t44 := Tryz.underlying418
  a44 := Tryz.isAgg418
  z44 := Tryz.sizeOf418
  v44 := Tryz.zeroValue418
  t46 := Tryz.underlying394
  a46 := Tryz.isAgg394
  z46 := Tryz.sizeOf394
  v46 := Tryz.zeroValue394
  t53 := Tryz.underlying535
  a53 := Tryz.isAgg535
  z53 := Tryz.sizeOf535
  v53 := Tryz.zeroValue535
  t57 := Tryz.underlying539
  a57 := Tryz.isAgg539
  z57 := Tryz.sizeOf539
  v57 := Tryz.zeroValue539
  t63 := Tryz.underlying573
  a63 := Tryz.isAgg573
  z63 := Tryz.sizeOf573
  v63 := Tryz.zeroValue573
  t64 := Tryz.underlying574
  a64 := Tryz.isAgg574
  z64 := Tryz.sizeOf574
  v64 := Tryz.zeroValue574 }
theorem sortsA (m : Nat) : AnyZ.SortsIn Tryz.prog sortedA_ren Fence.wide m :=
  ⟨fun blk off cap ss W hH hblk hsz => callsIn_wide.2 (AnyM.slices_Sort_string sortA blk off cap ss W hH hblk hsz),
   fun p cap W => callsIn_wide.2 (AnyM.slices_Sort_string_none sortA p cap W)⟩
def keyFns : List FuncId := [291, 468]
theorem keyFns_ok : ∀ g, hasN keyFns g = true → ∃ ren2 : Ren, ren2.f 10 = g ∧ SlLaysZ.n10 Tryz.prog ren2 ∧ (fnOfP Tryz.prog g).isSome = true := fun g h => by
  have h := hasN_iff.1 h
  simp only [keyFns, List.mem_cons, List.not_mem_nil, or_false] at h
  rcases h with rfl | rfl
  · exact ⟨keys0_ren, rfl, keys0, by kernel_rfl⟩
  · exact ⟨keys1_ren, rfl, keys1, by kernel_rfl⟩
theorem sorted_fn : CallOk Tryz.prog (fun f' args s k => cond (Nat.beq f' 247) (xSorted keyFns (sortedA_ren.t 26) args s k) false) := sorted_ok sortedA keyFns_ok sortsA (by kernel_rfl) (by kernel_rfl)
end Go.Proofs.YtipcccigigpbcaaGreatDoor
