/-
  slices.Sorted over a map's keys: where its functions and types stand in this program.
-/
import Derived.Shelf.SlIter.Nil
import Derived.Shelf.SortM.Plain
import Derived.Shelf.SortM.SortNone
import Derived.Test.YtphpljmcfkicbaaGreatDoorProg
import Derived.Test.YtphpljmcfkicbaaGreatDoorAmAs
import Derived.Test.YtphpljmcfkicbaaGreatDoorRVal
namespace Go.Proofs.YtphpljmcfkicbaaGreatDoor
open Go Go.RowKit Go.Maps Go.Sort Go.Shelf Go.Proofs Am
def keys0_ren : Go.Shelf.Ren := ⟨fun | 10 => 276 | n => n, fun | 33 => 112 | 23 => 64 | 0 => 0 | 4 => 4 | 26 => 9 | 3 => 3 | n => n, fun | n => n⟩
theorem keys0 : Go.Proofs.SlLaysZ.n10 Tryz.prog keys0_ren := {
  mixed := by kernel_rfl
  f10 := ⟨Tryz.f276.name, by decide, Tryz.func276.trans (congrArg some (by kernel_rfl))⟩
  t0 := Tryz.underlying0
  a0 := Tryz.isAgg0
  z0 := Tryz.sizeOf0
  v0 := Tryz.zeroValue0
  t4 := Tryz.underlying4
  a4 := Tryz.isAgg4
  z4 := Tryz.sizeOf4
  v4 := Tryz.zeroValue4
  t23 := Tryz.underlying64
  a23 := Tryz.isAgg64
  z23 := Tryz.sizeOf64
  v23 := Tryz.zeroValue64
  t26 := Tryz.underlying9
  a26 := Tryz.isAgg9
  z26 := Tryz.sizeOf9
  v26 := Tryz.zeroValue9
  t33 := Tryz.underlying112
  a33 := Tryz.isAgg112
  z33 := Tryz.sizeOf112
  v33 := Tryz.zeroValue112 }
def keys1_ren : Go.Shelf.Ren := ⟨fun | 10 => 455 | n => n, fun | 33 => 112 | 23 => 514 | 0 => 0 | 4 => 4 | 26 => 9 | 3 => 577 | n => n, fun | n => n⟩
theorem keys1 : Go.Proofs.SlLaysZ.n10 Tryz.prog keys1_ren := {
  mixed := by kernel_rfl
  f10 := ⟨Tryz.f455.name, by decide, Tryz.func455.trans (congrArg some (by kernel_rfl))⟩
  t0 := Tryz.underlying0
  a0 := Tryz.isAgg0
  z0 := Tryz.sizeOf0
  v0 := Tryz.zeroValue0
  t4 := Tryz.underlying4
  a4 := Tryz.isAgg4
  z4 := Tryz.sizeOf4
  v4 := Tryz.zeroValue4
  t23 := Tryz.underlying514
  a23 := Tryz.isAgg514
  z23 := Tryz.sizeOf514
  v23 := Tryz.zeroValue514
  t26 := Tryz.underlying9
  a26 := Tryz.isAgg9
  z26 := Tryz.sizeOf9
  v26 := Tryz.zeroValue9
  t33 := Tryz.underlying112
  a33 := Tryz.isAgg112
  z33 := Tryz.sizeOf112
  v33 := Tryz.zeroValue112 }
def sortedA_ren : Go.Shelf.Ren := ⟨fun | 6 => 204 | 8 => 247 | 9 => 248 | 11 => 291 | 13 => 293 | 12 => 292 | 23 => 348 | 24 => 349 | 14 => 340 | 15 => 341 | 16 => 342 | 17 => 343 | 18 => 344 | 19 => 345 | 20 => 250 | 21 => 346 | 22 => 347 | 25 => 392 | 26 => 393 | 27 => 394 | 28 => 395 | 29 => 396 | 30 => 294 | 31 => 425 | n => n, fun | 26 => 9 | 28 => 405 | 24 => 48 | 0 => 0 | 3 => 3 | 37 => 461 | 48 => 541 | 50 => 433 | 4 => 4 | 40 => 563 | 39 => 562 | 45 => 30 | 5 => 5 | 9 => 9 | 51 => 615 | 55 => 619 | 57 => 643 | 58 => 644 | 33 => 112 | n => n, fun | n => n⟩
theorem sortedA : Go.Proofs.SlLaysZ.n6 Tryz.prog sortedA_ren := {
  mixed := by kernel_rfl
  f6 := ⟨Tryz.f204.name, by decide, Tryz.func204.trans (congrArg some (by kernel_rfl))⟩
  f8 := ⟨Tryz.f247.name, by decide, Tryz.func247.trans (congrArg some (by kernel_rfl))⟩
  f11 := ⟨Tryz.f291.name, by decide, Tryz.func291.trans (congrArg some (by kernel_rfl))⟩
  t0 := Tryz.underlying0
  a0 := Tryz.isAgg0
  z0 := Tryz.sizeOf0
  v0 := Tryz.zeroValue0
  t24 := Tryz.underlying48
  a24 := Tryz.isAgg48
  z24 := Tryz.sizeOf48
  v24 := Tryz.zeroValue48
  t26 := Tryz.underlying9
  a26 := Tryz.isAgg9
  z26 := Tryz.sizeOf9
  v26 := Tryz.zeroValue9
  t28 := Tryz.underlying405
  a28 := Tryz.isAgg405
  z28 := Tryz.sizeOf405
  v28 := Tryz.zeroValue405
  i26 := by kernel_rfl }
def sortA_ren : Go.Shelf.Ren := ⟨fun | 6 => 248 | 8 => 293 | 9 => 292 | 19 => 348 | 20 => 349 | 21 => 340 | 22 => 341 | 23 => 342 | 24 => 343 | 25 => 344 | 26 => 345 | 27 => 250 | 28 => 346 | 29 => 347 | 36 => 392 | 31 => 393 | 32 => 394 | 37 => 395 | 38 => 396 | 39 => 294 | 41 => 425 | n => n, fun | 27 => 48 | 29 => 9 | 3 => 3 | 32 => 461 | 26 => 48 | 0 => 0 | 44 => 541 | 46 => 433 | 4 => 4 | 36 => 563 | 35 => 562 | 41 => 30 | 5 => 5 | 9 => 9 | 53 => 615 | 57 => 619 | 63 => 643 | 64 => 644 | n => n, fun | n => n⟩
theorem sortA : Go.Proofs.SlLaysM.n6 Tryz.prog sortA_ren := {
  mixed := by kernel_rfl
  f6 := ⟨Tryz.f248.name, by decide, Tryz.func248.trans (congrArg some (by kernel_rfl))⟩
  f8 := Tryz.func293.trans (congrArg some (by kernel_rfl))
  f9 := ⟨Tryz.f292.name, by decide, Tryz.func292.trans (congrArg some (by kernel_rfl))⟩
  f19 := Tryz.func348.trans (congrArg some (by kernel_rfl))
  f20 := Tryz.func349.trans (congrArg some (by kernel_rfl))
  f21 := ⟨Tryz.f340.name, by decide, Tryz.func340.trans (congrArg some (by kernel_rfl))⟩
  f22 := ⟨Tryz.f341.name, by decide, Tryz.func341.trans (congrArg some (by kernel_rfl))⟩
  f23 := ⟨Tryz.f342.name, by decide, Tryz.func342.trans (congrArg some (by kernel_rfl))⟩
  f24 := ⟨Tryz.f343.name, by decide, Tryz.func343.trans (congrArg some (by kernel_rfl))⟩
  f25 := ⟨Tryz.f344.name, by decide, Tryz.func344.trans (congrArg some (by kernel_rfl))⟩
  f26 := ⟨Tryz.f345.name, by decide, Tryz.func345.trans (congrArg some (by kernel_rfl))⟩
  f27 := ⟨Tryz.f250.name, by decide, Tryz.func250.trans (congrArg some (by kernel_rfl))⟩
  f28 := ⟨Tryz.f346.name, by decide, Tryz.func346.trans (congrArg some (by kernel_rfl))⟩
  f29 := ⟨Tryz.f347.name, by decide, Tryz.func347.trans (congrArg some (by kernel_rfl))⟩
  f31 := Tryz.func393.trans (congrArg some (by kernel_rfl))
  f32 := Tryz.func394.trans (congrArg some (by kernel_rfl))
  f36 := ⟨Tryz.f392.name, by decide, Tryz.func392.trans (congrArg some (by kernel_rfl))⟩
  f37 := ⟨Tryz.f395.name, by decide, Tryz.func395.trans (congrArg some (by kernel_rfl))⟩
  f38 := ⟨Tryz.f396.name, by decide, Tryz.func396.trans (congrArg some (by kernel_rfl))⟩
  f39 := ⟨Tryz.f294.name, by decide, Tryz.func294.trans (congrArg some (by kernel_rfl))⟩
  f41 := ⟨Tryz.f425.name, by decide, Tryz.func425.trans (congrArg some (by kernel_rfl))⟩
  t0 := Tryz.underlying0
  a0 := Tryz.isAgg0
  z0 := Tryz.sizeOf0
  v0 := Tryz.zeroValue0
  t3 := Tryz.underlying3
  a3 := Tryz.isAgg3
  z3 := Tryz.sizeOf3
  v3 := Tryz.zeroValue3
  t4 := Tryz.underlying4
  a4 := Tryz.isAgg4
  z4 := Tryz.sizeOf4
  v4 := Tryz.zeroValue4
  t5 := Tryz.underlying5
  a5 := Tryz.isAgg5
  z5 := Tryz.sizeOf5
  v5 := Tryz.zeroValue5
  t9 := Tryz.underlying9
  a9 := Tryz.isAgg9
  z9 := Tryz.sizeOf9
  v9 := Tryz.zeroValue9
  t26 := Tryz.underlying48
  a26 := Tryz.isAgg48
  z26 := Tryz.sizeOf48
  v26 := Tryz.zeroValue48
  t27 := Tryz.underlying48
  a27 := Tryz.isAgg48
  z27 := Tryz.sizeOf48
  v27 := Tryz.zeroValue48
  t29 := Tryz.underlying9
  a29 := Tryz.isAgg9
  z29 := Tryz.sizeOf9
  v29 := Tryz.zeroValue9
  t32 := Tryz.underlying461
  a32 := Tryz.isAgg461
  z32 := Tryz.sizeOf461
  v32 := Tryz.zeroValue461
  t35 := Tryz.underlying562
  a35 := Tryz.isAgg562
  z35 := Tryz.sizeOf562
  v35 := Tryz.zeroValue562
  t36 := Tryz.underlying563
  a36 := Tryz.isAgg563
  z36 := Tryz.sizeOf563
  v36 := Tryz.zeroValue563
  t41 := Tryz.underlying30
  a41 := Tryz.isAgg30
  z41 := Tryz.sizeOf30
  v41 := Tryz.zeroValue30
  t44 := Tryz.underlying541
  a44 := Tryz.isAgg541
  z44 := Tryz.sizeOf541
  v44 := Tryz.zeroValue541
  t46 := Tryz.underlying433
  a46 := Tryz.isAgg433
  z46 := Tryz.sizeOf433
  v46 := Tryz.zeroValue433
  t53 := Tryz.underlying615
  a53 := Tryz.isAgg615
  z53 := Tryz.sizeOf615
  v53 := Tryz.zeroValue615
  t57 := Tryz.underlying619
  a57 := Tryz.isAgg619
  z57 := Tryz.sizeOf619
  v57 := Tryz.zeroValue619
  t63 := Tryz.underlying643
  a63 := Tryz.isAgg643
  z63 := Tryz.sizeOf643
  v63 := Tryz.zeroValue643
  t64 := Tryz.underlying644
  a64 := Tryz.isAgg644
  z64 := Tryz.sizeOf644
  v64 := Tryz.zeroValue644 }
theorem sortsA (m : Nat) : AnyZ.SortsIn Tryz.prog sortedA_ren Fence.wide m :=
  ⟨fun blk off cap ss W hH hblk hsz => callsIn_wide.2 (AnyM.slices_Sort_string sortA blk off cap ss W hH hblk hsz),
   fun p cap W => callsIn_wide.2 (AnyM.slices_Sort_string_none sortA p cap W)⟩
def keyFns : List FuncId := [276, 455]
theorem keyFns_ok : ∀ g, hasN keyFns g = true → ∃ ren2 : Ren, ren2.f 10 = g ∧ SlLaysZ.n10 Tryz.prog ren2 ∧ (fnOfP Tryz.prog g).isSome = true := fun g h => by
  have h := hasN_iff.1 h
  simp only [keyFns, List.mem_cons, List.not_mem_nil, or_false] at h
  rcases h with rfl | rfl
  · exact ⟨keys0_ren, rfl, keys0, by kernel_rfl⟩
  · exact ⟨keys1_ren, rfl, keys1, by kernel_rfl⟩
def valFns : List FuncId := [249]
theorem valFns_ok : ∀ g, hasN valFns g = true → ValsOk Tryz.prog g := fun g h => by
  have h := hasN_iff.1 h
  simp only [valFns, List.mem_cons, List.not_mem_nil, or_false] at h
  subst h
  exact vals_ok
theorem sorted_fn : CallOk Tryz.prog (fun f' args s k => cond (Nat.beq f' 204) (xSortedB valFns keyFns (sortedA_ren.t 26) args s k) false) := sortedB_ok sortedA keyFns_ok valFns_ok sortsA (by kernel_rfl) (by kernel_rfl)
end Go.Proofs.YtphpljmcfkicbaaGreatDoor
