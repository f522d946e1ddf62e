/-
  slices.Sorted over a map's keys: where its functions and types stand in this program.
-/
import Derived.Shelf.SlIter.Nil
import Derived.Shelf.SortM.Plain
import Derived.Shelf.SortM.SortNone
import Derived.Test.YtoijoamkbjpihaaGreatDoorProg
import Derived.Test.YtoijoamkbjpihaaGreatDoorAmAs
namespace Go.Proofs.YtoijoamkbjpihaaGreatDoor
open Go Go.RowKit Go.Maps Go.Sort Go.Shelf Go.Proofs Am
def keys0_ren : Go.Shelf.Ren := ⟨fun | 10 => 243 | n => n, fun | 33 => 71 | 23 => 57 | 0 => 0 | 4 => 4 | 26 => 9 | 3 => 3 | n => n, fun | n => n⟩
theorem keys0 : Go.Proofs.SlLaysZ.n10 Tryz.prog keys0_ren := {
  mixed := by kernel_rfl
  f10 := ⟨Tryz.f243.name, by decide, Tryz.func243.trans (congrArg some (by kernel_rfl))⟩
  t0 := Tryz.underlying0
  a0 := Tryz.isAgg0
  z0 := Tryz.sizeOf0
  v0 := Tryz.zeroValue0
  t4 := Tryz.underlying4
  a4 := Tryz.isAgg4
  z4 := Tryz.sizeOf4
  v4 := Tryz.zeroValue4
  t23 := Tryz.underlying57
  a23 := Tryz.isAgg57
  z23 := Tryz.sizeOf57
  v23 := Tryz.zeroValue57
  t26 := Tryz.underlying9
  a26 := Tryz.isAgg9
  z26 := Tryz.sizeOf9
  v26 := Tryz.zeroValue9
  t33 := Tryz.underlying71
  a33 := Tryz.isAgg71
  z33 := Tryz.sizeOf71
  v33 := Tryz.zeroValue71 }
def keys1_ren : Go.Shelf.Ren := ⟨fun | 10 => 422 | n => n, fun | 33 => 71 | 23 => 528 | 0 => 0 | 4 => 4 | 26 => 9 | 3 => 557 | n => n, fun | n => n⟩
theorem keys1 : Go.Proofs.SlLaysZ.n10 Tryz.prog keys1_ren := {
  mixed := by kernel_rfl
  f10 := ⟨Tryz.f422.name, by decide, Tryz.func422.trans (congrArg some (by kernel_rfl))⟩
  t0 := Tryz.underlying0
  a0 := Tryz.isAgg0
  z0 := Tryz.sizeOf0
  v0 := Tryz.zeroValue0
  t4 := Tryz.underlying4
  a4 := Tryz.isAgg4
  z4 := Tryz.sizeOf4
  v4 := Tryz.zeroValue4
  t23 := Tryz.underlying528
  a23 := Tryz.isAgg528
  z23 := Tryz.sizeOf528
  v23 := Tryz.zeroValue528
  t26 := Tryz.underlying9
  a26 := Tryz.isAgg9
  z26 := Tryz.sizeOf9
  v26 := Tryz.zeroValue9
  t33 := Tryz.underlying71
  a33 := Tryz.isAgg71
  z33 := Tryz.sizeOf71
  v33 := Tryz.zeroValue71 }
def sortedA_ren : Go.Shelf.Ren := ⟨fun | 6 => 210 | 8 => 241 | 9 => 242 | 11 => 289 | 13 => 291 | 12 => 290 | 23 => 344 | 24 => 259 | 14 => 335 | 15 => 336 | 16 => 337 | 17 => 338 | 18 => 339 | 19 => 340 | 20 => 341 | 21 => 342 | 22 => 343 | 25 => 368 | 26 => 369 | 27 => 370 | 28 => 371 | 29 => 372 | 30 => 373 | 31 => 391 | n => n, fun | 26 => 9 | 28 => 353 | 24 => 43 | 0 => 0 | 3 => 3 | 37 => 394 | 48 => 408 | 50 => 329 | 4 => 4 | 40 => 474 | 39 => 473 | 45 => 162 | 5 => 5 | 9 => 9 | 51 => 500 | 55 => 504 | 57 => 523 | 58 => 29 | 33 => 71 | n => n, fun | n => n⟩
theorem sortedA : Go.Proofs.SlLaysZ.n6 Tryz.prog sortedA_ren := {
  mixed := by kernel_rfl
  f6 := ⟨Tryz.f210.name, by decide, Tryz.func210.trans (congrArg some (by kernel_rfl))⟩
  f8 := ⟨Tryz.f241.name, by decide, Tryz.func241.trans (congrArg some (by kernel_rfl))⟩
  f11 := ⟨Tryz.f289.name, by decide, Tryz.func289.trans (congrArg some (by kernel_rfl))⟩
  t0 := Tryz.underlying0
  a0 := Tryz.isAgg0
  z0 := Tryz.sizeOf0
  v0 := Tryz.zeroValue0
  t24 := Tryz.underlying43
  a24 := Tryz.isAgg43
  z24 := Tryz.sizeOf43
  v24 := Tryz.zeroValue43
  t26 := Tryz.underlying9
  a26 := Tryz.isAgg9
  z26 := Tryz.sizeOf9
  v26 := Tryz.zeroValue9
  t28 := Tryz.underlying353
  a28 := Tryz.isAgg353
  z28 := Tryz.sizeOf353
  v28 := Tryz.zeroValue353
  i26 := by kernel_rfl }
def sortA_ren : Go.Shelf.Ren := ⟨fun | 6 => 242 | 8 => 291 | 9 => 290 | 19 => 344 | 20 => 259 | 21 => 335 | 22 => 336 | 23 => 337 | 24 => 338 | 25 => 339 | 26 => 340 | 27 => 341 | 28 => 342 | 29 => 343 | 36 => 368 | 31 => 369 | 32 => 370 | 37 => 371 | 38 => 372 | 39 => 373 | 41 => 391 | n => n, fun | 27 => 43 | 29 => 9 | 3 => 3 | 32 => 394 | 26 => 43 | 0 => 0 | 44 => 408 | 46 => 329 | 4 => 4 | 36 => 474 | 35 => 473 | 41 => 162 | 5 => 5 | 9 => 9 | 53 => 500 | 57 => 504 | 63 => 523 | 64 => 29 | n => n, fun | n => n⟩
theorem sortA : Go.Proofs.SlLaysM.n6 Tryz.prog sortA_ren := {
  mixed := by kernel_rfl
  f6 := ⟨Tryz.f242.name, by decide, Tryz.func242.trans (congrArg some (by kernel_rfl))⟩
  f8 := Tryz.func291.trans (congrArg some (by kernel_rfl))
  f9 := ⟨Tryz.f290.name, by decide, Tryz.func290.trans (congrArg some (by kernel_rfl))⟩
  f19 := Tryz.func344.trans (congrArg some (by kernel_rfl))
  f20 := Tryz.func259.trans (congrArg some (by kernel_rfl))
  f21 := ⟨Tryz.f335.name, by decide, Tryz.func335.trans (congrArg some (by kernel_rfl))⟩
  f22 := ⟨Tryz.f336.name, by decide, Tryz.func336.trans (congrArg some (by kernel_rfl))⟩
  f23 := ⟨Tryz.f337.name, by decide, Tryz.func337.trans (congrArg some (by kernel_rfl))⟩
  f24 := ⟨Tryz.f338.name, by decide, Tryz.func338.trans (congrArg some (by kernel_rfl))⟩
  f25 := ⟨Tryz.f339.name, by decide, Tryz.func339.trans (congrArg some (by kernel_rfl))⟩
  f26 := ⟨Tryz.f340.name, by decide, Tryz.func340.trans (congrArg some (by kernel_rfl))⟩
  f27 := ⟨Tryz.f341.name, by decide, Tryz.func341.trans (congrArg some (by kernel_rfl))⟩
  f28 := ⟨Tryz.f342.name, by decide, Tryz.func342.trans (congrArg some (by kernel_rfl))⟩
  f29 := ⟨Tryz.f343.name, by decide, Tryz.func343.trans (congrArg some (by kernel_rfl))⟩
  f31 := Tryz.func369.trans (congrArg some (by kernel_rfl))
  f32 := Tryz.func370.trans (congrArg some (by kernel_rfl))
  f36 := ⟨Tryz.f368.name, by decide, Tryz.func368.trans (congrArg some (by kernel_rfl))⟩
  f37 := ⟨Tryz.f371.name, by decide, Tryz.func371.trans (congrArg some (by kernel_rfl))⟩
  f38 := ⟨Tryz.f372.name, by decide, Tryz.func372.trans (congrArg some (by kernel_rfl))⟩
  f39 := ⟨Tryz.f373.name, by decide, Tryz.func373.trans (congrArg some (by kernel_rfl))⟩
  f41 := ⟨Tryz.f391.name, by decide, Tryz.func391.trans (congrArg some (by kernel_rfl))⟩
  t0 := Tryz.underlying0
  a0 := Tryz.isAgg0
  z0 := Tryz.sizeOf0
  v0 := Tryz.zeroValue0
  t3 := Tryz.underlying3
  a3 := Tryz.isAgg3
  z3 := Tryz.sizeOf3
  v3 := Tryz.zeroValue3
  t4 := Tryz.underlying4
  a4 := Tryz.isAgg4
  z4 := Tryz.sizeOf4
  v4 := Tryz.zeroValue4
  t5 := Tryz.underlying5
  a5 := Tryz.isAgg5
  z5 := Tryz.sizeOf5
  v5 := Tryz.zeroValue5
  t9 := Tryz.underlying9
  a9 := Tryz.isAgg9
  z9 := Tryz.sizeOf9
  v9 := Tryz.zeroValue9
  t26 := Tryz.underlying43
  a26 := Tryz.isAgg43
  z26 := Tryz.sizeOf43
  v26 := Tryz.zeroValue43
  t27 := Tryz.underlying43
  a27 := Tryz.isAgg43
  z27 := Tryz.sizeOf43
  v27 := Tryz.zeroValue43
  t29 := Tryz.underlying9
  a29 := Tryz.isAgg9
  z29 := Tryz.sizeOf9
  v29 := Tryz.zeroValue9
  t32 := Tryz.underlying394
  a32 := Tryz.isAgg394
  z32 := Tryz.sizeOf394
  v32 := Tryz.zeroValue394
  t35 := Tryz.underlying473
  a35 := Tryz.isAgg473
  z35 := Tryz.sizeOf473
  v35 := Tryz.zeroValue473
  t36 := Tryz.underlying474
  a36 := Tryz.isAgg474
  z36 := Tryz.sizeOf474
  v36 := Tryz.zeroValue474
  t41 := Tryz.underlying162
  a41 := Tryz.isAgg162
  z41 := Tryz.sizeOf162
  v41 := Tryz.zeroValue162
  t44 := Tryz.underlying408
  a44 := Tryz.isAgg408
  z44 := Tryz.sizeOf408
  v44 := Tryz.zeroValue408
  t46 := Tryz.underlying329
  a46 := Tryz.isAgg329
  z46 := Tryz.sizeOf329
  v46 := Tryz.zeroValue329
  t53 := Tryz.underlying500
  a53 := Tryz.isAgg500
  z53 := Tryz.sizeOf500
  v53 := Tryz.zeroValue500
  t57 := Tryz.underlying504
  a57 := Tryz.isAgg504
  z57 := Tryz.sizeOf504
  v57 := Tryz.zeroValue504
  t63 := Tryz.underlying523
  a63 := Tryz.isAgg523
  z63 := Tryz.sizeOf523
  v63 := Tryz.zeroValue523
  t64 := Tryz.underlying29
  a64 := Tryz.isAgg29
  z64 := Tryz.sizeOf29
  v64 := Tryz.zeroValue29 }
theorem sortsA (m : Nat) : AnyZ.SortsIn Tryz.prog sortedA_ren Fence.wide m :=
  ⟨fun blk off cap ss W hH hblk hsz => callsIn_wide.2 (AnyM.slices_Sort_string sortA blk off cap ss W hH hblk hsz),
   fun p cap W => callsIn_wide.2 (AnyM.slices_Sort_string_none sortA p cap W)⟩
def keyFns : List FuncId := [243, 422]
theorem keyFns_ok : ∀ g, hasN keyFns g = true → ∃ ren2 : Ren, ren2.f 10 = g ∧ SlLaysZ.n10 Tryz.prog ren2 ∧ (fnOfP Tryz.prog g).isSome = true := fun g h => by
  have h := hasN_iff.1 h
  simp only [keyFns, List.mem_cons, List.not_mem_nil, or_false] at h
  rcases h with rfl | rfl
  · exact ⟨keys0_ren, rfl, keys0, by kernel_rfl⟩
  · exact ⟨keys1_ren, rfl, keys1, by kernel_rfl⟩
theorem sorted_fn : CallOk Tryz.prog (fun f' args s k => cond (Nat.beq f' 210) (xSorted keyFns (sortedA_ren.t 26) args s k) false) := sorted_ok sortedA keyFns_ok sortsA (by kernel_rfl) (by kernel_rfl)
end Go.Proofs.YtoijoamkbjpihaaGreatDoor
