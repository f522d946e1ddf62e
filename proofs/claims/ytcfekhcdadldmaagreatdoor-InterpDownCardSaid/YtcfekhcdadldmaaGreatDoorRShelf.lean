/-
  slices.Sorted over a map's keys: where its functions and types stand in this program.
-/
import Derived.Shelf.SlIter.Nil
import Derived.Shelf.SortM.Plain
import Derived.Shelf.SortM.SortNone
import Derived.Test.YtcfekhcdadldmaaGreatDoorProg
import Derived.Test.YtcfekhcdadldmaaGreatDoorAmAs
namespace Go.Proofs.YtcfekhcdadldmaaGreatDoor
open Go Go.RowKit Go.Maps Go.Sort Go.Shelf Go.Proofs Am
def keys0_ren : Go.Shelf.Ren := ⟨fun | 10 => 302 | n => n, fun | 33 => 36 | 23 => 133 | 0 => 0 | 4 => 4 | 26 => 9 | 3 => 3 | n => n, fun | n => n⟩
theorem keys0 : Go.Proofs.SlLaysZ.n10 Tryz.prog keys0_ren := {
  mixed := by kernel_rfl
  f10 := ⟨Tryz.f302.name, by decide, Tryz.func302.trans (congrArg some (by kernel_rfl))⟩
  t0 := Tryz.underlying0
  a0 := Tryz.isAgg0
  z0 := Tryz.sizeOf0
  v0 := Tryz.zeroValue0
  t4 := Tryz.underlying4
  a4 := Tryz.isAgg4
  z4 := Tryz.sizeOf4
  v4 := Tryz.zeroValue4
  t23 := Tryz.underlying133
  a23 := Tryz.isAgg133
  z23 := Tryz.sizeOf133
  v23 := Tryz.zeroValue133
  t26 := Tryz.underlying9
  a26 := Tryz.isAgg9
  z26 := Tryz.sizeOf9
  v26 := Tryz.zeroValue9
  t33 := Tryz.underlying36
  a33 := Tryz.isAgg36
  z33 := Tryz.sizeOf36
  v33 := Tryz.zeroValue36 }
def keys1_ren : Go.Shelf.Ren := ⟨fun | 10 => 480 | n => n, fun | 33 => 36 | 23 => 581 | 0 => 0 | 4 => 4 | 26 => 9 | 3 => 607 | n => n, fun | n => n⟩
theorem keys1 : Go.Proofs.SlLaysZ.n10 Tryz.prog keys1_ren := {
  mixed := by kernel_rfl
  f10 := ⟨Tryz.f480.name, by decide, Tryz.func480.trans (congrArg some (by kernel_rfl))⟩
  t0 := Tryz.underlying0
  a0 := Tryz.isAgg0
  z0 := Tryz.sizeOf0
  v0 := Tryz.zeroValue0
  t4 := Tryz.underlying4
  a4 := Tryz.isAgg4
  z4 := Tryz.sizeOf4
  v4 := Tryz.zeroValue4
  t23 := Tryz.underlying581
  a23 := Tryz.isAgg581
  z23 := Tryz.sizeOf581
  v23 := Tryz.zeroValue581
  t26 := Tryz.underlying9
  a26 := Tryz.isAgg9
  z26 := Tryz.sizeOf9
  v26 := Tryz.zeroValue9
  t33 := Tryz.underlying36
  a33 := Tryz.isAgg36
  z33 := Tryz.sizeOf36
  v33 := Tryz.zeroValue36 }
def sortedA_ren : Go.Shelf.Ren := ⟨fun | 6 => 258 | 8 => 301 | 9 => 228 | 11 => 365 | 13 => 271 | 12 => 270 | 23 => 330 | 24 => 317 | 14 => 321 | 15 => 322 | 16 => 323 | 17 => 324 | 18 => 325 | 19 => 326 | 20 => 327 | 21 => 328 | 22 => 329 | 25 => 378 | 26 => 379 | 27 => 380 | 28 => 381 | 29 => 382 | 30 => 383 | 31 => 417 | n => n, fun | 26 => 9 | 28 => 416 | 24 => 23 | 0 => 0 | 3 => 3 | 37 => 432 | 48 => 421 | 50 => 397 | 4 => 4 | 40 => 488 | 39 => 487 | 45 => 225 | 5 => 5 | 9 => 9 | 51 => 537 | 55 => 541 | 57 => 575 | 58 => 576 | 33 => 36 | n => n, fun | n => n⟩
theorem sortedA : Go.Proofs.SlLaysZ.n6 Tryz.prog sortedA_ren := {
  mixed := by kernel_rfl
  f6 := ⟨Tryz.f258.name, by decide, Tryz.func258.trans (congrArg some (by kernel_rfl))⟩
  f8 := ⟨Tryz.f301.name, by decide, Tryz.func301.trans (congrArg some (by kernel_rfl))⟩
  f11 := ⟨Tryz.f365.name, by decide, Tryz.func365.trans (congrArg some (by kernel_rfl))⟩
  t0 := Tryz.underlying0
  a0 := Tryz.isAgg0
  z0 := Tryz.sizeOf0
  v0 := Tryz.zeroValue0
  t24 := Tryz.underlying23
  a24 := Tryz.isAgg23
  z24 := Tryz.sizeOf23
  v24 := Tryz.zeroValue23
  t26 := Tryz.underlying9
  a26 := Tryz.isAgg9
  z26 := Tryz.sizeOf9
  v26 := Tryz.zeroValue9
  t28 := Tryz.underlying416
  a28 := Tryz.isAgg416
  z28 := Tryz.sizeOf416
  v28 := Tryz.zeroValue416
  i26 := by kernel_rfl }
def sortA_ren : Go.Shelf.Ren := ⟨fun | 6 => 228 | 8 => 271 | 9 => 270 | 19 => 330 | 20 => 317 | 21 => 321 | 22 => 322 | 23 => 323 | 24 => 324 | 25 => 325 | 26 => 326 | 27 => 327 | 28 => 328 | 29 => 329 | 36 => 378 | 31 => 379 | 32 => 380 | 37 => 381 | 38 => 382 | 39 => 383 | 41 => 417 | n => n, fun | 27 => 23 | 29 => 9 | 3 => 3 | 32 => 432 | 26 => 23 | 0 => 0 | 44 => 421 | 46 => 397 | 4 => 4 | 36 => 488 | 35 => 487 | 41 => 225 | 5 => 5 | 9 => 9 | 53 => 537 | 57 => 541 | 63 => 575 | 64 => 576 | n => n, fun | n => n⟩
theorem sortA : Go.Proofs.SlLaysM.n6 Tryz.prog sortA_ren := {
  mixed := by kernel_rfl
  f6 := ⟨Tryz.f228.name, by decide, Tryz.func228.trans (congrArg some (by kernel_rfl))⟩
  f8 := Tryz.func271.trans (congrArg some (by kernel_rfl))
  f9 := ⟨Tryz.f270.name, by decide, Tryz.func270.trans (congrArg some (by kernel_rfl))⟩
  f19 := Tryz.func330.trans (congrArg some (by kernel_rfl))
  f20 := Tryz.func317.trans (congrArg some (by kernel_rfl))
  f21 := ⟨Tryz.f321.name, by decide, Tryz.func321.trans (congrArg some (by kernel_rfl))⟩
  f22 := ⟨Tryz.f322.name, by decide, Tryz.func322.trans (congrArg some (by kernel_rfl))⟩
  f23 := ⟨Tryz.f323.name, by decide, Tryz.func323.trans (congrArg some (by kernel_rfl))⟩
  f24 := ⟨Tryz.f324.name, by decide, Tryz.func324.trans (congrArg some (by kernel_rfl))⟩
  f25 := ⟨Tryz.f325.name, by decide, Tryz.func325.trans (congrArg some (by kernel_rfl))⟩
  f26 := ⟨Tryz.f326.name, by decide, Tryz.func326.trans (congrArg some (by kernel_rfl))⟩
  f27 := ⟨Tryz.f327.name, by decide, Tryz.func327.trans (congrArg some (by kernel_rfl))⟩
  f28 := ⟨Tryz.f328.name, by decide, Tryz.func328.trans (congrArg some (by kernel_rfl))⟩
  f29 := ⟨Tryz.f329.name, by decide, Tryz.func329.trans (congrArg some (by kernel_rfl))⟩
  f31 := Tryz.func379.trans (congrArg some (by kernel_rfl))
  f32 := Tryz.func380.trans (congrArg some (by kernel_rfl))
  f36 := ⟨Tryz.f378.name, by decide, Tryz.func378.trans (congrArg some (by kernel_rfl))⟩
  f37 := ⟨Tryz.f381.name, by decide, Tryz.func381.trans (congrArg some (by kernel_rfl))⟩
  f38 := ⟨Tryz.f382.name, by decide, Tryz.func382.trans (congrArg some (by kernel_rfl))⟩
  f39 := ⟨Tryz.f383.name, by decide, Tryz.func383.trans (congrArg some (by kernel_rfl))⟩
  f41 := ⟨Tryz.f417.name, by decide, Tryz.func417.trans (congrArg some (by kernel_rfl))⟩
  t0 := Tryz.underlying0
  a0 := Tryz.isAgg0
  z0 := Tryz.sizeOf0
  v0 := Tryz.zeroValue0
  t3 := Tryz.underlying3
  a3 := Tryz.isAgg3
  z3 := Tryz.sizeOf3
  v3 := Tryz.zeroValue3
  t4 := Tryz.underlying4
  a4 := Tryz.isAgg4
  z4 := Tryz.sizeOf4
  v4 := Tryz.zeroValue4
  t5 := Tryz.underlying5
  a5 := Tryz.isAgg5
  z5 := Tryz.sizeOf5
  v5 := Tryz.zeroValue5
  t9 := Tryz.underlying9
  a9 := Tryz.isAgg9
  z9 := Tryz.sizeOf9
  v9 := Tryz.zeroValue9
  t26 := Tryz.underlying23
  a26 := Tryz.isAgg23
  z26 := Tryz.sizeOf23
  v26 := Tryz.zeroValue23
  t27 := Tryz.underlying23
  a27 := Tryz.isAgg23
  z27 := Tryz.sizeOf23
  v27 := Tryz.zeroValue23
  t29 := Tryz.underlying9
  a29 := Tryz.isAgg9
  z29 := Tryz.sizeOf9
  v29 := Tryz.zeroValue9
  t32 := Tryz.underlying432
  a32 := Tryz.isAgg432
  z32 := Tryz.sizeOf432
  v32 := Tryz.zeroValue432
  t35 := Tryz.underlying487
  a35 := Tryz.isAgg487
  z35 := Tryz.sizeOf487
  v35 := Tryz.zeroValue487
  t36 := Tryz.underlying488
  a36 := Tryz.isAgg488
  z36 := Tryz.sizeOf488
  v36 := Tryz.zeroValue488
  t41 := Tryz.underlying225
  a41 := Tryz.isAgg225
  z41 := Tryz.sizeOf225
  v41 := Tryz.zeroValue225
  t44 := Tryz.underlying421
  a44 := Tryz.isAgg421
  z44 := Tryz.sizeOf421
  v44 := Tryz.zeroValue421
  t46 := Tryz.underlying397
  a46 := Tryz.isAgg397
  z46 := Tryz.sizeOf397
  v46 := Tryz.zeroValue397
  t53 := Tryz.underlying537
  a53 := Tryz.isAgg537
  z53 := Tryz.sizeOf537
  v53 := Tryz.zeroValue537
  t57 := Tryz.underlying541
  a57 := Tryz.isAgg541
  z57 := Tryz.sizeOf541
  v57 := Tryz.zeroValue541
  t63 := Tryz.underlying575
  a63 := Tryz.isAgg575
  z63 := Tryz.sizeOf575
  v63 := Tryz.zeroValue575
  t64 := Tryz.underlying576
  a64 := Tryz.isAgg576
  z64 := Tryz.sizeOf576
  v64 := Tryz.zeroValue576 }
theorem sortsA (m : Nat) : AnyZ.SortsIn Tryz.prog sortedA_ren Fence.wide m :=
  ⟨fun blk off cap ss W hH hblk hsz => callsIn_wide.2 (AnyM.slices_Sort_string sortA blk off cap ss W hH hblk hsz),
   fun p cap W => callsIn_wide.2 (AnyM.slices_Sort_string_none sortA p cap W)⟩
def keyFns : List FuncId := [302, 480]
theorem keyFns_ok : ∀ g, hasN keyFns g = true → ∃ ren2 : Ren, ren2.f 10 = g ∧ SlLaysZ.n10 Tryz.prog ren2 ∧ (fnOfP Tryz.prog g).isSome = true := fun g h => by
  have h := hasN_iff.1 h
  simp only [keyFns, List.mem_cons, List.not_mem_nil, or_false] at h
  rcases h with rfl | rfl
  · exact ⟨keys0_ren, rfl, keys0, by kernel_rfl⟩
  · exact ⟨keys1_ren, rfl, keys1, by kernel_rfl⟩
theorem sorted_fn : CallOk Tryz.prog (fun f' args s k => cond (Nat.beq f' 258) (xSorted keyFns (sortedA_ren.t 26) args s k) false) := sorted_ok sortedA keyFns_ok sortsA (by kernel_rfl) (by kernel_rfl)
end Go.Proofs.YtcfekhcdadldmaaGreatDoor
