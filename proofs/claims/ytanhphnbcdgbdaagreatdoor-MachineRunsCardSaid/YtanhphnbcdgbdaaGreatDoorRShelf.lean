/-
  slices.Sorted over a map's keys: where its functions and types stand in this program.
-/
import Derived.Shelf.SlIter.Nil
import Derived.Shelf.SortM.Plain
import Derived.Shelf.SortM.SortNone
import Derived.Test.YtanhphnbcdgbdaaGreatDoorProg
import Derived.Test.YtanhphnbcdgbdaaGreatDoorAmAs
import Derived.Test.YtanhphnbcdgbdaaGreatDoorRVal
namespace Go.Proofs.YtanhphnbcdgbdaaGreatDoor
open Go Go.RowKit Go.Maps Go.Sort Go.Shelf Go.Proofs Am
def keys0_ren : Go.Shelf.Ren := ⟨fun | 10 => 341 | n => n, fun | 33 => 119 | 23 => 147 | 0 => 0 | 4 => 4 | 26 => 9 | 3 => 3 | n => n, fun | n => n⟩
theorem keys0 : Go.Proofs.SlLaysZ.n10 Tryz.prog keys0_ren := {
  mixed := by kernel_rfl
  f10 := ⟨Tryz.f341.name, by decide, Tryz.func341.trans (congrArg some (by kernel_rfl))⟩
  t0 := Tryz.underlying0
  a0 := Tryz.isAgg0
  z0 := Tryz.sizeOf0
  v0 := Tryz.zeroValue0
  t4 := Tryz.underlying4
  a4 := Tryz.isAgg4
  z4 := Tryz.sizeOf4
  v4 := Tryz.zeroValue4
  t23 := Tryz.underlying147
  a23 := Tryz.isAgg147
  z23 := Tryz.sizeOf147
  v23 := Tryz.zeroValue147
  t26 := Tryz.underlying9
  a26 := Tryz.isAgg9
  z26 := Tryz.sizeOf9
  v26 := Tryz.zeroValue9
  t33 := Tryz.underlying119
  a33 := Tryz.isAgg119
  z33 := Tryz.sizeOf119
  v33 := Tryz.zeroValue119 }
def keys1_ren : Go.Shelf.Ren := ⟨fun | 10 => 524 | n => n, fun | 33 => 119 | 23 => 668 | 0 => 0 | 4 => 4 | 26 => 9 | 3 => 734 | n => n, fun | n => n⟩
theorem keys1 : Go.Proofs.SlLaysZ.n10 Tryz.prog keys1_ren := {
  mixed := by kernel_rfl
  f10 := ⟨Tryz.f524.name, by decide, Tryz.func524.trans (congrArg some (by kernel_rfl))⟩
  t0 := Tryz.underlying0
  a0 := Tryz.isAgg0
  z0 := Tryz.sizeOf0
  v0 := Tryz.zeroValue0
  t4 := Tryz.underlying4
  a4 := Tryz.isAgg4
  z4 := Tryz.sizeOf4
  v4 := Tryz.zeroValue4
  t23 := Tryz.underlying668
  a23 := Tryz.isAgg668
  z23 := Tryz.sizeOf668
  v23 := Tryz.zeroValue668
  t26 := Tryz.underlying9
  a26 := Tryz.isAgg9
  z26 := Tryz.sizeOf9
  v26 := Tryz.zeroValue9
  t33 := Tryz.underlying119
  a33 := Tryz.isAgg119
  z33 := Tryz.sizeOf119
  v33 := Tryz.zeroValue119 }
def sortedA_ren : Go.Shelf.Ren := ⟨fun | 6 => 300 | 8 => 340 | 9 => 321 | 11 => 397 | 13 => 372 | 12 => 371 | 23 => 436 | 24 => 424 | 14 => 428 | 15 => 429 | 16 => 430 | 17 => 431 | 18 => 432 | 19 => 433 | 20 => 353 | 21 => 434 | 22 => 435 | 25 => 482 | 26 => 483 | 27 => 484 | 28 => 485 | 29 => 486 | 30 => 406 | 31 => 511 | n => n, fun | 26 => 9 | 28 => 552 | 24 => 25 | 0 => 0 | 3 => 3 | 37 => 102 | 48 => 193 | 50 => 196 | 4 => 4 | 40 => 701 | 39 => 700 | 45 => 110 | 5 => 5 | 9 => 9 | 51 => 743 | 55 => 742 | 57 => 766 | 58 => 767 | 33 => 119 | n => n, fun | n => n⟩
theorem sortedA : Go.Proofs.SlLaysZ.n6 Tryz.prog sortedA_ren := {
  mixed := by kernel_rfl
  f6 := ⟨Tryz.f300.name, by decide, Tryz.func300.trans (congrArg some (by kernel_rfl))⟩
  f8 := ⟨Tryz.f340.name, by decide, Tryz.func340.trans (congrArg some (by kernel_rfl))⟩
  f11 := ⟨Tryz.f397.name, by decide, Tryz.func397.trans (congrArg some (by kernel_rfl))⟩
  t0 := Tryz.underlying0
  a0 := Tryz.isAgg0
  z0 := Tryz.sizeOf0
  v0 := Tryz.zeroValue0
  t24 := Tryz.underlying25
  a24 := Tryz.isAgg25
  z24 := Tryz.sizeOf25
  v24 := Tryz.zeroValue25
  t26 := Tryz.underlying9
  a26 := Tryz.isAgg9
  z26 := Tryz.sizeOf9
  v26 := Tryz.zeroValue9
  t28 := Tryz.underlying552
  a28 := Tryz.isAgg552
  z28 := Tryz.sizeOf552
  v28 := Tryz.zeroValue552
  i26 := by kernel_rfl }
def sortA_ren : Go.Shelf.Ren := ⟨fun | 6 => 321 | 8 => 372 | 9 => 371 | 19 => 436 | 20 => 424 | 21 => 428 | 22 => 429 | 23 => 430 | 24 => 431 | 25 => 432 | 26 => 433 | 27 => 353 | 28 => 434 | 29 => 435 | 36 => 482 | 31 => 483 | 32 => 484 | 37 => 485 | 38 => 486 | 39 => 406 | 41 => 511 | n => n, fun | 27 => 25 | 29 => 9 | 3 => 3 | 32 => 102 | 26 => 25 | 0 => 0 | 44 => 193 | 46 => 196 | 4 => 4 | 36 => 701 | 35 => 700 | 41 => 110 | 5 => 5 | 9 => 9 | 53 => 743 | 57 => 742 | 63 => 766 | 64 => 767 | n => n, fun | n => n⟩
theorem sortA : Go.Proofs.SlLaysM.n6 Tryz.prog sortA_ren := {
  mixed := by kernel_rfl
  f6 := ⟨Tryz.f321.name, by decide, Tryz.func321.trans (congrArg some (by kernel_rfl))⟩
  f8 := Tryz.func372.trans (congrArg some (by kernel_rfl))
  f9 := ⟨Tryz.f371.name, by decide, Tryz.func371.trans (congrArg some (by kernel_rfl))⟩
  f19 := Tryz.func436.trans (congrArg some (by kernel_rfl))
  f20 := Tryz.func424.trans (congrArg some (by kernel_rfl))
  f21 := ⟨Tryz.f428.name, by decide, Tryz.func428.trans (congrArg some (by kernel_rfl))⟩
  f22 := ⟨Tryz.f429.name, by decide, Tryz.func429.trans (congrArg some (by kernel_rfl))⟩
  f23 := ⟨Tryz.f430.name, by decide, Tryz.func430.trans (congrArg some (by kernel_rfl))⟩
  f24 := ⟨Tryz.f431.name, by decide, Tryz.func431.trans (congrArg some (by kernel_rfl))⟩
  f25 := ⟨Tryz.f432.name, by decide, Tryz.func432.trans (congrArg some (by kernel_rfl))⟩
  f26 := ⟨Tryz.f433.name, by decide, Tryz.func433.trans (congrArg some (by kernel_rfl))⟩
  f27 := ⟨Tryz.f353.name, by decide, Tryz.func353.trans (congrArg some (by kernel_rfl))⟩
  f28 := ⟨Tryz.f434.name, by decide, Tryz.func434.trans (congrArg some (by kernel_rfl))⟩
  f29 := ⟨Tryz.f435.name, by decide, Tryz.func435.trans (congrArg some (by kernel_rfl))⟩
  f31 := Tryz.func483.trans (congrArg some (by kernel_rfl))
  f32 := Tryz.func484.trans (congrArg some (by kernel_rfl))
  f36 := ⟨Tryz.f482.name, by decide, Tryz.func482.trans (congrArg some (by kernel_rfl))⟩
  f37 := ⟨Tryz.f485.name, by decide, Tryz.func485.trans (congrArg some (by kernel_rfl))⟩
  f38 := ⟨Tryz.f486.name, by decide, Tryz.func486.trans (congrArg some (by kernel_rfl))⟩
  f39 := ⟨Tryz.f406.name, by decide, Tryz.func406.trans (congrArg some (by kernel_rfl))⟩
  f41 := ⟨Tryz.f511.name, by decide, Tryz.func511.trans (congrArg some (by kernel_rfl))⟩
  t0 := Tryz.underlying0
  a0 := Tryz.isAgg0
  z0 := Tryz.sizeOf0
  v0 := Tryz.zeroValue0
  t3 := Tryz.underlying3
  a3 := Tryz.isAgg3
  z3 := Tryz.sizeOf3
  v3 := Tryz.zeroValue3
  t4 := Tryz.underlying4
  a4 := Tryz.isAgg4
  z4 := Tryz.sizeOf4
  v4 := Tryz.zeroValue4
  t5 := Tryz.underlying5
  a5 := Tryz.isAgg5
  z5 := Tryz.sizeOf5
  v5 := Tryz.zeroValue5
  t9 := Tryz.underlying9
  a9 := Tryz.isAgg9
  z9 := Tryz.sizeOf9
  v9 := Tryz.zeroValue9
  t26 := Tryz.underlying25
  a26 := Tryz.isAgg25
  z26 := Tryz.sizeOf25
  v26 := Tryz.zeroValue25
  t27 := Tryz.underlying25
  a27 := Tryz.isAgg25
  z27 := Tryz.sizeOf25
  v27 := Tryz.zeroValue25
  t29 := Tryz.underlying9
  a29 := Tryz.isAgg9
  z29 := Tryz.sizeOf9
  v29 := Tryz.zeroValue9
  t32 := Tryz.underlying102
  a32 := Tryz.isAgg102
  z32 := Tryz.sizeOf102
  v32 := Tryz.zeroValue102
  t35 := Tryz.underlying700
  a35 := Tryz.isAgg700
  z35 := Tryz.sizeOf700
  v35 := Tryz.zeroValue700
  t36 := Tryz.underlying701
  a36 := Tryz.isAgg701
  z36 := Tryz.sizeOf701
  v36 := Tryz.zeroValue701
  t41 := Tryz.underlying110
  a41 := Tryz.isAgg110
  z41 := Tryz.sizeOf110
  v41 := Tryz.zeroValue110
  t44 := Tryz.underlying193
  a44 := Tryz.isAgg193
  z44 := Tryz.sizeOf193
  v44 := Tryz.zeroValue193
  t46 := Tryz.underlying196
  a46 := Tryz.isAgg196
  z46 := Tryz.sizeOf196
  v46 := Tryz.zeroValue196
  t53 := Tryz.underlying743
  a53 := Tryz.isAgg743
  z53 := Tryz.sizeOf743
  v53 := Tryz.zeroValue743
  t57 := Tryz.underlying742
  a57 := Tryz.isAgg742
  z57 := Tryz.sizeOf742
  v57 := Tryz.zeroValue742
  t63 := Tryz.underlying766
  a63 := Tryz.isAgg766
  z63 := Tryz.sizeOf766
  v63 := Tryz.zeroValue766
  t64 := Tryz.underlying767
  a64 := Tryz.isAgg767
  z64 := Tryz.sizeOf767
  v64 := Tryz.zeroValue767 }
theorem sortsA (m : Nat) : AnyZ.SortsIn Tryz.prog sortedA_ren Fence.wide m :=
  ⟨fun blk off cap ss W hH hblk hsz => callsIn_wide.2 (AnyM.slices_Sort_string sortA blk off cap ss W hH hblk hsz),
   fun p cap W => callsIn_wide.2 (AnyM.slices_Sort_string_none sortA p cap W)⟩
def keyFns : List FuncId := [341, 524]
theorem keyFns_ok : ∀ g, hasN keyFns g = true → ∃ ren2 : Ren, ren2.f 10 = g ∧ SlLaysZ.n10 Tryz.prog ren2 ∧ (fnOfP Tryz.prog g).isSome = true := fun g h => by
  have h := hasN_iff.1 h
  simp only [keyFns, List.mem_cons, List.not_mem_nil, or_false] at h
  rcases h with rfl | rfl
  · exact ⟨keys0_ren, rfl, keys0, by kernel_rfl⟩
  · exact ⟨keys1_ren, rfl, keys1, by kernel_rfl⟩
def valFns : List FuncId := [352]
theorem valFns_ok : ∀ g, hasN valFns g = true → ValsOk Tryz.prog g := fun g h => by
  have h := hasN_iff.1 h
  simp only [valFns, List.mem_cons, List.not_mem_nil, or_false] at h
  subst h
  exact vals_ok
theorem sorted_fn : CallOk Tryz.prog (fun f' args s k => cond (Nat.beq f' 300) (xSortedB valFns keyFns (sortedA_ren.t 26) args s k) false) := sortedB_ok sortedA keyFns_ok valFns_ok sortsA (by kernel_rfl) (by kernel_rfl)
end Go.Proofs.YtanhphnbcdgbdaaGreatDoor
