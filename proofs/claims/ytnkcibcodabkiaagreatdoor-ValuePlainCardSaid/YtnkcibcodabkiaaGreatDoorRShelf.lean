/-
  slices.Sorted over a map's keys: where its functions and types stand in this program.
-/
import Derived.Shelf.SlIter.Nil
import Derived.Shelf.SortM.Plain
import Derived.Shelf.SortM.SortNone
import Derived.Test.YtnkcibcodabkiaaGreatDoorProg
import Derived.Test.YtnkcibcodabkiaaGreatDoorAmAs
namespace Go.Proofs.YtnkcibcodabkiaaGreatDoor
open Go Go.RowKit Go.Maps Go.Sort Go.Shelf Go.Proofs Am
def keys0_ren : Go.Shelf.Ren := ⟨fun | 10 => 216 | n => n, fun | 33 => 67 | 23 => 139 | 0 => 0 | 4 => 4 | 26 => 9 | 3 => 3 | n => n, fun | n => n⟩
theorem keys0 : Go.Proofs.SlLaysZ.n10 Tryz.prog keys0_ren := {
  mixed := by kernel_rfl
  f10 := ⟨Tryz.f216.name, by decide, Tryz.func216.trans (congrArg some (by kernel_rfl))⟩
  t0 := Tryz.underlying0
  a0 := Tryz.isAgg0
  z0 := Tryz.sizeOf0
  v0 := Tryz.zeroValue0
  t4 := Tryz.underlying4
  a4 := Tryz.isAgg4
  z4 := Tryz.sizeOf4
  v4 := Tryz.zeroValue4
  t23 := Tryz.underlying139
  a23 := Tryz.isAgg139
  z23 := Tryz.sizeOf139
  v23 := Tryz.zeroValue139
  t26 := Tryz.underlying9
  a26 := Tryz.isAgg9
  z26 := Tryz.sizeOf9
  v26 := Tryz.zeroValue9
  t33 := Tryz.underlying67
  a33 := Tryz.isAgg67
  z33 := Tryz.sizeOf67
  v33 := Tryz.zeroValue67 }
def sortedA_ren : Go.Shelf.Ren := ⟨fun | 6 => 178 | 8 => 215 | 9 => 186 | 11 => 262 | 13 => 219 | 12 => 218 | 23 => 273 | 24 => 274 | 14 => 265 | 15 => 266 | 16 => 267 | 17 => 268 | 18 => 269 | 19 => 270 | 20 => 191 | 21 => 271 | 22 => 272 | 25 => 305 | 26 => 306 | 27 => 307 | 28 => 308 | 29 => 309 | 30 => 222 | 31 => 326 | n => n, fun | 26 => 9 | 28 => 288 | 24 => 32 | 0 => 0 | 3 => 3 | 37 => 295 | 48 => 365 | 50 => 297 | 4 => 4 | 40 => 375 | 39 => 374 | 45 => 37 | 5 => 5 | 9 => 9 | 51 => 399 | 55 => 403 | 57 => 415 | 58 => 416 | 33 => 67 | n => n, fun | n => n⟩
theorem sortedA : Go.Proofs.SlLaysZ.n6 Tryz.prog sortedA_ren := {
  mixed := by kernel_rfl
  f6 := ⟨Tryz.f178.name, by decide, Tryz.func178.trans (congrArg some (by kernel_rfl))⟩
  f8 := ⟨Tryz.f215.name, by decide, Tryz.func215.trans (congrArg some (by kernel_rfl))⟩
  f11 := ⟨Tryz.f262.name, by decide, Tryz.func262.trans (congrArg some (by kernel_rfl))⟩
  t0 := Tryz.underlying0
  a0 := Tryz.isAgg0
  z0 := Tryz.sizeOf0
  v0 := Tryz.zeroValue0
  t24 := Tryz.underlying32
  a24 := Tryz.isAgg32
  z24 := Tryz.sizeOf32
  v24 := Tryz.zeroValue32
  t26 := Tryz.underlying9
  a26 := Tryz.isAgg9
  z26 := Tryz.sizeOf9
  v26 := Tryz.zeroValue9
  t28 := Tryz.underlying288
  a28 := Tryz.isAgg288
  z28 := Tryz.sizeOf288
  v28 := Tryz.zeroValue288
  i26 := by kernel_rfl }
def sortA_ren : Go.Shelf.Ren := ⟨fun | 6 => 186 | 8 => 219 | 9 => 218 | 19 => 273 | 20 => 274 | 21 => 265 | 22 => 266 | 23 => 267 | 24 => 268 | 25 => 269 | 26 => 270 | 27 => 191 | 28 => 271 | 29 => 272 | 36 => 305 | 31 => 306 | 32 => 307 | 37 => 308 | 38 => 309 | 39 => 222 | 41 => 326 | n => n, fun | 27 => 32 | 29 => 9 | 3 => 3 | 32 => 295 | 26 => 32 | 0 => 0 | 44 => 365 | 46 => 297 | 4 => 4 | 36 => 375 | 35 => 374 | 41 => 37 | 5 => 5 | 9 => 9 | 53 => 399 | 57 => 403 | 63 => 415 | 64 => 416 | n => n, fun | n => n⟩
theorem sortA : Go.Proofs.SlLaysM.n6 Tryz.prog sortA_ren := {
  mixed := by kernel_rfl
  f6 := ⟨Tryz.f186.name, by decide, Tryz.func186.trans (congrArg some (by kernel_rfl))⟩
  f8 := Tryz.func219.trans (congrArg some (by kernel_rfl))
  f9 := ⟨Tryz.f218.name, by decide, Tryz.func218.trans (congrArg some (by kernel_rfl))⟩
  f19 := Tryz.func273.trans (congrArg some (by kernel_rfl))
  f20 := Tryz.func274.trans (congrArg some (by kernel_rfl))
  f21 := ⟨Tryz.f265.name, by decide, Tryz.func265.trans (congrArg some (by kernel_rfl))⟩
  f22 := ⟨Tryz.f266.name, by decide, Tryz.func266.trans (congrArg some (by kernel_rfl))⟩
  f23 := ⟨Tryz.f267.name, by decide, Tryz.func267.trans (congrArg some (by kernel_rfl))⟩
  f24 := ⟨Tryz.f268.name, by decide, Tryz.func268.trans (congrArg some (by kernel_rfl))⟩
  f25 := ⟨Tryz.f269.name, by decide, Tryz.func269.trans (congrArg some (by kernel_rfl))⟩
  f26 := ⟨Tryz.f270.name, by decide, Tryz.func270.trans (congrArg some (by kernel_rfl))⟩
  f27 := ⟨Tryz.f191.name, by decide, Tryz.func191.trans (congrArg some (by kernel_rfl))⟩
  f28 := ⟨Tryz.f271.name, by decide, Tryz.func271.trans (congrArg some (by kernel_rfl))⟩
  f29 := ⟨Tryz.f272.name, by decide, Tryz.func272.trans (congrArg some (by kernel_rfl))⟩
  f31 := Tryz.func306.trans (congrArg some (by kernel_rfl))
  f32 := Tryz.func307.trans (congrArg some (by kernel_rfl))
  f36 := ⟨Tryz.f305.name, by decide, Tryz.func305.trans (congrArg some (by kernel_rfl))⟩
  f37 := ⟨Tryz.f308.name, by decide, Tryz.func308.trans (congrArg some (by kernel_rfl))⟩
  f38 := ⟨Tryz.f309.name, by decide, Tryz.func309.trans (congrArg some (by kernel_rfl))⟩
  f39 := ⟨Tryz.f222.name, by decide, Tryz.func222.trans (congrArg some (by kernel_rfl))⟩
  f41 := ⟨Tryz.f326.name, by decide, Tryz.func326.trans (congrArg some (by kernel_rfl))⟩
  t0 := Tryz.underlying0
  a0 := Tryz.isAgg0
  z0 := Tryz.sizeOf0
  v0 := Tryz.zeroValue0
  t3 := Tryz.underlying3
  a3 := Tryz.isAgg3
  z3 := Tryz.sizeOf3
  v3 := Tryz.zeroValue3
  t4 := Tryz.underlying4
  a4 := Tryz.isAgg4
  z4 := Tryz.sizeOf4
  v4 := Tryz.zeroValue4
  t5 := Tryz.underlying5
  a5 := Tryz.isAgg5
  z5 := Tryz.sizeOf5
  v5 := Tryz.zeroValue5
  t9 := Tryz.underlying9
  a9 := Tryz.isAgg9
  z9 := Tryz.sizeOf9
  v9 := Tryz.zeroValue9
  t26 := Tryz.underlying32
  a26 := Tryz.isAgg32
  z26 := Tryz.sizeOf32
  v26 := Tryz.zeroValue32
  t27 := Tryz.underlying32
  a27 := Tryz.isAgg32
  z27 := Tryz.sizeOf32
  v27 := Tryz.zeroValue32
  t29 := Tryz.underlying9
  a29 := Tryz.isAgg9
  z29 := Tryz.sizeOf9
  v29 := Tryz.zeroValue9
  t32 := Tryz.underlying295
  a32 := Tryz.isAgg295
  z32 := Tryz.sizeOf295
  v32 := Tryz.zeroValue295
  t35 := Tryz.underlying374
  a35 := Tryz.isAgg374
  z35 := Tryz.sizeOf374
  v35 := Tryz.zeroValue374
  t36 := Tryz.underlying375
  a36 := Tryz.isAgg375
  z36 := Tryz.sizeOf375
  v36 := Tryz.zeroValue375
  t41 := Tryz.underlying37
  a41 := Tryz.isAgg37
  z41 := Tryz.sizeOf37
  v41 := Tryz.zeroValue37
  t44 := Tryz.underlying365
  a44 := Tryz.isAgg365
  z44 := Tryz.sizeOf365
  v44 := Tryz.zeroValue365
  t46 := Tryz.underlying297
  a46 := Tryz.isAgg297
  z46 := Tryz.sizeOf297
  v46 := Tryz.zeroValue297
  t53 := Tryz.underlying399
  a53 := Tryz.isAgg399
  z53 := Tryz.sizeOf399
  v53 := Tryz.zeroValue399
  t57 := Tryz.underlying403
  a57 := Tryz.isAgg403
  z57 := Tryz.sizeOf403
  v57 := Tryz.zeroValue403
  t63 := Tryz.underlying415
  a63 := Tryz.isAgg415
  z63 := Tryz.sizeOf415
  v63 := Tryz.zeroValue415
  t64 := Tryz.underlying416
  a64 := Tryz.isAgg416
  z64 := Tryz.sizeOf416
  v64 := Tryz.zeroValue416 }
theorem sortsA (m : Nat) : AnyZ.SortsIn Tryz.prog sortedA_ren Fence.wide m :=
  ⟨fun blk off cap ss W hH hblk hsz => callsIn_wide.2 (AnyM.slices_Sort_string sortA blk off cap ss W hH hblk hsz),
   fun p cap W => callsIn_wide.2 (AnyM.slices_Sort_string_none sortA p cap W)⟩
def keyFns : List FuncId := [216]
theorem keyFns_ok : ∀ g, hasN keyFns g = true → ∃ ren2 : Ren, ren2.f 10 = g ∧ SlLaysZ.n10 Tryz.prog ren2 ∧ (fnOfP Tryz.prog g).isSome = true := fun g h => by
  have h := hasN_iff.1 h
  simp only [keyFns, List.mem_cons, List.not_mem_nil, or_false] at h
  rcases h with rfl
  exact ⟨keys0_ren, rfl, keys0, by kernel_rfl⟩
theorem sorted_fn : CallOk Tryz.prog (fun f' args s k => cond (Nat.beq f' 178) (xSorted keyFns (sortedA_ren.t 26) args s k) false) := sorted_ok sortedA keyFns_ok sortsA (by kernel_rfl) (by kernel_rfl)
end Go.Proofs.YtnkcibcodabkiaaGreatDoor
