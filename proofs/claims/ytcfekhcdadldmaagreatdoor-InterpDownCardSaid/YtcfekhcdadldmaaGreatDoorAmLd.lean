import Derived.Test.YtcfekhcdadldmaaGreatDoorAmX
import Derived.Lib.LaidTab
namespace Go.Proofs.YtcfekhcdadldmaaGreatDoor.Am
open Go
/-- a table of numbers as it lies. -/
theorem tab_ok {P : Program} {W : World} {name : String} {g : Nat} {t e : TypeId} {n fuel : Nat} {k : IntKind} {cs : Array Value} {p : List MemPlace} {l : List Nat} (hg : P.globalNamed name = some g) (hv : W.var? P name = some cs) (ht : P.underlying t = some (.array n e)) (he : P.underlying e = some (.int k)) (hce : P.cellsOf e = 1) (hct : P.cellsOf t = n)
    (hd : DataW.trod (fun _ => ()) P W 0 (fun _ => true) false fuel t cs.toList = some (Lib.tabData k (l.map Int.ofNat), p)) : ∃ (c : Array Value) (e : TypeId) (f : Nat × Nat), W.heap[g]? = some (.cells c e f) ∧ c.toList = tabOf k l ∧ ∀ v ∈ tabOf k l, plain1 v = true := by
  have h1 := Lib.cells_of_tab ht he hce hct hd
  unfold World.var? at hv
  rw [hg, Option.bind_some] at hv
  split at hv
  · rename_i c e' f hh
    obtain rfl := Option.some.inj hv
    refine ⟨c, e', f, hh, by rw [h1, List.map_map]; rfl, fun v hv => ?_⟩
    obtain ⟨x, _, rfl⟩ := List.mem_map.1 hv
    rfl
  · cases hv
/-- another variable as it lies. -/
theorem obj_ok {P : Program} {W : World} {name : String} {g : Nat} {cs : Array Value} (hg : P.globalNamed name = some g) (hv : W.var? P name = some cs) : ∃ (c : Array Value) (e : TypeId) (f : Nat × Nat), W.heap[g]? = some (.cells c e f) ∧ c.toList = cs.toList := by
  unfold World.var? at hv
  rw [hg, Option.bind_some] at hv
  split at hv
  · rename_i c e' f hh
    obtain rfl := Option.some.inj hv
    exact ⟨c, e', f, hh, rfl⟩
  · cases hv
end Go.Proofs.YtcfekhcdadldmaaGreatDoor.Am
