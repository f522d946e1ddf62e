/-
  Types sought by their names, in four parts each. Own work.
-/
import Derived.Test.YtcofioeikpiabaaGreatDoorRows
import Derived.KernelRfl
namespace Go.Proofs.YtcofioeikpiabaaGreatDoor
open Go
set_option maxRecDepth 100000
set_option maxHeartbeats 8000000
theorem filter_parts {p : Nat → Bool} {a b : Nat} {la lb : List Nat} (h1 : (List.range a).filter p = la) (h2 : (List.range b).filter (fun i => p (a + i)) = lb) : (List.range (a + b)).filter p = la ++ lb.map (a + ·) := by
  rw [List.range_add, List.filter_append, h1, List.filter_map, ← h2]
  rfl
theorem row_size : Tryz.prog.types.size = 246 + (246 + (246 + 246)) := by kernel_rfl
theorem row_a : ((List.range 246).filter fun t => Tryz.prog.rowNamed t [101, 114, 114, 111, 114]) = [44] := by kernel_rfl
theorem row_b : ((List.range 246).filter fun t => Tryz.prog.rowNamed (246 + t) [101, 114, 114, 111, 114]) = [] := by kernel_rfl
theorem row_c : ((List.range 246).filter fun t => Tryz.prog.rowNamed (246 + (246 + t)) [101, 114, 114, 111, 114]) = [] := by kernel_rfl
theorem row_d : ((List.range 246).filter fun t => Tryz.prog.rowNamed (246 + (246 + (246 + t))) [101, 114, 114, 111, 114]) = [] := by kernel_rfl
theorem one_row : ((List.range Tryz.prog.types.size).filter fun t => Tryz.prog.rowNamed t [101, 114, 114, 111, 114]) = [44] := by
  rw [row_size]
  exact filter_parts row_a (filter_parts (p := fun t => Tryz.prog.rowNamed (246 + t) [101, 114, 114, 111, 114]) row_b (filter_parts (p := fun t => Tryz.prog.rowNamed (246 + (246 + t)) [101, 114, 114, 111, 114]) row_c row_d))
theorem es_p_size : Tryz.prog.types.size = 246 + (246 + (246 + 246)) := by kernel_rfl
theorem es_p_parts {p : Nat → Bool} {a b : Nat} (h1 : (List.range a).all p = true) (h2 : (List.range b).all (fun i => p (a + i)) = true) : (List.range (a + b)).all p = true := by
  rw [List.range_add, List.all_append, Bool.and_eq_true, List.all_map]
  exact ⟨h1, h2⟩
def es_p_is (P : Program) (u : Nat) : Bool := P.typeName? 3 u != some "*errors.errorString" || u == 838
theorem es_p_0 : ((List.range 246).all fun u => es_p_is Tryz.prog (u)) = true := by kernel_rfl
theorem es_p_1 : ((List.range 246).all fun u => es_p_is Tryz.prog (246 + u)) = true := by kernel_rfl
theorem es_p_2 : ((List.range 246).all fun u => es_p_is Tryz.prog (246 + (246 + u))) = true := by kernel_rfl
theorem es_p_3 : ((List.range 246).all fun u => es_p_is Tryz.prog (246 + (246 + (246 + u)))) = true := by kernel_rfl
theorem es_p_all : ((List.range Tryz.prog.types.size).all (es_p_is Tryz.prog)) = true := by
  rw [es_p_size]
  exact es_p_parts es_p_0 (es_p_parts es_p_1 (es_p_parts es_p_2 es_p_3))
theorem es_n_size : Tryz.prog.types.size = 246 + (246 + (246 + 246)) := by kernel_rfl
theorem es_n_parts {p : Nat → Bool} {a b : Nat} (h1 : (List.range a).all p = true) (h2 : (List.range b).all (fun i => p (a + i)) = true) : (List.range (a + b)).all p = true := by
  rw [List.range_add, List.all_append, Bool.and_eq_true, List.all_map]
  exact ⟨h1, h2⟩
def es_n_is (P : Program) (u : Nat) : Bool := P.typeName? 2 u != some "errors.errorString" || (match (P.info? u).map (·.desc) with | some (TypeDesc.named _ _) => true | _ => false)
theorem es_n_0 : ((List.range 246).all fun u => es_n_is Tryz.prog (u)) = true := by kernel_rfl
theorem es_n_1 : ((List.range 246).all fun u => es_n_is Tryz.prog (246 + u)) = true := by kernel_rfl
theorem es_n_2 : ((List.range 246).all fun u => es_n_is Tryz.prog (246 + (246 + u))) = true := by kernel_rfl
theorem es_n_3 : ((List.range 246).all fun u => es_n_is Tryz.prog (246 + (246 + (246 + u)))) = true := by kernel_rfl
theorem es_n_all : ((List.range Tryz.prog.types.size).all (es_n_is Tryz.prog)) = true := by
  rw [es_n_size]
  exact es_n_parts es_n_0 (es_n_parts es_n_1 (es_n_parts es_n_2 es_n_3))
end Go.Proofs.YtcofioeikpiabaaGreatDoor
