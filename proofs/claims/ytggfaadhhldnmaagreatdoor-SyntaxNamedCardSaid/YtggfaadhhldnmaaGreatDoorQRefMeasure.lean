/-
  Nodes and Depth of package coilref2, walked.
-/
import Derived.Test.YtggfaadhhldnmaaGreatDoorQKeepG
namespace Go.Proofs.YtggfaadhhldnmaaGreatDoor
open Go Go.RowKit Lx

theorem ret_nat {k : IntKind} {a b : Int} (h : a = b) : Ending.returned (.int k a) = .returned (.int k b) := by rw [h]
theorem nodes_one (d : Nat) (t : Ty (d + 1)) : nodes (d + 1) [t] = (if t.1 = 4 then 0 else 1) + nodes d t.2.2.2.2 := by rw [nodes, nodes]; omega
theorem many_one (d : Nat) (t : Ty (d + 1)) : many (d + 1) [t] = 1 + many d t.2.2.2.2 := by rw [many, many]; omega
theorem deep_one (d : Nat) (t : Ty (d + 1)) : deep (d + 1) [t] = 1 + deep d t.2.2.2.2 := by rw [deep, deep]; omega
theorem nodes_at {d : Nat} {ts : List (Ty d)} {k : Nat} (h : k < ts.length) : nodes d (ts.take (k + 1)) = nodes d (ts.take k) + nodes d [ts[k]] := by rw [List.take_succ_eq_append_getElem h, nodes_append]
theorem deep_at {d : Nat} {ts : List (Ty d)} {k : Nat} (h : k < ts.length) : deep d (ts.take (k + 1)) = max (deep d (ts.take k)) (deep d [ts[k]]) := by rw [List.take_succ_eq_append_getElem h, deep_append]
theorem many_in {d : Nat} {ts : List (Ty d)} {k : Nat} (h : k < ts.length) : many d (ts.take k) + many d [ts[k]] ≤ many d ts := by
  have e : many d ts = many d (ts.take (k + 1)) + many d (ts.drop (k + 1)) := by rw [← many_append, List.take_append_drop]
  rw [e, List.take_succ_eq_append_getElem h, many_append]
  omega
theorem nodes_none : ∀ d, nodes d [] = 0
  | 0 => by rw [nodes]
  | _ + 1 => by rw [nodes]
theorem deep_none : ∀ d, deep d [] = 0
  | 0 => by rw [deep]
  | _ + 1 => by rw [deep]
end Go.Proofs.YtggfaadhhldnmaaGreatDoor
