/-
  coillaw2.SyntaxNamed, walked.
-/
import Derived.Test.YtcobnmjnhmcmkaaGreatDoorQRunsC
import Derived.Test.YtcobnmjnhmcmkaaGreatDoorQPartsLaw
import Derived.Test.YtcobnmjnhmcmkaaGreatDoorQEqG
import Derived.Test.YtcobnmjnhmcmkaaGreatDoorQNamedPure
import Derived.Test.YtcobnmjnhmcmkaaGreatDoorQRegG
namespace Go.Proofs.YtcobnmjnhmcmkaaGreatDoor
open Go Go.RowKit Lx

/-- names, and the room of their slice. -/
theorem names_own {k : Nat} {W : World} {v : Value} {ts : List (Ty k)} (h : TyRow W k v ts) (hz : szL k ts ≤ 1000000) :
    Calls Tryz.prog 14 #[v] W fun e w' => (∃ (p : Option Addr) (c : Nat), e = .returned (.slice p (addTs k [] ts).length c) ∧ (addTs k [] ts).length ≤ c ∧ SRow w' (.slice p (addTs k [] ts).length c) (addTs k [] ts)) ∧ Below W.heap.size W w' :=
  (Names_any k v ts W h (fits_of_sz hz) (Nat.le_trans (many_szL _ _) hz)).mono fun e w' ⟨hb, u, he, ho⟩ => by
    obtain ⟨p, c, rfl, hc⟩ : ∃ p c, u = .slice p (addTs k [] ts).length c ∧ (addTs k [] ts).length ≤ c := by
      rcases ho.2 with ⟨rfl, h0⟩ | ⟨g, cap, cur, rfl, _, _, hc, _⟩
      · exact ⟨none, 0, by rw [h0], by omega⟩
      · exact ⟨_, _, rfl, hc⟩
    exact ⟨⟨p, c, he, hc, SRow.of_owns ho⟩, hb⟩
theorem SRow.take {W : World} {p : Option Addr} {c n : Nat} {ys xs : List Bs} (h : SRow W (.slice p ys.length c) ys) (e : ys.take n = xs) (hn : xs.length = n) : SRow W (.slice p n c) xs := by
  obtain ⟨p', c', e', hp⟩ := h
  injection e' with e1 e2 e3
  subst e1 e3
  refine ⟨p, c, by rw [hn], fun j t ht => hp j t ?_⟩
  rw [← e, List.getElem?_take] at ht
  split at ht
  · exact ht
  · cases ht
theorem nodup_ne {ys : List Bs} {m j : Nat} (h : ys.Nodup) (hm : m < j) (hj : j < ys.length) : ys[j] ≠ ys[m] := fun e => by
  have := List.pairwise_iff_getElem.1 h m j (by omega) hj hm
  exact this e.symm
/-- a slice that was just made of n types. -/
def VSl (n : Nat) (O : Obj) (v : Value) (W : World) : Prop := ∃ g, v = .slice (some ⟨g, 0, none⟩) n n ∧ W.heap[g]? = some O
theorem VSl.on {n : Nat} {O : Obj} {v : Value} {W W' : World} (h : VSl n O v W) (hb : Below W.heap.size W W') : VSl n O v W' := by
  obtain ⟨g, e, hg⟩ := h
  exact ⟨g, e, kp hb hg⟩
/-- what an operation of SyntaxNamed's last row leaves, by its sort. -/
def VN (vp va vb u1 : Value) (pO aO abO baO : Obj) (xs : List Bs) (na da nab : Nat) : Nat → Value → World → Prop
  | 0, v, _ => v = vp
  | 1, v, _ => v = va
  | 2, v, _ => v = vb
  | 3, v, W => VSl 1 pO v W
  | 4, v, W => VSl 1 aO v W
  | 5, v, W => VSl 2 abO v W
  | 6, v, W => VSl 2 baO v W
  | 7, v, _ => v = .int .i64 ((na : Int) + 1)
  | 8, v, _ => v = .int .i64 (na : Int)
  | 9, v, _ => v = .int .i64 ((da : Int) + 1)
  | 10, v, _ => v = .int .i64 (da : Int)
  | 11, v, _ => v = .int .i64 (nab : Int)
  | 12, v, _ => v = .int .i64 0
  | 13, v, W => SRow W v xs
  | 14, v, _ => v = u1
  | 15, v, _ => v = .bool false
  | _ + 16, v, _ => v = .bool true
theorem VN.on {vp va vb u1 : Value} {pO aO abO baO : Obj} {xs : List Bs} {na da nab : Nat} {v : Value} {W W' : World} : ∀ c : Nat, VN vp va vb u1 pO aO abO baO xs na da nab c v W → Below W.heap.size W W' → VN vp va vb u1 pO aO abO baO xs na da nab c v W'
  | 0, h, _ => h
  | 1, h, _ => h
  | 2, h, _ => h
  | 3, h, hb => VSl.on h hb
  | 4, h, hb => VSl.on h hb
  | 5, h, hb => VSl.on h hb
  | 6, h, hb => VSl.on h hb
  | 7, h, _ => h
  | 8, h, _ => h
  | 9, h, _ => h
  | 10, h, _ => h
  | 11, h, _ => h
  | 12, h, _ => h
  | 13, h, hb => SRow.below h hb
  | 14, h, _ => h
  | 15, h, _ => h
  | _ + 16, h, _ => h
def cls16 (i : Nat) : Nat := [0, 3, 7, 1, 4, 8, 7, 16, 16, 0, 3, 13, 14, 16, 16, 16, 0, 3, 9, 1, 4, 10, 9, 16, 16, 16, 0, 1, 15, 16, 16, 16, 1, 2, 5, 11, 2, 1, 6, 11, 16, 16, 16, 12, 16, 16, 16, 16, 16, 16].getD i 16
theorem vbool {b : Bool} (h : b = true) : Value.bool b = .bool true := by rw [h]
set_option maxRecDepth 100000 in
theorem nodes_enter (args : Array Value) (w : World) : Sem.run Tryz.prog (callFunc 12 args) w = .ok (.enter 12 args) w := by kernel_rfl
set_option maxRecDepth 100000 in
theorem names_enter (args : Array Value) (w : World) : Sem.run Tryz.prog (callFunc 14 args) w = .ok (.enter 14 args) w := by kernel_rfl
set_option maxRecDepth 100000 in
theorem depth_enter (args : Array Value) (w : World) : Sem.run Tryz.prog (callFunc 15 args) w = .ok (.enter 15 args) w := by kernel_rfl
set_option maxRecDepth 100000 in
theorem texts_enter (args : Array Value) (w : World) : Sem.run Tryz.prog (callFunc 63 args) w = .ok (.enter 63 args) w := by kernel_rfl
set_option maxRecDepth 100000 in
theorem same_enter (args : Array Value) (w : World) : Sem.run Tryz.prog (callFunc 50 args) w = .ok (.enter 50 args) w := by kernel_rfl
set_option maxRecDepth 100000 in
theorem runs_enter (args : Array Value) (w : World) : Sem.run Tryz.prog (callFunc 3 args) w = .ok (.enter 3 args) w := by kernel_rfl
abbrev twoO (a : Value × Value × Value × Value × Value) (b : Value × Value × Value × Value × Value) : Obj := .cells #[a.1, a.2.1, a.2.2.1, a.2.2.2.1, a.2.2.2.2, b.1, b.2.1, b.2.2.1, b.2.2.2.1, b.2.2.2.2] 26
end Go.Proofs.YtcobnmjnhmcmkaaGreatDoor
