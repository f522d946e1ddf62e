/-
  Names of types: each once, in the order in which they first come; a tree one deeper. No world but rows.
-/
import Derived.Test.YtcobnmjnhmcmkaaGreatDoorQKeepG
import Derived.Test.YtcobnmjnhmcmkaaGreatDoorQNamesG
import Derived.Test.YtcobnmjnhmcmkaaGreatDoorQOwnG
namespace Go.Proofs.YtcobnmjnhmcmkaaGreatDoor
open Go Go.RowKit Lx

theorem addN_pre (ns : List Bs) (s : Bs) : ∃ l, addN ns s = ns ++ l := by
  unfold addN; split
  · exact ⟨[], by simp⟩
  · exact ⟨[s], rfl⟩
/-- names are added behind those that are there. -/
theorem addTs_pre : ∀ (d : Nat) (ts : List (Ty d)) (ns : List Bs), ∃ l, addTs d ns ts = ns ++ l
  | 0, _, ns => ⟨[], by simp [addTs]⟩
  | _ + 1, [], ns => ⟨[], by simp [addTs]⟩
  | d + 1, t :: r, ns => by
    rw [addTs_cons]
    obtain ⟨l1, h1⟩ : ∃ l, (if t.1 = 4 then addN ns t.2.1 else ns) = ns ++ l := by
      split
      · exact addN_pre _ _
      · exact ⟨[], by simp⟩
    obtain ⟨l2, h2⟩ := addTs_pre d t.2.2.2.2 (if t.1 = 4 then addN ns t.2.1 else ns)
    obtain ⟨l3, h3⟩ := addTs_pre (d + 1) r (addTs d (if t.1 = 4 then addN ns t.2.1 else ns) t.2.2.2.2)
    exact ⟨l1 ++ l2 ++ l3, by rw [h3, h2, h1]; simp⟩
theorem addTs_sub {d : Nat} {ts : List (Ty d)} {ns : List Bs} {s : Bs} (h : s ∈ ns) : s ∈ addTs d ns ts := by
  obtain ⟨l, e⟩ := addTs_pre d ts ns
  rw [e]; simp [h]
/-- where all names are there none is added. -/
theorem addTs_known : ∀ (d : Nat) (ts : List (Ty d)) (ns ns' : List Bs), (∀ s ∈ addTs d ns ts, s ∈ ns') → addTs d ns' ts = ns'
  | 0, _, _, _, _ => by simp [addTs]
  | _ + 1, [], _, _, _ => by simp [addTs]
  | d + 1, t :: r, ns, ns', h => by
    rw [addTs_cons] at h ⊢
    have h1 : ∀ s ∈ addTs d (if t.1 = 4 then addN ns t.2.1 else ns) t.2.2.2.2, s ∈ ns' := fun s hs => h s (addTs_sub hs)
    have h2 : (if t.1 = 4 then addN ns' t.2.1 else ns') = ns' := by
      split
      · rename_i h4
        rw [if_pos h4] at h1
        have : t.2.1 ∈ ns' := h1 _ (addTs_sub (by unfold addN; split <;> simp [*]))
        rw [addN, if_pos this]
      · rfl
    rw [h2, addTs_known d _ _ ns' h1]
    exact addTs_known (d + 1) r _ ns' h
theorem addN_nodup {ns : List Bs} {s : Bs} (h : ns.Nodup) : (addN ns s).Nodup := by
  unfold addN; split
  · exact h
  · rename_i hs
    rw [List.nodup_append]
    exact ⟨h, by simp, fun a ha b hb e => hs (by rw [List.mem_singleton] at hb; rw [← hb, ← e]; exact ha)⟩
theorem addTs_nodup : ∀ (d : Nat) (ts : List (Ty d)) (ns : List Bs), ns.Nodup → (addTs d ns ts).Nodup
  | 0, _, _, h => by simpa [addTs] using h
  | _ + 1, [], _, h => by simpa [addTs] using h
  | d + 1, t :: r, ns, h => by
    rw [addTs_cons]
    refine addTs_nodup (d + 1) r _ (addTs_nodup d _ _ ?_)
    split
    · exact addN_nodup h
    · exact h
theorem addTs_two {d : Nat} (ns : List Bs) (a b : Ty (d + 1)) : addTs (d + 1) ns [a, b] = addTs (d + 1) (addTs (d + 1) ns [a]) [b] := by
  rw [addTs_cons, addTs_cons (ns := ns)]; rfl
theorem names_twice {d : Nat} (a : Ty (d + 1)) : addTs (d + 1) [] [a, a] = addTs (d + 1) [] [a] := by
  rw [addTs_two]; exact addTs_known _ _ [] _ fun s hs => hs
theorem names_ptr {d : Nat} (a : Ty (d + 1)) : addTs (d + 2) [] [((5, [], [], [], [a]) : Ty (d + 2))] = addTs (d + 1) [] [a] := by
  rw [addTs_cons]; rfl
theorem nodes_ptr {d : Nat} (a : Ty (d + 1)) : nodes (d + 2) [((5, [], [], [], [a]) : Ty (d + 2))] = nodes (d + 1) [a] + 1 := by
  rw [nodes_one (d + 1) (5, [], [], [], [a])]; show 1 + nodes (d + 1) [a] = _; omega
theorem deep_ptr {d : Nat} (a : Ty (d + 1)) : deep (d + 2) [((5, [], [], [], [a]) : Ty (d + 2))] = deep (d + 1) [a] + 1 := by
  rw [deep_one (d + 1) (5, [], [], [], [a])]; show 1 + deep (d + 1) [a] = _; omega
theorem nodes_swap {d : Nat} (a b : Ty (d + 1)) : nodes (d + 1) [a, b] = nodes (d + 1) [b, a] := by
  rw [show [a, b] = [a] ++ [b] from rfl, show [b, a] = [b] ++ [a] from rfl, nodes_append, nodes_append]; omega
/-- the same tree, one deeper. -/
def liftTy : (d : Nat) → Ty d → Ty (d + 1)
  | 0, t => nomatch t
  | d + 1, t => (t.1, t.2.1, t.2.2.1, t.2.2.2.1, t.2.2.2.2.map (liftTy d))
theorem lift_row {W : World} : ∀ (d : Nat) (v : Value) (ts : List (Ty d)), TyRow W d v ts → TyRow W (d + 1) v (ts.map (liftTy d))
  | 0, v, ts, h => by
    obtain ⟨p, c, rfl⟩ := h
    cases ts with
    | nil => exact ⟨p, c, rfl, fun j t h => by simp at h⟩
    | cons t _ => exact nomatch t
  | d + 1, v, ts, h => by
    obtain ⟨p, c, rfl, hp⟩ := h
    refine ⟨p, c, by simp, fun j t ht => ?_⟩
    rw [List.getElem?_map] at ht
    rcases hj : ts[j]? with _ | u
    · rw [hj] at ht; cases ht
    · rw [hj] at ht
      obtain rfl : liftTy (d + 1) u = t := by simpa using ht
      obtain ⟨g, o, vn, ve, vp, rfl, a0, a1, a2, a3, a4, r1, r2, r3⟩ := hp j u hj
      exact ⟨g, o, vn, ve, vp, rfl, a0, a1, a2, a3, a4, r1, r2, lift_row d vp _ r3⟩
theorem lift_sz : ∀ (d : Nat) (t : Ty d), szD (d + 1) (liftTy d t) = szD d t
  | 0, t => nomatch t
  | d + 1, t => by
    have h : ((t.2.2.2.2.map (liftTy d)).map (szD (d + 1))) = t.2.2.2.2.map (szD d) := by
      rw [List.map_map]; exact List.map_congr_left fun u _ => lift_sz d u
    show 1 + t.2.1.length + t.2.2.1.length + t.2.2.2.1.length + sumL t.2.2.1 + ((t.2.2.2.2.map (liftTy d)).map (szD (d + 1))).sum = _
    rw [h]; rfl
theorem lift_wf : ∀ (d : Nat) (t : Ty d), WfD d t → WfD (d + 1) (liftTy d t)
  | 0, t, _ => nomatch t
  | d + 1, t, ⟨h1, h2, h3, h4, h5, h6⟩ => ⟨h1, h2, h3, h4, (by show (t.2.2.2.2.map (liftTy d)).length ≤ _; simpa using h5), fun u hu => by
    obtain ⟨x, hx, rfl⟩ := List.mem_map.1 hu
    exact lift_wf d x (h6 x hx)⟩
theorem lift_val {W : World} {d : Nat} {v : Value} {t : Ty (d + 1)} (h : TyVal W d v t) : TyVal W (d + 1) v (liftTy (d + 1) t) := by
  obtain ⟨pn, pe, pp, cn, ce, cp, rfl, r1, r2, r3⟩ := h
  have := lift_row d _ _ r3
  exact ⟨pn, pe, pp, cn, ce, cp, by simp [liftTy], r1, r2, by simpa [liftTy] using this⟩
theorem ptr_ne {d : Nat} (a : Ty (d + 1)) : ((5, [], [], [], [a]) : Ty (d + 2)) ≠ liftTy (d + 1) a := fun e => by
  have h := congrArg (szD (d + 2)) e
  rw [lift_sz] at h
  have h2 : szD (d + 2) ((5, [], [], [], [a]) : Ty (d + 2)) = 1 + 0 + 0 + 0 + 0 + (szD (d + 1) a + 0) := rfl
  omega
end Go.Proofs.YtcobnmjnhmcmkaaGreatDoor
