import Derived.Test.YtllahinoomahnaaGreatDoorAmF
set_option linter.unusedSimpArgs false
namespace Go.Proofs.YtllahinoomahnaaGreatDoor.Am
open Go

theorem one_cell {u : Value} (h : one u = true) : u.oneCell' = true := by cases u <;> simp [one] at h <;> rfl
theorem setCell_heap {w : World} {b o : Nat} {c : Array Value} {e : TypeId} (h : w.heap[b]? = some (.cells c e)) (v : Value) : (w.setCell ⟨b, o, none⟩ v).heap[b]? = some (.cells (c.setIfInBounds o v) e) := by
  simp [World.setCell, Array.getElem?_modify, h]
theorem setCell_other {w : World} {b o k : Nat} (v : Value) (h : k ≠ b) : (w.setCell ⟨b, o, none⟩ v).heap[k]? = w.heap[k]? := by
  simp [World.setCell, Array.getElem?_modify, Ne.symm h]
theorem setCells_heap {b : Nat} {e : TypeId} : ∀ (vs : List Value) (o : Nat) (w : World) (c : Array Value), w.heap[b]? = some (.cells c e) → o + vs.length ≤ c.size →
    ∃ c' : Array Value, (w.setCells b o vs).heap[b]? = some (.cells c' e) ∧ c'.toList = putN c.toList o vs ∧ (∀ k, k ≠ b → (w.setCells b o vs).heap[k]? = w.heap[k]?) ∧ (w.setCells b o vs).heap.size = w.heap.size ∧ (w.setCells b o vs).os = w.os ∧ (w.setCells b o vs).tape = w.tape ∧ (w.setCells b o vs).output = w.output
  | [], o, w, c, h, _ => ⟨c, h, by
      apply List.ext_getElem?
      intro i
      by_cases hl : o ≤ c.toList.length
      · rw [putN_get _ _ _ _ (by simpa using hl)]
        simp
        intro h1 h2; omega
      · rename_i hlen
        simp at hlen hl; omega, fun _ _ => rfl, rfl, rfl, rfl, rfl⟩
  | v :: r, o, w, c, h, hl => by
    simp only [List.length_cons] at hl
    obtain ⟨c', h1, h2, h3, h4, h5, h6, h7⟩ := setCells_heap r (o + 1) (w.setCell ⟨b, o, none⟩ v) _ (setCell_heap h v) (by simp; omega)
    refine ⟨c', h1, ?_, fun k hk => (h3 k hk).trans (setCell_other v hk), h4.trans (by simp [World.setCell]), h5, h6, h7⟩
    rw [h2]
    apply List.ext_getElem?
    intro i
    rw [putN_get _ _ _ _ (by simp; omega), putN_get _ _ _ _ (by simp; omega), Array.toList_setIfInBounds, List.getElem?_set, List.length_cons]
    by_cases h8 : o = i
    · subst h8
      rw [if_neg (by omega), if_pos rfl, if_pos (by simp; omega), if_pos ⟨Nat.le_refl _, by omega⟩]
      simp
    · rw [if_neg h8]
      by_cases h9 : o + 1 ≤ i ∧ i < o + 1 + r.length
      · rw [if_pos h9, if_pos ⟨by omega, by omega⟩, show i - o = (i - (o + 1)) + 1 by omega, List.getElem?_cons_succ]
      · rw [if_neg h9, if_neg (by omega)]
section
variable {ρ : Rho}
theorem cells_ok {v u : Value} {vs : List Value} (h : cellsO v = some vs) (hv : VR ρ v u) : L2 ρ vs u.cells.toList ∧ ∀ x ∈ vs, one x = true := by
  have gen : one v = true → vs = [v] → L2 ρ vs u.cells.toList ∧ ∀ x ∈ vs, one x = true := fun ho e => by
    subst e
    have hu := hv.one ho
    have : u.cells.toList = [u] := by cases u <;> simp [one] at hu <;> rfl
    rw [this]
    exact ⟨(L2.nil ρ).cons hv, fun x hx => by rw [List.mem_singleton.1 hx]; exact ho⟩
  cases v with
  | agg cs =>
    simp only [cellsO, Option.some.injEq] at h
    subst h
    obtain ⟨ys, rfl, h1, h2⟩ := vr_agg.1 hv
    exact ⟨h1, h2⟩
  | tuple cs => simp [cellsO] at h
  | chan r => simp [cellsO] at h
  | _ => simp only [cellsO, Option.some.injEq] at h; exact gen rfl h.symm
theorem L2.putN {xs ys : List Value} (h : L2 ρ xs ys) {vs us : List Value} (hv : L2 ρ vs us) {n : Nat} (hn : n + vs.length ≤ xs.length) : L2 ρ (Am.putN xs n vs) (Am.putN ys n us) := by
  refine ⟨by rw [putN_len, putN_len, h.1], fun i v hi => ?_⟩
  rw [putN_get _ _ _ _ hn] at hi
  rw [putN_get _ _ _ _ (by rw [h.1, hv.1]; exact hn), hv.1]
  split at hi
  · rename_i hc; rw [if_pos hc]; exact hv.2 _ v hi
  · rename_i hc; rw [if_neg hc]; exact h.2 _ v hi
theorem putN_mem {xs vs : List Value} {n : Nat} (hn : n + vs.length ≤ xs.length) {p : Value → Prop} (h1 : ∀ x ∈ xs, p x) (h2 : ∀ x ∈ vs, p x) : ∀ x ∈ putN xs n vs, p x := by
  intro x hx
  obtain ⟨i, hi⟩ := List.mem_iff_getElem?.1 hx
  rw [putN_get _ _ _ _ hn] at hi
  split at hi
  · exact h2 x (List.mem_of_getElem? hi)
  · exact h1 x (List.mem_of_getElem? hi)
theorem fold_set (off : Nat) : ∀ (l : List Value) (k : Nat) (cs : Array Value), off + k + l.length ≤ cs.size → ((l.zipIdx k).foldl (fun cs p => cs.setIfInBounds (off + p.2) p.1) cs).toList = putN cs.toList (off + k) l
  | [], k, cs, h => by
    apply List.ext_getElem?
    intro i
    rw [putN_get _ _ _ _ (by simpa using h)]
    simp; intro h1 h2; omega
  | v :: r, k, cs, h => by
    simp only [List.length_cons] at h
    rw [List.zipIdx_cons, List.foldl_cons, fold_set off r (k + 1) _ (by simp; omega)]
    apply List.ext_getElem?
    intro i
    rw [putN_get _ _ _ _ (by simp; omega), putN_get _ _ _ _ (by simp; omega), Array.toList_setIfInBounds, List.getElem?_set, List.length_cons]
    by_cases h8 : off + k = i
    · subst h8
      rw [if_neg (by omega), if_pos rfl, if_pos (by simp; omega), if_pos ⟨Nat.le_refl _, by omega⟩]
      simp
    · rw [if_neg h8]
      by_cases h9 : off + (k + 1) ≤ i ∧ i < off + (k + 1) + r.length
      · rw [if_pos h9, if_pos ⟨by omega, by omega⟩, show i - (off + k) = (i - (off + (k + 1))) + 1 by omega, List.getElem?_cons_succ]
      · rw [if_neg h9, if_neg (by omega)]
theorem fill_ok {E : Env} {t : List Value} {a : Act} (hT : TR ρ t a) {place : Nat → Option (Nat × Nat)} {placeC : Nat → Option (Nat × Nat)} (hp : ∀ i p, place i = some p → placeC i = some p) : ∀ (ps : List (Nat × Operand)) (cs cs' ys : List Value), fillL E place t ps cs = some cs' → L2 ρ cs ys → (∀ v ∈ cs, one v = true) →
    ∃ ys', Instr.fill placeC ys.toArray (ps.map fun p => (p.1, a.eval p.2)) = some ys'.toArray ∧ L2 ρ cs' ys' ∧ (∀ v ∈ cs', one v = true) ∧ cs'.length = cs.length
  | [], cs, cs', ys, h, hl, ho => by
    simp only [fillL, Option.some.injEq] at h
    subst h
    exact ⟨ys, by simp [Instr.fill], hl, ho, rfl⟩
  | (i, x) :: r, cs, cs', ys, h, hl, ho => by
    rw [fillL] at h
    cases hpi : place i with
    | none => rw [hpi] at h; cases h
    | some p =>
      rw [hpi] at h
      simp only at h
      cases hc : cellsO (opv t x) with
      | none => rw [hc] at h; cases h
      | some vs =>
        rw [hc] at h
        simp only at h
        cases hq : (Nat.beq vs.length p.2 && Nat.ble (p.1 + vs.length) cs.length) with
        | false => rw [hq] at h; cases h
        | true =>
          rw [hq] at h
          simp only [cond_true] at h
          simp only [Bool.and_eq_true, Nat.ble_eq] at hq
          have hq1 : vs.length = p.2 := Nat.eq_of_beq_eq_true hq.1
          obtain ⟨l1, l2⟩ := cells_ok hc (hT.opv x)
          have hsz : (a.eval x).cells.size = vs.length := by have := l1.1; simpa using this
          obtain ⟨ys', r1, r2, r3, r4⟩ := fill_ok hT hp r _ _ _ h (hl.putN l1 hq.2) (putN_mem hq.2 ho l2)
          refine ⟨ys', ?_, r2, r3, r4.trans (putN_len _ _ _)⟩
          have hfold : ((a.eval x).cells.zipIdx.foldl (fun cs q => cs.setIfInBounds (p.1 + q.2) q.1) ys.toArray) = (putN ys p.1 (a.eval x).cells.toList).toArray := by
            apply Array.ext'
            rw [← Array.foldl_toList, Array.toList_zipIdx]
            have := fold_set p.1 (a.eval x).cells.toList 0 ys.toArray (by simp; rw [hsz, hl.1]; exact hq.2)
            simpa using this
          have hne : ¬ ((a.eval x).cells.size ≠ p.2 ∨ p.1 + (a.eval x).cells.size > ys.toArray.size) := by
            rw [hsz]; simp; rw [hl.1]; exact ⟨hq1, hq.2⟩
          rw [List.map_cons, Instr.fill, hp i p hpi]
          simp only
          rw [if_neg (by simpa using hne)]
          rw [← r1]
          congr 1
end
end Go.Proofs.YtllahinoomahnaaGreatDoor.Am
