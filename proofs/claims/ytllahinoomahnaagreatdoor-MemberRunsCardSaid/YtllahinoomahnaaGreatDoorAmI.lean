import Derived.Test.YtllahinoomahnaaGreatDoorAmH
set_option linter.unusedSimpArgs false
namespace Go.Proofs.YtllahinoomahnaaGreatDoor.Am
open Go

section
variable {P : Program} {E : Env} {ρ : Rho} {s : St} {w : World} {t : List Value} {a : Act} {o : Oper} {k : K2} {Q : Exit → Act → World → Prop}
theorem L2.take_drop_of {c : List Value} {cs : List Value} (hl : L2 ρ cs (c.take cs.length)) {off n : Nat} (h : off + n ≤ cs.length) : L2 ρ ((cs.drop off).take n) ((c.drop off).take n) := by
  have := (hl.drop off).take n
  rwa [List.drop_take, List.take_take, Nat.min_eq_left (by omega)] at this
theorem op_store (g : Good P E) (hR : R ρ s w) (hT : TR ρ t a) {ty : TypeId} {x y : Operand} (ho : o.op = .store ty x y) (h : opStoreK E s ty (opv t y) k (opv t x) = true) : o.wp P a w (Nx ρ s w k o a) Q := by
  have hx := hT.opv x
  have hy := hT.opv y
  generalize opv t x = X at h hx
  unfold opStoreK at h
  split at h
  · rename_i ad
    split at h
    · rename_i r hr
      unfold storeK2 at h
      split at h
      · rename_i vs hvs
        split at h
        · rename_i n hn
          cases hq : (Nat.beq vs.length n && Nat.ble (ad.off + n) r.cells.length) with
          | false => rw [hq] at h; cases h
          | true =>
            rw [hq] at h
            simp only [cond_true] at h
            simp only [Bool.and_eq_true, Nat.ble_eq] at hq
            have hlen : vs.length = n := Nat.eq_of_beq_eq_true hq.1
            rw [storeK3, forceL_eq] at h
            obtain ⟨s', h1, h2, h3, h3m⟩ := putRowK_ok h
            obtain ⟨l1, l2⟩ := cells_ok hvs hy
            obtain ⟨z, hz, e⟩ := ptr_vr hx
            obtain ⟨c, c1, c2, c3, c4, c5, c6⟩ := hR.row hr hz
            obtain ⟨i, hi, rfl⟩ := g.size _ _ hn
            have hcs : (a.eval y).cells.toList.length = i.size := by rw [l1.1, hlen]
            have hle : ad.off + (a.eval y).cells.toList.length ≤ c.size := by rw [hcs, c2]; omega
            obtain ⟨c', d1, d2, d3, d4, d5, d6, d7⟩ := setCells_heap (a.eval y).cells.toList ad.off w c c1 hle
            have hst := run_storeCells_cells (P := P) z.1 ad.off (a.eval y).cells.toList 0 w (fun j hj => by
                rw [cell_at_block c1]
                have : ad.off + j < c.size := by omega
                simp [this]) (fun j hj => frozen_at_block c1 _) (fun v hv => by
                obtain ⟨j, hj⟩ := List.mem_iff_getElem?.1 hv
                have hj' : j < vs.length := by rw [← l1.1]; exact (List.getElem?_eq_some_iff.1 hj).1
                obtain ⟨u, hu, hvr⟩ := l1.2 j vs[j] (by simp)
                rw [hj] at hu
                obtain rfl := Option.some.inj hu
                exact one_cell (hvr.one (l2 _ (by simp))))
            rw [Nat.add_zero] at hst
            have hc's : c'.size = c.size := by have := congrArg List.length d2; rw [putN_len] at this; simpa using this
            have hpl : (putN r.cells ad.off vs).length = r.cells.length := putN_len _ _ _
            have hvl : ad.off + vs.length ≤ r.cells.length := by rw [hlen]; exact hq.2
            obtain ⟨r1, r2⟩ := hR.write (s' := s') (w' := w.setCells z.1 ad.off (a.eval y).cells.toList) (c := c') (cs := putN r.cells ad.off vs) hr hz c6.1 h2 (fun m q hm => by
                rcases h3 m q hm with ⟨e, e'⟩ | h4
                · exact .inl ⟨e, (Option.some.inj e').symm⟩
                · exact .inr h4) h3m d1 (by rw [d4]; exact Nat.le_refl _) (fun j _ hj => d3 j hj) (by
                rw [d2, hpl]
                have hp := c4.putN l1 hvl
                refine ⟨by rw [List.length_take, putN_len, hpl]; simp; omega, fun j v hj => ?_⟩
                obtain ⟨u, hu, hv⟩ := hp.2 j v hj
                refine ⟨u, ?_, hv⟩
                have hjl : j < r.cells.length := by rw [← hpl]; exact (List.getElem?_eq_some_iff.1 hj).1
                rw [List.getElem?_take, if_pos hjl]
                rw [putN_get _ _ _ _ (by rw [List.length_take, hcs]; simp; omega)] at hu
                rw [putN_get _ _ _ _ (by rw [hcs]; simp; omega)]
                split at hu
                · rename_i hc; rw [if_pos hc]; exact hu
                · rename_i hc; rw [if_neg hc]
                  rw [List.getElem?_take, if_pos hjl] at hu
                  exact hu) (by rw [hpl, hc's, c2]; exact c3) (by rw [hc's, c2]) (putN_mem hvl c5 l2) (fun e => by rw [hpl]; exact c6.2 e) d5 d6 d7 c1
            unfold Oper.wp
            have hrun : (execOp a.eval o).run P w = .ok .skip (w.setCells z.1 ad.off (a.eval y).cells.toList) := by
              have hne : ¬ ((a.eval y).cells.size ≠ i.size) := by simpa using hcs
              simp [execOp, ho, e, Instr.storeAt, Instr.sureAddr, storeVar, run_sizeOf hi, hst]
              simpa using hcs
            rw [hrun]
            exact ⟨undef, undef, ρ, s', rfl, undef_vr ρ, r1, r2, h1⟩
        · cases h
      · cases h
    · cases h
  · cases h
theorem catO_inv {x : List Value} {y : Option (List Value)} {z : List Value} (h : catO x y = some z) : ∃ y', y = some y' ∧ z = x ++ y' := by
  cases y with
  | none => cases h
  | some y => exact ⟨y, rfl, (Option.some.inj h).symm⟩
/-- cells that a slice shows. -/
theorem rowPart_ok (hR : R ρ s w) {m c size : Nat} {b2 : Option Addr} {new : List Value} {u : Value} (h : rowPart s (m * size) b2 = some new) (hm : 0 < m) (hu : VR ρ (.slice b2 m c) u) : ∃ (ad : Addr) (cap : Nat) (ys : List Value), u = .slice (some ad) m cap ∧ L2 ρ new ys ∧ (∀ v ∈ new, one v = true) ∧ new.length = m * size ∧ ∀ (j : Nat) (v : Value), ys[j]? = some v → w.cell? (ad.add j) = some v := by
  cases b2 with
  | none =>
    obtain ⟨rfl, _⟩ : m = 0 ∧ u = .slice none 0 0 := by rw [VR] at hu; exact hu
    omega
  | some ad =>
    obtain ⟨b, cap, y, rfl, h1, h2, h3, h4, h5⟩ := slice_vr hu
    obtain rfl := h5 (.inr hm)
    unfold rowPart at h
    simp only at h
    split at h
    · rename_i r hr
      cases hq : Nat.ble (ad.off + m * size) r.cells.length with
      | false => rw [hq] at h; cases h
      | true =>
        rw [hq] at h
        simp only [cond_true, Option.some.injEq] at h
        have hle : ad.off + m * size ≤ r.cells.length := Nat.le_of_ble_eq_true hq
        obtain ⟨c', c1, c2, c3, c4, c5, c6⟩ := hR.row hr h3
        subst h
        rw [takeN_eq, dropN_eq]
        refine ⟨_, cap, (c'.toList.drop ad.off).take (m * size), rfl, L2.take_drop_of c4 hle, fun v hv => c5 v (List.mem_of_mem_drop (List.mem_of_mem_take hv)), by rw [List.length_take, List.length_drop]; omega, fun j v hj => ?_⟩
        rw [addr_add, cell_at_block c1, ← Array.getElem?_toList]
        rw [List.getElem?_take] at hj
        split at hj
        · rw [List.getElem?_drop] at hj; exact hj
        · cases hj
    · cases h
theorem l2_one {xs ys : List Value} (h : L2 ρ xs ys) (ho : ∀ v ∈ xs, one v = true) : ∀ u ∈ ys, u.oneCell' = true := fun u hu => by
  obtain ⟨j, hj⟩ := List.mem_iff_getElem?.1 hu
  have hj' : j < xs.length := by rw [← h.1]; exact (List.getElem?_eq_some_iff.1 hj).1
  obtain ⟨u', hu', hvr⟩ := h.2 j xs[j] (by simp)
  rw [hj] at hu'
  obtain rfl := Option.some.inj hu'
  exact one_cell (hvr.one (ho _ (by simp)))
end
end Go.Proofs.YtllahinoomahnaaGreatDoor.Am
