import Derived.Test.YtllahinoomahnaaGreatDoorAmI
set_option linter.unusedSimpArgs false
namespace Go.Proofs.YtllahinoomahnaaGreatDoor.Am
open Go

section
variable {P : Program} {E : Env} {ρ : Rho} {s : St} {w : World} {t : List Value} {a : Act} {o : Oper} {k : K2} {Q : Exit → Act → World → Prop}
/-- what an append leaves. -/
def Ap (ρ : Rho) (s : St) (w : World) (k : K2) (u : Value) (w' : World) : Prop := ∃ v ρ' s', VR ρ' v u ∧ R ρ' s' w' ∧ Ext ρ s w ρ' s' w' ∧ k v s' = true
theorem append_new (hR : R ρ s w) {s0 : St} {w' : World} {cs xs : List Value} {e : TypeId} {size N : Nat} {v' : Value} (hs0 : s0.c = s.c) (hs0m : ∀ m, s0.gm m = s.gm m) (hs0g : ∀ m q, s0.get m = some q → s.get m = some q) (hn : newK s0 cs e size (fun n s => k (.slice (some ⟨n, 0, none⟩) N 0) s) = true) (how : w'.ownsRow w.heap.size e size v' N xs) (hN : 0 < N) (hsz0 : size ≠ 0) (hgr : w.grownBy w' none) (hl : L2 ρ cs xs) (ho : ∀ v ∈ cs, one v = true) : Ap ρ s w k v' w' := by
  obtain ⟨s', h1, h2, h3, h3m⟩ := newK_ok hn
  rw [hs0] at h1 h2 h3
  rcases how.2 with ⟨_, h0⟩ | ⟨g, cap, cur, rfl, q1, q2, q3, q4, q5, q6⟩
  · omega
  · have hlen : cs.length = N * size := by rw [← hl.1, how.1]
    have hcs : cs.length ≤ cur.size := by rw [hlen, q5]; exact Nat.mul_le_mul_right _ q3
    obtain ⟨r1, r2⟩ := hR.new (w' := w') (b := g) (c := cur) (sz := size) h2 (fun m q hm => (h3 m q hm).imp id fun hh => ⟨hh.1, hs0g m q hh.2⟩) (fun m => (h3m m).trans (hs0m m)) q1 q2 hgr.size (fun j hj => hgr.block j hj (by simp)) (by rw [hlen, q6]; exact hl) hcs ho (fun e => absurd e hsz0) hgr.os hgr.tape hgr.output
    refine ⟨_, _, s', ?_, r1, r2, h1⟩
    rw [VR]
    exact ⟨_, cap, _, rfl, q3, .inl rfl, upd_same _ _ _, fun _ => by rw [q5]; exact Nat.le_refl _, fun _ => rfl⟩
theorem append_in (hR : R ρ s w) {s0 : St} {cs ys old : List Value} {size n m cap nm : Nat} {r : Row} {x : Nat × Nat × Nat} {c : Array Value} (hr : s.get nm = some r) (hx : ρ nm = some x) (hs0 : s0.c = s.c) (hs0m : ∀ m, s0.gm m = s.gm m) (hs0g : ∀ j q, s0.get j = some q → j ≠ nm ∧ s.get j = some q) (hn : newK s0 (old ++ cs) r.elem r.sz (fun n' s => k (.slice (some ⟨n', 0, none⟩) (n + m) 0) s) = true)
    (c1 : w.heap[x.1]? = some (.cells c r.elem)) (c2 : c.size = x.2.1) (c4 : L2 ρ old (c.toList.take old.length)) (c5 : ∀ v ∈ old, one v = true) (c6 : x.2.2 = r.sz) (hrl : old.length = n * size) (hl : L2 ρ cs ys) (hcl : cs.length = m * size) (ho : ∀ v ∈ cs, one v = true) (hcap : n + m ≤ cap) (hct : cap * size ≤ c.size) (hsz : r.sz = size) (hsz0 : size ≠ 0) : Ap ρ s w k (.slice (some ⟨x.1, 0, none⟩) (n + m) cap) (w.setCells x.1 (0 + n * size) ys) := by
  obtain ⟨s', h1, h2, h3, h3m⟩ := newK_ok hn
  rw [hs0] at h1 h2 h3
  have hyl : ys.length = m * size := by rw [hl.1, hcl]
  have hfit : n * size + m * size ≤ c.size := by rw [← Nat.add_mul]; exact Nat.le_trans (Nat.mul_le_mul_right _ hcap) hct
  obtain ⟨c', d1, d2, d3, d4, d5, d6, d7⟩ := setCells_heap ys (0 + n * size) w c c1 (by rw [hyl]; omega)
  have hc's : c'.size = c.size := by have := congrArg List.length d2; rw [putN_len] at this; simpa using this
  have hlen : (old ++ cs).length = n * size + m * size := by rw [List.length_append, hrl, hcl]
  obtain ⟨r1, r2⟩ := hR.grown (s' := s') (w' := w.setCells x.1 (0 + n * size) ys) (c := c') (cs := old ++ cs) hr hx c6 h2 (fun j q hj => (h3 j q hj).imp id fun hh => ⟨hh.1, hs0g j q hh.2⟩) (fun m => (h3m m).trans (hs0m m)) d1 (by rw [d4]; exact Nat.le_refl _) (fun j _ hj => d3 j hj) (by
    have e1 : (c'.toList.take (old ++ cs).length) = c.toList.take old.length ++ ys := by
      rw [d2, hlen, hrl]
      apply List.ext_getElem?
      intro j
      rw [List.getElem?_take]
      by_cases hj : j < n * size + m * size
      · rw [if_pos hj, putN_get _ _ _ _ (by rw [hyl]; simp; omega)]
        by_cases h4 : n * size ≤ j
        · rw [if_pos ⟨by omega, by omega⟩, List.getElem?_append_right (by rw [List.length_take]; simp; omega)]
          congr 1
          rw [List.length_take, Nat.min_eq_left (by simp; omega)]
          omega
        · rw [if_neg (by omega), List.getElem?_append_left (by rw [List.length_take]; simp; omega), List.getElem?_take, if_pos (by omega)]
      · rw [if_neg hj, List.getElem?_eq_none (by rw [List.length_append, List.length_take, hyl]; simp; omega)]
    rw [e1]
    exact c4.append hl) (by rw [hlen, hc's]; exact hfit) (by rw [hc's, c2]) (fun v hv => by
      rcases List.mem_append.1 hv with h4 | h4
      · exact c5 v h4
      · exact ho v h4) (fun e => absurd (hsz ▸ e) hsz0) d5 d6 d7 c1
  refine ⟨_, _, s', ?_, r1, r2, h1⟩
  rw [VR]
  exact ⟨_, cap, _, rfl, hcap, .inl rfl, upd_same _ _ _, fun _ => by rw [c6, hsz, ← c2]; exact hct, fun _ => rfl⟩
theorem append_none {t1 ty e : TypeId} {i : TypeInfo} (hund : P.underlying t1 = some (.slice e)) (hi : P.info? e = some i) {base b : Option Addr} {n c c2 : Nat} (hle : n ≤ c) : (Builtin.append_ #[t1, t1] ty #[.slice base n c, .slice b 0 c2]).run P w = .ok (.slice base n c) w := by
  cases b with
  | none =>
    cases base <;> simp [Builtin.append_, run_underlying hund, run_sizeOf hi, Builtin.lenOf, Builtin.firstCells, hle, storeCells]
  | some b =>
    cases base <;> simp [Builtin.append_, run_underlying hund, run_sizeOf hi, Builtin.lenOf, Builtin.firstCells, hle, loadCells, loadCellsFrom, storeCells]
theorem append_run (g : Good P E) (hR : R ρ s w) {t1 : TypeId} {X Y X' Y' : Value} (h : opApK2 E s X Y k (E.und t1) = true) (hX : VR ρ X X') (hY : VR ρ Y Y') (ty : TypeId) : ∃ u w', (Builtin.append_ #[t1, t1] ty #[X', Y']).run P w = .ok u w' ∧ Ap ρ s w k u w' := by
  unfold opApK2 at h
  split at h
  · rename_i e hd
    split at h
    · rename_i z hz
      obtain ⟨i, zv, hi, hz0, rfl, hsz, hb, hp⟩ := g.zero _ _ hz
      cases hzl : Nat.beq zv.cells.toList.length 0 with
      | true => rw [hzl] at h; cases h
      | false =>
        rw [hzl] at h
        simp only [cond_false] at h
        have hpos : 0 < zv.cells.toList.length := by
          rcases Nat.eq_zero_or_pos zv.cells.toList.length with e0 | e0
          · rw [e0] at hzl; cases hzl
          · exact e0
        obtain ⟨size, hsize⟩ : ∃ z, z = zv.cells.toList.length := ⟨_, rfl⟩
        rw [← hsize] at h hpos hsz
        have hzs : zv.cells.size = size := by rw [hsize]; simp
        unfold opApK3 at h
        split at h
        · rename_i base n c
          split at h
          · rename_i b2 m c2
            cases hm0 : Nat.beq m 0 with
            | true =>
              rw [hm0] at h
              obtain rfl : m = 0 := Nat.eq_of_beq_eq_true hm0
              have hund := g.und _ _ hd
              obtain ⟨b', c', rfl⟩ : ∃ b' c', Y' = .slice b' 0 c' := by
                cases b2 with
                | none =>
                  obtain ⟨_, rfl⟩ : 0 = 0 ∧ Y' = .slice none 0 0 := by rw [VR] at hY; exact hY
                  exact ⟨none, 0, rfl⟩
                | some ad =>
                  obtain ⟨b, cap, x, rfl, _⟩ := slice_vr hY
                  exact ⟨_, _, rfl⟩
              obtain ⟨b'', c'', rfl, hle⟩ : ∃ b' c', X' = .slice b' n c' ∧ n ≤ c' := by
                cases base with
                | none =>
                  obtain ⟨rfl, rfl⟩ : n = 0 ∧ X' = .slice none 0 0 := by rw [VR] at hX; exact hX
                  exact ⟨none, 0, rfl, Nat.le_refl _⟩
                | some ad =>
                  obtain ⟨b, cap, x, rfl, h1, _⟩ := slice_vr hX
                  exact ⟨_, _, rfl, h1⟩
              exact ⟨_, w, append_none hund hi hle, _, ρ, s, hX, hR, Ext.refl _ _ _, h⟩
            | false =>
            rw [hm0] at h
            simp only [cond_false, Bool.false_or] at h
            cases hq : Nat.blt 1000000 (n + m) with
            | true => rw [hq] at h; cases h
            | false =>
              rw [hq] at h
              simp only [cond_false] at h
              have hm : 0 < m := by
                rcases Nat.eq_zero_or_pos m with e0 | e0
                · rw [e0] at hm0; simp at hm0
                · exact e0
              have hnm : n + m ≤ 1000000 := by
                have := hq
                rw [Bool.eq_false_iff] at this
                have h4 : ¬ 1000000 < n + m := fun e0 => this ((blt_iff _ _).2 e0)
                omega
              have hbytes : (n + m) * i.bytes ≤ 140737488355328 := Nat.le_trans (Nat.mul_le_mul hnm hb) (by decide)
              have h63 : n + m ≤ maxLen := by unfold maxLen; omega
              have hund := g.und _ _ hd
              unfold opApK4 at h
              cases hnew : rowPart s (m * size) b2 with
              | none =>
                rw [hnew] at h
                cases base with
                | none => simp [nSK] at h
                | some ad =>
                  simp only at h
                  cases hc : Nat.beq c (n + 1) with
                  | true =>
                    rw [hc] at h
                    simp only [cond_true] at h
                    split at h
                    · simp [catO, nSK] at h
                    · cases h
                  | false =>
                    rw [hc] at h
                    simp only [cond_false] at h
                    split at h
                    · rename_i r hr
                      cases hq2 : (Nat.beq ad.off 0 && (Nat.ble (n * size) r.cells.length && (Nat.beq r.sz size && Nat.beq r.elem e))) with
                      | false => rw [hq2] at h; cases h
                      | true =>
                        rw [hq2] at h
                        simp only [cond_true] at h
                        obtain ⟨s0, h1, _⟩ := putRowK_ok h
                        simp [catO, nSK] at h1
                    · cases h
              | some nw =>
                rw [hnew] at h
                obtain ⟨ad2, cap2, ys, rfl, l1, l2, l3, l4⟩ := rowPart_ok hR hnew hm hY
                have hyl : ys.length = m * size := by rw [l1.1, l3]
                have hones := l2_one l1 l2
                cases base with
                | none =>
                  obtain ⟨rfl, rfl⟩ : n = 0 ∧ X' = .slice none 0 0 := by rw [VR] at hX; exact hX
                  simp only [nSK] at h
                  obtain ⟨g', cap', w', hr, how, hgr, _, _⟩ := run_append_lies (P := P) w t1 ty w.heap.size e i zv size i.bytes hund hi hz0 hsz rfl hzs hpos (.slice none 0 0) 0 [] ⟨by simp, .inl ⟨rfl, rfl⟩⟩ ad2 m cap2 ys hyl l4 hones hm h63 hbytes (Nat.le_refl _) w.heap.size rfl
                  exact ⟨_, w', hr, append_new hR rfl (fun _ => rfl) (fun _ _ h => h) h (by simpa using how) (by omega) (by omega) hgr l1 l2⟩
                | some ad =>
                  obtain ⟨b, cap, x, rfl, h1, h2, h3, h4, h5⟩ := slice_vr hX
                  simp only at h
                  cases hc : Nat.beq c (n + 1) with
                  | true =>
                    rw [hc] at h
                    simp only [cond_true] at h
                    have hcn : c = n + 1 := Nat.eq_of_beq_eq_true hc
                    have hcap : cap = n := by rcases h2 with e0 | e0 <;> omega
                    split at h
                    · rename_i old hold
                      simp only [catO, nSK] at h
                      have hold2 : ∃ os, L2 ρ old os ∧ (∀ v ∈ old, one v = true) ∧ old.length = n * size ∧ ∀ (j : Nat) (v : Value), os[j]? = some v → w.cell? (b.add j) = some v := by
                        rcases Nat.eq_zero_or_pos n with e0 | e0
                        · subst e0
                          have : old = [] := by
                            unfold rowPart at hold
                            simp only [Nat.zero_mul] at hold
                            split at hold
                            · rename_i r hr
                              cases hq2 : Nat.ble (ad.off + 0) r.cells.length with
                              | false => rw [hq2] at hold; cases hold
                              | true =>
                                rw [hq2] at hold
                                simp only [cond_true, Option.some.injEq, takeN_eq, List.take_zero] at hold
                                exact hold.symm
                            · cases hold
                          subst this
                          exact ⟨[], L2.nil ρ, fun _ h => by simp at h, by simp, fun j v hj => by simp at hj⟩
                        · obtain ⟨ad3, cap3, os, e3, m1, m2, m3, m4⟩ := rowPart_ok hR hold e0 hX
                          injection e3 with e3 _ _
                          obtain rfl := Option.some.inj e3
                          exact ⟨os, m1, m2, m3, m4⟩
                      obtain ⟨os, m1, m2, m3, m4⟩ := hold2
                      obtain ⟨v', w', hr, how, hgr⟩ := run_append_arg_grows (P := P) w t1 ty e i zv size i.bytes hund hi hz0 hsz rfl hzs hpos b n cap os (by rw [m1.1, m3]) m4 ad2 m cap2 ys hyl l4 (by omega) h63 hbytes
                      exact ⟨v', w', hr, append_new hR rfl (fun _ => rfl) (fun _ _ h => h) h how (by omega) (by omega) hgr (m1.append l1) (fun v hv => by rcases List.mem_append.1 hv with h6 | h6; exact m2 v h6; exact l2 v h6)⟩
                    · cases h
                  | false =>
                    rw [hc] at h
                    simp only [cond_false] at h
                    split at h
                    · rename_i r hr
                      cases hq2 : (Nat.beq ad.off 0 && (Nat.ble (n * size) r.cells.length && (Nat.beq r.sz size && Nat.beq r.elem e))) with
                      | false => rw [hq2] at h; cases h
                      | true =>
                        rw [hq2] at h
                        simp only [cond_true] at h
                        simp only [Bool.and_eq_true] at hq2
                        have f1 : ad.off = 0 := Nat.eq_of_beq_eq_true hq2.1
                        have f2 : n * size ≤ r.cells.length := Nat.le_of_ble_eq_true hq2.2.1
                        have f3 : r.sz = size := Nat.eq_of_beq_eq_true hq2.2.2.1
                        have f4 : r.elem = e := Nat.eq_of_beq_eq_true hq2.2.2.2
                        obtain rfl := h5 (.inl f1)
                        rw [f1]
                        obtain ⟨s0, p1, p2, p3, p4⟩ := putRowK_ok h
                        simp only [catO, nSK] at p1
                        obtain ⟨cc, c1, c2, c3, c4, c5, c6⟩ := hR.row hr h3
                        have o1 : (takeN r.cells (n * size)).length = n * size := by rw [takeN_eq, List.length_take]; omega
                        have o4 : L2 ρ (takeN r.cells (n * size)) (cc.toList.take (n * size)) := by
                          have := c4.take (n * size)
                          rw [List.take_take, Nat.min_eq_left f2] at this
                          rw [takeN_eq]; exact this
                        have o5 : ∀ v ∈ takeN r.cells (n * size), one v = true := fun v hv => c5 v (by rw [takeN_eq] at hv; exact List.mem_of_mem_take hv)
                        have hs0g : ∀ j q, s0.get j = some q → j ≠ ad.block ∧ s.get j = some q := fun j q hj => by
                          rcases p3 j q hj with ⟨_, e0⟩ | h6
                          · cases e0
                          · exact h6
                        have hct : cap * size ≤ cc.size := by rw [c2, ← f3, ← c6.1]; exact h4 f1
                        by_cases hroom : n + m ≤ cap
                        · have hr2 := run_append_room_cells (P := P) w t1 ty e i hund hi x.1 0 n cap ad2 m cap2 ys (by rw [hyl, hsz]) l4 hones hroom (fun j hj => by
                            rw [cell_at_block c1]
                            have h7 : n * size + m * size ≤ cc.size := by rw [← Nat.add_mul]; exact Nat.le_trans (Nat.mul_le_mul_right _ hroom) hct
                            have : 0 + n * i.size + j < cc.size := by rw [hsz]; omega
                            simp at this
                            simp [this]) (fun j hj => frozen_at_block c1 _)
                          rw [hsz] at hr2
                          refine ⟨_, _, hr2, append_in hR hr h3 p2 p4 hs0g ?_ c1 c2 (by rw [o1]; exact o4) o5 c6.1 o1 l1 l3 l2 hroom hct f3 (by omega)⟩
                          rw [f4, f3]; exact p1
                        · obtain ⟨v', w', hr2, how, hgr⟩ := run_append_arg_grows (P := P) w t1 ty e i zv size i.bytes hund hi hz0 hsz rfl hzs hpos ⟨x.1, 0, none⟩ n cap (cc.toList.take (n * size)) (by rw [o4.1, o1]) (fun j v hj => by
                            rw [addr_add, Nat.zero_add, cell_at_block c1, ← Array.getElem?_toList]
                            rw [List.getElem?_take] at hj
                            split at hj
                            · exact hj
                            · cases hj) ad2 m cap2 ys hyl l4 (by omega) h63 hbytes
                          exact ⟨v', w', hr2, append_new hR p2 p4 (fun j q hj => (hs0g j q hj).2) p1 how (by omega) (by omega) hgr (o4.append l1) (fun v hv => by rcases List.mem_append.1 hv with h6 | h6; exact o5 v h6; exact l2 v h6)⟩
                    · cases h
          · cases h
        · cases h
    · cases h
  · cases h
end
end Go.Proofs.YtllahinoomahnaaGreatDoor.Am
