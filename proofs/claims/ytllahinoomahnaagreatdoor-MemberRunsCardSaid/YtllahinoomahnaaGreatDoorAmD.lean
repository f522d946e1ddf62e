import Derived.Test.YtllahinoomahnaaGreatDoorAmC
set_option linter.unusedSimpArgs false
namespace Go.Proofs.YtllahinoomahnaaGreatDoor.Am
open Go

theorem addr_add (b o n : Nat) : (⟨b, o, none⟩ : Addr).add n = ⟨b, o + n, none⟩ := by
  by_cases h : n = 0
  · subst h; rfl
  · simp [Addr.add, h]
theorem cell_at_block {w : World} {b : Nat} {c : Array Value} {e : TypeId} (h : w.heap[b]? = some (.cells c e)) (i : Nat) : w.cell? ⟨b, i, none⟩ = c[i]? := by
  simp [World.cell?, h]
theorem frozen_at_block {w : World} {b : Nat} {c : Array Value} {e : TypeId} (h : w.heap[b]? = some (.cells c e)) (i : Nat) : w.frozen? ⟨b, i, none⟩ = false := by
  simp [World.frozen?, h]
section
variable {P : Program} {E : Env} {ρ : Rho} {w : World}
theorem run_isAgg {t : TypeId} {d : TypeDesc} (h : P.underlying t = some d) : (isAgg t).run P w = .ok (isAggD d) w := by
  cases d <;> simp [isAgg, run_underlying h, isAggD]
/-- a part of cells that stand in a block. -/
theorem part_load (g : Good P E) {t : TypeId} {cs : List Value} {off : Nat} {v : Value} (h : E.part t cs off = some v) {b : Nat} {c : Array Value} {e : TypeId} (hb : w.heap[b]? = some (.cells c e)) (hl : L2 ρ cs (c.toList.take cs.length)) (ho : ∀ v ∈ cs, one v = true) : ∃ u, (loadVar t ⟨b, off, none⟩).run P w = .ok u w ∧ VR ρ v u := by
  unfold Env.part at h
  cases hd : E.und t with
  | none => rw [hd] at h; cases h
  | some d =>
    rw [hd] at h
    simp only at h
    have ha := run_isAgg (w := w) (g.und _ _ hd)
    cases hq : isAggD d with
    | true =>
      rw [hq] at h ha
      simp only [cond_true] at h
      cases hs : E.size t with
      | none => rw [hs] at h; cases h
      | some n =>
        rw [hs] at h
        simp only at h
        cases hn : Nat.ble (off + n) cs.length with
        | false => rw [hn] at h; cases h
        | true =>
          rw [hn] at h
          simp only [cond_true, Option.some.injEq] at h
          have hle : off + n ≤ cs.length := Nat.le_of_ble_eq_true hn
          obtain ⟨i, hi, rfl⟩ := g.size _ _ hs
          have hcl : cs.length ≤ c.toList.length := by
            have := hl.1
            rw [List.length_take] at this
            omega
          have hlen : ((c.toList.drop off).take i.size).length = i.size := by
            rw [List.length_take, List.length_drop]; omega
          have hr := run_loadCells_list (P := P) w ⟨b, off, none⟩ ((c.toList.drop off).take i.size) (fun j u hu => by
            rw [addr_add, cell_at_block hb, ← Array.getElem?_toList]
            rw [List.getElem?_take] at hu
            split at hu
            · rw [List.getElem?_drop] at hu; exact hu
            · cases hu)
          rw [hlen] at hr
          refine ⟨.agg ((c.toList.drop off).take i.size).toArray, ?_, ?_⟩
          · simp [loadVar, ha, run_sizeOf hi, hr]
          · subst h
            rw [takeN_eq, dropN_eq]
            refine vr_agg.2 ⟨_, rfl, ?_, fun v hv => ho v (List.mem_of_mem_drop (List.mem_of_mem_take hv))⟩
            have := (hl.drop off).take i.size
            rwa [List.drop_take, List.take_take, Nat.min_eq_left (by omega)] at this
    | false =>
      rw [hq] at h ha
      simp only [cond_false, at?_eq] at h
      obtain ⟨u, hu, hv⟩ := hl.2 off v h
      have hlt : off < cs.length := (List.getElem?_eq_some_iff.1 h).1
      rw [List.getElem?_take, if_pos hlt, Array.getElem?_toList] at hu
      refine ⟨u, ?_, hv⟩
      have : w.cell? ⟨b, off, none⟩ = some u := by rw [cell_at_block hb]; exact hu
      simp [loadVar, ha, run_load, this]
/-- a part of a struct's cells. -/
theorem part_part (g : Good P E) {t : TypeId} {cs ys : List Value} {off : Nat} {v : Value} (h : E.part t cs off = some v) (hl : L2 ρ cs ys) (ho : ∀ v ∈ cs, one v = true) : ∃ u, (part t ys.toArray off).run P w = .ok u w ∧ VR ρ v u := by
  unfold Env.part at h
  cases hd : E.und t with
  | none => rw [hd] at h; cases h
  | some d =>
    rw [hd] at h
    simp only at h
    have ha := run_isAgg (w := w) (g.und _ _ hd)
    cases hq : isAggD d with
    | true =>
      rw [hq] at h ha
      simp only [cond_true] at h
      cases hs : E.size t with
      | none => rw [hs] at h; cases h
      | some n =>
        rw [hs] at h
        simp only at h
        cases hn : Nat.ble (off + n) cs.length with
        | false => rw [hn] at h; cases h
        | true =>
          rw [hn] at h
          simp only [cond_true, Option.some.injEq] at h
          obtain ⟨i, hi, rfl⟩ := g.size _ _ hs
          refine ⟨.agg (ys.toArray.extract off (off + i.size)), by simp [part, ha, run_sizeOf hi], ?_⟩
          subst h
          rw [takeN_eq, dropN_eq]
          refine vr_agg.2 ⟨_, rfl, ?_, fun v hv => ho v (List.mem_of_mem_drop (List.mem_of_mem_take hv))⟩
          have := (hl.drop off).take i.size
          rw [Array.toList_extract]
          simpa [List.extract_eq_take_drop] using this
    | false =>
      rw [hq] at h ha
      simp only [cond_false, at?_eq] at h
      obtain ⟨u, hu, hv⟩ := hl.2 off v h
      exact ⟨u, by simp [part, ha, hu], hv⟩
theorem ptr_vr {a : Addr} {u : Value} (h : VR ρ (.pointer (some a)) u) : ∃ x, ρ a.block = some x ∧ u = .pointer (some ⟨x.1, a.off, none⟩) := by
  rw [VR] at h
  obtain ⟨b, ⟨x, hx, rfl⟩, rfl⟩ := h
  exact ⟨x, hx, rfl⟩
theorem R.row {s : St} (h : R ρ s w) {n : Nat} {r : Row} {x : Nat × Nat × Nat} (hr : s.get n = some r) (hx : ρ n = some x) : ∃ c : Array Value, w.heap[x.1]? = some (.cells c r.elem) ∧ c.size = x.2.1 ∧ r.cells.length ≤ x.2.1 ∧ L2 ρ r.cells (c.toList.take r.cells.length) ∧ (∀ v ∈ r.cells, one v = true) ∧ x.2.2 = r.sz ∧ (r.sz = 0 → r.cells.length = x.2.1) := by
  obtain ⟨y, c, e, h1⟩ := h.rows n r hr
  rw [hx] at e
  obtain rfl := Option.some.inj e
  exact ⟨c, h1⟩
theorem load_run (g : Good P E) {s : St} (hR : R ρ s w) {ty : TypeId} {x v x' : Value} (h : opLoad E s ty x = some v) (hx : VR ρ x x') : ∃ u, (Instr.loadAt ty x').run P w = .ok u w ∧ VR ρ v u := by
  unfold opLoad at h
  split at h
  · rename_i a
    split at h
    · rename_i r hr
      obtain ⟨y, hy, rfl⟩ := ptr_vr hx
      obtain ⟨c, h1, h2, h3, h4, h5, _⟩ := hR.row hr hy
      obtain ⟨u, hu, hv⟩ := part_load (w := w) g h h1 h4 h5
      exact ⟨u, by simp [Instr.loadAt, Instr.sureAddr, hu], hv⟩
    · cases h
  · cases h
theorem natOf_run {v v' : Value} {n : Nat} (h : natOf v = some n) (hv : VR ρ v v') : ∃ k, v' = .int k (n : Int) := by
  unfold natOf at h
  split at h
  · rename_i k m
    simp only [Option.some.injEq] at h
    subst h
    rw [VR] at hv
    exact ⟨k, hv⟩
  · cases h
theorem fa_run (g : Good P E) {ty : TypeId} {f : Nat} {x v x' : Value} (h : opFieldAddr E ty f x = some v) (hx : VR ρ x x') : ∃ u, (Instr.fieldAt ty x' f).run P w = .ok u w ∧ VR ρ v u := by
  unfold opFieldAddr at h
  split at h
  · rename_i a
    unfold opFA1 at h
    split at h
    · rename_i fs hd
      unfold opFA2 at h
      split at h
      · rename_i fl hf
        split at h
        · rename_i n hn
          cases h0 : Nat.beq n 0 with
          | true => rw [h0] at h; cases h
          | false =>
            rw [h0] at h
            simp only [cond_false, Option.some.injEq] at h
            subst h
            obtain ⟨i, hi, rfl⟩ := g.size _ _ hn
            have hne : i.size ≠ 0 := fun e => by rw [e] at h0; cases h0
            obtain ⟨y, hy, rfl⟩ := ptr_vr hx
            have hf' : fs[f]? = some fl := by simpa using hf
            refine ⟨.pointer (some ⟨y.1, a.off + fl.offset, none⟩), ?_, ?_⟩
            · simp [Instr.fieldAt, run_underlying (g.und _ _ hd), hf', Instr.sureAddr, fieldPlace, run_sizeOf hi, hne, addr_add]
            · rw [VR]; exact ⟨_, ⟨y, hy, rfl⟩, rfl⟩
        · cases h
      · cases h
    · cases h
  · cases h
theorem slice_vr {a : Addr} {n c : Nat} {u : Value} (h : VR ρ (.slice (some a) n c) u) : ∃ (b : Addr) (cap : Nat) (x : Nat × Nat × Nat), u = .slice (some b) n cap ∧ n ≤ cap ∧ capOk c cap ∧ ρ a.block = some x ∧ (a.off = 0 → cap * x.2.2 ≤ x.2.1) ∧ (a.off = 0 ∨ 0 < n → b = ⟨x.1, a.off, none⟩) := by
  rw [VR] at h; exact h
theorem ia_run (g : Good P E) {ty : TypeId} {x v x' i i' : Value} (h : opIA1 E ty x (natOf i) = some v) (hx : VR ρ x x') (hi : VR ρ i i') : ∃ u, (Instr.indexAt ty x' i').run P w = .ok u w ∧ VR ρ v u := by
  unfold opIA1 at h
  split at h
  · rename_i k hk
    obtain ⟨kd, rfl⟩ := natOf_run hk hi
    unfold opIA2 at h
    split at h
    · rename_i e hd
      split at h
      · rename_i a len c
        unfold opIA3 at h
        split at h
        · rename_i n hn
          cases h0 : Nat.blt k len with
          | false => rw [h0] at h; cases h
          | true =>
            rw [h0] at h
            simp only [cond_true, Option.some.injEq] at h
            subst h
            have hlt := (blt_iff _ _).1 h0
            obtain ⟨j, hj, rfl⟩ := g.size _ _ hn
            obtain ⟨b, cap, y, rfl, h1, h2, h3, h4, h5⟩ := slice_vr hx
            obtain rfl := h5 (.inr (by omega))
            refine ⟨.pointer (some ⟨y.1, a.off + k * j.size, none⟩), ?_, by rw [VR]; exact ⟨_, ⟨y, h3, rfl⟩, rfl⟩⟩
            have : (k : Int) < (len : Int) := by omega
            simp [Instr.indexAt, asIntOf, run_underlying (g.und _ _ hd), run_sizeOf hj, addr_add, this]
            exact fun h => absurd h (by omega)
        · cases h
      · cases h
    · rename_i len e hd
      split at h
      · rename_i a
        unfold opIA3 at h
        split at h
        · rename_i n hn
          cases h0 : Nat.blt k len with
          | false => rw [h0] at h; cases h
          | true =>
            rw [h0] at h
            simp only [cond_true, Option.some.injEq] at h
            subst h
            have hlt := (blt_iff _ _).1 h0
            obtain ⟨j, hj, rfl⟩ := g.size _ _ hn
            obtain ⟨y, h3, rfl⟩ := ptr_vr hx
            refine ⟨.pointer (some ⟨y.1, a.off + k * j.size, none⟩), ?_, by rw [VR]; exact ⟨_, ⟨y, h3, rfl⟩, rfl⟩⟩
            have : (k : Int) < (len : Int) := by omega
            simp [Instr.indexAt, asIntOf, run_underlying (g.und _ _ hd), run_sizeOf hj, addr_add, this, Instr.sureAddr]
            exact fun h => absurd h (by omega)
        · cases h
      · cases h
    · cases h
  · cases h
theorem ix_run (g : Good P E) {ty : TypeId} {x v x' i i' : Value} (h : opIx1 E ty x (natOf i) = some v) (hx : VR ρ x x') (hi : VR ρ i i') : ∃ u, (Instr.index ty x' i').run P w = .ok u w ∧ VR ρ v u := by
  unfold opIx1 at h
  split at h
  · rename_i k hk
    obtain ⟨kd, rfl⟩ := natOf_run hk hi
    unfold opIx2 at h
    split at h
    · rename_i hd
      split at h
      · rename_i b
        unfold byteV at h
        split at h
        · rename_i c hc
          simp only [Option.some.injEq] at h
          subst h
          obtain rfl : x' = .string b := by rw [VR] at hx; exact hx
          have hlt : k < b.size := by
            have h1 : b.size = b.data.toList.length := by cases b; rfl
            rw [h1]; exact (List.getElem?_eq_some_iff.1 hc).1
          refine ⟨_, ?_, by rw [VR]⟩
          rw [run_index_string w ty b kd _ (g.und _ _ hd), dif_pos ⟨by omega, by omega⟩]
          have : b[((k : Int)).toNat]'(by omega) = c := by
            have h2 : b.data.toList[k]'(by cases b; exact hlt) = c := by
              have := List.getElem?_eq_some_iff.1 hc
              exact this.2
            rw [← h2]
            cases b; rfl
          rw [this]; rfl
        · cases h
      · cases h
    · cases h
  · cases h
theorem field_run (g : Good P E) {ty : TypeId} {f : Nat} {x v x' : Value} (h : opF1 E f x (E.und ty) = some v) (hx : VR ρ x x') : ∃ u, (Instr.field ty x' f).run P w = .ok u w ∧ VR ρ v u := by
  unfold opF1 at h
  split at h
  · rename_i fs hd
    split at h
    · rename_i cs
      unfold opF2 at h
      split at h
      · rename_i fl hf
        obtain ⟨ys, rfl, h1, h2⟩ := vr_agg.1 hx
        obtain ⟨u, hu, hv⟩ := part_part (w := w) g h h1 h2
        have hf' : fs[f]? = some fl := by simpa using hf
        refine ⟨u, ?_, hv⟩
        have hu' : (part fl.type ys fl.offset).run P w = .ok u w := by simpa using hu
        simp [Instr.field, run_underlying (g.und _ _ hd), hf', asAgg, hu']
      · cases h
    · cases h
  · cases h
theorem ex_run {i : Nat} {x v x' : Value} (h : opEx i x = some v) (hx : VR ρ x x') : ∃ u, (Instr.extract x' i).run P w = .ok u w ∧ VR ρ v u := by
  unfold opEx at h
  split at h
  · rename_i vs
    rw [at?_eq] at h
    obtain ⟨ys, rfl, hl⟩ := vr_tuple.1 hx
    obtain ⟨u, hu, hv⟩ := hl.2 i v h
    have : ys[i]? = some u := by simpa using hu
    exact ⟨u, by simp [Instr.extract, this], hv⟩
  · cases h
end
end Go.Proofs.YtllahinoomahnaaGreatDoor.Am
