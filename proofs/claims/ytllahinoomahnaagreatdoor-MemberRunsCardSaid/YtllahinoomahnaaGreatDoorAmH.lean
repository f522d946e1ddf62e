import Derived.Laws.MakeOwn
import Derived.Test.YtllahinoomahnaaGreatDoorAmG
set_option linter.unusedSimpArgs false
namespace Go.Proofs.YtllahinoomahnaaGreatDoor.Am
open Go

theorem reps_get (z : List Value) : ∀ (n i : Nat), i < n * z.length → (reps z n)[i]? = z[i % z.length]?
  | 0, i, h => by simp at h
  | n + 1, i, h => by
    rw [reps]
    by_cases hi : i < z.length
    · rw [List.getElem?_append_left hi, Nat.mod_eq_of_lt hi]
    · rw [List.getElem?_append_right (by omega), reps_get z n (i - z.length) (by rw [Nat.succ_mul] at h; omega), ← Nat.mod_eq_sub_mod (by omega)]
theorem reps_len (z : List Value) : ∀ n, (reps z n).length = n * z.length
  | 0 => by simp [reps]
  | n + 1 => by rw [reps, List.length_append, reps_len z n, Nat.succ_mul]; omega
theorem reps_mem {z : List Value} {p : Value → Prop} (h : ∀ v ∈ z, p v) : ∀ n, ∀ v ∈ reps z n, p v
  | 0, v, hv => by simp [reps] at hv
  | n + 1, v, hv => by
    rcases List.mem_append.1 hv with h1 | h1
    · exact h v h1
    · exact reps_mem h n v h1
theorem zeros_reps (z : Array Value) (n : Nat) (hz : 0 < z.size) : (Array.range (n * z.size)).map (fun i => z[i % z.size]!) = (reps z.toList n).toArray := by
  apply Array.ext'
  apply List.ext_getElem?
  intro i
  simp only [Array.toList_map, Array.toList_range, List.getElem?_map]
  by_cases hi : i < n * z.size
  · rw [List.getElem?_range hi, reps_get _ _ _ (by simpa using hi)]
    have hm : i % z.size < z.size := Nat.mod_lt _ hz
    simp [hm]
  · rw [List.getElem?_eq_none (by simpa using hi), List.getElem?_eq_none (by rw [reps_len]; simpa using hi)]
    rfl
/-- what stands behind one operation. -/
def Nx (ρ : Rho) (s : St) (w : World) (k : K2) (o : Oper) (a : Act) (a' : Act) (w' : World) : Prop := ∃ v u ρ' s', a' = a.put o.dst u ∧ VR ρ' v u ∧ R ρ' s' w' ∧ Ext ρ s w ρ' s' w' ∧ k v s' = true
/-- what a call does. -/
def CallOk (P : Program) (call : CallK) : Prop := ∀ f args s k, call f args s k = true → (∀ as w, (callFunc f as).run P w = .ok (.enter f as) w) ∧ ∀ ρ w us, R ρ s w → L2 ρ args us →
  Calls P f us.toArray w (fun e w' => ∃ v u ρ' s', e = .returned u ∧ VR ρ' v u ∧ R ρ' s' w' ∧ Ext ρ s w ρ' s' w' ∧ k v s' = true)
section
variable {P : Program} {E : Env} {ρ : Rho} {s : St} {w : World} {t : List Value} {a : Act} {o : Oper} {k : K2} {Q : Exit → Act → World → Prop}
theorem light_wp (hR : R ρ s w) {v u : Value} (hr : (execOp a.eval o).run P w = .ok (.value u) w) (hv : VR ρ v u) (hk : k v s = true) : o.wp P a w (Nx ρ s w k o a) Q := by
  unfold Oper.wp
  rw [hr]
  exact ⟨v, u, ρ, s, rfl, hv, hR, Ext.refl _ _ _, hk⟩
theorem vK_inv {x : Option Value} (h : vK k s x = true) : ∃ v, x = some v ∧ k v s = true := by
  cases x with
  | none => cases h
  | some v => exact ⟨v, rfl, h⟩
theorem vK_wp (hR : R ρ s w) {x : Option Value} (h : vK k s x = true) (hx : ∀ v, x = some v → ∃ u, (execOp a.eval o).run P w = .ok (.value u) w ∧ VR ρ v u) : o.wp P a w (Nx ρ s w k o a) Q := by
  obtain ⟨v, e, hk⟩ := vK_inv h
  obtain ⟨u, hr, hv⟩ := hx v e
  exact light_wp hR hr hv hk
/-- a new box. -/
theorem new_wp (hR : R ρ s w) {ty : TypeId} {cs : List Value} {ys : Array Value} {sz : Nat} {mk : Option Addr → Value} (hr : (execOp a.eval o).run P w = .ok (.value (mk (some ⟨w.heap.size, 0, none⟩))) (w.alloc (.cells ys ty))) (hl : L2 ρ cs ys.toList) (ho : ∀ v ∈ cs, one v = true)
    {k' : Nat → St → Bool} (h : newK s cs ty sz k' = true) {mkA : Option Addr → Value} (hk : ∀ s', k' s.c s' = true → k (mkA (some ⟨s.c, 0, none⟩)) s' = true) (hv : ∀ ρ' : Rho, ρ' s.c = some (w.heap.size, ys.size, sz) → VR ρ' (mkA (some ⟨s.c, 0, none⟩)) (mk (some ⟨w.heap.size, 0, none⟩))) : o.wp P a w (Nx ρ s w k o a) Q := by
  obtain ⟨s', h1, h2, h3, h3m⟩ := newK_ok h
  have hlen : cs.length = ys.size := by have := hl.1; simp at this; omega
  obtain ⟨r1, r2⟩ := hR.new (w' := w.alloc (.cells ys ty)) (b := w.heap.size) (c := ys) h2 h3 h3m (Nat.le_refl _) (heap_alloc_new w _) (by simp) (fun k hk => heap_alloc_old w _ k hk) (by rw [hlen, List.take_of_length_le (by simp)]; exact hl) (by omega) ho (fun _ => hlen) rfl rfl rfl
  unfold Oper.wp
  rw [hr]
  exact ⟨_, _, _, s', rfl, hv _ (upd_same _ _ _), r1, r2, hk s' h1⟩
theorem op_alloc (g : Good P E) (hR : R ρ s w) {ty : TypeId} (ho : o.op = .alloc ty) (h : nPK k s ty (E.zero ty) = true) : o.wp P a w (Nx ρ s w k o a) Q := by
  unfold nPK at h
  split at h
  · rename_i cs hz
    obtain ⟨i, z, hi, hz0, rfl, hsz, hb, hp⟩ := g.zero _ _ hz
    refine new_wp hR (mk := .pointer) (mkA := .pointer) (ys := z.cells) ?_ (plains_l2 hp) (fun v hv => (plain_vr (ρ := ρ) (hp v hv)).2) h (fun s' hk => hk) (fun ρ' hρ => by rw [VR]; exact ⟨_, ⟨_, hρ, rfl⟩, rfl⟩)
    simp [execOp, ho, Instr.alloc, zeroValue, typeInfo, hi, hz0, newVar, newRow]
  · cases h
theorem op_box (hR : R ρ s w) (hT : TR ρ t a) {ty : TypeId} {x : Operand} (ho : o.op = .box ty x) (h : nPK k s ty (cellsO (opv t x)) = true) : o.wp P a w (Nx ρ s w k o a) Q := by
  unfold nPK at h
  split at h
  · rename_i cs hz
    obtain ⟨l1, l2⟩ := cells_ok hz (hT.opv x)
    refine new_wp hR (mk := .pointer) (mkA := .pointer) (ys := (a.eval x).cells) ?_ l1 l2 h (fun s' hk => hk) (fun ρ' hρ => by rw [VR]; exact ⟨_, ⟨_, hρ, rfl⟩, rfl⟩)
    simp [execOp, ho, Instr.box, newVar, newRow]
  · cases h
theorem op_bs (g : Good P E) (hR : R ρ s w) (hT : TR ρ t a) {ty : TypeId} {len : Nat} {ps : Array (Nat × Operand)} (ho : o.op = .buildSlice ty len ps) (h : opBSK E s t len ps.toList k (E.und ty) = true) : o.wp P a w (Nx ρ s w k o a) Q := by
  unfold opBSK at h
  split at h
  · rename_i e hd
    unfold opBSK2 at h
    split at h
    · rename_i z hz
      obtain ⟨i, zv, hi, hz0, rfl, hsz, hb, hp⟩ := g.zero _ _ hz
      unfold nSK at h
      split at h
      · rename_i cs hcs
        unfold opBS2 at hcs
        cases hq : (Nat.ble (len * zv.cells.toList.length) 100000 && Nat.blt 0 zv.cells.toList.length) with
        | false => rw [hq] at hcs; cases hcs
        | true =>
          rw [hq] at hcs
          simp only [cond_true] at hcs
          simp only [Bool.and_eq_true, Nat.ble_eq, blt_iff] at hq
          obtain ⟨ys', f1, f2, f3, f4⟩ := fill_ok (placeC := fun k => some (k * i.size, i.size)) hT (fun j p hj => by rw [hsz]; exact hj) ps.toList _ _ _ hcs (plains_l2 (reps_mem hp len)) (fun v hv => (plain_vr (ρ := ρ) (reps_mem hp len v hv)).2)
          have hzr := zeros_reps zv.cells len (by simpa using hq.2)
          have hne : ¬ len * i.size = 0 ∨ len = 0 := by
            rcases Nat.eq_zero_or_pos len with e | e
            · exact .inr e
            · left
              have : 0 < len * i.size := Nat.mul_pos e (by rw [hsz]; exact hq.2)
              omega
          have hsz' : i.size = zv.cells.size := by rw [hsz]; simp
          refine new_wp hR (mk := fun ad => .slice ad len len) (mkA := fun ad => .slice ad len (len + 1)) (ys := ys'.toArray) ?_ (by simpa using f2) f3 h (fun s' hk => hk) (fun ρ' hρ => ?_)
          · have hbig : ¬ (len * i.size > 2 ^ 24) := by rw [hsz]; omega
            have f1' : Instr.fill (fun k => some (k * i.size, i.size)) (reps zv.cells.toList len).toArray (Array.map (fun x => (x.fst, a.eval x.snd)) ps).toList = some ys'.toArray := by rw [Array.toList_map]; exact f1
            simp only [execOp, ho, Instr.buildSlice, Sem.run_bind, run_underlying (g.und _ _ hd), Result.andThen_ok, run_sizeOf hi, if_neg hbig]
            by_cases h0 : len * i.size = 0
            · have hl0 : len = 0 := by rcases hne with h | h; exact absurd h0 h; exact h
              subst hl0
              rw [if_pos h0]
              simp only [Sem.run_bind, Sem.run_pure, Result.andThen_ok, h0]
              simp only [reps] at f1'
              rw [show (Array.map (fun x => (#[] : Array Value)[x % (#[] : Array Value).size]!) (Array.range 0)) = #[] from by apply Array.ext'; simp, f1']
              simp [newRow]
            · rw [if_neg h0]
              have hz3 : (Array.range (len * i.size)).map (fun j => zv.cells[j % zv.cells.size]!) = (reps zv.cells.toList len).toArray := by rw [hsz']; exact hzr
              simp only [Sem.run_bind, Sem.run_pure, Result.andThen_ok, zeroValue, typeInfo, run_program, hi, hz0, hz3, f1']
              simp [newRow]
          · rw [VR]
            refine ⟨_, len, _, rfl, Nat.le_refl _, .inr rfl, hρ, fun _ => ?_, fun _ => rfl⟩
            have h5 := f2.1
            rw [f4, reps_len] at h5
            simp only [List.size_toArray]
            rw [h5]
            exact Nat.le_refl _
      · cases h
    · cases h
  · cases h
theorem reps_take (z : List Value) : ∀ {l c : Nat}, l ≤ c → (reps z c).take (l * z.length) = reps z l
  | 0, c, _ => by simp [reps]
  | l + 1, 0, h => by omega
  | l + 1, c + 1, h => by
    rw [reps, reps, List.take_append, Nat.succ_mul, List.take_of_length_le (by omega), Nat.add_sub_cancel, reps_take z (by omega)]
theorem new_wp2 (hR : R ρ s w) {ty : TypeId} {cs : List Value} {ys : Array Value} {sz : Nat} {mk : Option Addr → Value} (hr : (execOp a.eval o).run P w = .ok (.value (mk (some ⟨w.heap.size, 0, none⟩))) (w.alloc (.cells ys ty))) (hl : L2 ρ cs (ys.toList.take cs.length)) (hle : cs.length ≤ ys.size) (hsz0 : sz ≠ 0) (ho : ∀ v ∈ cs, one v = true)
    {k' : Nat → St → Bool} (h : newK s cs ty sz k' = true) {mkA : Option Addr → Value} (hk : ∀ s', k' s.c s' = true → k (mkA (some ⟨s.c, 0, none⟩)) s' = true) (hv : ∀ ρ' : Rho, ρ' s.c = some (w.heap.size, ys.size, sz) → VR ρ' (mkA (some ⟨s.c, 0, none⟩)) (mk (some ⟨w.heap.size, 0, none⟩))) : o.wp P a w (Nx ρ s w k o a) Q := by
  obtain ⟨s', h1, h2, h3, h3m⟩ := newK_ok h
  obtain ⟨r1, r2⟩ := hR.new (w' := w.alloc (.cells ys ty)) (b := w.heap.size) (c := ys) h2 h3 h3m (Nat.le_refl _) (heap_alloc_new w _) (by simp) (fun k hk => heap_alloc_old w _ k hk) hl hle ho (fun e => absurd e hsz0) rfl rfl rfl
  unfold Oper.wp
  rw [hr]
  exact ⟨_, _, _, s', rfl, hv _ (upd_same _ _ _), r1, r2, hk s' h1⟩
theorem op_ms (g : Good P E) (hR : R ρ s w) (hT : TR ρ t a) {ty : TypeId} {x y : Operand} (ho : o.op = .makeSlice ty x y) (h : opMSK E s (opv t x) (opv t y) k (E.und ty) = true) : o.wp P a w (Nx ρ s w k o a) Q := by
  unfold opMSK at h
  split at h
  · rename_i e hd
    unfold opMSK2 at h
    split at h
    · rename_i z hz
      obtain ⟨i, zv, hi, hz0, rfl, hsz, hb, hp⟩ := g.zero _ _ hz
      cases hl : natOf (opv t x) with
      | none => rw [hl] at h; cases h
      | some l =>
        cases hc : natOf (opv t y) with
        | none => rw [hl, hc] at h; cases h
        | some c =>
          rw [hl, hc] at h
          simp only at h
          obtain ⟨kl, el⟩ := natOf_run hl (hT.opv x)
          obtain ⟨kc, ec⟩ := natOf_run hc (hT.opv y)
          unfold opMSK3 at h
          cases hq : (Nat.ble l c && (Nat.ble (c * zv.cells.toList.length) 100000 && Nat.blt 0 zv.cells.toList.length)) with
          | false => rw [hq] at h; cases h
          | true =>
            rw [hq] at h
            simp only [cond_true, nSK] at h
            simp only [Bool.and_eq_true, Nat.ble_eq, blt_iff] at hq
            obtain ⟨q1, q2, q3⟩ := hq
            have hsz' : i.size = zv.cells.size := by rw [hsz]; simp
            have hc5 : c ≤ 100000 := Nat.le_trans (Nat.le_mul_of_pos_right c q3) q2
            have hmc : madeCells zv.cells (c * i.size) = (reps zv.cells.toList c).toArray := by
              rw [madeCells, hsz']; exact zeros_reps zv.cells c (by simpa using q3)
            have hr := run_makeSlice (P := P) w ty e i zv (g.und _ _ hd) hi hz0 kl kc (l : Int) (c : Int) (by omega) (by omega) (by
              simp only [Int.toNat_natCast]; rw [hsz]; omega) (by
              have : ((i.bytes * c : Nat) : Int) ≤ 281474976710656 := by
                have : i.bytes * c ≤ 1000 * 100000 := Nat.mul_le_mul hb hc5
                omega
              rwa [Int.natCast_mul] at this) (by omega)
            simp only [Int.toNat_natCast] at hr
            rw [hmc] at hr
            have hlen : (reps zv.cells.toList l).length ≤ (reps zv.cells.toList c).toArray.size := by
              simp only [List.size_toArray, reps_len]; exact Nat.mul_le_mul_right _ q1
            refine new_wp2 hR (mk := fun ad => .slice ad l c) (mkA := fun ad => .slice ad l (c + 1)) (ys := (reps zv.cells.toList c).toArray) ?_ ?_ hlen (by omega) (fun v hv => (plain_vr (ρ := ρ) (reps_mem hp l v hv)).2) h (fun s' hk => hk) (fun ρ' hρ => ?_)
            · simp only [execOp, ho, el, ec, Sem.run_bind, hr, Result.andThen_ok, Sem.run_pure]
            · rw [reps_len]
              simp only [reps_take _ q1]
              exact plains_l2 (reps_mem hp l)
            · rw [VR]
              refine ⟨_, c, _, rfl, q1, .inr rfl, hρ, fun _ => ?_, fun _ => rfl⟩
              simp only [List.size_toArray, reps_len]
              exact Nat.le_refl _
    · cases h
  · cases h
/-- a new row, whenever it is laid. -/
theorem fl_run (g : Good P E) (hT : TR ρ t a) {I : FlI} (h : flInfo E t o.op = some I) : ∃ (ys : Array Value) (u : Value), (execOp a.eval o).run P w = .ok (.value u) (w.alloc (.cells ys I.ty)) ∧ L2 ρ I.cs (ys.toList.take I.cs.length) ∧ I.cs.length ≤ ys.size ∧ (∀ v ∈ I.cs, one v = true) ∧ (I.sz = 0 → I.cs.length = ys.size) ∧ ∀ (ρ' : Rho) (n : Nat), ρ' n = some (w.heap.size, ys.size, I.sz) → VR ρ' (I.vl (some ⟨n, 0, none⟩)) u := by
  have full : ∀ {cs : List Value} {ys : Array Value}, L2 ρ cs ys.toList → L2 ρ cs (ys.toList.take cs.length) ∧ cs.length ≤ ys.size ∧ cs.length = ys.size := fun {cs ys} hl => by
    have hlen : cs.length = ys.size := by have := hl.1; simp at this; omega
    exact ⟨by rw [hlen, List.take_of_length_le (by simp)]; exact hl, by omega, hlen⟩
  unfold flInfo at h
  split at h
  · rename_i ty ho
    cases hz : E.zero ty with
    | none => rw [hz] at h; cases h
    | some z =>
      rw [hz] at h
      obtain rfl := Option.some.inj h
      obtain ⟨i, zv, hi, hz0, rfl, hsz, hb, hp⟩ := g.zero _ _ hz
      obtain ⟨q1, q2, q3⟩ := full (ys := zv.cells) (plains_l2 (ρ := ρ) hp)
      exact ⟨zv.cells, .pointer (some ⟨w.heap.size, 0, none⟩), by simp [execOp, ho, Instr.alloc, zeroValue, typeInfo, hi, hz0, newVar, newRow], q1, q2, fun v hv => (plain_vr (ρ := ρ) (hp v hv)).2, fun _ => q3, fun ρ' n hρ => by rw [VR]; exact ⟨_, ⟨_, hρ, rfl⟩, rfl⟩⟩
  · rename_i ty x ho
    cases hz : cellsO (opv t x) with
    | none => rw [hz] at h; cases h
    | some cs =>
      rw [hz] at h
      obtain rfl := Option.some.inj h
      obtain ⟨l1, l2⟩ := cells_ok hz (hT.opv x)
      obtain ⟨q1, q2, q3⟩ := full (ys := (a.eval x).cells) l1
      exact ⟨(a.eval x).cells, .pointer (some ⟨w.heap.size, 0, none⟩), by simp [execOp, ho, Instr.box, newVar, newRow], q1, q2, l2, fun _ => q3, fun ρ' n hρ => by rw [VR]; exact ⟨_, ⟨_, hρ, rfl⟩, rfl⟩⟩
  · rename_i ty len ps ho
    split at h
    · rename_i e hd
      unfold flBS at h
      split at h
      · rename_i z hz
        obtain ⟨i, zv, hi, hz0, rfl, hsz, hb, hp⟩ := g.zero _ _ hz
        unfold flBS2 at h
        split at h
        · rename_i cs hcs
          obtain rfl := Option.some.inj h
          unfold opBS2 at hcs
          cases hq : (Nat.ble (len * zv.cells.toList.length) 100000 && Nat.blt 0 zv.cells.toList.length) with
          | false => rw [hq] at hcs; cases hcs
          | true =>
            rw [hq] at hcs
            simp only [cond_true] at hcs
            simp only [Bool.and_eq_true, Nat.ble_eq, blt_iff] at hq
            obtain ⟨ys', f1, f2, f3, f4⟩ := fill_ok (placeC := fun k => some (k * i.size, i.size)) hT (fun j p hj => by rw [hsz]; exact hj) ps.toList _ _ _ hcs (plains_l2 (reps_mem hp len)) (fun v hv => (plain_vr (ρ := ρ) (reps_mem hp len v hv)).2)
            have hzr := zeros_reps zv.cells len (by simpa using hq.2)
            have hne : ¬ len * i.size = 0 ∨ len = 0 := by
              rcases Nat.eq_zero_or_pos len with e | e
              · exact .inr e
              · left
                have : 0 < len * i.size := Nat.mul_pos e (by rw [hsz]; exact hq.2)
                omega
            have hsz' : i.size = zv.cells.size := by rw [hsz]; simp
            obtain ⟨q1, q2, q3⟩ := full (ys := ys'.toArray) (by simpa using f2)
            refine ⟨ys'.toArray, .slice (some ⟨w.heap.size, 0, none⟩) len len, ?_, q1, q2, f3, fun _ => q3, fun ρ' n hρ => ?_⟩
            · have hbig : ¬ (len * i.size > 2 ^ 24) := by rw [hsz]; omega
              have f1' : Instr.fill (fun k => some (k * i.size, i.size)) (reps zv.cells.toList len).toArray (Array.map (fun x => (x.fst, a.eval x.snd)) ps).toList = some ys'.toArray := by rw [Array.toList_map]; exact f1
              simp only [execOp, ho, Instr.buildSlice, Sem.run_bind, run_underlying (g.und _ _ hd), Result.andThen_ok, run_sizeOf hi, if_neg hbig]
              by_cases h0 : len * i.size = 0
              · have hl0 : len = 0 := by rcases hne with h | h; exact absurd h0 h; exact h
                subst hl0
                rw [if_pos h0]
                simp only [Sem.run_bind, Sem.run_pure, Result.andThen_ok, h0]
                simp only [reps] at f1'
                rw [show (Array.map (fun x => (#[] : Array Value)[x % (#[] : Array Value).size]!) (Array.range 0)) = #[] from by apply Array.ext'; simp, f1']
                simp [newRow]
              · rw [if_neg h0]
                have hz3 : (Array.range (len * i.size)).map (fun j => zv.cells[j % zv.cells.size]!) = (reps zv.cells.toList len).toArray := by rw [hsz']; exact hzr
                simp only [Sem.run_bind, Sem.run_pure, Result.andThen_ok, zeroValue, typeInfo, run_program, hi, hz0, hz3, f1']
                simp [newRow]
            · rw [VR]
              refine ⟨_, len, _, rfl, Nat.le_refl _, .inr rfl, hρ, fun _ => ?_, fun _ => rfl⟩
              have h5 := f2.1
              rw [f4, reps_len] at h5
              simp only [List.size_toArray]
              rw [h5]
              exact Nat.le_refl _
        · cases h
      · cases h
    · cases h
  · rename_i ty x y ho
    split at h
    · rename_i e hd
      unfold flMS at h
      split at h
      · rename_i z hz
        obtain ⟨i, zv, hi, hz0, rfl, hsz, hb, hp⟩ := g.zero _ _ hz
        cases hl : natOf (opv t x) with
        | none => rw [hl] at h; cases h
        | some l =>
          cases hc : natOf (opv t y) with
          | none => rw [hl, hc] at h; cases h
          | some c =>
            rw [hl, hc] at h
            simp only at h
            obtain ⟨kl, el⟩ := natOf_run hl (hT.opv x)
            obtain ⟨kc, ec⟩ := natOf_run hc (hT.opv y)
            unfold flMS2 at h
            cases hq : (Nat.ble l c && (Nat.ble (c * zv.cells.toList.length) 100000 && Nat.blt 0 zv.cells.toList.length)) with
            | false => rw [hq] at h; cases h
            | true =>
              rw [hq] at h
              obtain rfl := Option.some.inj h
              simp only [Bool.and_eq_true, Nat.ble_eq, blt_iff] at hq
              obtain ⟨q1, q2, q3⟩ := hq
              have hsz' : i.size = zv.cells.size := by rw [hsz]; simp
              have hc5 : c ≤ 100000 := Nat.le_trans (Nat.le_mul_of_pos_right c q3) q2
              have hmc : madeCells zv.cells (c * i.size) = (reps zv.cells.toList c).toArray := by
                rw [madeCells, hsz']; exact zeros_reps zv.cells c (by simpa using q3)
              have hr := run_makeSlice (P := P) w ty e i zv (g.und _ _ hd) hi hz0 kl kc (l : Int) (c : Int) (by omega) (by omega) (by
                simp only [Int.toNat_natCast]; rw [hsz]; omega) (by
                have : ((i.bytes * c : Nat) : Int) ≤ 281474976710656 := by
                  have : i.bytes * c ≤ 1000 * 100000 := Nat.mul_le_mul hb hc5
                  omega
                rwa [Int.natCast_mul] at this) (by omega)
              simp only [Int.toNat_natCast] at hr
              rw [hmc] at hr
              have hlen : (reps zv.cells.toList l).length ≤ (reps zv.cells.toList c).toArray.size := by
                simp only [List.size_toArray, reps_len]; exact Nat.mul_le_mul_right _ q1
              refine ⟨(reps zv.cells.toList c).toArray, .slice (some ⟨w.heap.size, 0, none⟩) l c, ?_, ?_, hlen, fun v hv => (plain_vr (ρ := ρ) (reps_mem hp l v hv)).2, fun e0 => ?_, fun ρ' n hρ => ?_⟩
              · simp only [execOp, ho, el, ec, Sem.run_bind, hr, Result.andThen_ok, Sem.run_pure]
              · rw [reps_len]
                simp only [reps_take _ q1]
                exact plains_l2 (reps_mem hp l)
              · have e1 : zv.cells.toList.length = 0 := e0
                omega
              · rw [VR]
                refine ⟨_, c, _, rfl, q1, .inr rfl, hρ, fun _ => ?_, fun _ => rfl⟩
                simp only [List.size_toArray, reps_len]
                exact Nat.le_refl _
      · cases h
    · cases h
  · cases h
end
end Go.Proofs.YtllahinoomahnaaGreatDoor.Am
