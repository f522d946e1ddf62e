import Derived.Test.YtllahinoomahnaaGreatDoorAmS
set_option linter.unusedSimpArgs false
namespace Go.Proofs.YtllahinoomahnaaGreatDoor.Am
open Go

theorem run_mapM_list {P : Program} {w : World} {α β : Type} {f : α → Sem β} {g : α → β} : ∀ (l : List α), (∀ x ∈ l, (f x).run P w = .ok (g x) w) → (l.mapM f).run P w = .ok (l.map g) w
  | [], _ => by simp
  | x :: r, h => by
    rw [List.mapM_cons]
    simp [h x (by simp), run_mapM_list r (fun y hy => h y (by simp [hy]))]
theorem run_mapM_arr {P : Program} {w : World} {α β : Type} {f : α → Sem β} {g : α → β} (xs : Array α) (h : ∀ x ∈ xs.toList, (f x).run P w = .ok (g x) w) : (xs.mapM f).run P w = .ok (xs.map g) w := by
  rw [Array.mapM_eq_mapM_toList]
  have := run_mapM_list xs.toList h
  rw [← bind_pure_comp]
  simp [this]
  apply Array.ext'
  simp
section
variable {P : Program} {E : Env} {ρ : Rho} {s : St} {w : World} {t : List Value} {a : Act} {o : Oper} {k : K2} {Q : Exit → Act → World → Prop}
theorem build_run (g : Good P E) (hT : TR ρ t a) {ty : TypeId} {ps : Array (Nat × Operand)} {v : Value} (h : E.build ty ps.toList t = some v) : ∃ u, (Instr.build ty (ps.map fun p => (p.1, a.eval p.2))).run P w = .ok u w ∧ VR ρ v u := by
  unfold Env.build at h
  split at h
  · cases h
  · rename_i z hz
    obtain ⟨i, zv, hi, hz0, rfl, hsz, hb, hp⟩ := g.zero _ _ hz
    split at h
    · rename_i fs hd
      rw [Option.map_eq_some_iff] at h
      obtain ⟨cs, hcs, rfl⟩ := h
      have hf := g.fields _ _ hd
      have hm := run_mapM_arr (P := P) (w := w) (f := fun (f : Field) => (do pure (f.offset, ← sizeOf f.type) : Sem (Nat × Nat))) (g := fun f => (f.offset, ((P.info? f.type).map (·.size)).getD 0)) fs (fun f hf' => by
        obtain ⟨j, hj⟩ := hf f hf'
        simp [run_sizeOf hj, hj])
      obtain ⟨ys', f1, f2, f3, f4⟩ := fill_ok (placeC := fun k => (fs.map fun f => (f.offset, ((P.info? f.type).map (·.size)).getD 0))[k]?) hT (fun j p hj => by
        unfold fieldPl at hj
        split at hj
        · rename_i f hfj
          rw [Option.map_eq_some_iff] at hj
          obtain ⟨n, hn, rfl⟩ := hj
          obtain ⟨q, hq, rfl⟩ := g.size _ _ hn
          have : fs[j]? = some f := by simpa using hfj
          simp [this, hq]
        · cases hj) ps.toList _ _ _ hcs (plains_l2 hp) (fun v hv => (plain_vr (ρ := ρ) (hp v hv)).2)
      refine ⟨.agg ys'.toArray, ?_, vr_agg.2 ⟨_, rfl, by simpa using f2, f3⟩⟩
      have f1' : Instr.fill (fun k => (fs.map fun f => (f.offset, ((P.info? f.type).map (·.size)).getD 0))[k]?) zv.cells (ps.map fun p => (p.1, a.eval p.2)).toList = some ys'.toArray := by rw [Array.toList_map]; exact f1
      simp only [Instr.build, Sem.run_bind, zeroValue, typeInfo, run_program, hi, hz0, Result.andThen_ok, Sem.run_pure, run_underlying (g.und _ _ hd), hm, f1']
    · rename_i len e hd
      split at h
      · rename_i n hn
        rw [Option.map_eq_some_iff] at h
        obtain ⟨cs, hcs, rfl⟩ := h
        obtain ⟨j, hj, rfl⟩ := g.size _ _ hn
        obtain ⟨ys', f1, f2, f3, f4⟩ := fill_ok (placeC := fun k => some (k * j.size, j.size)) hT (fun _ p hj => hj) ps.toList _ _ _ hcs (plains_l2 hp) (fun v hv => (plain_vr (ρ := ρ) (hp v hv)).2)
        refine ⟨.agg ys'.toArray, ?_, vr_agg.2 ⟨_, rfl, by simpa using f2, f3⟩⟩
        have f1' : Instr.fill (fun k => some (k * j.size, j.size)) zv.cells (ps.map fun p => (p.1, a.eval p.2)).toList = some ys'.toArray := by rw [Array.toList_map]; exact f1
        simp only [Instr.build, Sem.run_bind, zeroValue, typeInfo, run_program, hi, hz0, Result.andThen_ok, Sem.run_pure, run_underlying (g.und _ _ hd), run_sizeOf hj, f1']
      · cases h
    · cases h
theorem L2.evals (hT : TR ρ t a) : ∀ (xs : List Operand), L2 ρ (xs.map (opv t)) (xs.map a.eval)
  | [] => L2.nil ρ
  | x :: r => (L2.evals hT r).cons (hT.opv x)
theorem op_call {call : CallK} (g : Good P E) (hC : CallOk P call) (hR : R ρ s w) (hT : TR ρ t a) {c : Call} {f : Operand} (ho : o.op = .call c) (hc : c.callee = .value f) (h : opCvK E call s (c.args.toList.map (opv t)) k (opv t f) = true) : o.wp P a w (Nx ρ s w k o a) Q := by
  have hf := hT.opv f
  generalize opv t f = F at h hf
  unfold opCvK at h
  split at h
  · rename_i fid first captured
    rw [forceL_eq] at h
    obtain ⟨fs', cs', e, l1, l2⟩ := vr_func.1 hf
    cases hxt : E.xt fid with
    | some gx =>
      rw [hxt] at h
      refine vK_wp hR h fun v ev => ?_
      have hl : L2 ρ (first.toList ++ (c.args.toList.map (opv t) ++ captured.toList)) (fs'.toList ++ (c.args.toList.map a.eval ++ cs'.toList)) := l1.append ((L2.evals hT _).append l2)
      obtain ⟨u, hu, hvr⟩ := g.xt fid gx hxt _ _ ev ρ _ w hl
      have hargs : (fs'.toList ++ (c.args.toList.map a.eval ++ cs'.toList)).toArray = fs' ++ c.args.map a.eval ++ cs' := by
        apply Array.ext'
        simp
      rw [hargs, Array.append_assoc] at hu
      exact ⟨u, by simp [execOp, ho, resolve, hc, e, Deferred.ofValue, invoke, hu], hvr⟩
    | none =>
    rw [hxt] at h
    simp only [xtK] at h
    obtain ⟨h1, h2⟩ := hC _ _ _ _ h
    have hl : L2 ρ (first.toList ++ (c.args.toList.map (opv t) ++ captured.toList)) (fs'.toList ++ (c.args.toList.map a.eval ++ cs'.toList)) := l1.append ((L2.evals hT _).append l2)
    have hcall := h2 ρ w _ hR hl
    unfold Oper.wp
    have hargs : (fs'.toList ++ (c.args.toList.map a.eval ++ cs'.toList)).toArray = fs' ++ c.args.map a.eval ++ cs' := by
      apply Array.ext'
      simp
    rw [hargs] at hcall
    have hrun : (execOp a.eval o).run P w = .ok (.enter fid (fs' ++ c.args.map a.eval ++ cs')) w := by
      simp [execOp, ho, resolve, hc, e, Deferred.ofValue, invoke, h1]
    rw [hrun]
    refine hcall.mono ?_
    rintro e w' ⟨v, u, ρ', s', rfl, r1, r2, r3, r4⟩
    exact ⟨v, u, ρ', s', rfl, r1, r2, r3, r4⟩
  · cases h
theorem op_ok (g : Good P E) {call : CallK} (hC : CallOk P call) (hR : R ρ s w) (hT : TR ρ t a) (h : oneOpK E call t s k o.op = true) : o.wp P a w (Nx ρ s w k o a) Q := by
  have hv : ∀ {S : Sem Value} {u : Value}, S.run P w = .ok u w → (do pure (.value (← S)) : Sem Next).run P w = .ok (.value u) w := fun e => by simp [e]
  unfold oneOpK at h
  split at h
  case h_1 x ho => exact light_wp hR (by simp [execOp, ho]) (hT.opv x) h
  case h_2 x ho => exact light_wp hR (by simp [execOp, ho]) (hT.opv x) h
  case h_3 c x y ho =>
    refine vK_wp hR h fun v e => ?_
    unfold opPick at e
    have hc := hT.opv c
    split at e
    · rename_i hcv
      rw [hcv, VR] at hc
      exact ⟨a.eval x, by simp [execOp, ho, hc, asBool], (Option.some.inj e) ▸ hT.opv x⟩
    · rename_i hcv
      rw [hcv, VR] at hc
      exact ⟨a.eval y, by simp [execOp, ho, hc, asBool], (Option.some.inj e) ▸ hT.opv y⟩
    · cases e
  case h_4 op ty x y ty2 ho =>
    refine vK_wp hR h fun v e => ?_
    obtain ⟨u, hu, hvr⟩ := bin_run (w := w) g e (hT.opv x) (hT.opv y)
    exact ⟨u, by simp only [execOp, ho]; exact hv hu, hvr⟩
  case h_5 op ty x ho =>
    refine vK_wp hR h fun v e => ?_
    obtain ⟨u, hu, hvr⟩ := un_run (P := P) (w := w) e (hT.opv x)
    exact ⟨u, by simp only [execOp, ho]; exact hv hu, hvr⟩
  case h_6 ty x ho =>
    refine vK_wp hR h fun v e => ?_
    obtain ⟨u, hu, hvr⟩ := load_run g hR e (hT.opv x)
    exact ⟨u, by simp only [execOp, ho]; exact hv hu, hvr⟩
  case h_7 ty x y ho => exact op_store g hR hT ho h
  case h_8 ty x f ho =>
    refine vK_wp hR h fun v e => ?_
    obtain ⟨u, hu, hvr⟩ := fa_run (w := w) g e (hT.opv x)
    exact ⟨u, by simp only [execOp, ho]; exact hv hu, hvr⟩
  case h_9 x ho => exact vK_wp hR h fun v e => nc_run e (hT.opv x) rfl ho
  case h_10 ty x i ho =>
    refine vK_wp hR h fun v e => ?_
    obtain ⟨u, hu, hvr⟩ := ia_run (w := w) g e (hT.opv x) (hT.opv i)
    exact ⟨u, by simp only [execOp, ho]; exact hv hu, hvr⟩
  case h_11 ty x i ho =>
    refine vK_wp hR h fun v e => ?_
    obtain ⟨u, hu, hvr⟩ := ix_run (w := w) g e (hT.opv x) (hT.opv i)
    exact ⟨u, by simp only [execOp, ho]; exact hv hu, hvr⟩
  case h_12 ty ho => exact op_alloc g hR ho h
  case h_13 ty x ho => exact op_box hR hT ho h
  case h_14 ty ps ho =>
    refine vK_wp hR h fun v e => ?_
    obtain ⟨u, hu, hvr⟩ := build_run (w := w) g hT e
    exact ⟨u, by simp only [execOp, ho]; exact hv hu, hvr⟩
  case h_15 ty len ps ho => exact op_bs g hR hT ho h
  case h_16 ty x f ho =>
    refine vK_wp hR h fun v e => ?_
    obtain ⟨u, hu, hvr⟩ := field_run (w := w) g e (hT.opv x)
    exact ⟨u, by simp only [execOp, ho]; exact hv hu, hvr⟩
  case h_17 x i ho =>
    refine vK_wp hR h fun v e => ?_
    obtain ⟨u, hu, hvr⟩ := ex_run (P := P) (w := w) e (hT.opv x)
    exact ⟨u, by simp only [execOp, ho]; exact hv hu, hvr⟩
  case h_18 ty x lo hi mx ho =>
    refine vK_wp hR h fun v e => ?_
    cases mx with
    | some m =>
      cases hi with
      | none => cases e
      | some y =>
        obtain ⟨u, hu, hvr⟩ := slm_run (w := w) g hT e (hT.opv x) (hT.opv y) (hT.opv m)
        exact ⟨u, by simp only [execOp, ho]; exact hv hu, hvr⟩
    | none =>
      obtain ⟨u, hu, hvr⟩ := sl_run (w := w) g hT e (hT.opv x)
      exact ⟨u, by simp only [execOp, ho]; exact hv hu, hvr⟩
  case h_19 ty x ho =>
    refine vK_wp hR h fun v e => ?_
    obtain ⟨u, hu, hvr⟩ := mi_run (w := w) g e (hT.opv x)
    exact ⟨u, by simp only [execOp, ho]; exact hv hu, hvr⟩
  case h_20 fn first captured ho =>
    refine vK_wp hR h fun v e => ?_
    unfold opMF at e
    refine ⟨.func fn (first.map a.eval) (captured.map a.eval), by simp [execOp, ho, Instr.makeFunc], ?_⟩
    rw [← Option.some.inj e]
    exact vr_func.2 ⟨_, _, rfl, by simpa using L2.evals hT first.toList, by simpa using L2.evals hT captured.toList⟩
  case h_21 src dst x ho =>
    refine vK_wp hR h fun v e => ?_
    obtain ⟨u, hu, hvr⟩ := cv1_run g hR e (hT.opv x)
    exact ⟨u, by simp only [execOp, ho]; exact hv hu, hvr⟩
  case h_22 c ho =>
    unfold opCallK at h
    split at h
    · rename_i f hc
      exact op_call g hC hR hT ho hc h
    · rename_i b hc
      unfold opBIK at h
      split at h
      · split at h
        · rename_i x ty h1 h2
          have e1 : c.args = #[x] := by apply Array.ext'; simpa using h1
          have e2 : c.argTypes = #[ty] := by apply Array.ext'; simpa using h2
          refine vK_wp hR h fun v e => ?_
          obtain ⟨u, hu, hvr⟩ := len_run (t2 := o.type) g hR e (hT.opv x)
          exact ⟨u, by simp [execOp, ho, resolve, hc, e1, e2, invoke, builtin, hu], hvr⟩
        · cases h
      · split at h
        · rename_i x y t1 t2 h1 h2
          have e1 : c.args = #[x, y] := by apply Array.ext'; simpa using h1
          have e2 : c.argTypes = #[t1, t2] := by apply Array.ext'; simpa using h2
          cases hq : Nat.beq t1 t2 with
          | false =>
            rw [hq] at h
            simp only [cond_false] at h
            obtain ⟨u, w', hu, v, ρ', s', r1, r2, r3, r4⟩ := apS_run g hR h (hT.opv x) (hT.opv y) o.type
            unfold Oper.wp
            have hrun : (execOp a.eval o).run P w = .ok (.value u) w' := by simp [execOp, ho, resolve, hc, e1, e2, invoke, builtin, hu]
            rw [hrun]
            exact ⟨v, u, ρ', s', rfl, r1, r2, r3, r4⟩
          | true =>
            rw [hq] at h
            simp only [cond_true] at h
            obtain rfl : t1 = t2 := Nat.eq_of_beq_eq_true hq
            obtain ⟨u, w', hu, v, ρ', s', r1, r2, r3, r4⟩ := append_run g hR h (hT.opv x) (hT.opv y) o.type
            unfold Oper.wp
            have hrun : (execOp a.eval o).run P w = .ok (.value u) w' := by simp [execOp, ho, resolve, hc, e1, e2, invoke, builtin, hu]
            rw [hrun]
            exact ⟨v, u, ρ', s', rfl, r1, r2, r3, r4⟩
        · cases h
      · split at h
        · rename_i x y h1
          have e1 : c.args = #[x, y] := by apply Array.ext'; simpa using h1
          refine vK_wp hR h fun v e => ?_
          obtain ⟨u, hu, hvr⟩ := min_run (P := P) (w := w) (t1 := c.argTypes) (t2 := o.type) e (hT.opv x) (hT.opv y)
          exact ⟨u, by simp [execOp, ho, resolve, hc, e1, invoke, builtin, hu], hvr⟩
        · cases h
      · split at h
        · rename_i x y h1
          have e1 : c.args = #[x, y] := by apply Array.ext'; simpa using h1
          refine vK_wp hR h fun v e => ?_
          obtain ⟨u, hu, hvr⟩ := max_run (P := P) (w := w) (t1 := c.argTypes) (t2 := o.type) e (hT.opv x) (hT.opv y)
          exact ⟨u, by simp [execOp, ho, resolve, hc, e1, invoke, builtin, hu], hvr⟩
        · cases h
      · split at h
        · rename_i x y t1 t2 h1 h2
          have e1 : c.args = #[x, y] := by apply Array.ext'; simpa using h1
          have e2 : c.argTypes = #[t1, t2] := by apply Array.ext'; simpa using h2
          cases hq : Nat.beq t1 t2 with
          | false => rw [hq] at h; cases h
          | true =>
            rw [hq] at h
            simp only [cond_true] at h
            obtain rfl : t1 = t2 := Nat.eq_of_beq_eq_true hq
            obtain ⟨u, w', hu, v, ρ', s', r1, r2, r3, r4⟩ := cp_run (ty := o.type) g hR h (hT.opv x) (hT.opv y)
            unfold Oper.wp
            have hrun : (execOp a.eval o).run P w = .ok (.value u) w' := by simp [execOp, ho, resolve, hc, e1, e2, invoke, builtin, hu]
            rw [hrun]
            exact ⟨v, u, ρ', s', rfl, r1, r2, r3, r4⟩
        · cases h
      · split at h
        · rename_i x h1
          have e1 : c.args = #[x] := by apply Array.ext'; simpa using h1
          refine vK_wp hR h fun v e => ?_
          obtain ⟨u, hu, hvr⟩ := usd_run (P := P) (w := w) e (hT.opv x) c.argTypes o.type
          exact ⟨u, by simp [execOp, ho, resolve, hc, e1, invoke, builtin, hu], hvr⟩
        · cases h
      · split at h
        · rename_i x ty h1 h2
          have e1 : c.args = #[x] := by apply Array.ext'; simpa using h1
          have e2 : c.argTypes = #[ty] := by apply Array.ext'; simpa using h2
          refine vK_wp hR h fun v e => ?_
          obtain ⟨u, hu, hvr⟩ := cap_run (P := P) (w := w) (ty := o.type) g e (hT.opv x)
          exact ⟨u, by simp [execOp, ho, resolve, hc, e1, e2, invoke, builtin, hu], hvr⟩
        · cases h
      · split at h
        · rename_i x y pt it h1 h2
          have e1 : c.args = #[x, y] := by apply Array.ext'; simpa using h1
          have e2 : c.argTypes = #[pt, it] := by apply Array.ext'; simpa using h2
          obtain ⟨u, w', hu, v, ρ', s', r1, r2, r3, r4⟩ := ustr_run (it := it) (ty := o.type) g hR h (hT.opv x) (hT.opv y)
          unfold Oper.wp
          have hrun : (execOp a.eval o).run P w = .ok (.value u) w' := by simp [execOp, ho, resolve, hc, e1, e2, invoke, builtin, hu]
          rw [hrun]
          exact ⟨v, u, ρ', s', rfl, r1, r2, r3, r4⟩
        · cases h
      · cases h
    · cases h
  case h_23 ty x i ok ho =>
    refine vK_wp hR h fun v e => ?_
    obtain ⟨u, hu, hvr⟩ := lk_run g hR e (hT.opv x) (hT.opv i)
    exact ⟨u, by simp only [execOp, ho]; exact hv hu, hvr⟩
  case h_24 ty m x y ho => exact op_mu g hR hT ho h
  case h_25 ty r ho => exact op_mk hR ho h
  case h_26 ty x y ho => exact op_ms g hR hT ho h
  case h_27 ty x ho => exact op_rg g hR hT ho h
  case h_28 x isS ho => exact op_nx hR hT ho h
  case h_29 x ho => exact op_en hR hT ho h
  case h_30 => cases h
end
end Go.Proofs.YtllahinoomahnaaGreatDoor.Am
