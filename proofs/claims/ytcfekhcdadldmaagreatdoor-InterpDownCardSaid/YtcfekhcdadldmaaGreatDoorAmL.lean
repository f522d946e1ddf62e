import Derived.Test.YtcfekhcdadldmaaGreatDoorAmS
import Derived.Orders
set_option linter.unusedSimpArgs false
namespace Go.Proofs.YtcfekhcdadldmaaGreatDoor.Am
open Go
theorem run_mapM_list {P : Program} {w : World} {α β : Type} {f : α → Sem β} {g : α → β} : ∀ (l : List α), (∀ x ∈ l, (f x).run P w = .ok (g x) w) → (l.mapM f).run P w = .ok (l.map g) w
  | [], _ => by simp
  | x :: r, h => by
    rw [List.mapM_cons]
    simp [h x (by simp), run_mapM_list r (fun y hy => h y (by simp [hy]))]
theorem run_mapM_arr {P : Program} {w : World} {α β : Type} {f : α → Sem β} {g : α → β} (xs : Array α) (h : ∀ x ∈ xs.toList, (f x).run P w = .ok (g x) w) : (xs.mapM f).run P w = .ok (xs.map g) w := by
  rw [Array.mapM_eq_mapM_toList]
  have := run_mapM_list xs.toList h
  rw [← bind_pure_comp]
  simp [this]
  apply Array.ext'
  simp
section
variable {P : Program} {E : Env} {ρ : Rho} {s : St} {w : World} {t : List Value} {a : Act} {o : Oper} {k : K2} {Q : Exit → Act → World → Prop}
theorem build_run (g : Good P E) (hT : TR ρ t a) {ty : TypeId} {ps : Array (Nat × Operand)} {v : Value} (h : E.build ty ps.toList t = some v) : ∃ u, (Instr.build ty (ps.map fun p => (p.1, a.eval p.2))).run P w = .ok u w ∧ VR ρ v u := by
  unfold Env.build at h
  split at h
  · cases h
  · rename_i z hz
    obtain ⟨i, zv, hi, hz0, rfl, hsz, hb, hp⟩ := g.zero _ _ hz
    split at h
    · rename_i fs hd
      rw [Option.map_eq_some_iff] at h
      obtain ⟨cs, hcs, rfl⟩ := h
      have hf := g.fields _ _ hd
      have hm := run_mapM_arr (P := P) (w := w) (f := fun (f : Field) => (do pure (f.offset, ← sizeOf f.type) : Sem (Nat × Nat))) (g := fun f => (f.offset, ((P.info? f.type).map (·.size)).getD 0)) fs (fun f hf' => by
        obtain ⟨j, hj⟩ := hf f hf'
        simp [run_sizeOf hj, hj])
      obtain ⟨ys', f1, f2, f3, f4⟩ := fill_ok (placeC := fun k => (fs.map fun f => (f.offset, ((P.info? f.type).map (·.size)).getD 0))[k]?) hT (fun j p hj => by
        unfold fieldPl at hj
        split at hj
        · rename_i f hfj
          rw [Option.map_eq_some_iff] at hj
          obtain ⟨n, hn, rfl⟩ := hj
          obtain ⟨q, hq, rfl⟩ := g.size _ _ hn
          have : fs[j]? = some f := by simpa using hfj
          simp [this, hq]
        · cases hj) ps.toList _ _ _ hcs (plains_l2 hp) (fun v hv => (plain_vr (ρ := ρ) (hp v hv)).2)
      refine ⟨.agg ys'.toArray, ?_, vr_agg.2 ⟨_, rfl, by simpa using f2, f3⟩⟩
      have f1' : Instr.fill (fun k => (fs.map fun f => (f.offset, ((P.info? f.type).map (·.size)).getD 0))[k]?) zv.cells (ps.map fun p => (p.1, a.eval p.2)).toList = some ys'.toArray := by rw [Array.toList_map]; exact f1
      simp only [Instr.build, Sem.run_bind, zeroValue, typeInfo, run_program, hi, hz0, Result.andThen_ok, Sem.run_pure, run_underlying (g.und _ _ hd), hm, f1']
    · rename_i len e hd
      split at h
      · rename_i n hn
        rw [Option.map_eq_some_iff] at h
        obtain ⟨cs, hcs, rfl⟩ := h
        obtain ⟨j, hj, rfl⟩ := g.size _ _ hn
        obtain ⟨ys', f1, f2, f3, f4⟩ := fill_ok (placeC := fun k => some (k * j.size, j.size)) hT (fun _ p hj => hj) ps.toList _ _ _ hcs (plains_l2 hp) (fun v hv => (plain_vr (ρ := ρ) (hp v hv)).2)
        refine ⟨.agg ys'.toArray, ?_, vr_agg.2 ⟨_, rfl, by simpa using f2, f3⟩⟩
        have f1' : Instr.fill (fun k => some (k * j.size, j.size)) zv.cells (ps.map fun p => (p.1, a.eval p.2)).toList = some ys'.toArray := by rw [Array.toList_map]; exact f1
        simp only [Instr.build, Sem.run_bind, zeroValue, typeInfo, run_program, hi, hz0, Result.andThen_ok, Sem.run_pure, run_underlying (g.und _ _ hd), run_sizeOf hj, f1']
      · cases h
    · cases h
theorem L2.evals (hT : TR ρ t a) : ∀ (xs : List Operand), L2 ρ (xs.map (opv t)) (xs.map a.eval)
  | [] => L2.nil ρ
  | x :: r => (L2.evals hT r).cons (hT.opv x)
theorem op_call {call : CallK} (g : Good P E) (hC : CallOk P call) (hR : R ρ s w) (hT : TR ρ t a) {c : Call} {f : Operand} (ho : o.op = .call c) (hc : c.callee = .value f) (h : opCvK E call s (c.args.toList.map (opv t)) k (opv t f) = true) : o.wp P a w (Nx ρ s w k o a) Q := by
  have hf := hT.opv f
  generalize opv t f = F at h hf
  unfold opCvK at h
  split at h
  · rename_i fid first captured
    rw [forceL_eq] at h
    obtain ⟨fs', cs', e, l1, l2⟩ := vr_func.1 hf
    cases hxt : E.xt fid with
    | some gx =>
      rw [hxt] at h
      refine vK_wp hR h fun v ev => ?_
      have hl : L2 ρ (first.toList ++ (c.args.toList.map (opv t) ++ captured.toList)) (fs'.toList ++ (c.args.toList.map a.eval ++ cs'.toList)) := l1.append ((L2.evals hT _).append l2)
      obtain ⟨u, hu, hvr⟩ := g.xt fid gx hxt _ _ ev ρ _ w hl
      have hargs : (fs'.toList ++ (c.args.toList.map a.eval ++ cs'.toList)).toArray = fs' ++ c.args.map a.eval ++ cs' := by
        apply Array.ext'
        simp
      rw [hargs, Array.append_assoc] at hu
      exact ⟨u, by simp [execOp, ho, resolve, hc, e, Deferred.ofValue, invoke, hu], hvr⟩
    | none =>
    rw [hxt] at h
    simp only [xtK] at h
    obtain ⟨h1, h2⟩ := hC _ _ _ _ h
    have hl : L2 ρ (first.toList ++ (c.args.toList.map (opv t) ++ captured.toList)) (fs'.toList ++ (c.args.toList.map a.eval ++ cs'.toList)) := l1.append ((L2.evals hT _).append l2)
    have hcall := h2 ρ w _ hR hl
    unfold Oper.wp
    have hargs : (fs'.toList ++ (c.args.toList.map a.eval ++ cs'.toList)).toArray = fs' ++ c.args.map a.eval ++ cs' := by
      apply Array.ext'
      simp
    rw [hargs] at hcall
    have hrun : (execOp a.eval o).run P w = .ok (.enter fid (fs' ++ c.args.map a.eval ++ cs')) w := by
      simp [execOp, ho, resolve, hc, e, Deferred.ofValue, invoke, h1]
    rw [hrun]
    refine hcall.mono ?_
    rintro e w' ⟨v, u, ρ', s', rfl, r1, r2, r3, r4⟩
    exact ⟨v, u, ρ', s', rfl, r1, r2, r3, r4⟩
  · rename_i ty name first captured
    obtain ⟨fs', cs', e, l1, l2⟩ := vr_func.1 hf
    unfold moK at h
    split at h
    · rename_i p ad r hp hl0
      rw [forceN_eq] at h
      obtain ⟨h1, h2⟩ := hC _ _ _ _ h
      have hl : L2 ρ (first.toList ++ c.args.toList.map (opv t)) (fs'.toList ++ c.args.toList.map a.eval) := l1.append (L2.evals hT _)
      rw [hl0] at hl
      obtain ⟨u, ys, hys, hv, hr⟩ := hl.inv
      obtain ⟨y, hy, rfl⟩ := ptr_vr hv
      have hcall := h2 ρ w (.pointer (some ⟨y.1, ad.off + p.2, none⟩) :: ys) hR (hr.cons (by rw [VR]; exact ⟨_, ⟨y, hy, rfl⟩, rfl⟩))
      obtain ⟨⟨e1, hu⟩, hm⟩ := g.mo _ _ _ hp
      unfold Oper.wp
      have hargs : fs' ++ c.args.map a.eval = (.pointer (some ⟨y.1, ad.off, none⟩) :: ys).toArray := by
        apply Array.ext'
        simpa using hys
      have hrun : (execOp a.eval o).run P w = .ok (.enter p.1 (.pointer (some ⟨y.1, ad.off + p.2, none⟩) :: ys).toArray) w := by
        simp [execOp, ho, resolve, hc, e, Deferred.ofValue, invoke, hargs, run_underlying hu, callMethod, hm, h1]
      rw [hrun]
      refine hcall.mono ?_
      rintro e w' ⟨v, u, ρ', s', rfl, r1, r2, r3, r4⟩
      exact ⟨v, u, ρ', s', rfl, r1, r2, r3, r4⟩
    · cases h
  · cases h
theorem op_ok (g : Good P E) {call : CallK} (hC : CallOk P call) (hR : R ρ s w) (hT : TR ρ t a) (h : oneOpK E call t s k o.op = true) : o.wp P a w (Nx ρ s w k o a) Q := by
  have hv : ∀ {S : Sem Value} {u : Value}, S.run P w = .ok u w → (do pure (.value (← S)) : Sem Next).run P w = .ok (.value u) w := fun e => by simp [e]
  unfold oneOpK at h
  split at h
  case h_1 x ho => exact light_wp hR (by simp [execOp, ho]) (hT.opv x) h
  case h_2 x ho => exact light_wp hR (by simp [execOp, ho]) (hT.opv x) h
  case h_3 c x y ho =>
    refine vK_wp hR h fun v e => ?_
    unfold opPick at e
    have hc := hT.opv c
    split at e
    · rename_i hcv
      rw [hcv, VR] at hc
      exact ⟨a.eval x, by simp [execOp, ho, hc, asBool], (Option.some.inj e) ▸ hT.opv x⟩
    · rename_i hcv
      rw [hcv, VR] at hc
      exact ⟨a.eval y, by simp [execOp, ho, hc, asBool], (Option.some.inj e) ▸ hT.opv y⟩
    · cases e
  case h_4 op ty x y ty2 ho =>
    refine vK_wp hR h fun v e => ?_
    obtain ⟨u, hu, hvr⟩ := bin_run (w := w) g e (hT.opv x) (hT.opv y)
    exact ⟨u, by simp only [execOp, ho]; exact hv hu, hvr⟩
  case h_5 op ty x ho =>
    refine vK_wp hR h fun v e => ?_
    obtain ⟨u, hu, hvr⟩ := un_run (P := P) (w := w) e (hT.opv x)
    exact ⟨u, by simp only [execOp, ho]; exact hv hu, hvr⟩
  case h_6 ty x ho =>
    refine vK_wp hR h fun v e => ?_
    obtain ⟨u, hu, hvr⟩ := load_run g hR e (hT.opv x)
    exact ⟨u, by simp only [execOp, ho]; exact hv hu, hvr⟩
  case h_7 ty x y ho => exact op_store g hR hT ho h
  case h_8 ty x f ho =>
    refine vK_wp hR h fun v e => ?_
    obtain ⟨u, hu, hvr⟩ := fa_run (w := w) g e (hT.opv x)
    exact ⟨u, by simp only [execOp, ho]; exact hv hu, hvr⟩
  case h_9 x ho => exact vK_wp hR h fun v e => nc_run e (hT.opv x) rfl ho
  case h_10 ty x i ho =>
    refine vK_wp hR h fun v e => ?_
    obtain ⟨u, hu, hvr⟩ := ia_run (w := w) g e (hT.opv x) (hT.opv i)
    exact ⟨u, by simp only [execOp, ho]; exact hv hu, hvr⟩
  case h_11 ty x i ho =>
    refine vK_wp hR h fun v e => ?_
    obtain ⟨u, hu, hvr⟩ := ix_run (w := w) g e (hT.opv x) (hT.opv i)
    exact ⟨u, by simp only [execOp, ho]; exact hv hu, hvr⟩
  case h_12 ty ho => exact op_alloc g hR ho h
  case h_13 ty x ho => exact op_box hR hT ho h
  case h_14 ty ps ho =>
    refine vK_wp hR h fun v e => ?_
    obtain ⟨u, hu, hvr⟩ := build_run (w := w) g hT e
    exact ⟨u, by simp only [execOp, ho]; exact hv hu, hvr⟩
  case h_15 ty len ps ho => exact op_bs g hR hT ho h
  case h_16 ty x f ho =>
    refine vK_wp hR h fun v e => ?_
    obtain ⟨u, hu, hvr⟩ := field_run (w := w) g e (hT.opv x)
    exact ⟨u, by simp only [execOp, ho]; exact hv hu, hvr⟩
  case h_17 x i ho =>
    refine vK_wp hR h fun v e => ?_
    obtain ⟨u, hu, hvr⟩ := ex_run (P := P) (w := w) e (hT.opv x)
    exact ⟨u, by simp only [execOp, ho]; exact hv hu, hvr⟩
  case h_18 ty x lo hi mx ho =>
    refine vK_wp hR h fun v e => ?_
    rcases sliceS_run g hR hT e with e | ⟨rfl, u, hu, hvr⟩
    rotate_left
    · exact ⟨u, by simp only [execOp, ho]; exact hv hu, hvr⟩
    cases mx with
    | some m =>
      cases hi with
      | none => cases e
      | some y =>
        obtain ⟨u, hu, hvr⟩ := slm_run (w := w) g hT e (hT.opv x) (hT.opv y) (hT.opv m)
        exact ⟨u, by simp only [execOp, ho]; exact hv hu, hvr⟩
    | none =>
      obtain ⟨u, hu, hvr⟩ := sl_run (w := w) g hT e (hT.opv x)
      exact ⟨u, by simp only [execOp, ho]; exact hv hu, hvr⟩
  case h_19 ty x ho =>
    refine vK_wp hR h fun v e => ?_
    obtain ⟨u, hu, hvr⟩ := mi_run (w := w) g e (hT.opv x)
    exact ⟨u, by simp only [execOp, ho]; exact hv hu, hvr⟩
  case h_20 fn first captured ho =>
    refine vK_wp hR h fun v e => ?_
    unfold opMF at e
    refine ⟨.func fn (first.map a.eval) (captured.map a.eval), by simp [execOp, ho, Instr.makeFunc], ?_⟩
    rw [← Option.some.inj e]
    exact vr_func.2 ⟨_, _, rfl, by simpa using L2.evals hT first.toList, by simpa using L2.evals hT captured.toList⟩
  case h_21 src dst x ho =>
    refine vK_wp hR h fun v e => ?_
    obtain ⟨u, hu, hvr⟩ := cv1_run g hR e (hT.opv x)
    exact ⟨u, by simp only [execOp, ho]; exact hv hu, hvr⟩
  case h_22 c ho =>
    unfold opCallK at h
    split at h
    · rename_i f hc
      exact op_call g hC hR hT ho hc h
    · rename_i b hc
      unfold opBIK at h
      split at h
      · split at h
        · rename_i x ty h1 h2
          have e1 : c.args = #[x] := by apply Array.ext'; simpa using h1
          have e2 : c.argTypes = #[ty] := by apply Array.ext'; simpa using h2
          refine vK_wp hR h fun v e => ?_
          obtain ⟨u, hu, hvr⟩ := len_run (t2 := o.type) g hR e (hT.opv x)
          exact ⟨u, by simp [execOp, ho, resolve, hc, e1, e2, invoke, builtin, hu], hvr⟩
        · cases h
      · split at h
        · rename_i x y t1 t2 h1 h2
          have e1 : c.args = #[x, y] := by apply Array.ext'; simpa using h1
          have e2 : c.argTypes = #[t1, t2] := by apply Array.ext'; simpa using h2
          cases hq : Nat.beq t1 t2 with
          | false =>
            rw [hq] at h
            simp only [cond_false] at h
            obtain ⟨u, w', hu, v, ρ', s', r1, r2, r3, r4⟩ := apS_run g hR h (hT.opv x) (hT.opv y) o.type
            unfold Oper.wp
            have hrun : (execOp a.eval o).run P w = .ok (.value u) w' := by simp [execOp, ho, resolve, hc, e1, e2, invoke, builtin, hu]
            rw [hrun]
            exact ⟨v, u, ρ', s', rfl, r1, r2, r3, r4⟩
          | true =>
            rw [hq] at h
            simp only [cond_true] at h
            obtain rfl : t1 = t2 := Nat.eq_of_beq_eq_true hq
            obtain ⟨u, w', hu, v, ρ', s', r1, r2, r3, r4⟩ := append_run g hR h (hT.opv x) (hT.opv y) o.type
            unfold Oper.wp
            have hrun : (execOp a.eval o).run P w = .ok (.value u) w' := by simp [execOp, ho, resolve, hc, e1, e2, invoke, builtin, hu]
            rw [hrun]
            exact ⟨v, u, ρ', s', rfl, r1, r2, r3, r4⟩
        · cases h
      · split at h
        · rename_i x y h1
          have e1 : c.args = #[x, y] := by apply Array.ext'; simpa using h1
          refine vK_wp hR h fun v e => ?_
          obtain ⟨u, hu, hvr⟩ := min_run (P := P) (w := w) (t1 := c.argTypes) (t2 := o.type) e (hT.opv x) (hT.opv y)
          exact ⟨u, by simp [execOp, ho, resolve, hc, e1, invoke, builtin, hu], hvr⟩
        · cases h
      · split at h
        · rename_i x y h1
          have e1 : c.args = #[x, y] := by apply Array.ext'; simpa using h1
          refine vK_wp hR h fun v e => ?_
          obtain ⟨u, hu, hvr⟩ := max_run (P := P) (w := w) (t1 := c.argTypes) (t2 := o.type) e (hT.opv x) (hT.opv y)
          exact ⟨u, by simp [execOp, ho, resolve, hc, e1, invoke, builtin, hu], hvr⟩
        · cases h
      · split at h
        · rename_i x y t1 t2 h1 h2
          have e1 : c.args = #[x, y] := by apply Array.ext'; simpa using h1
          have e2 : c.argTypes = #[t1, t2] := by apply Array.ext'; simpa using h2
          cases hq : Nat.beq t1 t2 with
          | false => rw [hq] at h; cases h
          | true =>
            rw [hq] at h
            simp only [cond_true] at h
            obtain rfl : t1 = t2 := Nat.eq_of_beq_eq_true hq
            obtain ⟨u, w', hu, v, ρ', s', r1, r2, r3, r4⟩ := cp_run (ty := o.type) g hR h (hT.opv x) (hT.opv y)
            unfold Oper.wp
            have hrun : (execOp a.eval o).run P w = .ok (.value u) w' := by simp [execOp, ho, resolve, hc, e1, e2, invoke, builtin, hu]
            rw [hrun]
            exact ⟨v, u, ρ', s', rfl, r1, r2, r3, r4⟩
        · cases h
      · split at h
        · rename_i x h1
          have e1 : c.args = #[x] := by apply Array.ext'; simpa using h1
          refine vK_wp hR h fun v e => ?_
          obtain ⟨u, hu, hvr⟩ := usd_run (P := P) (w := w) e (hT.opv x) c.argTypes o.type
          exact ⟨u, by simp [execOp, ho, resolve, hc, e1, invoke, builtin, hu], hvr⟩
        · cases h
      · split at h
        · rename_i x ty h1 h2
          have e1 : c.args = #[x] := by apply Array.ext'; simpa using h1
          have e2 : c.argTypes = #[ty] := by apply Array.ext'; simpa using h2
          refine vK_wp hR h fun v e => ?_
          obtain ⟨u, hu, hvr⟩ := cap_run (P := P) (w := w) (ty := o.type) g e (hT.opv x)
          exact ⟨u, by simp [execOp, ho, resolve, hc, e1, e2, invoke, builtin, hu], hvr⟩
        · cases h
      · split at h
        · rename_i x y pt it h1 h2
          have e1 : c.args = #[x, y] := by apply Array.ext'; simpa using h1
          have e2 : c.argTypes = #[pt, it] := by apply Array.ext'; simpa using h2
          obtain ⟨u, w', hu, v, ρ', s', r1, r2, r3, r4⟩ := ustr_run (it := it) (ty := o.type) g hR h (hT.opv x) (hT.opv y)
          unfold Oper.wp
          have hrun : (execOp a.eval o).run P w = .ok (.value u) w' := by simp [execOp, ho, resolve, hc, e1, e2, invoke, builtin, hu]
          rw [hrun]
          exact ⟨v, u, ρ', s', rfl, r1, r2, r3, r4⟩
        · cases h
      · split at h
        · rename_i x y mt it h1 h2
          have e1 : c.args = #[x, y] := by apply Array.ext'; simpa using h1
          have e2 : c.argTypes = #[mt, it] := by apply Array.ext'; simpa using h2
          obtain ⟨u, w', hu, v, ρ', s', r1, r2, r3, r4⟩ := del_run (it := it) (ty := o.type) g hR h (hT.opv x) (hT.opv y)
          unfold Oper.wp
          have hrun : (execOp a.eval o).run P w = .ok (.value u) w' := by simp [execOp, ho, resolve, hc, e1, e2, invoke, builtin, hu]
          rw [hrun]
          exact ⟨v, u, ρ', s', rfl, r1, r2, r3, r4⟩
        · cases h
      · split at h
        · rename_i x ty h1 h2
          have e1 : c.args = #[x] := by apply Array.ext'; simpa using h1
          have e2 : c.argTypes = #[ty] := by apply Array.ext'; simpa using h2
          obtain ⟨u, w', hu, v, ρ', s', r1, r2, r3, r4⟩ := clr_run (ty := o.type) g hR h (hT.opv x)
          unfold Oper.wp
          have hrun : (execOp a.eval o).run P w = .ok (.value u) w' := by simp [execOp, ho, resolve, hc, e1, e2, invoke, builtin, hu]
          rw [hrun]
          exact ⟨v, u, ρ', s', rfl, r1, r2, r3, r4⟩
        · cases h
      · cases h
    · cases h
  case h_23 ty x i ok ho =>
    refine vK_wp hR h fun v e => ?_
    obtain ⟨u, hu, hvr⟩ := lk_run g hR e (hT.opv x) (hT.opv i)
    exact ⟨u, by simp only [execOp, ho]; exact hv hu, hvr⟩
  case h_24 ty m x y ho => exact op_mu g hR hT (.inl ho) h
  case h_25 ty r ho => exact op_mk hR ho h
  case h_26 ty x y ho => exact op_ms g hR hT ho h
  case h_27 ty x ho => exact op_rg g hR hT ho h
  case h_28 x isS ho => exact op_nx hR hT ho h
  case h_29 x ho => exact op_en hR hT ho h
  case h_30 ty m x y ho => exact op_mu g hR hT (.inr ho) h
  case h_31 x tx ty ok ho =>
    refine vK_wp hR h fun v e => ?_
    obtain ⟨u, hu, hvr⟩ := ta_run (w := w) (tx := tx) g e (hT.opv x)
    exact ⟨u, by simp only [execOp, ho]; exact hv hu, hvr⟩
  case h_32 => cases h
end
end Go.Proofs.YtcfekhcdadldmaaGreatDoor.Am
set_option linter.unusedSimpArgs false
namespace Go.Proofs.YtcfekhcdadldmaaGreatDoor.Am
open Go
/-- a call, so many calls deep at most. -/
def evCallK (E : Env) (draw : CallK → DrawK) : Nat → CallK
  | 0, _, _, _, _ => false
  | n + 1, f, args, s, k => match E.ext f with
    | some g => cond (E.has f s.c args) (g args s k) (match E.fn f with
      | some fn => bodyK E (evCallK E draw n) (draw (evCallK E draw n)) fn args s k fn.body
      | none => false)
    | none => match E.fn f with
      | some fn => bodyK E (evCallK E draw n) (draw (evCallK E draw n)) fn args s k fn.body
      | none => false
/-- what a code comes to. -/
def Po (ρ : Rho) (s : St) (w : World) (k : KT) (ke : Nat → KT) (kr : KT) (e : Exit) (a' : Act) (w' : World) : Prop := ∃ ρ' s' t', R ρ' s' w' ∧ TR ρ' t' a' ∧ Ext ρ s w ρ' s' w' ∧ match e with
  | .normal => k t' s' = true
  | .exit i => ke i t' s' = true
  | .ret => kr t' s' = true
  | _ => False
theorem Po.from {ρ ρ1 : Rho} {s s1 : St} {w w1 : World} {k : KT} {ke : Nat → KT} {kr : KT} {e : Exit} {a' : Act} {w' : World} (hx : Ext ρ s w ρ1 s1 w1) (h : Po ρ1 s1 w1 k ke kr e a' w') : Po ρ s w k ke kr e a' w' := by
  obtain ⟨ρ', s', t', h1, h2, h3, h4⟩ := h
  exact ⟨ρ', s', t', h1, h2, hx.trans h3, h4⟩
/-- a region whose order is drawn, whatever the order. -/
def DrawOk (P : Program) (draw : DrawK) : Prop := ∀ id ops k t s, draw id ops k t s = true → ∀ ρ w a ke kr, R ρ s w → TR ρ t a → (Code.region id ops true).wp P (Po ρ s w k ke kr) a w
section
variable {P : Program} {E : Env} {call : CallK} {draw : DrawK}
theorem yield_ok {ρ : Rho} {t : List Value} {a : Act} (hT : TR ρ t a) {ops : Array Oper} {j : Nat} {want : Bool} (h : isBoolV (guardV ops.toList t j) = true) : (yielded ops a.tmps j == some want) = isWant want (guardV ops.toList t j) := by
  unfold guardV at h ⊢
  unfold yielded
  have e1 : ops.toList[j]? = ops[j]? := by simp
  rw [e1] at h ⊢
  cases hd : (ops[j]?).bind (·.dst) with
  | none => rw [hd] at h; simp [isBoolV] at h
  | some d =>
    rw [hd] at h
    simp only [Option.bind_some, at?_eq] at h ⊢
    cases hv : t[d]? with
    | none => rw [hv] at h; simp [isBoolV] at h
    | some v =>
      rw [hv] at h
      obtain ⟨u, hu, hvr⟩ := hT.vals.2 d v hv
      have hu' : a.tmps[d]? = some u := by simpa using hu
      rw [hu']
      cases v with
      | bool b => rw [VR] at hvr; subst hvr; simp [isWant]
      | tuple xs => obtain ⟨ys, rfl, _⟩ := vr_tuple.1 hvr; simp [isWant]
      | _ => simp [isBoolV] at h
theorem ops_ok (g : Good P E) (hC : CallOk P call) {ops : Array Oper} {k : KT} {ke : Nat → KT} {kr : KT} {ρ0 : Rho} {s0 : St} {w0 : World} : ∀ (l : List Oper) (i : Nat), ops.toList.drop i = l → ∀ (t : List Value) (s : St) (ρ : Rho) (w : World) (a : Act), evOpsK E call ops.toList k l t s = true → R ρ s w → TR ρ t a → Ext ρ0 s0 w0 ρ s w → wpOps P ops (Po ρ0 s0 w0 k ke kr) ((List.range ops.size).drop i) a w
  | [], i, hl, t, s, ρ, w, a, h, hR, hT, hX => by
    have hi : ops.size ≤ i := by have := List.drop_eq_nil_iff.1 hl; simpa using this
    rw [List.drop_eq_nil_of_le (by simpa using hi)]
    exact ⟨ρ, s, t, hR, hT, hX, h⟩
  | o :: r, i, hl, t, s, ρ, w, a, h, hR, hT, hX => by
    have hi : i < ops.size := by
      rcases Nat.lt_or_ge i ops.size with h1 | h1
      · exact h1
      · rw [List.drop_eq_nil_of_le (by simpa using h1)] at hl; cases hl
    have hcons := List.drop_eq_getElem_cons (l := ops.toList) (i := i) (by simpa using hi)
    rw [hl] at hcons
    obtain ⟨ho, hr⟩ := List.cons.inj hcons
    have hoi : ops[i]? = some o := by rw [ho]; simp [hi]
    rw [List.drop_eq_getElem_cons (by simpa using hi), List.getElem_range]
    simp only [wpOps, hoi]
    have ih := fun t s ρ w a => ops_ok (k := k) (ke := ke) (kr := kr) (ρ0 := ρ0) (s0 := s0) (w0 := w0) g hC r (i + 1) hr.symm t s ρ w a
    have go : oneOpK E call t s (fun v s => putK t o.dst v fun t => evOpsK E call ops.toList k r t s) o.op = true → o.wp P a w (wpOps P ops (Po ρ0 s0 w0 k ke kr) ((List.range ops.size).drop (i + 1))) (Po ρ0 s0 w0 k ke kr) := fun h1 => by
      refine Oper.wp_mono ?_ (op_ok g hC hR hT h1)
      rintro a' w' ⟨v, u, ρ', s', rfl, r1, r2, r3, r4⟩
      obtain ⟨t', h2, h3⟩ := putK_ok (hT.mono r3.sub) r1 r4
      exact ih t' s' ρ' w' _ h2 r2 h3 (hX.trans r3)
    rw [evOpsK] at h
    cases hg : o.guard with
    | none =>
      rw [hg] at h
      rw [if_pos (by simp [Region.wanted, hg])]
      exact .inl (go h)
    | some gd =>
      rw [hg] at h
      simp only at h
      cases hb : isBoolV (guardV ops.toList t gd.1) with
      | false => rw [hb] at h; cases h
      | true =>
        rw [hb] at h
        simp only [cond_true] at h
        have hy := yield_ok (want := gd.2) hT hb
        cases hw : isWant gd.2 (guardV ops.toList t gd.1) with
        | true =>
          rw [hw] at h hy
          rw [if_pos (by simp only [Region.wanted, hg]; exact hy)]
          exact .inl (go h)
        | false =>
          rw [hw] at h hy
          rw [if_neg (by simp only [Region.wanted, hg]; rw [hy]; simp)]
          simp only [cond_false] at h
          obtain ⟨t', h2, h3⟩ := putK_ok hT (undef_vr ρ) h
          exact ih t' s ρ w _ h2 hR h3 hX
/-- a loop, round by round. -/
theorem wp_unroll {c : Code} {Q : Exit → Act → World → Prop} {a : Act} {w : World} (h : ∀ (b : Frame) (kk : List Item) (cs : List Frame), ∃ e a' w', Q e a' w' ∧ Arrives P (lone (b.at a (.code c :: .inLoop c :: kk)) cs w) b kk cs e a' w') : (Code.loop c).wp P Q a w := fun b kk cs => by
  obtain ⟨e, a', w', hq, harr⟩ := h b kk cs
  exact ⟨e, a', w', hq, .of_steps (.one step_loop) harr⟩
theorem loop_ok {c : Code} {ke : Nat → KT} {kr : KT} {body : KT → KT} {ρ0 : Rho} {s0 : St} {w0 : World} {k0 : KT}
    (hb : ∀ (k : KT) (t : List Value) (s : St), body k t s = true → ∀ ρ w a, R ρ s w → TR ρ t a → c.wp P (Po ρ s w k ke kr) a w) :
    ∀ (n : Nat) (t : List Value) (s : St) (ρ : Rho) (w : World) (a : Act), loopK body n t s = true → R ρ s w → TR ρ t a → Ext ρ0 s0 w0 ρ s w → ∀ (b : Frame) (kk : List Item) (cs : List Frame), ∃ e a' w', Po ρ0 s0 w0 k0 ke kr e a' w' ∧ Arrives P (lone (b.at a (.code c :: .inLoop c :: kk)) cs w) b kk cs e a' w'
  | 0, t, s, ρ, w, a, h, _, _, _, _, _, _ => by cases h
  | n + 1, t, s, ρ, w, a, h, hR, hT, hX, b, kk, cs => by
    rw [loopK] at h
    obtain ⟨e, a1, w1, hq, harr⟩ := hb _ t s h ρ w a hR hT b (.inLoop c :: kk) cs
    obtain ⟨ρ', s', t', q1, q2, q3, q4⟩ := hq
    cases e with
    | normal =>
      obtain ⟨e2, a2, w2, hq2, harr2⟩ := loop_ok hb n t' s' ρ' w1 a1 q4 q1 q2 (hX.trans q3) b kk cs
      exact ⟨e2, a2, w2, hq2, .of_steps (Steps.trans harr (.one step_inLoop)) harr2⟩
    | exit id => exact ⟨_, a1, w1, ⟨ρ', s', t', q1, q2, hX.trans q3, q4⟩, .pass (x := .inLoop c) rfl (fun _ _ => .inl (by simp)) harr⟩
    | ret => exact ⟨_, a1, w1, ⟨ρ', s', t', q1, q2, hX.trans q3, q4⟩, .pass (x := .inLoop c) rfl (fun _ _ => .inl (by simp)) harr⟩
    | goto l => exact q4.elim
    | panic ch => exact q4.elim
    | outgrown => exact q4.elim
theorem code_ok (g : Good P E) (hC : CallOk P call) (hD : DrawOk P draw) {kr : KT} : ∀ (c : Code) (ke : Nat → KT) (k : KT) (t : List Value) (s : St), evCodeK E call draw kr c ke k t s = true → ∀ ρ w a, R ρ s w → TR ρ t a → c.wp P (Po ρ s w k ke kr) a w := by
  intro c
  induction c with
  | skip => exact fun ke k t s h ρ w a hR hT => wp_skip ⟨ρ, s, t, hR, hT, Ext.refl _ _ _, h⟩
  | label l => exact fun ke k t s h ρ w a hR hT => wp_label ⟨ρ, s, t, hR, hT, Ext.refl _ _ _, h⟩
  | exit id => exact fun ke k t s h ρ w a hR hT => wp_exit ⟨ρ, s, t, hR, hT, Ext.refl _ _ _, h⟩
  | ret => exact fun ke k t s h ρ w a hR hT => wp_ret ⟨ρ, s, t, hR, hT, Ext.refl _ _ _, h⟩
  | region id ops d =>
    intro ke k t s h ρ w a hR hT
    cases d with
    | false =>
      refine wp_region ?_
      have := ops_ok (ke := ke) (kr := kr) (ρ0 := ρ) (s0 := s) (w0 := w) g hC ops.toList 0 (by simp) t s ρ w a h hR hT (Ext.refl _ _ _)
      simpa using this
    | true => exact hD id ops k t s h ρ w a ke kr hR hT
  | seq x y ihx ihy =>
    intro ke k t s h ρ w a hR hT
    refine wp_seq (wp_mono (ihx ke _ t s h ρ w a hR hT) ?_)
    rintro e a1 w1 ⟨ρ', s', t', q1, q2, q3, q4⟩
    cases e with
    | normal => exact wp_mono (ihy ke k t' s' q4 ρ' w1 a1 q1 q2) fun e a w hp => hp.from q3
    | exit id => exact ⟨ρ', s', t', q1, q2, q3, q4⟩
    | ret => exact ⟨ρ', s', t', q1, q2, q3, q4⟩
    | goto l => exact q4.elim
    | panic ch => exact q4.elim
    | outgrown => exact q4.elim
  | cond c x y ihx ihy =>
    intro ke k t s h ρ w a hR hT
    have hc := hT.opv c
    change condK (evCodeK E call draw kr x ke k t s) (evCodeK E call draw kr y ke k t s) (opv t c) = true at h
    unfold condK at h
    split at h
    · rename_i e
      rw [e, VR] at hc
      exact wp_cond_true hc (ihx ke k t s h ρ w a hR hT)
    · rename_i e
      rw [e, VR] at hc
      exact wp_cond_false hc (ihy ke k t s h ρ w a hR hT)
    · cases h
  | block id b ih =>
    intro ke k t s h ρ w a hR hT
    refine wp_block (wp_mono (ih (exitK id k ke) k t s h ρ w a hR hT) ?_)
    rintro e a1 w1 ⟨ρ', s', t', q1, q2, q3, q4⟩
    cases e with
    | normal => exact ⟨ρ', s', t', q1, q2, q3, q4⟩
    | exit i =>
      simp only [Exit.inBlock]
      simp only [exitK] at q4
      by_cases hi : i = id
      · rw [if_pos hi]
        rw [hi, show Nat.beq id id = true from Nat.beq_refl id] at q4
        exact ⟨ρ', s', t', q1, q2, q3, q4⟩
      · rw [if_neg hi]
        have : Nat.beq i id = false := by
          rcases hb : Nat.beq i id with _ | _
          · rfl
          · exact absurd (Nat.eq_of_beq_eq_true hb) hi
        rw [this] at q4
        exact ⟨ρ', s', t', q1, q2, q3, q4⟩
    | ret => exact ⟨ρ', s', t', q1, q2, q3, q4⟩
    | goto l => exact q4.elim
    | panic ch => exact q4.elim
    | outgrown => exact q4.elim
  | loop b ih =>
    intro ke k t s h ρ w a hR hT
    exact wp_unroll (loop_ok (body := evCodeK E call draw kr b ke) (fun k t s h ρ w a hR hT => ih ke k t s h ρ w a hR hT) 100000 t s ρ w a h hR hT (Ext.refl _ _ _))
  | _ => intro ke k t s h; cases h
def resF (tmps : Array Value) : ResultVar → Sem Value
  | .tmp n => pure (tmps.getD n undef)
  | .cell p ty => do loadVar ty (← asAddr (tmps.getD p undef))
theorem results_eq (fn : Func) (tmps : Array Value) : results fn tmps = (do let vs ← fn.results.mapM (resF tmps); pure (if h : vs.size = 1 then vs[0] else .tuple vs)) := by
  unfold results
  congr 2
theorem res_ok (g : Good P E) {ρ : Rho} {s : St} {w : World} (hR : R ρ s w) {t : List Value} {a : Act} (hT : TR ρ t a) : ∀ (rs : List ResultVar) (l : List Value), resL E t s rs = some l →
    ∃ us, (rs.mapM (resF a.tmps)).run P w = .ok us w ∧ L2 ρ l us
  | [], l, h => by
    simp only [resL, Option.some.injEq] at h
    subst h
    exact ⟨[], by simp, L2.nil ρ⟩
  | .tmp n :: r, l, h => by
    rw [resL] at h
    split at h
    · rename_i l' hl'
      obtain ⟨us, h1, h2⟩ := res_ok g hR hT r l' hl'
      rw [← Option.some.inj h]
      refine ⟨a.tmps.getD n undef :: us, ?_, h2.cons (hT.at n)⟩
      rw [List.mapM_cons]
      simp only [resF, Sem.run_bind, Sem.run_pure, Result.andThen_ok, h1]
    · cases h
  | .cell p ty :: r, l, h => by
    rw [resL] at h
    split at h
    · rename_i v hv
      split at h
      · rename_i l' hl'
        obtain ⟨us, h1, h2⟩ := res_ok g hR hT r l' hl'
        obtain ⟨u, hu, hvr⟩ := load_run0 g hR hv (hT.at p)
        rw [← Option.some.inj h]
        refine ⟨u :: us, ?_, h2.cons hvr⟩
        have hu2 : (resF a.tmps (.cell p ty)).run P w = .ok u w := by
          unfold opLoad0 at hv
          split at hv
          · rename_i ad had
            have := hT.at p
            rw [had] at this
            obtain ⟨y, hy, e⟩ := ptr_vr this
            simp only [resF]
            rw [e] at hu ⊢
            simpa [Instr.loadAt, Instr.sureAddr, asAddr] using hu
          · cases hv
        rw [List.mapM_cons]
        simp only [Sem.run_bind, hu2, Result.andThen_ok, h1, Sem.run_pure]
      · cases h
    · cases h
theorem resK_ok (g : Good P E) {ρ : Rho} {s : St} {w : World} (hR : R ρ s w) {t : List Value} {a : Act} (hT : TR ρ t a) {fn : Func} {k : K2} (h : resK k s (resL E t s fn.results.toList) = true) : ∃ v u, (results fn a.tmps).run P w = .ok u w ∧ VR ρ v u ∧ k v s = true := by
  cases hl : resL E t s fn.results.toList with
  | none => rw [hl] at h; cases h
  | some l =>
    rw [hl] at h
    obtain ⟨us, h1, h2⟩ := res_ok g hR hT _ _ hl
    have h3 : (results fn a.tmps).run P w = .ok (if h : us.toArray.size = 1 then us.toArray[0] else .tuple us.toArray) w := by
      rw [results_eq, Array.mapM_eq_mapM_toList, ← bind_pure_comp]
      simp only [Sem.run_bind, h1, Result.andThen_ok, Sem.run_pure]
    match l, us, h2, h, h3 with
    | [v], us, h2, h, h3 =>
      obtain ⟨u, ys, rfl, hv, hr⟩ := h2.inv
      have : ys = [] := List.length_eq_zero_iff.1 hr.1
      subst this
      exact ⟨v, u, by rw [h3]; rfl, hv, h⟩
    | [], us, h2, h, h3 =>
      have : us = [] := List.length_eq_zero_iff.1 h2.1
      subst this
      exact ⟨_, _, by rw [h3]; rfl, vr_tuple.2 ⟨#[], rfl, L2.nil ρ⟩, h⟩
    | v :: v' :: l, us, h2, h, h3 =>
      have hne : ¬ us.toArray.size = 1 := by have := h2.1; simp at this ⊢; omega
      refine ⟨_, .tuple us.toArray, by rw [h3, dif_neg hne], vr_tuple.2 ⟨us.toArray, rfl, by simpa using h2⟩, ?_⟩
      simpa [resK, forceL_eq] using h
theorem body_ok (g : Good P E) (hC : CallOk P call) (hD : DrawOk P draw) {f : FuncId} {fn : Func} (hf : P.funcs[f]? = some fn) {args : List Value} {s : St} {k : K2} (h : bodyK E call draw fn args s k fn.body = true) {ρ : Rho} {w : World} {us : List Value} (hR : R ρ s w) (hl : L2 ρ args us) :
    Calls P f us.toArray w (fun e w' => ∃ v u ρ' s', e = .returned u ∧ VR ρ' v u ∧ R ρ' s' w' ∧ Ext ρ s w ρ' s' w' ∧ k v s' = true) := by
  unfold bodyK at h
  split at h
  · cases h
  · rename_i c hb
    rw [forceL_eq] at h
    refine calls_of_wp hf hb (wp_mono (code_ok g hC hD c _ _ _ s h ρ w _ hR ⟨?_, rfl⟩) ?_)
    · have e : (us.toArray ++ Array.replicate (fn.ntmps - us.toArray.size) undef).toList = us ++ List.replicate (fn.ntmps - args.length) undef := by simp [hl.1]
      rw [e]
      refine hl.append ⟨rfl, fun i v hv => ⟨v, hv, ?_⟩⟩
      have : v = undef := by
        have := List.mem_of_getElem? hv
        exact (List.mem_replicate.1 this).2
      rw [this]; exact undef_vr ρ
    · rintro e a' w' ⟨ρ', s', t', q1, q2, q3, q4⟩
      cases e with
      | normal =>
        obtain ⟨v, u, r1, r2, r3⟩ := resK_ok g q1 q2 q4
        exact ⟨q2.defers, u, r1, v, u, ρ', s', rfl, r2, q1, q3, r3⟩
      | ret =>
        obtain ⟨v, u, r1, r2, r3⟩ := resK_ok g q1 q2 q4
        exact ⟨q2.defers, u, r1, v, u, ρ', s', rfl, r2, q1, q3, r3⟩
      | exit i => cases q4
      | goto l => exact q4.elim
      | panic ch => exact q4.elim
      | outgrown => exact q4.elim
/-- what the program says of functions. -/
structure GoodF (P : Program) (E : Env) : Prop where
  fn : ∀ f fn, E.fn f = some fn → P.funcs[f]? = some fn ∧ ∀ as w, (callFunc f as).run P w = .ok (.enter f as) w
  ext : ∀ f g, E.ext f = some g → CallOk P (fun f' args s k => cond (Nat.beq f' f) (g args s k) false)
theorem call_ok (g : Good P E) (gf : GoodF P E) {draw : CallK → DrawK} (hD : ∀ call, CallOk P call → DrawOk P (draw call)) : ∀ n, CallOk P (evCallK E draw n)
  | 0 => fun f args s k h => by cases h
  | n + 1 => fun f args s k h => by
    rw [evCallK] at h
    split at h
    · rename_i gg hg
      cases hh : E.has f s.c args with
      | true =>
        rw [hh] at h
        exact gf.ext f gg hg f args s k (by show cond (Nat.beq f f) _ _ = true; rw [show Nat.beq f f = true from Nat.beq_refl f]; exact h)
      | false =>
        rw [hh] at h
        simp only [cond_false] at h
        split at h
        · rename_i fn hf
          exact ⟨(gf.fn f fn hf).2, fun ρ w us hR hl => body_ok g (call_ok g gf hD n) (hD _ (call_ok g gf hD n)) (gf.fn f fn hf).1 h hR hl⟩
        · cases h
    · split at h
      · rename_i fn hf
        exact ⟨(gf.fn f fn hf).2, fun ρ w us hR hl => body_ok g (call_ok g gf hD n) (hD _ (call_ok g gf hD n)) (gf.fn f fn hf).1 h hR hl⟩
      · cases h
end
end Go.Proofs.YtcfekhcdadldmaaGreatDoor.Am
