import Derived.Test.YtllahinoomahnaaGreatDoorAmM
set_option linter.unusedSimpArgs false
namespace Go.Proofs.YtllahinoomahnaaGreatDoor.Am
open Go

section
variable {P : Program} {E : Env} {ρ : Rho} {s : St} {w : World} {t t' : List Value} {a : Act} {o : Oper}
theorem light_ok (g : Good P E) (hR : R ρ s w) (hT : TR ρ t a) {v : Value} (e : lightV E t s o.op = some v) : ∃ u, (execOp a.eval o).run P w = .ok (.value u) w ∧ VR ρ v u := by
  have hv : ∀ {S : Sem Value} {u : Value}, S.run P w = .ok u w → (do pure (.value (← S)) : Sem Next).run P w = .ok (.value u) w := fun e => by simp [e]
  unfold lightV at e
  split at e
  case h_1 x ho => exact ⟨a.eval x, by simp [execOp, ho], (Option.some.inj e) ▸ hT.opv x⟩
  case h_2 x ho => exact ⟨a.eval x, by simp [execOp, ho], (Option.some.inj e) ▸ hT.opv x⟩
  case h_3 c x y ho =>
    unfold opPick at e
    have hc := hT.opv c
    split at e
    · rename_i hcv
      rw [hcv, VR] at hc
      exact ⟨a.eval x, by simp [execOp, ho, hc, asBool], (Option.some.inj e) ▸ hT.opv x⟩
    · rename_i hcv
      rw [hcv, VR] at hc
      exact ⟨a.eval y, by simp [execOp, ho, hc, asBool], (Option.some.inj e) ▸ hT.opv y⟩
    · cases e
  case h_4 op ty x y ty2 ho =>
    obtain ⟨u, hu, hvr⟩ := bin_run (w := w) g e (hT.opv x) (hT.opv y)
    exact ⟨u, by simp only [execOp, ho]; exact hv hu, hvr⟩
  case h_5 op ty x ho =>
    obtain ⟨u, hu, hvr⟩ := un_run (P := P) (w := w) e (hT.opv x)
    exact ⟨u, by simp only [execOp, ho]; exact hv hu, hvr⟩
  case h_6 ty x ho =>
    obtain ⟨u, hu, hvr⟩ := load_run g hR e (hT.opv x)
    exact ⟨u, by simp only [execOp, ho]; exact hv hu, hvr⟩
  case h_7 ty x f ho =>
    obtain ⟨u, hu, hvr⟩ := fa_run (w := w) g e (hT.opv x)
    exact ⟨u, by simp only [execOp, ho]; exact hv hu, hvr⟩
  case h_8 x ho => exact nc_run e (hT.opv x) rfl ho
  case h_9 ty x i ho =>
    obtain ⟨u, hu, hvr⟩ := ia_run (w := w) g e (hT.opv x) (hT.opv i)
    exact ⟨u, by simp only [execOp, ho]; exact hv hu, hvr⟩
  case h_10 ty x i ho =>
    obtain ⟨u, hu, hvr⟩ := ix_run (w := w) g e (hT.opv x) (hT.opv i)
    exact ⟨u, by simp only [execOp, ho]; exact hv hu, hvr⟩
  case h_11 ty ps ho =>
    obtain ⟨u, hu, hvr⟩ := build_run (w := w) g hT e
    exact ⟨u, by simp only [execOp, ho]; exact hv hu, hvr⟩
  case h_12 ty x f ho =>
    obtain ⟨u, hu, hvr⟩ := field_run (w := w) g e (hT.opv x)
    exact ⟨u, by simp only [execOp, ho]; exact hv hu, hvr⟩
  case h_13 x i ho =>
    obtain ⟨u, hu, hvr⟩ := ex_run (P := P) (w := w) e (hT.opv x)
    exact ⟨u, by simp only [execOp, ho]; exact hv hu, hvr⟩
  case h_14 ty x lo hi mx ho =>
    cases mx with
    | some m =>
      cases hi with
      | none => cases e
      | some y =>
        obtain ⟨u, hu, hvr⟩ := slm_run (w := w) g hT e (hT.opv x) (hT.opv y) (hT.opv m)
        exact ⟨u, by simp only [execOp, ho]; exact hv hu, hvr⟩
    | none =>
      obtain ⟨u, hu, hvr⟩ := sl_run (w := w) g hT e (hT.opv x)
      exact ⟨u, by simp only [execOp, ho]; exact hv hu, hvr⟩
  case h_15 ty x ho =>
    obtain ⟨u, hu, hvr⟩ := mi_run (w := w) g e (hT.opv x)
    exact ⟨u, by simp only [execOp, ho]; exact hv hu, hvr⟩
  case h_16 fn first captured ho =>
    unfold opMF at e
    refine ⟨.func fn (first.map a.eval) (captured.map a.eval), by simp [execOp, ho, Instr.makeFunc], ?_⟩
    rw [← Option.some.inj e]
    exact vr_func.2 ⟨_, _, rfl, by simpa using L2.evals hT first.toList, by simpa using L2.evals hT captured.toList⟩
  case h_17 src dst x ho =>
    obtain ⟨u, hu, hvr⟩ := cv1_run g hR e (hT.opv x)
    exact ⟨u, by simp only [execOp, ho]; exact hv hu, hvr⟩
  case h_18 c ho =>
    unfold lenV at e
    split at e
    · rename_i x ty hc h1 h2
      have e1 : c.args = #[x] := by apply Array.ext'; simpa using h1
      have e2 : c.argTypes = #[ty] := by apply Array.ext'; simpa using h2
      obtain ⟨u, hu, hvr⟩ := len_run (t2 := o.type) g hR e (hT.opv x)
      exact ⟨u, by simp [execOp, ho, resolve, hc, e1, e2, invoke, builtin, hu], hvr⟩
    · rename_i x ty hc h1 h2
      have e1 : c.args = #[x] := by apply Array.ext'; simpa using h1
      have e2 : c.argTypes = #[ty] := by apply Array.ext'; simpa using h2
      obtain ⟨u, hu, hvr⟩ := cap_run (P := P) (w := w) (ty := o.type) g e (hT.opv x)
      exact ⟨u, by simp [execOp, ho, resolve, hc, e1, e2, invoke, builtin, hu], hvr⟩
    · rename_i x y hc h1
      have e1 : c.args = #[x, y] := by apply Array.ext'; simpa using h1
      obtain ⟨u, hu, hvr⟩ := min_run (P := P) (w := w) (t1 := c.argTypes) (t2 := o.type) e (hT.opv x) (hT.opv y)
      exact ⟨u, by simp [execOp, ho, resolve, hc, e1, invoke, builtin, hu], hvr⟩
    · rename_i x y hc h1
      have e1 : c.args = #[x, y] := by apply Array.ext'; simpa using h1
      obtain ⟨u, hu, hvr⟩ := max_run (P := P) (w := w) (t1 := c.argTypes) (t2 := o.type) e (hT.opv x) (hT.opv y)
      exact ⟨u, by simp [execOp, ho, resolve, hc, e1, invoke, builtin, hu], hvr⟩
    · cases e
  case h_19 ty x i ok ho =>
    obtain ⟨u, hu, hvr⟩ := lk_run g hR e (hT.opv x) (hT.opv i)
    exact ⟨u, by simp only [execOp, ho]; exact hv hu, hvr⟩
  case h_20 => cases e
theorem fill_congr {place : Nat → Option (Nat × Nat)} : ∀ (ps : List (Nat × Operand)) (cs : List Value), (∀ p ∈ ps, opv t p.2 = opv t' p.2) → fillL E place t ps cs = fillL E place t' ps cs
  | [], _, _ => rfl
  | (i, x) :: r, cs, h => by
    rw [fillL, fillL]
    have h1 : opv t x = opv t' x := h (i, x) (by simp)
    rw [h1]
    cases place i with
    | none => rfl
    | some p =>
      simp only
      cases cellsO (opv t' x) with
      | none => rfl
      | some vs =>
        simp only
        rw [fill_congr r _ (fun p hp => h p (by simp [hp]))]
theorem natOr_congr {d : Nat} {x : Option Operand} (h : ∀ y ∈ x, opv t y = opv t' y) : natOr t d x = natOr t' d x := by
  cases x with
  | none => rfl
  | some y => simp only [natOr]; rw [h y rfl]
theorem slice_congr {ty : TypeId} {x : Operand} {lo hi mx : Option Operand} (h : opv t x = opv t' x) (h1 : ∀ y ∈ lo, opv t y = opv t' y) (h2 : ∀ y ∈ hi, opv t y = opv t' y) (h3 : ∀ y ∈ mx, opv t y = opv t' y) : opSlice E t ty x lo hi mx = opSlice E t' ty x lo hi mx := by
  cases mx with
  | some m =>
    cases hi with
    | none => rfl
    | some y =>
      simp only [opSlice]
      rw [h, natOr_congr h1, h2 y rfl, h3 m rfl]
  | none =>
    simp only [opSlice]
    rw [h]
    unfold opSl2
    split
    · split
      · rw [natOr_congr h1]
        split
        · rw [natOr_congr h2]
        · rfl
      · rfl
    · split
      · rw [natOr_congr h1]
        split
        · rw [natOr_congr h2]
        · rfl
      · rfl
    · rfl
theorem light_congr {op : Op} (h : ∀ x ∈ op.operands.toList, opv t x = opv t' x) : lightV E t s op = lightV E t' s op := by
  cases op with
  | move x => simp [Op.operands] at h; simp [lightV, h]
  | assign x => simp [Op.operands] at h; simp [lightV, h]
  | pick c a b => simp [Op.operands] at h; simp [lightV, opPick, h]
  | binOp op ty x y ty2 => simp [Op.operands] at h; simp [lightV, h]
  | unOp op ty x => simp [Op.operands] at h; simp [lightV, h]
  | load ty x => simp [Op.operands] at h; simp [lightV, h]
  | fieldAddr ty x f => simp [Op.operands] at h; simp [lightV, h]
  | nilCheck x => simp [Op.operands] at h; simp [lightV, h]
  | indexAddr ty x i => simp [Op.operands] at h; simp [lightV, h]
  | index ty x i => simp [Op.operands] at h; simp [lightV, h]
  | build ty ps =>
    have h' : ∀ p ∈ ps.toList, opv t p.2 = opv t' p.2 := fun p hp => h p.2 (by simp only [Op.operands]; exact List.mem_map.2 ⟨p, hp, rfl⟩)
    simp only [lightV, Env.build]
    split
    · rfl
    · split
      · rw [fill_congr _ _ h']
      · split
        · rw [fill_congr _ _ h']
        · rfl
      · rfl
  | field ty x f => simp [Op.operands] at h; simp [lightV, h]
  | extract x i => simp [Op.operands] at h; simp [lightV, h]
  | slice ty x lo hi mx =>
    simp only [lightV]
    exact slice_congr (h x (by simp [Op.operands])) (fun y hy => h y (by simp [Op.operands, Option.mem_def.1 hy])) (fun y hy => h y (by simp [Op.operands, Option.mem_def.1 hy])) (fun y hy => h y (by simp [Op.operands, Option.mem_def.1 hy]))
  | makeInterface ty x => simp [Op.operands] at h; simp [lightV, h]
  | makeFunc fn first captured =>
    have h1 : first.toList.map (opv t) = first.toList.map (opv t') := List.map_congr_left fun x hx => h x (by simp [Op.operands]; exact .inl (by simpa using hx))
    have h2 : captured.toList.map (opv t) = captured.toList.map (opv t') := List.map_congr_left fun x hx => h x (by simp [Op.operands]; exact .inr (by simpa using hx))
    simp only [lightV, opMF, h1, h2]
  | convert src dst x => simp [Op.operands] at h; simp [lightV, h]
  | lookup ty x i ok => simp [Op.operands] at h; simp [lightV, h]
  | call c =>
    simp only [lightV, lenV]
    split
    · rename_i x ty hc h1 h2
      rw [h x (by simp only [Op.operands, Call.operands, hc]; simp [h1])]
    · rename_i x ty hc h1 h2
      rw [h x (by simp only [Op.operands, Call.operands, hc]; simp [h1])]
    · rename_i x y hc h1
      rw [h x (by simp only [Op.operands, Call.operands, hc]; simp [h1]), h y (by simp only [Op.operands, Call.operands, hc]; simp [h1])]
    · rename_i x y hc h1
      rw [h x (by simp only [Op.operands, Call.operands, hc]; simp [h1]), h y (by simp only [Op.operands, Call.operands, hc]; simp [h1])]
    · rfl
  | _ => rfl
theorem heavy_congr {call : CallK} {k : K2} {op : Op} (hh : (isHeavy op || isMv op) = true) (h : ∀ x ∈ op.operands.toList, opv t x = opv t' x) : oneOpK E call t s k op = oneOpK E call t' s k op := by
  cases op with
  | move x => simp [Op.operands] at h; simp [oneOpK, h]
  | assign x => simp [Op.operands] at h; simp [oneOpK, h]
  | store ty x y => simp [Op.operands] at h; simp [oneOpK, h]
  | alloc ty => rfl
  | mapUpdate ty m x y => simp [Op.operands] at h; simp [oneOpK, h]
  | makeMap ty r => rfl
  | makeSlice ty x y => simp [Op.operands] at h; simp [oneOpK, h]
  | range ty x => simp [Op.operands] at h; simp [oneOpK, h]
  | next x isS => simp [Op.operands] at h; simp [oneOpK, h]
  | entry x => simp [Op.operands] at h; simp [oneOpK, h]
  | box ty x => simp [Op.operands] at h; simp [oneOpK, h]
  | buildSlice ty len ps =>
    have h' : ∀ p ∈ ps.toList, opv t p.2 = opv t' p.2 := fun p hp => h p.2 (by simp only [Op.operands]; exact List.mem_map.2 ⟨p, hp, rfl⟩)
    simp only [oneOpK, opBSK]
    split
    · unfold opBSK2
      split
      · unfold opBS2; rw [fill_congr _ _ h']
      · rfl
    · rfl
  | call c =>
    have h' : ∀ x ∈ c.args.toList, opv t x = opv t' x := fun x hx => h x (by simp only [Op.operands, Call.operands]; simp [hx])
    simp only [oneOpK, opCallK]
    split
    · rename_i f hc
      have hf : opv t f = opv t' f := h f (by simp only [Op.operands, Call.operands, hc]; simp)
      rw [hf, List.map_congr_left h']
    · rename_i b hc
      unfold opBIK
      split
      · split
        · rename_i x ty h1 h2
          rw [h' x (by rw [h1]; simp)]
        · rfl
      · split
        · rename_i x y t1 t2 h1 h2
          rw [h' x (by rw [h1]; simp), h' y (by rw [h1]; simp)]
        · rfl
      · split
        · rename_i x y h1
          rw [h' x (by rw [h1]; simp), h' y (by rw [h1]; simp)]
        · rfl
      · split
        · rename_i x y h1
          rw [h' x (by rw [h1]; simp), h' y (by rw [h1]; simp)]
        · rfl
      · split
        · rename_i x y t1 t2 h1 h2
          rw [h' x (by rw [h1]; simp), h' y (by rw [h1]; simp)]
        · rfl
      · split
        · rename_i x h1
          rw [h' x (by rw [h1]; simp)]
        · rfl
      · split
        · rename_i x ty h1 h2
          rw [h' x (by rw [h1]; simp)]
        · rfl
      · split
        · rename_i x y pt it h1 h2
          rw [h' x (by rw [h1]; simp), h' y (by rw [h1]; simp)]
        · rfl
      · rfl
    · rfl
  | _ => simp [isHeavy, isMv] at hh
theorem fl_congr {op : Op} (h : ∀ x ∈ op.operands.toList, opv t x = opv t' x) : flInfo E t op = flInfo E t' op := by
  cases op with
  | alloc ty => rfl
  | box ty x => simp [Op.operands] at h; simp [flInfo, h]
  | makeSlice ty x y => simp [Op.operands] at h; simp [flInfo, h]
  | buildSlice ty len ps =>
    have h' : ∀ p ∈ ps.toList, opv t p.2 = opv t' p.2 := fun p hp => h p.2 (by simp only [Op.operands]; exact List.mem_map.2 ⟨p, hp, rfl⟩)
    simp only [flInfo]
    split
    · unfold flBS
      split
      · unfold opBS2; rw [fill_congr _ _ h']
      · rfl
    · rfl
  | _ => rfl
end
end Go.Proofs.YtllahinoomahnaaGreatDoor.Am
