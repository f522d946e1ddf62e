import Derived.Test.YtlphchlinhegkaaGreatDoorAmAs
set_option linter.unusedSimpArgs false
namespace Go.Proofs.YtlphchlinhegkaaGreatDoor.Am
open Go Go.RowKit Go.Shelf Go.Proofs
/- slices.Insert(s, 0, v) where s and v have one element each, of two cells: in place or not, the row is another one behind it. -/
def insK (s : St) (e : TypeId) (ab : Nat) (k : K2) : Option Row → Option Row → Bool
  | some r, some v => match r.cells, v.cells with
    | p :: q :: _, [x, y] => cond (Nat.beq r.elem e && (Nat.beq v.elem e && (Nat.beq r.sz 2 && Nat.beq v.sz 2))) (putRowK s ab none fun s => newK s [x, y, p, q] e 2 fun n s => k (.slice (some ⟨n, 0, none⟩) 2 0) s) false
    | _, _ => false
  | _, _ => false
def xInsert (e : TypeId) : List Value → St → K2 → Bool
  | [.slice (some a) n _, .int .i64 (.ofNat i), .slice (some b) m _], s, k => cond (Nat.beq n 1 && (Nat.beq i 0 && (Nat.beq m 1 && (Nat.beq a.off 0 && (Nat.beq b.off 0 && !Nat.beq a.block b.block))))) (insK s e a.block k (s.get a.block) (s.get b.block)) false
  | _, _, _ => false
/-- what the two ways come to. -/
def InsShift (P : Program) (f : FuncId) (e : TypeId) : Prop := ∀ (b C vb vc : Nat) (cc cv : Array Value) (p q x y : Value) (w : World), 2 ≤ C → vb ≠ b → w.heap[b]? = some (.cells cc e) → 4 ≤ cc.size → cc[0]? = some p → cc[1]? = some q → w.heap[vb]? = some (.cells cv e) → cv[0]? = some x → cv[1]? = some y → p.oneCell' = true → q.oneCell' = true → x.oneCell' = true → y.oneCell' = true →
  Calls P f #[.slice (some ⟨b, 0, none⟩) 1 C, .int .i64 0, .slice (some ⟨vb, 0, none⟩) 1 vc] w fun ev w' => ev = .returned (.slice (some ⟨b, 0, none⟩) 2 C) ∧ w' = (w.drew.setCells b 2 [p, q]).setCells b 0 [x, y]
def InsGrow (P : Program) (f : FuncId) (e : TypeId) : Prop := ∀ (b vb vc : Nat) (cc cv : Array Value) (p q x y : Value) (w : World), w.heap[b]? = some (.cells cc e) → cc[0]? = some p → cc[1]? = some q → w.heap[vb]? = some (.cells cv e) → cv[0]? = some x → cv[1]? = some y → p.oneCell' = true → q.oneCell' = true → x.oneCell' = true → y.oneCell' = true →
  Calls P f #[.slice (some ⟨b, 0, none⟩) 1 1, .int .i64 0, .slice (some ⟨vb, 0, none⟩) 1 vc] w fun ev w' => ∃ (g cap : Nat) (cur : Array Value), ev = .returned (.slice (some ⟨g, 0, none⟩) 2 cap) ∧ w.heap.size ≤ g ∧ 2 ≤ cap ∧ cap * 2 ≤ cur.size ∧ w'.heap[g]? = some (.cells cur e) ∧ cur.toList.take 4 = [x, y, p, q] ∧ Below w.heap.size w w'
theorem two_of {ρ : Rho} {c : Array Value} {l : List Value} {p q : Value} (h : L2 ρ (p :: q :: l) (c.toList.take (p :: q :: l).length)) : ∃ p' q', c[0]? = some p' ∧ c[1]? = some q' ∧ VR ρ p p' ∧ VR ρ q q' := by
  obtain ⟨p', h1, h2⟩ := h.2 0 p rfl
  obtain ⟨q', h3, h4⟩ := h.2 1 q rfl
  rw [List.getElem?_take, if_pos (by simp)] at h1
  rw [List.getElem?_take, if_pos (by simp)] at h3
  exact ⟨p', q', by simpa using h1, by simpa using h3, h2, h4⟩
theorem l2_four {ρ : Rho} {a b c d a' b' c' d' : Value} (h1 : VR ρ a a') (h2 : VR ρ b b') (h3 : VR ρ c c') (h4 : VR ρ d d') : L2 ρ [a, b, c, d] [a', b', c', d'] := ((((L2.nil ρ).cons h4).cons h3).cons h2).cons h1
theorem ins_ok {P : Program} {f : FuncId} {e : TypeId} (hf : (fnOfP P f).isSome = true) (hS : InsShift P f e) (hG : InsGrow P f e) : CallOk P (fun f' args s k => cond (Nat.beq f' f) (xInsert e args s k) false) := by
  refine ext_one hf fun args s k h ρ w us hR hl => ?_
  unfold xInsert at h
  split at h
  case h_2 => cases h
  rename_i a n c i b m c2
  cases hq : (Nat.beq n 1 && (Nat.beq i 0 && (Nat.beq m 1 && (Nat.beq a.off 0 && (Nat.beq b.off 0 && !Nat.beq a.block b.block))))) with
  | false => rw [hq] at h; cases h
  | true =>
    rw [hq] at h
    simp only [cond_true] at h
    simp only [Bool.and_eq_true] at hq
    obtain ⟨q1, q2, q3, q4, q5, q6⟩ := hq
    obtain rfl := Nat.eq_of_beq_eq_true q1
    obtain rfl := Nat.eq_of_beq_eq_true q2
    obtain rfl := Nat.eq_of_beq_eq_true q3
    have ao := Nat.eq_of_beq_eq_true q4
    have bo := Nat.eq_of_beq_eq_true q5
    unfold insK at h
    split at h
    case h_2 => cases h
    rename_i r v hr hv
    split at h
    case h_2 => cases h
    rename_i p q l x y hrc hvc
    cases hq2 : (Nat.beq r.elem e && (Nat.beq v.elem e && (Nat.beq r.sz 2 && Nat.beq v.sz 2))) with
    | false => rw [hq2] at h; cases h
    | true =>
      rw [hq2] at h
      simp only [cond_true] at h
      simp only [Bool.and_eq_true] at hq2
      obtain rfl := Nat.eq_of_beq_eq_true hq2.1
      have ve := Nat.eq_of_beq_eq_true hq2.2.1
      have rz := Nat.eq_of_beq_eq_true hq2.2.2.1
      have vz := Nat.eq_of_beq_eq_true hq2.2.2.2
      obtain ⟨u, l1, rfl, hv1, hl⟩ := hl.inv
      obtain ⟨u2, l2, rfl, hv2, hl⟩ := hl.inv
      obtain ⟨u3, l3, rfl, hv3, hl⟩ := hl.inv
      obtain rfl : l3 = [] := List.length_eq_zero_iff.1 hl.1
      obtain ⟨a', cap, X, rfl, g1, g2, g3, g4, g5⟩ := slice_vr hv1
      obtain ⟨b', cap2, Y, rfl, e1, e2, e3, e4, e5⟩ := slice_vr hv3
      obtain rfl := g5 (.inl ao)
      obtain rfl := e5 (.inl bo)
      obtain rfl : u2 = .int .i64 0 := by rw [VR] at hv2; exact hv2
      rw [ao, bo]
      obtain ⟨cc, c1, c2', c3, c4, c5, c6, c7⟩ := hR.row hr g3
      obtain ⟨cv, d1, d2, d3, d4, d5, d6, d7⟩ := hR.row hv e3
      rw [hrc] at c4 c5 c3
      rw [hvc] at d4 d5 d3
      obtain ⟨p', q', x1, x2, x3, x4⟩ := two_of c4
      obtain ⟨x', y', y1, y2, y3, y4⟩ := two_of d4
      have o1 := c5 p (by simp)
      have o2 := c5 q (by simp)
      have o3 := d5 x (by simp)
      have o4 := d5 y (by simp)
      have one' : ∀ {v u : Value}, VR ρ v u → one v = true → u.oneCell' = true := fun {v u} h1 h2 => l2_one ((L2.nil ρ).cons h1) (fun z hz => by rw [List.mem_singleton.1 hz]; exact h2) u (by simp)
      rw [ve] at d1
      obtain ⟨s0, k1, k2, k3, k4⟩ := putRowK_ok h
      have hne : Y.1 ≠ X.1 := fun e => by
        have := hR.inj b.block a.block v r Y X hv hr e3 g3 e
        rw [this] at q6
        simp at q6
      have hca : cap * 2 ≤ cc.size := by
        have := g4 ao
        rw [c6, rz] at this
        rw [c2']; exact this
      have ho : ∀ z ∈ [x, y, p, q], one z = true := fun z hz => by
        simp only [List.mem_cons, List.not_mem_nil, or_false] at hz
        rcases hz with rfl | rfl | rfl | rfl <;> assumption
      by_cases hcap : cap = 1
      · subst hcap
        refine (hG X.1 Y.1 cap2 cc cv p' q' x' y' w c1 x1 x2 d1 y1 y2 (one' x3 o1) (one' x4 o2) (one' y3 o3) (one' y4 o4)).mono ?_
        rintro ev w' ⟨g, cp, cur, rfl, z1, z2, z3, z4, z5, hb⟩
        obtain ⟨s', n1, n2, n3, n4⟩ := newK_ok k1
        rw [k2] at n1 n2 n3
        obtain ⟨r1, r2⟩ := hR.new (w' := w') (b := g) (c := cur) (sz := 2) n2 (fun m q hm => (n3 m q hm).imp id fun hh => ⟨hh.1, by
            rcases k3 m q hh.2 with ⟨_, e⟩ | ⟨_, e⟩
            · cases e
            · exact e⟩) (fun m => (n4 m).trans (k4 m)) z1 z4 hb.size (fun j hj => hb.block j hj) (by rw [show [x, y, p, q].length = 4 from rfl, z5]; exact l2_four y3 y4 x3 x4) (by simp; omega) ho (fun e => by cases e) hb.os hb.tape hb.output
        exact ⟨_, _, _, s', rfl, by
          rw [VR]
          exact ⟨_, cp, _, rfl, z2, .inl rfl, upd_same _ _ _, fun _ => z3, fun _ => rfl⟩, r1, r2, n1⟩
      · have hC : 2 ≤ cap := by omega
        refine (hS X.1 cap Y.1 cap2 cc cv p' q' x' y' w hC hne c1 (by omega) x1 x2 d1 y1 y2 (one' x3 o1) (one' x4 o2) (one' y3 o3) (one' y4 o4)).mono ?_
        rintro ev w' ⟨rfl, rfl⟩
        obtain ⟨s', n1, n2, n3, n4⟩ := newK_ok k1
        rw [k2] at n1 n2 n3
        obtain ⟨f1, m1, m2, m3, m4, m5, m6, m7⟩ := setCells_heap [p', q'] 2 w.drew cc c1 (by simp; omega)
        have fs1 : f1.size = cc.size := by have := congrArg List.length m2; rw [putN_len] at this; simpa using this
        obtain ⟨f2, w1, w2, w3, w4, w5, w6, w7⟩ := setCells_heap [x', y'] 0 (w.drew.setCells X.1 2 [p', q']) f1 m1 (by simp; omega)
        have fs2 : f2.size = f1.size := by have := congrArg List.length w2; rw [putN_len] at this; simpa using this
        have hfour : f2.toList.take 4 = [x', y', p', q'] := by
          rw [w2, m2]
          match hcl : cc.toList, (show 4 ≤ cc.toList.length by simp; omega) with
          | z0 :: z1 :: z2 :: z3 :: zs, _ => simp [putN]
          | [], h => simp at h
          | [_], h => simp at h
          | [_, _], h => simp at h
          | [_, _, _], h => simp at h
        obtain ⟨r1, r2⟩ := hR.grown (s' := s') (w' := (w.drew.setCells X.1 2 [p', q']).setCells X.1 0 [x', y']) (c := f2) (cs := [x, y, p, q]) hr g3 c6 n2 (fun m q hm => by
            rcases n3 m q hm with ⟨e1, e2⟩ | ⟨e1, e2⟩
            · exact .inl ⟨e1, by rw [e2, rz]⟩
            · rcases k3 m q e2 with ⟨_, e⟩ | ⟨e3, e⟩
              · cases e
              · exact .inr ⟨e1, e3, e⟩) (fun m => (n4 m).trans (k4 m)) w1 (by rw [w4, m4]; exact Nat.le_refl _) (fun j _ hj => (w3 j hj).trans (m3 j hj)) (by rw [show [x, y, p, q].length = 4 from rfl, hfour]; exact l2_four y3 y4 x3 x4) (by simp; omega) (by rw [fs2, fs1, c2']) ho (fun e => by rw [rz] at e; cases e) (w5.trans m5) (w6.trans m6) (w7.trans m7) c1
        exact ⟨_, _, _, s', rfl, by
          rw [VR]
          exact ⟨_, cap, _, rfl, hC, .inl rfl, upd_same _ _ _, fun _ => by rw [c6, rz, ← c2']; exact hca, fun _ => rfl⟩, r1, r2, n1⟩
/-- copy, whatever an element's size. -/
theorem copy_at {P : Program} {w : World} {t ty e : TypeId} {i : TypeInfo} (hund : P.underlying t = some (.slice e)) (hi : P.info? e = some i) (b o n dc m sc cnt : Nat) (q : Addr) (ys : List Value) (hmin : min m n = cnt) (hyl : ys.length = cnt * i.size) (hsrc : ∀ (j : Nat) (v : Value), ys[j]? = some v → w.cell? (q.add j) = some v) (hdst : ∀ j, j < ys.length → (w.cell? ⟨b, o + j, none⟩).isSome = true) (hfz : ∀ j, j < ys.length → w.frozen? ⟨b, o + j, none⟩ = false) (h1 : ∀ v ∈ ys, v.oneCell' = true) :
    (Builtin.copy_ #[t, t] ty #[.slice (some ⟨b, o, none⟩) n dc, .slice (some q) m sc]).run P w = .ok (.int .i64 (.ofNat cnt)) (w.setCells b o ys) := by
  have hst := run_storeCells_cells (P := P) b o ys 0 w (fun j hj => by simpa using hdst j hj) (fun j hj => by simpa using hfz j hj) h1
  rw [Nat.add_zero] at hst
  have hf := run_firstCells_some (P := P) w i.size cnt q m sc ys hyl hsrc
  simp [Builtin.copy_, run_underlying hund, run_sizeOf hi, Builtin.lenOf, hmin, hf, hst, goInt]
theorem wpList_copy_eq {P : Program} {ops : Array Oper} {rest : List Oper} {o : Oper} {a : Act} {w : World} {Q : Exit → Act → World → Prop} (hg : o.guard = none) (d x : Operand) (t : TypeId) (ho : o.op = .call { callee := .builtin .copy, args := #[d, x], argTypes := #[t, t] })
    {v u v' : Value} {w' : World} (hs : a.eval d = v) (hx : a.eval x = u) (hr : (Builtin.copy_ #[t, t] o.type #[v, u]).run P w = .ok v' w') (h : wpList P ops Q rest (a.put o.dst v') w') : wpList P ops Q (o :: rest) a w := by
  refine wpList_plain hg fun K hK => ?_
  unfold Oper.wp
  simp [execOp, ho, resolve, invoke, builtin, hs, hx, hr, Result.andThen]
  exact hK _ _ h
theorem step_copy_eq {P : Program} {ops : Array Oper} {o : Oper} {a : Act} {w : World} {K : Act → World → Prop} {Q : Exit → Act → World → Prop} {E : Prop} (hg : o.guard = none) (d x : Operand) (t : TypeId) (ho : o.op = .call { callee := .builtin .copy, args := #[d, x], argTypes := #[t, t] })
    {v u v' : Value} {w' : World} (hs : a.eval d = v) (hx : a.eval x = u) (hr : (Builtin.copy_ #[t, t] o.type #[v, u]).run P w = .ok v' w') (h : K (a.put o.dst v') w') : if Region.wanted o (yielded ops a.tmps) = true then Oper.wp P o a w K Q else E := by
  rw [if_pos (by simp [Region.wanted, hg])]
  unfold Oper.wp
  simp [execOp, ho, resolve, invoke, builtin, hs, hx, hr, Result.andThen]
  exact h
theorem wpList_app_eq {P : Program} {ops : Array Oper} {rest : List Oper} {o : Oper} {a : Act} {w : World} {Q : Exit → Act → World → Prop} (hg : o.guard = none) (d x : Operand) (t t' : TypeId) (ho : o.op = .call { callee := .builtin .append, args := #[d, x], argTypes := #[t, t'] })
    {v u v' : Value} {w' : World} (hs : a.eval d = v) (hx : a.eval x = u) (hr : (Builtin.append_ #[t, t'] o.type #[v, u]).run P w = .ok v' w') (h : wpList P ops Q rest (a.put o.dst v') w') : wpList P ops Q (o :: rest) a w := by
  refine wpList_plain hg fun K hK => ?_
  unfold Oper.wp
  simp [execOp, ho, resolve, invoke, builtin, hs, hx, hr, Result.andThen]
  exact hK _ _ h
end Go.Proofs.YtlphchlinhegkaaGreatDoor.Am
