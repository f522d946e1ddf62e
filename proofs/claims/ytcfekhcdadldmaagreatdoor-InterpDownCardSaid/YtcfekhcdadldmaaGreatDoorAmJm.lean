import Derived.Test.YtcfekhcdadldmaaGreatDoorAmJ
set_option linter.unusedSimpArgs false
namespace Go.Proofs.YtcfekhcdadldmaaGreatDoor.Am
open Go
section
variable {P : Program} {E : Env} {ρ : Rho} {s s' : St} {w w' : World} {t : List Value} {a : Act} {o : Oper} {k : K2} {Q : Exit → Act → World → Prop}
theorem sameNow_in {d : TypeDesc} {kt : TypeId} {v u : Value} {b : Bool} (hd : P.underlying kt = some d) (h : Instr.sameNow d v u = some b) (n : Nat) : (Op.equalIn (n + 1) kt v u).run P w = .ok b w := by
  unfold Instr.sameNow at h
  split at h
  · split at h
    · rename_i hk
      subst hk
      simp only [Option.some.injEq] at h
      simp [Op.equalIn, run_underlying hd, h]
    · cases h
  · simp only [Option.some.injEq] at h
    simp [Op.equalIn, run_underlying hd, h]
  · simp only [Option.some.injEq] at h
    simp [Op.equalIn, run_underlying hd, h]
  · cases h
theorem sameNow_equal {d : TypeDesc} {kt : TypeId} {v u : Value} {b : Bool} (hd : P.underlying kt = some d) (h : Instr.sameNow d v u = some b) : (Op.equal kt v u).run P w = .ok b w := sameNow_in hd h 9999
theorem now_ask {d : TypeDesc} {kt : TypeId} {v : Value} (hd : P.underlying kt = some d) : ∀ (cs : List MapEntry) (i : Nat) (r : Option (Nat × Value)), Instr.findNow d v cs i = some r → (Instr.findAsking kt v cs i).run P w = .ok r w
  | [], i, r, h => by
    simp only [Instr.findNow, Option.some.injEq] at h
    simp [Instr.findAsking, h]
  | e :: cs, i, r, h => by
    rw [Instr.findNow] at h
    rw [Instr.findAsking, Sem.run_bind]
    split at h
    · rename_i hq
      rw [sameNow_equal hd hq]
      simp only [Option.some.injEq] at h
      simp [h]
    · rename_i hq
      rw [sameNow_equal hd hq]
      simpa using now_ask hd cs (i + 1) r h
    · cases h
theorem mfind_ask (g : Good P E) {al : Nat → Bool} (hA : AlOk ρ w al) {kt : TypeId} {v z : Value} (hf : keyFit E kt v = true) (hz : VR ρ v z) : ∀ (es : List (Value × Value)) (cs : List MapEntry) (i : Nat) (r : Option (Nat × Value)), mfind al v es i = some r → cs.length = es.length → (∀ (j : Nat) (kv : Value × Value), es[j]? = some kv → ∃ e, cs[j]? = some e ∧ VR ρ kv.1 e.key ∧ VR ρ kv.2 e.val) →
    ∃ r', (Instr.findAsking kt z cs i).run P w = .ok r' w ∧ (r = none → r' = none) ∧ ∀ p, r = some p → ∃ u, r' = some (p.1, u) ∧ VR ρ p.2 u ∧ i ≤ p.1 ∧ ∃ kv e, es[p.1 - i]? = some kv ∧ cs[p.1 - i]? = some e ∧ keyEq al v kv.1 = some true ∧ VR ρ kv.1 e.key
  | [], cs, i, r, h, hl, _ => by
    have : cs = [] := List.length_eq_zero_iff.1 (by simpa using hl)
    subst this
    simp only [mfind, Option.some.injEq] at h
    subst h
    exact ⟨none, by simp [Instr.findAsking], fun _ => rfl, fun p hp => by cases hp⟩
  | kv :: es, [], i, r, h, hl, _ => by simp at hl
  | kv :: es, e :: cs, i, r, h, hl, hc => by
    obtain ⟨e0, he0, hk, hv⟩ := hc 0 kv rfl
    obtain rfl : e = e0 := by simpa using he0
    rw [mfind] at h
    split at h
    · rename_i hq
      simp only [Option.some.injEq] at h
      refine ⟨some (i, e.val), by simp [Instr.findAsking, equal_key g hA hf hq hz hk], (fun hr => (by rw [hr] at h; cases h)), fun p hp => ?_⟩
      rw [hp] at h
      obtain rfl := Option.some.inj h
      exact ⟨e.val, rfl, hv, Nat.le_refl _, kv, e, by simp, by simp, hq, hk⟩
    · rename_i hq
      obtain ⟨r', h1, h2, h3⟩ := mfind_ask g hA hf hz es cs (i + 1) r h (by simpa using hl) (fun j kv hj => by simpa using hc (j + 1) kv (by simpa using hj))
      refine ⟨r', by simp [Instr.findAsking, equal_key g hA hf hq hz hk, h1], h2, fun p hp => ?_⟩
      obtain ⟨u, q1, q2, q3, kv', e', q4, q5, q6, q7⟩ := h3 p hp
      refine ⟨u, q1, q2, by omega, kv', e', ?_, ?_, q6, q7⟩
      · rw [show p.1 - i = (p.1 - (i + 1)) + 1 by omega]; simpa using q4
      · rw [show p.1 - i = (p.1 - (i + 1)) + 1 by omega]; simpa using q5
    · cases h
theorem keyFit_und (g : Good P E) {kt : TypeId} {v : Value} (hf : keyFit E kt v = true) : ∃ d, P.underlying kt = some d := by
  unfold keyFit at hf
  split at hf
  · cases hs : E.sk kt with
    | none => rw [hs] at hf; cases hf
    | some ds =>
      rcases (g.sk _ _ hs).2 with ⟨fs, _, g1, _⟩ | ⟨len, e, d, i, g1, _⟩ | ⟨len, e, fs, ds0, i, g1, _⟩
      · exact ⟨_, g1⟩
      · exact ⟨_, g1⟩
      · exact ⟨_, g1⟩
  · obtain ⟨d, hd, _⟩ := fit1_und hf
    exact ⟨d, g.und _ _ hd⟩
theorem mfind_run (g : Good P E) {al : Nat → Bool} (hA : AlOk ρ w al) {kt : TypeId} {v z : Value} (hf : keyFit E kt v = true) (hz : VR ρ v z) (es : List (Value × Value)) (cs : List MapEntry) (r : Option (Nat × Value)) (h : mfind al v es 0 = some r) (hl : cs.length = es.length) (hc : ∀ (j : Nat) (kv : Value × Value), es[j]? = some kv → ∃ e, cs[j]? = some e ∧ VR ρ kv.1 e.key ∧ VR ρ kv.2 e.val) :
    ∃ r', (Instr.findKey kt z cs).run P w = .ok r' w ∧ (r = none → r' = none) ∧ ∀ p, r = some p → ∃ u, r' = some (p.1, u) ∧ VR ρ p.2 u ∧ 0 ≤ p.1 ∧ ∃ kv e, es[p.1 - 0]? = some kv ∧ cs[p.1 - 0]? = some e ∧ keyEq al v kv.1 = some true ∧ VR ρ kv.1 e.key := by
  obtain ⟨r', h1, h2⟩ := mfind_ask (w := w) g hA hf hz es cs 0 r h hl hc
  refine ⟨r', ?_, h2⟩
  obtain ⟨d, hd⟩ := keyFit_und g hf
  rw [Instr.findKey, Sem.run_bind, run_underlying hd, Result.andThen_ok]
  cases hn : Instr.findNow d z cs 0 with
  | none => exact h1
  | some r2 =>
    have := now_ask (w := w) hd cs 0 r2 hn
    rw [h1] at this
    injection this with e1 _
    simp [e1]
theorem checkKey_ok {d : TypeDesc} {key : TypeId} {v : Value} (hd : P.underlying key = some d) (hf : keyFits d v = true) (b : Bool) (n : Nat) : (Instr.checkKey b (n + 1) key v).run P w = .ok () w := by
  unfold keyFits at hf
  split at hf <;> first | (cases hf; done) | simp [Instr.checkKey, run_underlying hd]
theorem checkFields (b : Bool) (n : Nat) (X : Array Value) : ∀ (fs : List Field) (ds : List TypeDesc) (xs : List Value) (off : Nat), fs.length = ds.length → (∀ (i : Nat) (f : Field), fs[i]? = some f → f.name ≠ "_" ∧ f.offset = off + i ∧ ∃ d, ds[i]? = some d ∧ P.underlying f.type = some d) → (∀ (i : Nat) v, xs[i]? = some v → X[off + i]? = some v) → fitL ds xs = true → (forIn fs PUnit.unit fun f _ => if f.name ≠ "_" then (do
        let a ← part f.type X f.offset
        Instr.checkKey b (n + 1) f.type a
        pure (ForInStep.yield PUnit.unit)) else pure (ForInStep.yield PUnit.unit) : Sem PUnit).run P w = .ok PUnit.unit w
  | [], _, _, _, _, _, _, _ => by simp
  | f :: fs, [], _, _, hl, _, _, _ => by simp at hl
  | f :: fs, d :: ds, [], _, _, _, _, hf => by cases hf
  | f :: fs, d :: ds, x :: xs, off, hl, hfs, hX, hf => by
    obtain ⟨f1, f2, d', f3, f4⟩ := hfs 0 f rfl
    simp only [List.getElem?_cons_zero, Option.some.injEq] at f3
    subst f3
    rw [fitL] at hf
    cases hk : keyFits d x with
    | false => rw [hk] at hf; cases hf
    | true =>
      rw [hk] at hf
      have p1 := part_key (w := w) f4 hk (hX 0 x rfl)
      have p2 := checkKey_ok (w := w) f4 hk b n
      have ih := checkFields b n X fs ds xs (off + 1) (by simpa using hl) (fun i f hi => by
          have := hfs (i + 1) f (by simpa using hi)
          rw [show off + 1 + i = off + (i + 1) by omega]
          simpa using this) (fun i v hi => by rw [show off + 1 + i = off + (i + 1) by omega]; exact hX (i + 1) v (by simpa using hi)) hf
      rw [List.forIn_cons]
      simp only [f1, ne_eq, not_false_eq_true, if_true, f2, Sem.run_bind, p1, p2, Result.andThen_ok, Sem.run_pure]
      exact ih
theorem checkItems {kt e : TypeId} {len : Nat} {d : TypeDesc} {i : TypeInfo} (g1 : P.underlying kt = some (.array len e)) (g2 : P.underlying e = some d) (g3 : P.info? e = some i) (g4 : i.size = 1) (X : Array Value) (xs : List Value) (hX : ∀ (i : Nat) v, xs[i]? = some v → X[i]? = some v) (hf : fitL (List.replicate len d) xs = true) (b : Bool) (n : Nat) : (Instr.checkKey b (n + 2) kt (.agg X)).run P w = .ok () w := by
  rw [Instr.checkKey]
  simp only [Sem.run_bind, run_underlying g1, Result.andThen_ok]
  simp only [Std.Legacy.Range.forIn_eq_forIn_range', Std.Legacy.Range.size, Nat.sub_zero, Nat.add_one_sub_one, Nat.div_one]
  have each : ∀ j ∈ List.range' 0 len, ∃ v, X[j]? = some v ∧ keyFits d v = true := by
    intro j hj
    have hj' : j < len := by simpa using hj
    have go : ∀ (len : Nat) (xs : List Value) (j : Nat), fitL (List.replicate len d) xs = true → j < len → ∃ v, xs[j]? = some v ∧ keyFits d v = true := by
      intro len
      induction len with
      | zero => intro xs j _ h; omega
      | succ len ih =>
        intro xs j hf hj
        cases xs with
        | nil => cases hf
        | cons x xs =>
          rw [List.replicate_succ, fitL] at hf
          cases hk : keyFits d x with
          | false => rw [hk] at hf; cases hf
          | true =>
            rw [hk] at hf
            cases j with
            | zero => exact ⟨x, rfl, hk⟩
            | succ j =>
              obtain ⟨v, h1, h2⟩ := ih xs j hf (by omega)
              exact ⟨v, by simpa using h1, h2⟩
    obtain ⟨v, h1, h2⟩ := go len xs j hf hj'
    exact ⟨v, hX j v h1, h2⟩
  generalize List.range' 0 len = is at each
  induction is with
  | nil => simp
  | cons j is ih =>
    obtain ⟨v, h1, h2⟩ := each j (by simp)
    have p1 := part_key (w := w) (i := j * i.size) g2 h2 (by rw [g4, Nat.mul_one]; exact h1)
    have p2 := checkKey_ok (w := w) g2 h2 b n
    simp only [List.forIn_cons, Sem.run_bind, run_sizeOf g3, Result.andThen_ok, p1, p2, Sem.run_pure]
    exact ih (fun y hy => each y (by simp [hy]))
theorem checkStructs {kt e : TypeId} {len : Nat} {fs : Array Field} {ds : List TypeDesc} {i : TypeInfo} (g1 : P.underlying kt = some (.array len e)) (g2 : P.underlying e = some (.struct fs)) (g3 : fs.toList.length = ds.length) (g4 : ∀ (i : Nat) (f : Field), fs.toList[i]? = some f → f.name ≠ "_" ∧ f.offset = i ∧ ∃ d, ds[i]? = some d ∧ P.underlying f.type = some d) (g5 : P.info? e = some i) (g6 : i.size = ds.length) (X : Array Value) (hf : fitL (List.replicate len ds).flatten X.toList = true) (b : Bool) (n : Nat) : (Instr.checkKey b (n + 3) kt (.agg X)).run P w = .ok () w := by
  rw [Instr.checkKey]
  simp only [Sem.run_bind, run_underlying g1, Result.andThen_ok]
  simp only [Std.Legacy.Range.forIn_eq_forIn_range', Std.Legacy.Range.size, Nat.sub_zero, Nat.add_one_sub_one, Nat.div_one]
  have each : ∀ j ∈ List.range' 0 len, ∃ us : List Value, fitL ds us = true ∧ us.length = ds.length ∧ ∀ (i : Nat) v, us[i]? = some v → X[j * ds.length + i]? = some v := by
    intro j hj
    have hj' : j < len := by simpa using hj
    have go : ∀ (len : Nat) (xs : List Value) (j : Nat), fitL (List.replicate len ds).flatten xs = true → j < len → ∃ us : List Value, fitL ds us = true ∧ us.length = ds.length ∧ ∀ (i : Nat) v, us[i]? = some v → xs[j * ds.length + i]? = some v := by
      intro len
      induction len with
      | zero => intro xs j _ h; omega
      | succ len ih =>
        intro xs j hf hj
        rw [List.replicate_succ, List.flatten_cons] at hf
        obtain ⟨x1, x2, rfl, f1, f2⟩ := fitL_app hf
        have hl1 := fitL_len f1
        cases j with
        | zero => exact ⟨x1, f1, hl1, fun i v hi => by rw [Nat.zero_mul, Nat.zero_add, List.getElem?_append_left (List.getElem?_eq_some_iff.1 hi).1]; exact hi⟩
        | succ j =>
          obtain ⟨us, h1, h2, h3⟩ := ih x2 j f2 (by omega)
          refine ⟨us, h1, h2, fun i v hi => ?_⟩
          have e : (j + 1) * ds.length + i = x1.length + (j * ds.length + i) := by rw [Nat.add_mul, Nat.one_mul, hl1]; omega
          rw [e, List.getElem?_append_right (by omega), show x1.length + (j * ds.length + i) - x1.length = j * ds.length + i by omega]
          exact h3 i v hi
    obtain ⟨us, h1, h2, h3⟩ := go len X.toList j hf hj'
    exact ⟨us, h1, h2, fun i v hi => by simpa using h3 i v hi⟩
  generalize List.range' 0 len = is at each
  induction is with
  | nil => simp
  | cons j is ih =>
    obtain ⟨us, h1, h2, h3⟩ := each j (by simp)
    have p1 := part_struct (w := w) (off := j * i.size) g2 g5 (by rw [g6, h2]) (by rw [g6]; exact h3)
    have p2 : (Instr.checkKey b (n + 2) e (.agg us.toArray)).run P w = .ok () w := by
      have := checkFields (P := P) (w := w) b n us.toArray fs.toList ds us 0 g3 (fun i f hi => by simpa using g4 i f hi) (fun i v hi => by simpa using hi) h1
      rw [Instr.checkKey, Sem.run_bind, run_underlying g2, Result.andThen_ok]
      simp only [← Array.forIn_toList]
      rw [Sem.run_bind, this]
      simp
    simp only [List.forIn_cons, Sem.run_bind, run_sizeOf g5, Result.andThen_ok, p1, p2, Sem.run_pure]
    exact ih (fun y hy => each y (by simp [hy]))
theorem checkKey_fit (g : Good P E) {kt : TypeId} {v : Value} (hf : keyFit E kt v = true) (b : Bool) (n : Nat) : (Instr.checkKey b (n + 3) kt v).run P w = .ok () w := by
  unfold keyFit at hf
  split at hf
  · rename_i xs
    cases hs : E.sk kt with
    | none => rw [hs] at hf; cases hf
    | some ds =>
      rw [hs] at hf
      rcases (g.sk _ _ hs).2 with ⟨fs, _, g1, g2, g3, g4⟩ | ⟨len, e, d, i, g1, g2, g3, g4, rfl, _⟩ | ⟨len, e, fs, ds0, i, g1, g2, g3, g4, g5, g6, g7, rfl, _⟩
      · have := checkFields (P := P) (w := w) b (n + 1) xs fs.toList ds xs.toList 0 g3 (fun i f hi => by simpa using g4 i f hi) (fun i v hi => by simpa using hi) hf
        rw [Instr.checkKey, Sem.run_bind, run_underlying g1, Result.andThen_ok]
        simp only [← Array.forIn_toList]
        rw [Sem.run_bind, this]
        simp
      · exact checkItems g1 g2 g3 g4 xs xs.toList (fun i v hi => by simpa using hi) hf b (n + 1)
      · exact checkStructs g1 g2 g4 g5 g6 g7 xs hf b n
  · obtain ⟨d, hd, hk, _⟩ := fit1_und hf
    exact checkKey_ok (g.und _ _ hd) hk b (n + 2)
theorem setObj_map {b clock : Nat} {cs : Array MapEntry} (h : w.heap[b]? = some (.map cs clock)) (o : Obj) : (setObj b o).run P w = .ok () { w with heap := w.heap.setIfInBounds b o } := by
  simp [setObj, Sem.run, h]
theorem mfind_it (al : Nat → Bool) (v m : Value) (n : Nat) (cur : Value) (left : List Nat) (i : Nat) : mfind al v (itList m n cur left) i = none := by
  unfold itList mfind
  cases v <;> rfl
theorem lk_run (g : Good P E) (hR : R ρ s w) {ty : TypeId} {x i v x' i' : Value} {ok : Bool} (h : opLk E s x i ok (E.und ty) = some v) (hx : VR ρ x x') (hi : VR ρ i i') : ∃ u, (Instr.lookup ty x' i' ok).run P w = .ok u w ∧ VR ρ v u := by
  unfold opLk at h
  split at h
  · rename_i key elem hd
    unfold opLk2 at h
    split at h
    · rename_i es hes
      · skip
        cases hf : keyFit E key i with
        | false => rw [hf] at h; cases h
        | true =>
          rw [hf] at h
          simp only [cond_true] at h
          have hent : ∃ cs : Array MapEntry, ((x' = .map none ∧ cs = #[]) ∨ ∃ b cl, x' = .map (some b) ∧ w.heap[b]? = some (.map cs cl)) ∧ cs.toList.length = es.length ∧ ∀ (j : Nat) (kv : Value × Value), es[j]? = some kv → ∃ e, cs.toList[j]? = some e ∧ VR ρ kv.1 e.key ∧ VR ρ kv.2 e.val := by
            unfold entries at hes
            split at hes
            · obtain rfl : x' = .map none := by rw [VR] at hx; exact hx
              simp only [Option.some.injEq] at hes
              subst hes
              exact ⟨#[], .inl ⟨rfl, rfl⟩, rfl, fun j kv hj => by simp at hj⟩
            · rename_i n
              obtain ⟨y, h1, hM⟩ := hR.maps n es hes
              rcases hM with ⟨cs, cl, h2, h3, h4⟩ | ⟨t0, n0, cur0, left0, e0, _⟩
              rotate_left
              · rw [e0, mfind_it] at h; cases h
              obtain ⟨y', hy', rfl⟩ : ∃ y', ρ n = some y' ∧ x' = .map (some y'.1) := by rw [VR] at hx; exact hx
              rw [h1] at hy'
              obtain rfl := Option.some.inj hy'
              exact ⟨cs, .inr ⟨_, cl, rfl, h2⟩, by simpa using h3.1, fun j kv hj => by simpa using h4 j kv hj⟩
            · cases hes
          obtain ⟨cs, e1, e2, e3⟩ := hent
          have hck := checkKey_fit (w := w) g (keyFit_u hf hi) cs.isEmpty 9997
          cases hm : mfind s.al i es 0 with
          | none => rw [hm] at h; cases h
          | some r =>
            rw [hm] at h
            obtain ⟨r', hfk, q2, q3⟩ := mfind_run (w := w) g (AlOk.of hR) hf hi es cs.toList r hm e2 e3
            cases r with
            | none =>
              obtain rfl := q2 rfl
              simp only [opLk3] at h
              split at h
              · rename_i z hz
                obtain ⟨⟨j, hj1, hj2⟩, hj3⟩ := g.zv _ _ hz
                simp only [Option.some.injEq] at h
                refine ⟨if ok then .tuple #[z, .bool false] else z, ?_, ?_⟩
                · rcases e1 with ⟨rfl, rfl⟩ | ⟨b, cl, rfl, hb⟩
                  · simp only [Instr.lookup, Sem.run_bind, run_underlying (g.und _ _ hd), Result.andThen_ok, Sem.run_pure, hck, hfk, zeroValue, typeInfo, run_program, hj1, hj2]
                  · simp only [Instr.lookup, Sem.run_bind, run_underlying (g.und _ _ hd), Result.andThen_ok, getObj_map hb, Sem.run_pure, hck, hfk, zeroValue, typeInfo, run_program, hj1, hj2]
                · rw [← h]
                  cases ok with
                  | false => exact hj3 ρ
                  | true => exact vr_tuple.2 ⟨#[z, .bool false], rfl, ((L2.nil ρ).cons (by rw [VR])).cons (hj3 ρ)⟩
              · cases h
            | some p =>
              obtain ⟨u, rfl, hu, _⟩ := q3 p rfl
              simp only [opLk3, Option.some.injEq] at h
              refine ⟨if ok then .tuple #[u, .bool true] else u, ?_, ?_⟩
              · rcases e1 with ⟨rfl, rfl⟩ | ⟨b, cl, rfl, hb⟩
                · simp only [Instr.lookup, Sem.run_bind, run_underlying (g.und _ _ hd), Result.andThen_ok, Sem.run_pure, hck, hfk]
                · simp only [Instr.lookup, Sem.run_bind, run_underlying (g.und _ _ hd), Result.andThen_ok, getObj_map hb, Sem.run_pure, hck, hfk]
              · rw [← h]
                cases ok with
                | false => exact hu
                | true => exact vr_tuple.2 ⟨#[u, .bool true], rfl, ((L2.nil ρ).cons (by rw [VR])).cons hu⟩
    · cases h
  · cases h
theorem Born.push {cs : Array MapEntry} {cl : Nat} (h : Born cs cl) (k v : Value) : Born (cs.push { key := k, val := v, born := cl }) (cl + 1) := by
  refine ⟨fun x hx => ?_, ?_⟩
  · simp only [Array.toList_push, List.mem_append, List.mem_singleton] at hx
    rcases hx with hx | rfl
    · exact Nat.lt_succ_of_lt (h.1 x hx)
    · exact Nat.lt_succ_self _
  · simp only [Array.toList_push, List.map_append, List.map_cons, List.map_nil]
    refine List.nodup_append.2 ⟨h.2, by simp, fun a ha b hb => ?_⟩
    obtain ⟨x, hx, rfl⟩ := List.mem_map.1 ha
    have := h.1 x hx
    simp only [List.mem_singleton] at hb
    omega
theorem Born.modify {cs : Array MapEntry} {cl : Nat} (h : Born cs cl) (i : Nat) (k v : Value) : Born (cs.modify i fun e => { e with key := k, val := v }) cl := by
  have hm : (cs.modify i fun e => { e with key := k, val := v }).toList.map (·.born) = cs.toList.map (·.born) := by
    apply List.ext_getElem?
    intro j
    simp only [List.getElem?_map, Array.getElem?_toList, Array.getElem?_modify]
    by_cases e : i = j
    · rw [if_pos e]; cases cs[j]? <;> rfl
    · rw [if_neg e]
  refine ⟨fun x hx => ?_, by rw [hm]; exact h.2⟩
  have : x.born ∈ cs.toList.map (·.born) := by rw [← hm]; exact List.mem_map.2 ⟨x, hx, rfl⟩
  obtain ⟨y, hy, e⟩ := List.mem_map.1 this
  rw [← e]; exact h.1 y hy
theorem fit_chan {kt : TypeId} {v : Value} (hf : keyFit E kt v = true) : ∀ c, v ≠ .chan c := fun c e => by
  subst e
  obtain ⟨d, _, hk, _⟩ := fit1_und (hf : fit1 (.chan c) (E.und kt) = true)
  unfold keyFits at hk
  split at hk <;> first | contradiction | (cases hk; done)
theorem isIt_cons {x v : Value} {l : List (Value × Value)} (h : ∀ c, x ≠ .chan c) : isIt ((x, v) :: l) = false := by
  unfold isIt
  split
  · rename_i h1
    simp only [List.cons.injEq, Prod.mk.injEq] at h1
    exact absurd h1.1.1 (h _)
  · rfl
theorem isIt_app {es : List (Value × Value)} (h : isIt es = false) {x v : Value} (hx : ∀ c, x ≠ .chan c) : isIt (es ++ [(x, v)]) = false := by
  cases es with
  | nil => exact isIt_cons hx
  | cons p l =>
    obtain ⟨p1, p2⟩ := p
    cases p1 with
    | chan c => cases c with
      | none => cases h
      | some c => rfl
    | _ => rfl
theorem isIt_set {es : List (Value × Value)} (h : isIt es = false) {p : Nat} {x v : Value} (hx : ∀ c, x ≠ .chan c) : isIt (es.set p (x, v)) = false := by
  cases es with
  | nil => rfl
  | cons q l =>
    cases p with
    | zero => exact isIt_cons hx
    | succ p =>
      obtain ⟨q1, q2⟩ := q
      cases q1 with
      | chan c => cases c with
        | none => cases h
        | some c => rfl
      | _ => rfl
theorem MStep.push (cs : Array MapEntry) (cl : Nat) (k v : Value) : MStep cs cl (cs.push { key := k, val := v, born := cl }) (cl + 1) :=
  ⟨by simp, by simp; omega, fun i e he => ⟨e, by
    have := (Array.getElem?_eq_some_iff.1 he).1
    rw [Array.getElem?_push, if_neg (by omega)]; exact he, rfl⟩, fun h => h.push _ _⟩
theorem MStep.modify (cs : Array MapEntry) (cl p : Nat) (k v : Value) : MStep cs cl (cs.modify p fun e => { e with key := k, val := v }) cl :=
  ⟨by simp, by simp, fun i e he => by
    by_cases ei : p = i
    · exact ⟨{ e with key := k, val := v }, by rw [Array.getElem?_modify, if_pos ei, he]; rfl, rfl⟩
    · exact ⟨e, by rw [Array.getElem?_modify, if_neg ei]; exact he, rfl⟩, fun h => h.modify _ _ _⟩
/-- a map that is written. -/
theorem R.writeMap (hR : R ρ s w) {n : Nat} {es es' : List (Value × Value)} {x : Nat × Nat × Nat} {cs cs' : Array MapEntry} {cl cl' : Nat} (hr : s.gm n = some es) (hx : ρ n = some x) (hb : w.heap[x.1]? = some (.map cs cl)) (hc : s'.c = s.c) (hg : ∀ m, s'.get m = s.get m) (hit : s'.m.it = s.m.it) (hgm : ∀ m q, s'.gm m = some q → (m = n ∧ q = es') ∨ (m ≠ n ∧ s.gm m = some q)) (hw : w' = { w with heap := w.heap.setIfInBounds x.1 (.map cs' cl') }) (hl : cs'.size = es'.length ∧ Born cs' cl' ∧ isIt es' = false) (hst : s.m.it = false ∨ MStep cs cl cs' cl') (hv : ∀ (i : Nat) (kv : Value × Value), es'[i]? = some kv → ∃ e, cs'[i]? = some e ∧ VR ρ kv.1 e.key ∧ VR ρ kv.2 e.val) : R ρ s' w' ∧ Ext ρ s w ρ s' w' := by
  subst hw
  have hlt : x.1 < w.heap.size := (Array.getElem?_eq_some_iff.1 hb).1
  have hk : ∀ k, k ≠ x.1 → (w.heap.setIfInBounds x.1 (.map cs' cl'))[k]? = w.heap[k]? := fun k hk => Array.getElem?_setIfInBounds_ne (Ne.symm hk)
  have hold : ∀ m q, s'.gm m = some q → ∃ p, s.gm m = some p := fun m q h => by
    rcases hgm m q h with ⟨rfl, _⟩ | ⟨_, h⟩
    · exact ⟨es, hr⟩
    · exact ⟨q, h⟩
  refine ⟨⟨fun m h => hR.dom m (by omega), fun m y h => by simpa using hR.lt m y h, fun m r h => ?_, fun m q h => ?_, fun m k q p y z h1 h2 h3 h4 h5 => ?_, fun m k q p y z h1 h2 h3 h4 h5 => ?_, hR.gl.keep fun k _ hg => hk k (fun e => by rw [e, hR.lo n x hx] at hg; cases hg), hR.lo, fun e m q h => by
      rcases hgm m q h with ⟨_, rfl⟩ | ⟨_, h⟩
      · exact hl.2.2
      · exact hR.it (hit ▸ e) m q h⟩, ⟨by omega, fun _ _ h => h, by simp, rfl, rfl, rfl, fun k h1 h2 => hk k (fun e => h2 ⟨n, x, .inr ⟨es, hr⟩, hx, e.symm⟩), ?_, fun _ _ => rfl⟩⟩
  · rw [hg] at h
    obtain ⟨y, c', h1, h2, h3⟩ := hR.rows m r h
    refine ⟨y, c', h1, (hk _ (fun e => ?_)).trans h2, h3⟩
    rw [e, hb] at h2; cases h2
  · rcases hgm m q h with ⟨rfl, rfl⟩ | ⟨en, h⟩
    · exact ⟨x, hx, .inl ⟨cs', cl', by simp [hlt], hl, hv⟩⟩
    · obtain ⟨y, h1, hM⟩ := hR.maps m q h
      have hne : y.1 ≠ x.1 := fun e => en (hR.injm m n q es y x h hr h1 hx e)
      refine ⟨y, h1, ?_⟩
      rcases hM with ⟨c0, cl0, h2, h3, h4⟩ | ⟨t0, n0, cur0, left0, e0, hI⟩
      · exact .inl ⟨c0, cl0, (hk _ hne).trans h2, h3, h4⟩
      · replace hst : MStep cs cl cs' cl' := hst.resolve_left fun e => by
          have := hR.it e m q h
          rw [e0] at this
          cases this
        refine .inr ⟨t0, n0, cur0, left0, e0, ?_⟩
        cases t0 with
        | none =>
          obtain ⟨p, q, r, hI⟩ := hI
          exact ⟨p, q, r, (hk _ hne).trans hI⟩
        | some m0 =>
          obtain ⟨z, c0, cl0, si, se, la, i1, i2, i3, i4, i5⟩ := hI
          by_cases ez : z.1 = x.1
          · rw [ez, hb] at i2
            injection i2 with i2
            injection i2 with i2a i2b
            subst i2a i2b
            exact ⟨z, cs', cl', si, se, la, i1, by rw [ez]; simp [hlt], hl.2.1, (hk _ hne).trans i4, i5.step hst⟩
          · exact ⟨z, c0, cl0, si, se, la, i1, (hk _ ez).trans i2, i3, (hk _ hne).trans i4, i5⟩
  · obtain ⟨p1, h1⟩ := hold m q h1
    obtain ⟨p2, h2⟩ := hold k p h2
    exact hR.injm m k p1 p2 y z h1 h2 h3 h4 h5
  · rw [hg] at h1 h2
    exact hR.inj m k q p y z h1 h2 h3 h4 h5
  · rintro k ⟨m, y, ⟨q, h1⟩ | ⟨q, h1⟩, h2, rfl⟩
    · rw [hg] at h1
      exact .inl ⟨m, y, .inl ⟨q, h1⟩, h2, rfl⟩
    · obtain ⟨p1, h1⟩ := hold m q h1
      exact .inl ⟨m, y, .inr ⟨p1, h1⟩, h2, rfl⟩
theorem putMapK_ok {n : Nat} {es : List (Value × Value)} (h : putMapK s n k es = true) : ∃ s', k undef s' = true ∧ s'.c = s.c ∧ (∀ m, s'.get m = s.get m) ∧ s'.m.it = s.m.it ∧ ∀ m q, s'.gm m = some q → (m = n ∧ q = es) ∨ (m ≠ n ∧ s.gm m = some q) := by
  rw [putMapK, forceL_eq] at h
  obtain ⟨t', h1, h2⟩ := Tr.setK_get _ _ _ _ _ h
  exact ⟨_, h1, rfl, fun _ => rfl, rfl, fun m q hq => (h2 m q hq).imp (fun hh => ⟨hh.1, (Option.some.inj hh.2).symm⟩) id⟩
theorem op_mu (g : Good P E) (hR : R ρ s w) (hT : TR ρ t a) {ty : TypeId} {m x y : Operand} (ho : o.op = .mapUpdate ty m x y ∨ o.op = .insert ty m x y) (h : opMU1 E s (opv t x) (opv t y) k (opv t m) (E.und ty) = true) : o.wp P a w (Nx ρ s w k o a) Q := by
  have hm := hT.opv m
  have hx := hT.opv x
  have hy := hT.opv y
  generalize opv t m = M at h hm
  generalize opv t x = X at h hx
  generalize opv t y = Y at h hy
  unfold opMU1 at h
  split at h
  · rename_i kt et hd
    split at h
    · rename_i n
      unfold opMU2 at h
      split at h
      · rename_i es hes
        · skip
          cases hf : keyFit E kt X with
          | false => rw [hf] at h; cases h
          | true =>
            rw [hf] at h
            simp only [cond_true] at h
            obtain ⟨z, hz, em⟩ : ∃ z, ρ n = some z ∧ a.eval m = .map (some z.1) := by rw [VR] at hm; exact hm
            obtain ⟨z', h1, hM⟩ := hR.maps n es hes
            rcases hM with ⟨cs, cl, h2, h3, h4⟩ | ⟨t0, n0, cur0, left0, e0, _⟩
            rotate_left
            · rw [e0, mfind_it] at h; cases h
            rw [hz] at h1
            obtain rfl := Option.some.inj h1
            have hck := checkKey_fit (w := w) g (keyFit_u hf hx) false 9997
            cases hmf : mfind s.al X es 0 with
            | none => rw [hmf] at h; cases h
            | some r =>
              rw [hmf] at h
              obtain ⟨r', hfk, q2, q3⟩ := mfind_run (w := w) g (AlOk.of hR) hf hx es cs.toList r hmf (by simpa using h3.1) (fun j kv hj => by simpa using h4 j kv hj)
              have hsz : cs.size = es.length := h3.1
              have hbn : Born cs cl := h3.2.1
              have hni : isIt es = false := h3.2.2
              have hX0 := fit_chan hf
              cases r with
              | none =>
                obtain rfl := q2 rfl
                simp only [opMU3] at h
                obtain ⟨s', p1, p2, p3, p5, p4⟩ := putMapK_ok h
                obtain ⟨r1, r2⟩ := hR.writeMap (s' := s') (cs' := cs.push { key := a.eval x, val := a.eval y, born := cl }) (cl' := cl + 1) hes hz h2 p2 p3 p5 p4 rfl ⟨by simp [hsz], hbn.push _ _, isIt_app hni hX0⟩ (.inr (MStep.push _ _ _ _)) (fun i kv hi => by
                  rcases Nat.lt_or_ge i es.length with hlt | hge
                  · rw [List.getElem?_append_left hlt] at hi
                    obtain ⟨e, e1, e2⟩ := h4 i kv hi
                    refine ⟨e, ?_, e2⟩
                    rw [Array.getElem?_push, if_neg (by omega)]; exact e1
                  · rw [List.getElem?_append_right hge] at hi
                    have : i - es.length = 0 := by
                      rcases Nat.eq_zero_or_pos (i - es.length) with e | e
                      · exact e
                      · rw [List.getElem?_eq_none (by simp; omega)] at hi; cases hi
                    rw [this] at hi
                    simp at hi
                    subst hi
                    refine ⟨{ key := a.eval x, val := a.eval y, born := cl }, ?_, hx, hy⟩
                    rw [Array.getElem?_push, if_pos (by omega)])
                have hrun : (execOp a.eval o).run P w = .ok .skip { w with heap := w.heap.setIfInBounds z.1 (.map (cs.push { key := a.eval x, val := a.eval y, born := cl }) (cl + 1)) } := by
                  rcases ho with ho | ho <;> simp only [execOp, ho, Instr.mapUpdate, em, Sem.run_bind, run_underlying (g.und _ _ hd), Result.andThen_ok, getObj_map h2, hck, hfk, setObj_map h2, Sem.run_pure]
                unfold Oper.wp
                rw [hrun]
                exact ⟨undef, undef, ρ, s', rfl, undef_vr ρ, r1, r2, p1⟩
              | some p =>
                obtain ⟨u, rfl, hu, hi0, kv, e, g1, g2, g3, g4⟩ := q3 p rfl
                simp only [Nat.sub_zero] at g1 g2
                simp only [opMU3] at h
                obtain ⟨s', p1, p2, p3, p5, p4⟩ := putMapK_ok h
                have hpl : p.1 < es.length := (List.getElem?_eq_some_iff.1 g1).1
                have ecs : cs[p.1]? = some e := by simpa using g2
                have hke : e.key = a.eval x := (keyEq_vr g3 hx g4).symm
                obtain ⟨r1, r2⟩ := hR.writeMap (s' := s') (cs' := cs.modify p.1 fun e => { e with key := a.eval x, val := a.eval y }) (cl' := cl) hes hz h2 p2 p3 p5 p4 rfl ⟨by simp [hsz], hbn.modify _ _ _, isIt_set hni hX0⟩ (.inr (MStep.modify _ _ _ _ _)) (fun i kv hi => by
                  rw [List.getElem?_set] at hi
                  by_cases hip : p.1 = i
                  · subst hip
                    rw [if_pos rfl, if_pos hpl] at hi
                    simp at hi
                    subst hi
                    refine ⟨{ e with key := a.eval x, val := a.eval y }, ?_, hx, hy⟩
                    rw [Array.getElem?_modify, if_pos rfl, ecs]; rfl
                  · rw [if_neg hip] at hi
                    obtain ⟨e', e1, e2⟩ := h4 i kv hi
                    exact ⟨e', by rw [Array.getElem?_modify, if_neg hip]; exact e1, e2⟩)
                have hrun : (execOp a.eval o).run P w = .ok .skip { w with heap := w.heap.setIfInBounds z.1 (.map (cs.modify p.1 fun e => { e with key := a.eval x, val := a.eval y }) cl) } := by
                  rcases ho with ho | ho <;> simp only [execOp, ho, Instr.mapUpdate, em, Sem.run_bind, run_underlying (g.und _ _ hd), Result.andThen_ok, getObj_map h2, hck, hfk, setObj_map h2, Sem.run_pure, Instr.keyThatStays, ecs, Option.map_some, Option.getD_some, hke, sameBits_self (keyFit_u hf hx), if_true]
                unfold Oper.wp
                rw [hrun]
                exact ⟨undef, undef, ρ, s', rfl, undef_vr ρ, r1, r2, p1⟩
      · cases h
    · cases h
  · cases h
theorem op_mk (hR : R ρ s w) {ty : TypeId} {r : Option Operand} (ho : o.op = .makeMap ty r) (h : opMK s k r = true) : o.wp P a w (Nx ρ s w k o a) Q := by
  cases r with
  | some r => cases h
  | none =>
    have h' : newMapK s k = true := h
    unfold newMapK at h'
    obtain ⟨t', h1, h2⟩ := Tr.setK_get _ _ _ _ _ h'
    rw [forceN_eq] at h1
    have hn := hR.dom s.c (Nat.le_refl _)
    have hsub := sub_upd hn (w.heap.size, 0, 0)
    have hlt : ∀ n x, ρ n = some x → x.1 < w.heap.size := hR.lt
    have hrn : ∀ n r, s.get n = some r → n ≠ s.c := fun n r h e => by
      obtain ⟨x, _, hx, _⟩ := hR.rows n r h
      rw [e, hn] at hx; cases hx
    have hrun : (execOp a.eval o).run P w = .ok (.value (.map (some w.heap.size))) (w.alloc (.map #[] 0)) := by
      simp [execOp, ho, Instr.makeMap]
    have hk : ∀ j, j < w.heap.size → (w.alloc (.map #[] 0)).heap[j]? = w.heap[j]? := fun j hj => heap_alloc_old w _ j hj
    unfold Oper.wp
    rw [hrun]
    refine ⟨.map (some s.c), .map (some w.heap.size), upd ρ s.c (w.heap.size, 0, 0), ⟨s.h, ⟨t', s.m.it⟩, s.c + 1⟩, rfl, by rw [VR]; exact ⟨_, upd_same _ _ _, rfl⟩, ⟨fun n h => ?_, fun n x h => ?_, fun n r h => ?_, fun n es h => ?_, fun n m es fs x y q1 q2 q3 q4 q5 => ?_, fun n m r q x y q1 q2 q3 q4 q5 => ?_, hR.gl.keep fun k h _ => hk k h, lo_upd hR.lo (hR.gl.new (Nat.le_refl _)), fun e n es h => by
        rcases h2 n es h with ⟨_, e1⟩ | ⟨_, h0⟩
        · obtain rfl := Option.some.inj e1
          rfl
        · exact hR.it e n es h0⟩, ⟨Nat.le_succ _, hsub, by simp, rfl, rfl, rfl, fun j hj _ => hk j hj, ?_, fun j hj => upd_other (by omega)⟩, h1⟩
    · have h' : s.c + 1 ≤ n := h
      rw [upd_other (by omega)]; exact hR.dom n (by omega)
    · by_cases e : n = s.c
      · subst e
        rw [upd_same] at h
        obtain rfl := Option.some.inj h
        simp
      · rw [upd_other e] at h
        have := hlt n x h
        simp; omega
    · have h0 : s.get n = some r := h
      obtain ⟨x, c', q1, q2, q3, q4, q5, q6⟩ := hR.rows n r h0
      exact ⟨x, c', by rw [upd_other (hrn n r h0)]; exact q1, (hk _ (hlt n x q1)).trans q2, q3, q4, q5.mono hsub, q6⟩
    · rcases h2 n es h with ⟨rfl, e⟩ | ⟨e, h0⟩
      · obtain rfl := Option.some.inj e
        exact ⟨_, upd_same _ _ _, .inl ⟨#[], 0, heap_alloc_new w _, ⟨rfl, ⟨fun x hx => by simp at hx, by simp⟩, rfl⟩, fun i kv hi => by simp at hi⟩⟩
      · have h0' : s.gm n = some es := h0
        obtain ⟨x, q1, q2⟩ := hR.maps n es h0'
        exact ⟨x, by rw [upd_other e]; exact q1, q2.keep hsub fun k o hk' _ => (hk k (Array.getElem?_eq_some_iff.1 hk').1).trans hk'⟩
    · rcases h2 n es q1 with ⟨rfl, e⟩ | ⟨e, h0⟩ <;> rcases h2 m fs q2 with ⟨rfl, e'⟩ | ⟨e', h0'⟩
      · rfl
      · rw [upd_same] at q3
        rw [upd_other e'] at q4
        obtain rfl := Option.some.inj q3
        have := hlt m y q4
        simp only at q5; omega
      · rw [upd_same] at q4
        rw [upd_other e] at q3
        obtain rfl := Option.some.inj q4
        have := hlt n x q3
        simp only at q5; omega
      · rw [upd_other e] at q3
        rw [upd_other e'] at q4
        exact hR.injm n m es fs x y h0 h0' q3 q4 q5
    · have q1' : s.get n = some r := q1
      have q2' : s.get m = some q := q2
      rw [upd_other (hrn n r q1')] at q3
      rw [upd_other (hrn m q q2')] at q4
      exact hR.inj n m r q x y q1' q2' q3 q4 q5
    · rintro j ⟨n, x, ⟨r, q1⟩ | ⟨es, q1⟩, q2, rfl⟩
      · have q1' : s.get n = some r := q1
        rw [upd_other (hrn n r q1')] at q2
        exact .inl ⟨n, x, .inl ⟨r, q1'⟩, q2, rfl⟩
      · rcases h2 n es q1 with ⟨rfl, e⟩ | ⟨e, h0⟩
        · rw [upd_same] at q2
          obtain rfl := Option.some.inj q2
          exact .inr (Nat.le_refl _)
        · rw [upd_other e] at q2
          exact .inl ⟨n, x, .inr ⟨es, h0⟩, q2, rfl⟩
theorem eraseE_eq : ∀ (l : List (Value × Value)) (n : Nat), eraseE l n = l.eraseIdx n
  | [], _ => by simp [eraseE]
  | p :: r, 0 => rfl
  | p :: r, n + 1 => by rw [eraseE, eraseE_eq r n]; rfl
theorem Born.erase {cs : Array MapEntry} {cl : Nat} (h : Born cs cl) (i : Nat) : Born (cs.eraseIdxIfInBounds i) cl := by
  have e : (cs.eraseIdxIfInBounds i).toList = cs.toList.eraseIdx i := by simp
  have hs : (cs.toList.eraseIdx i).Sublist cs.toList := List.eraseIdx_sublist ..
  refine ⟨fun x hx => ?_, ?_⟩
  · rw [e] at hx
    exact h.1 x (hs.subset hx)
  · rw [e]
    exact h.2.sublist (hs.map _)
theorem del_run (g : Good P E) (hR : R ρ s w) {mt it ty : TypeId} {X Y X' Y' : Value} (h : opDel1 E s Y k X (E.und mt) = true) (hX : VR ρ X X') (hY : VR ρ Y Y') : ∃ u w', (Builtin.delete_ #[mt, it] ty #[X', Y']).run P w = .ok u w' ∧ Ap ρ s w k u w' := by
  unfold opDel1 at h
  split at h
  · rename_i kt et hd
    split at h
    · cases hf : keyFit E kt Y with
      | false => rw [hf] at h; cases h
      | true =>
        rw [hf] at h
        obtain rfl : X' = .map none := by rw [VR] at hX; exact hX
        have hck := checkKey_fit (w := w) g (keyFit_u hf hY) true 9997
        refine ⟨.tuple #[], w, ?_, _, ρ, s, undef_vr ρ, hR, Ext.refl _ _ _, h⟩
        simp [Builtin.delete_, run_underlying (g.und _ _ hd), hck]
    · rename_i n
      unfold opDel2 at h
      split at h
      · rename_i es hes
        cases hf : keyFit E kt Y with
        | false => rw [hf] at h; cases h
        | true =>
          rw [hf] at h
          simp only [cond_true] at h
          obtain ⟨z, hz, rfl⟩ : ∃ z, ρ n = some z ∧ X' = .map (some z.1) := by rw [VR] at hX; exact hX
          obtain ⟨z', h1, hM⟩ := hR.maps n es hes
          rcases hM with ⟨cs, cl, h2, h3, h4⟩ | ⟨t0, n0, cur0, left0, e0, _⟩
          rotate_left
          · rw [e0, mfind_it] at h; cases h
          rw [hz] at h1
          obtain rfl := Option.some.inj h1
          have hck := checkKey_fit (w := w) g (keyFit_u hf hY) cs.isEmpty 9997
          cases hmf : mfind s.al Y es 0 with
          | none => rw [hmf] at h; cases h
          | some r =>
            rw [hmf] at h
            obtain ⟨r', hfk, q2, q3⟩ := mfind_run (w := w) g (AlOk.of hR) hf hY es cs.toList r hmf (by simpa using h3.1) (fun j kv hj => by simpa using h4 j kv hj)
            cases r with
            | none =>
              obtain rfl := q2 rfl
              simp only [opDel3] at h
              obtain ⟨r1, r2⟩ := hR.writeMap (s' := s) (es' := es) (cs' := cs) (cl' := cl) hes hz h2 rfl (fun _ => rfl) rfl (fun m q hm => by
                by_cases e : m = n
                · subst e
                  rw [hes] at hm
                  exact .inl ⟨rfl, (Option.some.inj hm).symm⟩
                · exact .inr ⟨e, hm⟩) rfl h3 (.inr (MStep.refl _ _)) h4
              refine ⟨.tuple #[], _, ?_, _, ρ, s, undef_vr ρ, r1, r2, h⟩
              simp [Builtin.delete_, run_underlying (g.und _ _ hd), hck, getObj_map h2, hfk, setObj_map h2]
            | some p =>
              obtain ⟨u, rfl, hu, hi0, kv, e, g1, g2, g3, g4⟩ := q3 p rfl
              simp only [opDel3] at h
              cases hii : s.m.it || isIt (eraseE es p.1) with
              | true => rw [hii] at h; cases h
              | false =>
                rw [hii] at h
                simp only [cond_false] at h
                rw [eraseE_eq] at h hii
                obtain ⟨hi, hie⟩ := Bool.or_eq_false_iff.1 hii
                obtain ⟨s', p1, p2, p3, p5, p4⟩ := putMapK_ok h
                obtain ⟨r1, r2⟩ := hR.writeMap (s' := s') (cs' := cs.eraseIdxIfInBounds p.1) (cl' := cl) hes hz h2 p2 p3 p5 p4 rfl ⟨by
                  have hlt := (List.getElem?_eq_some_iff.1 g1).1
                  have : (cs.eraseIdxIfInBounds p.1).size = (cs.toList.eraseIdx p.1).length := by rw [← Array.length_toList]; simp
                  rw [this]
                  have h30 := h3.1
                  simp only [Nat.sub_zero] at hlt
                  rw [List.length_eraseIdx, List.length_eraseIdx, if_pos hlt, Array.length_toList, if_pos (by omega)]
                  omega, h3.2.1.erase _, hie⟩ (.inl hi) (fun i kv hi => by
                  have e1 : (cs.eraseIdxIfInBounds p.1)[i]? = (cs.toList.eraseIdx p.1)[i]? := by rw [← Array.getElem?_toList]; simp
                  rw [e1, List.getElem?_eraseIdx]
                  rw [List.getElem?_eraseIdx] at hi
                  by_cases hq : i < p.1
                  · rw [if_pos hq] at hi ⊢
                    simpa using h4 i kv hi
                  · rw [if_neg hq] at hi ⊢
                    simpa using h4 (i + 1) kv hi)
                refine ⟨.tuple #[], _, ?_, _, ρ, s', undef_vr ρ, r1, r2, p1⟩
                simp [Builtin.delete_, run_underlying (g.und _ _ hd), hck, getObj_map h2, hfk, setObj_map h2]
      · cases h
    · cases h
  · cases h
end
end Go.Proofs.YtcfekhcdadldmaaGreatDoor.Am
