import Derived.Test.YtllahinoomahnaaGreatDoorAmP
set_option linter.unusedSimpArgs false
namespace Go.Proofs.YtllahinoomahnaaGreatDoor.Am
open Go

section
variable {P : Program} {E : Env} {F : Fl} {call : CallK} {all : List Oper} {k : KT} {ρ0 : Rho} {s0 : St} {w0 : World} {S : Nat → Bool} {a : Act} {w : World} {dn rem : List Nat} {t : List Value} {s : St} {ρ : Rho} {ops : Array Oper} {Q : Exit → Act → World → Prop}
theorem DI.next (h : DI P E F call all k ρ0 s0 w0 S a w dn rem t s ρ) {i : Nat} {o : Oper} (ho : all[i]? = some o) (hw : ∀ j ∈ waits o, S j = true) {dn2 rem2 : List Nat} {t2 : List Value} {s2 : St} {ρ2 : Rho} {w2 : World} {v u : Value} (hv : VR ρ2 v u) (hR : R ρ2 s2 w2) (hpd : Pend E F all w0 t2 (fun j => decide (j = i) || S j) (unm F all dn2) ρ2 s2 w2) (hx : Ext ρ0 s0 w0 ρ2 s2 w2) (hsub : Sub ρ ρ2) (hrems : heavies F all = dn2 ++ rem2)
    (hheavy : ∀ (j : Nat) (p : Oper), all[j]? = some p → hvy F j p = true → ((decide (j = i) || S j) = true ↔ j ∉ rem2)) (hlight : ∀ (j : Nat) (p : Oper), all[j]? = some p → hvy F j p = false → (decide (j = i) || S j) = true → avail (preOf all []) rem2 j = true)
    (hlen : t2.length = t.length) (hdst : ∀ d, o.dst = some d → d < t.length → t2[d]? = some v) (hold : ∀ d, o.dst ≠ some d → (∀ (j : Nat) (p : Oper), all[j]? = some p → p.dst = some d → hvy F j p = false → S j = true) → t2[d]? = t[d]?) (fix : FixP E F all dn2 rem2 t2 s2) (res : evS E F call all (preOf all []) k rem2 dn2 t2 s2 = true) :
    DI P E F call all k ρ0 s0 w0 (fun j => decide (j = i) || S j) (a.put o.dst u) w2 dn2 rem2 t2 s2 ρ2 := by
  have hps : (a.put o.dst u).tmps.size = a.tmps.size := by cases o.dst <;> simp [Act.put]
  refine ⟨fun j p hp hj x hxx => ?_, hrems, hheavy, hlight, hR, hpd, hx, by rw [hps, h.size, hlen], by cases o.dst <;> exact h.defers, fun d v' hv' hws => ?_, fix, res⟩
  · rw [Bool.or_eq_true] at hj ⊢
    rcases hj with hj | hj
    · have := of_decide_eq_true hj
      subst this
      rw [ho] at hp
      obtain rfl := Option.some.inj hp
      exact .inr (hw x hxx)
    · exact .inr (h.closed j p hp hj x hxx)
  · have hlt : d < t.length := by rw [← hlen]; exact (List.getElem?_eq_some_iff.1 hv').1
    by_cases hd : o.dst = some d
    · have := hdst d hd hlt
      rw [hv'] at this
      obtain rfl := Option.some.inj this
      refine ⟨u, ?_, hv⟩
      rw [hd]
      have : d < a.tmps.size := by rw [h.size]; exact hlt
      simp [Act.put, this]
    · have hws' : ∀ (j : Nat) (p : Oper), all[j]? = some p → p.dst = some d → hvy F j p = false → S j = true := fun j p hp hpd hpl => by
        have := hws j p hp hpd hpl
        rw [Bool.or_eq_true] at this
        rcases this with e | e
        · have := of_decide_eq_true e
          subst this
          rw [ho] at hp
          obtain rfl := Option.some.inj hp
          exact absurd hpd hd
        · exact e
      rw [hold d hd hws'] at hv'
      obtain ⟨u', h1, h2⟩ := h.slots d v' hv' hws'
      refine ⟨u', ?_, h2.mono hsub⟩
      cases hod : o.dst with
      | none => exact h1
      | some e =>
        have hne : e ≠ d := fun e' => hd (by rw [hod, e'])
        show (a.tmps.setIfInBounds e u)[d]? = some u'
        rw [Array.getElem?_setIfInBounds_ne hne]
        exact h1
theorem DI.avail (h : DI P E F call all k ρ0 s0 w0 S a w dn rem t s ρ) {i : Nat} (hp : ∀ j ∈ (preOf all []).getD i [], S j = true) : Am.avail (preOf all []) rem i = true := by
  unfold Am.avail
  rw [List.all_eq_true]
  intro j hj
  rcases hb : hasN rem j with _ | _
  · rfl
  · have hjr := hasN_iff.1 hb
    have hjh : j ∈ heavies F all := by rw [h.rems]; exact List.mem_append.2 (.inr hjr)
    obtain ⟨p, hp1, hp2⟩ := heavies_mem.1 hjh
    exact absurd hjr ((h.heavy j p hp1 hp2).1 (hp j hj))
theorem chk_inv {new : Nat → Bool} (hf : chkAll E F all (preOf all []) dn rem new t s = true) {i : Nat} {o : Oper} (ho : all[i]? = some o) (hl : hvy F i o = false) (ha : Am.avail (preOf all []) rem i = true) (hlv : live (preOf all []) dn i = true) (hn : new i = false) : ∃ v, gd E F all t s i o = some v ∧ ∀ d, o.dst = some d → t[d]? = some v := by
  have h1 := List.all_eq_true.1 hf i (List.mem_range.2 (List.getElem?_eq_some_iff.1 ho).1)
  rw [ho] at h1
  simp only [hl, ha, hlv, hn, Bool.not_false, Bool.and_self, cond_false, cond_true] at h1
  unfold chk1 at h1
  split at h1
  · rename_i v hv
    refine ⟨v, hv, fun d hd => ?_⟩
    rw [hd] at h1
    simp only [at?_eq] at h1
    split at h1
    · rename_i u hu
      rw [hu, eqVal_eq _ _ _ h1]
    · cases h1
  · cases h1
theorem pre_lt (hst : Stat F all (preOf all [])) {i j : Nat} {o : Oper} (ho : all[i]? = some o) (hj : j ∈ (preOf all []).getD i []) : j < i := by
  have := pre_in hst.back (S := fun j => decide (j < i)) (fun i' o' ho' hi' j hj => by
    have h1 := of_decide_eq_true hi'
    have h2 := hst.back i' o' ho' j hj
    exact decide_eq_true (by omega)) i o ho (fun j hj => decide_eq_true (hst.back i o ho j hj)) j hj
  exact of_decide_eq_true this
/-- what a pass computes is what its operations give behind it. -/
theorem pass_fix (hst : Stat F all (preOf all [])) {new : Nat → Bool} {k1 : List Value → Bool} : ∀ (l : List Nat) (t : List Value), l.Pairwise (· < ·) → passK E F all new s k1 l t = true → ∃ t', k1 t' = true ∧ t'.length = t.length ∧ (∀ (d : Nat), (∀ i ∈ l, ∀ o, all[i]? = some o → hvy F i o = false → new i = true → o.dst ≠ some d) → t'[d]? = t[d]?) ∧ ∀ i ∈ l, ∀ o, all[i]? = some o → hvy F i o = false → new i = true → ∃ v, gd E F all t' s i o = some v ∧ ∀ d, o.dst = some d → d < t.length → t'[d]? = some v
  | [], t, _, h => ⟨t, h, rfl, fun _ _ => rfl, fun i hi => by cases hi⟩
  | i :: r, t, hs, h => by
    have hs' := List.pairwise_cons.1 hs
    rw [passK] at h
    have skip : passK E F all new s k1 r t = true → (∀ o, all[i]? = some o → hvy F i o = false → new i = true → False) → ∃ t', k1 t' = true ∧ t'.length = t.length ∧ (∀ (d : Nat), (∀ j ∈ i :: r, ∀ o, all[j]? = some o → hvy F j o = false → new j = true → o.dst ≠ some d) → t'[d]? = t[d]?) ∧ ∀ j ∈ i :: r, ∀ o, all[j]? = some o → hvy F j o = false → new j = true → ∃ v, gd E F all t' s j o = some v ∧ ∀ d, o.dst = some d → d < t.length → t'[d]? = some v := fun h hno => by
      obtain ⟨t', h1, h2, h3, h4⟩ := pass_fix hst r t hs'.2 h
      refine ⟨t', h1, h2, fun d hd => h3 d fun j hj => hd j (by simp [hj]), fun j hj o ho hl hn => ?_⟩
      rcases List.mem_cons.1 hj with rfl | hj
      · exact (hno o ho hl hn).elim
      · exact h4 j hj o ho hl hn
    split at h
    · rename_i o ho
      cases hh : hvy F i o with
      | true =>
        rw [hh] at h
        exact skip h fun o' ho' hl _ => by rw [ho] at ho'; obtain rfl := Option.some.inj ho'; rw [hh] at hl; cases hl
      | false =>
        rw [hh] at h
        simp only [cond_false] at h
        cases hn : new i with
        | false =>
          rw [hn] at h
          exact skip h fun _ _ _ hn' => by rw [hn] at hn'; cases hn'
        | true =>
          rw [hn] at h
          simp only [cond_true] at h
          unfold setO at h
          split at h
          · rename_i v hv
            rw [putK_eq] at h
            obtain ⟨t', h1, h2, h3, h4⟩ := pass_fix hst r _ hs'.2 h
            have hl2 : t'.length = t.length := by rw [h2]; cases o.dst <;> simp
            refine ⟨t', h1, hl2, fun d hd => ?_, fun j hj p hp hl hnj => ?_⟩
            · rw [h3 d fun j hj => hd j (by simp [hj])]
              have := hd i (by simp) o ho hh hn
              cases hdst : o.dst with
              | none => rfl
              | some n =>
                rw [hdst] at this
                simp only
                rw [List.getElem?_set_ne (fun e => this (by rw [e]))]
            · rcases List.mem_cons.1 hj with rfl | hj
              · rw [ho] at hp
                obtain rfl := Option.some.inj hp
                refine ⟨v, ?_, fun d hd hlt => ?_⟩
                · rw [gd_congr (t := t) fun d hd => ?_]
                  · exact hv
                  · rw [h3 d fun x hx q hq hlq _ e => ?_]
                    · cases hdst : o.dst with
                      | none => rfl
                      | some n =>
                        simp only
                        rw [List.getElem?_set_ne (fun e => ?_)]
                        subst e
                        exact absurd (pre_lt hst ho (hst.opnd _ o ho _ hd _ o ho hdst hh)) (Nat.lt_irrefl _)
                    · have := pre_lt hst ho (hst.opnd _ o ho d hd x q hq e hlq)
                      have := hs'.1 x hx
                      omega
                · rw [h3 d fun x hx q hq hlq _ e => ?_]
                  · rw [hd]; simp [hlt]
                  · have := hst.dst _ x o q d ho hq hd e
                    have h9 := hs'.1 x hx
                    omega
              · obtain ⟨v', g1, g2⟩ := h4 j hj p hp hl hnj
                exact ⟨v', g1, fun d hd hlt => g2 d hd (by cases o.dst <;> simpa using hlt)⟩
          · cases h
    · rename_i ho
      exact skip h fun o ho' => by rw [ho] at ho'; cases ho'
theorem Pend.mono {U U2 : Nat → Bool} {S2 : Nat → Bool} (h : Pend E F all w0 t S U ρ s w) (hU : ∀ i, U2 i = true → U i = true) (hS : ∀ i, U2 i = true → S2 i = S i) : Pend E F all w0 t S2 U2 ρ s w :=
  ⟨fun i hi => h.lt i (hU i hi), fun i hi hs => h.no i (hU i hi) (by rw [← hS i hi]; exact hs), fun i hi hs => h.yes i (hU i hi) (by rw [← hS i hi]; exact hs), fun i j x y hi hj hsi hsj => h.inj i j x y (hU i hi) (hU j hj) (by rw [← hS i hi]; exact hsi) (by rw [← hS j hj]; exact hsj)⟩
theorem Pend.turn {U : Nat → Bool} {t2 : List Value} (h : Pend E F all w0 t S U ρ s w) (ht : ∀ i o, U i = true → S i = true → all[i]? = some o → flInfo E t2 o.op = flInfo E t o.op) : Pend E F all w0 t2 S U ρ s w :=
  ⟨h.lt, h.no, fun i hi hs => by
    obtain ⟨o, I, b, ys, h1, h2, h3⟩ := h.yes i hi hs
    exact ⟨o, I, b, ys, h1, (ht i o hi hs h1).trans h2, h3⟩, h.inj⟩
theorem Pend.step {U : Nat → Bool} {ρ2 : Rho} {s2 : St} {w2 : World} (h : Pend E F all w0 t S U ρ s w) (hx : Ext ρ s w ρ2 s2 w2) : Pend E F all w0 t S U ρ2 s2 w2 := by
  refine ⟨fun i hi => Nat.lt_of_lt_of_le (h.lt i hi) hx.le, fun i hi hs => ?_, fun i hi hs => ?_, fun i j x y hi hj hsi hsj hxi hyj => ?_⟩
  · rw [hx.old _ (h.lt i hi)]; exact h.no i hi hs
  · obtain ⟨o, I, b, ys, h1, h2, h4, h5, h6, h7, l1, l2⟩ := h.yes i hi hs
    have hb : b < w.heap.size := (Array.getElem?_eq_some_iff.1 h5).1
    refine ⟨o, I, b, ys, h1, h2, by rw [hx.old _ (h.lt i hi)]; exact h4, by rw [hx.frame b hb h6]; exact h5, fun ho => ?_, h7, l1.mono hx.sub, l2⟩
    rcases hx.own b ho with e | e
    · exact h6 e
    · omega
  · rw [hx.old _ (h.lt i hi)] at hxi
    rw [hx.old _ (h.lt j hj)] at hyj
    exact h.inj i j x y hi hj hsi hsj hxi hyj
theorem mat_one {U : Nat → Bool} {k1 : St → Bool} (hR : R ρ s w) (hx : Ext ρ0 s0 w0 ρ s w) (hp : Pend E F all w0 t S U ρ s w) {i : Nat} (hU : U i = true) (hS : S i = true) {o : Oper} (ho : all[i]? = some o) (h : mat1 s (F.c0 + i) k1 (flInfo E t o.op) = true) :
    ∃ s', k1 s' = true ∧ R ρ s' w ∧ Ext ρ0 s0 w0 ρ s' w ∧ Pend E F all w0 t S (fun j => U j && !Nat.beq j i) ρ s' w := by
  obtain ⟨o', I, b, ys, h1, h2, h4, h5, h6, h7, l1, l2, l3, l4⟩ := hp.yes i hU hS
  rw [ho] at h1
  obtain rfl := Option.some.inj h1
  rw [h2] at h
  simp only [mat1, forceL_eq] at h
  obtain ⟨t', k2, k3⟩ := Tr.setK_get _ _ _ _ _ h
  have hg : ∀ m q, (⟨t', s.m, s.c⟩ : St).get m = some q → (m = F.c0 + i ∧ q = ⟨I.cs, I.ty, I.sz⟩) ∨ (m ≠ F.c0 + i ∧ s.get m = some q) := fun m q hq => by
    rcases k3 m q hq with ⟨e1, e2⟩ | e1
    · exact .inl ⟨e1, (Option.some.inj e2).symm⟩
    · exact .inr e1
  have hown : ∀ j, Own ρ (⟨t', s.m, s.c⟩ : St) j → j = b ∨ Own ρ s j := by
    rintro j ⟨n, x, ⟨r, q1⟩ | ⟨es, q1⟩, q2, rfl⟩
    · rcases hg n r q1 with ⟨rfl, _⟩ | ⟨_, q3⟩
      · rw [h4] at q2
        obtain rfl := Option.some.inj q2
        exact .inl rfl
      · exact .inr ⟨n, x, .inl ⟨r, q3⟩, q2, rfl⟩
    · exact .inr ⟨n, x, .inr ⟨es, q1⟩, q2, rfl⟩
  refine ⟨_, k2, ⟨hR.dom, hR.lt, fun n r hr => ?_, hR.maps, hR.injm, fun n m r q x y q1 q2 q3 q4 q5 => ?_⟩, ⟨hx.le, hx.sub, hx.size, hx.os, hx.tape, hx.output, hx.frame, fun j hj => ?_, hx.old, hx.mp⟩, ⟨fun j hj => ?_, fun j hj hs => ?_, fun j hj hs => ?_, fun j l x y hj hl hsj hsl => ?_⟩⟩
  · rcases hg n r hr with ⟨rfl, rfl⟩ | ⟨_, hr⟩
    · exact ⟨_, _, h4, h5, rfl, l2, l1, l3, rfl, l4⟩
    · exact hR.rows n r hr
  · rcases hg n r q1 with ⟨rfl, _⟩ | ⟨en, q1⟩ <;> rcases hg m q q2 with ⟨rfl, _⟩ | ⟨em, q2⟩
    · rfl
    · rw [h4] at q3
      obtain rfl := Option.some.inj q3
      exact absurd ⟨m, y, .inl ⟨q, q2⟩, q4, q5.symm⟩ h6
    · rw [h4] at q4
      obtain rfl := Option.some.inj q4
      exact absurd ⟨n, x, .inl ⟨r, q1⟩, q3, q5⟩ h6
    · exact hR.inj n m r q x y q1 q2 q3 q4 q5
  · rcases hown j hj with rfl | e
    · exact .inr h7
    · exact hx.own j e
  · simp only [Bool.and_eq_true] at hj
    exact hp.lt j hj.1
  · simp only [Bool.and_eq_true] at hj
    exact hp.no j hj.1 hs
  · simp only [Bool.and_eq_true, Bool.not_eq_true'] at hj
    obtain ⟨o', I', b', ys', g1, g2, g4, g5, g6, g7⟩ := hp.yes j hj.1 hs
    refine ⟨o', I', b', ys', g1, g2, g4, g5, fun e => ?_, g7⟩
    rcases hown b' e with rfl | e
    · have := hp.inj j i _ _ hj.1 hU hs hS g4 h4 rfl
      subst this
      have := hj.2
      rw [Nat.beq_refl] at this
      cases this
    · exact g6 e
  · simp only [Bool.and_eq_true] at hj hl
    exact hp.inj j l x y hj.1 hl.1 hsj hsl
theorem matK_ok {k1 : St → Bool} : ∀ (l : List Nat) (U : Nat → Bool) (s : St), (∀ i ∈ l, U i = true ∧ S i = true) → l.Nodup → R ρ s w → Ext ρ0 s0 w0 ρ s w → Pend E F all w0 t S U ρ s w → matK E F all t k1 l s = true → ∃ s', k1 s' = true ∧ R ρ s' w ∧ Ext ρ0 s0 w0 ρ s' w ∧ Pend E F all w0 t S (fun j => U j && !hasN l j) ρ s' w
  | [], U, s, _, _, hR, hx, hp, h => ⟨s, h, hR, hx, hp.mono (fun i hi => by simp only [Bool.and_eq_true] at hi; exact hi.1) (fun _ _ => rfl)⟩
  | i :: r, U, s, hl, hn, hR, hx, hp, h => by
    rw [matK] at h
    split at h
    · rename_i o ho
      obtain ⟨hU, hS⟩ := hl i (by simp)
      obtain ⟨s1, q1, q2, q3, q4⟩ := mat_one hR hx hp hU hS ho h
      have hn' := List.nodup_cons.1 hn
      obtain ⟨s2, p1, p2, p3, p4⟩ := matK_ok r _ s1 (fun j hj => by
        have := hl j (by simp [hj])
        refine ⟨?_, this.2⟩
        simp only [this.1, Bool.true_and, Bool.not_eq_true']
        rcases hb : Nat.beq j i with _ | _
        · rfl
        · have := Nat.eq_of_beq_eq_true hb
          subst this
          exact absurd hj hn'.1) hn'.2 q2 q3 q4 q1
      refine ⟨s2, p1, p2, p3, p4.mono (fun j hj => ?_) (fun _ _ => rfl)⟩
      simp only [Bool.and_eq_true, Bool.not_eq_true'] at hj ⊢
      have h2 := hj.2
      rw [hasN_cons, Bool.or_eq_false_iff] at h2
      exact ⟨⟨hj.1, h2.1⟩, h2.2⟩
    · cases h
theorem float_late {U : Nat → Bool} (hR : R ρ s w) (hx : Ext ρ0 s0 w0 ρ s w) (hc0 : s0.c ≤ F.c0) (hp : Pend E F all w0 t S U ρ s w) {i : Nat} (hU : U i = true) (hS : S i = false) {o : Oper} {I : FlI} {ys : Array Value} (ho : all[i]? = some o) (hI : flInfo E t o.op = some I) (l1 : L2 ρ I.cs (ys.toList.take I.cs.length)) (l2 : I.cs.length ≤ ys.size) (l3 : ∀ v ∈ I.cs, one v = true) (l4 : I.sz = 0 → I.cs.length = ys.size) :
    R (upd ρ (F.c0 + i) (w.heap.size, ys.size, I.sz)) s (w.alloc (.cells ys I.ty)) ∧ Ext ρ0 s0 w0 (upd ρ (F.c0 + i) (w.heap.size, ys.size, I.sz)) s (w.alloc (.cells ys I.ty)) ∧ Sub ρ (upd ρ (F.c0 + i) (w.heap.size, ys.size, I.sz)) ∧ Pend E F all w0 t (fun j => decide (j = i) || S j) U (upd ρ (F.c0 + i) (w.heap.size, ys.size, I.sz)) s (w.alloc (.cells ys I.ty)) := by
  have hn := hp.no i hU hS
  have hlt := hp.lt i hU
  have hsub := sub_upd hn (w.heap.size, ys.size, I.sz)
  have hk : ∀ j, j < w.heap.size → (w.alloc (.cells ys I.ty)).heap[j]? = w.heap[j]? := fun j hj => heap_alloc_old w _ hj
  have hrn : ∀ n r, s.get n = some r → n ≠ F.c0 + i := fun n r h e => by
    obtain ⟨x, _, hx, _⟩ := hR.rows n r h
    rw [e, hn] at hx; cases hx
  have hmn : ∀ n es, s.gm n = some es → n ≠ F.c0 + i := fun n r h e => by
    obtain ⟨x, hx, _⟩ := hR.maps n r h
    rw [e, hn] at hx; cases hx
  have hown : ∀ j, Own (upd ρ (F.c0 + i) (w.heap.size, ys.size, I.sz)) s j → Own ρ s j := by
    rintro j ⟨n, x, ⟨r, q1⟩ | ⟨es, q1⟩, q2, rfl⟩
    · rw [upd_other (hrn n r q1)] at q2
      exact ⟨n, x, .inl ⟨r, q1⟩, q2, rfl⟩
    · rw [upd_other (hmn n es q1)] at q2
      exact ⟨n, x, .inr ⟨es, q1⟩, q2, rfl⟩
  have hol : ∀ j, Own ρ s j → j < w.heap.size := by
    rintro j ⟨n, x, _, q2, rfl⟩
    exact hR.lt n x q2
  refine ⟨⟨fun n h => ?_, fun n x h => ?_, fun n r h => ?_, fun n es h => ?_, fun n m es fs x y q1 q2 q3 q4 q5 => ?_, fun n m r q x y q1 q2 q3 q4 q5 => ?_⟩, ⟨hx.le, fun n x h => hsub n x (hx.sub n x h), ?_, hx.os, hx.tape, hx.output, fun j hj ho => ?_, fun j hj => hx.own j (hown j hj), fun n h => ?_, fun j c0 l0 hj => let ⟨c1, l1, h1, s1⟩ := hx.mp j c0 l0 hj; ⟨c1, l1, (hk j (Array.getElem?_eq_some_iff.1 h1).1).trans h1, s1⟩⟩, hsub, ⟨hp.lt, fun j hj hs => ?_, fun j hj hs => ?_, fun j l x y hj hl hsj hsl hxj hyl hxy => ?_⟩⟩
  · rw [upd_other (by omega)]; exact hR.dom n h
  · by_cases e : n = F.c0 + i
    · subst e
      rw [upd_same] at h
      obtain rfl := Option.some.inj h
      simp
    · rw [upd_other e] at h
      have := hR.lt n x h
      simp; omega
  · obtain ⟨x, c', q1, q2, q3, q4, q5, q6⟩ := hR.rows n r h
    exact ⟨x, c', by rw [upd_other (hrn n r h)]; exact q1, (hk _ (hR.lt n x q1)).trans q2, q3, q4, q5.mono hsub, q6⟩
  · obtain ⟨x, q1, q2⟩ := hR.maps n es h
    exact ⟨x, by rw [upd_other (hmn n es h)]; exact q1, q2.keep hsub fun k o hk' _ => (hk k (Array.getElem?_eq_some_iff.1 hk').1).trans hk'⟩
  · rw [upd_other (hmn n es q1)] at q3
    rw [upd_other (hmn m fs q2)] at q4
    exact hR.injm n m es fs x y q1 q2 q3 q4 q5
  · rw [upd_other (hrn n r q1)] at q3
    rw [upd_other (hrn m q q2)] at q4
    exact hR.inj n m r q x y q1 q2 q3 q4 q5
  · have := hx.size
    simp; omega
  · rw [hk j (Nat.lt_of_lt_of_le hj hx.size)]; exact hx.frame j hj ho
  · rw [upd_other (by omega)]; exact hx.old n h
  · simp only [Bool.or_eq_false_iff, decide_eq_false_iff_not] at hs
    rw [upd_other (by omega)]; exact hp.no j hj hs.2
  · by_cases e : j = i
    · subst e
      refine ⟨o, I, w.heap.size, ys, ho, hI, upd_same _ _ _, heap_alloc_new w _, fun e => ?_, hx.size, l1.mono hsub, l2, l3, l4⟩
      exact absurd (hol _ (hown _ e)) (Nat.lt_irrefl _)
    · simp only [e, decide_false, Bool.false_or] at hs
      obtain ⟨o', I', b', ys', g1, g2, g4, g5, g6, g7, m1, m2⟩ := hp.yes j hj hs
      have hb : b' < w.heap.size := (Array.getElem?_eq_some_iff.1 g5).1
      exact ⟨o', I', b', ys', g1, g2, by rw [upd_other (by omega)]; exact g4, (hk b' hb).trans g5, fun e => g6 (hown b' e), g7, m1.mono hsub, m2⟩
  · have lt' : ∀ m v, m ≠ i → upd ρ (F.c0 + i) (w.heap.size, ys.size, I.sz) (F.c0 + m) = some v → v.1 < w.heap.size := fun m v hm hv => by
      rw [upd_other (by omega)] at hv
      exact hR.lt _ v hv
    by_cases e1 : j = i <;> by_cases e2 : l = i
    · rw [e1, e2]
    · subst e1
      rw [upd_same] at hxj
      obtain rfl := Option.some.inj hxj
      have := lt' l y e2 hyl
      simp only at hxy; omega
    · subst e2
      rw [upd_same] at hyl
      obtain rfl := Option.some.inj hyl
      have := lt' j x e1 hxj
      simp only at hxy; omega
    · simp only [e1, e2, decide_false, Bool.false_or] at hsj hsl
      rw [upd_other (by omega)] at hxj hyl
      exact hp.inj j l x y hj hl hsj hsl hxj hyl hxy
theorem DI.step_light (g : Good P E) (hst : Stat F all (preOf all [])) (hall : ops.toList = all) (h : DI P E F call all k ρ0 s0 w0 S a w dn rem t s ρ) {i : Nat} {o : Oper} (hc0 : s0.c ≤ F.c0) (ho : all[i]? = some o) (hS : S i = false) (hw : ∀ j ∈ waits o, S j = true) (hl : hvy F i o = false) :
    wpOp P ops Q i (fun a' w' => ∃ dn2 rem2 t2 s2 ρ2, DI P E F call all k ρ0 s0 w0 (fun j => decide (j = i) || S j) a' w' dn2 rem2 t2 s2 ρ2) a w := by
  have hpre := pre_in hst.back h.closed i o ho hw
  have hav := h.avail hpre
  have hlive : live (preOf all []) dn i = true := by
    unfold live
    rw [List.all_eq_true]
    intro x hx
    rcases hb : hasN ((preOf all []).getD x []) i with _ | _
    · rfl
    · exfalso
      have hxh : x ∈ heavies F all := by rw [h.rems]; exact List.mem_append.2 (.inl hx)
      obtain ⟨p, hp1, hp2⟩ := heavies_mem.1 hxh
      have hsort := heavies_sorted F all
      rw [h.rems] at hsort
      have hnr : x ∉ rem := fun hr => absurd ((List.pairwise_append.1 hsort).2.2 x hx x hr) (Nat.lt_irrefl _)
      have hSx := (h.heavy x p hp1 hp2).2 hnr
      have := pre_in hst.back h.closed x p hp1 (h.closed x p hp1 hSx) i (hasN_iff.1 hb)
      rw [hS] at this
      cases this
  obtain ⟨v, hv, hd⟩ := h.fix i o ho hl hav hlive
  obtain ⟨t', hT, hm⟩ := h.mask
  have hcg := opv_congr (all := all) (t := t) (t' := t') (o := o) fun d hd => hm d fun j p hp hpd hpl => hpre j (hst.opnd i o ho d hd j p hp hpd hpl)
  have nx : ∀ u ρ2 w2, VR ρ2 v u → R ρ2 s w2 → Ext ρ0 s0 w0 ρ2 s w2 → Sub ρ ρ2 → Pend E F all w0 t (fun j => decide (j = i) || S j) (unm F all dn) ρ2 s w2 → DI P E F call all k ρ0 s0 w0 (fun j => decide (j = i) || S j) (a.put o.dst u) w2 dn rem t s ρ2 := fun u ρ2 w2 hu hR2 hx2 hsb2 hp2 =>
    h.next ho hw hu hR2 hp2 hx2 hsb2 h.rems (fun j p hp hh => by
      have hji : j ≠ i := fun e => by subst e; rw [ho] at hp; obtain rfl := Option.some.inj hp; rw [hl] at hh; cases hh
      simp only [hji, decide_false, Bool.false_or]
      exact h.heavy j p hp hh) (fun j p hp hh hj => by
      rw [Bool.or_eq_true] at hj
      rcases hj with e | e
      · have := of_decide_eq_true e
        subst this
        exact hav
      · exact h.light j p hp hh e) rfl (fun d hd' hlt => hd d hd' hlt) (fun _ _ _ => rfl) h.fix h.res
  have hoi : ops[i]? = some o := by rw [← hall] at ho; simpa using ho
  cases hfl : hasN F.fl i with
  | true =>
    unfold gd at hv
    rw [hfl] at hv
    simp only [cond_true] at hv
    unfold flV at hv
    split at hv
    · rename_i hgn
      split at hv
      · rename_i I hI
        have hI' : flInfo E t' o.op = some I := by rw [fl_congr (t' := t) hcg.1]; exact hI
        obtain ⟨ys, u, hrun, l1, l2, l3, l4, l5⟩ := fl_run (w := w) g hT hI'
        have hU : unm F all dn i = true := by unfold unm; rw [hfl, hlive]; rfl
        obtain ⟨f1, f2, f3, f4⟩ := float_late h.rel h.ext hc0 h.pend hU hS ho hI l1 l2 l3 l4
        rw [wpOp, hoi]
        simp only
        rw [if_pos (by simp [Region.wanted, hgn])]
        left
        unfold Oper.wp
        rw [hrun]
        refine ⟨dn, rem, t, s, _, nx _ _ _ ?_ f1 f2 f3 f4⟩
        rw [← Option.some.inj hv]
        exact l5 _ _ (upd_same _ _ _)
      · cases hv
    · cases hv
  | false =>
  have hp2 : Pend E F all w0 t (fun j => decide (j = i) || S j) (unm F all dn) ρ s w := h.pend.mono (fun _ e => e) (fun j hj => by
    have hji : j ≠ i := fun e => by
      subst e
      unfold unm at hj
      rw [hfl] at hj; cases hj
    simp [hji])
  unfold gd at hv
  rw [hfl] at hv
  simp only [cond_false] at hv
  have run : lightV E t s o.op = some v → o.wp P a w (fun a' w' => ∃ dn2 rem2 t2 s2 ρ2, DI P E F call all k ρ0 s0 w0 (fun j => decide (j = i) || S j) a' w' dn2 rem2 t2 s2 ρ2) Q := fun e => by
    rw [← light_congr hcg.1] at e
    obtain ⟨u, hr, hvr⟩ := light_ok g h.rel hT e
    unfold Oper.wp
    rw [hr]
    exact ⟨dn, rem, t, s, ρ, nx u ρ w hvr h.rel h.ext (fun _ _ h => h) hp2⟩
  rw [wpOp, hoi]
  simp only
  unfold guarded at hv
  cases hg : o.guard with
  | none =>
    rw [hg] at hv
    rw [if_pos (by simp [Region.wanted, hg])]
    exact .inl (run hv)
  | some gd =>
    rw [hg] at hv
    simp only at hv
    have e1 := hcg.2 gd hg
    cases hb : isBoolV (guardV all t gd.1) with
    | false => rw [hb] at hv; cases hv
    | true =>
      rw [hb] at hv
      simp only [cond_true] at hv
      have hy := yield_ok (want := gd.2) (ops := ops) hT (j := gd.1) (by rw [hall, e1]; exact hb)
      rw [hall, e1] at hy
      cases hw2 : isWant gd.2 (guardV all t gd.1) with
      | true =>
        rw [hw2] at hv hy
        rw [if_pos (by simp only [Region.wanted, hg]; exact hy)]
        exact .inl (run hv)
      | false =>
        rw [hw2] at hv hy
        rw [if_neg (by simp only [Region.wanted, hg]; rw [hy]; simp)]
        simp only [cond_false, Option.some.injEq] at hv
        exact ⟨dn, rem, t, s, ρ, nx undef ρ w (hv ▸ undef_vr ρ) h.rel h.ext (fun _ _ h => h) hp2⟩
theorem stageK_ok (hst : Stat F all (preOf all [])) {new : Nat → Bool} {next : KT} (h : stageK E F all (preOf all []) dn rem new next t s = true) : ∃ t', FixP E F all dn rem t' s ∧ next t' s = true ∧ t'.length = t.length ∧ ∀ (d : Nat), (∀ (i : Nat) (o : Oper), all[i]? = some o → hvy F i o = false → new i = true → o.dst ≠ some d) → t'[d]? = t[d]? := by
  obtain ⟨t', h1, h2, h3, h4⟩ := pass_fix hst _ _ List.pairwise_lt_range h
  cases hc : chkAll E F all (preOf all []) dn rem new t' s with
  | false => rw [hc] at h1; cases h1
  | true =>
    rw [hc] at h1
    refine ⟨t', fun i o ho hl ha hlv => ?_, h1, h2, fun d hd => h3 d fun i _ o ho => hd i o ho⟩
    cases hn : new i with
    | true =>
      obtain ⟨v, g1, g2⟩ := h4 i (List.mem_range.2 (List.getElem?_eq_some_iff.1 ho).1) o ho hl hn
      exact ⟨v, g1, fun d hd hlt => g2 d hd (by rw [← h2]; exact hlt)⟩
    | false =>
      obtain ⟨v, g1, g2⟩ := chk_inv hc ho hl ha hlv hn
      exact ⟨v, g1, fun d hd _ => g2 d hd⟩
theorem DI.step_heavy (g : Good P E) (hC : CallOk P call) (hst : Stat F all (preOf all [])) (hall : ops.toList = all) (h : DI P E F call all k ρ0 s0 w0 S a w dn rem t s ρ) {i : Nat} {o : Oper} (ho : all[i]? = some o) (hS : S i = false) (hw : ∀ j ∈ waits o, S j = true) (hfn : F.fl.Nodup) (hh : hvy F i o = true) :
    wpOp P ops Q i (fun a' w' => ∃ dn2 rem2 t2 s2 ρ2, DI P E F call all k ρ0 s0 w0 (fun j => decide (j = i) || S j) a' w' dn2 rem2 t2 s2 ρ2) a w := by
  have hpre := pre_in hst.back h.closed i o ho hw
  have hir : i ∈ rem := by
    rcases Classical.em (i ∈ rem) with e | e
    · exact e
    · have := (h.heavy i o ho hh).2 e
      rw [hS] at this
      cases this
  cases rem with
  | nil => cases hir
  | cons hd rem' =>
    have hsort := heavies_sorted F all
    rw [h.rems] at hsort
    have hsr := (List.pairwise_append.1 hsort).2.1
    have hlt : ∀ j ∈ rem', hd < j := (List.pairwise_cons.1 hsr).1
    have hhd : hd = i := by
      rcases List.mem_cons.1 hir with e | e
      · exact e.symm
      · have h1 := hlt i e
        have hdh : hd ∈ heavies F all := by rw [h.rems]; simp
        obtain ⟨p, hp1, hp2⟩ := heavies_mem.1 hdh
        have h2 := hpre hd (hst.heavy i o ho hh hd p h1 hp1 hp2)
        exact absurd (by simp) ((h.heavy hd p hp1 hp2).1 h2)
    subst hhd
    have hnot : hd ∉ rem' := fun e => absurd (hlt hd e) (Nat.lt_irrefl _)
    obtain ⟨t', hT, hm⟩ := h.mask
    have hcg := opv_congr (all := all) (t := t) (t' := t') (o := o) fun d hd' => hm d fun j p hp hpd hpl => hpre j (hst.opnd hd o ho d hd' j p hp hpd hpl)
    have hres := h.res
    rw [evS, ho] at hres
    simp only at hres
    have hnf : hasN F.fl hd = false := by
      unfold hvy at hh
      cases e : hasN F.fl hd with
      | true => rw [e] at hh; cases hh
      | false => rfl
    have hih : (isHeavy o.op || isMv o.op) = true := by
      unfold hvy at hh
      rw [hnf] at hh
      simp only [cond_false] at hh
      cases e : hasN F.an hd with
      | true => rw [e] at hh; exact hh
      | false => rw [e] at hh; simp only [cond_false] at hh; rw [hh]; rfl
    obtain ⟨s1, hres, hR1, hx1, hp1⟩ := matK_ok (F.fl.filter fun i => live (preOf all []) dn i && hasN ((preOf all []).getD hd []) i) (unm F all dn) s (fun i hi => by
      have := List.mem_filter.1 hi
      have h2 := this.2
      simp only [Bool.and_eq_true] at h2
      refine ⟨by unfold unm; rw [hasN_iff.2 this.1, h2.1]; rfl, hpre i (hasN_iff.1 h2.2)⟩) (hfn.filter _) h.rel h.ext h.pend hres
    have hpU : ∀ i, unm F all (dn ++ [hd]) i = true → (unm F all dn i && !hasN (F.fl.filter fun i => live (preOf all []) dn i && hasN ((preOf all []).getD hd []) i) i) = true := fun i hi => by
      unfold unm at hi
      simp only [Bool.and_eq_true] at hi
      have hl := hi.2
      unfold live at hl
      rw [List.all_append, Bool.and_eq_true] at hl
      have hl1 : live (preOf all []) dn i = true := hl.1
      have hl2 : hasN ((preOf all []).getD hd []) i = false := by simpa using hl.2
      simp only [Bool.and_eq_true, Bool.not_eq_true']
      refine ⟨by unfold unm; rw [hi.1, hl1]; rfl, ?_⟩
      rcases hb : hasN (F.fl.filter fun i => live (preOf all []) dn i && hasN ((preOf all []).getD hd []) i) i with _ | _
      · rfl
      · have := (List.mem_filter.1 (hasN_iff.1 hb)).2
        rw [hl2, Bool.and_false] at this
        cases this
    have hoi : ops[hd]? = some o := by rw [← hall] at ho; simpa using ho
    have nx : ∀ (v u : Value) (ρ2 : Rho) (s2 : St) (w2 : World), VR ρ2 v u → R ρ2 s2 w2 → Ext ρ s1 w ρ2 s2 w2 → (putK t o.dst v fun t' => stageK E F all (preOf all []) (dn ++ [hd]) rem' (fun j => Am.avail (preOf all []) rem' j && !Am.avail (preOf all []) (hd :: rem') j) (evS E F call all (preOf all []) k rem' (dn ++ [hd])) t' s2) = true →
        ∃ dn2 rem2 t2 s2 ρ2, DI P E F call all k ρ0 s0 w0 (fun j => decide (j = hd) || S j) (a.put o.dst u) w2 dn2 rem2 t2 s2 ρ2 := fun v u ρ2 s2 w2 hv hR hx hk => by
      rw [putK_eq] at hk
      obtain ⟨t2, c1, c2, c3, c4⟩ := stageK_ok hst hk
      have hold : ∀ d, o.dst ≠ some d → (∀ (j : Nat) (p : Oper), all[j]? = some p → p.dst = some d → hvy F j p = false → S j = true) → t2[d]? = t[d]? := fun d hne hws => by
        rw [c4 d fun j p hp hpl hnew => fun e => ?_]
        · cases hod : o.dst with
          | none => rfl
          | some n =>
            simp only
            rw [List.getElem?_set_ne (fun e => hne (by rw [hod, e]))]
        · have := h.light j p hp hpl (hws j p hp e hpl)
          rw [this] at hnew
          simp at hnew
      have hturn : ∀ i q, (unm F all (dn ++ [hd])) i = true → S i = true → all[i]? = some q → flInfo E t2 q.op = flInfo E t q.op := fun i q hu hSi hq => by
        have hfi : hasN F.fl i = true := by unfold unm at hu; simp only [Bool.and_eq_true] at hu; exact hu.1
        have hpi := pre_in hst.back h.closed i q hq (h.closed i q hq hSi)
        refine fl_congr (opv_congr (all := all) (t := t) (t' := t2) (o := q) fun d hd' => hold d (fun e => ?_) fun j p hp hpd _ => hpi j (hst.flt i q hfi hq d hd' j p hp hpd)).1
        have := hpi hd (hst.flt i q hfi hq d hd' hd o ho e)
        rw [hS] at this; cases this
      refine ⟨dn ++ [hd], rem', t2, s2, ρ2, h.next ho hw hv hR ((((hp1.step hx).mono hpU (fun _ _ => rfl)).turn hturn).mono (fun _ e => e) (fun j hj => by
        have hji : j ≠ hd := fun e => by
          subst e
          unfold unm at hj
          rw [hnf] at hj; cases hj
        simp [hji])) (hx1.trans hx) hx.sub (by rw [h.rems]; simp) (fun j p hp hph => ?_) (fun j p hp hpl hj => ?_) ?_ (fun d hd' hlt' => ?_) (fun d hne hws => ?_) c1 c2⟩
      · by_cases e : j = hd
        · subst e; simp [hnot]
        · simp only [e, decide_false, Bool.false_or]
          rw [h.heavy j p hp hph]
          simp [e]
      · rw [Bool.or_eq_true] at hj
        have hav : Am.avail (preOf all []) (hd :: rem') j = true := by
          rcases hj with e | e
          · have := of_decide_eq_true e
            subst this
            rw [ho] at hp
            obtain rfl := Option.some.inj hp
            rw [hh] at hpl; cases hpl
          · exact h.light j p hp hpl e
        unfold Am.avail at hav ⊢
        rw [List.all_eq_true] at hav ⊢
        intro x hx'
        have := hav x hx'
        rcases hb : hasN rem' x with _ | _
        · rfl
        · have h1 := hasN_iff.1 hb
          have h2 : hasN (hd :: rem') x = true := hasN_iff.2 (by simp [h1])
          rw [h2] at this; cases this
      · rw [c3]; cases o.dst <;> simp
      · rw [c4 d fun j p hp hpl _ => fun e => ?_]
        · rw [hd']; simp [hlt']
        · have := hst.dst hd j o p d ho hp hd' e
          subst this
          rw [ho] at hp
          obtain rfl := Option.some.inj hp
          rw [hh] at hpl; cases hpl
      · exact hold d hne hws
    have run : oneOpK E call t s1 (fun v s' => putK t o.dst v fun t' => stageK E F all (preOf all []) (dn ++ [hd]) rem' (fun j => Am.avail (preOf all []) rem' j && !Am.avail (preOf all []) (hd :: rem') j) (evS E F call all (preOf all []) k rem' (dn ++ [hd])) t' s') o.op = true → o.wp P a w (fun a' w' => ∃ dn2 rem2 t2 s2 ρ2, DI P E F call all k ρ0 s0 w0 (fun j => decide (j = hd) || S j) a' w' dn2 rem2 t2 s2 ρ2) Q := fun e => by
      rw [← heavy_congr hih hcg.1] at e
      refine Oper.wp_mono ?_ (op_ok g hC hR1 hT e)
      rintro a' w' ⟨v, u, ρ', s', rfl, r1, r2, r3, r4⟩
      exact nx v u ρ' s' w' r1 r2 r3 r4
    rw [wpOp, hoi]
    simp only
    unfold heavyK at hres
    cases hg : o.guard with
    | none =>
      rw [hg] at hres
      rw [if_pos (by simp [Region.wanted, hg])]
      exact .inl (run hres)
    | some gd =>
      rw [hg] at hres
      simp only at hres
      have e1 := hcg.2 gd hg
      cases hb : isBoolV (guardV all t gd.1) with
      | false => rw [hb] at hres; cases hres
      | true =>
        rw [hb] at hres
        simp only [cond_true] at hres
        have hy := yield_ok (want := gd.2) (ops := ops) hT (j := gd.1) (by rw [hall, e1]; exact hb)
        rw [hall, e1] at hy
        cases hw2 : isWant gd.2 (guardV all t gd.1) with
        | true =>
          rw [hw2] at hres hy
          rw [if_pos (by simp only [Region.wanted, hg]; exact hy)]
          exact .inl (run hres)
        | false =>
          rw [hw2] at hres hy
          rw [if_neg (by simp only [Region.wanted, hg]; rw [hy]; simp)]
          simp only [cond_false] at hres
          exact nx undef undef ρ s1 w (undef_vr ρ) hR1 (Ext.refl _ _ _) hres
theorem draw1_ok (g : Good P E) (hm : P.follows .mixedOrders = true) (hC : CallOk P call) (hfn : F.fl.Nodup) (hfl : ∀ i ∈ F.fl, i < ops.size) {s1 : St} {kr : KT} {ke : Nat → KT} (hc0 : s.c ≤ F.c0) (h : draw1 E F call ops.toList (preOf ops.toList []) k t s1 = true) (hR : R ρ s1 w) (hx : Ext ρ s w ρ s1 w) (hlt : ∀ i, hasN F.fl i = true → F.c0 + i < s1.c ∧ ρ (F.c0 + i) = none) (hT : TR ρ t a) (id : Nat) : (Code.region id ops true).wp P (Po ρ s w k ke kr) a w := by
  have h : cond (statB F ops.toList (preOf ops.toList [])) (stageK E F ops.toList (preOf ops.toList []) [] (heavies F ops.toList) (Am.avail (preOf ops.toList []) (heavies F ops.toList)) (evS E F call ops.toList (preOf ops.toList []) k (heavies F ops.toList) []) t s1) false = true := h
  cases hs : statB F ops.toList (preOf ops.toList []) with
  | false => rw [hs] at h; cases h
  | true =>
    rw [hs] at h
    simp only [cond_true] at h
    have hst := stat_of hs
    obtain ⟨t0, c1, c2, c3, c4⟩ := stageK_ok hst h
    refine region_invG hm (fun S a' w' => ∃ dn rem t' s' ρ', DI P E F call ops.toList k ρ s w S a' w' dn rem t' s' ρ') ?_ ?_ ?_ ?_
    · refine ⟨[], heavies F ops.toList, t0, s1, ρ, (fun i o _ hi => (by cases hi)), rfl, (fun i o ho hh => ?_), (fun i o _ _ hi => (by cases hi)), hR.drew, ⟨fun i hi => ?_, fun i hi _ => ?_, (fun i _ hi => (by cases hi)), (fun i j x y _ _ hi => (by cases hi))⟩, hx.trans Ext.drew, ?_, hT.defers, fun d v hv hws => ?_, c1, c2⟩
      · simp only [Bool.false_eq_true, false_iff, Classical.not_not]
        exact heavies_mem.2 ⟨o, ho, hh⟩
      · unfold unm at hi
        simp only [Bool.and_eq_true] at hi
        exact (hlt i hi.1).1
      · unfold unm at hi
        simp only [Bool.and_eq_true] at hi
        exact (hlt i hi.1).2
      · rw [c3]; have := hT.vals.1; simpa using this
      · have : t0[d]? = t[d]? := c4 d fun i o ho hl _ e => by have := hws i o ho e hl; cases this
        rw [this] at hv
        obtain ⟨u, h1, h2⟩ := hT.vals.2 d v hv
        exact ⟨u, by simpa using h1, h2⟩
    · rintro i o S a' w' hoi hS hw ⟨dn, rem, t', s', ρ', hD⟩
      have ho : ops.toList[i]? = some o := by simpa using hoi
      cases hh : hvy F i o with
      | true => exact hD.step_heavy g hC hst rfl ho hS hw hfn hh
      | false => exact hD.step_light g hst rfl hc0 ho hS hw hh
    · rintro S a' w' hall ⟨dn, rem, t', s', ρ', hD⟩
      have hnil : rem = [] := by
        cases hr : rem with
        | nil => rfl
        | cons x r =>
          have hx : x ∈ heavies F ops.toList := by rw [hD.rems, hr]; simp
          obtain ⟨o, ho, hh⟩ := heavies_mem.1 hx
          have hlt : x < ops.size := by have := (List.getElem?_eq_some_iff.1 ho).1; simpa using this
          exact absurd (by rw [hr]; simp) ((hD.heavy x o ho hh).1 (hall x hlt))
      subst hnil
      have hres := hD.res
      rw [evS] at hres
      obtain ⟨s2, p1, p2, p3, _⟩ := matK_ok (F.fl.filter (live (preOf ops.toList []) dn)) (unm F ops.toList dn) s' (fun i hi => by
        have := List.mem_filter.1 hi
        have hU : unm F ops.toList dn i = true := by unfold unm; rw [hasN_iff.2 this.1, this.2]; rfl
        refine ⟨hU, ?_⟩
        rcases hb : S i with _ | _
        · exfalso
          rcases Nat.lt_or_ge i ops.size with e | e
          · rw [hall i e] at hb; cases hb
          · exact absurd e (by
              have := hfl i this.1
              omega)
        · rfl) (hfn.filter _) hD.rel hD.ext hD.pend hres
      refine ⟨ρ', s2, t', p2, ⟨⟨by have := hD.size; simpa using this, fun d v hv => ?_⟩, hD.defers⟩, p3, p1⟩
      obtain ⟨u, h1, h2⟩ := hD.slots d v hv fun i o ho _ _ => hall i (by have := (List.getElem?_eq_some_iff.1 ho).1; simpa using this)
      exact ⟨u, by simpa using h1, h2⟩
    · intro i o hoi
      exact hst.back i o (by simpa using hoi)
theorem floats_lt {all : List Oper} {pre : List (List Nat)} {i : Nat} (h : i ∈ floatsOf all pre) : i < all.length := List.mem_range.1 (List.mem_filter.1 h).1
theorem floats_nodup (all : List Oper) (pre : List (List Nat)) : (floatsOf all pre).Nodup := List.nodup_range.filter _
theorem draw_ok (g : Good P E) (hm : P.follows .mixedOrders = true) (hC : CallOk P call) : DrawOk P (drawK E call) := by
  intro id ops k t s h ρ w a ke kr hR hT
  unfold drawK at h
  generalize antiOf ops.toList (preOf ops.toList []) = an at h
  have hN := floats_nodup ops.toList (preOf ops.toList [])
  have hL : ∀ i ∈ floatsOf ops.toList (preOf ops.toList []), i < ops.size := fun i hi => by simpa using floats_lt hi
  generalize floatsOf ops.toList (preOf ops.toList []) = l at h hN hL
  cases l with
  | nil => exact draw1_ok g hm hC (F := ⟨[], s.c, an⟩) hN (fun i hi => hL i hi) (Nat.le_refl _) h hR (Ext.refl _ _ _) (fun i hi => by cases hi) hT id
  | cons x r =>
    simp only [draw2, forceN_eq] at h
    refine draw1_ok g hm hC (F := ⟨x :: r, s.c, an⟩) hN (fun i hi => hL i hi) (Nat.le_refl _) h ⟨fun n hn => hR.dom n ?_, hR.lt, hR.rows, hR.maps, hR.injm, hR.inj⟩ ⟨Nat.le_add_right _ _, fun _ _ h => h, Nat.le_refl _, rfl, rfl, rfl, fun _ _ _ => rfl, fun _ h => .inl h, fun _ _ => rfl, MapsGo.of fun _ _ h _ => h⟩ (fun i hi => ⟨?_, hR.dom _ (Nat.le_add_right _ _)⟩) hT id
    · have : s.c + ops.toList.length ≤ n := hn
      omega
    · have := hL i (hasN_iff.1 hi)
      show s.c + i < s.c + ops.toList.length
      simp; omega
end
end Go.Proofs.YtllahinoomahnaaGreatDoor.Am
