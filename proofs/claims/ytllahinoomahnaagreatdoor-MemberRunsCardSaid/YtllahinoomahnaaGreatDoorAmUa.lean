import Derived.Test.YtllahinoomahnaaGreatDoorAmU
set_option linter.unusedSimpArgs false
namespace Go.Proofs.YtllahinoomahnaaGreatDoor.Am
open Go Go.RowKit

theorem rnN_fun {c : Nat} {t : Tr Nat 17} {n a b : Nat} (ha : rnN c t n a = true) (hb : rnN c t n b = true) : a = b := by
  unfold rnN at ha hb
  cases hq : Nat.blt n c with
  | true =>
    rw [hq] at ha hb
    exact (Nat.eq_of_beq_eq_true ha).symm.trans (Nat.eq_of_beq_eq_true hb)
  | false =>
    rw [hq] at ha hb
    simp only [cond_false] at ha hb
    cases hg : Tr.get 17 t n with
    | none => rw [hg] at ha; cases ha
    | some m =>
      rw [hg] at ha hb
      exact (Nat.eq_of_beq_eq_true ha).symm.trans (Nat.eq_of_beq_eq_true hb)
theorem finR_ok {c : Nat} {t : Tr Nat 17} {s : St} {n n' : Nat} {r : Row} (h : finR c t s n n' r = true) : ∃ q, s.get n = some q ∧ rnN c t n n' = true ∧ q.elem = r.elem ∧ q.sz = r.sz ∧ eqL (rnV c t 5) q.cells r.cells = true := by
  unfold finR at h
  split at h
  · rename_i q hq
    simp only [Bool.and_eq_true] at h
    exact ⟨q, hq, h.1, Nat.eq_of_beq_eq_true h.2.1, Nat.eq_of_beq_eq_true h.2.2.1, h.2.2.2⟩
  · cases h
theorem finM_ok {c : Nat} {t : Tr Nat 17} {s : St} {n n' : Nat} {es : List (Value × Value)} (h : finM c t s n n' es = true) : ∃ q, s.gm n = some q ∧ rnN c t n n' = true ∧ rnE c t q es = true ∧ isIt es = false := by
  unfold finM at h
  split at h
  · rename_i q hq
    simp only [Bool.and_eq_true, Bool.not_eq_true'] at h
    exact ⟨q, hq, h.2.1, h.2.2, h.1⟩
  · cases h
theorem rn_isIt {c : Nat} {t : Tr Nat 17} {q es : List (Value × Value)} (h : rnE c t q es = true) (hi : isIt es = false) : isIt q = false := by
  cases q with
  | nil => rfl
  | cons p l =>
    cases es with
    | nil => cases h
    | cons r m =>
      rw [rnE] at h
      obtain ⟨p1, p2⟩ := p
      obtain ⟨r1, r2⟩ := r
      cases p1 with
      | chan o => cases o with
        | some _ => rfl
        | none =>
          cases hq : rnV c t 5 (Value.chan none) r1 with
          | false => simp only [hq] at h; cases h
          | true =>
            cases r1 with
            | chan o => cases o with
              | none => cases hi
              | some _ => cases hq
            | _ => cases hq
      | _ => rfl
theorem finK_ok {I : Inst} {t : Tr Nat 17} {v : Value} {s : St} (h : finK I t v s = true) : rnV I.c t 5 v I.res = true ∧ (∀ p ∈ I.out, finR I.c t s p.1 p.2.1 p.2.2 = true) ∧ (∀ p ∈ I.kept, finR I.c t s p.1 p.1 p.2 = true) ∧ (∀ p ∈ I.outm, finM I.c t s p.1 p.2.1 p.2.2 = true) ∧ ∀ p ∈ I.mkept, finM I.c t s p.1 p.1 p.2 = true := by
  unfold finK at h
  cases h1 : rnV I.c t 5 v I.res with
  | false => rw [h1] at h; cases h
  | true =>
    rw [h1] at h
    simp only [cond_true] at h
    cases h2 : allB (fun p => finR I.c t s p.1 p.2.1 p.2.2) I.out with
    | false => rw [h2] at h; cases h
    | true =>
      rw [h2] at h
      simp only [cond_true] at h
      cases h3 : allB (fun p => finR I.c t s p.1 p.1 p.2) I.kept with
      | false => rw [h3] at h; cases h
      | true =>
        rw [h3] at h
        simp only [cond_true] at h
        cases h4 : allB (fun p => finM I.c t s p.1 p.2.1 p.2.2) I.outm with
        | false => rw [h4] at h; cases h
        | true =>
          rw [h4] at h
          exact ⟨rfl, allB_ok _ h2, allB_ok _ h3, allB_ok _ h4, allB_ok _ h⟩
/-- a call that was worked out apart, in any state that has what it needs. -/
theorem inst_ok {P : Program} {ext : FuncId → Option (List Value → St → (Value → St → Bool) → Bool)} {xt : FuncId → Option (List Value → Option Value)} (hm : P.follows .mixedOrders = true) (hxt : XtOk P xt) (hx : ExtOk P ext) {n : Nat} {I : Inst} (h : chkI (envOf P ext xt) n I = true) : InstOk P I := by
  have g := good_of P ext hxt
  have gf := goodF_of (xt := xt) hx
  unfold chkI at h
  obtain ⟨h1, h, q1⟩ := loadT_ok _ _ h
  obtain ⟨h2, h, q2⟩ := loadT_ok _ _ h
  obtain ⟨m1, h, q3⟩ := loadT_ok _ _ h
  obtain ⟨m2, h, q4⟩ := loadT_ok _ _ h
  obtain ⟨t, h, q5⟩ := loadN_ok _ _ _ h
  have hd : I.c + I.news.length = I.d := by
    cases hq : Nat.beq (I.c + I.news.length) I.d with
    | false => rw [hq] at h; cases h
    | true => exact Nat.eq_of_beq_eq_true hq
  rw [show Nat.beq (I.c + I.news.length) I.d = true by rw [hd]; exact Nat.beq_refl _] at h
  simp only [cond_true] at h
  have gr : ∀ n r, (⟨h2, ⟨m2⟩, I.c⟩ : St).get n = some r → (n, r) ∈ I.gone ∨ (n, r) ∈ I.kept := fun n r hr => by
    rcases q2 n r hr with e | e
    · exact .inl e
    · rcases q1 n r e with e | e
      · exact .inr e
      · rw [Tr.get_nil] at e; cases e
  have gm : ∀ n r, (⟨h2, ⟨m2⟩, I.c⟩ : St).gm n = some r → (n, r) ∈ I.mgone ∨ (n, r) ∈ I.mkept := fun n r hr => by
    rcases q4 n r hr with e | e
    · exact .inl e
    · rcases q3 n r e with e | e
      · exact .inr e
      · rw [Tr.get_nil] at e; cases e
  have gt : ∀ n m, Tr.get 17 t n = some m → I.c ≤ m ∧ I.news[m - I.c]? = some n := fun n m hr => by
    rcases q5 n m hr with e | e
    · exact e
    · rw [Tr.get_nil] at e; cases e
  clear q1 q2 q3 q4 q5
  obtain ⟨s1, hs1⟩ : ∃ s1 : St, s1 = ⟨h2, ⟨m2⟩, I.c⟩ := ⟨_, rfl⟩
  rw [← hs1] at h gr gm
  have hc1 : s1.c = I.c := by rw [hs1]
  clear hs1
  unfold runI at h
  cases hf : (envOf P ext xt).fn I.f with
  | none => rw [hf] at h; cases h
  | some fn =>
    rw [hf] at h
    simp only at h
    refine ⟨(gf.fn I.f fn hf).2, fun ρ s w us hR hl hH => ?_⟩
    have sr : ∀ n r, s1.get n = some r → s.get n = some r := fun n r hr => by
      rcases gr n r hr with e | e
      · exact hH.gone _ e
      · exact hH.kept _ e
    have sm : ∀ n r, s1.gm n = some r → s.gm n = some r := fun n r hr => by
      rcases gm n r hr with e | e
      · exact hH.mgone _ e
      · exact hH.mkept _ e
    have hR1 : R ρ s1 w := ⟨fun n hn => hR.dom n (by rw [hH.c]; rw [hc1] at hn; exact hn), hR.lt, fun n r hr => hR.rows n r (sr n r hr), fun n r hr => hR.maps n r (sm n r hr), fun n m es fs x y a b => hR.injm n m es fs x y (sm n es a) (sm m fs b), fun n m r q x y a b => hR.inj n m r q x y (sr n r a) (sr m q b)⟩
    have ho : ∀ k, Own ρ s1 k → Own ρ s k := by
      rintro k ⟨m, y, ⟨q, hq⟩ | ⟨q, hq⟩, hy, e⟩
      · exact ⟨m, y, .inl ⟨q, sr m q hq⟩, hy, e⟩
      · exact ⟨m, y, .inr ⟨q, sm m q hq⟩, hy, e⟩
    have ih := evJ_ok g gf hm n
    refine (body_ok g ih (draw_ok g hm ih) (gf.fn I.f fn hf).1 (bodyJ_eq h) hR1 hl).mono ?_
    rintro e w' ⟨v, u, ρ', s', rfl, hv, hR', hE, hk⟩
    obtain ⟨k1, k2, k3, k4, k5⟩ := finK_ok hk
    have hold : ∀ n, n < I.c → ρ' n = ρ n := fun n hn => hE.old n (by rw [hc1]; exact hn)
    obtain ⟨ρ2, hρ2⟩ : ∃ ρ2 : Rho, ρ2 = fun n => if n < I.c then ρ' n else (I.news[n - I.c]?).bind ρ' := ⟨_, rfl⟩
    have hlow : ∀ n, n < I.c → ρ2 n = ρ n := fun n hn => by rw [hρ2]; simp only [if_pos hn]; exact hold n hn
    have hnone : ∀ n x, ρ n = some x → n < I.c := fun n x hx => by
      rcases Nat.lt_or_ge n I.c with e | e
      · exact e
      · have := hR.dom n (by rw [hH.c]; exact e)
        rw [this] at hx; cases hx
    have hS : Sub ρ ρ2 := fun n x hx => by rw [hlow n (hnone n x hx)]; exact hx
    have H : ∀ n n' x, rnN I.c t n n' = true → ρ' n = some x → ρ2 n' = some x := fun n n' x hr hx => by
      unfold rnN at hr
      cases hq : Nat.blt n I.c with
      | true =>
        rw [hq] at hr
        obtain rfl := Nat.eq_of_beq_eq_true hr
        rw [hρ2]
        simp only [if_pos ((blt16 _ _).1 hq)]
        exact hx
      | false =>
        rw [hq] at hr
        simp only [cond_false] at hr
        cases hg : Tr.get 17 t n with
        | none => rw [hg] at hr; cases hr
        | some m =>
          rw [hg] at hr
          obtain rfl := Nat.eq_of_beq_eq_true hr
          obtain ⟨e1, e2⟩ := gt n m hg
          rw [hρ2]
          simp only [if_neg (show ¬ m < I.c by omega), e2, Option.bind_some]
          exact hx
    refine ⟨u, ρ2, rfl, rnV_vr H 5 _ _ _ k1 hv, fun s2 hP => ?_⟩
    have A : ∀ n' r, s2.get n' = some r → (∃ n q, s'.get n = some q ∧ rnN I.c t n n' = true ∧ q.elem = r.elem ∧ q.sz = r.sz ∧ eqL (rnV I.c t 5) q.cells r.cells = true) ∨ (s.get n' = some r ∧ ∀ q, s1.get n' ≠ some q) := fun n' r hr => by
      rcases hP.row n' r hr with ⟨m, hm⟩ | ⟨e1, e2, e3⟩
      · exact .inl ⟨m, finR_ok (k2 _ hm)⟩
      · by_cases hq : ∃ q, s1.get n' = some q
        · obtain ⟨q, hq⟩ := hq
          rcases gr n' q hq with e | e
          · exact absurd rfl (e2 _ e)
          · have e4 := hH.kept _ e
            simp only at e4
            rw [e3] at e4
            obtain rfl := Option.some.inj e4
            exact .inl ⟨n', finR_ok (k3 _ e)⟩
        · exact .inr ⟨e3, fun q e => hq ⟨q, e⟩⟩
    have B : ∀ n' r, s2.gm n' = some r → (∃ n q, s'.gm n = some q ∧ rnN I.c t n n' = true ∧ rnE I.c t q r = true ∧ isIt r = false) ∨ (s.gm n' = some r ∧ ∀ q, s1.gm n' ≠ some q) := fun n' r hr => by
      rcases hP.map n' r hr with ⟨m, hm⟩ | ⟨e1, e2, e3⟩
      · exact .inl ⟨m, finM_ok (k4 _ hm)⟩
      · by_cases hq : ∃ q, s1.gm n' = some q
        · obtain ⟨q, hq⟩ := hq
          rcases gm n' q hq with e | e
          · exact absurd rfl (e2 _ e)
          · have e4 := hH.mkept _ e
            simp only at e4
            rw [e3] at e4
            obtain rfl := Option.some.inj e4
            exact .inl ⟨n', finM_ok (k5 _ e)⟩
        · exact .inr ⟨e3, fun q e => hq ⟨q, e⟩⟩
    have C : ∀ n' r x, s.get n' = some r → (∀ q, s1.get n' ≠ some q) → ρ n' = some x → ¬ Own ρ s1 x.1 := by
      rintro n' r x hr hno hx ⟨m, y, ⟨q, hq⟩ | ⟨q, hq⟩, hy, e⟩
      · obtain rfl := hR.inj m n' q r y x (sr m q hq) hr hy hx e
        exact hno q hq
      · obtain ⟨y', p1, p2⟩ := hR.maps m q (sm m q hq)
        obtain ⟨x', cs', o1, o2, _⟩ := hR.rows n' r hr
        rw [hy] at p1
        rw [hx] at o1
        obtain rfl := Option.some.inj p1
        obtain rfl := Option.some.inj o1
        rw [e] at p2
        exact p2.no o2
    have D : ∀ n' r x, s.gm n' = some r → (∀ q, s1.gm n' ≠ some q) → ρ n' = some x → ¬ Own ρ s1 x.1 := by
      rintro n' r x hr hno hx ⟨m, y, ⟨q, hq⟩ | ⟨q, hq⟩, hy, e⟩
      · obtain ⟨y', cs, p1, p2, _⟩ := hR.rows m q (sr m q hq)
        obtain ⟨x', o1, o2⟩ := hR.maps n' r hr
        rw [hy] at p1
        rw [hx] at o1
        obtain rfl := Option.some.inj p1
        obtain rfl := Option.some.inj o1
        rw [e] at p2
        exact o2.no p2
      · obtain rfl := hR.injm m n' q r y x (sm m q hq) hr hy hx e
        exact hno q hq
    -- what a row of the call's own is
    have A1 : ∀ n n' q, s'.get n = some q → rnN I.c t n n' = true → ∃ x, ρ' n = some x ∧ ρ2 n' = some x ∧ Own ρ' s' x.1 := fun n n' q hq hn => by
      obtain ⟨x, _, p1, _⟩ := hR'.rows n q hq
      exact ⟨x, p1, H n n' x hn p1, n, x, .inl ⟨q, hq⟩, p1, rfl⟩
    have B1 : ∀ n n' q, s'.gm n = some q → rnN I.c t n n' = true → ∃ x, ρ' n = some x ∧ ρ2 n' = some x ∧ Own ρ' s' x.1 := fun n n' q hq hn => by
      obtain ⟨x, p1, _⟩ := hR'.maps n q hq
      exact ⟨x, p1, H n n' x hn p1, n, x, .inr ⟨q, hq⟩, p1, rfl⟩
    have A2 : ∀ n' r x, s.get n' = some r → ρ2 n' = some x → ρ n' = some x := fun n' r x hr hx => by
      obtain ⟨y, _, p1, _⟩ := hR.rows n' r hr
      rw [hlow n' (hnone n' y p1)] at hx
      exact hx
    have B2 : ∀ n' r x, s.gm n' = some r → ρ2 n' = some x → ρ n' = some x := fun n' r x hr hx => by
      obtain ⟨y, p1, _⟩ := hR.maps n' r hr
      rw [hlow n' (hnone n' y p1)] at hx
      exact hx
    have far : ∀ x y : Nat × Nat × Nat, Own ρ' s' x.1 → ¬ Own ρ s1 y.1 → y.1 < w.heap.size → x.1 ≠ y.1 := fun x y a b c e => by
      rcases hE.own _ a with a | a
      · rw [e] at a; exact b a
      · omega
    refine ⟨⟨fun n hn => ?_, fun n x hx => ?_, fun n r hr => ?_, fun n es hr => ?_, fun n m es fs x y g1 g2 g3 g4 g5 => ?_, fun n m r q x y g1 g2 g3 g4 g5 => ?_⟩, ⟨?_, hS, hE.size, hE.os, hE.tape, hE.output, fun k hk hn => hE.frame k hk (fun e => hn (ho k e)), ?_, fun n hn => hlow n (by rw [← hH.c]; exact hn), hE.mp⟩⟩
    · have := hP.c
      rw [hρ2]
      simp only [if_neg (show ¬ n < I.c by omega)]
      rw [List.getElem?_eq_none (by omega)]
      rfl
    · by_cases e : n < I.c
      · rw [hlow n e, ← hold n e] at hx
        exact hR'.lt n x hx
      · rw [hρ2] at hx
        simp only [if_neg e] at hx
        obtain ⟨m, _, hm⟩ := Option.bind_eq_some_iff.1 hx
        exact hR'.lt m x hm
    · rcases A n r hr with ⟨m, q, a1, a2, a3, a4, a5⟩ | ⟨a1, a2⟩
      · obtain ⟨x, c, p1, p2, p3, p4, p5, p6, p7, p8⟩ := hR'.rows m q a1
        have hlen := rn_len _ _ a5
        refine ⟨x, c, H m n x a2 p1, by rw [← a3]; exact p2, p3, by rw [← hlen]; exact p4, ?_, rn_ones _ _ a5 p6, by rw [← a4]; exact p7, fun e => by rw [← hlen]; exact p8 (by rw [a4]; exact e)⟩
        rw [← hlen]
        exact rn_list (rnV_vr H 5) _ _ _ a5 p5
      · obtain ⟨x, c, p1, p2, p3, p4, p5, p6⟩ := hR.rows n r a1
        exact ⟨x, c, hS n x p1, (hE.frame x.1 (hR.lt n x p1) (C n r x a1 a2 p1)).trans p2, p3, p4, p5.mono hS, p6⟩
    · rcases B n es hr with ⟨m, q, a1, a2, a3, a4⟩ | ⟨a1, a2⟩
      · obtain ⟨x, p1, pM⟩ := hR'.maps m q a1
        obtain ⟨cs, cl, p2, p3, p4⟩ := notIt pM (rn_isIt a3 a4)
        obtain ⟨e1, e2⟩ := rnE_ok H _ _ a3
        refine ⟨x, H m n x a2 p1, .inl ⟨cs, cl, p2, ⟨by rw [← e1]; exact p3.1, p3.2.1, a4⟩, fun i kv hi => ?_⟩⟩
        obtain ⟨kv0, f1, f2⟩ := e2 i kv hi
        obtain ⟨e, f3, f4, f5⟩ := p4 i kv0 f1
        exact ⟨e, f3, f2 _ _ f4 f5⟩
      · obtain ⟨x, p1, pM⟩ := hR.maps n es a1
        have hfr := hE.frame x.1 (hR.lt n x p1) (D n es x a1 a2 p1)
        refine ⟨x, hS n x p1, ?_⟩
        rcases pM with ⟨cs, cl, p2, p3, p4⟩ | ⟨t0, n0, cur0, left0, e0, hI⟩
        · exact .inl ⟨cs, cl, hfr.trans p2, p3, fun i kv hi => let ⟨e, f1, f2, f3⟩ := p4 i kv hi; ⟨e, f1, f2.mono hS, f3.mono hS⟩⟩
        · refine .inr ⟨t0, n0, cur0, left0, e0, ?_⟩
          cases t0 with
          | none =>
            obtain ⟨p, q, r, hI⟩ := hI
            exact ⟨p, q, r, hfr.trans hI⟩
          | some m0 =>
            obtain ⟨v, c0, cl0, si, se, la, i1, i2, i3, i4, i5⟩ := hI
            obtain ⟨c1, l1, j1, j2⟩ := hE.mp v.1 c0 cl0 i2
            exact ⟨v, c1, l1, si, se, la, hS _ _ i1, j1, j2.ok i3, hfr.trans i4, i5.step j2⟩
    · rcases B n es g1 with ⟨a, qa, a1, a2, _, _⟩ | ⟨a1, a2⟩ <;> rcases B m fs g2 with ⟨b, qb, b1, b2, _, _⟩ | ⟨b1, b2⟩
      · obtain ⟨x', c1, c2, _⟩ := B1 a n qa a1 a2
        obtain ⟨y', d1, d2, _⟩ := B1 b m qb b1 b2
        rw [c2] at g3
        rw [d2] at g4
        obtain rfl := Option.some.inj g3
        obtain rfl := Option.some.inj g4
        obtain rfl := hR'.injm a b qa qb _ _ a1 b1 c1 d1 g5
        exact rnN_fun a2 b2
      · obtain ⟨x', c1, c2, c3⟩ := B1 a n qa a1 a2
        rw [c2] at g3
        obtain rfl := Option.some.inj g3
        have d1 := B2 m fs y b1 g4
        exact absurd g5 (far _ _ c3 (D m fs y b1 b2 d1) (hR.lt m y d1))
      · obtain ⟨y', c1, c2, c3⟩ := B1 b m qb b1 b2
        rw [c2] at g4
        obtain rfl := Option.some.inj g4
        have d1 := B2 n es x a1 g3
        exact absurd g5.symm (far _ _ c3 (D n es x a1 a2 d1) (hR.lt n x d1))
      · exact hR.injm n m es fs x y a1 b1 (B2 n es x a1 g3) (B2 m fs y b1 g4) g5
    · rcases A n r g1 with ⟨a, qa, a1, a2, _⟩ | ⟨a1, a2⟩ <;> rcases A m q g2 with ⟨b, qb, b1, b2, _⟩ | ⟨b1, b2⟩
      · obtain ⟨x', c1, c2, _⟩ := A1 a n qa a1 a2
        obtain ⟨y', d1, d2, _⟩ := A1 b m qb b1 b2
        rw [c2] at g3
        rw [d2] at g4
        obtain rfl := Option.some.inj g3
        obtain rfl := Option.some.inj g4
        obtain rfl := hR'.inj a b qa qb _ _ a1 b1 c1 d1 g5
        exact rnN_fun a2 b2
      · obtain ⟨x', c1, c2, c3⟩ := A1 a n qa a1 a2
        rw [c2] at g3
        obtain rfl := Option.some.inj g3
        have d1 := A2 m q y b1 g4
        exact absurd g5 (far _ _ c3 (C m q y b1 b2 d1) (hR.lt m y d1))
      · obtain ⟨y', c1, c2, c3⟩ := A1 b m qb b1 b2
        rw [c2] at g4
        obtain rfl := Option.some.inj g4
        have d1 := A2 n r x a1 g3
        exact absurd g5.symm (far _ _ c3 (C n r x a1 a2 d1) (hR.lt n x d1))
      · exact hR.inj n m r q x y a1 b1 (A2 n r x a1 g3) (A2 m q y b1 g4) g5
    · have := hP.c
      rw [hH.c]; omega
    · rintro k ⟨n, x, ⟨r, hr⟩ | ⟨r, hr⟩, hx, rfl⟩
      · rcases A n r hr with ⟨a, qa, a1, a2, _⟩ | ⟨a1, a2⟩
        · obtain ⟨x', c1, c2, c3⟩ := A1 a n qa a1 a2
          rw [c2] at hx
          obtain rfl := Option.some.inj hx
          exact (hE.own _ c3).imp (ho _) id
        · exact .inl ⟨n, x, .inl ⟨r, a1⟩, A2 n r x a1 hx, rfl⟩
      · rcases B n r hr with ⟨a, qa, a1, a2, _⟩ | ⟨a1, a2⟩
        · obtain ⟨x', c1, c2, c3⟩ := B1 a n qa a1 a2
          rw [c2] at hx
          obtain rfl := Option.some.inj hx
          exact (hE.own _ c3).imp (ho _) id
        · exact .inl ⟨n, x, .inr ⟨r, a1⟩, B2 n r x a1 hx, rfl⟩
/- the table of such calls. -/
def eqRow (r q : Row) : Bool := cond (Nat.beq r.elem q.elem) (cond (Nat.beq r.sz q.sz) (eqL eqF r.cells q.cells) false) false
def eqEs : List (Value × Value) → List (Value × Value) → Bool
  | [], [] => true
  | a :: x, b :: y => cond (eqF a.1 b.1) (cond (eqF a.2 b.2) (eqEs x y) false) false
  | _, _ => false
def hasR (s : St) : List (Nat × Row) → Bool
  | [] => true
  | p :: l => match s.get p.1 with
    | some r => cond (eqRow r p.2) (hasR s l) false
    | none => false
def hasM (s : St) : List (Nat × List (Value × Value)) → Bool
  | [] => true
  | p :: l => match s.gm p.1 with
    | some r => cond (eqEs r p.2) (hasM s l) false
    | none => false
def mtI (I : Inst) (args : List Value) (s : St) : Bool := cond (Nat.beq I.c s.c) (cond (eqL eqF I.args args) (cond (hasR s I.kept) (cond (hasR s I.gone) (cond (hasM s I.mkept) (hasM s I.mgone) false) false) false) false) false
def putI (I : Inst) (s : St) (k : K2) : Bool := killT I.gone s.h fun h => loadO I.out h fun h => killT I.mgone s.m.t fun m => loadO I.outm m fun m => k I.res ⟨h, ⟨m⟩, I.d⟩
def dispI : List Inst → List Value → St → K2 → Bool
  | [], _, _, _ => false
  | I :: l, args, s, k => cond (mtI I args s) (putI I s k) (dispI l args s k)
def extI (base : FuncId → Option (List Value → St → K2 → Bool)) (l : List Inst) (f : FuncId) : Option (List Value → St → K2 → Bool) := match base f with
  | some g => some g
  | none => match l.filter fun I => Nat.beq I.f f with
    | [] => none
    | I :: r => some (dispI (I :: r))
theorem eqF_ok {v u : Value} (h : eqF v u = true) : v = u := eqVal_eq 5 v u (by rw [← eqF_eq]; exact h)
theorem eqRow_ok {r q : Row} (h : eqRow r q = true) : r = q := by
  unfold eqRow at h
  cases h1 : Nat.beq r.elem q.elem with
  | false => rw [h1] at h; cases h
  | true =>
    rw [h1] at h
    cases h2 : Nat.beq r.sz q.sz with
    | false => rw [h2] at h; cases h
    | true =>
      rw [h2] at h
      have h3 := eqL_eq (fun v u => eqF_ok) _ _ h
      have e1 := Nat.eq_of_beq_eq_true h1
      have e2 := Nat.eq_of_beq_eq_true h2
      cases r; cases q
      simp only at h3 e1 e2
      subst h3 e1 e2
      rfl
theorem eqEs_ok : ∀ (x y : List (Value × Value)), eqEs x y = true → x = y
  | [], [], _ => rfl
  | [], _ :: _, h => by cases h
  | _ :: _, [], h => by cases h
  | a :: x, b :: y, h => by
    rw [eqEs] at h
    cases h1 : eqF a.1 b.1 with
    | false => rw [h1] at h; cases h
    | true =>
      rw [h1] at h
      cases h2 : eqF a.2 b.2 with
      | false => rw [h2] at h; cases h
      | true =>
        rw [h2] at h
        rw [eqEs_ok x y h, show a = b from Prod.ext (eqF_ok h1) (eqF_ok h2)]
theorem hasR_ok {s : St} : ∀ (l : List (Nat × Row)), hasR s l = true → ∀ p ∈ l, s.get p.1 = some p.2
  | [], _, p, hp => by cases hp
  | q :: l, h, p, hp => by
    rw [hasR] at h
    split at h
    · rename_i r hr
      cases h1 : eqRow r q.2 with
      | false => rw [h1] at h; cases h
      | true =>
        rw [h1] at h
        rcases List.mem_cons.1 hp with rfl | hp
        · rw [hr, eqRow_ok h1]
        · exact hasR_ok l h p hp
    · cases h
theorem hasM_ok {s : St} : ∀ (l : List (Nat × List (Value × Value))), hasM s l = true → ∀ p ∈ l, s.gm p.1 = some p.2
  | [], _, p, hp => by cases hp
  | q :: l, h, p, hp => by
    rw [hasM] at h
    split at h
    · rename_i r hr
      cases h1 : eqEs r q.2 with
      | false => rw [h1] at h; cases h
      | true =>
        rw [h1] at h
        rcases List.mem_cons.1 hp with rfl | hp
        · rw [hr, eqEs_ok _ _ h1]
        · exact hasM_ok l h p hp
    · cases h
theorem mtI_ok {I : Inst} {args : List Value} {s : St} (h : mtI I args s = true) : I.args = args ∧ Has I s := by
  unfold mtI at h
  cases h1 : Nat.beq I.c s.c with
  | false => rw [h1] at h; cases h
  | true =>
    rw [h1] at h
    simp only [cond_true] at h
    cases h2 : eqL eqF I.args args with
    | false => rw [h2] at h; cases h
    | true =>
      rw [h2] at h
      simp only [cond_true] at h
      cases h3 : hasR s I.kept with
      | false => rw [h3] at h; cases h
      | true =>
        rw [h3] at h
        simp only [cond_true] at h
        cases h4 : hasR s I.gone with
        | false => rw [h4] at h; cases h
        | true =>
          rw [h4] at h
          simp only [cond_true] at h
          cases h5 : hasM s I.mkept with
          | false => rw [h5] at h; cases h
          | true =>
            rw [h5] at h
            exact ⟨eqL_eq (fun v u => eqF_ok) _ _ h2, (Nat.eq_of_beq_eq_true h1).symm, hasR_ok _ h3, hasR_ok _ h4, hasM_ok _ h5, hasM_ok _ h⟩
theorem putI_ok {I : Inst} {s : St} {k : K2} (h : putI I s k = true) : ∃ s', k I.res s' = true ∧ Put I s s' := by
  unfold putI at h
  obtain ⟨h1, h, q1⟩ := killT_ok _ _ h
  obtain ⟨h2, h, q2⟩ := loadO_ok _ _ h
  obtain ⟨m1, h, q3⟩ := killT_ok _ _ h
  obtain ⟨m2, h, q4⟩ := loadO_ok _ _ h
  refine ⟨_, h, rfl, fun n r hr => ?_, fun n r hr => ?_⟩
  · rcases q2 n r hr with e | ⟨e1, e2⟩
    · exact .inl e
    · exact .inr ⟨e1, q1 n r e2⟩
  · rcases q4 n r hr with e | ⟨e1, e2⟩
    · exact .inl e
    · exact .inr ⟨e1, q3 n r e2⟩
theorem dispI_ok {P : Program} {f : FuncId} : ∀ (l : List Inst), (∀ I ∈ l, InstOk P I ∧ I.f = f) → CallOk P (fun f' args s k => cond (Nat.beq f' f) (dispI l args s k) false)
  | [], _ => fun f' args s k hk => by
    cases hq : Nat.beq f' f with
    | false => simp only [hq] at hk; cases hk
    | true => simp only [hq, cond_true] at hk; cases hk
  | I :: l, hl => fun f' args s k hk => by
    cases hq : Nat.beq f' f with
    | false => simp only [hq] at hk; cases hk
    | true =>
      simp only [hq, cond_true, dispI] at hk
      cases hm : mtI I args s with
      | true =>
        rw [hm] at hk
        obtain rfl := Nat.eq_of_beq_eq_true hq
        obtain ⟨hI, rfl⟩ := hl I (List.mem_cons_self ..)
        obtain ⟨rfl, hH⟩ := mtI_ok hm
        obtain ⟨s', hk', hP⟩ := putI_ok hk
        refine ⟨hI.1, fun ρ w us hR hl => (hI.2 ρ s w us hR hl hH).mono ?_⟩
        rintro e w' ⟨u, ρ', rfl, hv, hs⟩
        obtain ⟨r1, r2⟩ := hs s' hP
        exact ⟨_, u, ρ', s', rfl, hv, r1, r2, hk'⟩
      | false =>
        rw [hm] at hk
        exact dispI_ok l (fun J hJ => hl J (List.mem_cons_of_mem _ hJ)) f' args s k (by simp only [hq, cond_true]; exact hk)
theorem extI_ok {P : Program} {base : FuncId → Option (List Value → St → K2 → Bool)} (hb : ExtOk P base) {l : List Inst} (hl : ∀ I ∈ l, InstOk P I) : ExtOk P (extI base l) := fun f g h => by
  unfold extI at h
  split at h
  · rename_i g' hg
    obtain rfl := Option.some.inj h
    exact hb f _ hg
  · split at h
    · cases h
    · rename_i I r hf
      obtain rfl := Option.some.inj h
      refine dispI_ok (I :: r) fun J hJ => ?_
      rw [← hf] at hJ
      obtain ⟨h1, h2⟩ := List.mem_filter.1 hJ
      exact ⟨hl J h1, Nat.eq_of_beq_eq_true h2⟩
theorem insts_nil (P : Program) : ∀ I ∈ ([] : List Inst), InstOk P I := fun I h => by cases h
theorem insts_cons {P : Program} {I : Inst} {l : List Inst} (h : InstOk P I) (hl : ∀ I ∈ l, InstOk P I) : ∀ J ∈ I :: l, InstOk P J := fun J hJ => by
  rcases List.mem_cons.1 hJ with rfl | hJ
  · exact h
  · exact hl J hJ
/- short words for what a row holds. -/
abbrev vt : Value := .bool true
abbrev vf : Value := .bool false
abbrev vi (n : Nat) : Value := .int .i64 (.ofNat n)
abbrev vs (l : List Nat) : Value := .string ⟨⟨l.map UInt8.ofNat⟩⟩
abbrev vu (l : List Value) : Value := .tuple ⟨l⟩
abbrev va (l : List Value) : Value := .agg ⟨l⟩
abbrev vz : Value := .slice none 0 0
abbrev vl (b o n c : Nat) : Value := .slice (some ⟨b, o, none⟩) n c
abbrev vn : Value := .pointer none
abbrev vp (b o : Nat) : Value := .pointer (some ⟨b, o, none⟩)
abbrev vy : Value := .nilIface
end Go.Proofs.YtllahinoomahnaaGreatDoor.Am
