import Derived.Test.YtcajhnedmbhnfaaGreatDoorAmFi
import Derived.Test.YtcajhnedmbhnfaaGreatDoorAmUa
set_option linter.unusedSimpArgs false
namespace Go.Proofs.YtcajhnedmbhnfaaGreatDoor.Am
open Go Go.RowKit
/- a long loop, worked out some rounds at a time: between two parts a frame (where nothing is known of a slot, junk), the rows and maps that are wanted, and the next name. -/
structure Pt where
  t : List Value
  rows : List (Nat × Row)
  maps : List (Nat × List (Value × Value))
  c : Nat
def rndK (body : KT → KT) : Nat → KT → KT
  | 0, k, t, s => k t s
  | n + 1, k, t, s => body (fun t s => rndK body n k t s) t s
def lsV (v u : Value) : Bool := match v with
  | .chan none => true
  | v => eqF v u
def lsL : List Value → List Value → Bool
  | [], [] => true
  | v :: x, u :: y => cond (lsV v u) (lsL x y) false
  | _, _ => false
def atPt (p : Pt) (t : List Value) (s : St) : Bool := cond (lsL p.t t) (cond (Nat.ble s.c p.c && !s.m.it) (cond (hasR s p.rows) (hasM s p.maps) false) false) false
/-- a state that holds no more than the point says. -/
structure OfPt (p : Pt) (s : St) : Prop where
  c : s.c = p.c
  it : s.m.it = false
  rows : ∀ n r, s.get n = some r → (n, r) ∈ p.rows
  maps : ∀ n es, s.gm n = some es → (n, es) ∈ p.maps
def PtR (ρ : Rho) (p : Pt) (w : World) (a : Act) : Prop := TR ρ p.t a ∧ ∀ s, OfPt p s → R ρ s w
theorem lsL_ok {ρ : Rho} : ∀ {x y us : List Value}, lsL x y = true → L2 ρ y us → L2 ρ x us
  | [], [], us, _, h => h
  | [], _ :: _, _, h, _ => by cases h
  | _ :: _, [], _, h, _ => by cases h
  | v :: x, u :: y, us, h, hl => by
    obtain ⟨z, zs, rfl, h1, h2⟩ := hl.inv
    rw [lsL] at h
    cases hq : lsV v u with
    | false => rw [hq] at h; cases h
    | true =>
      rw [hq] at h
      refine (lsL_ok (h : lsL x y = true) h2).cons ?_
      unfold lsV at hq
      split at hq
      · rw [VR]; trivial
      · rw [eqF_ok hq]; exact h1
theorem atPt_ok {p : Pt} {t : List Value} {s : St} (h : atPt p t s = true) : lsL p.t t = true ∧ s.c ≤ p.c ∧ s.m.it = false ∧ (∀ x ∈ p.rows, s.get x.1 = some x.2) ∧ ∀ x ∈ p.maps, s.gm x.1 = some x.2 := by
  unfold atPt at h
  cases h1 : lsL p.t t with
  | false => rw [h1] at h; cases h
  | true =>
    rw [h1] at h
    simp only [cond_true] at h
    cases h2 : (Nat.ble s.c p.c && !s.m.it) with
    | false => rw [h2] at h; cases h
    | true =>
      rw [h2] at h
      simp only [cond_true] at h
      simp only [Bool.and_eq_true, Bool.not_eq_true'] at h2
      cases h3 : hasR s p.rows with
      | false => rw [h3] at h; cases h
      | true =>
        rw [h3] at h
        exact ⟨rfl, Nat.le_of_ble_eq_true h2.1, h2.2, fun x hx => hasR_ok _ h3 x hx, fun x hx => hasM_ok _ h x hx⟩
theorem R.fewer {ρ : Rho} {s s2 : St} {w : World} (hR : R ρ s w) (hc : s.c ≤ s2.c) (hg : ∀ n r, s2.get n = some r → s.get n = some r) (hm : ∀ n es, s2.gm n = some es → s.gm n = some es) (hi : s.m.it = false) : R ρ s2 w :=
  ⟨fun n h => hR.dom n (Nat.le_trans hc h), hR.lt, fun n r h => hR.rows n r (hg n r h), fun n es h => hR.maps n es (hm n es h), fun n m es fs x y h1 h2 => hR.injm n m es fs x y (hm n es h1) (hm m fs h2), fun n m r q x y h1 h2 => hR.inj n m r q x y (hg n r h1) (hg m q h2), hR.gl, hR.lo, fun _ n es he => hR.it hi n es (hm n es he)⟩
theorem Own.fewer {ρ : Rho} {s s2 : St} {k : Nat} (hg : ∀ n r, s2.get n = some r → s.get n = some r) (hm : ∀ n es, s2.gm n = some es → s.gm n = some es) (h : Own ρ s2 k) : Own ρ s k := by
  obtain ⟨n, x, h1, h2⟩ := h
  refine ⟨n, x, ?_, h2⟩
  rcases h1 with ⟨r, h1⟩ | ⟨es, h1⟩
  · exact .inl ⟨r, hg n r h1⟩
  · exact .inr ⟨es, hm n es h1⟩
theorem Ext.fewer {ρ ρ' : Rho} {s s' s2 : St} {w w' : World} (h : Ext ρ s w ρ' s' w') (hc : s'.c ≤ s2.c) (hg : ∀ n r, s2.get n = some r → s'.get n = some r) (hm : ∀ n es, s2.gm n = some es → s'.gm n = some es) : Ext ρ s w ρ' s2 w' :=
  ⟨Nat.le_trans h.le hc, h.sub, h.size, h.os, h.tape, h.output, h.frame, fun k hk => h.own k (Own.fewer hg hm hk), h.old⟩
theorem Ext.begins {ρ ρ' : Rho} {s s0 s' : St} {w w' : World} (h : Ext ρ s0 w ρ' s' w') (hc : s.c ≤ s0.c) (hg : ∀ n r, s0.get n = some r → s.get n = some r) (hm : ∀ n es, s0.gm n = some es → s.gm n = some es) : Ext ρ s w ρ' s' w' :=
  ⟨Nat.le_trans hc h.le, h.sub, h.size, h.os, h.tape, h.output, fun k hk ho => h.frame k hk fun h' => ho (Own.fewer hg hm h'), fun k hk => (h.own k hk).imp (Own.fewer hg hm) id, fun n hn => h.old n (Nat.lt_of_lt_of_le hn hc)⟩
theorem pt_of {ρ : Rho} {p : Pt} {t : List Value} {s : St} {w : World} {a : Act} (h : atPt p t s = true) (hR : R ρ s w) (hT : TR ρ t a) : PtR ρ p w a := by
  obtain ⟨h1, h2, h3, h4, h5⟩ := atPt_ok h
  exact ⟨⟨lsL_ok h1 hT.vals, hT.defers⟩, fun s2 o => hR.fewer (by rw [o.c]; exact h2) (fun n r hr => h4 _ (o.rows n r hr)) (fun n es he => h5 _ (o.maps n es he)) h3⟩
/-- a point's own state. -/
def ptK (p : Pt) (k : St → Bool) : Bool := loadT p.rows (Tr.nil 17) fun h => loadT p.maps (Tr.nil 17) fun m => k ⟨h, ⟨m, false⟩, p.c⟩
theorem ptK_ok {p : Pt} {k : St → Bool} (h : ptK p k = true) : ∃ s, OfPt p s ∧ k s = true := by
  unfold ptK at h
  obtain ⟨h1, h, q1⟩ := loadT_ok _ _ h
  obtain ⟨m1, h, q2⟩ := loadT_ok _ _ h
  refine ⟨_, ⟨rfl, rfl, fun n r hr => ?_, fun n es he => ?_⟩, h⟩
  · rcases q1 n r hr with e | e
    · exact e
    · rw [Tr.get_nil] at e; cases e
  · rcases q2 n es he with e | e
    · exact e
    · rw [Tr.get_nil] at e; cases e
def noE : Nat → KT := fun _ _ _ => false
def noR : KT := fun _ _ => false
section
variable {P : Program}
/-- from one point at a loop's head to another. -/
def Link (P : Program) (c : Code) (p q : Pt) : Prop := ∃ s, OfPt p s ∧ ∀ ρ w a, PtR ρ p w a → ∀ (b : Frame) (kk : List Item) (cs : List Frame), ∃ ρ' a' w', PtR ρ' q w' a' ∧ (∀ s', OfPt q s' → Ext ρ s w ρ' s' w') ∧ Steps P (lone (b.at a (.code c :: .inLoop c :: kk)) cs w) (lone (b.at a' (.code c :: .inLoop c :: kk)) cs w')
theorem Link.trans {c : Code} {p q r : Pt} (h1 : Link P c p q) (h2 : Link P c q r) : Link P c p r := by
  obtain ⟨s1, o1, h1⟩ := h1
  obtain ⟨s2, o2, h2⟩ := h2
  refine ⟨s1, o1, fun ρ w a hp b kk cs => ?_⟩
  obtain ⟨ρ1, a1, w1, p1, x1, e1⟩ := h1 ρ w a hp b kk cs
  obtain ⟨ρ2, a2, w2, p2, x2, e2⟩ := h2 ρ1 w1 a1 p1 b kk cs
  exact ⟨ρ2, a2, w2, p2, fun s' o' => (x1 s2 o2).trans (x2 s' o'), e1.trans e2⟩
theorem rnd_ok {c : Code} {body : KT → KT} {ρ0 : Rho} {s0 : St} {w0 : World} {k : KT} (hb : ∀ (k : KT) (t : List Value) (s : St), body k t s = true → ∀ ρ w a, R ρ s w → TR ρ t a → c.wp P (Po ρ s w k noE noR) a w) :
    ∀ (m : Nat) (t : List Value) (s : St) (ρ : Rho) (w : World) (a : Act), rndK body m k t s = true → R ρ s w → TR ρ t a → Ext ρ0 s0 w0 ρ s w → ∀ (b : Frame) (kk : List Item) (cs : List Frame), ∃ ρ' s' t' a' w', R ρ' s' w' ∧ TR ρ' t' a' ∧ Ext ρ0 s0 w0 ρ' s' w' ∧ k t' s' = true ∧ Steps P (lone (b.at a (.code c :: .inLoop c :: kk)) cs w) (lone (b.at a' (.code c :: .inLoop c :: kk)) cs w')
  | 0, t, s, ρ, w, a, h, hR, hT, hX, b, kk, cs => ⟨ρ, s, t, a, w, hR, hT, hX, h, .refl P _⟩
  | m + 1, t, s, ρ, w, a, h, hR, hT, hX, b, kk, cs => by
    rw [rndK] at h
    obtain ⟨e, a1, w1, hq, harr⟩ := hb _ t s h ρ w a hR hT b (.inLoop c :: kk) cs
    obtain ⟨ρ', s', t', q1, q2, q3, q4⟩ := hq
    cases e with
    | normal =>
      obtain ⟨ρ2, s2, t2, a2, w2, r1, r2, r3, r4, r5⟩ := rnd_ok hb m t' s' ρ' w1 a1 q4 q1 q2 (hX.trans q3) b kk cs
      exact ⟨ρ2, s2, t2, a2, w2, r1, r2, r3, r4, (Steps.trans harr (.one step_inLoop)).trans r5⟩
    | exit i => cases q4
    | ret => cases q4
    | goto l => exact q4.elim
    | panic ch => exact q4.elim
    | outgrown => exact q4.elim
/-- so many rounds from one point to the next. -/
def segK (body : KT → KT) (p q : Pt) (m : Nat) : Bool := ptK p fun s => rndK body m (atPt q) p.t s
theorem seg_ok {E : Env} {call : CallK} {draw : DrawK} (g : Good P E) (hC : CallOk P call) (hD : DrawOk P draw) {c : Code} {p q : Pt} {m : Nat} (h : segK (evCodeK E call draw noR c noE) p q m = true) : Link P c p q := by
  obtain ⟨s, o, h⟩ := ptK_ok h
  refine ⟨s, o, fun ρ w a hp b kk cs => ?_⟩
  obtain ⟨ρ', s', t', a', w', r1, r2, r3, r4, r5⟩ := rnd_ok (c := c) (fun k t s h ρ w a hR hT => code_ok g hC hD c noE k t s h ρ w a hR hT) m p.t s ρ w a h (hp.2 s o) hp.1 (Ext.refl _ _ _) b kk cs
  obtain ⟨h1, h2, h3, h4, h5⟩ := atPt_ok r4
  exact ⟨ρ', a', w', pt_of r4 r1 r2, fun s2 o2 => r3.fewer (by rw [o2.c]; exact h2) (fun n r hr => h4 _ (o2.rows n r hr)) (fun n es he => h5 _ (o2.maps n es he)), r5⟩
/-- the whole loop: from its first point to its last, then as it stands. -/
def segA (E : Env) (call : CallK) (draw : DrawK) (c : Code) (id : Nat) (p q : Pt) (k : KT) (t : List Value) (s : St) : Bool := cond (atPt p t s) (ptK q fun s => loopK (evCodeK E call draw noR c (exitK id k noE)) 100000 q.t s) false
theorem segA_ok {E : Env} {call : CallK} {draw : DrawK} (g : Good P E) (hC : CallOk P call) (hD : DrawOk P draw) {c : Code} {id : Nat} {p q : Pt} (hl : Link P c p q) (kr : KT) : AccOk P kr (segA E call draw c id p q) (.block id (.loop c)) := by
  intro ke k t s h ρ w a hR hT
  unfold segA at h
  cases hp : atPt p t s with
  | false => rw [hp] at h; cases h
  | true =>
  rw [hp] at h
  simp only [cond_true] at h
  obtain ⟨s2, o2, h⟩ := ptK_ok h
  obtain ⟨s1, o1, hl⟩ := hl
  have hP := pt_of hp hR hT
  obtain ⟨_, p2, p3, p4, p5⟩ := atPt_ok hp
  refine wp_block (wp_mono (Q := Po ρ s w k (exitK id k noE) noR) (wp_unroll fun b kk cs => ?_) ?_)
  · obtain ⟨ρ', a', w', e1, e2, e3⟩ := hl ρ w a hP b kk cs
    have hx : Ext ρ s w ρ' s2 w' := (e2 s2 o2).begins (by rw [o1.c]; exact p2) (fun n r hr => p4 _ (o1.rows n r hr)) (fun n es he => p5 _ (o1.maps n es he))
    obtain ⟨e, a2, w2, hq, harr⟩ := loop_ok (P := P) (k0 := k) (body := evCodeK E call draw noR c (exitK id k noE)) (fun k t s h ρ w a hR hT => code_ok g hC hD c _ k t s h ρ w a hR hT) 100000 q.t s2 ρ' w' a' h (e1.2 s2 o2) e1.1 hx b kk cs
    exact ⟨e, a2, w2, hq, .of_steps e3 harr⟩
  · rintro e a1 w1 ⟨ρ', s', t', q1, q2, q3, q4⟩
    cases e with
    | normal => exact ⟨ρ', s', t', q1, q2, q3, q4⟩
    | exit i =>
      simp only [Exit.inBlock]
      simp only [exitK, noE] at q4
      by_cases hi : i = id
      · rw [if_pos hi]
        rw [hi, show Nat.beq id id = true from Nat.beq_refl id] at q4
        exact ⟨ρ', s', t', q1, q2, q3, q4⟩
      · have : Nat.beq i id = false := by
          rcases hb : Nat.beq i id with _ | _
          · rfl
          · exact absurd (Nat.eq_of_beq_eq_true hb) hi
        rw [this] at q4
        cases q4
    | ret => cases q4
    | goto l => exact q4.elim
    | panic ch => exact q4.elim
    | outgrown => exact q4.elim
end
end Go.Proofs.YtcajhnedmbhnfaaGreatDoor.Am
