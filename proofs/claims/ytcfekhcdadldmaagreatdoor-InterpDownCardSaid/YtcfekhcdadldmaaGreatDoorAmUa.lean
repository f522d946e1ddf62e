import Derived.Test.YtcfekhcdadldmaaGreatDoorAmWd
set_option linter.unusedSimpArgs false
namespace Go.Proofs.YtcfekhcdadldmaaGreatDoor.Am
open Go Go.RowKit
/- a call that is worked out apart: what it is called with, the rows and maps that it needs, what it answers and leaves. -/
structure Inst where
  f : FuncId
  args : List Value
  c : Nat
  kept : List (Nat × Row)
  gone : List (Nat × Row)
  mkept : List (Nat × List (Value × Value))
  mgone : List (Nat × List (Value × Value))
  res : Value
  d : Nat
  news : List Nat
  out : List (Nat × Nat × Row)
  outm : List (Nat × Nat × List (Value × Value))
def loadT {α : Type} : List (Nat × α) → Tr α 17 → (Tr α 17 → Bool) → Bool
  | [], t, k => k t
  | p :: l, t, k => Tr.setK 17 t p.1 (some p.2) fun t => loadT l t k
def killT {α : Type} : List (Nat × α) → Tr α 17 → (Tr α 17 → Bool) → Bool
  | [], t, k => k t
  | p :: l, t, k => Tr.setK 17 t p.1 none fun t => killT l t k
def loadO {α : Type} : List (Nat × Nat × α) → Tr α 17 → (Tr α 17 → Bool) → Bool
  | [], t, k => k t
  | p :: l, t, k => Tr.setK 17 t p.2.1 (some p.2.2) fun t => loadO l t k
def loadN : List Nat → Nat → Tr Nat 17 → (Nat → Tr Nat 17 → Bool) → Bool
  | [], i, t, k => k i t
  | n :: l, i, t, k => Tr.setK 17 t n (some i) fun t => forceN (fun i => loadN l i t k) (i + 1)
theorem loadT_ok {α : Type} {k : Tr α 17 → Bool} : ∀ (l : List (Nat × α)) (t : Tr α 17), loadT l t k = true → ∃ t', k t' = true ∧ ∀ n r, Tr.get 17 t' n = some r → (n, r) ∈ l ∨ Tr.get 17 t n = some r
  | [], t, h => ⟨t, h, fun _ _ h => .inr h⟩
  | p :: l, t, h => by
    obtain ⟨t1, h1, h2⟩ := Tr.setK_get _ _ _ _ _ h
    obtain ⟨t2, h3, h4⟩ := loadT_ok l t1 h1
    refine ⟨t2, h3, fun n r hr => ?_⟩
    rcases h4 n r hr with h5 | h5
    · exact .inl (List.mem_cons_of_mem _ h5)
    · rcases h2 n r h5 with ⟨rfl, e⟩ | ⟨_, e⟩
      · obtain rfl := Option.some.inj e
        exact .inl (List.mem_cons_self ..)
      · exact .inr e
theorem killT_ok {α : Type} {k : Tr α 17 → Bool} : ∀ (l : List (Nat × α)) (t : Tr α 17), killT l t k = true → ∃ t', k t' = true ∧ ∀ n r, Tr.get 17 t' n = some r → (∀ q ∈ l, q.1 ≠ n) ∧ Tr.get 17 t n = some r
  | [], t, h => ⟨t, h, fun _ _ h => ⟨fun q hq => (by cases hq), h⟩⟩
  | p :: l, t, h => by
    obtain ⟨t1, h1, h2⟩ := Tr.setK_get _ _ _ _ _ h
    obtain ⟨t2, h3, h4⟩ := killT_ok l t1 h1
    refine ⟨t2, h3, fun n r hr => ?_⟩
    obtain ⟨h5, h6⟩ := h4 n r hr
    rcases h2 n r h6 with ⟨_, e⟩ | ⟨e1, e⟩
    · cases e
    · exact ⟨fun q hq => by
        rcases List.mem_cons.1 hq with rfl | hq
        · exact fun e => e1 e.symm
        · exact h5 q hq, e⟩
theorem loadO_ok {α : Type} {k : Tr α 17 → Bool} : ∀ (l : List (Nat × Nat × α)) (t : Tr α 17), loadO l t k = true → ∃ t', k t' = true ∧ ∀ n r, Tr.get 17 t' n = some r → (∃ m, (m, n, r) ∈ l) ∨ ((∀ q ∈ l, q.2.1 ≠ n) ∧ Tr.get 17 t n = some r)
  | [], t, h => ⟨t, h, fun _ _ h => .inr ⟨fun q hq => (by cases hq), h⟩⟩
  | p :: l, t, h => by
    obtain ⟨t1, h1, h2⟩ := Tr.setK_get _ _ _ _ _ h
    obtain ⟨t2, h3, h4⟩ := loadO_ok l t1 h1
    refine ⟨t2, h3, fun n r hr => ?_⟩
    rcases h4 n r hr with ⟨m, h5⟩ | ⟨h6, h5⟩
    · exact .inl ⟨m, List.mem_cons_of_mem _ h5⟩
    · rcases h2 n r h5 with ⟨rfl, e⟩ | ⟨e1, e⟩
      · obtain rfl := Option.some.inj e
        exact .inl ⟨p.1, List.mem_cons_self ..⟩
      · exact .inr ⟨fun q hq => by
          rcases List.mem_cons.1 hq with rfl | hq
          · exact fun e => e1 e.symm
          · exact h6 q hq, e⟩
theorem loadN_ok {k : Nat → Tr Nat 17 → Bool} : ∀ (l : List Nat) (i : Nat) (t : Tr Nat 17), loadN l i t k = true → ∃ t', k (i + l.length) t' = true ∧ ∀ n m, Tr.get 17 t' n = some m → (i ≤ m ∧ l[m - i]? = some n) ∨ Tr.get 17 t n = some m
  | [], i, t, h => ⟨t, h, fun _ _ h => .inr h⟩
  | p :: l, i, t, h => by
    obtain ⟨t1, h1, h2⟩ := Tr.setK_get _ _ _ _ _ h
    rw [forceN_eq] at h1
    obtain ⟨t2, h3, h4⟩ := loadN_ok l (i + 1) t1 h1
    refine ⟨t2, by rw [List.length_cons, Nat.add_comm l.length 1, ← Nat.add_assoc]; exact h3, fun n m hr => ?_⟩
    rcases h4 n m hr with ⟨h5, h6⟩ | h5
    · refine .inl ⟨by omega, ?_⟩
      rw [show m - i = (m - (i + 1)) + 1 by omega]
      simpa using h6
    · rcases h2 n m h5 with ⟨rfl, e⟩ | ⟨_, e⟩
      · obtain rfl := Option.some.inj e
        exact .inl ⟨Nat.le_refl _, by simp⟩
      · exact .inr e
/- names exchanged. -/
def rnN (c : Nat) (t : Tr Nat 17) (n n' : Nat) : Bool := cond (Nat.blt n c) (Nat.beq n n') (match Tr.get 17 t n with
  | some m => Nat.beq m n'
  | none => false)
def rnA (c : Nat) (t : Tr Nat 17) : Option Addr → Option Addr → Bool
  | none, none => true
  | some ⟨b, o, none⟩, some ⟨b', o', none⟩ => rnN c t b b' && Nat.beq o o'
  | _, _ => false
def rnV (c : Nat) (t : Tr Nat 17) : Nat → Value → Value → Bool
  | 0, _, _ => false
  | d + 1, v, u => match v, u with
    | .bool a, .bool b => a == b
    | .int k a, .int k' b => kindEq k k' && intEq a b
    | .string a, .string b => bytesEq a.data.toList b.data.toList
    | .pointer a, .pointer b => rnA c t a b
    | .slice a n k, .slice b m e => rnA c t a b && (Nat.beq n m && Nat.beq k e)
    | .map none, .map none => true
    | .map (some a), .map (some b) => rnN c t a b
    | .chan none, .chan none => true
    | .nilFunc, .nilFunc => true
    | .nilIface, .nilIface => true
    | .iface t1 x, .iface t2 y => Nat.beq t1 t2 && rnV c t d x y
    | .agg x, .agg y => eqL (rnV c t d) x.toList y.toList
    | .tuple x, .tuple y => eqL (rnV c t d) x.toList y.toList
    | .func (.func f) x y, .func (.func f') x' y' => Nat.beq f f' && (eqL (rnV c t d) x.toList x'.toList && eqL (rnV c t d) y.toList y'.toList)
    | .float .f64 0, .float .f64 0 => true
    | .float .f64 (a + 1), .float .f64 (b + 1) => rnN c t a b
    | .float .f32 a, .float .f32 b => rnN c t (a / 2) (b / 2) && Nat.beq (a % 2) (b % 2)
    | _, _ => false
theorem rn_list {ρ ρ' : Rho} {eq : Value → Value → Bool} (h : ∀ v v' u, eq v v' = true → VR ρ v u → VR ρ' v' u) : ∀ (xs ys us : List Value), eqL eq xs ys = true → L2 ρ xs us → L2 ρ' ys us
  | [], [], us, _, hl => by
    have : us = [] := List.length_eq_zero_iff.1 hl.1
    subst this
    exact L2.nil _
  | [], _ :: _, _, he, _ => by cases he
  | _ :: _, [], _, he, _ => by cases he
  | x :: xs, y :: ys, us, he, hl => by
    obtain ⟨u, r, rfl, h1, h2⟩ := hl.inv
    rw [eqL] at he
    cases hq : eq x y with
    | false => rw [hq] at he; cases he
    | true =>
      rw [hq] at he
      exact (rn_list h xs ys r he h2).cons (h x y u hq h1)
theorem rn_len {eq : Value → Value → Bool} : ∀ (xs ys : List Value), eqL eq xs ys = true → xs.length = ys.length
  | [], [], _ => rfl
  | [], _ :: _, he => by cases he
  | _ :: _, [], he => by cases he
  | x :: xs, y :: ys, he => by
    rw [eqL] at he
    cases hq : eq x y with
    | false => rw [hq] at he; cases he
    | true =>
      rw [hq] at he
      simp [rn_len xs ys he]
theorem rn_one {c : Nat} {t : Tr Nat 17} {d : Nat} {v v' : Value} (h : rnV c t d v v' = true) (ho : one v = true) : one v' = true := by
  cases d with
  | zero => cases h
  | succ d =>
    unfold rnV at h
    split at h <;> first | rfl | (cases ho; done) | (cases h; done)
theorem rn_ones {c : Nat} {t : Tr Nat 17} {d : Nat} : ∀ (xs ys : List Value), eqL (rnV c t d) xs ys = true → (∀ v ∈ xs, one v = true) → ∀ v ∈ ys, one v = true
  | [], [], _, _ => fun v hv => by cases hv
  | [], _ :: _, he, _ => by cases he
  | _ :: _, [], he, _ => by cases he
  | x :: xs, y :: ys, he, ho => by
    rw [eqL] at he
    cases hq : rnV c t d x y with
    | false => rw [hq] at he; cases he
    | true =>
      rw [hq] at he
      intro v hv
      rcases List.mem_cons.1 hv with rfl | hv
      · exact rn_one hq (ho x (List.mem_cons_self ..))
      · exact rn_ones xs ys he (fun v hv => ho v (List.mem_cons_of_mem _ hv)) v hv
theorem rnA_ok {c : Nat} {t : Tr Nat 17} {a b : Addr} (h : rnA c t (some a) (some b) = true) : rnN c t a.block b.block = true ∧ a.off = b.off ∧ a.spot = none ∧ b.spot = none := by
  obtain ⟨b1, o1, p1⟩ := a
  obtain ⟨b2, o2, p2⟩ := b
  cases p1 with
  | some x => cases h
  | none => cases p2 with
    | some x => cases h
    | none =>
      simp only [rnA, Bool.and_eq_true] at h
      exact ⟨h.1, Nat.eq_of_beq_eq_true h.2, rfl, rfl⟩
theorem rnV_vr {c : Nat} {t : Tr Nat 17} {ρ ρ' : Rho} (H : ∀ n n' x, rnN c t n n' = true → ρ n = some x → ρ' n' = some x) : ∀ (d : Nat) (v v' u : Value), rnV c t d v v' = true → VR ρ v u → VR ρ' v' u
  | 0, _, _, _, h, _ => by cases h
  | d + 1, v, v', u, h, hv => by
    unfold rnV at h
    split at h
    · rename_i a b
      rw [VR] at hv ⊢
      simp only [beq_iff_eq] at h
      rw [← h]; exact hv
    · rename_i k a k' b
      rw [VR] at hv ⊢
      have := eqVal_eq 1 (.int k a) (.int k' b) h
      rw [← this]; exact hv
    · rename_i a b
      rw [VR] at hv ⊢
      have := eqVal_eq 1 (.string a) (.string b) h
      rw [← this]; exact hv
    · rename_i a b
      cases a with
      | none => cases b with
        | none => rw [VR] at hv ⊢; exact hv
        | some b => cases h
      | some a => cases b with
        | none => obtain ⟨_, _, sp⟩ := a; cases sp <;> cases h
        | some b =>
          obtain ⟨h1, h2, _, _⟩ := rnA_ok h
          rw [VR] at hv ⊢
          obtain ⟨q, ⟨x, hx, rfl⟩, rfl⟩ := hv
          exact ⟨_, ⟨x, H _ _ _ h1 hx, by rw [← h2]⟩, rfl⟩
    · rename_i a n k b m e
      simp only [Bool.and_eq_true] at h
      obtain ⟨ha, hn, hk⟩ := h
      obtain rfl := Nat.eq_of_beq_eq_true hn
      obtain rfl := Nat.eq_of_beq_eq_true hk
      cases a with
      | none => cases b with
        | none => rw [VR] at hv ⊢; exact hv
        | some b => cases ha
      | some a => cases b with
        | none => obtain ⟨_, _, sp⟩ := a; cases sp <;> cases ha
        | some b =>
          obtain ⟨h1, h2, _, _⟩ := rnA_ok ha
          obtain ⟨q, cap, x, e1, e2, e3, e4, e5, e6⟩ := slice_vr hv
          rw [VR]
          refine ⟨q, cap, x, e1, e2, e3, H _ _ _ h1 e4, ?_, ?_⟩
          · rw [← h2]; exact e5
          · rw [← h2]; exact e6
    · rw [VR] at hv ⊢; exact hv
    · rename_i a b
      rw [VR] at hv ⊢
      obtain ⟨x, hx, rfl⟩ := hv
      exact ⟨x, H _ _ _ h hx, rfl⟩
    · rw [VR]; trivial
    · rw [VR] at hv ⊢; exact hv
    · rw [VR] at hv ⊢; exact hv
    · rename_i t1 x t2 y
      simp only [Bool.and_eq_true] at h
      obtain rfl := Nat.eq_of_beq_eq_true h.1
      rw [VR] at hv ⊢
      obtain ⟨z, rfl, hz⟩ := hv
      exact ⟨z, rfl, rnV_vr H d _ _ _ h.2 hz⟩
    · rename_i x y
      obtain ⟨ys, rfl, h1, h2⟩ := vr_agg.1 hv
      exact vr_agg.2 ⟨ys, rfl, rn_list (rnV_vr H d) _ _ _ h h1, rn_ones _ _ h h2⟩
    · rename_i x y
      obtain ⟨ys, rfl, h1⟩ := vr_tuple.1 hv
      exact vr_tuple.2 ⟨ys, rfl, rn_list (rnV_vr H d) _ _ _ h h1⟩
    · rename_i f x y f' x' y'
      simp only [Bool.and_eq_true] at h
      obtain rfl := Nat.eq_of_beq_eq_true h.1
      obtain ⟨ys, vs, rfl, h1, h2⟩ := vr_func.1 hv
      exact vr_func.2 ⟨ys, vs, rfl, rn_list (rnV_vr H d) _ _ _ h.2.1 h1, rn_list (rnV_vr H d) _ _ _ h.2.2 h2⟩
    · rw [VR] at hv ⊢; exact hv
    · rename_i a b
      rw [VR] at hv ⊢
      obtain ⟨n, x, hx, e⟩ := hv
      exact ⟨n, x, H _ _ _ h hx, e⟩
    · rename_i a b
      simp only [Bool.and_eq_true] at h
      rw [VR] at hv ⊢
      obtain ⟨s, x, hx, e1, e2, e3, e4⟩ := hv
      exact ⟨s, x, H _ _ _ h.1 hx, e1, e2, e3, by rw [← Nat.eq_of_beq_eq_true h.2]; exact e4⟩
    · cases h
/- what the call left. -/
def finR (c : Nat) (t : Tr Nat 17) (s : St) (n n' : Nat) (r : Row) : Bool := match s.get n with
  | some q => rnN c t n n' && (Nat.beq q.elem r.elem && (Nat.beq q.sz r.sz && eqL (rnV c t 5) q.cells r.cells))
  | none => false
def rnE (c : Nat) (t : Tr Nat 17) : List (Value × Value) → List (Value × Value) → Bool
  | [], [] => true
  | a :: x, b :: y => cond (rnV c t 5 a.1 b.1) (cond (rnV c t 5 a.2 b.2) (rnE c t x y) false) false
  | _, _ => false
def finM (c : Nat) (t : Tr Nat 17) (s : St) (n n' : Nat) (es : List (Value × Value)) : Bool := match s.gm n with
  | some q => !isIt es && (rnN c t n n' && rnE c t q es)
  | none => false
def allB {α : Type} (p : α → Bool) : List α → Bool
  | [] => true
  | a :: l => cond (p a) (allB p l) false
theorem allB_ok {α : Type} {p : α → Bool} : ∀ (l : List α), allB p l = true → ∀ a ∈ l, p a = true
  | [], _, a, ha => by cases ha
  | x :: l, h, a, ha => by
    rw [allB] at h
    cases hq : p x with
    | false => rw [hq] at h; cases h
    | true =>
      rw [hq] at h
      rcases List.mem_cons.1 ha with rfl | ha
      · exact hq
      · exact allB_ok l h a ha
def finK (I : Inst) (t : Tr Nat 17) (v : Value) (s : St) : Bool :=
  cond (rnV I.c t 5 v I.res) (cond (allB (fun p => finR I.c t s p.1 p.2.1 p.2.2) I.out) (cond (allB (fun p => finR I.c t s p.1 p.1 p.2) I.kept) (cond (allB (fun p => finM I.c t s p.1 p.2.1 p.2.2) I.outm) (allB (fun p => finM I.c t s p.1 p.1 p.2) I.mkept) false) false) false) false
def runI (E : Env) (n : Nat) (I : Inst) (s : St) (k : K2) : Option Func → Bool
  | some fn => (bodyJ E (drawJ E) fn).run (evJ E (drawJ E) n) I.args s k
  | none => false
def chkI (E : Env) (n : Nat) (I : Inst) : Bool :=
  loadT I.kept (Tr.nil 17) fun h => loadT I.gone h fun h => loadT I.mkept (Tr.nil 17) fun m => loadT I.mgone m fun m => loadN I.news I.c (Tr.nil 17) fun i t => cond (Nat.beq i I.d) (runI E n I ⟨h, ⟨m, false⟩, I.c⟩ (finK I t) (E.fn I.f)) false
/- what a state must hold, and what it is then. -/
structure Has (I : Inst) (s : St) : Prop where
  c : s.c = I.c
  it : s.m.it = false
  kept : ∀ p ∈ I.kept, s.get p.1 = some p.2
  gone : ∀ p ∈ I.gone, s.get p.1 = some p.2
  mkept : ∀ p ∈ I.mkept, s.gm p.1 = some p.2
  mgone : ∀ p ∈ I.mgone, s.gm p.1 = some p.2
structure Put (I : Inst) (s s' : St) : Prop where
  c : s'.c = I.d
  row : ∀ n r, s'.get n = some r → (∃ m, (m, n, r) ∈ I.out) ∨ ((∀ q ∈ I.out, q.2.1 ≠ n) ∧ (∀ q ∈ I.gone, q.1 ≠ n) ∧ s.get n = some r)
  map : ∀ n r, s'.gm n = some r → (∃ m, (m, n, r) ∈ I.outm) ∨ ((∀ q ∈ I.outm, q.2.1 ≠ n) ∧ (∀ q ∈ I.mgone, q.1 ≠ n) ∧ s.gm n = some r)
def InstOk (P : Program) (I : Inst) : Prop := (∀ as w, (callFunc I.f as).run P w = .ok (.enter I.f as) w) ∧ ∀ ρ s w us, R ρ s w → L2 ρ I.args us → Has I s →
  Calls P I.f us.toArray w (fun e w' => ∃ u ρ', e = .returned u ∧ VR ρ' I.res u ∧ ∀ s', Put I s s' → R ρ' s' w' ∧ Ext ρ s w ρ' s' w')
theorem rnE_ok {ρ ρ' : Rho} {c : Nat} {t : Tr Nat 17} (H : ∀ n n' x, rnN c t n n' = true → ρ n = some x → ρ' n' = some x) : ∀ (q es : List (Value × Value)), rnE c t q es = true → q.length = es.length ∧ ∀ (i : Nat) (kv : Value × Value), es[i]? = some kv → ∃ kv0, q[i]? = some kv0 ∧ ∀ a b, VR ρ kv0.1 a → VR ρ kv0.2 b → VR ρ' kv.1 a ∧ VR ρ' kv.2 b
  | [], [], _ => ⟨rfl, fun i kv h => by simp at h⟩
  | [], _ :: _, h => by cases h
  | _ :: _, [], h => by cases h
  | a :: x, b :: y, h => by
    rw [rnE] at h
    cases h1 : rnV c t 5 a.1 b.1 with
    | false => rw [h1] at h; cases h
    | true =>
      rw [h1] at h
      cases h2 : rnV c t 5 a.2 b.2 with
      | false => rw [h2] at h; cases h
      | true =>
        rw [h2] at h
        obtain ⟨g1, g2⟩ := rnE_ok H x y h
        refine ⟨by simp [g1], fun i kv hi => ?_⟩
        cases i with
        | zero =>
          simp only [List.getElem?_cons_zero, Option.some.injEq] at hi
          subst hi
          exact ⟨a, rfl, fun p q hp hq => ⟨rnV_vr H 5 _ _ _ h1 hp, rnV_vr H 5 _ _ _ h2 hq⟩⟩
        | succ i => simpa using g2 i kv (by simpa using hi)
end Go.Proofs.YtcfekhcdadldmaaGreatDoor.Am
set_option linter.unusedSimpArgs false
namespace Go.Proofs.YtcfekhcdadldmaaGreatDoor.Am
open Go Go.RowKit
theorem rnN_fun {c : Nat} {t : Tr Nat 17} {n a b : Nat} (ha : rnN c t n a = true) (hb : rnN c t n b = true) : a = b := by
  unfold rnN at ha hb
  cases hq : Nat.blt n c with
  | true =>
    rw [hq] at ha hb
    exact (Nat.eq_of_beq_eq_true ha).symm.trans (Nat.eq_of_beq_eq_true hb)
  | false =>
    rw [hq] at ha hb
    simp only [cond_false] at ha hb
    cases hg : Tr.get 17 t n with
    | none => rw [hg] at ha; cases ha
    | some m =>
      rw [hg] at ha hb
      exact (Nat.eq_of_beq_eq_true ha).symm.trans (Nat.eq_of_beq_eq_true hb)
theorem finR_ok {c : Nat} {t : Tr Nat 17} {s : St} {n n' : Nat} {r : Row} (h : finR c t s n n' r = true) : ∃ q, s.get n = some q ∧ rnN c t n n' = true ∧ q.elem = r.elem ∧ q.sz = r.sz ∧ eqL (rnV c t 5) q.cells r.cells = true := by
  unfold finR at h
  split at h
  · rename_i q hq
    simp only [Bool.and_eq_true] at h
    exact ⟨q, hq, h.1, Nat.eq_of_beq_eq_true h.2.1, Nat.eq_of_beq_eq_true h.2.2.1, h.2.2.2⟩
  · cases h
theorem finM_ok {c : Nat} {t : Tr Nat 17} {s : St} {n n' : Nat} {es : List (Value × Value)} (h : finM c t s n n' es = true) : ∃ q, s.gm n = some q ∧ rnN c t n n' = true ∧ rnE c t q es = true ∧ isIt es = false := by
  unfold finM at h
  split at h
  · rename_i q hq
    simp only [Bool.and_eq_true, Bool.not_eq_true'] at h
    exact ⟨q, hq, h.2.1, h.2.2, h.1⟩
  · cases h
theorem rn_isIt {c : Nat} {t : Tr Nat 17} {q es : List (Value × Value)} (h : rnE c t q es = true) (hi : isIt es = false) : isIt q = false := by
  cases q with
  | nil => rfl
  | cons p l =>
    cases es with
    | nil => cases h
    | cons r m =>
      rw [rnE] at h
      obtain ⟨p1, p2⟩ := p
      obtain ⟨r1, r2⟩ := r
      cases p1 with
      | chan o => cases o with
        | some _ => rfl
        | none =>
          cases hq : rnV c t 5 (Value.chan none) r1 with
          | false => simp only [hq] at h; cases h
          | true =>
            cases r1 with
            | chan o => cases o with
              | none => cases hi
              | some _ => cases hq
            | _ => cases hq
      | _ => rfl
theorem finK_ok {I : Inst} {t : Tr Nat 17} {v : Value} {s : St} (h : finK I t v s = true) : rnV I.c t 5 v I.res = true ∧ (∀ p ∈ I.out, finR I.c t s p.1 p.2.1 p.2.2 = true) ∧ (∀ p ∈ I.kept, finR I.c t s p.1 p.1 p.2 = true) ∧ (∀ p ∈ I.outm, finM I.c t s p.1 p.2.1 p.2.2 = true) ∧ ∀ p ∈ I.mkept, finM I.c t s p.1 p.1 p.2 = true := by
  unfold finK at h
  cases h1 : rnV I.c t 5 v I.res with
  | false => rw [h1] at h; cases h
  | true =>
    rw [h1] at h
    simp only [cond_true] at h
    cases h2 : allB (fun p => finR I.c t s p.1 p.2.1 p.2.2) I.out with
    | false => rw [h2] at h; cases h
    | true =>
      rw [h2] at h
      simp only [cond_true] at h
      cases h3 : allB (fun p => finR I.c t s p.1 p.1 p.2) I.kept with
      | false => rw [h3] at h; cases h
      | true =>
        rw [h3] at h
        simp only [cond_true] at h
        cases h4 : allB (fun p => finM I.c t s p.1 p.2.1 p.2.2) I.outm with
        | false => rw [h4] at h; cases h
        | true =>
          rw [h4] at h
          exact ⟨rfl, allB_ok _ h2, allB_ok _ h3, allB_ok _ h4, allB_ok _ h⟩
/-- a call that was worked out apart, in any state that has what it needs. -/
theorem inst_ok {P : Program} {ext : FuncId → Option (List Value → St → (Value → St → Bool) → Bool)} {xt : FuncId → Option (List Value → Option Value)} {hs : FuncId → Nat → List Value → Bool} (hm : P.follows .mixedOrders = true) (hxt : XtOk P xt) (hx : ExtOk P ext) {n : Nat} {I : Inst} (h : chkI (envOf P ext xt hs) n I = true) : InstOk P I := by
  have g := good_of P ext (hs := hs) hxt
  have gf := goodF_of (xt := xt) (hs := hs) hx
  unfold chkI at h
  obtain ⟨h1, h, q1⟩ := loadT_ok _ _ h
  obtain ⟨h2, h, q2⟩ := loadT_ok _ _ h
  obtain ⟨m1, h, q3⟩ := loadT_ok _ _ h
  obtain ⟨m2, h, q4⟩ := loadT_ok _ _ h
  obtain ⟨t, h, q5⟩ := loadN_ok _ _ _ h
  have hd : I.c + I.news.length = I.d := by
    cases hq : Nat.beq (I.c + I.news.length) I.d with
    | false => rw [hq] at h; cases h
    | true => exact Nat.eq_of_beq_eq_true hq
  rw [show Nat.beq (I.c + I.news.length) I.d = true by rw [hd]; exact Nat.beq_refl _] at h
  simp only [cond_true] at h
  have gr : ∀ n r, (⟨h2, ⟨m2, false⟩, I.c⟩ : St).get n = some r → (n, r) ∈ I.gone ∨ (n, r) ∈ I.kept := fun n r hr => by
    rcases q2 n r hr with e | e
    · exact .inl e
    · rcases q1 n r e with e | e
      · exact .inr e
      · rw [Tr.get_nil] at e; cases e
  have gm : ∀ n r, (⟨h2, ⟨m2, false⟩, I.c⟩ : St).gm n = some r → (n, r) ∈ I.mgone ∨ (n, r) ∈ I.mkept := fun n r hr => by
    rcases q4 n r hr with e | e
    · exact .inl e
    · rcases q3 n r e with e | e
      · exact .inr e
      · rw [Tr.get_nil] at e; cases e
  have gt : ∀ n m, Tr.get 17 t n = some m → I.c ≤ m ∧ I.news[m - I.c]? = some n := fun n m hr => by
    rcases q5 n m hr with e | e
    · exact e
    · rw [Tr.get_nil] at e; cases e
  clear q1 q2 q3 q4 q5
  obtain ⟨s1, hs1⟩ : ∃ s1 : St, s1 = ⟨h2, ⟨m2, false⟩, I.c⟩ := ⟨_, rfl⟩
  rw [← hs1] at h gr gm
  have hc1 : s1.c = I.c := by rw [hs1]
  clear hs1
  unfold runI at h
  cases hf : (envOf P ext xt hs).fn I.f with
  | none => rw [hf] at h; cases h
  | some fn =>
    rw [hf] at h
    simp only at h
    refine ⟨(gf.fn I.f fn hf).2, fun ρ s w us hR hl hH => ?_⟩
    have sr : ∀ n r, s1.get n = some r → s.get n = some r := fun n r hr => by
      rcases gr n r hr with e | e
      · exact hH.gone _ e
      · exact hH.kept _ e
    have sm : ∀ n r, s1.gm n = some r → s.gm n = some r := fun n r hr => by
      rcases gm n r hr with e | e
      · exact hH.mgone _ e
      · exact hH.mkept _ e
    have hR1 : R ρ s1 w := ⟨fun n hn => hR.dom n (by rw [hH.c]; rw [hc1] at hn; exact hn), hR.lt, fun n r hr => hR.rows n r (sr n r hr), fun n r hr => hR.maps n r (sm n r hr), fun n m es fs x y a b => hR.injm n m es fs x y (sm n es a) (sm m fs b), fun n m r q x y a b => hR.inj n m r q x y (sr n r a) (sr m q b), hR.gl, hR.lo, fun _ n es h => hR.it hH.it n es (sm n es h)⟩
    have ho : ∀ k, Own ρ s1 k → Own ρ s k := by
      rintro k ⟨m, y, ⟨q, hq⟩ | ⟨q, hq⟩, hy, e⟩
      · exact ⟨m, y, .inl ⟨q, sr m q hq⟩, hy, e⟩
      · exact ⟨m, y, .inr ⟨q, sm m q hq⟩, hy, e⟩
    have ih := evJ_ok g gf hm n
    refine (body_ok g ih (draw_ok g hm ih) (gf.fn I.f fn hf).1 (bodyJ_eq h) hR1 hl).mono ?_
    rintro e w' ⟨v, u, ρ', s', rfl, hv, hR', hE, hk⟩
    obtain ⟨k1, k2, k3, k4, k5⟩ := finK_ok hk
    have hold : ∀ n, n < I.c → ρ' n = ρ n := fun n hn => hE.old n (by rw [hc1]; exact hn)
    obtain ⟨ρ2, hρ2⟩ : ∃ ρ2 : Rho, ρ2 = fun n => if n < I.c then ρ' n else (I.news[n - I.c]?).bind ρ' := ⟨_, rfl⟩
    have hlow : ∀ n, n < I.c → ρ2 n = ρ n := fun n hn => by rw [hρ2]; simp only [if_pos hn]; exact hold n hn
    have hnone : ∀ n x, ρ n = some x → n < I.c := fun n x hx => by
      rcases Nat.lt_or_ge n I.c with e | e
      · exact e
      · have := hR.dom n (by rw [hH.c]; exact e)
        rw [this] at hx; cases hx
    have hS : Sub ρ ρ2 := fun n x hx => by rw [hlow n (hnone n x hx)]; exact hx
    have H : ∀ n n' x, rnN I.c t n n' = true → ρ' n = some x → ρ2 n' = some x := fun n n' x hr hx => by
      unfold rnN at hr
      cases hq : Nat.blt n I.c with
      | true =>
        rw [hq] at hr
        obtain rfl := Nat.eq_of_beq_eq_true hr
        rw [hρ2]
        simp only [if_pos ((blt16 _ _).1 hq)]
        exact hx
      | false =>
        rw [hq] at hr
        simp only [cond_false] at hr
        cases hg : Tr.get 17 t n with
        | none => rw [hg] at hr; cases hr
        | some m =>
          rw [hg] at hr
          obtain rfl := Nat.eq_of_beq_eq_true hr
          obtain ⟨e1, e2⟩ := gt n m hg
          rw [hρ2]
          simp only [if_neg (show ¬ m < I.c by omega), e2, Option.bind_some]
          exact hx
    refine ⟨u, ρ2, rfl, rnV_vr H 5 _ _ _ k1 hv, fun s2 hP => ?_⟩
    have A : ∀ n' r, s2.get n' = some r → (∃ n q, s'.get n = some q ∧ rnN I.c t n n' = true ∧ q.elem = r.elem ∧ q.sz = r.sz ∧ eqL (rnV I.c t 5) q.cells r.cells = true) ∨ (s.get n' = some r ∧ ∀ q, s1.get n' ≠ some q) := fun n' r hr => by
      rcases hP.row n' r hr with ⟨m, hm⟩ | ⟨e1, e2, e3⟩
      · exact .inl ⟨m, finR_ok (k2 _ hm)⟩
      · by_cases hq : ∃ q, s1.get n' = some q
        · obtain ⟨q, hq⟩ := hq
          rcases gr n' q hq with e | e
          · exact absurd rfl (e2 _ e)
          · have e4 := hH.kept _ e
            simp only at e4
            rw [e3] at e4
            obtain rfl := Option.some.inj e4
            exact .inl ⟨n', finR_ok (k3 _ e)⟩
        · exact .inr ⟨e3, fun q e => hq ⟨q, e⟩⟩
    have B : ∀ n' r, s2.gm n' = some r → (∃ n q, s'.gm n = some q ∧ rnN I.c t n n' = true ∧ rnE I.c t q r = true ∧ isIt r = false) ∨ (s.gm n' = some r ∧ ∀ q, s1.gm n' ≠ some q) := fun n' r hr => by
      rcases hP.map n' r hr with ⟨m, hm⟩ | ⟨e1, e2, e3⟩
      · exact .inl ⟨m, finM_ok (k4 _ hm)⟩
      · by_cases hq : ∃ q, s1.gm n' = some q
        · obtain ⟨q, hq⟩ := hq
          rcases gm n' q hq with e | e
          · exact absurd rfl (e2 _ e)
          · have e4 := hH.mkept _ e
            simp only at e4
            rw [e3] at e4
            obtain rfl := Option.some.inj e4
            exact .inl ⟨n', finM_ok (k5 _ e)⟩
        · exact .inr ⟨e3, fun q e => hq ⟨q, e⟩⟩
    have C : ∀ n' r x, s.get n' = some r → (∀ q, s1.get n' ≠ some q) → ρ n' = some x → ¬ Own ρ s1 x.1 := by
      rintro n' r x hr hno hx ⟨m, y, ⟨q, hq⟩ | ⟨q, hq⟩, hy, e⟩
      · obtain rfl := hR.inj m n' q r y x (sr m q hq) hr hy hx e
        exact hno q hq
      · obtain ⟨y', p1, p2⟩ := hR.maps m q (sm m q hq)
        obtain ⟨x', cs', o1, o2, _⟩ := hR.rows n' r hr
        rw [hy] at p1
        rw [hx] at o1
        obtain rfl := Option.some.inj p1
        obtain rfl := Option.some.inj o1
        rw [e] at p2
        exact p2.no o2
    have D : ∀ n' r x, s.gm n' = some r → (∀ q, s1.gm n' ≠ some q) → ρ n' = some x → ¬ Own ρ s1 x.1 := by
      rintro n' r x hr hno hx ⟨m, y, ⟨q, hq⟩ | ⟨q, hq⟩, hy, e⟩
      · obtain ⟨y', cs, p1, p2, _⟩ := hR.rows m q (sr m q hq)
        obtain ⟨x', o1, o2⟩ := hR.maps n' r hr
        rw [hy] at p1
        rw [hx] at o1
        obtain rfl := Option.some.inj p1
        obtain rfl := Option.some.inj o1
        rw [e] at p2
        exact o2.no p2
      · obtain rfl := hR.injm m n' q r y x (sm m q hq) hr hy hx e
        exact hno q hq
    -- what a row of the call's own is
    have A1 : ∀ n n' q, s'.get n = some q → rnN I.c t n n' = true → ∃ x, ρ' n = some x ∧ ρ2 n' = some x ∧ Own ρ' s' x.1 := fun n n' q hq hn => by
      obtain ⟨x, _, p1, _⟩ := hR'.rows n q hq
      exact ⟨x, p1, H n n' x hn p1, n, x, .inl ⟨q, hq⟩, p1, rfl⟩
    have B1 : ∀ n n' q, s'.gm n = some q → rnN I.c t n n' = true → ∃ x, ρ' n = some x ∧ ρ2 n' = some x ∧ Own ρ' s' x.1 := fun n n' q hq hn => by
      obtain ⟨x, p1, _⟩ := hR'.maps n q hq
      exact ⟨x, p1, H n n' x hn p1, n, x, .inr ⟨q, hq⟩, p1, rfl⟩
    have A2 : ∀ n' r x, s.get n' = some r → ρ2 n' = some x → ρ n' = some x := fun n' r x hr hx => by
      obtain ⟨y, _, p1, _⟩ := hR.rows n' r hr
      rw [hlow n' (hnone n' y p1)] at hx
      exact hx
    have B2 : ∀ n' r x, s.gm n' = some r → ρ2 n' = some x → ρ n' = some x := fun n' r x hr hx => by
      obtain ⟨y, p1, _⟩ := hR.maps n' r hr
      rw [hlow n' (hnone n' y p1)] at hx
      exact hx
    have far : ∀ x y : Nat × Nat × Nat, Own ρ' s' x.1 → ¬ Own ρ s1 y.1 → y.1 < w.heap.size → x.1 ≠ y.1 := fun x y a b c e => by
      rcases hE.own _ a with a | a
      · rw [e] at a; exact b a
      · omega
    refine ⟨⟨fun n hn => ?_, fun n x hx => ?_, fun n r hr => ?_, fun n es hr => ?_, fun n m es fs x y g1 g2 g3 g4 g5 => ?_, fun n m r q x y g1 g2 g3 g4 g5 => ?_, hR'.gl, fun n x hx => by
        by_cases e : n < I.c
        · rw [hlow n e, ← hold n e] at hx
          exact hR'.lo n x hx
        · rw [hρ2] at hx
          simp only [if_neg e] at hx
          obtain ⟨m, _, hm⟩ := Option.bind_eq_some_iff.1 hx
          exact hR'.lo m x hm, fun _ n es h => by
        rcases B n es h with ⟨_, _, _, _, _, a⟩ | ⟨a, _⟩
        · exact a
        · exact hR.it hH.it n es a⟩, ⟨?_, hS, hE.size, hE.os, hE.tape, hE.output, fun k hk hn => hE.frame k hk (fun e => hn (ho k e)), ?_, fun n hn => hlow n (by rw [← hH.c]; exact hn)⟩⟩
    · have := hP.c
      rw [hρ2]
      simp only [if_neg (show ¬ n < I.c by omega)]
      rw [List.getElem?_eq_none (by omega)]
      rfl
    · by_cases e : n < I.c
      · rw [hlow n e, ← hold n e] at hx
        exact hR'.lt n x hx
      · rw [hρ2] at hx
        simp only [if_neg e] at hx
        obtain ⟨m, _, hm⟩ := Option.bind_eq_some_iff.1 hx
        exact hR'.lt m x hm
    · rcases A n r hr with ⟨m, q, a1, a2, a3, a4, a5⟩ | ⟨a1, a2⟩
      · obtain ⟨x, c, p1, p2, p3, p4, p5, p6, p7, p8⟩ := hR'.rows m q a1
        have hlen := rn_len _ _ a5
        refine ⟨x, c, H m n x a2 p1, by rw [← a3]; exact p2, p3, by rw [← hlen]; exact p4, ?_, rn_ones _ _ a5 p6, by rw [← a4]; exact p7, fun e => by rw [← hlen]; exact p8 (by rw [a4]; exact e)⟩
        rw [← hlen]
        exact rn_list (rnV_vr H 5) _ _ _ a5 p5
      · obtain ⟨x, c, p1, p2, p3, p4, p5, p6⟩ := hR.rows n r a1
        exact ⟨x, c, hS n x p1, (hE.frame x.1 (hR.lt n x p1) (C n r x a1 a2 p1)).trans p2, p3, p4, p5.mono hS, p6⟩
    · rcases B n es hr with ⟨m, q, a1, a2, a3, a4⟩ | ⟨a1, a2⟩
      · obtain ⟨x, p1, pM⟩ := hR'.maps m q a1
        obtain ⟨cs, cl, p2, p3, p4⟩ := notIt pM (rn_isIt a3 a4)
        obtain ⟨e1, e2⟩ := rnE_ok H _ _ a3
        refine ⟨x, H m n x a2 p1, .inl ⟨cs, cl, p2, ⟨by rw [← e1]; exact p3.1, p3.2.1, a4⟩, fun i kv hi => ?_⟩⟩
        obtain ⟨kv0, f1, f2⟩ := e2 i kv hi
        obtain ⟨e, f3, f4, f5⟩ := p4 i kv0 f1
        exact ⟨e, f3, f2 _ _ f4 f5⟩
      · obtain ⟨x, p1, pM⟩ := hR.maps n es a1
        have hfr := hE.frame x.1 (hR.lt n x p1) (D n es x a1 a2 p1)
        refine ⟨x, hS n x p1, ?_⟩
        rcases pM with ⟨cs, cl, p2, p3, p4⟩ | ⟨t0, n0, cur0, left0, e0, hI⟩
        · exact .inl ⟨cs, cl, hfr.trans p2, p3, fun i kv hi => let ⟨e, f1, f2, f3⟩ := p4 i kv hi; ⟨e, f1, f2.mono hS, f3.mono hS⟩⟩
        · have := hR.it hH.it n es a1
          rw [e0] at this
          cases this
    · rcases B n es g1 with ⟨a, qa, a1, a2, _, _⟩ | ⟨a1, a2⟩ <;> rcases B m fs g2 with ⟨b, qb, b1, b2, _, _⟩ | ⟨b1, b2⟩
      · obtain ⟨x', c1, c2, _⟩ := B1 a n qa a1 a2
        obtain ⟨y', d1, d2, _⟩ := B1 b m qb b1 b2
        rw [c2] at g3
        rw [d2] at g4
        obtain rfl := Option.some.inj g3
        obtain rfl := Option.some.inj g4
        obtain rfl := hR'.injm a b qa qb _ _ a1 b1 c1 d1 g5
        exact rnN_fun a2 b2
      · obtain ⟨x', c1, c2, c3⟩ := B1 a n qa a1 a2
        rw [c2] at g3
        obtain rfl := Option.some.inj g3
        have d1 := B2 m fs y b1 g4
        exact absurd g5 (far _ _ c3 (D m fs y b1 b2 d1) (hR.lt m y d1))
      · obtain ⟨y', c1, c2, c3⟩ := B1 b m qb b1 b2
        rw [c2] at g4
        obtain rfl := Option.some.inj g4
        have d1 := B2 n es x a1 g3
        exact absurd g5.symm (far _ _ c3 (D n es x a1 a2 d1) (hR.lt n x d1))
      · exact hR.injm n m es fs x y a1 b1 (B2 n es x a1 g3) (B2 m fs y b1 g4) g5
    · rcases A n r g1 with ⟨a, qa, a1, a2, _⟩ | ⟨a1, a2⟩ <;> rcases A m q g2 with ⟨b, qb, b1, b2, _⟩ | ⟨b1, b2⟩
      · obtain ⟨x', c1, c2, _⟩ := A1 a n qa a1 a2
        obtain ⟨y', d1, d2, _⟩ := A1 b m qb b1 b2
        rw [c2] at g3
        rw [d2] at g4
        obtain rfl := Option.some.inj g3
        obtain rfl := Option.some.inj g4
        obtain rfl := hR'.inj a b qa qb _ _ a1 b1 c1 d1 g5
        exact rnN_fun a2 b2
      · obtain ⟨x', c1, c2, c3⟩ := A1 a n qa a1 a2
        rw [c2] at g3
        obtain rfl := Option.some.inj g3
        have d1 := A2 m q y b1 g4
        exact absurd g5 (far _ _ c3 (C m q y b1 b2 d1) (hR.lt m y d1))
      · obtain ⟨y', c1, c2, c3⟩ := A1 b m qb b1 b2
        rw [c2] at g4
        obtain rfl := Option.some.inj g4
        have d1 := A2 n r x a1 g3
        exact absurd g5.symm (far _ _ c3 (C n r x a1 a2 d1) (hR.lt n x d1))
      · exact hR.inj n m r q x y a1 b1 (A2 n r x a1 g3) (A2 m q y b1 g4) g5
    · have := hP.c
      rw [hH.c]; omega
    · rintro k ⟨n, x, ⟨r, hr⟩ | ⟨r, hr⟩, hx, rfl⟩
      · rcases A n r hr with ⟨a, qa, a1, a2, _⟩ | ⟨a1, a2⟩
        · obtain ⟨x', c1, c2, c3⟩ := A1 a n qa a1 a2
          rw [c2] at hx
          obtain rfl := Option.some.inj hx
          exact (hE.own _ c3).imp (ho _) id
        · exact .inl ⟨n, x, .inl ⟨r, a1⟩, A2 n r x a1 hx, rfl⟩
      · rcases B n r hr with ⟨a, qa, a1, a2, _⟩ | ⟨a1, a2⟩
        · obtain ⟨x', c1, c2, c3⟩ := B1 a n qa a1 a2
          rw [c2] at hx
          obtain rfl := Option.some.inj hx
          exact (hE.own _ c3).imp (ho _) id
        · exact .inl ⟨n, x, .inr ⟨r, a1⟩, B2 n r x a1 hx, rfl⟩
/- the table of such calls. -/
def eqRow (r q : Row) : Bool := cond (Nat.beq r.elem q.elem) (cond (Nat.beq r.sz q.sz) (eqL eqF r.cells q.cells) false) false
def eqEs : List (Value × Value) → List (Value × Value) → Bool
  | [], [] => true
  | a :: x, b :: y => cond (eqF a.1 b.1) (cond (eqF a.2 b.2) (eqEs x y) false) false
  | _, _ => false
def hasR (s : St) : List (Nat × Row) → Bool
  | [] => true
  | p :: l => match s.get p.1 with
    | some r => cond (eqRow r p.2) (hasR s l) false
    | none => false
def hasM (s : St) : List (Nat × List (Value × Value)) → Bool
  | [] => true
  | p :: l => match s.gm p.1 with
    | some r => cond (eqEs r p.2) (hasM s l) false
    | none => false
def mtI (I : Inst) (args : List Value) (s : St) : Bool := cond (Nat.beq I.c s.c && !s.m.it) (cond (eqL eqF I.args args) (cond (hasR s I.kept) (cond (hasR s I.gone) (cond (hasM s I.mkept) (hasM s I.mgone) false) false) false) false) false
def putI (I : Inst) (s : St) (k : K2) : Bool := killT I.gone s.h fun h => loadO I.out h fun h => killT I.mgone s.m.t fun m => loadO I.outm m fun m => k I.res ⟨h, ⟨m, false⟩, I.d⟩
def dispI : List Inst → List Value → St → K2 → Bool
  | [], _, _, _ => false
  | I :: l, args, s, k => cond (mtI I args s) (putI I s k) (dispI l args s k)
def extI (base : FuncId → Option (List Value → St → K2 → Bool)) (l : List Inst) (f : FuncId) : Option (List Value → St → K2 → Bool) := match base f with
  | some g => some g
  | none => match l.filter fun I => Nat.beq I.f f with
    | [] => none
    | I :: r => some (dispI (I :: r))
def cIn (c : Nat) (args : List Value) : List Inst → Bool
  | [] => false
  | I :: l => cond (Nat.beq I.c c) (cond (eqL eqF I.args args) true (cIn c args l)) (cIn c args l)
/-- is a call to be looked up? -/
def hasI (base : FuncId → Option (List Value → St → K2 → Bool)) (l : List Inst) (f : FuncId) (c : Nat) (args : List Value) : Bool := match base f with
  | some _ => true
  | none => cIn c args (l.filter fun I => Nat.beq I.f f)
theorem eqF_ok {v u : Value} (h : eqF v u = true) : v = u := eqVal_eq 5 v u (by rw [← eqF_eq]; exact h)
theorem eqRow_ok {r q : Row} (h : eqRow r q = true) : r = q := by
  unfold eqRow at h
  cases h1 : Nat.beq r.elem q.elem with
  | false => rw [h1] at h; cases h
  | true =>
    rw [h1] at h
    cases h2 : Nat.beq r.sz q.sz with
    | false => rw [h2] at h; cases h
    | true =>
      rw [h2] at h
      have h3 := eqL_eq (fun v u => eqF_ok) _ _ h
      have e1 := Nat.eq_of_beq_eq_true h1
      have e2 := Nat.eq_of_beq_eq_true h2
      cases r; cases q
      simp only at h3 e1 e2
      subst h3 e1 e2
      rfl
theorem eqEs_ok : ∀ (x y : List (Value × Value)), eqEs x y = true → x = y
  | [], [], _ => rfl
  | [], _ :: _, h => by cases h
  | _ :: _, [], h => by cases h
  | a :: x, b :: y, h => by
    rw [eqEs] at h
    cases h1 : eqF a.1 b.1 with
    | false => rw [h1] at h; cases h
    | true =>
      rw [h1] at h
      cases h2 : eqF a.2 b.2 with
      | false => rw [h2] at h; cases h
      | true =>
        rw [h2] at h
        rw [eqEs_ok x y h, show a = b from Prod.ext (eqF_ok h1) (eqF_ok h2)]
theorem hasR_ok {s : St} : ∀ (l : List (Nat × Row)), hasR s l = true → ∀ p ∈ l, s.get p.1 = some p.2
  | [], _, p, hp => by cases hp
  | q :: l, h, p, hp => by
    rw [hasR] at h
    split at h
    · rename_i r hr
      cases h1 : eqRow r q.2 with
      | false => rw [h1] at h; cases h
      | true =>
        rw [h1] at h
        rcases List.mem_cons.1 hp with rfl | hp
        · rw [hr, eqRow_ok h1]
        · exact hasR_ok l h p hp
    · cases h
theorem hasM_ok {s : St} : ∀ (l : List (Nat × List (Value × Value))), hasM s l = true → ∀ p ∈ l, s.gm p.1 = some p.2
  | [], _, p, hp => by cases hp
  | q :: l, h, p, hp => by
    rw [hasM] at h
    split at h
    · rename_i r hr
      cases h1 : eqEs r q.2 with
      | false => rw [h1] at h; cases h
      | true =>
        rw [h1] at h
        rcases List.mem_cons.1 hp with rfl | hp
        · rw [hr, eqEs_ok _ _ h1]
        · exact hasM_ok l h p hp
    · cases h
theorem and_true_of {a b : Bool} (h : (a && !b) = true) : a = true ∧ b = false := by cases a <;> cases b <;> simp_all
theorem mtI_ok {I : Inst} {args : List Value} {s : St} (h : mtI I args s = true) : I.args = args ∧ Has I s := by
  unfold mtI at h
  cases h1 : Nat.beq I.c s.c && !s.m.it with
  | false => rw [h1] at h; cases h
  | true =>
    rw [h1] at h
    obtain ⟨h1, h1i⟩ := and_true_of h1
    simp only [cond_true] at h
    cases h2 : eqL eqF I.args args with
    | false => rw [h2] at h; cases h
    | true =>
      rw [h2] at h
      simp only [cond_true] at h
      cases h3 : hasR s I.kept with
      | false => rw [h3] at h; cases h
      | true =>
        rw [h3] at h
        simp only [cond_true] at h
        cases h4 : hasR s I.gone with
        | false => rw [h4] at h; cases h
        | true =>
          rw [h4] at h
          simp only [cond_true] at h
          cases h5 : hasM s I.mkept with
          | false => rw [h5] at h; cases h
          | true =>
            rw [h5] at h
            exact ⟨eqL_eq (fun v u => eqF_ok) _ _ h2, (Nat.eq_of_beq_eq_true h1).symm, h1i, hasR_ok _ h3, hasR_ok _ h4, hasM_ok _ h5, hasM_ok _ h⟩
theorem putI_ok {I : Inst} {s : St} {k : K2} (h : putI I s k = true) : ∃ s', k I.res s' = true ∧ Put I s s' := by
  unfold putI at h
  obtain ⟨h1, h, q1⟩ := killT_ok _ _ h
  obtain ⟨h2, h, q2⟩ := loadO_ok _ _ h
  obtain ⟨m1, h, q3⟩ := killT_ok _ _ h
  obtain ⟨m2, h, q4⟩ := loadO_ok _ _ h
  refine ⟨_, h, rfl, fun n r hr => ?_, fun n r hr => ?_⟩
  · rcases q2 n r hr with e | ⟨e1, e2⟩
    · exact .inl e
    · exact .inr ⟨e1, q1 n r e2⟩
  · rcases q4 n r hr with e | ⟨e1, e2⟩
    · exact .inl e
    · exact .inr ⟨e1, q3 n r e2⟩
theorem dispI_ok {P : Program} {f : FuncId} : ∀ (l : List Inst), (∀ I ∈ l, InstOk P I ∧ I.f = f) → CallOk P (fun f' args s k => cond (Nat.beq f' f) (dispI l args s k) false)
  | [], _ => fun f' args s k hk => by
    cases hq : Nat.beq f' f with
    | false => simp only [hq] at hk; cases hk
    | true => simp only [hq, cond_true] at hk; cases hk
  | I :: l, hl => fun f' args s k hk => by
    cases hq : Nat.beq f' f with
    | false => simp only [hq] at hk; cases hk
    | true =>
      simp only [hq, cond_true, dispI] at hk
      cases hm : mtI I args s with
      | true =>
        rw [hm] at hk
        obtain rfl := Nat.eq_of_beq_eq_true hq
        obtain ⟨hI, rfl⟩ := hl I (List.mem_cons_self ..)
        obtain ⟨rfl, hH⟩ := mtI_ok hm
        obtain ⟨s', hk', hP⟩ := putI_ok hk
        refine ⟨hI.1, fun ρ w us hR hl => (hI.2 ρ s w us hR hl hH).mono ?_⟩
        rintro e w' ⟨u, ρ', rfl, hv, hs⟩
        obtain ⟨r1, r2⟩ := hs s' hP
        exact ⟨_, u, ρ', s', rfl, hv, r1, r2, hk'⟩
      | false =>
        rw [hm] at hk
        exact dispI_ok l (fun J hJ => hl J (List.mem_cons_of_mem _ hJ)) f' args s k (by simp only [hq, cond_true]; exact hk)
theorem extI_ok {P : Program} {base : FuncId → Option (List Value → St → K2 → Bool)} (hb : ExtOk P base) {l : List Inst} (hl : ∀ I ∈ l, InstOk P I) : ExtOk P (extI base l) := fun f g h => by
  unfold extI at h
  split at h
  · rename_i g' hg
    obtain rfl := Option.some.inj h
    exact hb f _ hg
  · split at h
    · cases h
    · rename_i I r hf
      obtain rfl := Option.some.inj h
      refine dispI_ok (I :: r) fun J hJ => ?_
      rw [← hf] at hJ
      obtain ⟨h1, h2⟩ := List.mem_filter.1 hJ
      exact ⟨hl J h1, Nat.eq_of_beq_eq_true h2⟩
theorem insts_nil (P : Program) : ∀ I ∈ ([] : List Inst), InstOk P I := fun I h => by cases h
theorem insts_cons {P : Program} {I : Inst} {l : List Inst} (h : InstOk P I) (hl : ∀ I ∈ l, InstOk P I) : ∀ J ∈ I :: l, InstOk P J := fun J hJ => by
  rcases List.mem_cons.1 hJ with rfl | hJ
  · exact h
  · exact hl J hJ
/- short words for what a row holds. -/
abbrev vt : Value := .bool true
abbrev vf : Value := .bool false
abbrev vi (n : Nat) : Value := .int .i64 (.ofNat n)
abbrev vb (n : Nat) : Value := .int .u8 (.ofNat n)
abbrev vbs (l : List Nat) : List Value := l.map vb
abbrev vs (l : List Nat) : Value := .string ⟨⟨l.map UInt8.ofNat⟩⟩
abbrev vu (l : List Value) : Value := .tuple ⟨l⟩
abbrev va (l : List Value) : Value := .agg ⟨l⟩
abbrev vz : Value := .slice none 0 0
abbrev vl (b o n c : Nat) : Value := .slice (some ⟨b, o, none⟩) n c
abbrev vn : Value := .pointer none
abbrev vp (b o : Nat) : Value := .pointer (some ⟨b, o, none⟩)
abbrev vy : Value := .nilIface
end Go.Proofs.YtcfekhcdadldmaaGreatDoor.Am
