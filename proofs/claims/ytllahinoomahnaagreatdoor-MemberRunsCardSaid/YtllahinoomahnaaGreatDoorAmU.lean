import Derived.Test.YtllahinoomahnaaGreatDoorAmWd
set_option linter.unusedSimpArgs false
namespace Go.Proofs.YtllahinoomahnaaGreatDoor.Am
open Go Go.RowKit

/- a call that is worked out apart: what it is called with, the rows and maps that it needs, what it answers and leaves. -/
structure Inst where
  f : FuncId
  args : List Value
  c : Nat
  kept : List (Nat × Row)
  gone : List (Nat × Row)
  mkept : List (Nat × List (Value × Value))
  mgone : List (Nat × List (Value × Value))
  res : Value
  d : Nat
  news : List Nat
  out : List (Nat × Nat × Row)
  outm : List (Nat × Nat × List (Value × Value))
def loadT {α : Type} : List (Nat × α) → Tr α 17 → (Tr α 17 → Bool) → Bool
  | [], t, k => k t
  | p :: l, t, k => Tr.setK 17 t p.1 (some p.2) fun t => loadT l t k
def killT {α : Type} : List (Nat × α) → Tr α 17 → (Tr α 17 → Bool) → Bool
  | [], t, k => k t
  | p :: l, t, k => Tr.setK 17 t p.1 none fun t => killT l t k
def loadO {α : Type} : List (Nat × Nat × α) → Tr α 17 → (Tr α 17 → Bool) → Bool
  | [], t, k => k t
  | p :: l, t, k => Tr.setK 17 t p.2.1 (some p.2.2) fun t => loadO l t k
def loadN : List Nat → Nat → Tr Nat 17 → (Nat → Tr Nat 17 → Bool) → Bool
  | [], i, t, k => k i t
  | n :: l, i, t, k => Tr.setK 17 t n (some i) fun t => forceN (fun i => loadN l i t k) (i + 1)
theorem loadT_ok {α : Type} {k : Tr α 17 → Bool} : ∀ (l : List (Nat × α)) (t : Tr α 17), loadT l t k = true → ∃ t', k t' = true ∧ ∀ n r, Tr.get 17 t' n = some r → (n, r) ∈ l ∨ Tr.get 17 t n = some r
  | [], t, h => ⟨t, h, fun _ _ h => .inr h⟩
  | p :: l, t, h => by
    obtain ⟨t1, h1, h2⟩ := Tr.setK_get _ _ _ _ _ h
    obtain ⟨t2, h3, h4⟩ := loadT_ok l t1 h1
    refine ⟨t2, h3, fun n r hr => ?_⟩
    rcases h4 n r hr with h5 | h5
    · exact .inl (List.mem_cons_of_mem _ h5)
    · rcases h2 n r h5 with ⟨rfl, e⟩ | ⟨_, e⟩
      · obtain rfl := Option.some.inj e
        exact .inl (List.mem_cons_self ..)
      · exact .inr e
theorem killT_ok {α : Type} {k : Tr α 17 → Bool} : ∀ (l : List (Nat × α)) (t : Tr α 17), killT l t k = true → ∃ t', k t' = true ∧ ∀ n r, Tr.get 17 t' n = some r → (∀ q ∈ l, q.1 ≠ n) ∧ Tr.get 17 t n = some r
  | [], t, h => ⟨t, h, fun _ _ h => ⟨fun q hq => (by cases hq), h⟩⟩
  | p :: l, t, h => by
    obtain ⟨t1, h1, h2⟩ := Tr.setK_get _ _ _ _ _ h
    obtain ⟨t2, h3, h4⟩ := killT_ok l t1 h1
    refine ⟨t2, h3, fun n r hr => ?_⟩
    obtain ⟨h5, h6⟩ := h4 n r hr
    rcases h2 n r h6 with ⟨_, e⟩ | ⟨e1, e⟩
    · cases e
    · exact ⟨fun q hq => by
        rcases List.mem_cons.1 hq with rfl | hq
        · exact fun e => e1 e.symm
        · exact h5 q hq, e⟩
theorem loadO_ok {α : Type} {k : Tr α 17 → Bool} : ∀ (l : List (Nat × Nat × α)) (t : Tr α 17), loadO l t k = true → ∃ t', k t' = true ∧ ∀ n r, Tr.get 17 t' n = some r → (∃ m, (m, n, r) ∈ l) ∨ ((∀ q ∈ l, q.2.1 ≠ n) ∧ Tr.get 17 t n = some r)
  | [], t, h => ⟨t, h, fun _ _ h => .inr ⟨fun q hq => (by cases hq), h⟩⟩
  | p :: l, t, h => by
    obtain ⟨t1, h1, h2⟩ := Tr.setK_get _ _ _ _ _ h
    obtain ⟨t2, h3, h4⟩ := loadO_ok l t1 h1
    refine ⟨t2, h3, fun n r hr => ?_⟩
    rcases h4 n r hr with ⟨m, h5⟩ | ⟨h6, h5⟩
    · exact .inl ⟨m, List.mem_cons_of_mem _ h5⟩
    · rcases h2 n r h5 with ⟨rfl, e⟩ | ⟨e1, e⟩
      · obtain rfl := Option.some.inj e
        exact .inl ⟨p.1, List.mem_cons_self ..⟩
      · exact .inr ⟨fun q hq => by
          rcases List.mem_cons.1 hq with rfl | hq
          · exact fun e => e1 e.symm
          · exact h6 q hq, e⟩
theorem loadN_ok {k : Nat → Tr Nat 17 → Bool} : ∀ (l : List Nat) (i : Nat) (t : Tr Nat 17), loadN l i t k = true → ∃ t', k (i + l.length) t' = true ∧ ∀ n m, Tr.get 17 t' n = some m → (i ≤ m ∧ l[m - i]? = some n) ∨ Tr.get 17 t n = some m
  | [], i, t, h => ⟨t, h, fun _ _ h => .inr h⟩
  | p :: l, i, t, h => by
    obtain ⟨t1, h1, h2⟩ := Tr.setK_get _ _ _ _ _ h
    rw [forceN_eq] at h1
    obtain ⟨t2, h3, h4⟩ := loadN_ok l (i + 1) t1 h1
    refine ⟨t2, by rw [List.length_cons, Nat.add_comm l.length 1, ← Nat.add_assoc]; exact h3, fun n m hr => ?_⟩
    rcases h4 n m hr with ⟨h5, h6⟩ | h5
    · refine .inl ⟨by omega, ?_⟩
      rw [show m - i = (m - (i + 1)) + 1 by omega]
      simpa using h6
    · rcases h2 n m h5 with ⟨rfl, e⟩ | ⟨_, e⟩
      · obtain rfl := Option.some.inj e
        exact .inl ⟨Nat.le_refl _, by simp⟩
      · exact .inr e
/- names exchanged. -/
def rnN (c : Nat) (t : Tr Nat 17) (n n' : Nat) : Bool := cond (Nat.blt n c) (Nat.beq n n') (match Tr.get 17 t n with
  | some m => Nat.beq m n'
  | none => false)
def rnA (c : Nat) (t : Tr Nat 17) : Option Addr → Option Addr → Bool
  | none, none => true
  | some ⟨b, o, none⟩, some ⟨b', o', none⟩ => rnN c t b b' && Nat.beq o o'
  | _, _ => false
def rnV (c : Nat) (t : Tr Nat 17) : Nat → Value → Value → Bool
  | 0, _, _ => false
  | d + 1, v, u => match v, u with
    | .bool a, .bool b => a == b
    | .int k a, .int k' b => kindEq k k' && intEq a b
    | .string a, .string b => bytesEq a.data.toList b.data.toList
    | .pointer a, .pointer b => rnA c t a b
    | .slice a n k, .slice b m e => rnA c t a b && (Nat.beq n m && Nat.beq k e)
    | .map none, .map none => true
    | .map (some a), .map (some b) => rnN c t a b
    | .chan none, .chan none => true
    | .nilFunc, .nilFunc => true
    | .nilIface, .nilIface => true
    | .iface t1 x, .iface t2 y => Nat.beq t1 t2 && rnV c t d x y
    | .agg x, .agg y => eqL (rnV c t d) x.toList y.toList
    | .tuple x, .tuple y => eqL (rnV c t d) x.toList y.toList
    | .func (.func f) x y, .func (.func f') x' y' => Nat.beq f f' && (eqL (rnV c t d) x.toList x'.toList && eqL (rnV c t d) y.toList y'.toList)
    | _, _ => false
theorem rn_list {ρ ρ' : Rho} {eq : Value → Value → Bool} (h : ∀ v v' u, eq v v' = true → VR ρ v u → VR ρ' v' u) : ∀ (xs ys us : List Value), eqL eq xs ys = true → L2 ρ xs us → L2 ρ' ys us
  | [], [], us, _, hl => by
    have : us = [] := List.length_eq_zero_iff.1 hl.1
    subst this
    exact L2.nil _
  | [], _ :: _, _, he, _ => by cases he
  | _ :: _, [], _, he, _ => by cases he
  | x :: xs, y :: ys, us, he, hl => by
    obtain ⟨u, r, rfl, h1, h2⟩ := hl.inv
    rw [eqL] at he
    cases hq : eq x y with
    | false => rw [hq] at he; cases he
    | true =>
      rw [hq] at he
      exact (rn_list h xs ys r he h2).cons (h x y u hq h1)
theorem rn_len {eq : Value → Value → Bool} : ∀ (xs ys : List Value), eqL eq xs ys = true → xs.length = ys.length
  | [], [], _ => rfl
  | [], _ :: _, he => by cases he
  | _ :: _, [], he => by cases he
  | x :: xs, y :: ys, he => by
    rw [eqL] at he
    cases hq : eq x y with
    | false => rw [hq] at he; cases he
    | true =>
      rw [hq] at he
      simp [rn_len xs ys he]
theorem rn_one {c : Nat} {t : Tr Nat 17} {d : Nat} {v v' : Value} (h : rnV c t d v v' = true) (ho : one v = true) : one v' = true := by
  cases d with
  | zero => cases h
  | succ d =>
    unfold rnV at h
    split at h <;> first | rfl | (cases ho; done) | (cases h; done)
theorem rn_ones {c : Nat} {t : Tr Nat 17} {d : Nat} : ∀ (xs ys : List Value), eqL (rnV c t d) xs ys = true → (∀ v ∈ xs, one v = true) → ∀ v ∈ ys, one v = true
  | [], [], _, _ => fun v hv => by cases hv
  | [], _ :: _, he, _ => by cases he
  | _ :: _, [], he, _ => by cases he
  | x :: xs, y :: ys, he, ho => by
    rw [eqL] at he
    cases hq : rnV c t d x y with
    | false => rw [hq] at he; cases he
    | true =>
      rw [hq] at he
      intro v hv
      rcases List.mem_cons.1 hv with rfl | hv
      · exact rn_one hq (ho x (List.mem_cons_self ..))
      · exact rn_ones xs ys he (fun v hv => ho v (List.mem_cons_of_mem _ hv)) v hv
theorem rnA_ok {c : Nat} {t : Tr Nat 17} {a b : Addr} (h : rnA c t (some a) (some b) = true) : rnN c t a.block b.block = true ∧ a.off = b.off ∧ a.spot = none ∧ b.spot = none := by
  obtain ⟨b1, o1, p1⟩ := a
  obtain ⟨b2, o2, p2⟩ := b
  cases p1 with
  | some x => cases h
  | none => cases p2 with
    | some x => cases h
    | none =>
      simp only [rnA, Bool.and_eq_true] at h
      exact ⟨h.1, Nat.eq_of_beq_eq_true h.2, rfl, rfl⟩
theorem rnV_vr {c : Nat} {t : Tr Nat 17} {ρ ρ' : Rho} (H : ∀ n n' x, rnN c t n n' = true → ρ n = some x → ρ' n' = some x) : ∀ (d : Nat) (v v' u : Value), rnV c t d v v' = true → VR ρ v u → VR ρ' v' u
  | 0, _, _, _, h, _ => by cases h
  | d + 1, v, v', u, h, hv => by
    unfold rnV at h
    split at h
    · rename_i a b
      rw [VR] at hv ⊢
      simp only [beq_iff_eq] at h
      rw [← h]; exact hv
    · rename_i k a k' b
      rw [VR] at hv ⊢
      have := eqVal_eq 1 (.int k a) (.int k' b) h
      rw [← this]; exact hv
    · rename_i a b
      rw [VR] at hv ⊢
      have := eqVal_eq 1 (.string a) (.string b) h
      rw [← this]; exact hv
    · rename_i a b
      cases a with
      | none => cases b with
        | none => rw [VR] at hv ⊢; exact hv
        | some b => cases h
      | some a => cases b with
        | none => obtain ⟨_, _, sp⟩ := a; cases sp <;> cases h
        | some b =>
          obtain ⟨h1, h2, _, _⟩ := rnA_ok h
          rw [VR] at hv ⊢
          obtain ⟨q, ⟨x, hx, rfl⟩, rfl⟩ := hv
          exact ⟨_, ⟨x, H _ _ _ h1 hx, by rw [← h2]⟩, rfl⟩
    · rename_i a n k b m e
      simp only [Bool.and_eq_true] at h
      obtain ⟨ha, hn, hk⟩ := h
      obtain rfl := Nat.eq_of_beq_eq_true hn
      obtain rfl := Nat.eq_of_beq_eq_true hk
      cases a with
      | none => cases b with
        | none => rw [VR] at hv ⊢; exact hv
        | some b => cases ha
      | some a => cases b with
        | none => obtain ⟨_, _, sp⟩ := a; cases sp <;> cases ha
        | some b =>
          obtain ⟨h1, h2, _, _⟩ := rnA_ok ha
          obtain ⟨q, cap, x, e1, e2, e3, e4, e5, e6⟩ := slice_vr hv
          rw [VR]
          refine ⟨q, cap, x, e1, e2, e3, H _ _ _ h1 e4, ?_, ?_⟩
          · rw [← h2]; exact e5
          · rw [← h2]; exact e6
    · rw [VR] at hv ⊢; exact hv
    · rename_i a b
      rw [VR] at hv ⊢
      obtain ⟨x, hx, rfl⟩ := hv
      exact ⟨x, H _ _ _ h hx, rfl⟩
    · rw [VR]; trivial
    · rw [VR] at hv ⊢; exact hv
    · rw [VR] at hv ⊢; exact hv
    · rename_i t1 x t2 y
      simp only [Bool.and_eq_true] at h
      obtain rfl := Nat.eq_of_beq_eq_true h.1
      rw [VR] at hv ⊢
      obtain ⟨z, rfl, hz⟩ := hv
      exact ⟨z, rfl, rnV_vr H d _ _ _ h.2 hz⟩
    · rename_i x y
      obtain ⟨ys, rfl, h1, h2⟩ := vr_agg.1 hv
      exact vr_agg.2 ⟨ys, rfl, rn_list (rnV_vr H d) _ _ _ h h1, rn_ones _ _ h h2⟩
    · rename_i x y
      obtain ⟨ys, rfl, h1⟩ := vr_tuple.1 hv
      exact vr_tuple.2 ⟨ys, rfl, rn_list (rnV_vr H d) _ _ _ h h1⟩
    · rename_i f x y f' x' y'
      simp only [Bool.and_eq_true] at h
      obtain rfl := Nat.eq_of_beq_eq_true h.1
      obtain ⟨ys, vs, rfl, h1, h2⟩ := vr_func.1 hv
      exact vr_func.2 ⟨ys, vs, rfl, rn_list (rnV_vr H d) _ _ _ h.2.1 h1, rn_list (rnV_vr H d) _ _ _ h.2.2 h2⟩
    · cases h
/- what the call left. -/
def finR (c : Nat) (t : Tr Nat 17) (s : St) (n n' : Nat) (r : Row) : Bool := match s.get n with
  | some q => rnN c t n n' && (Nat.beq q.elem r.elem && (Nat.beq q.sz r.sz && eqL (rnV c t 5) q.cells r.cells))
  | none => false
def rnE (c : Nat) (t : Tr Nat 17) : List (Value × Value) → List (Value × Value) → Bool
  | [], [] => true
  | a :: x, b :: y => cond (rnV c t 5 a.1 b.1) (cond (rnV c t 5 a.2 b.2) (rnE c t x y) false) false
  | _, _ => false
def finM (c : Nat) (t : Tr Nat 17) (s : St) (n n' : Nat) (es : List (Value × Value)) : Bool := match s.gm n with
  | some q => !isIt es && (rnN c t n n' && rnE c t q es)
  | none => false
def allB {α : Type} (p : α → Bool) : List α → Bool
  | [] => true
  | a :: l => cond (p a) (allB p l) false
theorem allB_ok {α : Type} {p : α → Bool} : ∀ (l : List α), allB p l = true → ∀ a ∈ l, p a = true
  | [], _, a, ha => by cases ha
  | x :: l, h, a, ha => by
    rw [allB] at h
    cases hq : p x with
    | false => rw [hq] at h; cases h
    | true =>
      rw [hq] at h
      rcases List.mem_cons.1 ha with rfl | ha
      · exact hq
      · exact allB_ok l h a ha
def finK (I : Inst) (t : Tr Nat 17) (v : Value) (s : St) : Bool :=
  cond (rnV I.c t 5 v I.res) (cond (allB (fun p => finR I.c t s p.1 p.2.1 p.2.2) I.out) (cond (allB (fun p => finR I.c t s p.1 p.1 p.2) I.kept) (cond (allB (fun p => finM I.c t s p.1 p.2.1 p.2.2) I.outm) (allB (fun p => finM I.c t s p.1 p.1 p.2) I.mkept) false) false) false) false
def runI (E : Env) (n : Nat) (I : Inst) (s : St) (k : K2) : Option Func → Bool
  | some fn => (bodyJ E (drawJ E) fn).run (evJ E (drawJ E) n) I.args s k
  | none => false
def chkI (E : Env) (n : Nat) (I : Inst) : Bool :=
  loadT I.kept (Tr.nil 17) fun h => loadT I.gone h fun h => loadT I.mkept (Tr.nil 17) fun m => loadT I.mgone m fun m => loadN I.news I.c (Tr.nil 17) fun i t => cond (Nat.beq i I.d) (runI E n I ⟨h, ⟨m⟩, I.c⟩ (finK I t) (E.fn I.f)) false
/- what a state must hold, and what it is then. -/
structure Has (I : Inst) (s : St) : Prop where
  c : s.c = I.c
  kept : ∀ p ∈ I.kept, s.get p.1 = some p.2
  gone : ∀ p ∈ I.gone, s.get p.1 = some p.2
  mkept : ∀ p ∈ I.mkept, s.gm p.1 = some p.2
  mgone : ∀ p ∈ I.mgone, s.gm p.1 = some p.2
structure Put (I : Inst) (s s' : St) : Prop where
  c : s'.c = I.d
  row : ∀ n r, s'.get n = some r → (∃ m, (m, n, r) ∈ I.out) ∨ ((∀ q ∈ I.out, q.2.1 ≠ n) ∧ (∀ q ∈ I.gone, q.1 ≠ n) ∧ s.get n = some r)
  map : ∀ n r, s'.gm n = some r → (∃ m, (m, n, r) ∈ I.outm) ∨ ((∀ q ∈ I.outm, q.2.1 ≠ n) ∧ (∀ q ∈ I.mgone, q.1 ≠ n) ∧ s.gm n = some r)
def InstOk (P : Program) (I : Inst) : Prop := (∀ as w, (callFunc I.f as).run P w = .ok (.enter I.f as) w) ∧ ∀ ρ s w us, R ρ s w → L2 ρ I.args us → Has I s →
  Calls P I.f us.toArray w (fun e w' => ∃ u ρ', e = .returned u ∧ VR ρ' I.res u ∧ ∀ s', Put I s s' → R ρ' s' w' ∧ Ext ρ s w ρ' s' w')
theorem rnE_ok {ρ ρ' : Rho} {c : Nat} {t : Tr Nat 17} (H : ∀ n n' x, rnN c t n n' = true → ρ n = some x → ρ' n' = some x) : ∀ (q es : List (Value × Value)), rnE c t q es = true → q.length = es.length ∧ ∀ (i : Nat) (kv : Value × Value), es[i]? = some kv → ∃ kv0, q[i]? = some kv0 ∧ ∀ a b, VR ρ kv0.1 a → VR ρ kv0.2 b → VR ρ' kv.1 a ∧ VR ρ' kv.2 b
  | [], [], _ => ⟨rfl, fun i kv h => by simp at h⟩
  | [], _ :: _, h => by cases h
  | _ :: _, [], h => by cases h
  | a :: x, b :: y, h => by
    rw [rnE] at h
    cases h1 : rnV c t 5 a.1 b.1 with
    | false => rw [h1] at h; cases h
    | true =>
      rw [h1] at h
      cases h2 : rnV c t 5 a.2 b.2 with
      | false => rw [h2] at h; cases h
      | true =>
        rw [h2] at h
        obtain ⟨g1, g2⟩ := rnE_ok H x y h
        refine ⟨by simp [g1], fun i kv hi => ?_⟩
        cases i with
        | zero =>
          simp only [List.getElem?_cons_zero, Option.some.injEq] at hi
          subst hi
          exact ⟨a, rfl, fun p q hp hq => ⟨rnV_vr H 5 _ _ _ h1 hp, rnV_vr H 5 _ _ _ h2 hq⟩⟩
        | succ i => simpa using g2 i kv (by simpa using hi)
end Go.Proofs.YtllahinoomahnaaGreatDoor.Am
