import Derived.Test.YtpbfmhleeihhdaaGreatDoorAmA
namespace Go.Proofs.YtpbfmhleeihhdaaGreatDoor.Am
open Go

theorem forceN_eq (k : Nat → Bool) (n : Nat) : forceN k n = k n := by cases n <;> rfl
theorem forceI_eq (k : Int → Bool) (n : Int) : forceI k n = k n := by cases n <;> simp [forceI, forceN_eq]
theorem forceB_eq (k : Bool → Bool) (b : Bool) : forceB k b = k b := by cases b <;> rfl
theorem forceL_eq {α : Type} : ∀ (l : List α) (k : List α → Bool), forceL l k = k l
  | [], _ => rfl
  | a :: r, k => by rw [forceL, forceL_eq r]
theorem forceA_eq (k : Option Addr → Bool) (a : Option Addr) : forceA k a = k a := by cases a <;> simp [forceA, forceN_eq]
theorem forceV_eq (k : Value → Bool) (v : Value) : forceV k v = k v := by
  cases v <;> simp [forceV, forceN_eq, forceI_eq, forceB_eq, forceA_eq, forceS, forceL_eq]
theorem setK_eq : ∀ (t : List Value) (n : Nat) (v : Value) (k : List Value → Bool), setK t n v k = k (t.set n v)
  | [], _, _, _ => rfl
  | u :: r, 0, v, k => rfl
  | u :: r, n + 1, v, k => by rw [setK, setK_eq r n v]; rfl
theorem at?_eq : ∀ (t : List Value) (n : Nat), at? t n = t[n]?
  | [], _ => by simp [at?]
  | u :: r, 0 => rfl
  | u :: r, n + 1 => by rw [at?, at?_eq r n]; simp
theorem atD_eq : ∀ (t : List Value) (n : Nat), atD t n = t[n]?.getD undef
  | [], _ => by simp [atD]
  | u :: r, 0 => rfl
  | u :: r, n + 1 => by rw [atD, atD_eq r n]; simp
theorem takeN_eq : ∀ (t : List Value) (n : Nat), takeN t n = t.take n
  | [], _ => by simp [takeN]
  | u :: r, 0 => rfl
  | u :: r, n + 1 => by rw [takeN, takeN_eq r n]; rfl
theorem dropN_eq : ∀ (t : List Value) (n : Nat), dropN t n = t.drop n
  | [], _ => by simp [dropN]
  | u :: r, 0 => rfl
  | u :: r, n + 1 => by rw [dropN, dropN_eq r n]; rfl
/-- a frame. -/
structure TR (ρ : Rho) (t : List Value) (a : Act) : Prop where
  vals : L2 ρ t a.tmps.toList
  defers : a.defers = []
theorem TR.mono {ρ ρ' : Rho} (h : Sub ρ ρ') {t : List Value} {a : Act} (ht : TR ρ t a) : TR ρ' t a := ⟨ht.vals.mono h, ht.defers⟩
theorem undef_vr (ρ : Rho) : VR ρ undef undef := vr_tuple.2 ⟨#[], rfl, L2.nil _⟩
theorem TR.at {ρ : Rho} {t : List Value} {a : Act} (ht : TR ρ t a) (n : Nat) : VR ρ (atD t n) (a.tmps.getD n undef) := by
  rw [atD_eq, Array.getD_eq_getD_getElem?]
  cases h : t[n]? with
  | none =>
    have hl : t.length ≤ n := List.getElem?_eq_none_iff.1 h
    have : a.tmps[n]? = none := by
      rw [Array.getElem?_eq_none_iff]
      have := ht.vals.1
      simp at this; omega
    rw [this]; exact undef_vr ρ
  | some v =>
    obtain ⟨u, e, hu⟩ := ht.vals.2 n v h
    have : a.tmps[n]? = some u := by simpa using e
    rw [this]; exact hu
theorem TR.opv {ρ : Rho} {t : List Value} {a : Act} (ht : TR ρ t a) (x : Operand) : VR ρ (opv t x) (a.eval x) := by
  cases x with
  | tmp n => exact ht.at n
  | const v => exact const_vr v
  | global g => show VR ρ junk _; rw [VR]; trivial
  | func f => exact vr_func.2 ⟨#[], #[], rfl, L2.nil _, L2.nil _⟩
theorem L2.set {ρ : Rho} {xs ys : List Value} (h : L2 ρ xs ys) (n : Nat) {v u : Value} (hv : VR ρ v u) : L2 ρ (xs.set n v) (ys.set n u) := by
  refine ⟨by simp [h.1], fun i x hx => ?_⟩
  rw [List.getElem?_set] at hx ⊢
  by_cases hn : n = i
  · rw [if_pos hn] at hx ⊢
    split at hx
    · rename_i hl
      simp at hx; subst hx
      exact ⟨u, by rw [if_pos (by rw [h.1]; exact hl)], hv⟩
    · cases hx
  · rw [if_neg hn] at hx ⊢
    exact h.2 i x hx
theorem TR.put {ρ : Rho} {t : List Value} {a : Act} (ht : TR ρ t a) {v u : Value} (hv : VR ρ v u) (n : Nat) : TR ρ (t.set n v) (a.put (some n) u) :=
  ⟨by show L2 ρ _ (a.tmps.setIfInBounds n u).toList; rw [Array.toList_setIfInBounds]; exact ht.vals.set n hv, ht.defers⟩
theorem putK_ok {ρ : Rho} {t : List Value} {a : Act} (ht : TR ρ t a) {v u : Value} (hv : VR ρ v u) {d : Option Tmp} {k : List Value → Bool} (h : putK t d v k = true) : ∃ t', k t' = true ∧ TR ρ t' (a.put d u) := by
  cases d with
  | none => exact ⟨t, h, ht⟩
  | some n =>
    rw [putK] at h
    simp only [forceV_eq, setK_eq] at h
    exact ⟨_, h, ht.put hv n⟩
/-- the births of a map's entries. -/
def Born (cs : Array MapEntry) (clock : Nat) : Prop := (∀ x ∈ cs.toList, x.born < clock) ∧ (cs.toList.map (·.born)).Nodup
/-- the rows as they lie. -/
structure R (ρ : Rho) (s : St) (w : World) : Prop where
  dom : ∀ n, s.c ≤ n → ρ n = none
  lt : ∀ n x, ρ n = some x → x.1 < w.heap.size
  rows : ∀ n r, s.get n = some r → ∃ (x : Nat × Nat × Nat) (c : Array Value), ρ n = some x ∧ w.heap[x.1]? = some (.cells c r.elem) ∧ c.size = x.2.1 ∧ r.cells.length ≤ x.2.1 ∧ L2 ρ r.cells (c.toList.take r.cells.length) ∧ (∀ v ∈ r.cells, one v = true) ∧ x.2.2 = r.sz ∧ (r.sz = 0 → r.cells.length = x.2.1)
  maps : ∀ n es, s.gm n = some es → ∃ (x : Nat × Nat × Nat) (cs : Array MapEntry) (clock : Nat), ρ n = some x ∧ w.heap[x.1]? = some (.map cs clock) ∧ (cs.size = es.length ∧ Born cs clock) ∧ ∀ (i : Nat) (kv : Value × Value), es[i]? = some kv → ∃ e, cs[i]? = some e ∧ VR ρ kv.1 e.key ∧ VR ρ kv.2 e.val
  injm : ∀ n m es fs x y, s.gm n = some es → s.gm m = some fs → ρ n = some x → ρ m = some y → x.1 = y.1 → n = m
  inj : ∀ n m r q x y, s.get n = some r → s.get m = some q → ρ n = some x → ρ m = some y → x.1 = y.1 → n = m
/-- the blocks of the rows. -/
def Own (ρ : Rho) (s : St) (k : Nat) : Prop := ∃ n x, ((∃ r, s.get n = some r) ∨ ∃ es, s.gm n = some es) ∧ ρ n = some x ∧ x.1 = k
/-- what a run leaves as it was. -/
structure Ext (ρ : Rho) (s : St) (w : World) (ρ' : Rho) (s' : St) (w' : World) : Prop where
  le : s.c ≤ s'.c
  sub : Sub ρ ρ'
  size : w.heap.size ≤ w'.heap.size
  os : w'.os = w.os
  tape : w'.tape = w.tape
  output : w'.output = w.output
  frame : ∀ k, k < w.heap.size → ¬ Own ρ s k → w'.heap[k]? = w.heap[k]?
  own : ∀ k, Own ρ' s' k → Own ρ s k ∨ w.heap.size ≤ k
  old : ∀ n, n < s.c → ρ' n = ρ n
theorem Ext.refl (ρ : Rho) (s : St) (w : World) : Ext ρ s w ρ s w := ⟨Nat.le_refl _, fun _ _ h => h, Nat.le_refl _, rfl, rfl, rfl, fun _ _ _ => rfl, fun _ h => .inl h, fun _ _ => rfl⟩
theorem Ext.trans {ρ ρ1 ρ2 : Rho} {s s1 s2 : St} {w w1 w2 : World} (h : Ext ρ s w ρ1 s1 w1) (k : Ext ρ1 s1 w1 ρ2 s2 w2) : Ext ρ s w ρ2 s2 w2 :=
  ⟨Nat.le_trans h.le k.le, fun n x hx => k.sub n x (h.sub n x hx), Nat.le_trans h.size k.size, k.os.trans h.os, k.tape.trans h.tape, k.output.trans h.output,
    fun j hj ho => (k.frame j (Nat.lt_of_lt_of_le hj h.size) (fun ho' => by rcases h.own j ho' with h1 | h1; exact ho h1; omega)).trans (h.frame j hj ho),
    fun j hj => by
      rcases k.own j hj with h1 | h1
      · exact h.own j h1
      · exact .inr (Nat.le_trans h.size h1),
    fun n hn => (k.old n (Nat.lt_of_lt_of_le hn h.le)).trans (h.old n hn)⟩
theorem Ext.drew {ρ : Rho} {s : St} {w : World} : Ext ρ s w ρ s w.drew := ⟨Nat.le_refl _, fun _ _ h => h, Nat.le_refl _, rfl, rfl, rfl, fun _ _ _ => rfl, fun _ h => .inl h, fun _ _ => rfl⟩
theorem R.drew {ρ : Rho} {s : St} {w : World} (h : R ρ s w) : R ρ s w.drew := ⟨h.dom, h.lt, h.rows, h.maps, h.injm, h.inj⟩
end Go.Proofs.YtpbfmhleeihhdaaGreatDoor.Am
