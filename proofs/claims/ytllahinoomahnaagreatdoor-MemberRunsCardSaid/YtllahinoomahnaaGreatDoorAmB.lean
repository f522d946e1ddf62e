import Derived.Test.YtllahinoomahnaaGreatDoorAmA
namespace Go.Proofs.YtllahinoomahnaaGreatDoor.Am
open Go

theorem forceN_eq (k : Nat → Bool) (n : Nat) : forceN k n = k n := by cases n <;> rfl
theorem forceI_eq (k : Int → Bool) (n : Int) : forceI k n = k n := by cases n <;> simp [forceI, forceN_eq]
theorem forceB_eq (k : Bool → Bool) (b : Bool) : forceB k b = k b := by cases b <;> rfl
theorem forceL_eq {α : Type} : ∀ (l : List α) (k : List α → Bool), forceL l k = k l
  | [], _ => rfl
  | a :: r, k => by rw [forceL, forceL_eq r]
theorem forceA_eq (k : Option Addr → Bool) (a : Option Addr) : forceA k a = k a := by cases a <;> simp [forceA, forceN_eq]
theorem forceV_eq (k : Value → Bool) (v : Value) : forceV k v = k v := by
  cases v <;> simp [forceV, forceN_eq, forceI_eq, forceB_eq, forceA_eq, forceS, forceL_eq]
theorem setK_eq : ∀ (t : List Value) (n : Nat) (v : Value) (k : List Value → Bool), setK t n v k = k (t.set n v)
  | [], _, _, _ => rfl
  | u :: r, 0, v, k => rfl
  | u :: r, n + 1, v, k => by rw [setK, setK_eq r n v]; rfl
theorem at?_eq : ∀ (t : List Value) (n : Nat), at? t n = t[n]?
  | [], _ => by simp [at?]
  | u :: r, 0 => rfl
  | u :: r, n + 1 => by rw [at?, at?_eq r n]; simp
theorem atD_eq : ∀ (t : List Value) (n : Nat), atD t n = t[n]?.getD undef
  | [], _ => by simp [atD]
  | u :: r, 0 => rfl
  | u :: r, n + 1 => by rw [atD, atD_eq r n]; simp
theorem takeN_eq : ∀ (t : List Value) (n : Nat), takeN t n = t.take n
  | [], _ => by simp [takeN]
  | u :: r, 0 => rfl
  | u :: r, n + 1 => by rw [takeN, takeN_eq r n]; rfl
theorem dropN_eq : ∀ (t : List Value) (n : Nat), dropN t n = t.drop n
  | [], _ => by simp [dropN]
  | u :: r, 0 => rfl
  | u :: r, n + 1 => by rw [dropN, dropN_eq r n]; rfl
/-- a frame. -/
structure TR (ρ : Rho) (t : List Value) (a : Act) : Prop where
  vals : L2 ρ t a.tmps.toList
  defers : a.defers = []
theorem TR.mono {ρ ρ' : Rho} (h : Sub ρ ρ') {t : List Value} {a : Act} (ht : TR ρ t a) : TR ρ' t a := ⟨ht.vals.mono h, ht.defers⟩
theorem undef_vr (ρ : Rho) : VR ρ undef undef := vr_tuple.2 ⟨#[], rfl, L2.nil _⟩
theorem TR.at {ρ : Rho} {t : List Value} {a : Act} (ht : TR ρ t a) (n : Nat) : VR ρ (atD t n) (a.tmps.getD n undef) := by
  rw [atD_eq, Array.getD_eq_getD_getElem?]
  cases h : t[n]? with
  | none =>
    have hl : t.length ≤ n := List.getElem?_eq_none_iff.1 h
    have : a.tmps[n]? = none := by
      rw [Array.getElem?_eq_none_iff]
      have := ht.vals.1
      simp at this; omega
    rw [this]; exact undef_vr ρ
  | some v =>
    obtain ⟨u, e, hu⟩ := ht.vals.2 n v h
    have : a.tmps[n]? = some u := by simpa using e
    rw [this]; exact hu
theorem TR.opv {ρ : Rho} {t : List Value} {a : Act} (ht : TR ρ t a) (x : Operand) : VR ρ (opv t x) (a.eval x) := by
  cases x with
  | tmp n => exact ht.at n
  | const v => exact const_vr v
  | global g => show VR ρ junk _; rw [VR]; trivial
  | func f => exact vr_func.2 ⟨#[], #[], rfl, L2.nil _, L2.nil _⟩
theorem L2.set {ρ : Rho} {xs ys : List Value} (h : L2 ρ xs ys) (n : Nat) {v u : Value} (hv : VR ρ v u) : L2 ρ (xs.set n v) (ys.set n u) := by
  refine ⟨by simp [h.1], fun i x hx => ?_⟩
  rw [List.getElem?_set] at hx ⊢
  by_cases hn : n = i
  · rw [if_pos hn] at hx ⊢
    split at hx
    · rename_i hl
      simp at hx; subst hx
      exact ⟨u, by rw [if_pos (by rw [h.1]; exact hl)], hv⟩
    · cases hx
  · rw [if_neg hn] at hx ⊢
    exact h.2 i x hx
theorem TR.put {ρ : Rho} {t : List Value} {a : Act} (ht : TR ρ t a) {v u : Value} (hv : VR ρ v u) (n : Nat) : TR ρ (t.set n v) (a.put (some n) u) :=
  ⟨by show L2 ρ _ (a.tmps.setIfInBounds n u).toList; rw [Array.toList_setIfInBounds]; exact ht.vals.set n hv, ht.defers⟩
theorem putK_ok {ρ : Rho} {t : List Value} {a : Act} (ht : TR ρ t a) {v u : Value} (hv : VR ρ v u) {d : Option Tmp} {k : List Value → Bool} (h : putK t d v k = true) : ∃ t', k t' = true ∧ TR ρ t' (a.put d u) := by
  cases d with
  | none => exact ⟨t, h, ht⟩
  | some n =>
    rw [putK] at h
    simp only [forceV_eq, setK_eq] at h
    exact ⟨_, h, ht.put hv n⟩
/-- the births of a map's entries. -/
def Born (cs : Array MapEntry) (clock : Nat) : Prop := (∀ x ∈ cs.toList, x.born < clock) ∧ (cs.toList.map (·.born)).Nodup
/-- an iterator and its map. -/
structure IR (n : Nat) (cur : Value) (left : List Nat) (cs : Array MapEntry) (clock since : Nat) (seen : Array Nat) (last : Nat) : Prop where
  le : n ≤ cs.size
  clk : clock + n = since + cs.size
  l1 : since ≤ last
  l2 : last ≤ clock
  old : ∀ i e, cs[i]? = some e → i < n → e.born < since
  left : ∀ i e, i < n → cs[i]? = some e → (i ∈ left ↔ seen.contains e.born = false)
  cur : ∀ i, cur = .int .i64 (.ofNat i) → ∃ (e : MapEntry) (seen0 : Array Nat), cs[i]? = some e ∧ i < n ∧ seen = seen0.push e.born
def ITm (ρ : Rho) (w : World) (b n : Nat) (cur : Value) (left : List Nat) : Option Nat → Prop
  | none => ∃ p q r, w.heap[b]? = some (.mapIter none p q r)
  | some m => ∃ (y : Nat × Nat × Nat) (cs : Array MapEntry) (clock since : Nat) (seen : Array Nat) (last : Nat), ρ m = some y ∧ w.heap[y.1]? = some (.map cs clock) ∧ Born cs clock ∧ w.heap[b]? = some (.mapIter (some y.1) since seen last) ∧ IR n cur left cs clock since seen last
def IT (ρ : Rho) (w : World) (es : List (Value × Value)) (b : Nat) : Prop := ∃ t n cur left, es = itList (.map t) n cur left ∧ ITm ρ w b n cur left t
def MM (ρ : Rho) (w : World) (es : List (Value × Value)) (b : Nat) : Prop := ∃ (cs : Array MapEntry) (clock : Nat), w.heap[b]? = some (.map cs clock) ∧ (cs.size = es.length ∧ Born cs clock ∧ isIt es = false) ∧ ∀ (i : Nat) (kv : Value × Value), es[i]? = some kv → ∃ e, cs[i]? = some e ∧ VR ρ kv.1 e.key ∧ VR ρ kv.2 e.val
def MR (ρ : Rho) (w : World) (es : List (Value × Value)) (b : Nat) : Prop := MM ρ w es b ∨ IT ρ w es b
def noCells (o : Obj) : Prop := ∀ c e f, o ≠ .cells c e f
theorem MR.nc {ρ : Rho} {w : World} {es : List (Value × Value)} {b : Nat} (h : MR ρ w es b) : ∃ o, w.heap[b]? = some o ∧ noCells o := by
  rcases h with ⟨cs, cl, h1, _⟩ | ⟨t, n, cur, left, _, h⟩
  · exact ⟨_, h1, fun _ _ _ e => by cases e⟩
  · cases t with
    | none => obtain ⟨p, q, r, h⟩ := h; exact ⟨_, h, fun _ _ _ e => by cases e⟩
    | some m => obtain ⟨y, cs, cl, si, se, la, _, _, _, h, _⟩ := h; exact ⟨_, h, fun _ _ _ e => by cases e⟩
theorem MR.no {ρ : Rho} {w : World} {es : List (Value × Value)} {b : Nat} (h : MR ρ w es b) {c : Array Value} {e : TypeId} {f : Nat × Nat} (hc : w.heap[b]? = some (.cells c e f)) : False := by
  obtain ⟨o, h1, h2⟩ := h.nc
  rw [hc] at h1
  obtain rfl := Option.some.inj h1
  exact h2 _ _ _ rfl
theorem MR.keep {ρ ρ' : Rho} {w w' : World} {es : List (Value × Value)} {b : Nat} (h : MR ρ w es b) (hs : Sub ρ ρ') (hk : ∀ (k : Nat) (o : Obj), w.heap[k]? = some o → noCells o → w'.heap[k]? = some o) : MR ρ' w' es b := by
  rcases h with ⟨cs, cl, h1, h2, h3⟩ | ⟨t, n, cur, left, he, h⟩
  · exact .inl ⟨cs, cl, hk _ _ h1 (fun _ _ _ e => by cases e), h2, fun i kv hi => let ⟨e, a, b, c⟩ := h3 i kv hi; ⟨e, a, b.mono hs, c.mono hs⟩⟩
  · refine .inr ⟨t, n, cur, left, he, ?_⟩
    cases t with
    | none => obtain ⟨p, q, r, h⟩ := h; exact ⟨p, q, r, hk _ _ h (fun _ _ _ e => by cases e)⟩
    | some m =>
      obtain ⟨y, cs, cl, si, se, la, g1, g2, g3, g4, g5⟩ := h
      exact ⟨y, cs, cl, si, se, la, hs _ _ g1, hk _ _ g2 (fun _ _ _ e => by cases e), g3, hk _ _ g4 (fun _ _ _ e => by cases e), g5⟩
/-- what a run may do to a map. -/
structure MStep (cs : Array MapEntry) (cl : Nat) (cs' : Array MapEntry) (cl' : Nat) : Prop where
  size : cs.size ≤ cs'.size
  clk : cl' + cs.size = cl + cs'.size
  born : ∀ (i : Nat) (e : MapEntry), cs[i]? = some e → ∃ e' : MapEntry, cs'[i]? = some e' ∧ e'.born = e.born
  ok : Born cs cl → Born cs' cl'
theorem MStep.refl (cs : Array MapEntry) (cl : Nat) : MStep cs cl cs cl := ⟨Nat.le_refl _, rfl, fun _ e h => ⟨e, h, rfl⟩, id⟩
theorem MStep.trans {a b c : Array MapEntry} {x y z : Nat} (h : MStep a x b y) (k : MStep b y c z) : MStep a x c z :=
  ⟨Nat.le_trans h.size k.size, by have := h.clk; have := k.clk; omega, fun i e he => let ⟨e1, h1, h2⟩ := h.born i e he; let ⟨e2, h3, h4⟩ := k.born i e1 h1; ⟨e2, h3, h4.trans h2⟩, fun hb => k.ok (h.ok hb)⟩
theorem IR.step {n : Nat} {cur : Value} {left : List Nat} {cs cs' : Array MapEntry} {cl cl' si : Nat} {se : Array Nat} {la : Nat} (h : IR n cur left cs cl si se la) (k : MStep cs cl cs' cl') : IR n cur left cs' cl' si se la := by
  have h1 := h.le
  have h2 := h.clk
  have h3 := h.l2
  have k1 := k.size
  have k2 := k.clk
  have hb : ∀ (i : Nat) (e' : MapEntry), i < n → cs'[i]? = some e' → ∃ e : MapEntry, cs[i]? = some e ∧ e'.born = e.born := fun i e' hi he => by
    have hlt : i < cs.size := by omega
    obtain ⟨e1, g1, g2⟩ := k.born i cs[i] (Array.getElem?_eq_getElem hlt)
    rw [he] at g1
    obtain rfl := Option.some.inj g1
    exact ⟨cs[i], Array.getElem?_eq_getElem hlt, g2⟩
  refine ⟨by omega, by omega, h.l1, by omega, fun i e' he hi => ?_, fun i e' hi he => ?_, fun i hi => ?_⟩
  · obtain ⟨e, g1, g2⟩ := hb i e' hi he
    rw [g2]; exact h.old i e g1 hi
  · obtain ⟨e, g1, g2⟩ := hb i e' hi he
    rw [g2]; exact h.left i e hi g1
  · obtain ⟨e, s0, g1, g2, g3⟩ := h.cur i hi
    obtain ⟨e', g4, g5⟩ := k.born i e g1
    exact ⟨e', s0, g4, g2, by rw [g3, g5]⟩
def MapsGo (w w' : World) : Prop := ∀ (k : Nat) (cs : Array MapEntry) (cl : Nat), w.heap[k]? = some (.map cs cl) → ∃ cs' cl', w'.heap[k]? = some (.map cs' cl') ∧ MStep cs cl cs' cl'
theorem MapsGo.of {w w' : World} (h : ∀ (k : Nat) (o : Obj), w.heap[k]? = some o → noCells o → w'.heap[k]? = some o) : MapsGo w w' := fun k cs cl hk => ⟨cs, cl, h k _ hk (fun _ _ _ e => by cases e), MStep.refl _ _⟩
/-- the rows as they lie. -/
structure R (ρ : Rho) (s : St) (w : World) : Prop where
  dom : ∀ n, s.c ≤ n → ρ n = none
  lt : ∀ n x, ρ n = some x → x.1 < w.heap.size
  rows : ∀ n r, s.get n = some r → ∃ (x : Nat × Nat × Nat) (c : Array Value), ρ n = some x ∧ w.heap[x.1]? = some (.cells c r.elem) ∧ c.size = x.2.1 ∧ r.cells.length ≤ x.2.1 ∧ L2 ρ r.cells (c.toList.take r.cells.length) ∧ (∀ v ∈ r.cells, one v = true) ∧ x.2.2 = r.sz ∧ (r.sz = 0 → r.cells.length = x.2.1)
  maps : ∀ n es, s.gm n = some es → ∃ x : Nat × Nat × Nat, ρ n = some x ∧ MR ρ w es x.1
  injm : ∀ n m es fs x y, s.gm n = some es → s.gm m = some fs → ρ n = some x → ρ m = some y → x.1 = y.1 → n = m
  inj : ∀ n m r q x y, s.get n = some r → s.get m = some q → ρ n = some x → ρ m = some y → x.1 = y.1 → n = m
/-- the blocks of the rows. -/
def Own (ρ : Rho) (s : St) (k : Nat) : Prop := ∃ n x, ((∃ r, s.get n = some r) ∨ ∃ es, s.gm n = some es) ∧ ρ n = some x ∧ x.1 = k
/-- what a run leaves as it was. -/
structure Ext (ρ : Rho) (s : St) (w : World) (ρ' : Rho) (s' : St) (w' : World) : Prop where
  le : s.c ≤ s'.c
  sub : Sub ρ ρ'
  size : w.heap.size ≤ w'.heap.size
  os : w'.os = w.os
  tape : w'.tape = w.tape
  output : w'.output = w.output
  frame : ∀ k, k < w.heap.size → ¬ Own ρ s k → w'.heap[k]? = w.heap[k]?
  own : ∀ k, Own ρ' s' k → Own ρ s k ∨ w.heap.size ≤ k
  old : ∀ n, n < s.c → ρ' n = ρ n
  mp : MapsGo w w'
theorem Ext.refl (ρ : Rho) (s : St) (w : World) : Ext ρ s w ρ s w := ⟨Nat.le_refl _, fun _ _ h => h, Nat.le_refl _, rfl, rfl, rfl, fun _ _ _ => rfl, fun _ h => .inl h, fun _ _ => rfl, MapsGo.of fun _ _ h _ => h⟩
theorem Ext.trans {ρ ρ1 ρ2 : Rho} {s s1 s2 : St} {w w1 w2 : World} (h : Ext ρ s w ρ1 s1 w1) (k : Ext ρ1 s1 w1 ρ2 s2 w2) : Ext ρ s w ρ2 s2 w2 :=
  ⟨Nat.le_trans h.le k.le, fun n x hx => k.sub n x (h.sub n x hx), Nat.le_trans h.size k.size, k.os.trans h.os, k.tape.trans h.tape, k.output.trans h.output,
    fun j hj ho => (k.frame j (Nat.lt_of_lt_of_le hj h.size) (fun ho' => by rcases h.own j ho' with h1 | h1; exact ho h1; omega)).trans (h.frame j hj ho),
    fun j hj => by
      rcases k.own j hj with h1 | h1
      · exact h.own j h1
      · exact .inr (Nat.le_trans h.size h1),
    fun n hn => (k.old n (Nat.lt_of_lt_of_le hn h.le)).trans (h.old n hn),
    fun j cs cl hj => let ⟨c1, l1, h1, s1⟩ := h.mp j cs cl hj; let ⟨c2, l2, h2, s2⟩ := k.mp j c1 l1 h1; ⟨c2, l2, h2, s1.trans s2⟩⟩
theorem Ext.drew {ρ : Rho} {s : St} {w : World} : Ext ρ s w ρ s w.drew := ⟨Nat.le_refl _, fun _ _ h => h, Nat.le_refl _, rfl, rfl, rfl, fun _ _ _ => rfl, fun _ h => .inl h, fun _ _ => rfl, MapsGo.of fun _ _ h _ => h⟩
theorem R.drew {ρ : Rho} {s : St} {w : World} (h : R ρ s w) : R ρ s w.drew := ⟨h.dom, h.lt, h.rows, h.maps, h.injm, h.inj⟩
end Go.Proofs.YtllahinoomahnaaGreatDoor.Am
