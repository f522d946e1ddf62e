import Derived.Test.YtllahinoomahnaaGreatDoorAmE
set_option linter.unusedSimpArgs false
namespace Go.Proofs.YtllahinoomahnaaGreatDoor.Am
open Go

def upd (ρ : Rho) (n : Nat) (x : Nat × Nat × Nat) : Rho := fun m => if m = n then some x else ρ m
theorem upd_same (ρ : Rho) (n : Nat) (x : Nat × Nat × Nat) : upd ρ n x n = some x := by simp [upd]
theorem upd_other {ρ : Rho} {n m : Nat} {x : Nat × Nat × Nat} (h : m ≠ n) : upd ρ n x m = ρ m := by simp [upd, h]
theorem sub_upd {ρ : Rho} {n : Nat} (h : ρ n = none) (x : Nat × Nat × Nat) : Sub ρ (upd ρ n x) := fun m y hy => by
  by_cases e : m = n
  · subst e; rw [h] at hy; cases hy
  · rw [upd_other e]; exact hy
theorem putRowK_ok {s : St} {n : Nat} {r : Option Row} {k : St → Bool} (h : putRowK s n r k = true) : ∃ s', k s' = true ∧ s'.c = s.c ∧ (∀ m q, s'.get m = some q → (m = n ∧ r = some q) ∨ (m ≠ n ∧ s.get m = some q)) ∧ ∀ m, s'.gm m = s.gm m := by
  obtain ⟨t', h1, h2⟩ := Tr.setK_get _ _ _ _ _ h
  exact ⟨_, h1, rfl, h2, fun _ => rfl⟩
theorem newK_ok {s : St} {cs : List Value} {ty : TypeId} {sz : Nat} {k : Nat → St → Bool} (h : newK s cs ty sz k = true) : ∃ s', k s.c s' = true ∧ s'.c = s.c + 1 ∧ (∀ m q, s'.get m = some q → (m = s.c ∧ q = ⟨cs, ty, sz⟩) ∨ (m ≠ s.c ∧ s.get m = some q)) ∧ ∀ m, s'.gm m = s.gm m := by
  rw [newK, forceL_eq] at h
  obtain ⟨t', h1, h2⟩ := Tr.setK_get _ _ _ _ _ h
  rw [forceN_eq] at h1
  refine ⟨_, h1, rfl, fun m q hq => ?_, fun _ => rfl⟩
  rcases h2 m q hq with ⟨e, e'⟩ | h3
  · exact .inl ⟨e, (Option.some.inj e').symm⟩
  · exact .inr h3
section
variable {ρ : Rho} {s s' : St} {w w' : World}
/-- a new row in a new block. -/
theorem R.new (hR : R ρ s w) {b sz : Nat} {c : Array Value} {cs : List Value} {ty : TypeId} (hc : s'.c = s.c + 1) (hg : ∀ m q, s'.get m = some q → (m = s.c ∧ q = ⟨cs, ty, sz⟩) ∨ (m ≠ s.c ∧ s.get m = some q)) (hgm : ∀ m, s'.gm m = s.gm m)
    (hb : w.heap.size ≤ b) (hw : w'.heap[b]? = some (.cells c ty)) (hs : w.heap.size ≤ w'.heap.size) (hk : ∀ k, k < w.heap.size → w'.heap[k]? = w.heap[k]?) (hl : L2 ρ cs (c.toList.take cs.length)) (hle : cs.length ≤ c.size) (ho : ∀ v ∈ cs, one v = true) (hx0 : sz = 0 → cs.length = c.size) (e1 : w'.os = w.os) (e2 : w'.tape = w.tape) (e3 : w'.output = w.output) :
    R (upd ρ s.c (b, c.size, sz)) s' w' ∧ Ext ρ s w (upd ρ s.c (b, c.size, sz)) s' w' := by
  have hn := hR.dom s.c (Nat.le_refl _)
  have hsub := sub_upd hn (b, c.size, sz)
  have hlt : ∀ n x, ρ n = some x → x.1 < w.heap.size := hR.lt
  have hmne : ∀ n es, s.gm n = some es → n ≠ s.c := fun n es h e => by
    obtain ⟨x, hx, _⟩ := hR.maps n es h
    rw [e, hn] at hx; cases hx
  refine ⟨⟨fun n h => ?_, fun n x h => ?_, fun n r h => ?_, fun n es h => ?_, fun n m es fs x y h1 h2 h3 h4 h5 => ?_, fun n m r q x y h1 h2 h3 h4 h5 => ?_⟩, ⟨by omega, hsub, hs, e1, e2, e3, fun k h1 _ => hk k h1, ?_, fun j hj => upd_other (by omega), MapsGo.of fun k o hk' _ => (hk k (Array.getElem?_eq_some_iff.1 hk').1).trans hk'⟩⟩
  · rw [upd_other (by omega)]; exact hR.dom n (by omega)
  · by_cases e : n = s.c
    · subst e
      rw [upd_same] at h
      obtain rfl := Option.some.inj h
      exact (Array.getElem?_eq_some_iff.1 hw).1
    · rw [upd_other e] at h
      exact Nat.lt_of_lt_of_le (hlt n x h) hs
  · rcases hg n r h with ⟨rfl, rfl⟩ | ⟨e, h⟩
    · exact ⟨_, c, upd_same _ _ _, hw, rfl, hle, hl.mono hsub, ho, rfl, hx0⟩
    · obtain ⟨x, c', h1, h2, h3, h4, h5, h6⟩ := hR.rows n r h
      exact ⟨x, c', by rw [upd_other e]; exact h1, (hk _ (hlt n x h1)).trans h2, h3, h4, h5.mono hsub, h6⟩
  · rw [hgm] at h
    obtain ⟨x, h1, h2⟩ := hR.maps n es h
    exact ⟨x, by rw [upd_other (hmne n es h)]; exact h1, h2.keep hsub fun k o hk' _ => (hk k (Array.getElem?_eq_some_iff.1 hk').1).trans hk'⟩
  · rw [hgm] at h1 h2
    rw [upd_other (hmne n es h1)] at h3
    rw [upd_other (hmne m fs h2)] at h4
    exact hR.injm n m es fs x y h1 h2 h3 h4 h5
  · rcases hg n r h1 with ⟨rfl, rfl⟩ | ⟨e, h1⟩ <;> rcases hg m q h2 with ⟨rfl, rfl⟩ | ⟨e', h2⟩
    · rfl
    · rw [upd_same] at h3
      rw [upd_other e'] at h4
      obtain rfl := Option.some.inj h3
      have := hlt m y h4
      simp only at h5; omega
    · rw [upd_same] at h4
      rw [upd_other e] at h3
      obtain rfl := Option.some.inj h4
      have := hlt n x h3
      simp only at h5; omega
    · rw [upd_other e] at h3
      rw [upd_other e'] at h4
      exact hR.inj n m r q x y h1 h2 h3 h4 h5
  · rintro k ⟨n, x, ⟨r, h1⟩ | ⟨es, h1⟩, h2, rfl⟩
    · rcases hg n r h1 with ⟨rfl, rfl⟩ | ⟨e, h1⟩
      · rw [upd_same] at h2
        obtain rfl := Option.some.inj h2
        exact .inr hb
      · rw [upd_other e] at h2
        exact .inl ⟨n, x, .inl ⟨r, h1⟩, h2, rfl⟩
    · rw [hgm] at h1
      rw [upd_other (hmne n es h1)] at h2
      exact .inl ⟨n, x, .inr ⟨es, h1⟩, h2, rfl⟩
/-- a row under another name, longer, in the same block. -/
theorem R.grown (hR : R ρ s w) {n : Nat} {r : Row} {x : Nat × Nat × Nat} (hr : s.get n = some r) (hx : ρ n = some x) (hxs : x.2.2 = r.sz) {c : Array Value} {cs : List Value} (hc : s'.c = s.c + 1) (hg : ∀ m q, s'.get m = some q → (m = s.c ∧ q = ⟨cs, r.elem, r.sz⟩) ∨ (m ≠ s.c ∧ m ≠ n ∧ s.get m = some q)) (hgm : ∀ m, s'.gm m = s.gm m)
    (hw : w'.heap[x.1]? = some (.cells c r.elem)) (hs : w.heap.size ≤ w'.heap.size) (hk : ∀ k, k < w.heap.size → k ≠ x.1 → w'.heap[k]? = w.heap[k]?) (hl : L2 ρ cs (c.toList.take cs.length)) (hle : cs.length ≤ c.size) (hsz : c.size = x.2.1) (ho : ∀ v ∈ cs, one v = true) (hx0 : r.sz = 0 → cs.length = x.2.1) (e1 : w'.os = w.os) (e2 : w'.tape = w.tape) (e3 : w'.output = w.output) {c0 : Array Value} (hw0 : w.heap[x.1]? = some (.cells c0 r.elem)) :
    R (upd ρ s.c x) s' w' ∧ Ext ρ s w (upd ρ s.c x) s' w' := by
  have hn := hR.dom s.c (Nat.le_refl _)
  have hsub := sub_upd hn x
  have hlt : ∀ n x, ρ n = some x → x.1 < w.heap.size := hR.lt
  have hne : ∀ m q y, m ≠ n → s.get m = some q → ρ m = some y → y.1 ≠ x.1 := fun m q y h1 h2 h3 e => h1 (hR.inj m n q r y x h2 hr h3 hx e)
  have hmne : ∀ n es, s.gm n = some es → n ≠ s.c := fun n es h e => by
    obtain ⟨x, hx, _⟩ := hR.maps n es h
    rw [e, hn] at hx; cases hx
  have hmb : ∀ m es y, s.gm m = some es → ρ m = some y → y.1 ≠ x.1 := fun m es y h1 h2 e => by
    obtain ⟨y', q1, q2⟩ := hR.maps m es h1
    rw [h2] at q1
    obtain rfl := Option.some.inj q1
    rw [e] at q2
    exact q2.no hw0
  refine ⟨⟨fun m h => ?_, fun m y h => ?_, fun m q h => ?_, fun m es h => ?_, fun m k es fs y z h1 h2 h3 h4 h5 => ?_, fun m k q p y z h1 h2 h3 h4 h5 => ?_⟩, ⟨by omega, hsub, hs, e1, e2, e3, fun k h1 h2 => hk k h1 (fun e => h2 ⟨n, x, .inl ⟨r, hr⟩, hx, e.symm⟩), ?_, fun j hj => upd_other (by omega), MapsGo.of fun k o hk' hn => (hk k (Array.getElem?_eq_some_iff.1 hk').1 (fun e => by rw [e, hw0] at hk'; exact hn _ _ _ (Option.some.inj hk').symm)).trans hk'⟩⟩
  · rw [upd_other (by omega)]; exact hR.dom m (by omega)
  · by_cases e : m = s.c
    · subst e
      rw [upd_same] at h
      obtain rfl := Option.some.inj h
      exact Nat.lt_of_lt_of_le (hlt n _ hx) hs
    · rw [upd_other e] at h
      exact Nat.lt_of_lt_of_le (hlt m y h) hs
  · rcases hg m q h with ⟨rfl, rfl⟩ | ⟨e, en, h⟩
    · exact ⟨_, c, upd_same _ _ _, hw, hsz, by rw [← hsz]; exact hle, hl.mono hsub, ho, hxs, hx0⟩
    · obtain ⟨y, c', h1, h2, h3, h4, h5, h6⟩ := hR.rows m q h
      exact ⟨y, c', by rw [upd_other e]; exact h1, (hk _ (hlt m y h1) (hne m q y en h h1)).trans h2, h3, h4, h5.mono hsub, h6⟩
  · rw [hgm] at h
    obtain ⟨y, h1, h2⟩ := hR.maps m es h
    exact ⟨y, by rw [upd_other (hmne m es h)]; exact h1, h2.keep hsub fun k o hk' hn => (hk k (Array.getElem?_eq_some_iff.1 hk').1 (fun e => by rw [e, hw0] at hk'; exact hn _ _ _ (Option.some.inj hk').symm)).trans hk'⟩
  · rw [hgm] at h1 h2
    rw [upd_other (hmne m es h1)] at h3
    rw [upd_other (hmne k fs h2)] at h4
    exact hR.injm m k es fs y z h1 h2 h3 h4 h5
  · rcases hg m q h1 with ⟨rfl, rfl⟩ | ⟨e, en, h1⟩ <;> rcases hg k p h2 with ⟨rfl, rfl⟩ | ⟨e', en', h2⟩
    · rfl
    · rw [upd_same] at h3
      rw [upd_other e'] at h4
      obtain rfl := Option.some.inj h3
      exact absurd h5.symm (hne k p z en' h2 h4)
    · rw [upd_same] at h4
      rw [upd_other e] at h3
      obtain rfl := Option.some.inj h4
      exact absurd h5 (hne m q y en h1 h3)
    · rw [upd_other e] at h3
      rw [upd_other e'] at h4
      exact hR.inj m k q p y z h1 h2 h3 h4 h5
  · rintro k ⟨m, y, ⟨q, h1⟩ | ⟨es, h1⟩, h2, rfl⟩
    · rcases hg m q h1 with ⟨rfl, rfl⟩ | ⟨e, en, h1⟩
      · rw [upd_same] at h2
        obtain rfl := Option.some.inj h2
        exact .inl ⟨n, x, .inl ⟨r, hr⟩, hx, rfl⟩
      · rw [upd_other e] at h2
        exact .inl ⟨m, y, .inl ⟨q, h1⟩, h2, rfl⟩
    · rw [hgm] at h1
      rw [upd_other (hmne m es h1)] at h2
      exact .inl ⟨m, y, .inr ⟨es, h1⟩, h2, rfl⟩
/-- a row that is written. -/
theorem R.write (hR : R ρ s w) {n : Nat} {r : Row} {x : Nat × Nat × Nat} (hr : s.get n = some r) (hx : ρ n = some x) (hxs : x.2.2 = r.sz) {c : Array Value} {cs : List Value} (hc : s'.c = s.c) (hg : ∀ m q, s'.get m = some q → (m = n ∧ q = ⟨cs, r.elem, r.sz⟩) ∨ (m ≠ n ∧ s.get m = some q)) (hgm : ∀ m, s'.gm m = s.gm m)
    (hw : w'.heap[x.1]? = some (.cells c r.elem)) (hs : w.heap.size ≤ w'.heap.size) (hk : ∀ k, k < w.heap.size → k ≠ x.1 → w'.heap[k]? = w.heap[k]?) (hl : L2 ρ cs (c.toList.take cs.length)) (hle : cs.length ≤ c.size) (hsz : c.size = x.2.1) (ho : ∀ v ∈ cs, one v = true) (hx0 : r.sz = 0 → cs.length = x.2.1) (e1 : w'.os = w.os) (e2 : w'.tape = w.tape) (e3 : w'.output = w.output) {c0 : Array Value} (hw0 : w.heap[x.1]? = some (.cells c0 r.elem)) :
    R ρ s' w' ∧ Ext ρ s w ρ s' w' := by
  have hlt : ∀ n x, ρ n = some x → x.1 < w.heap.size := hR.lt
  have hne : ∀ m q y, m ≠ n → s.get m = some q → ρ m = some y → y.1 ≠ x.1 := fun m q y h1 h2 h3 e => h1 (hR.inj m n q r y x h2 hr h3 hx e)
  have hold : ∀ m q, s'.get m = some q → ∃ p, s.get m = some p := fun m q h => by
    rcases hg m q h with ⟨rfl, _⟩ | ⟨_, h⟩
    · exact ⟨r, hr⟩
    · exact ⟨q, h⟩
  have hmb : ∀ m es y, s.gm m = some es → ρ m = some y → y.1 ≠ x.1 := fun m es y h1 h2 e => by
    obtain ⟨y', q1, q2⟩ := hR.maps m es h1
    rw [h2] at q1
    obtain rfl := Option.some.inj q1
    rw [e] at q2
    exact q2.no hw0
  refine ⟨⟨fun m h => hR.dom m (by omega), fun m y h => Nat.lt_of_lt_of_le (hlt m y h) hs, fun m q h => ?_, fun m es h => ?_, fun m k es fs y z h1 h2 h3 h4 h5 => ?_, fun m k q p y z h1 h2 h3 h4 h5 => ?_⟩, ⟨by omega, fun _ _ h => h, hs, e1, e2, e3, fun k h1 h2 => hk k h1 (fun e => h2 ⟨n, x, .inl ⟨r, hr⟩, hx, e.symm⟩), ?_, fun _ _ => rfl, MapsGo.of fun k o hk' hn => (hk k (Array.getElem?_eq_some_iff.1 hk').1 (fun e => by rw [e, hw0] at hk'; exact hn _ _ _ (Option.some.inj hk').symm)).trans hk'⟩⟩
  · rcases hg m q h with ⟨rfl, rfl⟩ | ⟨en, h⟩
    · exact ⟨x, c, hx, hw, hsz, by rw [← hsz]; exact hle, hl, ho, hxs, hx0⟩
    · obtain ⟨y, c', h1, h2, h3, h4, h5, h6⟩ := hR.rows m q h
      exact ⟨y, c', h1, (hk _ (hlt m y h1) (hne m q y en h h1)).trans h2, h3, h4, h5, h6⟩
  · rw [hgm] at h
    obtain ⟨y, h1, h2⟩ := hR.maps m es h
    exact ⟨y, h1, h2.keep (fun _ _ h => h) fun k o hk' hn => (hk k (Array.getElem?_eq_some_iff.1 hk').1 (fun e => by rw [e, hw0] at hk'; exact hn _ _ _ (Option.some.inj hk').symm)).trans hk'⟩
  · rw [hgm] at h1 h2
    exact hR.injm m k es fs y z h1 h2 h3 h4 h5
  · obtain ⟨p1, h1⟩ := hold m q h1
    obtain ⟨p2, h2⟩ := hold k p h2
    exact hR.inj m k p1 p2 y z h1 h2 h3 h4 h5
  · rintro k ⟨m, y, ⟨q, h1⟩ | ⟨es, h1⟩, h2, rfl⟩
    · obtain ⟨p1, h1⟩ := hold m q h1
      exact .inl ⟨m, y, .inl ⟨p1, h1⟩, h2, rfl⟩
    · rw [hgm] at h1
      exact .inl ⟨m, y, .inr ⟨es, h1⟩, h2, rfl⟩
end
theorem putN_len : ∀ (l : List Value) (n : Nat) (vs : List Value), (putN l n vs).length = l.length
  | l, 0, [] => by simp [putN]
  | [], 0, v :: r => by simp [putN]
  | u :: l, 0, v :: r => by simp [putN, putN_len l 0 r]
  | [], n + 1, vs => by simp [putN]
  | u :: l, n + 1, vs => by simp [putN, putN_len l n vs]
theorem putN_get : ∀ (l : List Value) (n : Nat) (vs : List Value) (i : Nat), n + vs.length ≤ l.length → (putN l n vs)[i]? = if n ≤ i ∧ i < n + vs.length then vs[i - n]? else l[i]?
  | l, 0, [], i, _ => by simp [putN]
  | [], 0, v :: r, i, h => by simp at h
  | u :: l, 0, v :: r, i, h => by
    simp only [List.length_cons] at h
    cases i with
    | zero => simp [putN]
    | succ i =>
      have ih := putN_get l 0 r i (by omega)
      simp only [Nat.zero_add, Nat.sub_zero, Nat.zero_le, true_and] at ih
      simp only [putN, List.getElem?_cons_succ, ih, List.length_cons, Nat.zero_add, Nat.zero_le, true_and, Nat.sub_zero, Nat.add_lt_add_iff_right]
  | [], n + 1, vs, i, h => by simp at h
  | u :: l, n + 1, vs, i, h => by
    simp only [List.length_cons] at h
    cases i with
    | zero => simp [putN]
    | succ i =>
      have ih := putN_get l n vs i (by omega)
      simp only [putN, List.getElem?_cons_succ, ih, Nat.add_le_add_iff_right, show n + 1 + vs.length = n + vs.length + 1 by omega, Nat.add_lt_add_iff_right, show i + 1 - (n + 1) = i - n by omega]
end Go.Proofs.YtllahinoomahnaaGreatDoor.Am
