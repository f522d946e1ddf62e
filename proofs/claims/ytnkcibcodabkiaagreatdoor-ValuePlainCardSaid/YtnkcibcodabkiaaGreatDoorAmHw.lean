import Derived.Test.YtnkcibcodabkiaaGreatDoorAmUa
import Derived.Test.YtnkcibcodabkiaaGreatDoorAmXr
set_option linter.unusedSimpArgs false
namespace Go.Proofs.YtnkcibcodabkiaaGreatDoor.Am
open Go Go.RowKit

/- calls that were worked out apart, called from a walk by hand: the state is known row by row. -/
structure Lies (rows : List (Nat × Row)) (maps : List (Nat × List (Value × Value))) (c : Nat) (s : St) : Prop where
  c : s.c = c
  it : s.m.it = false
  row : ∀ p ∈ rows, s.get p.1 = some p.2
  map : ∀ p ∈ maps, s.gm p.1 = some p.2
  rows : ∀ n r, s.get n = some r → (n, r) ∈ rows
  maps : ∀ n es, s.gm n = some es → (n, es) ∈ maps
def eqMk (v u : Value) : Bool := match v, u with
  | .float .f64 a, .float .f64 b => Nat.beq a b
  | .float .f32 a, .float .f32 b => Nat.beq a b
  | v, u => eqVal 5 v u
theorem eqMk_eq (v u : Value) (h : eqMk v u = true) : v = u := by
  unfold eqMk at h
  split at h
  · rw [Nat.eq_of_beq_eq_true h]
  · rw [Nat.eq_of_beq_eq_true h]
  · exact eqVal_eq 5 _ _ h
def rowEq (r : Row) : Option Row → Bool
  | some q => Nat.beq q.elem r.elem && (Nat.beq q.sz r.sz && eqL eqMk q.cells r.cells)
  | none => false
theorem rowEq_ok {o : Option Row} {r : Row} (h : rowEq r o = true) : o = some r := by
  unfold rowEq at h
  split at h
  · rename_i q
    simp only [Bool.and_eq_true] at h
    obtain ⟨q1, q2, q3⟩ := q
    obtain ⟨r1, r2, r3⟩ := r
    simp only at h
    rw [Nat.eq_of_beq_eq_true h.1, Nat.eq_of_beq_eq_true h.2.1, eqL_eq eqMk_eq _ _ h.2.2]
  · cases h
def mapEq (es : List (Value × Value)) : Option (List (Value × Value)) → Bool
  | some q => eqEs q es
  | none => false
theorem mapEq_ok {o : Option (List (Value × Value))} {es : List (Value × Value)} (h : mapEq es o = true) : o = some es := by
  unfold mapEq at h
  split at h
  · rw [eqEs_ok _ _ h]
  · cases h
def liesB (rows : List (Nat × Row)) (maps : List (Nat × List (Value × Value))) (c : Nat) : Bool := loadT rows (Tr.nil 17) fun h => loadT maps (Tr.nil 17) fun m => cond (Nat.ble 0 c) (cond (allB (fun p => rowEq p.2 (Tr.get 17 h p.1)) rows) (allB (fun p => mapEq p.2 (Tr.get 17 m p.1)) maps) false) false
theorem lies_of {rows : List (Nat × Row)} {maps : List (Nat × List (Value × Value))} {c : Nat} (h : liesB rows maps c = true) : ∃ s, Lies rows maps c s := by
  unfold liesB at h
  obtain ⟨t1, h1, q1⟩ := loadT_ok _ _ h
  obtain ⟨t2, h2, q2⟩ := loadT_ok _ _ h1
  rw [show Nat.ble 0 c = true from Nat.ble_eq_true_of_le (Nat.zero_le c), cond_true] at h2
  cases h3 : allB (fun p => rowEq p.2 (Tr.get 17 t1 p.1)) rows with
  | false => rw [h3] at h2; cases h2
  | true =>
    rw [h3, cond_true] at h2
    refine ⟨⟨t1, ⟨t2, false⟩, c⟩, rfl, rfl, fun p hp => rowEq_ok (allB_ok _ h3 p hp), fun p hp => mapEq_ok (allB_ok _ h2 p hp), fun n r hr => ?_, fun n es he => ?_⟩
    · rcases q1 n r hr with h | h
      · exact h
      · rw [Tr.get_nil] at h; cases h
    · rcases q2 n es he with h | h
      · exact h
      · rw [Tr.get_nil] at h; cases h
theorem Lies.gm_eq {rows rows' : List (Nat × Row)} {maps : List (Nat × List (Value × Value))} {c c' : Nat} {s s' : St} (h : Lies rows maps c s) (h' : Lies rows' maps c' s') (m : Nat) : s'.gi m = s.gi m := by
  have e : s'.gm m = s.gm m := by
    cases h1 : s.gm m with
    | some es => exact h'.map _ (h.maps m es h1)
    | none => cases h2 : s'.gm m with
      | none => rfl
      | some es =>
        have := h.map _ (h'.maps m es h2)
        rw [show (m, es).1 = m from rfl, h1] at this
        cases this
  unfold St.gi
  rw [show s'.gm m = s.gm m from e, h.it, h'.it]
/-- a value that says just what it is. -/
def detV : Value → Bool
  | .bool _ => true
  | .int _ _ => true
  | .string _ => true
  | .pointer none => true
  | .pointer (some _) => true
  | .map _ => true
  | .slice none _ _ => true
  | .nilIface => true
  | .nilFunc => true
  | .float .f64 (_ + 1) => true
  | .float .f32 _ => true
  | _ => false
theorem VR.det {ρ ρ' : Rho} (hs : Sub ρ ρ') {v u u' : Value} (hd : detV v = true) (h : VR ρ v u) (h' : VR ρ' v u') : u' = u := by
  unfold detV at hd
  split at hd
  · rw [VR] at h h'; rw [h, h']
  · rw [VR] at h h'; rw [h, h']
  · rw [VR] at h h'; rw [h, h']
  · rw [VR] at h h'; rw [h, h']
  · rw [VR] at h h'
    obtain ⟨b, ⟨x, hx, rfl⟩, rfl⟩ := h
    obtain ⟨b', ⟨x', hx', rfl⟩, rfl⟩ := h'
    obtain rfl := Option.some.inj ((hs _ _ hx).symm.trans hx')
    rfl
  · rename_i m
    cases m with
    | none => rw [VR] at h h'; rw [h, h']
    | some m =>
      rw [VR] at h h'
      obtain ⟨x, hx, rfl⟩ := h
      obtain ⟨x', hx', rfl⟩ := h'
      obtain rfl := Option.some.inj ((hs _ _ hx).symm.trans hx')
      rfl
  · rw [VR] at h h'; rw [h.2, h'.2]
  · rw [VR] at h h'; rw [h, h']
  · rw [VR] at h h'; rw [h, h']
  · rw [VR] at h h'
    obtain ⟨n, x, hx, rfl, _, _, e⟩ := h
    obtain ⟨n', x', hx', rfl, _, _, e'⟩ := h'
    obtain rfl := Option.some.inj ((hs _ _ hx).symm.trans hx')
    rw [codeI_inj (e.symm.trans e')]
  · rw [VR] at h h'
    obtain ⟨n, x, hx, rfl, _, e, _⟩ := h
    obtain ⟨n', x', hx', rfl, _, e', _⟩ := h'
    obtain rfl := Option.some.inj ((hs _ _ hx).symm.trans hx')
    have := codeS_inj (e.symm.trans e')
    rw [show n' = n from ByteArray.ext (Array.toList_inj.1 this.symm)]
  · cases hd
theorem det_list {ρ ρ' : Rho} (hs : Sub ρ ρ') : ∀ {xs ys ys' : List Value}, (∀ v ∈ xs, detV v = true) → L2 ρ xs ys → L2 ρ' xs ys' → ys' = ys
  | [], ys, ys', _, h, h' => by
    obtain rfl := List.length_eq_zero_iff.1 h.1
    exact List.length_eq_zero_iff.1 h'.1
  | v :: xs, ys, ys', hd, h, h' => by
    obtain ⟨u, l, rfl, h1, h2⟩ := h.inv
    obtain ⟨u', l', rfl, h1', h2'⟩ := h'.inv
    rw [VR.det hs (hd v (List.mem_cons_self ..)) h1 h1', det_list hs (fun v hv => hd v (List.mem_cons_of_mem _ hv)) h2 h2']
/-- a number or a text is kept beside a name of its own. -/
theorem R.mark {ρ : Rho} {s s' : St} {w : World} (hR : R ρ s w) (hc : s'.c = s.c + 1) (hg : ∀ n r, s'.get n = some r → s.get n = some r) (hm : ∀ n es, s'.gm n = some es → s.gm n = some es) (hi : s.m.it = false) {b : Nat} (hb : b < w.heap.size) (hb0 : isG b = false) (code : Nat) : R (upd ρ s.c (b, code, 0)) s' w ∧ Sub ρ (upd ρ s.c (b, code, 0)) := by
  have hn := hR.dom s.c (Nat.le_refl _)
  have hsub := sub_upd hn (b, code, 0)
  have hne : ∀ {n x}, ρ n = some x → n ≠ s.c := fun h e => by rw [e, hn] at h; cases h
  have ho : ∀ {n x}, ρ n = some x → upd ρ s.c (b, code, 0) n = some x := fun h => hsub _ _ h
  refine ⟨⟨fun n h => ?_, fun n x h => ?_, fun n r h => ?_, fun n es h => ?_, fun n m es fs x y h1 h2 h3 h4 h5 => ?_, fun n m r q x y h1 h2 h3 h4 h5 => ?_, hR.gl, lo_upd hR.lo hb0, fun _ n es he => hR.it hi n es (hm n es he)⟩, hsub⟩
  · rw [upd_other (by omega)]; exact hR.dom n (by omega)
  · by_cases e : n = s.c
    · subst e
      rw [upd_same] at h
      obtain rfl := Option.some.inj h
      exact hb
    · rw [upd_other e] at h
      exact hR.lt n x h
  · obtain ⟨x, c', h1, h2, h3, h4, h5, h6⟩ := hR.rows n r (hg n r h)
    exact ⟨x, c', ho h1, h2, h3, h4, h5.mono hsub, h6⟩
  · obtain ⟨x, h1, h2⟩ := hR.maps n es (hm n es h)
    exact ⟨x, ho h1, h2.keep hsub fun _ _ h _ => h⟩
  · obtain ⟨x', g1, _⟩ := hR.maps n es (hm n es h1)
    obtain ⟨y', g2, _⟩ := hR.maps m fs (hm m fs h2)
    rw [ho g1] at h3
    rw [ho g2] at h4
    obtain rfl := Option.some.inj h3
    obtain rfl := Option.some.inj h4
    exact hR.injm n m es fs _ _ (hm n es h1) (hm m fs h2) g1 g2 h5
  · obtain ⟨x', _, g1, _⟩ := hR.rows n r (hg n r h1)
    obtain ⟨y', _, g2, _⟩ := hR.rows m q (hg m q h2)
    rw [ho g1] at h3
    rw [ho g2] at h4
    obtain rfl := Option.some.inj h3
    obtain rfl := Option.some.inj h4
    exact hR.inj n m r q _ _ (hg n r h1) (hg m q h2) g1 g2 h5
theorem R.some {ρ : Rho} {s s2 : St} {w : World} (hR : R ρ s w) (hc : s.c ≤ s2.c) (hg : ∀ n r, s2.get n = some r → s.get n = some r) (hm : ∀ n es, s2.gm n = some es → s.gm n = some es) (hi : s.m.it = false) : R ρ s2 w :=
  ⟨fun n h => hR.dom n (Nat.le_trans hc h), hR.lt, fun n r h => hR.rows n r (hg n r h), fun n es h => hR.maps n es (hm n es h), fun n m es fs x y h1 h2 => hR.injm n m es fs x y (hm n es h1) (hm m fs h2), fun n m r q x y h1 h2 => hR.inj n m r q x y (hg n r h1) (hg m q h2), hR.gl, hR.lo, fun _ n es he => hR.it hi n es (hm n es he)⟩
/-- the rows and maps lie in the world, from the block B on. -/
structure Held (CR : List (Nat × Row)) (CM : List (Nat × List (Value × Value))) (B : Nat) (ρ : Rho) (c : Nat) (w : World) : Prop where
  rel : ∃ s, Lies CR CM c s ∧ R ρ s w
  old : ∀ n x, ((∃ r, (n, r) ∈ CR) ∨ ∃ es, (n, es) ∈ CM) → ρ n = some x → B ≤ x.1
variable {CR : List (Nat × Row)} {CM : List (Nat × List (Value × Value))} {B c : Nat} {ρ : Rho} {w : World}
theorem Held.below {w' : World} (h : Held CR CM B ρ c w) (hb : Below w.heap.size w w') : Held CR CM B ρ c w' := by
  obtain ⟨s, h1, h2⟩ := h.rel
  exact ⟨⟨s, h1, (h2.grow hb).1⟩, h.old⟩
theorem Held.up {c' : Nat} (h : Held CR CM B ρ c w) (hc : c ≤ c') (e : liesB CR CM c' = true) : Held CR CM B ρ c' w := by
  obtain ⟨s, h1, h2⟩ := h.rel
  obtain ⟨s', h3⟩ := lies_of e
  exact ⟨⟨s', h3, h2.some (by rw [h1.c, h3.c]; exact hc) (fun n r hr => h1.row _ (h3.rows n r hr)) (fun n es he => h1.map _ (h3.maps n es he)) h1.it⟩, h.old⟩
theorem Held.dom (h : Held CR CM B ρ c w) : ρ c = none := by
  obtain ⟨s, h1, h2⟩ := h.rel
  exact h2.dom c (by rw [h1.c]; exact Nat.le_refl _)
theorem Held.mark (h : Held CR CM B ρ c w) (e : liesB CR CM (c + 1) = true) (hl : ∀ p ∈ CR, p.1 < c) (hm : ∀ p ∈ CM, p.1 < c) {b : Nat} (hb : b < w.heap.size) (hb0 : isG b = false) (code : Nat) : Held CR CM B (upd ρ c (b, code, 0)) (c + 1) w := by
  obtain ⟨s, h1, h2⟩ := h.rel
  obtain ⟨s', h3⟩ := lies_of e
  have := (h2.mark (s' := s') (by rw [h1.c, h3.c]) (fun n r hr => h1.row _ (h3.rows n r hr)) (fun n es he => h1.map _ (h3.maps n es he)) h1.it hb hb0 code).1
  rw [h1.c] at this
  refine ⟨⟨s', h3, this⟩, fun n x hn hx => h.old n x hn ?_⟩
  have : n ≠ c := by
    rcases hn with ⟨r, hn⟩ | ⟨es, hn⟩
    · exact Nat.ne_of_lt (hl _ hn)
    · exact Nat.ne_of_lt (hm _ hn)
  rw [upd_other this] at hx
  exact hx
theorem Held.call {P : Program} {I : Inst} (hI : InstOk P I) (h : Held CR CM B ρ c w) (hB : B ≤ w.heap.size) {vs : Array Value} {vr : List Value} {ty : TypeId} {us : List Value}
    (e1 : liesB (CR ++ [(c, ⟨vr, ty, 0⟩)]) CM (c + 1) = true) (e2 : liesB (CR ++ [(c, ⟨vr, ty, 0⟩)]) CM I.d = true) (e3 : liesB CR CM I.d = true) (hd : c + 1 ≤ I.d)
    (hc : I.c = c + 1) (hk : I.kept = CR ++ [(c, ⟨vr, ty, 0⟩)]) (hg : I.gone = []) (hmk : I.mkept = CM) (hmg : I.mgone = [])
    (ho : ∀ q ∈ I.out, c + 1 ≤ q.2.1) (hom : ∀ q ∈ I.outm, c + 1 ≤ q.2.1) (hl : ∀ p ∈ CR, p.1 < c) (hm : ∀ p ∈ CM, p.1 < c)
    (hv : L2 ρ vr vs.toList) (hone : ∀ v ∈ vr, one v = true) (hdet : ∀ v ∈ vr, detV v = true) (ha : L2 (upd ρ c (w.heap.size, vs.size, 0)) I.args us) :
    Calls P I.f us.toArray (w.alloc (.cells vs ty)) fun e w' => ∃ u ρ', e = .returned u ∧ VR ρ' I.res u ∧ Sub ρ ρ' ∧ Held CR CM B ρ' I.d w' ∧ Below B w w' ∧ w'.heap[w.heap.size]? = some (.cells vs ty) := by
  obtain ⟨s, h1, h2⟩ := h.rel
  obtain ⟨s1, h3⟩ := lies_of e1
  obtain ⟨s2, h4⟩ := lies_of e2
  obtain ⟨s3, h5⟩ := lies_of e3
  have hlen : vr.length = vs.size := by rw [← hv.1]; simp
  have hdom := h.dom
  have hR := (h2.new (s' := s1) (w' := w.alloc (.cells vs ty)) (b := w.heap.size) (sz := 0) (c := vs) (cs := vr) (ty := ty) (by rw [h1.c, h3.c]) (fun m q hq => by
      rcases List.mem_append.1 (h3.rows m q hq) with hq | hq
      · exact .inr ⟨by rw [h1.c]; exact Nat.ne_of_lt (hl _ hq), h1.row _ hq⟩
      · obtain ⟨rfl, rfl⟩ := Prod.mk.inj (List.mem_singleton.1 hq)
        exact .inl ⟨h1.c.symm, rfl⟩)
    (fun m => h1.gm_eq h3 m) (Nat.le_refl _) (by show (w.heap.push _)[w.heap.size]? = _; simp) (by simp) (fun k hk => heap_alloc_old w _ hk) (by rw [show vs.toList.take vr.length = vs.toList by rw [← hv.1, List.take_length]]; exact hv) (by omega) hone (fun _ => hlen) rfl rfl rfl).1
  rw [h1.c] at hR
  have hsub := sub_upd hdom (w.heap.size, vs.size, 0)
  refine (hI.2 _ s1 _ us hR ha ⟨by rw [h3.c, hc], h3.it, fun p hp => h3.row p (by rw [hk] at hp; exact hp), fun p hp => (by rw [hg] at hp; cases hp), fun p hp => h3.map p (by rw [hmk] at hp; exact hp), fun p hp => (by rw [hmg] at hp; cases hp)⟩).mono ?_
  rintro e w' ⟨u, ρ', rfl, hu, hp⟩
  obtain ⟨hR2, hx⟩ := hp s2 ⟨h4.c, fun n r hr => by
      have hm := h4.rows n r hr
      refine .inr ⟨fun q hq => ?_, fun q hq => (by rw [hg] at hq; cases hq), h3.row _ hm⟩
      have := ho q hq
      rcases List.mem_append.1 hm with hm | hm
      · have := hl _ hm
        simp only at this
        omega
      · obtain ⟨rfl, rfl⟩ := Prod.mk.inj (List.mem_singleton.1 hm)
        omega, fun n r hr => by
      have hm' := h4.maps n r hr
      refine .inr ⟨fun q hq => ?_, fun q hq => (by rw [hmg] at hq; cases hq), h3.map _ hm'⟩
      have := hom q hq
      have := hm _ hm'
      simp only at this
      omega⟩
  have hs1 : (w.alloc (.cells vs ty)).heap.size = w.heap.size + 1 := by simp
  have hold : ∀ n x, ((∃ r, (n, r) ∈ CR) ∨ ∃ es, (n, es) ∈ CM) → ρ' n = some x → B ≤ x.1 := fun n x hn hx' => by
    have hlt : n < c := by
      rcases hn with ⟨r, hn⟩ | ⟨es, hn⟩
      · exact hl _ hn
      · exact hm _ hn
    rw [hx.old n (by rw [h3.c]; omega), upd_other (Nat.ne_of_lt hlt)] at hx'
    exact h.old n x hn hx'
  refine ⟨u, ρ', rfl, hu, fun n x hn => hx.sub n x (hsub n x hn), ⟨⟨s3, h5, hR2.some (by rw [h4.c, h5.c]; exact Nat.le_refl _) (fun n r hr => h4.row _ (List.mem_append.2 (.inl (h5.rows n r hr)))) (fun n es he => h4.map _ (h5.maps n es he)) h4.it⟩, hold⟩, ?_, ?_⟩
  · have hb1 : Below B w (w.alloc (.cells vs ty)) := (Below.refl B w).alloc hB _
    refine hb1.trans ⟨hx.os, hx.tape, hx.output, hx.size, fun k hk' => hx.frame k (by rw [hs1]; omega) ?_⟩
    rintro ⟨n, x, h6, h7, rfl⟩
    have hn : (((∃ r, (n, r) ∈ CR) ∨ ∃ es, (n, es) ∈ CM) ∧ n < c) ∨ n = c := by
      rcases h6 with ⟨r, h6⟩ | ⟨es, h6⟩
      · rcases List.mem_append.1 (h3.rows n r h6) with h6 | h6
        · exact .inl ⟨.inl ⟨r, h6⟩, hl _ h6⟩
        · exact .inr (Prod.mk.inj (List.mem_singleton.1 h6)).1
      · exact .inl ⟨.inr ⟨es, h3.maps n es h6⟩, hm _ (h3.maps n es h6)⟩
    rcases hn with ⟨hn, hlt⟩ | rfl
    · rw [upd_other (Nat.ne_of_lt hlt)] at h7
      have := h.old n x hn h7
      omega
    · rw [upd_same] at h7
      obtain rfl := Option.some.inj h7
      simp only at hk'
      omega
  · obtain ⟨x, c', g1, g2, g3, g4, g5, _⟩ := hR2.rows c ⟨vr, ty, 0⟩ (h4.row (c, ⟨vr, ty, 0⟩) (List.mem_append.2 (.inr (List.mem_singleton.2 rfl))))
    obtain rfl := Option.some.inj (g1.symm.trans (hx.sub c _ (upd_same _ _ _)))
    simp only at g2 g3 g4 g5
    have g6 : vr.length = c'.toList.length := by rw [hlen, ← g3]; rfl
    rw [g6, List.take_length] at g5
    have := det_list (fun n x hn => hx.sub n x (hsub n x hn)) hdet hv g5
    rw [Array.toList_inj.1 this] at g2
    exact g2
end Go.Proofs.YtnkcibcodabkiaaGreatDoor.Am
