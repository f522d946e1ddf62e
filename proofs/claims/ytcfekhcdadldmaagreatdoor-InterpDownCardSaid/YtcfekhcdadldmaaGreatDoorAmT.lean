import Derived.Test.YtcfekhcdadldmaaGreatDoorAmJm
import Derived.Maps.RangeRun
set_option linter.unusedSimpArgs false
namespace Go.Proofs.YtcfekhcdadldmaaGreatDoor.Am
open Go
open Go.ChangeMaps (setBlock)
/- a range over a map, whatever the order. -/
section
variable {P : Program} {E : Env} {ρ : Rho} {s s' : St} {w w' : World} {t : List Value} {a : Act} {o : Oper} {k : K2} {Q : Exit → Act → World → Prop}
theorem upTo_mem : ∀ (n : Nat) (l : List Nat) (i : Nat), i ∈ upTo n l ↔ i < n ∨ i ∈ l
  | 0, l, i => by simp [upTo]
  | n + 1, l, i => by
    rw [upTo, upTo_mem n]
    simp only [List.mem_cons]
    constructor
    · rintro (h | h | h)
      · exact .inl (by omega)
      · exact .inl (by omega)
      · exact .inr h
    · rintro (h | h)
      · rcases Nat.lt_or_ge i n with e | e
        · exact .inl e
        · exact .inr (.inl (by omega))
      · exact .inr (.inr h)
theorem dropIt_mem (i : Nat) : ∀ (l : List Nat) (j : Nat), j ∈ dropIt i l ↔ j ≠ i ∧ j ∈ l
  | [], j => by simp [dropIt]
  | x :: l, j => by
    rw [dropIt]
    cases hq : Nat.beq i x with
    | true =>
      obtain rfl := Nat.eq_of_beq_eq_true hq
      simp only [cond_true, dropIt_mem i l, List.mem_cons]
      constructor
      · rintro ⟨h1, h2⟩; exact ⟨h1, .inr h2⟩
      · rintro ⟨h1, h2 | h2⟩
        · exact absurd h2 h1
        · exact ⟨h1, h2⟩
    | false =>
      have hne : i ≠ x := fun e => by rw [e, Nat.beq_refl] at hq; cases hq
      simp only [cond_false, List.mem_cons, dropIt_mem i l]
      constructor
      · rintro (h | ⟨h1, h2⟩)
        · exact ⟨by rw [h]; exact hne.symm, .inl h⟩
        · exact ⟨h1, .inr h2⟩
      · rintro ⟨h1, h2 | h2⟩
        · exact .inl h2
        · exact .inr ⟨h1, h2⟩
theorem unLeft_eq : ∀ (l : List (Value × Value)) (r : List Nat), unLeft l = some r → l = itLeft r
  | [], r, h => by obtain rfl := Option.some.inj h; rfl
  | p :: l, r, h => by
    unfold unLeft at h
    split at h
    · rename_i i
      split at h
      · rename_i r' hr
        obtain rfl := Option.some.inj h
        rw [unLeft_eq l r' hr]; rfl
      · cases h
    · cases h
theorem nthE_eq : ∀ (l : List (Value × Value)) (n : Nat), nthE l n = l[n]?
  | [], _ => by simp [nthE]
  | u :: r, 0 => rfl
  | u :: r, n + 1 => by rw [nthE, nthE_eq r n]; simp
theorem itLeft_inj {l r : List Nat} (h : itLeft l = itLeft r) : l = r := by
  unfold itLeft at h
  exact (List.map_inj_right (fun a b h => by
    injection h with h1 _
    injection h1 with _ h1
    injection h1)).1 h
/-- a new map or iterator. -/
theorem R.newM (hR : R ρ s w) {ob : Obj} {es : List (Value × Value)} {t' : Tr (List (Value × Value)) 17} (h2 : ∀ m r, Tr.get 17 t' m = some r → (m = s.c ∧ some es = some r) ∨ (m ≠ s.c ∧ Tr.get 17 s.m.t m = some r)) (hM : MR (upd ρ s.c (w.heap.size, 0, 0)) (w.alloc ob) es w.heap.size) :
    R (upd ρ s.c (w.heap.size, 0, 0)) ⟨s.h, ⟨t', true⟩, s.c + 1⟩ (w.alloc ob) ∧ Ext ρ s w (upd ρ s.c (w.heap.size, 0, 0)) ⟨s.h, ⟨t', true⟩, s.c + 1⟩ (w.alloc ob) := by
  have hn := hR.dom s.c (Nat.le_refl _)
  have hsub := sub_upd hn (w.heap.size, 0, 0)
  have hlt : ∀ n x, ρ n = some x → x.1 < w.heap.size := hR.lt
  have hrn : ∀ n r, s.get n = some r → n ≠ s.c := fun n r h e => by
    obtain ⟨x, _, hx, _⟩ := hR.rows n r h
    rw [e, hn] at hx; cases hx
  have hk : ∀ j, j < w.heap.size → (w.alloc ob).heap[j]? = w.heap[j]? := fun j hj => heap_alloc_old w _ hj
  refine ⟨⟨fun n h => ?_, fun n x h => ?_, fun n r h => ?_, fun n es h => ?_, fun n m es fs x y q1 q2 q3 q4 q5 => ?_, fun n m r q x y q1 q2 q3 q4 q5 => ?_, hR.gl.keep fun k h _ => hk k h, lo_upd hR.lo (hR.gl.new (Nat.le_refl _)), fun e => by cases e⟩, ⟨Nat.le_succ _, hsub, by simp, rfl, rfl, rfl, fun j hj _ => hk j hj, ?_, fun j hj => upd_other (by omega)⟩⟩
  · have h' : s.c + 1 ≤ n := h
    rw [upd_other (by omega)]; exact hR.dom n (by omega)
  · by_cases e : n = s.c
    · subst e
      rw [upd_same] at h
      obtain rfl := Option.some.inj h
      simp
    · rw [upd_other e] at h
      have := hlt n x h
      simp; omega
  · have h0 : s.get n = some r := h
    obtain ⟨x, c', q1, q2, q3, q4, q5, q6⟩ := hR.rows n r h0
    exact ⟨x, c', by rw [upd_other (hrn n r h0)]; exact q1, (hk _ (hlt n x q1)).trans q2, q3, q4, q5.mono hsub, q6⟩
  · rcases h2 n es h with ⟨rfl, e⟩ | ⟨e, h0⟩
    · obtain rfl := Option.some.inj e
      exact ⟨_, upd_same _ _ _, hM⟩
    · obtain ⟨x, q1, q2⟩ := hR.maps n es h0
      exact ⟨x, by rw [upd_other e]; exact q1, q2.keep hsub fun k o hk' _ => (hk k (Array.getElem?_eq_some_iff.1 hk').1).trans hk'⟩
  · rcases h2 n es q1 with ⟨rfl, e⟩ | ⟨e, h0⟩ <;> rcases h2 m fs q2 with ⟨rfl, e'⟩ | ⟨e', h0'⟩
    · rfl
    · rw [upd_same] at q3
      rw [upd_other e'] at q4
      obtain rfl := Option.some.inj q3
      have := hlt m y q4
      simp only at q5; omega
    · rw [upd_same] at q4
      rw [upd_other e] at q3
      obtain rfl := Option.some.inj q4
      have := hlt n x q3
      simp only at q5; omega
    · rw [upd_other e] at q3
      rw [upd_other e'] at q4
      exact hR.injm n m es fs x y h0 h0' q3 q4 q5
  · have q1' : s.get n = some r := q1
    have q2' : s.get m = some q := q2
    rw [upd_other (hrn n r q1')] at q3
    rw [upd_other (hrn m q q2')] at q4
    exact hR.inj n m r q x y q1' q2' q3 q4 q5
  · rintro j ⟨n, x, ⟨r, q1⟩ | ⟨es, q1⟩, q2, rfl⟩
    · have q1' : s.get n = some r := q1
      rw [upd_other (hrn n r q1')] at q2
      exact .inl ⟨n, x, .inl ⟨r, q1'⟩, q2, rfl⟩
    · rcases h2 n es q1 with ⟨rfl, e⟩ | ⟨e, h0⟩
      · rw [upd_same] at q2
        obtain rfl := Option.some.inj q2
        exact .inr (Nat.le_refl _)
      · rw [upd_other e] at q2
        exact .inl ⟨n, x, .inr ⟨es, h0⟩, q2, rfl⟩
theorem notIt {ρ : Rho} {w : World} {es : List (Value × Value)} {b : Nat} (h : MR ρ w es b) (hi : isIt es = false) : MM ρ w es b := by
  rcases h with h | ⟨t0, n0, cur0, left0, e0, _⟩
  · exact h
  · rw [e0] at hi; cases hi
theorem isIt_it {ρ : Rho} {w : World} {es : List (Value × Value)} {b : Nat} (h : MR ρ w es b) (hi : isIt es = true) : IT ρ w es b := by
  rcases h with ⟨_, _, _, h, _⟩ | h
  · rw [h.2.2] at hi; cases hi
  · exact h
theorem op_rg (g : Good P E) (hR : R ρ s w) (hT : TR ρ t a) {ty : TypeId} {x : Operand} (ho : o.op = .range ty x) (h : opRg s (opv t x) k (E.und ty) = true) : o.wp P a w (Nx ρ s w k o a) Q := by
  have hx := hT.opv x
  generalize opv t x = X at h hx
  unfold opRg at h
  split at h
  case h_2 => cases h
  rename_i ke el hd
  have fin : ∀ (ob : Obj) (l : List (Value × Value)), (Instr.range ty (a.eval x)).run P w = .ok (.pointer (some ⟨w.heap.size, 0, none⟩)) (w.alloc ob) → newItK s k l = true → MR (upd ρ s.c (w.heap.size, 0, 0)) (w.alloc ob) l w.heap.size → o.wp P a w (Nx ρ s w k o a) Q := by
    intro ob l hrun hk hM
    unfold newItK at hk
    rw [forceL_eq] at hk
    obtain ⟨t', h1, h2⟩ := Tr.setK_get _ _ _ _ _ hk
    rw [forceN_eq] at h1
    obtain ⟨r1, r2⟩ := hR.newM h2 hM
    have hrun' : (execOp a.eval o).run P w = .ok (.value (.pointer (some ⟨w.heap.size, 0, none⟩))) (w.alloc ob) := by simp [execOp, ho, hrun]
    unfold Oper.wp
    rw [hrun']
    exact ⟨_, _, _, _, rfl, by rw [VR]; exact ⟨_, ⟨_, upd_same _ _ _, rfl⟩, rfl⟩, r1, r2, h1⟩
  unfold opRg1 at h
  split at h
  · obtain e : a.eval x = .map none := by rw [VR] at hx; exact hx
    refine fin _ _ (by rw [e]; exact run_range_nilMap w ty ke el (g.und _ _ hd)) h (.inr ⟨none, 0, junk, [], rfl, 0, #[], 0, heap_alloc_new w _⟩)
  · rename_i n
    unfold opRg2 at h
    split at h
    case h_2 => cases h
    rename_i es hes
    cases hit : isIt es with
    | true => rw [hit] at h; cases h
    | false =>
      rw [hit] at h
      simp only [cond_false] at h
      obtain ⟨z, hz, e⟩ : ∃ z, ρ n = some z ∧ a.eval x = .map (some z.1) := by rw [VR] at hx; exact hx
      obtain ⟨z', hz', hM⟩ := hR.maps n es hes
      rw [hz] at hz'
      obtain rfl := Option.some.inj hz'
      obtain ⟨cs, cl, h2, h3, h4⟩ := notIt hM hit
      have hlt := hR.lt n z hz
      have hn := hR.dom s.c (Nat.le_refl _)
      refine fin _ _ (by rw [e]; exact run_range_map w ty ke el z.1 cs cl (g.und _ _ hd) h2) h (.inr ⟨some n, es.length, junk, upTo es.length [], rfl, z, cs, cl, cl, #[], cl, sub_upd hn _ n z hz, (heap_alloc_old w _ hlt).trans h2, h3.2.1, heap_alloc_new w _, ⟨by rw [h3.1]; exact Nat.le_refl _, by rw [h3.1], Nat.le_refl _, Nat.le_refl _, fun i e he _ => h3.2.1.1 e (by simpa using Array.mem_of_getElem? he), fun i e hi _ => ?_, fun i hi => by cases hi⟩⟩)
      simp only [upTo_mem, List.not_mem_nil, or_false]
      exact ⟨fun _ => by simp, fun _ => hi⟩
  · cases h
theorem nx4_all {n m c : Nat} {es : List (Value × Value)} {all : List Nat} : ∀ (l : List Nat), nx4 s n m c es all k l = true → ∀ i ∈ l, nx5 s n m c i all k (nthE es i) = true
  | [], _, i, hi => by cases hi
  | j :: l, h, i, hi => by
    rw [nx4] at h
    cases hq : nx5 s n m c j all k (nthE es j) with
    | false => rw [hq] at h; cases h
    | true =>
      rw [hq] at h
      rcases List.mem_cons.1 hi with rfl | hi
      · exact hq
      · exact nx4_all l h i hi
/-- the iterator goes on. -/
theorem R.nextM (hR : R ρ s w) {n : Nat} {x : Nat × Nat × Nat} {es es' : List (Value × Value)} {ob ob0 : Obj} {t' : Tr (List (Value × Value)) 17} (hn : s.gm n = some es) (hx : ρ n = some x) (hb : w.heap[x.1]? = some ob0) (hi0 : ∀ cs cl, ob0 ≠ .map cs cl) (hc0 : noCells ob0) (h2 : ∀ j r, Tr.get 17 t' j = some r → (j = n ∧ some es' = some r) ∨ (j ≠ n ∧ Tr.get 17 s.m.t j = some r)) {w1 : World} (hw1 : w1 = w ∨ w1 = w.drew) (hM : MR ρ (setBlock w1 x.1 ob) es' x.1) :
    R ρ ⟨s.h, ⟨t', true⟩, s.c⟩ (setBlock w1 x.1 ob) ∧ Ext ρ s w ρ ⟨s.h, ⟨t', true⟩, s.c⟩ (setBlock w1 x.1 ob) := by
  have hh : w1.heap = w.heap := by rcases hw1 with rfl | rfl <;> rfl
  have hk : ∀ j, j ≠ x.1 → (setBlock w1 x.1 ob).heap[j]? = w.heap[j]? := fun j hj => by
    show (w1.heap.setIfInBounds x.1 ob)[j]? = _
    rw [hh]
    exact Array.getElem?_setIfInBounds_ne (Ne.symm hj)
  have hsz : (setBlock w1 x.1 ob).heap.size = w.heap.size := by
    show (w1.heap.setIfInBounds x.1 ob).size = _
    rw [hh]; simp
  have hold : ∀ j r, Tr.get 17 t' j = some r → ∃ r', s.gm j = some r' := fun j r h => by
    rcases h2 j r h with ⟨rfl, _⟩ | ⟨_, h⟩
    · exact ⟨es, hn⟩
    · exact ⟨r, h⟩
  refine ⟨⟨hR.dom, fun j z h => by rw [hsz]; exact hR.lt j z h, fun j r h => ?_, fun j r h => ?_, fun j l r q z u h1 h3 h4 h5 h6 => ?_, hR.inj, hR.gl.keep fun k _ hg => hk k (fun e => by rw [e, hR.lo n x hx] at hg; cases hg), hR.lo, fun e => by cases e⟩, ⟨Nat.le_refl _, fun _ _ h => h, by rw [hsz]; exact Nat.le_refl _, ?_, ?_, ?_, fun j hj ho => hk j (fun e => ho ⟨n, x, .inr ⟨es, hn⟩, hx, e.symm⟩), ?_, fun _ _ => rfl⟩⟩
  · have h0 : s.get j = some r := h
    obtain ⟨z, c', q1, q2, q3⟩ := hR.rows j r h0
    refine ⟨z, c', q1, (hk _ (fun e => ?_)).trans q2, q3⟩
    rw [e, hb] at q2
    exact hc0 _ _ _ (Option.some.inj q2)
  · rcases h2 j r h with ⟨rfl, e⟩ | ⟨en, h0⟩
    · obtain rfl := Option.some.inj e
      exact ⟨x, hx, hM⟩
    · obtain ⟨z, q1, q2⟩ := hR.maps j r h0
      have hne : z.1 ≠ x.1 := fun e => en (hR.injm j n r es z x h0 hn q1 hx e)
      refine ⟨z, q1, ?_⟩
      rcases q2 with ⟨cs, cl, p1, p2, p3⟩ | ⟨t0, n0, cur0, left0, e0, hI⟩
      · exact .inl ⟨cs, cl, (hk _ hne).trans p1, p2, p3⟩
      · refine .inr ⟨t0, n0, cur0, left0, e0, ?_⟩
        cases t0 with
        | none =>
          obtain ⟨p, q, r, hI⟩ := hI
          exact ⟨p, q, r, (hk _ hne).trans hI⟩
        | some m0 =>
          obtain ⟨v, c0, cl0, si, se, la, i1, i2, i3, i4, i5⟩ := hI
          refine ⟨v, c0, cl0, si, se, la, i1, (hk _ (fun e => ?_)).trans i2, i3, (hk _ hne).trans i4, i5⟩
          rw [e, hb] at i2
          exact hi0 _ _ (Option.some.inj i2)
  · obtain ⟨r', h1⟩ := hold j r h1
    obtain ⟨q', h3⟩ := hold l q h3
    exact hR.injm j l r' q' z u h1 h3 h4 h5 h6
  · rcases hw1 with rfl | rfl <;> rfl
  · rcases hw1 with rfl | rfl <;> rfl
  · rcases hw1 with rfl | rfl <;> rfl
  · rintro j ⟨l, z, ⟨r, h1⟩ | ⟨r, h1⟩, h3, rfl⟩
    · exact .inl ⟨l, z, .inl ⟨r, h1⟩, h3, rfl⟩
    · obtain ⟨r', h1⟩ := hold l r h1
      exact .inl ⟨l, z, .inr ⟨r', h1⟩, h3, rfl⟩
theorem junk_m {u : Value} : VR ρ junk u := by rw [VR]; trivial
theorem op_nx (hR : R ρ s w) (hT : TR ρ t a) {x : Operand} {isS : Bool} (ho : o.op = .next x isS) (h : cond isS false (opNx s k (opv t x)) = true) : o.wp P a w (Nx ρ s w k o a) Q := by
  cases isS with
  | true => cases h
  | false =>
  simp only [cond_false] at h
  have hx := hT.opv x
  generalize opv t x = X at h hx
  unfold opNx at h
  split at h
  case h_2 => cases h
  rename_i ad
  cases hoff : Nat.beq ad.off 0 with
  | false => rw [hoff] at h; cases h
  | true =>
  rw [hoff] at h
  simp only [cond_true] at h
  have e0 := Nat.eq_of_beq_eq_true hoff
  obtain ⟨z, hz, e⟩ : ∃ z, ρ ad.block = some z ∧ a.eval x = .pointer (some ⟨z.1, 0, none⟩) := by
    rw [VR] at hx
    obtain ⟨q, ⟨z, hz, rfl⟩, e⟩ := hx
    exact ⟨z, hz, by rw [e, e0]⟩
  unfold nx1 at h
  split at h
  · rename_i nn cur left hes
    obtain ⟨z', hz', hM⟩ := hR.maps _ _ hes
    rw [hz] at hz'
    obtain rfl := Option.some.inj hz'
    obtain ⟨t0, n0, cur0, left0, e1, hI⟩ := isIt_it hM rfl
    unfold itList at e1
    injection e1 with e2 e3
    injection e2 with _ e2
    injection e2 with e2
    subst e2
    obtain ⟨p, q, r, hI⟩ := hI
    have hrun : (execOp a.eval o).run P w = .ok (.value (.tuple #[.bool false])) w := by
      simp only [execOp, ho, e, Instr.next, getObj, Sem.run_bind, Sem.run, hI, Result.andThen]
      rfl
    unfold Oper.wp
    rw [hrun]
    exact ⟨_, _, ρ, s, rfl, vr_tuple.2 ⟨#[.bool false], rfl, (L2.nil ρ).cons (by rw [VR])⟩, hR, Ext.refl _ _ _, h⟩
  · rename_i m c cur left hes
    unfold nx2 at h
    split at h
    case h_2 => cases h
    rename_i es hms
    cases hq : (Nat.beq es.length c && !isIt es) with
    | false => rw [hq] at h; cases h
    | true =>
    rw [hq] at h
    simp only [cond_true] at h
    simp only [Bool.and_eq_true, Bool.not_eq_true'] at hq
    have hlen := Nat.eq_of_beq_eq_true hq.1
    obtain ⟨z', hz', hM⟩ := hR.maps _ _ hes
    rw [hz] at hz'
    obtain rfl := Option.some.inj hz'
    obtain ⟨t0, n0, cur0, left0, e1, hI⟩ := isIt_it hM rfl
    unfold itList at e1
    injection e1 with e2 e3
    injection e2 with _ e2
    injection e2 with e2
    subst e2
    injection e3 with e3 e4
    injection e3 with e3 e5
    injection e3 with _ e3
    injection e3 with e3
    subst e3 e5
    obtain ⟨y, cs, cl, si, se, la, i1, i2, i3, i4, i5⟩ := hI
    obtain ⟨y', hy', hMm⟩ := hR.maps _ _ hms
    rw [i1] at hy'
    obtain rfl := Option.some.inj hy'
    obtain ⟨cs', cl', h2, h3, h4⟩ := notIt hMm hq.2
    rw [i2] at h2
    injection h2 with h2
    injection h2 with h2a h2b
    subst h2a h2b
    have hsz : cs.size = c := by rw [h3.1, hlen]
    have hclk := i5.clk
    have hall : ∀ x ∈ cs.toList, x.born < si := fun x hx => by
      obtain ⟨i, hi⟩ := List.mem_iff_getElem?.1 hx
      have hi' : cs[i]? = some x := by simpa using hi
      exact i5.old i x hi' (by rw [← hsz]; exact (Array.getElem?_eq_some_iff.1 hi').1)
    unfold nx3 at h
    have hmem : ∀ x, x ∈ (leftOf cs se).toList → ∃ i, cs[i]? = some x ∧ i < c ∧ i ∈ left0 := fun x hx => by
      have hx' : x ∈ cs.toList ∧ se.contains x.born = false := by
        unfold leftOf at hx
        simpa using hx
      obtain ⟨i, hi⟩ := List.mem_iff_getElem?.1 hx'.1
      have hi' : cs[i]? = some x := by simpa using hi
      have hic : i < c := by rw [← hsz]; exact (Array.getElem?_eq_some_iff.1 hi').1
      exact ⟨i, hi', hic, (i5.left i x hic hi').2 hx'.2⟩
    have hmem0 : (leftOf cs se).size = 0 → ∀ i, i < c → i ∈ left0 → False := fun h0 i hi hl => by
      obtain ⟨x, hx⟩ : ∃ x, cs[i]? = some x := ⟨cs[i]'(by omega), by simp⟩
      have hc := (i5.left i x hi hx).1 hl
      have : x ∈ (leftOf cs se).toList := by
        unfold leftOf
        simp only [Array.toList_filter, List.mem_filter, Bool.not_eq_true', hc, and_true]
        exact List.mem_of_getElem? (by simpa using hx)
      have h00 : (leftOf cs se).toList = [] := List.length_eq_zero_iff.1 (by simpa using h0)
      rw [h00] at this
      cases this
    have step : ∀ l, unLeft left = some l → l = left0 := fun l hl => by
      have := unLeft_eq _ _ hl
      rw [e4] at this
      exact (itLeft_inj this).symm
    rcases run_next_at (P := P) w o.type z.1 y.1 si la se cs cl i4 i2 hall i5.l1 with ⟨h0, hrun0⟩ | ⟨en, hen, w1, hw1, hrun0⟩
    · split at h
      · have hrun : (execOp a.eval o).run P w = .ok (.value (.tuple #[.bool false])) w := by simp [execOp, ho, e, hrun0]
        unfold Oper.wp
        rw [hrun]
        exact ⟨_, _, ρ, s, rfl, vr_tuple.2 ⟨#[.bool false], rfl, (L2.nil ρ).cons (by rw [VR])⟩, hR, Ext.refl _ _ _, h⟩
      · rename_i i l hl
        have hl0 := step _ hl
        have h5 := nx4_all _ h i (List.mem_cons_self ..)
        rw [nthE_eq] at h5
        cases hkv : es[i]? with
        | none => rw [hkv] at h5; cases h5
        | some kv => exact absurd (hmem0 h0 i (by rw [← hlen]; exact (List.getElem?_eq_some_iff.1 hkv).1) (by rw [← hl0]; exact List.mem_cons_self ..)) id
      · cases h
    · obtain ⟨i, hi1, hi2, hi3⟩ := hmem en hen
      split at h
      · rename_i hl
        have := step _ hl
        rw [← this] at hi3
        cases hi3
      · rename_i i0 l hl
        have hl0 := step _ hl
        have h5 := nx4_all _ h i (by rw [hl0]; exact hi3)
        rw [nthE_eq] at h5
        cases hkv : es[i]? with
        | none => rw [hkv] at h5; cases h5
        | some kv =>
          rw [hkv] at h5
          simp only [nx5] at h5
          unfold putItK at h5
          rw [forceL_eq] at h5
          obtain ⟨t', k1, k2⟩ := Tr.setK_get _ _ _ _ _ h5
          obtain ⟨e', g1, g2, g3⟩ := h4 i kv hkv
          rw [hi1] at g1
          obtain rfl := Option.some.inj g1
          have hwh : w1.heap = w.heap := by rcases hw1 with rfl | rfl <;> rfl
          have hne : y.1 ≠ z.1 := fun ee => by rw [ee, i4] at i2; cases i2
          have hzl : z.1 < w1.heap.size := by rw [hwh]; exact hR.lt _ _ hz
          rw [hl0] at k2
          have hIR : IR c (.int .i64 (.ofNat i)) (dropIt i left0) cs cl si (se.push en.born) cl := by
            refine ⟨i5.le, i5.clk, by have := i5.l1; have := i5.l2; omega, Nat.le_refl _, i5.old, fun j ej hj hej => ?_, fun j hj => ?_⟩
            · rw [dropIt_mem, i5.left j ej hj hej]
              have hnd : ∀ (j : Nat) (ej : MapEntry), cs[j]? = some ej → ej.born = en.born → j = i := fun j ej hj hb => by
                have hnd := i3.2
                have a1 : (cs.toList.map (·.born))[j]? = some en.born := by simp [hj, hb]
                have a2 : (cs.toList.map (·.born))[i]? = some en.born := by simp [hi1]
                exact (List.getElem?_inj (List.getElem?_eq_some_iff.1 a1).1 hnd).1 (a1.trans a2.symm)
              constructor
              · rintro ⟨h6, h7⟩
                have hb : ej.born ≠ en.born := fun ee => h6 (hnd j ej hej ee)
                simp only [Array.contains_push, Bool.or_eq_false_iff]
                refine ⟨h7, ?_⟩
                simpa using hb
              · intro h6
                simp only [Array.contains_push, Bool.or_eq_false_iff] at h6
                refine ⟨fun ee => ?_, h6.1⟩
                subst ee
                rw [hi1] at hej
                obtain rfl := Option.some.inj hej
                simp at h6
            · injection hj with _ hj
              injection hj with hj
              subst hj
              exact ⟨en, se, hi1, hi2, rfl⟩
          obtain ⟨r1, r2⟩ := hR.nextM (es' := itList (.map (some m)) c (.int .i64 (.ofNat i)) (dropIt i left0)) (ob := .mapIter (some y.1) si (se.push en.born) cl) hes hz i4 (fun _ _ ee => by cases ee) (fun _ _ _ ee => by cases ee) k2 hw1 (.inr ⟨some m, c, _, dropIt i left0, rfl, y, cs, cl, si, se.push en.born, cl, i1, by
            show (w1.heap.setIfInBounds z.1 _)[y.1]? = _
            rw [Array.getElem?_setIfInBounds_ne (Ne.symm hne), hwh]; exact i2, i3, by
            show (w1.heap.setIfInBounds z.1 _)[z.1]? = _
            simp [hzl], hIR⟩)
          have hrun : (execOp a.eval o).run P w = .ok (.value (.tuple #[.bool true, en.key, en.val])) (setBlock w1 z.1 (.mapIter (some y.1) si (se.push en.born) cl)) := by simp [execOp, ho, e, hrun0]
          unfold Oper.wp
          rw [hrun]
          exact ⟨_, _, ρ, _, rfl, vr_tuple.2 ⟨#[.bool true, en.key, en.val], rfl, (((L2.nil ρ).cons g3).cons g2).cons (by rw [VR])⟩, r1, r2, k1⟩
      · cases h
  · cases h
theorem op_en (hR : R ρ s w) (hT : TR ρ t a) {x : Operand} (ho : o.op = .entry x) (h : opEn s k (opv t x) = true) : o.wp P a w (Nx ρ s w k o a) Q := by
  have hx := hT.opv x
  generalize opv t x = X at h hx
  unfold opEn at h
  split at h
  case h_2 => cases h
  rename_i ad
  cases hoff : Nat.beq ad.off 0 with
  | false => rw [hoff] at h; cases h
  | true =>
  rw [hoff] at h
  simp only [cond_true] at h
  have e0 := Nat.eq_of_beq_eq_true hoff
  obtain ⟨z, hz, e⟩ : ∃ z, ρ ad.block = some z ∧ a.eval x = .pointer (some ⟨z.1, 0, none⟩) := by
    rw [VR] at hx
    obtain ⟨q, ⟨z, hz, rfl⟩, e⟩ := hx
    exact ⟨z, hz, by rw [e, e0]⟩
  unfold en1 at h
  split at h
  case h_2 => cases h
  rename_i m c i left hes
  unfold en2 at h
  split at h
  case h_2 => cases h
  rename_i es hms
  cases hq : (Nat.beq es.length c && !isIt es) with
  | false => rw [hq] at h; cases h
  | true =>
  rw [hq] at h
  simp only [cond_true] at h
  simp only [Bool.and_eq_true, Bool.not_eq_true'] at hq
  have hlen := Nat.eq_of_beq_eq_true hq.1
  split at h
  case h_2 => cases h
  rename_i kv hkv
  rw [nthE_eq] at hkv
  obtain ⟨z', hz', hM⟩ := hR.maps _ _ hes
  rw [hz] at hz'
  obtain rfl := Option.some.inj hz'
  obtain ⟨t0, n0, cur0, left0, e1, hI⟩ := isIt_it hM rfl
  unfold itList at e1
  injection e1 with e2 e3
  injection e2 with _ e2
  injection e2 with e2
  subst e2
  injection e3 with e3 e4
  injection e3 with e3 e5
  injection e3 with _ e3
  injection e3 with e3
  subst e3 e5
  obtain ⟨y, cs, cl, si, se, la, i1, i2, i3, i4, i5⟩ := hI
  obtain ⟨y', hy', hMm⟩ := hR.maps _ _ hms
  rw [i1] at hy'
  obtain rfl := Option.some.inj hy'
  obtain ⟨cs', cl', h2, h3, h4⟩ := notIt hMm hq.2
  rw [i2] at h2
  injection h2 with h2
  injection h2 with h2a h2b
  subst h2a h2b
  have hsz : cs.size = c := by rw [h3.1, hlen]
  have hclk := i5.clk
  obtain ⟨en, se0, g1, g2, rfl⟩ := i5.cur i rfl
  obtain ⟨e', g3, g4, g5⟩ := h4 i kv hkv
  rw [g1] at g3
  obtain rfl := Option.some.inj g3
  have hla : la = cl := by have := i5.l1; have := i5.l2; omega
  subst hla
  have hrun0 := run_entry_at (P := P) w z.1 y.1 si se0 cs la en i4 i2 (List.mem_of_getElem? (by simpa using g1)) i3.2
  have hrun : (execOp a.eval o).run P w = .ok (.value (.tuple #[en.key, en.val])) w := by simp [execOp, ho, e, hrun0]
  unfold Oper.wp
  rw [hrun]
  exact ⟨_, _, ρ, s, rfl, vr_tuple.2 ⟨#[en.key, en.val], rfl, ((L2.nil ρ).cons g5).cons g4⟩, hR, Ext.refl _ _ _, h⟩
end
end Go.Proofs.YtcfekhcdadldmaaGreatDoor.Am
