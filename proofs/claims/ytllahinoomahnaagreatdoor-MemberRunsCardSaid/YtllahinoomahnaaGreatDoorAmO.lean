import Derived.Test.YtllahinoomahnaaGreatDoorAmN
set_option linter.unusedSimpArgs false
namespace Go.Proofs.YtllahinoomahnaaGreatDoor.Am
open Go

/- a region in any order, by what holds where some of its operations are done. -/
def leftN (listed : Array Bool) : Nat := listed.toList.count false
theorem leftN_set {listed : Array Bool} {i : Nat} (hi : i < listed.size) (h : listed.getD i true = false) : leftN (listed.setIfInBounds i true) + 1 = leftN listed := by
  have hl : i < listed.toList.length := by simpa using hi
  have hv : listed.toList[i] = false := by
    have : listed[i] = false := by simpa [Array.getD, hi] using h
    simpa using this
  have hc : 0 < listed.toList.count false := List.count_pos_iff.2 (hv ▸ List.getElem_mem hl)
  rw [leftN, leftN, Array.toList_setIfInBounds, List.count_set hl, hv]
  rw [if_pos (show (false == false) = true from rfl), if_neg (show ¬ (true == false) = true by decide)]
  omega
theorem ready_nil {ops : Array Oper} {listed : Array Bool} (hs : listed.size = ops.size) (h : leftN listed = 0) : Region.ready .any ops listed = [] := by
  rw [Region.ready, List.filter_eq_nil_iff]
  intro i hi
  have hi' : i < listed.size := by rw [hs]; exact List.mem_range.1 hi
  have hv : listed[i] = true := by
    rcases hb : listed[i] with _ | _
    · exfalso
      have : 0 < listed.toList.count false := List.count_pos_iff.2 (by rw [← hb]; simp)
      unfold leftN at h
      omega
    · rfl
  simp [Array.getD, hi', hv]
section
variable {P : Program} {ops : Array Oper} {Q : Exit → Act → World → Prop}
theorem wpAny_invG (I : (Nat → Bool) → Act → World → Prop)
    (step : ∀ (i : Nat) (o : Oper) (S : Nat → Bool) (a : Act) (u : World), ops[i]? = some o → S i = false → (∀ j ∈ waits o, S j = true) → I S a u → wpOp P ops Q i (fun a' u' => I (fun j => decide (j = i) || S j) a' u') a u)
    (fin : ∀ (S : Nat → Bool) (a : Act) (u : World), (∀ i, i < ops.size → S i = true) → I S a u → Q .normal a u) (hb : ∀ (i : Nat) (o : Oper), ops[i]? = some o → ∀ j ∈ waits o, j < i) :
    ∀ (fuel : Nat) (listed : Array Bool) (a : Act) (w : World), listed.size = ops.size → (∃ S : Nat → Bool, (∀ i, S i = listed.getD i false) ∧ I S a w) → leftN listed ≤ fuel → wpAny P .any ops Q fuel listed a w := by
  have wt : ∀ (o : Oper) (j : Nat), j ∈ waits o ↔ ∃ e ∈ o.after.toList, Region.binds .any e = true ∧ e.on = j := fun o j => by
    unfold waits
    rw [List.mem_map]
    constructor
    · rintro ⟨e, he, rfl⟩
      exact ⟨e, (List.mem_filter.1 he).1, (List.mem_filter.1 he).2, rfl⟩
    · rintro ⟨e, h1, h2, rfl⟩
      exact ⟨e, List.mem_filter.2 ⟨h1, h2⟩, rfl⟩
  have finR : ∀ (listed : Array Bool) (a : Act) (w : World), listed.size = ops.size → (∃ S : Nat → Bool, (∀ i, S i = listed.getD i false) ∧ I S a w) → Region.ready .any ops listed = [] → Q .normal a w := by
    rintro listed a w hs ⟨S, hS, hI⟩ hr
    refine fin S a w ?_ hI
    intro i
    induction i using Nat.strongRecOn with
    | ind i ih =>
      intro hi
      rw [hS]
      rcases hbd : listed.getD i false with _ | _
      · exfalso
        have hno : i ∉ Region.ready .any ops listed := by rw [hr]; simp
        apply hno
        rw [Region.ready, List.mem_filter]
        refine ⟨List.mem_range.2 hi, ?_⟩
        have ho : ops[i]? = some ops[i] := by simp [hi]
        rw [ho]
        simp only [Option.map_some, Option.getD_some]
        have hi2 : i < listed.size := by rw [hs]; exact hi
        have hT : listed.getD i true = false := by
          simp only [Array.getD, hi2, dite_true] at hbd ⊢
          exact hbd
        rw [hT]
        simp only [Bool.not_false, Bool.true_and]
        rw [Array.all_eq_true']
        intro e he
        rcases hbe : Region.binds .any e with _ | _
        · rfl
        · have hj : e.on ∈ waits ops[i] := (wt _ _).2 ⟨e, by simpa using he, hbe, rfl⟩
          have hlt := hb i _ ho e.on hj
          have := ih e.on hlt (by omega)
          rw [hS] at this
          simpa using this
      · rfl
  intro fuel
  induction fuel with
  | zero =>
    intro listed a w hs h hl
    have hr := ready_nil hs (Nat.le_zero.1 hl)
    exact ⟨hr, finR _ _ _ hs h hr⟩
  | succ fuel ih =>
    intro listed a w hs h hl
    refine ⟨fun hr => finR _ _ _ hs h hr, fun i hi => ?_⟩
    obtain ⟨S, hS, hI⟩ := h
    have hi' := List.mem_filter.1 hi
    have hlt : i < ops.size := List.mem_range.1 hi'.1
    have ho : ops[i]? = some ops[i] := by simp [hlt]
    have hp := hi'.2
    rw [ho] at hp
    simp only [Bool.and_eq_true, Option.map_some, Option.getD_some] at hp
    have hil : i < listed.size := by rw [hs]; exact hlt
    have hno : listed.getD i true = false := by simpa using hp.1
    have hno2 : listed.getD i false = false := by
      simp only [Array.getD, hil, dite_true] at hno ⊢
      exact hno
    have hw : ∀ j ∈ waits ops[i], S j = true := fun j hj => by
      obtain ⟨e, he, hbe, rfl⟩ := (wt _ _).1 hj
      have := Array.all_eq_true'.1 hp.2 e (by simpa using he)
      rw [hbe] at this
      rw [hS]
      simpa using this
    have hstep := step i ops[i] S a w ho ((hS i).trans hno2) hw hI
    have hleft := leftN_set hil hno
    refine wpOp_mono (fun a' w' h' => ih _ a' w' (by simp [hs]) ⟨_, fun j => ?_, h'⟩ (by omega)) hstep
    by_cases hji : j = i
    · subst hji; simp [Array.getD, hil]
    · have he : (listed.setIfInBounds i true).getD j false = listed.getD j false := by
        simp only [Array.getD_eq_getD_getElem?]
        rw [Array.getElem?_setIfInBounds_ne (Ne.symm hji)]
      simp [hji, hS, he]
theorem region_invG {id : Nat} {a0 : Act} {w : World} (hm : P.follows .mixedOrders = true) (I : (Nat → Bool) → Act → World → Prop) (h0 : I (fun _ => false) a0 w.drew)
    (step : ∀ (i : Nat) (o : Oper) (S : Nat → Bool) (a : Act) (u : World), ops[i]? = some o → S i = false → (∀ j ∈ waits o, S j = true) → I S a u → wpOp P ops Q i (fun a' u' => I (fun j => decide (j = i) || S j) a' u') a u)
    (fin : ∀ (S : Nat → Bool) (a : Act) (u : World), (∀ i, i < ops.size → S i = true) → I S a u → Q .normal a u) (hb : ∀ (i : Nat) (o : Oper), ops[i]? = some o → ∀ j ∈ waits o, j < i) : (Code.region id ops true).wp P Q a0 w :=
  wp_region_any hm (wpAny_invG I step fin hb ops.size (Array.replicate ops.size false) a0 _ (by simp) ⟨fun _ => false, fun i => by simp [Array.getD], h0⟩ (by simp [leftN]))
end
/- what the look at a region says. -/
theorem flat_congr {f g : Nat → List Nat} : ∀ (l : List Nat), (∀ j ∈ l, f j = g j) → l.flatMap f = l.flatMap g
  | [], _ => rfl
  | x :: r, h => by rw [List.flatMap_cons, List.flatMap_cons, h x (by simp), flat_congr r (fun j hj => h j (by simp [hj]))]
theorem preOf_spec : ∀ (l : List Oper) (acc : List (List Nat)), (∃ tl, preOf l acc = acc ++ tl ∧ tl.length = l.length) ∧ ∀ (i : Nat) (o : Oper), l[i]? = some o → (∀ j ∈ waits o, j < acc.length + i) → (preOf l acc).getD (acc.length + i) [] = (waits o).flatMap fun j => j :: (preOf l acc).getD j []
  | [], acc => ⟨⟨[], by simp [preOf], rfl⟩, fun i o h => by simp at h⟩
  | p :: r, acc => by
    obtain ⟨⟨tl, h1, h2⟩, h3⟩ := preOf_spec r (acc ++ [(waits p).flatMap fun j => j :: acc.getD j []])
    rw [show preOf (p :: r) acc = preOf r (acc ++ [(waits p).flatMap fun j => j :: acc.getD j []]) from rfl]
    refine ⟨⟨_, by rw [h1, List.append_assoc], by simp [h2]⟩, fun i o ho hw => ?_⟩
    cases i with
    | zero =>
      simp only [List.getElem?_cons_zero, Option.some.injEq] at ho
      subst ho
      have e1 : (preOf r (acc ++ [(waits p).flatMap fun j => j :: acc.getD j []])).getD (acc.length + 0) [] = (waits p).flatMap fun j => j :: acc.getD j [] := by
        rw [h1, List.append_assoc, List.getD_eq_getElem?_getD, List.getElem?_append_right (by simp)]
        simp
      rw [e1]
      refine flat_congr _ fun j hj => ?_
      have hlt := hw j hj
      congr 1
      rw [h1, List.append_assoc, List.getD_eq_getElem?_getD, List.getD_eq_getElem?_getD, List.getElem?_append_left (by omega)]
    | succ i =>
      have := h3 i o (by simpa using ho) (fun j hj => by have := hw j hj; simp; omega)
      rw [show (acc ++ [(waits p).flatMap fun j => j :: acc.getD j []]).length + i = acc.length + (i + 1) by simp; omega] at this
      exact this
structure Stat (F : Fl) (all : List Oper) (pre : List (List Nat)) : Prop where
  back : ∀ (i : Nat) (o : Oper), all[i]? = some o → ∀ j ∈ waits o, j < i
  opnd : ∀ (i : Nat) (o : Oper), all[i]? = some o → ∀ d ∈ tmpsOf all o, ∀ (j : Nat) (p : Oper), all[j]? = some p → p.dst = some d → hvy F j p = false → j ∈ pre.getD i []
  heavy : ∀ (i : Nat) (o : Oper), all[i]? = some o → hvy F i o = true → ∀ (j : Nat) (p : Oper), j < i → all[j]? = some p → hvy F j p = true → j ∈ pre.getD i []
  dst : ∀ (i j : Nat) (o p : Oper) (d : Nat), all[i]? = some o → all[j]? = some p → o.dst = some d → p.dst = some d → i = j
  flt : ∀ (i : Nat) (o : Oper), hasN F.fl i = true → all[i]? = some o → ∀ d ∈ tmpsOf all o, ∀ (j : Nat) (p : Oper), all[j]? = some p → p.dst = some d → j ∈ pre.getD i []
theorem isDst_iff {o : Oper} {d : Nat} : isDst o d = true ↔ o.dst = some d := by
  unfold isDst
  cases o.dst with
  | none => simp
  | some e => simp only [Option.some.injEq]; exact ⟨Nat.eq_of_beq_eq_true, fun e => by rw [e]; exact Nat.beq_refl d⟩
theorem stat_of {F : Fl} {all : List Oper} {pre : List (List Nat)} (h : statB F all pre = true) : Stat F all pre := by
  have lt : ∀ (i : Nat) (o : Oper), all[i]? = some o → i < all.length := fun i o ho => (List.getElem?_eq_some_iff.1 ho).1
  have h1 : ∀ (i : Nat) (o : Oper), all[i]? = some o → stat1 F all pre i o = true := fun i o ho => by
    have := List.all_eq_true.1 h i (List.mem_range.2 (lt i o ho))
    rw [ho] at this
    exact this
  refine ⟨fun i o ho j hj => ?_, fun i o ho d hd j p hp hpd hpl => ?_, fun i o ho hh j p hji hp hph => ?_, fun i j o p d ho hp hod hpd => ?_, fun i o hf ho d hd j p hp hpd => ?_⟩
  · have := h1 i o ho
    simp only [stat1, Bool.and_eq_true] at this
    exact (blt_iff _ _).1 (List.all_eq_true.1 this.1 j hj)
  · have := h1 i o ho
    simp only [stat1, Bool.and_eq_true] at this
    have h2 := List.all_eq_true.1 (List.all_eq_true.1 this.2.1 d hd) j (List.mem_range.2 (lt j p hp))
    rw [hp] at h2
    simp only [isDst_iff.2 hpd, hpl, cond_true, cond_false] at h2
    exact hasN_iff.1 h2
  · have := h1 i o ho
    simp only [stat1, Bool.and_eq_true] at this
    have h2 := this.2.2.1
    rw [hh] at h2
    simp only [cond_true] at h2
    have h3 := List.all_eq_true.1 h2 j (List.mem_range.2 hji)
    rw [hp] at h3
    simp only [hph, cond_true] at h3
    exact hasN_iff.1 h3
  · have := h1 i o ho
    simp only [stat1, Bool.and_eq_true] at this
    have h2 := List.all_eq_true.1 this.2.2.2.1 j (List.mem_range.2 (lt j p hp))
    rw [hp, hod] at h2
    simp only at h2
    cases hq : Nat.beq i j with
    | true => exact Nat.eq_of_beq_eq_true hq
    | false =>
      rw [hq] at h2
      simp only [cond_false, Bool.not_eq_true'] at h2
      rw [isDst_iff.2 hpd] at h2
      cases h2
  · have := h1 i o ho
    simp only [stat1, Bool.and_eq_true] at this
    have h2 := this.2.2.2.2
    rw [hf] at h2
    simp only [cond_true] at h2
    have h3 := List.all_eq_true.1 (List.all_eq_true.1 h2 d hd) j (List.mem_range.2 (lt j p hp))
    rw [hp] at h3
    simp only [isDst_iff.2 hpd, cond_true] at h3
    exact hasN_iff.1 h3
theorem pre_in {all : List Oper} (hb : ∀ (i : Nat) (o : Oper), all[i]? = some o → ∀ j ∈ waits o, j < i) {S : Nat → Bool} (hS : ∀ (i : Nat) (o : Oper), all[i]? = some o → S i = true → ∀ j ∈ waits o, S j = true) :
    ∀ (i : Nat) (o : Oper), all[i]? = some o → (∀ j ∈ waits o, S j = true) → ∀ j ∈ (preOf all []).getD i [], S j = true := by
  intro i
  induction i using Nat.strongRecOn with
  | ind i ih =>
    intro o ho hw j hj
    have h1 := (preOf_spec all []).2 i o ho (fun j hj => by simpa using hb i o ho j hj)
    simp only [List.length_nil, Nat.zero_add] at h1
    rw [h1, List.mem_flatMap] at hj
    obtain ⟨x, hx, hj⟩ := hj
    rcases List.mem_cons.1 hj with rfl | hj
    · exact hw _ hx
    · have hlt := hb i o ho x hx
      have hxl : x < all.length := Nat.lt_trans hlt (List.getElem?_eq_some_iff.1 ho).1
      have hox : all[x]? = some all[x] := by simp [hxl]
      exact ih x hlt _ hox (hS x _ hox (hw x hx)) j hj
end Go.Proofs.YtllahinoomahnaaGreatDoor.Am
