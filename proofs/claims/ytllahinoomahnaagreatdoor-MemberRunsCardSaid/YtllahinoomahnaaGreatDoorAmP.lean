import Derived.Test.YtllahinoomahnaaGreatDoorAmO
set_option linter.unusedSimpArgs false
namespace Go.Proofs.YtllahinoomahnaaGreatDoor.Am
open Go

theorem putK_eq (t : List Value) (d : Option Tmp) (v : Value) (k : List Value → Bool) : putK t d v k = k (match d with | none => t | some n => t.set n v) := by
  cases d with
  | none => rfl
  | some n => simp only [putK, forceV_eq, setK_eq]
theorem passK_ok {E : Env} {F : Fl} {all : List Oper} {new : Nat → Bool} {s : St} {k : List Value → Bool} : ∀ (l : List Nat) (t : List Value), passK E F all new s k l t = true →
    ∃ t', k t' = true ∧ t'.length = t.length ∧ ∀ (d : Nat), (∀ i ∈ l, ∀ o, all[i]? = some o → hvy F i o = false → new i = true → o.dst ≠ some d) → t'[d]? = t[d]?
  | [], t, h => ⟨t, h, rfl, fun _ _ => rfl⟩
  | i :: r, t, h => by
    rw [passK] at h
    have skip : passK E F all new s k r t = true → ∃ t', k t' = true ∧ t'.length = t.length ∧ ∀ (d : Nat), (∀ j ∈ i :: r, ∀ o, all[j]? = some o → hvy F j o = false → new j = true → o.dst ≠ some d) → t'[d]? = t[d]? := fun h => by
      obtain ⟨t', h1, h2, h3⟩ := passK_ok r t h
      exact ⟨t', h1, h2, fun d hd => h3 d fun j hj => hd j (by simp [hj])⟩
    split at h
    · rename_i o ho
      cases hh : hvy F i o with
      | true => rw [hh] at h; exact skip h
      | false =>
        rw [hh] at h
        simp only [cond_false] at h
        cases hn : new i with
        | false => rw [hn] at h; exact skip h
        | true =>
          rw [hn] at h
          simp only [cond_true] at h
          unfold setO at h
          split at h
          · rename_i v hv
            rw [putK_eq] at h
            obtain ⟨t', h1, h2, h3⟩ := passK_ok r _ h
            refine ⟨t', h1, ?_, fun d hd => ?_⟩
            · rw [h2]; cases o.dst <;> simp
            · rw [h3 d fun j hj => hd j (by simp [hj])]
              have := hd i (by simp) o ho hh hn
              cases hdst : o.dst with
              | none => rfl
              | some n =>
                rw [hdst] at this
                simp only
                rw [List.getElem?_set_ne (fun e => this (by rw [e]))]
          · cases h
    · exact skip h
theorem heavies_mem {F : Fl} {all : List Oper} {i : Nat} : i ∈ heavies F all ↔ ∃ o, all[i]? = some o ∧ hvy F i o = true := by
  unfold heavies
  rw [List.mem_filter, List.mem_range]
  constructor
  · rintro ⟨h1, h2⟩
    have ho : all[i]? = some all[i] := by simp [h1]
    rw [ho] at h2
    exact ⟨_, ho, h2⟩
  · rintro ⟨o, ho, hh⟩
    exact ⟨(List.getElem?_eq_some_iff.1 ho).1, by rw [ho]; exact hh⟩
theorem heavies_sorted (F : Fl) (all : List Oper) : (heavies F all).Pairwise (· < ·) := List.Pairwise.filter _ (List.pairwise_lt_range)
/-- new boxes that are laid already or not, their rows not taken yet. -/
structure Pend (E : Env) (F : Fl) (all : List Oper) (w0 : World) (t : List Value) (S : Nat → Bool) (U : Nat → Bool) (ρ : Rho) (s : St) (w : World) : Prop where
  lt : ∀ i, U i = true → F.c0 + i < s.c
  no : ∀ i, U i = true → S i = false → ρ (F.c0 + i) = none
  yes : ∀ i, U i = true → S i = true → ∃ (o : Oper) (I : FlI) (b : Nat) (ys : Array Value), all[i]? = some o ∧ flInfo E t o.op = some I ∧ ρ (F.c0 + i) = some (b, ys.size, I.sz) ∧ w.heap[b]? = some (.cells ys I.ty) ∧ ¬ Own ρ s b ∧ w0.heap.size ≤ b ∧ L2 ρ I.cs (ys.toList.take I.cs.length) ∧ I.cs.length ≤ ys.size ∧ (∀ v ∈ I.cs, one v = true) ∧ (I.sz = 0 → I.cs.length = ys.size)
  inj : ∀ i j x y, U i = true → U j = true → S i = true → S j = true → ρ (F.c0 + i) = some x → ρ (F.c0 + j) = some y → x.1 = y.1 → i = j
def unm (F : Fl) (all : List Oper) (dn : List Nat) (i : Nat) : Bool := hasN F.fl i && live (preOf all []) dn i
/-- what light operations give is what lies in the frame. -/
def FixP (E : Env) (F : Fl) (all : List Oper) (dn rem : List Nat) (t : List Value) (s : St) : Prop := ∀ (i : Nat) (o : Oper), all[i]? = some o → hvy F i o = false → avail (preOf all []) rem i = true → live (preOf all []) dn i = true → ∃ v, gd E F all t s i o = some v ∧ ∀ d, o.dst = some d → d < t.length → t[d]? = some v
/-- where some operations of a region are done. -/
structure DI (P : Program) (E : Env) (F : Fl) (call : CallK) (all : List Oper) (k : KT) (ρ0 : Rho) (s0 : St) (w0 : World) (S : Nat → Bool) (a : Act) (w : World) (dn rem : List Nat) (t : List Value) (s : St) (ρ : Rho) : Prop where
  closed : ∀ (i : Nat) (o : Oper), all[i]? = some o → S i = true → ∀ j ∈ waits o, S j = true
  rems : heavies F all = dn ++ rem
  heavy : ∀ (i : Nat) (o : Oper), all[i]? = some o → hvy F i o = true → (S i = true ↔ i ∉ rem)
  light : ∀ (i : Nat) (o : Oper), all[i]? = some o → hvy F i o = false → S i = true → avail (preOf all []) rem i = true
  rel : R ρ s w
  pend : Pend E F all w0 t S (unm F all dn) ρ s w
  ext : Ext ρ0 s0 w0 ρ s w
  size : a.tmps.size = t.length
  defers : a.defers = []
  slots : ∀ (d : Nat) (v : Value), t[d]? = some v → (∀ (i : Nat) (o : Oper), all[i]? = some o → o.dst = some d → hvy F i o = false → S i = true) → ∃ u, a.tmps[d]? = some u ∧ VR ρ v u
  fix : FixP E F all dn rem t s
  res : evS E F call all (preOf all []) k rem dn t s = true
section
variable {P : Program} {E : Env} {F : Fl} {call : CallK} {all : List Oper} {k : KT} {ρ0 : Rho} {s0 : St} {w0 : World} {S : Nat → Bool} {a : Act} {w : World} {dn rem : List Nat} {t : List Value} {s : St} {ρ : Rho}
open Classical in
/-- what isn't there yet is masked. -/
theorem DI.mask (h : DI P E F call all k ρ0 s0 w0 S a w dn rem t s ρ) : ∃ t' : List Value, TR ρ t' a ∧ ∀ (d : Nat), (∀ (i : Nat) (o : Oper), all[i]? = some o → o.dst = some d → hvy F i o = false → S i = true) → t'[d]? = t[d]? := by
  refine ⟨t.mapIdx fun d v => if (∀ (i : Nat) (o : Oper), all[i]? = some o → o.dst = some d → hvy F i o = false → S i = true) then v else junk, ⟨⟨by simp [h.size], fun d v hv => ?_⟩, h.defers⟩, fun d hd => ?_⟩
  · rw [List.getElem?_mapIdx] at hv
    cases ht : t[d]? with
    | none => rw [ht] at hv; cases hv
    | some x =>
      rw [ht] at hv
      simp only [Option.map_some, Option.some.injEq] at hv
      by_cases hc : ∀ (i : Nat) (o : Oper), all[i]? = some o → o.dst = some d → hvy F i o = false → S i = true
      · rw [if_pos hc] at hv
        subst hv
        obtain ⟨u, h1, h2⟩ := h.slots d x ht hc
        exact ⟨u, by simpa using h1, h2⟩
      · rw [if_neg hc] at hv
        subst hv
        have hd : d < a.tmps.size := by rw [h.size]; exact (List.getElem?_eq_some_iff.1 ht).1
        exact ⟨a.tmps[d], by simp [hd], by rw [VR]; trivial⟩
  · rw [List.getElem?_mapIdx]
    cases ht : t[d]? with
    | none => rfl
    | some x => simp only [Option.map_some]; rw [if_pos hd]
theorem opv_congr {t' : List Value} {o : Oper} (h : ∀ d ∈ tmpsOf all o, t'[d]? = t[d]?) : (∀ x ∈ o.op.operands.toList, opv t' x = opv t x) ∧ ∀ g, o.guard = some g → guardV all t' g.1 = guardV all t g.1 := by
  constructor
  · intro x hx
    cases x with
    | tmp d =>
      simp only [opv, atD_eq]
      rw [h d (by unfold tmpsOf; rw [List.mem_append]; exact .inl (List.mem_filterMap.2 ⟨.tmp d, hx, rfl⟩))]
    | const v => rfl
    | global g => rfl
    | func f => rfl
  · intro g hg
    unfold guardV
    cases hd : (all[g.1]?).bind (·.dst) with
    | none => rfl
    | some d =>
      simp only [Option.bind_some, at?_eq]
      exact h d (by unfold tmpsOf; rw [List.mem_append]; right; rw [hg]; simp [hd])
theorem gd_congr {E : Env} {F : Fl} {all : List Oper} {t t' : List Value} {s : St} {i : Nat} {o : Oper} (h : ∀ d ∈ tmpsOf all o, t'[d]? = t[d]?) : gd E F all t' s i o = gd E F all t s i o := by
  obtain ⟨h1, h2⟩ := opv_congr (all := all) (t := t) (t' := t') (o := o) h
  unfold gd flV guarded
  rw [fl_congr (t' := t) h1, light_congr (t' := t) h1]
  cases hg : o.guard with
  | none => rfl
  | some g =>
    simp only
    rw [h2 g hg]
end
end Go.Proofs.YtllahinoomahnaaGreatDoor.Am
