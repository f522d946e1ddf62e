import Derived.Test.YtllahinoomahnaaGreatDoorAmWd
import Derived.Shelf.Strings.OnBuilder
import Derived.Shelf.Strconv.Clone
set_option linter.unusedSimpArgs false
namespace Go.Proofs.YtllahinoomahnaaGreatDoor.Am
open Go Go.RowKit Go.Shelf Go.Proofs

/- functions of Go's library that are told by the library's own contracts. -/
theorem enters {P : Program} {f : FuncId} (h : (fnOfP P f).isSome = true) (us : Array Value) (w : World) : (callFunc f us).run P w = .ok (.enter f us) w := by
  obtain ⟨fn, hf⟩ := Option.isSome_iff_exists.1 h
  exact ((goodF_of (P := P) (ext := fun _ => none) (xt := fun _ => none) (fun _ _ h => by cases h)).fn f fn hf).2 us w
def strOf : Value → Option (List UInt8)
  | .string b => some b.data.toList
  | _ => none
def strsOf : List Value → Option (List (List UInt8))
  | [] => some []
  | v :: r => match strOf v with
    | some b => match strsOf r with
      | some l => some (b :: l)
      | none => none
    | none => none
def joinK3 (s : St) (k : K2) (l : List UInt8) : Bool := cond (Nat.ble l.length 1000000) (forceL l fun l => k (.string ⟨⟨l⟩⟩) s) false
def joinK2 (s : St) (sep : List UInt8) (k : K2) : Option (List (List UInt8)) → Bool
  | some xs => cond (Nat.ble xs.length 1000000) (joinK3 s k (Lib.join xs sep)) false
  | none => false
def joinK1 (s : St) (sep : List UInt8) (k : K2) : Option (List Value) → Bool
  | some l => joinK2 s sep k (strsOf l)
  | none => false
def xJoin : List Value → St → K2 → Bool
  | [.slice a n _, .string sep], s, k => joinK1 s sep.data.toList k (rowPart s n a)
  | _, _, _ => false
def xClone : List Value → St → K2 → Bool
  | [.string b], s, k => cond (Nat.ble b.data.toList.length 1000000) (k (.string b) s) false
  | _, _, _ => false
theorem strOf_eq {v : Value} {l : List UInt8} (h : strOf v = some l) : v = .string ⟨⟨l⟩⟩ := by
  unfold strOf at h
  split at h
  · rename_i b
    obtain rfl := Option.some.inj h
    cases b with | mk d => cases d; rfl
  · cases h
theorem strsOf_eq : ∀ (l : List Value) (xs : List (List UInt8)), strsOf l = some xs → l = xs.map fun x => .string ⟨⟨x⟩⟩
  | [], xs, h => by obtain rfl := Option.some.inj h; rfl
  | v :: r, xs, h => by
    rw [strsOf] at h
    split at h
    · rename_i b hb
      split at h
      · rename_i l hl
        obtain rfl := Option.some.inj h
        rw [strOf_eq hb, strsOf_eq r l hl]; rfl
      · cases h
    · cases h
theorem l2_strs {ρ : Rho} {xs : List (List UInt8)} {us : List Value} (h : L2 ρ (xs.map fun x => .string ⟨⟨x⟩⟩) us) : us = xs.map fun x => .string ⟨⟨x⟩⟩ := by
  apply List.ext_getElem?
  intro i
  cases hi : (xs.map fun x => (.string ⟨⟨x⟩⟩ : Value))[i]? with
  | none =>
    have hl := List.getElem?_eq_none_iff.1 hi
    exact List.getElem?_eq_none (by rw [h.1]; exact hl)
  | some v =>
    obtain ⟨u, hu, hv⟩ := h.2 i v hi
    rw [hu]
    have := List.mem_of_getElem? hi
    obtain ⟨c, _, rfl⟩ := List.mem_map.1 this
    rw [VR] at hv
    rw [hv]
theorem ext_one {P : Program} {f : FuncId} {g : List Value → St → K2 → Bool} (hf : (fnOfP P f).isSome = true) (h : ∀ args s k, g args s k = true → ∀ ρ w us, R ρ s w → L2 ρ args us → Calls P f us.toArray w (fun e w' => ∃ v u ρ' s', e = .returned u ∧ VR ρ' v u ∧ R ρ' s' w' ∧ Ext ρ s w ρ' s' w' ∧ k v s' = true)) : CallOk P (fun f' args s k => cond (Nat.beq f' f) (g args s k) false) := fun f' args s k hk => by
  cases hq : Nat.beq f' f with
  | false => simp only [hq] at hk; cases hk
  | true =>
    simp only [hq, cond_true] at hk
    obtain rfl := Nat.eq_of_beq_eq_true hq
    exact ⟨enters hf, h args s k hk⟩
theorem clone_ok {P : Program} {ren : Ren} (L : LaysM.n316 P ren) (hf : (fnOfP P (ren.f 316)).isSome = true) : CallOk P (fun f' args s k => cond (Nat.beq f' (ren.f 316)) (xClone args s k) false) := by
  refine ext_one hf fun args s k h ρ w us hR hl => ?_
  unfold xClone at h
  split at h
  · rename_i b
    cases hq : Nat.ble b.data.toList.length 1000000 with
    | false => rw [hq] at h; cases h
    | true =>
      rw [hq] at h
      obtain ⟨u, r, rfl, hv, hr⟩ := hl.inv
      have : r = [] := List.length_eq_zero_iff.1 hr.1
      subst this
      obtain rfl : u = .string b := by rw [VR] at hv; exact hv
      have hbl : b.data.toList.length = b.size := by cases b; rfl
      have hle := Nat.le_of_ble_eq_true hq
      refine (Any.stringslite_Clone L b w (by omega)).mono ?_
      rintro e w' ⟨rfl, hb⟩
      obtain ⟨r1, r2⟩ := hR.grow hb
      exact ⟨.string b, _, ρ, s, rfl, by rw [VR], r1, r2, h⟩
  · cases h
theorem join_ok {P : Program} {ren : Ren} (L : Lays.n156 P ren) (X : Builder.Extra P ren) (hf : (fnOfP P (ren.f 156)).isSome = true) : CallOk P (fun f' args s k => cond (Nat.beq f' (ren.f 156)) (xJoin args s k) false) := by
  refine ext_one hf fun args s k h ρ w us hR hl => ?_
  unfold xJoin at h
  split at h
  case h_2 => cases h
  rename_i a n c sep
  unfold joinK1 at h
  split at h
  case h_2 => cases h
  rename_i l hrow
  unfold joinK2 at h
  split at h
  case h_2 => cases h
  rename_i xs hxs
  cases hq : Nat.ble xs.length 1000000 with
  | false => rw [hq] at h; cases h
  | true =>
    rw [hq] at h
    simp only [cond_true, joinK3] at h
    cases hq2 : Nat.ble (Lib.join xs sep.data.toList).length 1000000 with
    | false => rw [hq2] at h; cases h
    | true =>
      rw [hq2] at h
      simp only [cond_true, forceL_eq] at h
      have hle := Nat.le_of_ble_eq_true hq
      have hle2 := Nat.le_of_ble_eq_true hq2
      obtain ⟨u, r, rfl, hv, hr⟩ := hl.inv
      obtain ⟨u2, r2, rfl, hv2, hr2⟩ := hr.inv
      have : r2 = [] := List.length_eq_zero_iff.1 hr2.1
      subst this
      obtain rfl : u2 = .string sep := by rw [VR] at hv2; exact hv2
      have hle3 := strsOf_eq _ _ hxs
      have fin : ∀ e w', e = Ending.returned (.string ⟨(Lib.join xs sep.data.toList).toArray⟩) → Below w.heap.size w w' → ∃ v u ρ' s', e = .returned u ∧ VR ρ' v u ∧ R ρ' s' w' ∧ Ext ρ s w ρ' s' w' ∧ k v s' = true := by
        rintro e w' rfl hb
        obtain ⟨r1, r2⟩ := hR.grow hb
        exact ⟨.string ⟨⟨Lib.join xs sep.data.toList⟩⟩, _, ρ, s, rfl, by rw [VR], r1, r2, h⟩
      rcases Nat.eq_zero_or_pos n with hn | hn
      · subst hn
        obtain ⟨q, cp, rfl⟩ : ∃ q cp, u = .slice q 0 cp := by
          cases a with
          | none =>
            obtain ⟨_, rfl⟩ : 0 = 0 ∧ u = .slice none 0 0 := by rw [VR] at hv; exact hv
            exact ⟨_, _, rfl⟩
          | some ad =>
            obtain ⟨b, cap, x, rfl, _⟩ := slice_vr hv
            exact ⟨_, _, rfl⟩
        have hx0 : xs = [] := by
          have hl0 : l.length = 0 := by
            unfold rowPart at hrow
            split at hrow
            · simp at hrow; rw [hrow]; rfl
            · split at hrow
              · rename_i r _
                rename_i ad _ _
                cases hb : Nat.ble (ad.off + 0) r.cells.length with
                | false => rw [hb] at hrow; cases hrow
                | true =>
                  rw [hb] at hrow
                  simp only [cond_true, Option.some.injEq, takeN_eq, List.take_zero] at hrow
                  rw [← hrow]; rfl
              · cases hrow
          rw [hle3, List.length_map] at hl0
          exact List.length_eq_zero_iff.1 hl0
        subst hx0
        refine (Any.strings_Join_none L X q cp sep w).mono ?_
        rintro e w' ⟨rfl, rfl⟩
        exact fin _ _ rfl (Below.refl _ _)
      · obtain ⟨ad, cap, ys, rfl, l1, l2, l3, l4⟩ := rowPart_ok (size := 1) hR (by rw [Nat.mul_one]; exact hrow) hn hv
        cases a with
        | none =>
          obtain ⟨h0, _⟩ : n = 0 ∧ _ := by rw [VR] at hv; exact hv
          omega
        | some ad0 =>
          obtain ⟨b, cap', x, e1, h1, h2, h3, h4, h5⟩ := slice_vr hv
          injection e1 with e1 e2 e3
          obtain rfl := Option.some.inj e1
          obtain rfl := h5 (.inr hn)
          rw [hle3] at l1
          have hys := l2_strs l1
          have hxl : xs.length = n := by rw [hle3, List.length_map] at l3; omega
          have hmm : (xs.map fun x => (⟨⟨x⟩⟩ : ByteArray)).map (·.data.toList) = xs := by rw [List.map_map]; exact List.map_id _
          have hJ := Any.strings_Join L X x.1 ad0.off cap (xs.map fun x => ⟨⟨x⟩⟩) sep w (fun j y hj => by
            have hj2 : ys[j]? = some (.string y) := by
              rw [hys]
              rw [List.getElem?_map] at hj ⊢
              cases hx : xs[j]? with
              | none => rw [hx] at hj; cases hj
              | some z =>
                rw [hx] at hj
                obtain rfl := Option.some.inj hj
                rfl
            have := l4 j _ hj2
            rwa [addr_add] at this) (hR.lt _ _ h3) (by rw [List.length_map]; omega) (by rw [List.length_map, hxl, e3]; exact h1) (by rw [hmm]; omega)
          rw [List.length_map, hxl, hmm] at hJ
          exact hJ.mono fun e w' ⟨he, hb⟩ => fin e w' he hb
end Go.Proofs.YtllahinoomahnaaGreatDoor.Am
