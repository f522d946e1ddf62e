import Derived.Test.YtcfekhcdadldmaaGreatDoorAmAs
set_option linter.unusedSimpArgs false
namespace Go.Proofs.YtcfekhcdadldmaaGreatDoor.Am
open Go Go.RowKit Go.Shelf Go.Proofs
/- a number that nothing is known of is kept as a float, of which there are none here. -/
abbrev anyI : Value := .float .f64 0
/-- whatever number within lo and hi is answered, all goes well. -/
def wiN (k : K2) (s : St) (l : Nat) : Nat → Bool
  | 0 => true
  | n + 1 => cond (forceN (fun r => k (.int .i64 (.ofNat r)) s) (l + n)) (wiN k s l n) false
def xWithin : List Value → St → K2 → Bool
  | [.float .f64 0, .int .i64 (.ofNat l), .int .i64 (.ofNat h)], s, k => cond (Nat.ble l h && Nat.ble h 1000000) (wiN k s l (h - l + 1)) false
  | _, _, _ => false
/-- a call that answers true wherever it is called. -/
def xTrue : List Value → St → K2 → Bool
  | [], s, k => k (.bool true) s
  | _, _, _ => false
theorem wiN_ok {k : K2} {s : St} {l : Nat} : ∀ (n : Nat), wiN k s l n = true → ∀ r, l ≤ r → r < l + n → k (.int .i64 (.ofNat r)) s = true
  | 0, _, r, h1, h2 => by omega
  | n + 1, h, r, h1, h2 => by
    rw [wiN, forceN_eq] at h
    cases hq : k (.int .i64 (.ofNat (l + n))) s with
    | false => rw [hq] at h; cases h
    | true =>
      rw [hq] at h
      by_cases e : r = l + n
      · rw [e]; exact hq
      · exact wiN_ok n h r h1 (by omega)
theorem within_ok {P : Program} {f : FuncId} (hf : (fnOfP P f).isSome = true)
    (hW : ∀ (n lo hi : Int) (w : World), -9223372036854775808 ≤ n → n ≤ 9223372036854775807 → -1000000 ≤ lo → lo ≤ hi → hi ≤ 1000000 →
      Calls P f #[.int .i64 n, .int .i64 lo, .int .i64 hi] w fun e w' => (∃ r : Int, e = .returned (.int .i64 r) ∧ lo ≤ r ∧ r ≤ hi) ∧ w = w') :
    CallOk P (fun f' args s k => cond (Nat.beq f' f) (xWithin args s k) false) := by
  refine ext_one hf fun args s k h ρ w us hR hl => ?_
  unfold xWithin at h
  split at h
  case h_2 => cases h
  rename_i l hh
  cases hq : (Nat.ble l hh && Nat.ble hh 1000000) with
  | false => rw [hq] at h; cases h
  | true =>
    rw [hq] at h
    simp only [cond_true] at h
    simp only [Bool.and_eq_true] at hq
    have e1 := Nat.le_of_ble_eq_true hq.1
    have e2 := Nat.le_of_ble_eq_true hq.2
    obtain ⟨u, l1, rfl, hv, hl⟩ := hl.inv
    obtain ⟨u2, l2, rfl, hv2, hl⟩ := hl.inv
    obtain ⟨u3, l3, rfl, hv3, hl⟩ := hl.inv
    obtain rfl : l3 = [] := List.length_eq_zero_iff.1 hl.1
    rw [VR] at hv
    rw [VR] at hv2
    rw [VR] at hv3
    obtain ⟨n, rfl, n1, n2⟩ := hv
    subst hv2 hv3
    refine (hW n (Int.ofNat l) (Int.ofNat hh) w n1 n2 (by have := Int.natCast_nonneg l; simp only [Int.ofNat_eq_natCast]; omega) (by simp only [Int.ofNat_eq_natCast]; omega) (by simp only [Int.ofNat_eq_natCast]; omega)).mono ?_
    rintro e w' ⟨⟨r, rfl, r1, r2⟩, rfl⟩
    simp only [Int.ofNat_eq_natCast] at r1 r2
    obtain ⟨m, rfl⟩ : ∃ m : Nat, r = (m : Int) := ⟨r.toNat, by omega⟩
    exact ⟨.int .i64 (.ofNat m), _, ρ, s, rfl, by rw [VR]; rfl, hR, Ext.refl _ _ _, wiN_ok _ h m (by omega) (by omega)⟩
theorem true_ok {P : Program} {f : FuncId} (hf : (fnOfP P f).isSome = true)
    (hT : ∀ w, GlobOk w → Calls P f #[] w fun e w' => e = .returned (.bool true) ∧ Below w.heap.size w w') :
    CallOk P (fun f' args s k => cond (Nat.beq f' f) (xTrue args s k) false) := by
  refine ext_one hf fun args s k h ρ w us hR hl => ?_
  unfold xTrue at h
  split at h
  case h_2 => cases h
  obtain rfl : us = [] := List.length_eq_zero_iff.1 hl.1
  refine (hT w hR.gl).mono ?_
  rintro e w' ⟨rfl, hb⟩
  obtain ⟨r1, r2⟩ := hR.grow hb
  exact ⟨.bool true, _, ρ, s, rfl, by rw [VR], r1, r2, h⟩
/-- a closed run at given arguments. -/
theorem runs_at {P : Program} {ext : FuncId → Option (List Value → St → (Value → St → Bool) → Bool)} {xt : FuncId → Option (List Value → Option Value)} {hs : FuncId → Nat → List Value → Bool} (hm : P.follows .mixedOrders = true) (hxt : XtOk P xt) (hx : ExtOk P ext) {n : Nat} {f : FuncId} {args us : List Value} (h : evJ (envOf P ext xt hs) (drawJ (envOf P ext xt hs)) n f args nilSt isTrue = true) (hl : L2 (fun _ => none) args us) (w : World) (hG : GlobOk w) : Calls P f us.toArray w fun e w' => e = .returned (.bool true) ∧ Below w.heap.size w w' := by
  have g := good_of P ext (hs := hs) hxt
  refine ((evJ_ok g (goodF_of hx) hm n f args nilSt isTrue h).2 (fun _ => none) w us (R.nil hG) hl).mono ?_
  rintro e w' ⟨v, u, ρ', s', rfl, hv, _, hx, hk⟩
  have : v = .bool true := by
    unfold isTrue at hk
    split at hk
    · rfl
    · cases hk
  subst this
  obtain rfl : u = .bool true := by rw [VR] at hv; exact hv
  refine ⟨rfl, hx.os, hx.tape, hx.output, hx.size, fun k hk => hx.frame k hk ?_⟩
  rintro ⟨n, x, ⟨r, h1⟩ | ⟨r, h1⟩, _⟩
  · rw [nil_get] at h1; cases h1
  · rw [nil_gm] at h1; cases h1
end Go.Proofs.YtcfekhcdadldmaaGreatDoor.Am
