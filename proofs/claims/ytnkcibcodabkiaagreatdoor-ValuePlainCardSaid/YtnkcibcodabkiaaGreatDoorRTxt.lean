/-
  isText of package value, walked for every text.
-/
import Derived.Test.YtnkcibcodabkiaaGreatDoorProg
import Derived.Test.YtnkcibcodabkiaaGreatDoorAmAs
import Derived.WalkKit
import Derived.WalkLawsBesides
import Derived.Outline
import Derived.Handy
namespace Go.Proofs.YtnkcibcodabkiaaGreatDoor
open Go Go.RowKit Go.Shelf Go.Proofs Am

def Hid (p : Prop) : Prop := p
theorem hide {p : Prop} (h : p) : Hid p := h
theorem unhide {p : Prop} (h : Hid p) : p := h
def okB (b : UInt8) : Bool := cond (Nat.beq b.toNat 10) true (cond (Nat.ble 32 b.toNat) (Nat.ble b.toNat 126) false)
def allB : List UInt8 → Bool
  | [] => true
  | b :: l => cond (okB b) (allB l) false
def textB (l : List UInt8) : Bool := cond (Nat.ble l.length 4096) (allB l) false
theorem okB_iff (b : UInt8) : okB b = true ↔ b.toNat = 10 ∨ (32 ≤ b.toNat ∧ b.toNat ≤ 126) := by
  unfold okB
  cases h1 : Nat.beq b.toNat 10 with
  | true => simp [Nat.eq_of_beq_eq_true h1]
  | false =>
    have n1 : b.toNat ≠ 10 := fun e => by rw [e] at h1; cases h1
    cases h2 : Nat.ble 32 b.toNat with
    | true => simp [n1, Nat.le_of_ble_eq_true h2]
    | false =>
      have n2 : ¬ 32 ≤ b.toNat := fun e => by rw [Nat.ble_eq_true_of_le e] at h2; cases h2
      simp [n1, n2]
theorem allB_iff : ∀ (l : List UInt8), allB l = true ↔ ∀ b ∈ l, okB b = true
  | [] => by simp [allB]
  | b :: l => by
    rw [allB]
    cases h : okB b with
    | true => simp [h, allB_iff l]
    | false => simp [h]
theorem allB_no {s : ByteArray} {k : Nat} (h : k < s.size) (hb : okB s[k] = false) : allB s.data.toList = false := by
  cases hq : allB s.data.toList with
  | false => rfl
  | true =>
    have := (allB_iff _).1 hq s[k] (by
      have e : s[k] = s.data[k] := rfl
      rw [e, Array.mem_toList_iff]
      exact Array.getElem_mem _)
    rw [hb] at this; cases this
set_option maxHeartbeats 1000000 in
theorem isText_any (s : ByteArray) (w : World) (hs : s.size ≤ 281474976710656) :
    Calls Tryz.prog 180 #[.string s] w fun e w' => e = .returned (.bool (textB s.data.toList)) ∧ w = w' := by
  by_cases hbig : 4096 < s.size
  · have hT : Hid (textB s.data.toList = false) := by
      show _ = _
      unfold textB
      have : Nat.ble s.data.toList.length 4096 = false := by
        cases hq : Nat.ble s.data.toList.length 4096 with
        | false => rfl
        | true => have := Nat.le_of_ble_eq_true hq; have e : s.data.toList.length = s.size := rfl; omega
      rw [this]; rfl
    go_enter Tryz.func180, Tryz.ntmps180
    go_wp2
    go_ret
    exact ⟨by rw [unhide hT]; rfl, rfl⟩
  · have hT : Hid (textB s.data.toList = allB s.data.toList) := by
      show _ = _
      unfold textB
      rw [Nat.ble_eq_true_of_le (show s.data.toList.length ≤ 4096 by have e : s.data.toList.length = s.size := rfl; omega)]; rfl
    go_enter Tryz.func180, Tryz.ntmps180
    go_wp2
    go_loop [9] (fun i => ∃ k : Nat, k ≤ s.size ∧ i = .int .i64 k ∧ Hid (∀ j (h : j < s.size), j < k → okB s[j] = true)) (fun i => s.size - (intOf i).toNat)
    case atStart => exact ⟨0, by omega, by go_num, fun j h h2 => by omega⟩
    case round =>
      obtain ⟨k, hk1, rfl, HK⟩ := hrel
      by_cases hlt : k < s.size
      · have next : okB s[k] = true → Hid (∀ j (h : j < s.size), j < k + 1 → okB s[j] = true) := fun e j h h2 => by
          by_cases hj : j = k
          · subst hj; exact e
          · exact unhide HK j h (by omega)
        have stop : okB s[k] = false → Hid (textB s.data.toList = false) := fun e => by
          show _ = _
          rw [unhide hT, allB_no hlt e]
        by_cases h10 : s[k].toNat = 10
        · have N := next ((okB_iff _).2 (.inl h10))
          clear next stop
          have t1 : ((s[k].toNat : Int) == 10) = true := by simp [h10]
          go_wp2
          go_round
          case rel => exact ⟨k + 1, by omega, by go_num, N⟩
          case measure => simp [intOf]; omega
        · have t1 : ((s[k].toNat : Int) == 10) = false := by simp; omega
          by_cases h32 : s[k].toNat < 32
          · have N := stop (by
              cases hq : okB s[k] with
              | false => rfl
              | true => rcases (okB_iff _).1 hq with h | h <;> omega)
            clear next stop
            have t2 : (s[k].toNat : Int) < 32 := by omega
            go_wp2
            go_ret
            exact ⟨by rw [unhide N]; rfl, rfl⟩
          · by_cases h126 : 126 < s[k].toNat
            · have N := stop (by
                cases hq : okB s[k] with
                | false => rfl
                | true => rcases (okB_iff _).1 hq with h | h <;> omega)
              clear next stop
              have t2 : ¬ (s[k].toNat : Int) < 32 := by omega
              have t3 : (126 : Int) < (s[k].toNat : Int) := by omega
              go_wp2
              go_ret
              exact ⟨by rw [unhide N]; rfl, rfl⟩
            · have N := next ((okB_iff _).2 (.inr ⟨by omega, by omega⟩))
              clear next stop
              have t2 : ¬ (s[k].toNat : Int) < 32 := by omega
              have t3 : ¬ (126 : Int) < (s[k].toNat : Int) := by omega
              go_wp2
              go_round
              case rel => exact ⟨k + 1, by omega, by go_num, N⟩
              case measure => simp [intOf]; omega
      · have N : Hid (textB s.data.toList = true) := by
          show _ = _
          rw [unhide hT, allB_iff]
          intro b hb
          obtain ⟨j, hj, rfl⟩ := List.getElem_of_mem hb
          exact unhide HK j (by simpa using hj) (by have : j < s.size := by simpa using hj
                                                    omega)
        go_wp2
        go_ret
        exact ⟨by rw [unhide N]; rfl, rfl⟩
/-- the evaluator's own of it. -/
def xTxt : List Value → St → K2 → Bool
  | [.string b], s, k => cond (Nat.ble b.data.toList.length 1000000) (forceB (fun r => k (.bool r) s) (textB b.data.toList)) false
  | _, _, _ => false
theorem txt_fn : CallOk Tryz.prog (fun f' args s k => cond (Nat.beq f' 180) (xTxt args s k) false) := by
  refine ext_one (by kernel_rfl) fun args s k h ρ w us hR hl => ?_
  unfold xTxt at h
  split at h
  case h_2 => cases h
  rename_i b
  cases hq : Nat.ble b.data.toList.length 1000000 with
  | false => rw [hq] at h; cases h
  | true =>
    rw [hq] at h
    simp only [cond_true, forceB_eq] at h
    obtain ⟨u, r, rfl, hv, hr⟩ := hl.inv
    obtain rfl : r = [] := List.length_eq_zero_iff.1 hr.1
    obtain rfl : u = .string b := by rw [VR] at hv; exact hv
    refine (isText_any b w (by have := Nat.le_of_ble_eq_true hq; have e : b.data.toList.length = b.size := rfl; omega)).mono ?_
    rintro e w' ⟨rfl, rfl⟩
    exact ⟨.bool (textB b.data.toList), _, ρ, s, rfl, by rw [VR], hR, Ext.refl _ _ _, h⟩
end Go.Proofs.YtnkcibcodabkiaaGreatDoor
