/-
  A number's digits, read back. Own work.
-/
import Derived.Test.YtnkcibcodabkiaaGreatDoorVMade
namespace Go.Proofs.YtnkcibcodabkiaaGreatDoor
open Go Go.RowKit Go.Proofs Am

def valD (l : List UInt8) : Nat := l.foldl (fun a b => a * 10 + (b.toNat - 48)) 0
theorem valD_snoc (l : List UInt8) (b : UInt8) : valD (l ++ [b]) = valD l * 10 + (b.toNat - 48) := by simp [valD]
theorem valD_take (l : List UInt8) (k : Nat) (h : k < l.length) : valD (l.take (k + 1)) = valD (l.take k) * 10 + (l[k].toNat - 48) := by
  rw [List.take_succ_eq_append_getElem h, valD_snoc]
theorem foldl_le (l : List UInt8) : ∀ (a b : Nat), a ≤ b → a ≤ l.foldl (fun a b => a * 10 + (b.toNat - 48)) b := by
  induction l with
  | nil => intro a b h; exact h
  | cons x l ih => intro a b h; exact ih a _ (by show a ≤ b * 10 + (x.toNat - 48); omega)
theorem valD_le (l : List UInt8) (k : Nat) : valD (l.take k) ≤ valD l := by
  have h : valD l = (l.drop k).foldl (fun a b => a * 10 + (b.toNat - 48)) (valD (l.take k)) := by
    unfold valD
    rw [← List.foldl_append, List.take_append_drop]
  rw [h]
  exact foldl_le _ _ _ (Nat.le_refl _)
/-- what a numeral is. -/
structure Num (l : List UInt8) (m : Nat) : Prop where
  val : valD l = m
  dig : ∀ b ∈ l, 48 ≤ b.toNat ∧ b.toNat ≤ 57
  ne : l ≠ []
  lead : l = [48] ∨ ∀ b, l[0]? = some b → b.toNat ≠ 48
theorem dig_nat {d : Nat} (h : d < 10) : (UInt8.ofNat (48 + d)).toNat = 48 + d := by
  simp
  omega
theorem num_of : ∀ (u : Nat), Num (Lib.decDigits u) u := by
  intro u
  induction u using Nat.strongRecOn with
  | _ u ih =>
    by_cases h : u < 10
    · rw [Lib.decDigits_one h]
      refine ⟨?_, ?_, by simp, ?_⟩
      · simp only [valD, List.foldl_cons, List.foldl_nil, dig_nat h]; omega
      · intro b hb
        obtain rfl := List.mem_singleton.1 hb
        rw [dig_nat h]; omega
      · by_cases h0 : u = 0
        · subst h0; exact .inl rfl
        · refine .inr fun b hb => ?_
          obtain rfl : UInt8.ofNat (48 + u) = b := by simpa using hb
          rw [dig_nat h]; omega
    · have h1 := ih (u / 10) (by omega)
      have hd : u % 10 < 10 := by omega
      rw [Lib.decDigits, dif_neg h]
      refine ⟨?_, ?_, by simp, .inr fun b hb => ?_⟩
      · rw [valD_snoc, h1.val, dig_nat hd]; omega
      · intro b hb
        rcases List.mem_append.1 hb with hb | hb
        · exact h1.dig b hb
        · obtain rfl := List.mem_singleton.1 hb
          rw [dig_nat hd]; omega
      · have hl : 0 < (Lib.decDigits (u / 10)).length := by
          cases hq : Lib.decDigits (u / 10) with
          | nil => exact absurd hq h1.ne
          | cons _ _ => simp
        rw [List.getElem?_append_left hl] at hb
        rcases h1.lead with h2 | h2
        · rw [h2] at hb
          have := h1.val
          rw [h2] at this
          have h3 : u / 10 = 0 := this.symm
          omega
        · exact h2 b hb
end Go.Proofs.YtnkcibcodabkiaaGreatDoor
