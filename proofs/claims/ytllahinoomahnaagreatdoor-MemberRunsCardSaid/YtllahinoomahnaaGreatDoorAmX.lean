import Derived.Test.YtllahinoomahnaaGreatDoorAmR
import Derived.Lib.Bytealg
set_option linter.unusedSimpArgs false
namespace Go.Proofs.YtllahinoomahnaaGreatDoor.Am
open Go

theorem find_range (c : Nat) : ∀ (l : List UInt8) (off : Nat) (p : Nat → Bool), (∀ (i : Nat) (b : UInt8), l[i]? = some b → p (off + i) = Nat.beq b.toNat c) → (List.range' off l.length).find? p = findB c l off
  | [], off, p, _ => rfl
  | b :: r, off, p, h => by
    rw [List.length_cons, List.range'_succ, List.find?_cons, findB]
    have h0 := h 0 b rfl
    rw [Nat.add_zero] at h0
    rw [h0]
    cases hb : Nat.beq b.toNat c with
    | true => rfl
    | false =>
      simp only [cond_false]
      exact find_range c r (off + 1) p fun i b hi => by rw [show off + 1 + i = off + (i + 1) by omega]; exact h (i + 1) b (by simpa using hi)
theorem firstIdx_eq (s : ByteArray) (c : Nat) (hc : c < 256) : Value.int .i64 (firstIdx s ((c : Int).toNat.toUInt8)) = idxV (findB c s.data.toList 0) := by
  have h := find_range c s.data.toList 0 (fun i => s[i]! == ((c : Int).toNat.toUInt8)) (fun i b hi => by
    have hlt : i < s.size := by
      have := (List.getElem?_eq_some_iff.1 hi).1
      cases s; simp only [Array.length_toList] at this; exact this
    have hg : s[i]! = b := by
      rw [getElem!_pos s i hlt]
      have : s.data.toList[i]? = some s[i] := by
        cases s with | mk d => 
          have hd : i < d.size := hlt
          simp only [Array.getElem?_toList]
          rw [Array.getElem?_eq_getElem hd]
          rfl
      rw [hi] at this
      exact (Option.some.inj this).symm
    rw [Nat.zero_add, hg]
    rw [Bool.eq_iff_iff, beq_iff_eq]
    constructor
    · rintro rfl
      have : (((c : Int).toNat).toUInt8).toNat = c := by simp; omega
      rw [this]; exact Nat.beq_refl c
    · intro e
      have := Nat.eq_of_beq_eq_true e
      rw [← this]
      simp)
  have hs : s.data.toList.length = s.size := by cases s; rfl
  unfold firstIdx
  rw [List.range_eq_range', ← hs, h]
  cases findB c s.data.toList 0 <;> rfl
theorem xIndexByte_ok {P : Program} {f : FuncId} (h : xtHas P f Extern.BytealgIndexByte.indexByte) {l : List Value} {v : Value} (hg : xIndexByte l = some v) {ρ : Rho} {us : List Value} {w : World} (hl : L2 ρ l us) : ∃ u, (callFunc f us.toArray).run P w = .ok (.value u) w ∧ VR ρ v u := by
  obtain ⟨fn, h1, h2, h3, h4, h5⟩ := h
  unfold xIndexByte at hg
  split at hg
  · rename_i b c
    cases hq : Nat.blt c 256 with
    | false => rw [hq] at hg; cases hg
    | true =>
      rw [hq] at hg
      obtain rfl := Option.some.inj hg
      obtain ⟨u, r, rfl, hv, hr⟩ := hl.inv
      obtain ⟨u2, r2, rfl, hv2, hr2⟩ := hr.inv
      have : r2 = [] := List.length_eq_zero_iff.1 hr2.1
      subst this
      obtain rfl : u = .string b := by rw [VR] at hv; exact hv
      obtain rfl : u2 = .int .u8 (.ofNat c) := by rw [VR] at hv2; exact hv2
      refine ⟨idxV (findB c b.data.toList 0), ?_, by unfold idxV; split <;> rw [VR]⟩
      rw [run_callFunc_extern h1 h2 h3 h4 h5]
      have := run_indexByte_string (P := P) b (c : Int) w
      rw [firstIdx_eq b c ((blt_iff _ _).1 hq)] at this
      have e : (#[.string b, .int .u8 (.ofNat c)] : Array Value) = #[.string b, .int .u8 (c : Int)] := rfl
      rw [show ([.string b, .int .u8 (.ofNat c)] : List Value).toArray = #[.string b, .int .u8 (c : Int)] from rfl, this]
      rfl
  · cases hg
def xCmp : List Value → Option Value
  | [.string a, .string b] => some (.int .i64 (Lib.compareBytes a.data.toList b.data.toList))
  | _ => none
theorem xCmp_ok {P : Program} {f : FuncId} (h : xtHas P f Extern.BytealgCompare.compare) {l : List Value} {v : Value} (hg : xCmp l = some v) {ρ : Rho} {us : List Value} {w : World} (hl : L2 ρ l us) : ∃ u, (callFunc f us.toArray).run P w = .ok (.value u) w ∧ VR ρ v u := by
  obtain ⟨fn, h1, h2, h3, h4, h5⟩ := h
  unfold xCmp at hg
  split at hg
  · rename_i a b
    obtain rfl := Option.some.inj hg
    obtain ⟨u, r, rfl, hv, hr⟩ := hl.inv
    obtain ⟨u2, r2, rfl, hv2, hr2⟩ := hr.inv
    have : r2 = [] := List.length_eq_zero_iff.1 hr2.1
    subst this
    obtain rfl : u = .string a := by rw [VR] at hv; exact hv
    obtain rfl : u2 = .string b := by rw [VR] at hv2; exact hv2
    refine ⟨_, ?_, by rw [VR]⟩
    rw [run_callFunc_extern h1 h2 h3 h4 h5, show ([.string a, .string b] : List Value).toArray = #[.string a, .string b] from rfl, Lib.run_compareString a b w]
    rfl
  · cases hg
end Go.Proofs.YtllahinoomahnaaGreatDoor.Am
