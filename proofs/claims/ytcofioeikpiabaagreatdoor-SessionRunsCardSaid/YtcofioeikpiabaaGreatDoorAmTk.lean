import Derived.Test.YtcofioeikpiabaaGreatDoorAmAs
set_option linter.unusedSimpArgs false
namespace Go.Proofs.YtcofioeikpiabaaGreatDoor.Am
open Go Go.RowKit Go.Shelf Go.Proofs
/- a function from a text to a new row of structs of sz cells (numbers, texts), and no error: lx says the row. -/
def selfVs : List Value → Bool
  | [] => true
  | .int _ _ :: r => selfVs r
  | .string _ :: r => selfVs r
  | _ :: _ => false
theorem selfVs_ok : ∀ (l : List Value), selfVs l = true → ∀ v ∈ l, one v = true ∧ ∀ ρ, VR ρ v v
  | [], _, v, hv => by cases hv
  | .int k n :: r, h, v, hv => by
    rcases List.mem_cons.1 hv with rfl | hv
    · exact ⟨rfl, fun ρ => by rw [VR]⟩
    · exact selfVs_ok r (by simpa [selfVs] using h) v hv
  | .string s :: r, h, v, hv => by
    rcases List.mem_cons.1 hv with rfl | hv
    · exact ⟨rfl, fun ρ => by rw [VR]⟩
    · exact selfVs_ok r (by simpa [selfVs] using h) v hv
  | .bool _ :: _, h, _, _ => by simp [selfVs] at h
  | .float _ _ :: _, h, _, _ => by simp [selfVs] at h
  | .complex _ _ _ :: _, h, _, _ => by simp [selfVs] at h
  | .pointer _ :: _, h, _, _ => by simp [selfVs] at h
  | .slice _ _ _ :: _, h, _, _ => by simp [selfVs] at h
  | .map _ :: _, h, _, _ => by simp [selfVs] at h
  | .chan _ :: _, h, _, _ => by simp [selfVs] at h
  | .func _ _ _ :: _, h, _, _ => by simp [selfVs] at h
  | .nilFunc :: _, h, _, _ => by simp [selfVs] at h
  | .iface _ _ :: _, h, _, _ => by simp [selfVs] at h
  | .nilIface :: _, h, _, _ => by simp [selfVs] at h
  | .agg _ :: _, h, _, _ => by simp [selfVs] at h
  | .tuple _ :: _, h, _, _ => by simp [selfVs] at h
def xTok1 (e : TypeId) (sz : Nat) (s : St) (k : K2) : Option (Nat × List Value) → Bool
  | some (n, cs) => cond (Nat.beq n 0) (k (.tuple #[.slice none 0 0, .nilIface]) s) (cond (selfVs cs) (nSK (fun v s => k (.tuple #[v, .nilIface]) s) s e sz n 0 (some cs)) false)
  | none => false
def xTok (e : TypeId) (sz : Nat) (lx : List UInt8 → Option (Nat × List Value)) : List Value → St → K2 → Bool
  | [.string b], s, k => xTok1 e sz s k (lx b.data.toList)
  | _, _, _ => false
theorem tok_ok {P : Program} {f : FuncId} {e : TypeId} {sz : Nat} {lx : List UInt8 → Option (Nat × List Value)} (hf : (fnOfP P f).isSome = true) (hsz : 0 < sz)
    (hT : ∀ (b : ByteArray) (n : Nat) (cs : List Value) (w : World), lx b.data.toList = some (n, cs) → Calls P f #[.string b] w fun ev w' => Below w.heap.size w w' ∧ ∃ v, ev = .returned (.tuple #[v, .nilIface]) ∧ w'.ownsRow w.heap.size e sz v n cs ∧ (n = 0 → v = .slice none 0 0)) :
    CallOk P (fun f' args s k => cond (Nat.beq f' f) (xTok e sz lx args s k) false) := by
  refine ext_one hf fun args s k h ρ w us hR hl => ?_
  unfold xTok at h
  split at h
  case h_2 => cases h
  rename_i b
  unfold xTok1 at h
  split at h
  case h_2 => cases h
  rename_i n cs hlx
  obtain ⟨u, r, rfl, hv, hr⟩ := hl.inv
  obtain rfl : r = [] := List.length_eq_zero_iff.1 hr.1
  obtain rfl : u = .string b := by rw [VR] at hv; exact hv
  cases hz : Nat.beq n 0 with
  | true =>
    rw [hz] at h
    simp only [cond_true] at h
    refine (hT b n cs w hlx).mono ?_
    rintro ev w' ⟨hbel, v, rfl, _, hnil⟩
    obtain rfl := hnil (Nat.eq_of_beq_eq_true hz)
    obtain ⟨r1, r2⟩ := hR.grow hbel
    refine ⟨.tuple #[.slice none 0 0, .nilIface], _, ρ, s, rfl, ?_, r1, r2, h⟩
    rw [VR]
    refine ⟨_, rfl, rfl, fun i hi => ?_⟩
    match i, hi with
    | 0, _ => exact ⟨.slice none 0 0, rfl, by show VR ρ (.slice none 0 0) _; rw [VR]; exact ⟨rfl, rfl⟩⟩
    | 1, _ => exact ⟨.nilIface, rfl, by show VR ρ .nilIface _; rw [VR]⟩
  | false =>
  rw [hz] at h
  simp only [cond_false] at h
  have hn : 0 < n := Nat.pos_of_ne_zero fun e => by rw [e] at hz; exact absurd hz (by decide)
  cases hq : selfVs cs with
  | false => rw [hq] at h; cases h
  | true =>
    rw [hq] at h
    simp only [cond_true, nSK] at h
    have hself := selfVs_ok cs hq
    refine (hT b n cs w hlx).mono ?_
    rintro ev w' ⟨hbel, v, rfl, how, _⟩
    obtain ⟨v0, ρ', s', a1, a2, a3, a4⟩ := append_new (k := fun v s => k (.tuple #[v, .nilIface]) s) hR (s0 := s) rfl (fun _ => rfl) (fun _ _ h => h) h how hn (by omega) ⟨hbel.os, hbel.tape, hbel.output, hbel.size, fun j hj _ => hbel.block j hj⟩
      ⟨rfl, fun i v hi => ⟨v, hi, (hself v (List.mem_of_getElem? hi)).2 _⟩⟩ (fun v hv => (hself v hv).1)
    refine ⟨.tuple #[v0, .nilIface], _, ρ', s', rfl, ?_, a2, a3, a4⟩
    rw [VR]
    refine ⟨_, rfl, rfl, fun i hi => ?_⟩
    match i, hi with
    | 0, _ => exact ⟨v, rfl, a1⟩
    | 1, _ => exact ⟨.nilIface, rfl, by show VR ρ' .nilIface _; rw [VR]⟩
end Go.Proofs.YtcofioeikpiabaaGreatDoor.Am
