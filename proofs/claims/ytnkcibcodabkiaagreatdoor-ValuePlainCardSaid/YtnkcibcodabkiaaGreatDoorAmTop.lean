import Derived.Test.YtnkcibcodabkiaaGreatDoorAmWd
set_option linter.unusedSimpArgs false
namespace Go.Proofs.YtnkcibcodabkiaaGreatDoor.Am
open Go Go.RowKit
/-- a closed run whose own function has more than 256 temporaries: it is run as it stands, what it calls by the staged evaluator. -/
def topK (E : Env) (n : Nat) (f : FuncId) : Bool := match E.fn f with
  | some fn => bodyK E (evJ E (drawJ E) n) (drawK E (evJ E (drawJ E) n)) fn [] nilSt isTrue fn.body
  | none => false
theorem runs_top {P : Program} {ext : FuncId → Option (List Value → St → (Value → St → Bool) → Bool)} {xt : FuncId → Option (List Value → Option Value)} {hs : FuncId → Nat → List Value → Bool} (hm : P.follows .mixedOrders = true) (hxt : XtOk P xt) (hx : ExtOk P ext) {n : Nat} {f : FuncId} (h : topK (envOf P ext xt hs) n f = true) (w : World) (hG : GlobOk w) : Calls P f #[] w fun e w' => e = .returned (.bool true) ∧ Below w.heap.size w w' := by
  have g := good_of P ext (hs := hs) hxt
  have gf := goodF_of (xt := xt) (hs := hs) hx
  unfold topK at h
  cases hf : (envOf P ext xt hs).fn f with
  | none => rw [hf] at h; cases h
  | some fn =>
    rw [hf] at h
    have ih := evJ_ok g gf hm n
    refine (body_ok g ih (draw_ok g hm ih) (gf.fn f fn hf).1 h (R.nil hG) (L2.nil _)).mono ?_
    rintro e w' ⟨v, u, ρ', s', rfl, hv, _, hx, hk⟩
    have : v = .bool true := by
      unfold isTrue at hk
      split at hk
      · rfl
      · cases hk
    subst this
    obtain rfl : u = .bool true := by rw [VR] at hv; exact hv
    refine ⟨rfl, hx.os, hx.tape, hx.output, hx.size, fun k hk => hx.frame k hk ?_⟩
    rintro ⟨n, x, ⟨r, h1⟩ | ⟨r, h1⟩, _⟩
    · rw [nil_get] at h1; cases h1
    · rw [nil_gm] at h1; cases h1
end Go.Proofs.YtnkcibcodabkiaaGreatDoor.Am
