/-
  value.Text at any int, any text and the bools. Own work.
-/
import Derived.Test.YtnkcibcodabkiaaGreatDoorVTex
namespace Go.Proofs.YtnkcibcodabkiaaGreatDoor
open Go Go.RowKit Go.Proofs Am

theorem one_ptr {B : Nat} {ρ : Rho} {c : Nat} {C : Value} {w : World} (h : At B ρ c C w) : C.oneCell' = true := by
  obtain ⟨a, rfl⟩ := h.ptr
  rfl
theorem l2_five {ρ : Rho} {a b c d e x y z u v : Value} (h1 : VR ρ a x) (h2 : VR ρ b y) (h3 : VR ρ c z) (h4 : VR ρ d u) (h5 : VR ρ e v) : L2 ρ [a, b, c, d, e] [x, y, z, u, v] :=
  L2.cons h1 (L2.cons h2 (L2.cons h3 (L2.cons h4 (L2.cons h5 (L2.nil _)))))
theorem all_five {p : Value → Bool} {a b c d e : Value} (h : (p a && (p b && (p c && (p d && p e)))) = true) : ∀ v ∈ [a, b, c, d, e], p v = true := by
  simp only [Bool.and_eq_true] at h
  intro v hv
  simp only [List.mem_cons, List.not_mem_nil, or_false] at hv
  rcases hv with rfl | rfl | rfl | rfl | rfl
  · exact h.1
  · exact h.2.1
  · exact h.2.2.1
  · exact h.2.2.2.1
  · exact h.2.2.2.2
theorem T_int {B : Nat} {ρ : Rho} {C : Value} {w : World} (h : At B ρ 31 C w) (n : Int) {x : Nat × Nat × Nat} (hx : ρ 29 = some x) (hc : x.2.1 = codeI n) (n0 : -9223372036854775808 ≤ n) (n1 : n ≤ 9223372036854775807) (ht : PowTab w) (hl : 0 < B) :
    Calls Tryz.prog 11 #[C, .agg #[.int .i64 1, .int .i64 0, .int .i64 n, .string .empty, .slice none 0 0]] w fun e w' => e = .returned (.tuple #[.string ⟨(Lib.itoa n).toArray⟩, .int .i64 0]) ∧ ∃ ρ', Sub ρ ρ' ∧ At B ρ' 34 C w' ∧ Below B w w' :=
  Text_yes h oInt _ (by decide) (by kernel_rfl) (by kernel_rfl) (by kernel_rfl)
    (l2_five (by rw [VR]; rfl) (by rw [VR]; rfl) (by rw [VR]; exact ⟨n, x, hx, rfl, n0, n1, hc⟩) (by rw [VR]; rfl) (by rw [VR]; exact ⟨rfl, rfl⟩)) (all_five rfl) (all_five rfl)
    fun g m W hg hm hb => text_int n 0 _ C g m W n0 n1 (var?_below hb pow_global hl ht) (Nat.lt_of_lt_of_le hl (Nat.le_trans h.low hb.size)) (one_ptr h) hg hm
theorem T_text {B : Nat} {ρ : Rho} {C : Value} {w : World} (h : At B ρ 34 C w) (s : ByteArray) {x : Nat × Nat × Nat} (hx : ρ 30 = some x) (hc : x.2.1 = codeS s.data.toList) (hs : s.size ≤ 5000) (hp : textT s.data.toList = true) (h4 : s.size ≤ 4096) :
    Calls Tryz.prog 11 #[C, .agg #[.int .i64 3, .int .i64 1, .int .i64 0, .string s, .slice none 0 0]] w fun e w' => e = .returned (.tuple #[.string s, .int .i64 0]) ∧ ∃ ρ', Sub ρ ρ' ∧ At B ρ' 37 C w' ∧ Below B w w' :=
  Text_yes h oTxt s (by decide) (by kernel_rfl) (by kernel_rfl) (by kernel_rfl)
    (l2_five (by rw [VR]; rfl) (by rw [VR]; rfl) (by rw [VR]; rfl) (by rw [VR]; exact ⟨s, x, hx, rfl, hs, hc, hp⟩) (by rw [VR]; exact ⟨rfl, rfl⟩)) (all_five rfl) (all_five rfl)
    fun g m W hg hm _ => text_text s h4 1 _ C g m W (one_ptr h) hg hm
theorem T_bad {B : Nat} {ρ : Rho} {C : Value} {w : World} (h : At B ρ 34 C w) (s : ByteArray) {x : Nat × Nat × Nat} (hx : ρ 30 = some x) (hc : x.2.1 = codeS s.data.toList) (hs : s.size ≤ 5000) (hp : textT s.data.toList = false) :
    Calls Tryz.prog 11 #[C, .agg #[.int .i64 3, .int .i64 1, .int .i64 0, .string s, .slice none 0 0]] w fun e w' => e = .returned (.tuple #[.string .empty, .int .i64 1]) ∧ ∃ ρ', Sub ρ ρ' ∧ At B ρ' 37 C w' ∧ Below B w w' :=
  Text_no h oBad (by decide) (by kernel_rfl) (by kernel_rfl) (by kernel_rfl)
    (l2_five (by rw [VR]; rfl) (by rw [VR]; rfl) (by rw [VR]; rfl) (by rw [VR]; exact ⟨s, x, hx, rfl, hs, hc, hp⟩) (by rw [VR]; exact ⟨rfl, rfl⟩)) (all_five rfl) (all_five rfl)
theorem T_true {B : Nat} {ρ : Rho} {C : Value} {w : World} (h : At B ρ 37 C w) :
    Calls Tryz.prog 11 #[C, .agg #[.int .i64 2, .int .i64 2, .int .i64 1, .string .empty, .slice none 0 0]] w fun e w' => e = .returned (.tuple #[.string (boolS true), .int .i64 0]) ∧ ∃ ρ', Sub ρ ρ' ∧ At B ρ' 40 C w' ∧ Below B w w' :=
  Text_yes h oTru _ (by decide) (by kernel_rfl) (by kernel_rfl) (by kernel_rfl)
    (l2_five (by rw [VR]; rfl) (by rw [VR]; rfl) (by rw [VR]; rfl) (by rw [VR]; rfl) (by rw [VR]; exact ⟨rfl, rfl⟩)) (all_five rfl) (all_five rfl)
    fun g m W hg hm _ => text_bool 1 true rfl 2 _ C g m W (one_ptr h) hg hm
theorem T_false {B : Nat} {ρ : Rho} {C : Value} {w : World} (h : At B ρ 37 C w) :
    Calls Tryz.prog 11 #[C, .agg #[.int .i64 2, .int .i64 2, .int .i64 0, .string .empty, .slice none 0 0]] w fun e w' => e = .returned (.tuple #[.string (boolS false), .int .i64 0]) ∧ ∃ ρ', Sub ρ ρ' ∧ At B ρ' 40 C w' ∧ Below B w w' :=
  Text_yes h oFal _ (by decide) (by kernel_rfl) (by kernel_rfl) (by kernel_rfl)
    (l2_five (by rw [VR]; rfl) (by rw [VR]; rfl) (by rw [VR]; rfl) (by rw [VR]; rfl) (by rw [VR]; exact ⟨rfl, rfl⟩)) (all_five rfl) (all_five rfl)
    fun g m W hg hm _ => text_bool 0 false rfl 2 _ C g m W (one_ptr h) hg hm
end Go.Proofs.YtnkcibcodabkiaaGreatDoor
