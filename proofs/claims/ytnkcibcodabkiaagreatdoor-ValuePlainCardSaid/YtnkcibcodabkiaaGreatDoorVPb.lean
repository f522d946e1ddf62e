/-
  coillaw10.ValuePlain, walked at every number and text. Own work.
-/
import Derived.Test.YtnkcibcodabkiaaGreatDoorVDig
namespace Go.Proofs.YtnkcibcodabkiaaGreatDoor
open Go Go.RowKit Go.Proofs Am

theorem tab_of {w : World} (h : GlobOk w) : PowTab w := by
  obtain ⟨c, e, f, h1, h2, _⟩ := h.tab 0 _ rfl
  unfold PowTab Lib.TabIs World.var?
  rw [pow_global, Option.bind_some, h1]
  show some c = _
  congr 1
  apply Array.toList_inj.1
  rw [h2]
  kernel_rfl
theorem At.mark {B : Nat} {ρ : Rho} {c : Nat} {C : Value} {w : World} (h : At B ρ c C w) (e : liesB CR CM (c + 1) = true) (hc : 17 ≤ c) {b : Nat} (hb : b < w.heap.size) (hb0 : isG b = false) (code : Nat) : At B (upd ρ c (b, code, 0)) (c + 1) C w ∧ upd ρ c (b, code, 0) c = some (b, code, 0) ∧ Sub ρ (upd ρ c (b, code, 0)) :=
  ⟨⟨h.held.mark e (fun p hp => by
      simp only [CR, List.mem_cons, List.not_mem_nil, or_false] at hp
      rcases hp with rfl | rfl | rfl | rfl | rfl | rfl | rfl | rfl <;> (simp only; omega)) (fun p hp => by
      simp only [CM, List.mem_cons, List.not_mem_nil, or_false] at hp
      rcases hp with rfl | rfl <;> (simp only; omega)) hb hb0 code, h.val.mono (sub_upd h.held.dom _), h.low⟩, upd_same _ _ _, sub_upd h.held.dom _⟩
/-- the number and the text are kept beside names. -/
theorem marks {ρ : Rho} {C : Value} {w w1 : World} (hG : GlobOk w) (h : At w.heap.size ρ 29 C w1) (hlt : w.heap.size < w1.heap.size) (n : Int) (s : ByteArray) : ∃ ρ' x y, At w.heap.size ρ' 31 C w1 ∧ ρ' 29 = some x ∧ x.2.1 = codeI n ∧ ρ' 30 = some y ∧ y.2.1 = codeS s.data.toList := by
  have hg : isG w.heap.size = false := hG.new (Nat.le_refl _)
  obtain ⟨h1, e1, _⟩ := h.mark (by kernel_rfl) (by decide) hlt hg (codeI n)
  obtain ⟨h2, e2, s2⟩ := h1.mark (by kernel_rfl) (by decide) hlt hg (codeS s.data.toList)
  exact ⟨_, _, _, h2, s2 _ _ e1, rfl, e2, rfl⟩
theorem at_list {D : ByteArray} {k : Nat} (h : k < D.size) : D.data.toList[k]'(by simpa using h) = D[k] := by simp [ByteArray.getElem_eq_getElem_data]
theorem val_step {D : ByteArray} {m k : Nat} (hN : Num D.data.toList m) (h : k < D.size) : valD (D.data.toList.take (k + 1)) = valD (D.data.toList.take k) * 10 + (D[k].toNat - 48) ∧ valD (D.data.toList.take k) * 10 + (D[k].toNat - 48) ≤ m ∧ 48 ≤ D[k].toNat ∧ D[k].toNat ≤ 57 := by
  have h' : k < D.data.toList.length := by simpa using h
  have e := valD_take D.data.toList k h'
  rw [at_list h] at e
  have h2 := valD_le D.data.toList (k + 1)
  have h3 := hN.dig D[k] (by rw [← at_list h]; exact List.getElem_mem _)
  rw [hN.val] at h2
  exact ⟨e, by omega, h3.1, h3.2⟩
theorem allT_snoc (b : UInt8) : ∀ l : List UInt8, allT (l ++ [b]) = (allT l && okT b)
  | [] => by simp [allT]
  | x :: l => by
    rw [List.cons_append, allT, allT, allT_snoc b l]
    cases okT x <;> simp
theorem allT_step {s : ByteArray} {k : Nat} (h : k < s.size) : allT (s.data.toList.take (k + 1)) = (allT (s.data.toList.take k) && okT s[k]) := by
  rw [List.take_succ_eq_append_getElem (by simpa using h), allT_snoc, at_list h]
theorem okT_iff (b : UInt8) : okT b = true ↔ b.toNat = 10 ∨ (32 ≤ b.toNat ∧ b.toNat ≤ 126) := okB_iff b
theorem textT_eq (s : ByteArray) : textT s.data.toList = (decide ((s.size : Int) ≤ 4096) && allT s.data.toList) := by
  unfold textT
  have e : s.data.toList.length = s.size := rfl
  rw [e]
  cases h : Nat.ble s.size 4096 with
  | true =>
    have := Nat.le_of_ble_eq_true h
    have h2 : decide ((s.size : Int) ≤ 4096) = true := decide_eq_true (by omega)
    rw [h2]; rfl
  | false =>
    have : ¬ s.size ≤ 4096 := fun hh => by rw [Nat.ble_eq_true_of_le hh] at h; cases h
    have h2 : decide ((s.size : Int) ≤ 4096) = false := decide_eq_false (by omega)
    rw [h2]; rfl
set_option maxHeartbeats 1000000 in
theorem within_one (n : Int) (w : World) (_h0 : -9223372036854775808 ≤ n) (_h1 : n ≤ 9223372036854775807) :
    Calls Tryz.prog 16 #[.int .i64 n, .int .i64 0, .int .i64 1] w fun e w' => (e = .returned (.int .i64 0) ∨ e = .returned (.int .i64 1)) ∧ w = w' := by
  obtain ⟨q, hq⟩ : ∃ q, n.tmod 2 = q := ⟨_, rfl⟩
  have b1 : q < 2 := by rw [← hq]; exact Int.tmod_lt_of_pos _ (by omega)
  have b2 : -2 < q := by
    have := Int.tmod_lt_of_pos (-n) (b := 2) (by omega)
    rw [Int.neg_tmod, hq] at this
    omega
  by_cases hn : q < 0
  · obtain rfl : q = -1 := by omega
    go_enter Tryz.func16, Tryz.ntmps16
    go_wp2
    go_ret
    exact ⟨.inr rfl, rfl⟩
  · have : q = 0 ∨ q = 1 := by omega
    rcases this with rfl | rfl
    · go_enter Tryz.func16, Tryz.ntmps16
      go_wp2
      go_ret
      exact ⟨.inl rfl, rfl⟩
    · go_enter Tryz.func16, Tryz.ntmps16
      go_wp2
      go_ret
      exact ⟨.inr rfl, rfl⟩
theorem neg_wrap (m : Nat) (h : (m : Int) ≤ 9223372036854775808) : IntKind.i64.wrap (-(IntKind.i64.wrap (m : Int))) = -(m : Int) := by
  rcases Nat.lt_or_ge m 9223372036854775808 with h1 | h1
  · rw [wrap_small (m : Int) (by omega) (by omega), IntKind.wrap_i64]; omega
  · obtain rfl : m = 9223372036854775808 := by omega
    rfl
theorem tail_of {T D : ByteArray} (h : T.data.toList = 45 :: D.data.toList) (hs : T.size = D.size + 1) : T.extract 1 T.size = D := by
  apply ByteArray.ext
  apply Array.toList_inj.1
  rw [ByteArray.data_extract, Array.toList_extract, h, hs]
  show ((45 :: D.data.toList).drop 1).take (D.size + 1 - 1) = D.data.toList
  rw [List.drop_succ_cons, List.drop_zero, Nat.add_sub_cancel]
  exact List.take_of_length_le (by simp)
end Go.Proofs.YtnkcibcodabkiaaGreatDoor
