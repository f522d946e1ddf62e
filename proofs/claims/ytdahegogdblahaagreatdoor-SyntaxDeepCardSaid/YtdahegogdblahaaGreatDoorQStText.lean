/-
  Stmts of package syntax, walked: any statements.
-/
import Derived.Test.YtdahegogdblahaaGreatDoorQStW
namespace Go.Proofs.YtdahegogdblahaaGreatDoor
open Go Go.RowKit Lx

theorem fits_if {p : Prop} [Decidable p] {a b : List Tok} (ha : Fits a) (hb : Fits b) : Fits (if p then a else b) := by
  by_cases h : p
  · rw [if_pos h]; exact ha
  · rw [if_neg h]; exact hb
theorem stT_fits {K : Int} {S : Bs} {ty x b e : List Tok} {ne : Nat} (hS : S.length ≤ 35184372088832) (h1 : Fits ty) (h2 : Fits x) (h3 : Fits b) (h4 : Fits e) : Fits (stT K S ty x b e ne) := by
  have hblk : ∀ {l : List Tok}, Fits l → Fits (tS [123] :: (l ++ [tS [125]])) := fun h => fits_s (by decide) (fits_append h (fits_s (by decide) fits_nil))
  unfold stT
  refine fits_if (fits_s (by decide) (fits_append (fits_append h2 (hblk h3)) (fits_if (fits_s (by decide) (hblk h4)) fits_nil))) (fits_if (fits_s (by decide) (fits_append h2 (hblk h3))) (fits_append ?_ (fits_append h2 (fits_s (by decide) fits_nil))))
  exact fits_if (fits_s (by decide) (fits_s hS (fits_append h1 (fits_s (by decide) fits_nil)))) (fits_if (fits_s hS (fits_s (by decide) fits_nil)) (fits_if (fits_s (by decide) fits_nil) (fits_if (fits_s (by decide) fits_nil) fits_nil)))
theorem fits_flat2 {α : Type} {l : List α} {f : α → List Tok} (h : ∀ a ∈ l, Fits (f a)) : Fits (l.flatMap f) := fun t ht => by
  obtain ⟨a, ha, hta⟩ := List.mem_flatMap.1 ht
  exact h a ha t hta
theorem stTks_fits (D d : Nat) : ∀ (m : Nat) (ss : List (St D d m)), StFits D d m ss → Fits (stTks D d m ss)
  | 0, _, _ => fits_nil
  | m + 1, ss, h => by
    rw [stTks]
    refine fits_flat2 fun s hs => ?_
    obtain ⟨⟨s1, s2, s3, s4, s5, s6, s7⟩, hb, he⟩ := h.2 s hs
    exact stT_fits (by omega) (fits_flat2 fun t ht => tyToks_fits D false _ s2 t ht) (part_fits fun a ha => exTk_fits D d _ s4 a ha) (stTks_fits D d m _ hb) (stTks_fits D d m _ he)
set_option maxHeartbeats 4000000 in
set_option maxRecDepth 100000 in
theorem Stmts_any (D d m : Nat) (p : Option Addr) (c : Nat) (ss : List (St D d m)) (w : World) (hv : StRow w D d m (.slice p ss.length c) ss) (hf : StFits D d m ss) (ht : Tab w) (h5 : 4 ≤ w.heap.size) :
    Calls Tryz.prog 13 #[.slice p ss.length c] w fun e w' => e = .returned (joinAns (stmtsAns D d m ss)) ∧ Below w.heap.size w w' := by
  have RT := hide (rightStmts_any D d m _ ss 64 w hv hf (by omega) (by omega) ht h5)
  have HA : Hid (stmtsAns D d m ss = if rightSs D d m 64 ss = true then join (putAll [] (stTks D d m ss)) else .inl 1) := rfl
  by_cases hr : rightSs D d m 64 ss = true
  · rw [if_pos hr] at HA
    rw [hr] at RT
    obtain ⟨s, y, hj⟩ := joinAns_tuple (join (putAll [] (stTks D d m ss)))
    have CL : Hid (∀ w1 : World, Below w.heap.size w w1 →
        Calls Tryz.prog 39 #[.pointer (some ⟨w1.heap.size, 0, none⟩), .slice p ss.length c] (w1.alloc (.cells #[.slice none 0 0] 89)) fun e w' => e = .returned (.tuple #[]) ∧ Below w.heap.size w w' ∧
          Calls Tryz.prog 31 #[.pointer (some ⟨w1.heap.size, 0, none⟩)] w' fun e w'' => e = .returned (.tuple #[.string s, .int .i64 y]) ∧ Below w.heap.size w w'') := fun w1 hw1 => by
      have hs1 := hw1.size
      have ha : Below w1.heap.size w1 (w1.alloc (.cells #[.slice none 0 0] 89)) := (Below.refl _ _).alloc (Nat.le_refl _) _
      refine (writeStmts_any w1 D d m w1.heap.size 89 p c ss (StRow.below hw1 m hv) hf ⟨64, hr⟩ [] _ (WrAt.new w1 _ (by decide)) (by simp) ha trivial).mono ?_
      rintro x w2 ⟨rfl, hW2, hB2, _⟩
      have hb2 : Below w.heap.size w w2 := hw1.trans ((ha.trans hB2).mono hs1)
      refine ⟨rfl, hb2, ?_⟩
      rw [← hj]
      refine (text_any _ _ _ _ w2 hW2 (putAll_len _ _ (by simp)) (fits_put _ _ fits_nil (stTks_fits D d m ss hf)) (ht.below hb2 h5) (by have := hb2.size; omega)).mono ?_
      rintro x w3 ⟨rfl, hb3⟩
      exact ⟨rfl, hb2.trans (hb3.mono hb2.size)⟩
    have HJ := hide hj
    clear hj hv hf ht
    go_enter Tryz.func13, Tryz.ntmps13
    go_wp2_with (first
      | (go_at_call 38; refine (unhide RT).mono ?_; clear RT; rintro x w1 ⟨rfl, hb1⟩; have WT := hide (unhide CL w1 hb1); clear CL)
      | (go_at_call 39; refine (unhide WT).mono ?_; clear WT; rintro x w2 ⟨rfl, hb2, tx⟩; have TX := hide tx; clear tx)
      | (go_at_call 31; refine (unhide TX).mono ?_; clear TX; rintro x w3 ⟨rfl, hb3⟩))
    go_ret2
    exact ⟨by rw [unhide HA, unhide HJ]; rfl, hb3⟩
  · have hr := (Bool.not_eq_true _).mp hr
    rw [if_neg (by rw [hr]; simp)] at HA
    rw [hr] at RT
    clear hv hf ht
    go_enter Tryz.func13, Tryz.ntmps13
    go_wp2_with (go_at_call 38; refine (unhide RT).mono ?_; clear RT; rintro x w1 ⟨rfl, hb1⟩)
    go_ret2
    exact ⟨by rw [unhide HA]; rfl, hb1⟩
end Go.Proofs.YtdahegogdblahaaGreatDoor
