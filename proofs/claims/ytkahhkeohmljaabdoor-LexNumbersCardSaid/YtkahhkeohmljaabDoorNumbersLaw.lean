/-
  coillaw1.LexNumbers, walked: it answers true, whatever number it is handed.
-/
import Derived.Test.YtkahhkeohmljaabDoorLexed
import Derived.Test.YtkahhkeohmljaabDoorDigits
namespace Go.Proofs.YtkahhkeohmljaabDoor
open Go Go.RowKit Lx

theorem app_app (l : Bs) : ((⟨#[120, 32]⟩ : ByteArray) ++ ⟨l.toArray⟩ ++ ⟨#[59]⟩) = ⟨(120 :: 32 :: (l ++ [59])).toArray⟩ := by
  apply ByteArray.ext
  apply Array.ext'
  simp
set_option maxHeartbeats 4000000 in
set_option maxRecDepth 100000 in
theorem LexNumbers_any (n : Int) (w : World) (h0 : -9223372036854775808 ≤ n) (h1 : n ≤ 9223372036854775807) (hg : ErrType w) (ht : Tab w) (h5 : 5 ≤ w.heap.size) :
    Calls Tryd.prog 6 #[.int .i64 n] w fun e w' => e = .returned (.bool true) ∧ Below w.heap.size w w' := by
  have HB : Below w.heap.size w w := Below.refl _ _
  have HG := hide hg
  have HT := hide ht
  clear hg ht
  obtain ⟨u, hu, hl⟩ : ∃ u : Nat, u ≤ 9223372036854775807 ∧ ((n < 0 ∧ -1 - n = (u : Int)) ∨ (¬ n < 0 ∧ n = (u : Int))) := by
    by_cases h : n < 0
    · exact ⟨(-1 - n).toNat, by omega, .inl ⟨h, by omega⟩⟩
    · exact ⟨n.toNat, by omega, .inr ⟨h, by omega⟩⟩
  have h20 : (Lib.decDigits u).length ≤ 20 := by rw [Lib.decDigits_length]; exact Lib.nDigits_le20 u (by omega)
  have HJ : Hid (joinAns (join [(0, 4, [], (u : Int))]) = .tuple #[.string ⟨(Lib.decDigits u).toArray⟩, .int .i64 0]) := by
    show _ = _
    rw [num_join hu]; rfl
  have HF : Hid (Fits [(0, 4, [], (u : Int))]) := by
    intro x hx
    rw [List.mem_singleton.1 hx]
    exact ⟨by simp, by show _ ≤ (u : Int); omega, by show (u : Int) ≤ _; omega⟩
  have hsz : ByteArray.size ⟨(120 :: 32 :: (Lib.decDigits u ++ [59])).toArray⟩ ≤ 140737488355328 := by
    show (120 :: 32 :: (Lib.decDigits u ++ [59])).toArray.size ≤ _
    simp; omega
  have TK := hide (fun (x : ByteArray) W (hx : x = ⟨(120 :: 32 :: (Lib.decDigits u ++ [59])).toArray⟩) => Tokens_ok x [(0, 1, [120], 0), (2, 4, [], (u : Int)), (2 + (Lib.decDigits u).length, 6, [59], 0)] W (by rw [hx]; exact hsz) (by rw [hx]; exact num_lex hu))
  clear hsz
  have HA := hide (app_app (Lib.decDigits u))
  have DG := hide (Digits_any u hu)
  have hu' : (u : Int) ≤ 9223372036854775807 := by omega
  have J1 := hide (fun W (hb : Below w.heap.size w W) => Join_b (w0 := w) _ [(0, 4, [], (u : Int))] _ _ (TokRow.of_new W [(0, 4, [], (u : Int))] 1 _ rfl) (by simp) (unhide HF) (hb.alloc hb.size _) (unhide HT) h5 (unhide HJ))
  have RN := hide (fun W (hb : Below w.heap.size w W) => Runs_b (w0 := w) W hb (unhide HG) (unhide HT) h5)
  rcases hl with ⟨hneg, hl⟩ | ⟨hneg, rfl⟩
  all_goals
    go_enter Tryd.func6, Tryd.ntmps6
    go_wp2_with (first | (go_at_call 17; go_fit (unhide DG _); rintro e w1 ⟨rfl, hb1⟩; replace HB := step0 HB hb1; clear hb1) | (go_at_call 9; refine (unhide TK _ _ (unhide HA)).mono ?_; rintro e w2 ⟨v, rfl, hv, hb2⟩; replace HB := step0 HB hb2; clear hb2) | (go_at_call 12; refine (token_any _ _ _ _ _).mono ?_; rintro e wt ⟨rfl, hbt⟩; replace hv := hv.below hbt; replace HB := step0 HB hbt; clear hbt) | (go_at_call 13; go_fit (unhide J1 _ HB); rintro e w3 ⟨rfl, hb3⟩))
    replace hv := hv.below1 hb3
    replace HB := step1 HB hb3
    clear hb3
    obtain ⟨p, c, rfl, hp⟩ := hv
    obtain ⟨g, o, rfl, a0, a1, a2, a3⟩ := hp 1 _ rfl
    clear hp
    have C4 : Hid (∀ W, Below w3.drew.heap.size w3.drew W → W.cell? ⟨g, o + 1 * 4, none⟩ = some (.int .i64 2) ∧ W.cell? ⟨g, o + 1 * 4 + 1, none⟩ = some (.int .i64 4) ∧ W.cell? ⟨g, o + 1 * 4 + 2, none⟩ = some (.string ⟨#[]⟩) ∧ W.cell? ⟨g, o + 1 * 4 + 3, none⟩ = some (.int .i64 (u : Int))) := by
      intro W hb
      have hg := cell_lt a0
      exact ⟨(hb.cell (p := ⟨g, _, none⟩) hg).trans a0, (hb.cell (p := ⟨g, _, none⟩) hg).trans a1, (hb.cell (p := ⟨g, _, none⟩) hg).trans a2, (hb.cell (p := ⟨g, _, none⟩) hg).trans a3⟩
    clear a0 a1 a2 a3
    obtain ⟨a0, a1, a2, a3⟩ := unhide C4 _ (Below.refl _ _)
    simp only [List.length_cons, List.length_nil, Nat.reduceAdd]
    go_region_held3 (fun w' => w'.cell? ⟨g, o + 1 * 4, none⟩ = some (.int .i64 2) ∧ w'.cell? ⟨g, o + 1 * 4 + 1, none⟩ = some (.int .i64 4) ∧ w'.cell? ⟨g, o + 1 * 4 + 2, none⟩ = some (.string ⟨#[]⟩) ∧ w'.cell? ⟨g, o + 1 * 4 + 3, none⟩ = some (.int .i64 (u : Int))) (go_keep) (first | (go_at_call 12; refine (token_any _ _ _ _ _).mono ?_; rintro e w4 ⟨rfl, hb4⟩; obtain ⟨b0, b1, b2, b3⟩ := unhide C4 w4 hb4) | (go_at_call 11; refine (unhide RN w4 (step0 HB (below_of_drew hb4))).mono ?_; rintro e w5 ⟨rfl, hb5⟩; obtain ⟨c0, c1, c2, c3⟩ := unhide C4 w5 (step0 hb4 hb5)))
    all_goals
      go_wp2
      go_ret
      exact ⟨rfl, step0 (step0 HB (below_of_drew hb4)) hb5⟩
end Go.Proofs.YtkahhkeohmljaabDoor
