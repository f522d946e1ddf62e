/-
  coillaw1.LexJoins, walked: it answers true, whatever tokens it is handed.
-/
import Derived.Test.YthplgkkailieoaaGreatDoorLexed
import Derived.Test.YthplgkkailieoaaGreatDoorIntact
import Derived.Lib.ItoaLen
namespace Go.Proofs.YthplgkkailieoaaGreatDoor
open Go Go.RowKit Lx

theorem shorter (n : Nat) (ts : List Tok) : (shortT n ts).length ≤ n := by simp [shortT]; omega
theorem short_each {ts : List Tok} {n : Nat} (h : ∀ t ∈ ts, -9223372036854775808 ≤ t.2.2.2 ∧ t.2.2.2 ≤ 9223372036854775807) : ∀ t ∈ shortT n ts, t.2.2.1.length ≤ 200 ∧ -9223372036854775808 ≤ t.2.2.2 ∧ t.2.2.2 ≤ 9223372036854775807 := by
  intro t ht
  obtain ⟨x, hx, rfl⟩ := List.mem_map.1 ht
  obtain ⟨h1, h2⟩ := h x (List.mem_of_mem_take hx)
  exact ⟨by show (x.2.2.1.take 200).length ≤ _; rw [List.length_take]; omega, h1, h2⟩
theorem text_few {t : Tok} (h : t.2.2.1.length ≤ 200 ∧ -9223372036854775808 ≤ t.2.2.2 ∧ t.2.2.2 ≤ 9223372036854775807) : (tokText t).length ≤ 1000000 := by
  unfold tokText
  split
  · have := Lib.itoa_length_le t.2.2.2 h.2.1 h.2.2
    omega
  · split
    · have := escs_two t.2.2.1
      simp [quote]; omega
    · omega
theorem ans_is (x : Sum Nat Bs) : ∃ (S : ByteArray) (y : Int), joinAns x = .tuple #[.string S, .int .i64 y] := by
  cases x with
  | inl y => exact ⟨_, _, rfl⟩
  | inr l => exact ⟨_, _, rfl⟩
set_option maxHeartbeats 4000000 in
set_option maxRecDepth 100000 in
theorem LexJoins_any (v : Value) (ts : List Tok) (w : World) (hl : ts.length ≤ 9223372036854775807) (hS : ∀ t ∈ ts, t.2.2.1.length ≤ 9223372036854775807) (hN : ∀ t ∈ ts, -9223372036854775808 ≤ t.2.2.2 ∧ t.2.2.2 ≤ 9223372036854775807) (hv : TokAny w v ts)
    (hg : ErrType w) (ht : Tab w) (h5 : 5 ≤ w.heap.size) :
    Calls Tryz.prog 4 #[v] w fun e w' => e = .returned (.bool true) ∧ Below w.heap.size w w' := by
  have RN := hide (fun W (hb : Below w.heap.size w W) => Runs_b (w0 := w) W hb hg ht h5)
  have SH := hide (short_any v ts 300 w (by omega) hl hS hv)
  have hLl := shorter 300 ts
  have HE := hide (short_each (n := 300) hN)
  have HT := hide ht
  clear hg ht hl hS hN hv
  revert SH hLl HE
  generalize shortT 300 ts = L
  intro SH hLl HE
  have hF : Fits L := fun t ht => by have := unhide HE t ht; exact ⟨by omega, this.2⟩
  have HF := hide hF
  obtain ⟨S, y, hans⟩ := ans_is (join L)
  have RJ := hide (fun W u (hu : TokAny W u L) => rJoin_any u L W hu (by omega) (fun t ht => by have := unhide HE t ht; exact ⟨by omega, this.2.2⟩) (fun t ht => text_few (unhide HE t ht)))
  have LJ := hide (fun W u (hu : TokAny W u L) (hb : Below w.heap.size w W) => Join_free u L W hu (by omega) hF ((unhide HT).below hb h5) (Nat.le_trans h5 hb.size))
  rw [hans] at RJ LJ
  clear hans hF HF HE HT
  go_enter Tryz.func4, Tryz.ntmps4
  go_upto_region 3 with (go_at_call 17; refine (unhide SH).mono ?_; clear SH; rintro e w1 ⟨u, rfl, hu, hb1⟩)
  obtain ⟨xs, rfl, hz⟩ := hu.z
  simp only [List.length_map] at hLl
  obtain ⟨O, hO⟩ : ∃ O : Obj, O = .cells #[.int .i64 0, .int .i64 (-77), .string ⟨#[]⟩, .int .i64 0] 40 := ⟨_, rfl⟩
  have hm : ∀ j, (w1.alloc O).cell? ⟨w1.heap.size, j, none⟩ = #[Value.int .i64 0, .int .i64 (-77), .string ⟨#[]⟩, .int .i64 0][j]? := fun j => by rw [hO, World.cell?_alloc_at _ _ _ _ (by rfl)]
  have hz2 : ZRow (w1.alloc O) u xs := hz.below ((Below.refl _ _).alloc (Nat.le_refl _) O)
  have hb2 : Below w.heap.size w (w1.alloc O) := hb1.alloc hb1.size O
  have hs2 : w1.heap.size < (w1.alloc O).heap.size := by simp
  rw [← hO]
  clear hO hz hb1 hu
  revert hm hz2 hb2 hs2
  generalize w1.alloc O = W2
  clear O
  generalize w1.heap.size = B
  intro hm hz2 hb2 hs2
  have hs3 := hb2.size
  have HM := hide hm
  have m0 := hm 0
  have m1 := hm 1
  have m2 := hm 2
  have m3 := hm 3
  simp at m0 m1 m2 m3
  clear hm
  have HZ := hide hz2
  obtain ⟨p, c, rfl, hp⟩ := hz2
  clear hp
  have RM := hide (Roomy_any _ xs W2 (unhide HZ) (by omega))
  go_wp2_with (first | (go_at_call 18; refine (unhide RM).mono ?_; clear RM; rintro e w3 ⟨b, rfl, hbge, hown3, hb3⟩; have hu3 := ((unhide HZ).below hb3).any; have hs4 := hb3.size) | (go_at_call 19; refine (unhide RJ _ _ hu3).mono ?_; clear RJ hu3; rintro e w4 ⟨rfl, hb4⟩))
  have hb24 : Below W2.heap.size W2 w4 := hb3.trans (hb4.mono hs4)
  have hs5 := hb24.size
  have hz4 := (unhide HZ).below hb24
  obtain ⟨N, hN⟩ : ∃ N, N = xs.length + 80 := ⟨_, rfl⟩
  have hf4 : ZRow w4 (.slice (some ⟨b, 0, none⟩) N N) (xs ++ List.replicate 80 gone) := by
    have : ZRow w3 (.slice (some ⟨b, 0, none⟩) N N) (xs ++ List.replicate 80 gone) := ZRow.of_cells (by simp [hN]) (fun j u hu => by
      have hj : j < (xs.length + 80) * 4 := by
        rcases Nat.lt_or_ge j ((xs.length + 80) * 4) with h | h
        · exact h
        · rw [List.getElem?_eq_none (by rw [allZ_len]; simpa using h)] at hu; cases hu
      rw [Nat.zero_add, hown3.cellAt j hj]; exact hu)
    exact this.below hb4
  have hB4 : Below w.heap.size w w4 := hb2.trans (hb24.mono hs3)
  have HZ4 := hide hz4
  have HF4 := hide hf4
  have hn4 : ∀ j, w4.cell? ⟨B, j, none⟩ = #[Value.int .i64 0, .int .i64 (-77), .string ⟨#[]⟩, .int .i64 0][j]? := fun j => (hb24.cell (p := ⟨B, j, none⟩) hs2).trans (unhide HM j)
  have HM4 := hide hn4
  rw [← hN]
  have hN2 : xs.length ≤ N ∧ N ≤ 380 := by omega
  have hNi : (xs.length : Int) ≤ (N : Int) := by omega
  have hs6 := hB4.size
  have hs7 : B < w4.heap.size := by omega
  have HNN := hide hN
  clear hn4 hz4 hf4 hown3 hb3 hb4 hb24 hb2 m0 m1 m2 m3 HM HZ hN hbge hs4 hs5 hs2 hs3
  go_loopw [7] (fun i wr => ∃ k : Nat, i = .int .i64 k ∧ k ≤ 2 ∧ Below w4.heap.size w4 wr) (fun i _ => 2 - (intOf i).toNat)
  case atStart => exact ⟨0, rfl, by omega, Below.refl _ _⟩
  case round =>
    obtain ⟨k, rfl, hk, hb⟩ := hrel
    have hbx : Below w.heap.size w wr := hB4.trans (hb.mono hs6)
    have hbs := hb.size
    by_cases hlt : k < 2
    · have hlt' : (k : Int) < 2 := by omega
      have J1 := hide (unhide LJ wr _ (((unhide HF4).below hb).head N).any hbx)
      clear LJ
      go_wp2_with (go_at_call 20; refine (unhide J1).mono ?_; clear J1; rintro e w5 ⟨rfl, hb5⟩)
      go_roundw
      case rel => exact ⟨k + 1, by go_num, by omega, hb.trans (hb5.mono hbs)⟩
      case measure => simp [intOf]; omega
    · have m0 := (hb.cell (p := ⟨B, 0, none⟩) hs7).trans (unhide HM4 0)
      have m1 := (hb.cell (p := ⟨B, 1, none⟩) hs7).trans (unhide HM4 1)
      have m2 := (hb.cell (p := ⟨B, 2, none⟩) hs7).trans (unhide HM4 2)
      have m3 := (hb.cell (p := ⟨B, 3, none⟩) hs7).trans (unhide HM4 3)
      simp at m0 m1 m2 m3
      have IN := hide (Intact_any _ b N xs wr (unhide HNN) (by omega) ((unhide HZ4).below hb) ((unhide HF4).below hb))
      clear LJ HM4 HZ4 HF4
      go_wp2_with (first | (go_at_call 21; refine (unhide IN).mono ?_; clear IN; rintro e w5 ⟨rfl, hb5⟩) | (go_at_call 16; refine (unhide RN _ (hbx.trans (hb5.mono hbx.size))).mono ?_; clear RN; rintro e w6 ⟨rfl, hb6⟩))
      go_ret
      have hz5 := hb5.size
      exact ⟨rfl, (hbx.trans (hb5.mono hbx.size)).trans (hb6.mono (Nat.le_trans hbx.size hz5))⟩
end Go.Proofs.YthplgkkailieoaaGreatDoor
