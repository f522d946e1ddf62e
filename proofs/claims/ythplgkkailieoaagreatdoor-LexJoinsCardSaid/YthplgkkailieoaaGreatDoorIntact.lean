/-
  coilbook.Same at tokens with their places, coilbook.Intact, walked.
-/
import Derived.Test.YthplgkkailieoaaGreatDoorRoomy
namespace Go.Proofs.YthplgkkailieoaaGreatDoor
open Go Go.RowKit Lx

set_option maxHeartbeats 1000000 in
set_option maxRecDepth 100000 in
theorem SameZ_any (v u : Value) (ts : List (Int × Tok)) (w : World) (hl : ts.length ≤ 1000000) (hv : ZRow w v ts) (hu : ZRow w u ts) :
    Calls Tryz.prog 10 #[v, u] w fun e w' => e = .returned (.bool true) ∧ Below w.heap.size w w' := by
  obtain ⟨p, c, rfl, hp⟩ := hv
  obtain ⟨q, d, rfl, hq⟩ := hu
  have HP := hide hp
  have HQ := hide hq
  clear hp hq
  go_enter Tryz.func10, Tryz.ntmps10
  go_wp2
  go_loopw [5] (fun i wr => ∃ k nd : Nat, i = .int .i64 k ∧ k ≤ ts.length ∧ wr = w.drewN nd) (fun i _ => ts.length - (intOf i).toNat)
  case atStart => exact ⟨0, 0, rfl, by omega, rfl⟩
  case round =>
    obtain ⟨k, nd, rfl, hk, rfl⟩ := hrel
    by_cases hlt : k < ts.length
    · obtain ⟨g, o, rfl, a0, a1, a2, a3⟩ := unhide HP k ts[k] (by simp [hlt])
      obtain ⟨g', o', rfl, b0, b1, b2, b3⟩ := unhide HQ k ts[k] (by simp [hlt])
      have hlt' : (k : Int) < (ts.length : Int) := by omega
      go_wp2
      go_quiet (fail)
      go_wp2
      go_roundw
      case rel => exact ⟨k + 1, nd + nq, by go_num, by omega, by simp [World.drewN]⟩
      case measure => simp [intOf]; omega
    · go_wp2
      go_ret
      exact ⟨rfl, below_drewN (Below.refl _ _) _⟩
theorem ZRow.head {W : World} {b N c : Nat} {xs ys : List (Int × Tok)} (h : ZRow W (.slice (some ⟨b, 0, none⟩) N c) (xs ++ ys)) (d : Nat) : ZRow W (.slice (some ⟨b, 0, none⟩) xs.length d) xs := by
  obtain ⟨p, c', e, hp⟩ := h
  simp only [Value.slice.injEq] at e
  obtain ⟨rfl, _, _⟩ := e
  refine ⟨_, _, rfl, fun j x hx => hp j x ?_⟩
  have : j < xs.length := by
    rcases Nat.lt_or_ge j xs.length with h | h
    · exact h
    · rw [List.getElem?_eq_none h] at hx; cases hx
  rw [List.getElem?_append_left this]; exact hx
theorem ZRow.tail {W : World} {b N c : Nat} {xs : List (Int × Tok)} {k : Nat} {x : Int × Tok} (h : ZRow W (.slice (some ⟨b, 0, none⟩) N c) (xs ++ List.replicate k x)) (m : Nat) (h1 : xs.length ≤ m) (h2 : m < xs.length + k) :
    W.cell? ⟨b, m * 4, none⟩ = some (.int .i64 x.1) ∧ W.cell? ⟨b, m * 4 + 1, none⟩ = some (.int .i64 x.2.2.1) ∧ W.cell? ⟨b, m * 4 + 2, none⟩ = some (.string ⟨x.2.2.2.1.toArray⟩) ∧ W.cell? ⟨b, m * 4 + 3, none⟩ = some (.int .i64 x.2.2.2.2) := by
  obtain ⟨p, c', e, hp⟩ := h
  simp only [Value.slice.injEq] at e
  obtain ⟨rfl, _, _⟩ := e
  obtain ⟨g, o, e2, a0, a1, a2, a3⟩ := hp m x (by rw [List.getElem?_append_right h1, List.getElem?_replicate, if_pos (by omega)])
  obtain ⟨rfl, rfl⟩ : b = g ∧ 0 = o := by simpa using e2
  rw [Nat.zero_add] at a0 a1 a2 a3
  exact ⟨a0, a1, a2, a3⟩
set_option maxHeartbeats 1000000 in
set_option maxRecDepth 100000 in
theorem Intact_any (v : Value) (b N : Nat) (xs : List (Int × Tok)) (w : World) (hN : N = xs.length + 80) (hl : xs.length ≤ 1000000) (hv : ZRow w v xs) (hf : ZRow w (.slice (some ⟨b, 0, none⟩) N N) (xs ++ List.replicate 80 gone)) :
    Calls Tryz.prog 21 #[.slice (some ⟨b, 0, none⟩) N N, v, .agg #[.int .i64 0, .int .i64 (-77), .string ⟨#[]⟩, .int .i64 0]] w fun e w' => e = .returned (.bool true) ∧ Below w.heap.size w w' := by
  have HV := hide hv
  have HF := hide hf
  obtain ⟨p, c, rfl, hp⟩ := hv
  have hNi : (xs.length : Int) + 80 = (N : Int) := by omega
  have hN2 : xs.length ≤ N ∧ N ≤ 1000080 := by omega
  have hn1 : (xs.length : Int) ≤ (N : Int) := by omega
  have HN := hide hN
  obtain ⟨O, hO⟩ : ∃ O : Obj, O = .cells #[.int .i64 0, .int .i64 (-77), .string ⟨#[]⟩, .int .i64 0] 40 := ⟨_, rfl⟩
  have SM : Hid (Calls Tryz.prog 10 #[.slice (some ⟨b, 0, none⟩) xs.length N, .slice p xs.length c] (w.alloc O) fun e w' => e = .returned (.bool true) ∧ Below (w.alloc O).heap.size (w.alloc O) w') :=
    SameZ_any _ _ xs _ hl ((hf.head N).below ((Below.refl _ _).alloc (Nat.le_refl _) O)) ((unhide HV).below ((Below.refl _ _).alloc (Nat.le_refl _) O))
  have HM : Hid (∀ j, (w.alloc O).cell? ⟨w.heap.size, j, none⟩ = #[Value.int .i64 0, .int .i64 (-77), .string ⟨#[]⟩, .int .i64 0][j]?) := fun j => by rw [hO, World.cell?_alloc_at _ _ _ _ (by rfl)]
  have HB0 : Hid (Below w.heap.size w (w.alloc O)) := (Below.refl _ _).alloc (Nat.le_refl _) O
  clear hN hp hf
  go_enter Tryz.func21, Tryz.ntmps21
  go_wp2_with (go_at_call 10; rw [← hO]; refine (unhide SM).mono ?_; clear SM; rintro e w1 ⟨rfl, hb1⟩)
  have hbm : ∀ j, w1.cell? ⟨w.heap.size, j, none⟩ = #[Value.int .i64 0, .int .i64 (-77), .string ⟨#[]⟩, .int .i64 0][j]? := fun j => (hb1.cell (p := ⟨w.heap.size, j, none⟩) (by simp)).trans (unhide HM j)
  have hs1 : w.heap.size < w1.heap.size := by have := hb1.size; simp at this; omega
  have hbw : Below w.heap.size w w1 := (unhide HB0).trans (hb1.mono (by simp))
  have HM1 := hide hbm
  clear hbm hb1 HM HB0 hO HV
  go_loopw [7] (fun i wr => ∃ m : Nat, i = .int .i64 m ∧ xs.length ≤ m ∧ m ≤ N ∧ Below w1.heap.size w1 wr) (fun i _ => N - (intOf i).toNat)
  case atStart => exact ⟨xs.length, rfl, Nat.le_refl _, hN2.1, Below.refl _ _⟩
  case round =>
    obtain ⟨m, rfl, hm1, hm2, hb⟩ := hrel
    have hbx : Below w.heap.size w wr := hbw.trans (hb.mono (by omega))
    by_cases hlt : m < N
    · have hlt' : (m : Int) < (N : Int) := by omega
      obtain ⟨a0, a1, a2, a3⟩ := ((unhide HF).below hbx).tail m hm1 (by have := unhide HN; omega)
      have r0 := (hb.cell (p := ⟨w.heap.size, 0, none⟩) hs1).trans (unhide HM1 0)
      have r1 := (hb.cell (p := ⟨w.heap.size, 1, none⟩) hs1).trans (unhide HM1 1)
      have r2 := (hb.cell (p := ⟨w.heap.size, 2, none⟩) hs1).trans (unhide HM1 2)
      have r3 := (hb.cell (p := ⟨w.heap.size, 3, none⟩) hs1).trans (unhide HM1 3)
      simp at r0 r1 r2 r3
      dsimp only [gone] at a0 a1 a2 a3
      go_wp2
      go_quiet (fail)
      go_wp2
      go_roundw
      case rel => exact ⟨m + 1, by go_num, by omega, by omega, below_drewN hb _⟩
      case measure => simp [intOf]; omega
    · go_wp2
      go_ret
      exact ⟨rfl, hbx⟩
end Go.Proofs.YthplgkkailieoaaGreatDoor
