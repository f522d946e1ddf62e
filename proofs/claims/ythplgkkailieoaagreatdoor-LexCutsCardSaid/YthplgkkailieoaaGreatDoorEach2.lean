/-
  each of package lex, walked, where the loop body over it may leave.
-/
import Derived.Test.YthplgkkailieoaaGreatDoorTokens
namespace Go.Proofs.YthplgkkailieoaaGreatDoor
open Go Go.RowKit Go.Shelf Lx
attribute [local go_sem] Oper.semAt_some

set_option maxHeartbeats 2000000 in
set_option maxRecDepth 100000 in
theorem each_in2 (n l bc : Nat) (hn : 1 ≤ n) (s : ByteArray) (hs : s.size ≤ 140737488355328) (J Jx : List Tok → World → Prop)
    (hJ : ∀ xs W W', J xs W → Below W.heap.size W W' → J xs W')
    (hY : ∀ pre x W, J pre W → pre.length < 4096 → (∃ rest, (lex s.data.toList).1 = pre ++ x :: rest) → CutterAt bc s (.pointer none) W → YieldAt Fence.wide (n - 1) Tryz.prog l #[.int .i64 (pre.length : Int), tokVal x] W fun e W' =>
      (e = .returned (.bool true) ∧ J (pre ++ [x]) W' ∧ CutterAt bc s (.pointer none) W') ∨ (e = .returned (.bool false) ∧ Jx (pre ++ [x]) W'))
    (W : World) (hc : CutterAt bc s (.pointer none) W) (h0 : J [] W) :
    CallsIn Fence.wide n Tryz.prog 25 #[.pointer (some ⟨bc, 0, none⟩), .func (.yield l) #[] #[]] W fun e W' =>
      (∃ v, e = .returned v) ∧ ((∃ W2, J (lex s.data.toList).1 W2 ∧ EachEnds bc s (lex s.data.toList).2 W2 W') ∨ ∃ pre, Jx pre W') := by
  have c0 := hc.cell0
  have g28 : Fence.wide.fn 52 := trivial
  have g29 : Fence.wide.fn 53 := trivial
  have g27 : Fence.wide.fn 51 := trivial
  have hsz : s.data.toList.length = s.size := by simp
  refine callsIn_of_wp Tryz.func25 rfl trivial ?_ rfl
  simp only [Tryz.ntmps25, List.size_toArray, List.length_cons, List.length_nil, Nat.reduceAdd, Nat.reduceSub, Array.replicate_succ, Array.replicate_zero, List.push_toArray, List.append_toArray, List.nil_append, List.cons_append]
  by_cases hbig : 65536 < s.size
  · have hbig' : 65536 < (s.size : Int) := by omega
    have HE : Hid (lex s.data.toList = ([], some (0, 2))) := by show _ = _; rw [lex, hsz, if_pos hbig]
    have hl := hc.lt
    have c1 := hc.cell1
    have f1 := hc.frozen
    gi_wp2_with (gi_at_call 51; refine (callsIn_wide.2 (refuse_any _ _ _)).mono ?_; rintro e w' ⟨rfl, rfl⟩)
    refine bodyPost_ret (results_none rfl _ _ _) rfl ?_
    refine ⟨⟨_, rfl⟩, .inl ⟨W, by rw [unhide HE]; exact h0, hc, ?_⟩⟩
    rw [unhide HE]
    exact ⟨W.heap.size, by omega, (by have := heap_last (W.setCell ⟨bc, 1, none⟩ (.pointer (some ⟨W.heap.size, 0, none⟩))) (.cells #[.int .i64 0, .int .i64 2] 71); simpa using this), (Below.heap_alloc _ _ _ (by simpa using hl)).trans (hc.set _), grown_set _ _ _ _⟩
  · have hbig' : (s.size : Int) ≤ 65536 := by omega
    have hml : s.size ≤ maxLen := by unfold maxLen; omega
    have SK : Hid (∀ k (_ : k ≤ s.size) W, CallsIn Fence.wide (n - 1) Tryz.prog 52 #[.string s, .int .i64 k] W fun e w' => e = .returned (.int .i64 ((k + skip (s.data.toList.drop k) : Nat) : Int)) ∧ W = w') := fun k hk W => callsIn_wide.2 (skip_w s k W hk hml)
    have hk0 := skip_le s.data.toList
    gi_wp2_with (gi_at_call 52; refine (unhide SK 0 (by omega) _).mono ?_; rintro e w' ⟨rfl, rfl⟩)
    gi_loopw [4, 5] (fun p q wr => ∃ (k f : Nat) (pre : List Tok), p = .int .i64 k ∧ q = .int .i64 (pre.length : Nat) ∧ k ≤ s.size ∧ pre.length ≤ 4096 ∧ s.size - k < f ∧ J pre wr ∧ CutterAt bc s (.pointer none) wr ∧
        Hid (lex s.data.toList = (pre ++ (lexAt f (s.data.toList.drop k) k pre.length).1, (lexAt f (s.data.toList.drop k) k pre.length).2))) (fun p _ _ => s.size - (intOf p).toNat)
    case atStart =>
      refine ⟨skip s.data.toList, s.size + 1, [], by simp, rfl, by omega, by simp, by omega, h0, hc, ?_⟩
      show _ = _
      rw [lex, if_neg (by omega), lexF_at, hsz]; simp
    case round =>
      obtain ⟨k, f, pre, rfl, rfl, hk, hpl, hf, hj, hcr, HL⟩ := hrel
      have c1 := hcr.cell0
      have hlt2 := hcr.lt
      by_cases hlt : k < s.size
      · have hne : s.data.toList.drop k ≠ [] := by rw [drop_cons s k hlt]; simp
        obtain ⟨f', rfl⟩ : ∃ f', f = f' + 1 := ⟨f - 1, by omega⟩
        have NX : Hid (CallsIn Fence.wide (n - 1) Tryz.prog 53 #[.string s, .int .i64 k, .int .i64 (pre.length : Nat)] wr fun e w' => CutSays wr k (next (s.data.toList.drop k) pre.length) e w') := callsIn_wide.2 (next_any s k pre.length wr hlt hs)
        rcases hnx : next (s.data.toList.drop k) pre.length with ⟨o, y⟩ | ⟨kd, S, v, m⟩
        · have HE : Hid (lex s.data.toList = (pre, some (k + o, y))) := by
            have e := unhide HL
            rw [lexAt_no hne hnx] at e
            show _ = _
            simpa using e
          rw [hnx] at NX
          clear HL hnx hne
          gi_wp2_with (gi_at_call 53; refine (unhide NX).mono ?_; rintro e w1 ⟨hb, b, rfl, hge, hblk⟩; have hcw := hcr.kept hb; have d0 := hcw.cell0; have d1 := hcw.cell1; have fr := hcw.frozen; have hl1 := hcw.lt)
          refine bodyPost_ret (results_none rfl _ _ _) rfl ?_
          refine ⟨⟨_, rfl⟩, .inl ⟨w1, by rw [unhide HE]; exact hJ _ _ _ hj hb, hcw, ?_⟩⟩
          rw [unhide HE]
          have hbne : b ≠ bc := by omega
          have hblt : b < w1.heap.size := (Array.getElem?_eq_some_iff.1 hblk).1
          exact ⟨b, by omega, (Below.heap_alloc _ _ _ (by simpa using hblt)).trans ((Below.heap_setCell _ _ _ _ hbne).trans hblk), (Below.heap_alloc _ _ _ (by simpa using hl1)).trans (hcw.set _), grown_set _ _ _ _⟩
        · have hm := next_len hne hnx
          have hfew := next_few hnx
          have hdl : (s.data.toList.drop k).length = s.size - k := by simp
          rw [hdl] at hm
          have hsk := skip_le (s.data.toList.drop (k + m))
          rw [show (s.data.toList.drop (k + m)).length = s.size - (k + m) from by simp] at hsk
          have HE : Hid (lex s.data.toList = ((pre ++ [(k, kd, S, v)]) ++ (lexAt f' (s.data.toList.drop (k + m + skip (s.data.toList.drop (k + m)))) (k + m + skip (s.data.toList.drop (k + m))) (pre ++ [(k, kd, S, v)]).length).1, (lexAt f' (s.data.toList.drop (k + m + skip (s.data.toList.drop (k + m)))) (k + m + skip (s.data.toList.drop (k + m))) (pre ++ [(k, kd, S, v)]).length).2)) := by
            have e := unhide HL
            rw [lexAt_yes hne hnx] at e
            simp only [List.drop_drop] at e
            show _ = _
            rw [e]; simp
          rw [hnx] at NX
          have HPX : Hid (∃ rest, (lex s.data.toList).1 = pre ++ (k, kd, S, v) :: rest) := ⟨(lexAt f' (s.data.toList.drop (k + m + skip (s.data.toList.drop (k + m)))) (k + m + skip (s.data.toList.drop (k + m))) (pre ++ [(k, kd, S, v)]).length).1, by rw [unhide HE]; simp⟩
          clear HL hnx hne hdl
          gi_wp2_with (gi_at_call 53; refine (unhide NX).mono ?_; rintro e w1 ⟨hb, rfl⟩; obtain ⟨fn, tmps, assign, body, hy, hR⟩ := hY pre (k, kd, S, v) (w1.alloc (.cells #[.int .i64 k, .int .i64 kd, .string ⟨S.toArray⟩, .int .i64 v] 40)) (hJ _ _ _ (hJ _ _ _ hj hb) ((Below.refl _ _).alloc (Nat.le_refl _) _)) hfew (unhide HPX) ((hcr.kept hb).kept ((Below.refl _ _).alloc (Nat.le_refl _) _)); dsimp only [tokVal] at hy)
          refine hR.mono ?_
          rintro e W3 (⟨rfl, hJ3, hc3⟩ | ⟨rfl, hJx3⟩)
          rotate_left
          · gi_wp2
            refine bodyPost_ret (results_none rfl _ _ _) rfl ?_
            exact ⟨⟨_, rfl⟩, .inr ⟨_, hJx3⟩⟩
          have e0 := hc3.cell0
          gi_wp2_with (gi_at_call 52; refine (unhide SK (k + m) (by omega) _).mono ?_; rintro e w' ⟨rfl, rfl⟩)
          go_roundw
          case rel => exact ⟨k + m + skip (s.data.toList.drop (k + m)), f', pre ++ [(k, kd, S, v)], rfl, by simp, by omega, by simp; omega, by omega, hJ3, hc3, unhide HE⟩
          case measure => simp [intOf]; omega
      · have HE : Hid (lex s.data.toList = (pre, none)) := by
          have e := unhide HL
          rw [List.drop_of_length_le (by simp; omega), lexAt_nil] at e
          show _ = _
          simpa using e
        gi_wp2
        go_end0
        exact ⟨⟨_, rfl⟩, .inl ⟨wr, by rw [unhide HE]; exact hj, hcr, by rw [unhide HE]⟩⟩
end Go.Proofs.YthplgkkailieoaaGreatDoor
