/-
  each of package lex, walked, whatever the loop body over it does, if it goes on.
-/
import Derived.Test.YtcofioeikpiabaaGreatDoorNext
import Derived.Test.YtcofioeikpiabaaGreatDoorLexer
import Derived.RangeFuncNested
import Derived.RangeFuncLeaves
import Derived.RangeFuncCalls
import Derived.RangeFuncBound
import Derived.Shelf.Abstract
import Derived.OwnWalkIn
import Derived.TacticsInMore
import Derived.LoopNIn
import Derived.LoopIn
namespace Go.Proofs.YtcofioeikpiabaaGreatDoor
open Go Go.RowKit Go.Shelf Lx
attribute [local go_sem] Oper.semAt_some

def tokVal (t : Tok) : Value := .agg #[.int .i64 (t.1 : Int), .int .i64 t.2.1, .string ⟨t.2.2.1.toArray⟩, .int .i64 t.2.2.2]
/-- The cutter in block bc. -/
def CutterAt (bc : Nat) (s : ByteArray) (r : Value) (W : World) : Prop := W.heap[bc]? = some (.cells #[.string s, r] 521)
theorem CutterAt.cell0 {bc : Nat} {s : ByteArray} {r : Value} {W : World} (h : CutterAt bc s r W) : W.cell? ⟨bc, 0, none⟩ = some (.string s) := by simp [World.cell?, show W.heap[bc]? = _ from h]
theorem CutterAt.cell1 {bc : Nat} {s : ByteArray} {r : Value} {W : World} (h : CutterAt bc s r W) : W.cell? ⟨bc, 1, none⟩ = some r := by simp [World.cell?, show W.heap[bc]? = _ from h]
theorem CutterAt.frozen {bc : Nat} {s : ByteArray} {r : Value} {W : World} (h : CutterAt bc s r W) (o : Nat) : W.frozen? ⟨bc, o, none⟩ = false := by simp [World.frozen?, show W.heap[bc]? = _ from h]
theorem CutterAt.lt {bc : Nat} {s : ByteArray} {r : Value} {W : World} (h : CutterAt bc s r W) : bc < W.heap.size := (Array.getElem?_eq_some_iff.1 h).1
theorem CutterAt.kept {bc : Nat} {s : ByteArray} {r : Value} {W W' : World} (h : CutterAt bc s r W) (hb : Below W.heap.size W W') : CutterAt bc s r W' := (hb.block bc h.lt).trans h

/-- What each leaves: all tokens handed out; the refusal, if there is one, in the cutter. -/
def EachEnds (bc : Nat) (s : ByteArray) (r : Option (Nat × Nat)) (W2 W' : World) : Prop :=
  CutterAt bc s (.pointer none) W2 ∧
  match r with
  | none => W' = W2
  | some (p, y) => ∃ b, bc < b ∧ W'.heap[b]? = some (.cells #[.int .i64 (p : Int), .int .i64 (y : Int)] 654) ∧ CutterAt bc s (.pointer (some ⟨b, 0, none⟩)) W' ∧ W2.grownBy W' (some bc)
theorem CutterAt.set {bc : Nat} {s : ByteArray} {r : Value} {W : World} (h : CutterAt bc s r W) (v : Value) : CutterAt bc s v (W.setCell ⟨bc, 1, none⟩ v) := by
  obtain ⟨hlt, hk⟩ := Array.getElem?_eq_some_iff.1 h
  show (W.heap.modify bc _)[bc]? = _
  rw [Array.getElem?_eq_getElem (by rw [Array.size_modify]; exact hlt), Array.getElem_modify_self, hk]
  rfl
/-- The cutter is written, then a block is laid. -/
theorem grown_set (W : World) (bc : Nat) (v : Value) (o : Obj) : W.grownBy ((W.setCell ⟨bc, 1, none⟩ v).alloc o) (some bc) where
  os := rfl
  tape := rfl
  output := rfl
  size := by simp
  block := fun k hk hne => by
    rw [Below.heap_alloc _ _ _ (by simpa using hk)]
    exact Below.heap_setCell _ _ _ _ (fun e => hne (by rw [e]))
theorem skip_w (s : ByteArray) (a : Nat) (w : World) (ha : a ≤ s.size) (hs : s.size ≤ maxLen) :
    Calls Tryz.prog 377 #[.string s, .int .i64 a] w fun e w' => e = .returned (.int .i64 ((a + skip (s.data.toList.drop a) : Nat) : Int)) ∧ w = w' := (skip_any s a w ha hs).mono fun _ _ h => ⟨h.1, h.2.symm⟩

set_option maxHeartbeats 2000000 in
set_option maxRecDepth 100000 in
theorem each_in (n l bc : Nat) (hn : 1 ≤ n) (s : ByteArray) (hs : s.size ≤ 140737488355328) (J : List Tok → World → Prop)
    (hJ : ∀ xs W W', J xs W → Below W.heap.size W W' → J xs W')
    (hY : ∀ pre x W, J pre W → pre.length < 4096 → CutterAt bc s (.pointer none) W → YieldAt Fence.wide (n - 1) Tryz.prog l #[.int .i64 (pre.length : Int), tokVal x] W fun e W' =>
      e = .returned (.bool true) ∧ J (pre ++ [x]) W' ∧ CutterAt bc s (.pointer none) W')
    (W : World) (hc : CutterAt bc s (.pointer none) W) (h0 : J [] W) :
    CallsIn Fence.wide n Tryz.prog 277 #[.pointer (some ⟨bc, 0, none⟩), .func (.yield l) #[] #[]] W fun e W' =>
      (∃ v, e = .returned v) ∧ ∃ W2, J (lex s.data.toList).1 W2 ∧ EachEnds bc s (lex s.data.toList).2 W2 W' := by
  have c0 := hc.cell0
  have g28 : Fence.wide.fn 377 := trivial
  have g29 : Fence.wide.fn 378 := trivial
  have g27 : Fence.wide.fn 376 := trivial
  have hsz : s.data.toList.length = s.size := by simp
  refine callsIn_of_wp Tryz.func277 rfl trivial ?_ rfl
  simp only [Tryz.ntmps277, List.size_toArray, List.length_cons, List.length_nil, Nat.reduceAdd, Nat.reduceSub, Array.replicate_succ, Array.replicate_zero, List.push_toArray, List.append_toArray, List.nil_append, List.cons_append]
  by_cases hbig : 65536 < s.size
  · have hbig' : 65536 < (s.size : Int) := by omega
    have HE : Hid (lex s.data.toList = ([], some (0, 2))) := by show _ = _; rw [lex, hsz, if_pos hbig]
    have hl := hc.lt
    have c1 := hc.cell1
    have f1 := hc.frozen
    gi_wp2_with (gi_at_call 376; refine (callsIn_wide.2 (refuse_any _ _ _)).mono ?_; rintro e w' ⟨rfl, rfl⟩)
    refine bodyPost_ret (results_none rfl _ _ _) rfl ?_
    refine ⟨⟨_, rfl⟩, W, by rw [unhide HE]; exact h0, hc, ?_⟩
    rw [unhide HE]
    exact ⟨W.heap.size, by omega, (by have := heap_last (W.setCell ⟨bc, 1, none⟩ (.pointer (some ⟨W.heap.size, 0, none⟩))) (.cells #[.int .i64 0, .int .i64 2] 654); simpa using this), (Below.heap_alloc _ _ _ (by simpa using hl)).trans (hc.set _), grown_set _ _ _ _⟩
  · have hbig' : (s.size : Int) ≤ 65536 := by omega
    have hml : s.size ≤ maxLen := by unfold maxLen; omega
    have SK : Hid (∀ k (_ : k ≤ s.size) W, CallsIn Fence.wide (n - 1) Tryz.prog 377 #[.string s, .int .i64 k] W fun e w' => e = .returned (.int .i64 ((k + skip (s.data.toList.drop k) : Nat) : Int)) ∧ W = w') := fun k hk W => callsIn_wide.2 (skip_w s k W hk hml)
    have hk0 := skip_le s.data.toList
    gi_wp2_with (gi_at_call 377; refine (unhide SK 0 (by omega) _).mono ?_; rintro e w' ⟨rfl, rfl⟩)
    gi_loopw [4, 5] (fun p q wr => ∃ (k f : Nat) (pre : List Tok), p = .int .i64 k ∧ q = .int .i64 (pre.length : Nat) ∧ k ≤ s.size ∧ pre.length ≤ 4096 ∧ s.size - k < f ∧ J pre wr ∧ CutterAt bc s (.pointer none) wr ∧
        Hid (lex s.data.toList = (pre ++ (lexAt f (s.data.toList.drop k) k pre.length).1, (lexAt f (s.data.toList.drop k) k pre.length).2))) (fun p _ _ => s.size - (intOf p).toNat)
    case atStart =>
      refine ⟨skip s.data.toList, s.size + 1, [], by simp, rfl, by omega, by simp, by omega, h0, hc, ?_⟩
      show _ = _
      rw [lex, if_neg (by omega), lexF_at, hsz]; simp
    case round =>
      obtain ⟨k, f, pre, rfl, rfl, hk, hpl, hf, hj, hcr, HL⟩ := hrel
      have c1 := hcr.cell0
      have hlt2 := hcr.lt
      by_cases hlt : k < s.size
      · have hne : s.data.toList.drop k ≠ [] := by rw [drop_cons s k hlt]; simp
        obtain ⟨f', rfl⟩ : ∃ f', f = f' + 1 := ⟨f - 1, by omega⟩
        have NX : Hid (CallsIn Fence.wide (n - 1) Tryz.prog 378 #[.string s, .int .i64 k, .int .i64 (pre.length : Nat)] wr fun e w' => CutSays wr k (next (s.data.toList.drop k) pre.length) e w') := callsIn_wide.2 (next_any s k pre.length wr hlt hs)
        rcases hnx : next (s.data.toList.drop k) pre.length with ⟨o, y⟩ | ⟨kd, S, v, m⟩
        · have HE : Hid (lex s.data.toList = (pre, some (k + o, y))) := by
            have e := unhide HL
            rw [lexAt_no hne hnx] at e
            show _ = _
            simpa using e
          rw [hnx] at NX
          clear HL hnx hne
          gi_wp2_with (gi_at_call 378; refine (unhide NX).mono ?_; rintro e w1 ⟨hb, b, rfl, hge, hblk⟩; have hcw := hcr.kept hb; have d0 := hcw.cell0; have d1 := hcw.cell1; have fr := hcw.frozen; have hl1 := hcw.lt)
          refine bodyPost_ret (results_none rfl _ _ _) rfl ?_
          refine ⟨⟨_, rfl⟩, w1, by rw [unhide HE]; exact hJ _ _ _ hj hb, hcw, ?_⟩
          rw [unhide HE]
          have hbne : b ≠ bc := by omega
          have hblt : b < w1.heap.size := (Array.getElem?_eq_some_iff.1 hblk).1
          exact ⟨b, by omega, (Below.heap_alloc _ _ _ (by simpa using hblt)).trans ((Below.heap_setCell _ _ _ _ hbne).trans hblk), (Below.heap_alloc _ _ _ (by simpa using hl1)).trans (hcw.set _), grown_set _ _ _ _⟩
        · have hm := next_len hne hnx
          have hfew := next_few hnx
          have hdl : (s.data.toList.drop k).length = s.size - k := by simp
          rw [hdl] at hm
          have hsk := skip_le (s.data.toList.drop (k + m))
          rw [show (s.data.toList.drop (k + m)).length = s.size - (k + m) from by simp] at hsk
          have HE : Hid (lex s.data.toList = ((pre ++ [(k, kd, S, v)]) ++ (lexAt f' (s.data.toList.drop (k + m + skip (s.data.toList.drop (k + m)))) (k + m + skip (s.data.toList.drop (k + m))) (pre ++ [(k, kd, S, v)]).length).1, (lexAt f' (s.data.toList.drop (k + m + skip (s.data.toList.drop (k + m)))) (k + m + skip (s.data.toList.drop (k + m))) (pre ++ [(k, kd, S, v)]).length).2)) := by
            have e := unhide HL
            rw [lexAt_yes hne hnx] at e
            simp only [List.drop_drop] at e
            show _ = _
            rw [e]; simp
          rw [hnx] at NX
          clear HL hnx hne hdl
          gi_wp2_with (gi_at_call 378; refine (unhide NX).mono ?_; rintro e w1 ⟨hb, rfl⟩; obtain ⟨fn, tmps, assign, body, hy, hR⟩ := hY pre (k, kd, S, v) (w1.alloc (.cells #[.int .i64 k, .int .i64 kd, .string ⟨S.toArray⟩, .int .i64 v] 371)) (hJ _ _ _ (hJ _ _ _ hj hb) ((Below.refl _ _).alloc (Nat.le_refl _) _)) hfew ((hcr.kept hb).kept ((Below.refl _ _).alloc (Nat.le_refl _) _)); dsimp only [tokVal] at hy)
          refine hR.mono ?_
          rintro e W3 ⟨rfl, hJ3, hc3⟩
          have e0 := hc3.cell0
          gi_wp2_with (gi_at_call 377; refine (unhide SK (k + m) (by omega) _).mono ?_; rintro e w' ⟨rfl, rfl⟩)
          go_roundw
          case rel => exact ⟨k + m + skip (s.data.toList.drop (k + m)), f', pre ++ [(k, kd, S, v)], rfl, by simp, by omega, by simp; omega, by omega, hJ3, hc3, unhide HE⟩
          case measure => simp [intOf]; omega
      · have HE : Hid (lex s.data.toList = (pre, none)) := by
          have e := unhide HL
          rw [List.drop_of_length_le (by simp; omega), lexAt_nil] at e
          show _ = _
          simpa using e
        gi_wp2
        go_end0
        exact ⟨⟨_, rfl⟩, wr, by rw [unhide HE]; exact hj, hcr, by rw [unhide HE]⟩
end Go.Proofs.YtcofioeikpiabaaGreatDoor
