/-
  cutText of package lex, walked.
-/
import Derived.Test.YtcofioeikpiabaaGreatDoorNumbers
import Derived.Test.YtcofioeikpiabaaGreatDoorBuild
namespace Go.Proofs.YtcofioeikpiabaaGreatDoor
open Go.RowKit Lx

theorem textF_nil (i : Nat) (acc : Bs) : textF [] i acc = .inl i := rfl
theorem textF_quote (r : Bs) (i : Nat) (acc : Bs) : textF (34 :: r) i acc = .inr (acc, i + 1) := by cases r <;> simp [textF]
theorem textF_end (i : Nat) (acc : Bs) : textF [92] i acc = .inl (i + 1) := by simp [textF]
theorem textF_esc (d : UInt8) (r : Bs) (i : Nat) (acc : Bs) (h : escOk (d.toNat : Int) = true) : textF (92 :: d :: r) i acc = textF r (i + 2) (acc ++ [(escB (d.toNat : Int)).toNat.toUInt8]) := by simp [textF, h]
theorem textF_noesc (d : UInt8) (r : Bs) (i : Nat) (acc : Bs) (h : escOk (d.toNat : Int) = false) : textF (92 :: d :: r) i acc = .inl (i + 1) := by simp [textF, h]
theorem textF_plain (c : UInt8) (r : Bs) (i : Nat) (acc : Bs) (h1 : c ≠ 34) (h2 : c ≠ 92) (h : plainB (c.toNat : Int) = true) : textF (c :: r) i acc = textF r (i + 1) (acc ++ [c]) := by cases r <;> simp [textF, h1, h2, h]
theorem textF_noplain (c : UInt8) (r : Bs) (i : Nat) (acc : Bs) (h1 : c ≠ 34) (h2 : c ≠ 92) (h : plainB (c.toNat : Int) = false) : textF (c :: r) i acc = .inl i := by cases r <;> simp [textF, h1, h2, h]
theorem byte_is {c : UInt8} {n : Nat} (hn : n < 256) (h : (c.toNat : Int) = n) : c = n.toUInt8 := by
  apply UInt8.toNat_inj.1; simp; omega
theorem escB_byte (d : Int) : (((escB d).toNat.toUInt8).toNat : Int) = escB d := by
  unfold escB; repeat' split
  all_goals rfl
theorem cells_snoc (acc : Bs) (c : UInt8) : Lib.byteCells (acc ++ [c]) = Lib.byteCells acc ++ [.int .u8 (c.toNat : Int)] := by simp [Lib.byteCells]
theorem cells_esc (acc : Bs) (d : Int) : Lib.byteCells (acc ++ [(escB d).toNat.toUInt8]) = Lib.byteCells acc ++ [.int .u8 (escB d)] := by rw [cells_snoc, escB_byte]
theorem cutText_no {l : Bs} {o : Nat} (h : textF l.tail 1 [] = .inl o) : cutText l = .inl (o, 12) := by rw [cutText, h]
theorem cutText_yes {l : Bs} {s : Bs} {n : Nat} (h : textF l.tail 1 [] = .inr (s, n)) : cutText l = .inr (5, s, 0, n) := by rw [cutText, h]

theorem plain_w (b : Int) (w : World) : Calls Tryz.prog 546 #[.int .u8 b] w fun e w' => e = .returned (.bool (plainB b)) ∧ w = w' := (plain_any b w).mono fun _ _ h => ⟨h.1, h.2.symm⟩
theorem escaped_w (b : Int) (w : World) : Calls Tryz.prog 588 #[.int .u8 b] w fun e w' => e = .returned (.tuple #[.int .u8 (escB b), .bool (escOk b)]) ∧ w = w' := (escaped_any b w).mono fun _ _ h => ⟨h.1, h.2.symm⟩
theorem size4 (wr : World) (b : Nat) (v0 v1 v2 v3 : Value) : ((((wr.setCell ⟨b, 0, none⟩ v0).setCell ⟨b, 1, none⟩ v1).setCell ⟨b, 2, none⟩ v2).setCell ⟨b, 3, none⟩ v3).heap.size = wr.heap.size := by simp
theorem heap_last4 (wr : World) (b : Nat) (v0 v1 v2 v3 : Value) (o : Obj) : (((((wr.setCell ⟨b, 0, none⟩ v0).setCell ⟨b, 1, none⟩ v1).setCell ⟨b, 2, none⟩ v2).setCell ⟨b, 3, none⟩ v3).alloc o).heap[wr.heap.size]? = some o := by
  have := heap_last ((((wr.setCell ⟨b, 0, none⟩ v0).setCell ⟨b, 1, none⟩ v1).setCell ⟨b, 2, none⟩ v2).setCell ⟨b, 3, none⟩ v3) o
  rwa [size4] at this

set_option maxHeartbeats 2000000 in
set_option maxRecDepth 100000 in
theorem cutText_any (s : ByteArray) (a : Nat) (w : World) (h1 : a < s.size) (hs : s.size ≤ 140737488355328) :
    Calls Tryz.prog 536 #[.string s, .int .i64 a] w fun e w' => CutSays w a (cutText (s.data.toList.drop a)) e w' := by
  go_enter Tryz.func536, Tryz.ntmps536
  go_wp2
  go_loopw [8] (fun i wr => ∃ (k : Nat) (acc : Bs), a + 1 ≤ k ∧ k ≤ s.size ∧ i = .int .i64 k ∧ acc.length ≤ k ∧ Hid (textF (s.data.toList.drop (a + 1)) 1 [] = textF (s.data.toList.drop k) (k - a) acc) ∧
      IsB (w.heap.size + 1) (w.heap.size + 1) (Lib.byteCells acc) wr ∧ Below (w.heap.size + 1) ((w.alloc (.cells #[.int .i64 0, .int .i64 0, .string ⟨#[]⟩, .int .i64 0] 371)).alloc (.cells #[.pointer none, .slice none 0 0] 42)) wr) (fun i _ => s.size - (intOf i).toNat)
  case atStart =>
    refine ⟨a + 1, [], by omega, by omega, by go_num, by simp, by show _ = _; congr 1; omega, ?_, Below.refl _ _⟩
    have := Lib.fresh_isBuilder 42 5 (w.alloc (.cells #[.int .i64 0, .int .i64 0, .string ⟨#[]⟩, .int .i64 0] 371))
    simpa [Lib.byteCells] using this
  case round =>
    obtain ⟨k, acc, hk1, hk2, rfl, hal, HK, HB, hb⟩ := hrel
    have hsz := hb.size
    simp only [World.size_alloc] at hsz
    have hlt2 : w.heap.size < wr.heap.size := by omega
    have hcx : ∀ o, wr.cell? ⟨w.heap.size, o, none⟩ = (w.alloc (.cells #[.int .i64 0, .int .i64 0, .string ⟨#[]⟩, .int .i64 0] 371)).cell? ⟨w.heap.size, o, none⟩ := fun o =>
      (hb.cell (p := ⟨w.heap.size, o, none⟩) (Nat.lt_succ_self _)).trans (World.cell?_alloc_lt _ _ _ (by simp))
    have hc0 : wr.cell? ⟨w.heap.size, 0, none⟩ = some (.int .i64 0) := (hcx 0).trans (by simp)
    have hc1 : wr.cell? ⟨w.heap.size, 1, none⟩ = some (.int .i64 0) := (hcx 1).trans (by simp)
    have hc2 : wr.cell? ⟨w.heap.size, 2, none⟩ = some (.string ⟨#[]⟩) := (hcx 2).trans (by simp)
    have hc3 : wr.cell? ⟨w.heap.size, 3, none⟩ = some (.int .i64 0) := (hcx 3).trans (by simp)
    have hf : ∀ o, wr.frozen? ⟨w.heap.size, o, none⟩ = false := fun o =>
      (hb.frozen (p := ⟨w.heap.size, o, none⟩) (Nat.lt_succ_self _)).trans (by simp)
    clear hcx
    have hbw : Below w.heap.size w wr := (below2 w _ _).trans (hb.mono (by omega))
    by_cases hlt : k < s.size
    · have hd := drop_cons s k hlt
      by_cases h34 : (s[k].toNat : Int) = 34
      · have HC : Hid (cutText (s.data.toList.drop a) = .inr (5, acc, 0, k - a + 1)) := by
          have e := unhide HK
          rw [hd, byte_is (by decide) h34] at e
          exact cutText_yes (by rw [tail_drop]; exact e.trans (textF_quote _ _ _))
        have hq : ((s[k].toNat : Int) != 34) = false := by simp [h34]
        have heq : ((k : Int) == (s.size : Int)) = false := by simp; omega
        clear h34 hd HK
        have BS : Hid (∀ hx, _) := fun hx => Tryz.Builder_String_any (w.heap.size + 1) (w.heap.size + 1) acc wr HB hx
        go_wp2_with (first | (go_at_call 12; go_fit (unhide BS (by omega)); rintro e w1 ⟨rfl, hb1⟩; have hlt3 : w.heap.size < w1.heap.size := Nat.lt_of_lt_of_le hlt2 hb1.size; have hd0 := (hb1.cell (p := ⟨w.heap.size, 0, none⟩) (Nat.lt_succ_self _)).trans hc0; have hd1 := (hb1.cell (p := ⟨w.heap.size, 1, none⟩) (Nat.lt_succ_self _)).trans hc1; have hd2 := (hb1.cell (p := ⟨w.heap.size, 2, none⟩) (Nat.lt_succ_self _)).trans hc2; have hd3 := (hb1.cell (p := ⟨w.heap.size, 3, none⟩) (Nat.lt_succ_self _)).trans hc3; have hf1 : ∀ o, w1.frozen? ⟨w.heap.size, o, none⟩ = false := fun o => (hb1.frozen (p := ⟨w.heap.size, o, none⟩) (Nat.lt_succ_self _)).trans (hf o)))
        exact bodyPost_ret (v := .tuple #[.agg #[.int .i64 a, .int .i64 5, .string ⟨acc.toArray⟩, .int .i64 0], .int .i64 (k + 1), .pointer none]) (by simp [results, Tryz.results536, go_sem, hd0, hd1, hd2, hd3]) rfl (says_tok (unhide HC) (below4 (hbw.trans (hb1.mono (by omega))) (Nat.le_refl _) _ _ _ _) rfl (by omega))
      · have hq : ((s[k].toNat : Int) != 34) = true := by simpa using h34
        have hn34 : s[k] ≠ 34 := fun h => h34 (by rw [h]; rfl)
        by_cases h92 : (s[k].toNat : Int) = 92
        · have hx : ((s[k].toNat : Int) == 92) = true := by simp [h92]
          have hs92 : s[k] = 92 := byte_is (n := 92) (by decide) h92
          by_cases hlt1 : k + 1 < s.size
          · have hne : ((k : Int) + 1 == (s.size : Int)) = false := by simp; omega
            have hd1 := drop_cons s (k + 1) hlt1
            by_cases hes : escOk (s[k + 1].toNat : Int) = true
            · have HT : Hid (textF (s.data.toList.drop (a + 1)) 1 [] = textF (s.data.toList.drop (k + 1 + 1)) (k - a + 2) (acc ++ [(escB (s[k + 1].toNat : Int)).toNat.toUInt8])) := by
                have e := unhide HK
                rw [hd, hs92, hd1] at e
                exact e.trans (textF_esc _ _ _ _ hes)
              clear h34 h92 hd hd1 hs92 hn34 HK
              go_wp2_with (first | (go_at_call 546; refine (plain_w _ _).mono ?_; rintro e w' ⟨rfl, rfl⟩) | (go_at_call 588; refine (escaped_w _ _).mono ?_; rintro e w' ⟨rfl, rfl⟩) | (go_at_call 11; refine (WriteByte_any _ _ _ _ _ HB (by rw [Lib.byteCells_length]; omega) (by omega)).mono ?_; rintro e w1 ⟨rfl, HB1, hb1⟩))
              go_roundw
              case rel => exact ⟨k + 1 + 1, acc ++ [(escB (s[k + 1].toNat : Int)).toNat.toUInt8], by omega, by omega, by go_num, by simp; omega, by have e := unhide HT; rw [show k - a + 2 = k + 1 + 1 - a from by omega] at e; exact e, by rw [cells_esc]; exact HB1, hb.trans hb1⟩
              case measure => simp [intOf]; omega
            · have hes : escOk (s[k + 1].toNat : Int) = false := (Bool.not_eq_true _).mp hes
              have HC : Hid (cutText (s.data.toList.drop a) = .inl (k - a + 1, 12)) := by
                have e := unhide HK
                rw [hd, hs92, hd1] at e
                exact cutText_no (by rw [tail_drop]; exact e.trans (textF_noesc _ _ _ _ hes))
              clear h34 h92 hd hd1 hs92 hn34 HK
              go_wp2_with (first | (go_at_call 546; refine (plain_w _ _).mono ?_; rintro e w' ⟨rfl, rfl⟩) | (go_at_call 588; refine (escaped_w _ _).mono ?_; rintro e w' ⟨rfl, rfl⟩) | (go_at_call 376; refine (refuse_any _ _ _).mono ?_; rintro e w' ⟨rfl, rfl⟩))
              exact bodyPost_ret (v := .tuple #[.agg #[.int .i64 0, .int .i64 0, .string ⟨#[]⟩, .int .i64 0], .int .i64 0, .pointer (some ⟨wr.heap.size, 0, none⟩)]) (by simp [results, Tryz.results536, go_sem, hc0, hc1, hc2, hc3, hlt2]) rfl (says_no (unhide HC) ((below4 hbw (Nat.le_refl _) _ _ _ _).alloc (by rw [size4]; omega) _) (by omega) ((heap_last4 _ _ _ _ _ _ _).trans (by rw [show a + (k - a + 1) = k + 1 from by omega]; rfl)))
          · have hne : ((k : Int) + 1 == (s.size : Int)) = true := by simp; omega
            have HC : Hid (cutText (s.data.toList.drop a) = .inl (k - a + 1, 12)) := by
              have e := unhide HK
              rw [hd, hs92, List.drop_of_length_le (i := k + 1) (by simp; omega)] at e
              exact cutText_no (by rw [tail_drop]; exact e.trans (textF_end _ _))
            clear h34 h92 hd hs92 hn34 HK
            go_wp2_with (first | (go_at_call 546; refine (plain_w _ _).mono ?_; rintro e w' ⟨rfl, rfl⟩) | (go_at_call 376; refine (refuse_any _ _ _).mono ?_; rintro e w' ⟨rfl, rfl⟩))
            exact bodyPost_ret (v := .tuple #[.agg #[.int .i64 0, .int .i64 0, .string ⟨#[]⟩, .int .i64 0], .int .i64 0, .pointer (some ⟨wr.heap.size, 0, none⟩)]) (by simp [results, Tryz.results536, go_sem, hc0, hc1, hc2, hc3, hlt2]) rfl (says_no (unhide HC) ((below4 hbw (Nat.le_refl _) _ _ _ _).alloc (by rw [size4]; omega) _) (by omega) ((heap_last4 _ _ _ _ _ _ _).trans (by rw [show a + (k - a + 1) = k + 1 from by omega]; rfl)))
        · have hx : ((s[k].toNat : Int) == 92) = false := by simpa using h92
          have hn92 : s[k] ≠ 92 := fun h => h92 (by rw [h]; rfl)
          by_cases hp : plainB (s[k].toNat : Int) = true
          · have HT : Hid (textF (s.data.toList.drop (a + 1)) 1 [] = textF (s.data.toList.drop (k + 1)) (k - a + 1) (acc ++ [s[k]])) := by
              have e := unhide HK
              rw [hd] at e
              exact e.trans (textF_plain _ _ _ _ hn34 hn92 hp)
            clear h34 h92 hd hn34 hn92 HK
            go_wp2_with (first | (go_at_call 546; refine (plain_w _ _).mono ?_; rintro e w' ⟨rfl, rfl⟩) | (go_at_call 11; refine (WriteByte_any _ _ _ _ _ HB (by rw [Lib.byteCells_length]; omega) (by omega)).mono ?_; rintro e w1 ⟨rfl, HB1, hb1⟩))
            go_roundw
            case rel => exact ⟨k + 1, acc ++ [s[k]], by omega, by omega, by go_num, by simp; omega, by have e := unhide HT; rw [show k - a + 1 = k + 1 - a from by omega] at e; exact e, by rw [cells_snoc]; exact HB1, hb.trans hb1⟩
            case measure => simp [intOf]; omega
          · have hp : plainB (s[k].toNat : Int) = false := (Bool.not_eq_true _).mp hp
            have HC : Hid (cutText (s.data.toList.drop a) = .inl (k - a, 12)) := by
              have e := unhide HK
              rw [hd] at e
              exact cutText_no (by rw [tail_drop]; exact e.trans (textF_noplain _ _ _ _ hn34 hn92 hp))
            clear h34 h92 hd hn34 hn92 HK
            go_wp2_with (first | (go_at_call 546; refine (plain_w _ _).mono ?_; rintro e w' ⟨rfl, rfl⟩) | (go_at_call 376; refine (refuse_any _ _ _).mono ?_; rintro e w' ⟨rfl, rfl⟩))
            exact bodyPost_ret (v := .tuple #[.agg #[.int .i64 0, .int .i64 0, .string ⟨#[]⟩, .int .i64 0], .int .i64 0, .pointer (some ⟨wr.heap.size, 0, none⟩)]) (by simp [results, Tryz.results536, go_sem, hc0, hc1, hc2, hc3, hlt2]) rfl (says_no (unhide HC) ((below4 hbw (Nat.le_refl _) _ _ _ _).alloc (by rw [size4]; omega) _) (by omega) ((heap_last4 _ _ _ _ _ _ _).trans (by rw [show a + (k - a) = k from by omega]; rfl)))
    · have HC : Hid (cutText (s.data.toList.drop a) = .inl (k - a, 12)) := by
        have e := unhide HK
        rw [List.drop_of_length_le (i := k) (by simp; omega), textF_nil] at e
        exact cutText_no (by rw [tail_drop]; exact e)
      have heq : ((k : Int) == (s.size : Int)) = true := by simp; omega
      clear HK
      go_wp2_with (first | (go_at_call 376; refine (refuse_any _ _ _).mono ?_; rintro e w' ⟨rfl, rfl⟩))
      exact bodyPost_ret (v := .tuple #[.agg #[.int .i64 0, .int .i64 0, .string ⟨#[]⟩, .int .i64 0], .int .i64 0, .pointer (some ⟨wr.heap.size, 0, none⟩)]) (by simp [results, Tryz.results536, go_sem, hc0, hc1, hc2, hc3, hlt2]) rfl (says_no (unhide HC) ((below4 hbw (Nat.le_refl _) _ _ _ _).alloc (by rw [size4]; omega) _) (by omega) ((heap_last4 _ _ _ _ _ _ _).trans (by rw [show a + (k - a) = k from by omega]; rfl)))
end Go.Proofs.YtcofioeikpiabaaGreatDoor
