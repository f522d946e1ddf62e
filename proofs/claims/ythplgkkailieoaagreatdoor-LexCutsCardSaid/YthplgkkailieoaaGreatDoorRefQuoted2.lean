/-
  coilref1.quoted, walked: a token that is a text.
-/
import Derived.Test.YthplgkkailieoaaGreatDoorRefQuoted
import Derived.Test.YthplgkkailieoaaGreatDoorTexts
import Derived.Deep.Cut
namespace Go.Proofs.YthplgkkailieoaaGreatDoor
open Go Go.RowKit Lx

abbrev cut0 : Obj := .cells #[.int .i64 0, .int .i64 0, .string ⟨#[]⟩, .int .i64 0, .int .i64 0, .int .i64 0, .int .i64 0] 62
theorem rcut_no {a o : Nat} {l : Bs} (h : textF l.tail 1 [] = .inl o) : RCut a (cutText l) = rbad 12 ((a + o : Nat) : Int) := by rw [cutText, h]; rfl
theorem rcut_yes {a n : Nat} {t l : Bs} (h : textF l.tail 1 [] = .inr (t, n)) : RCut a (cutText l) = rcut (a : Int) 5 ⟨t.toArray⟩ 0 ((a + n : Nat) : Int) := by rw [cutText, h]; rfl
set_option maxHeartbeats 4000000 in
set_option maxRecDepth 100000 in
theorem rquoted_any (s : ByteArray) (a : Nat) (w : World) (h0 : a < s.size) (hs : s.size ≤ 140737488355328) (R : Value) (hR : RCut a (cutText (s.data.toList.drop a)) = R) :
    Calls Tryz.prog 49 #[.string s, .int .i64 a] w fun e w' => e = .returned R ∧ Below w.heap.size w w' := by
  have HR := hide hR
  clear hR
  obtain ⟨i0, hi, hz0, hz1, hz2⟩ := info_parts rinfo_u8
  go_enter Tryz.func49, Tryz.ntmps49
  go_wp2_with (at_make; refine wpList_make_own _ rfl _ _ 83 rfl (w.heap.size + 1) 5 i0 (.int .u8 0) 1 Tryz.underlying83 hi hz0 hz1 .i64 .i64 _ 0 rfl rfl rfl (by rw [hz2]; omega) (by unfold maxLen; omega) (by simp) ?_; intro w0 hown0 hgrow0)
  have hb0 : Below (w.heap.size + 1) (w.alloc cut0) w0 := (Below.refl _ _).grown hgrow0 (by simp) (by simp)
  clear hgrow0
  go_loopw [5, 6] (fun v i wr => ∃ (k : Nat) (acc : Bs), a + 1 ≤ k ∧ k ≤ s.size ∧ i = .int .i64 k ∧ acc.length ≤ k ∧ Hid (textF (s.data.toList.drop (a + 1)) 1 [] = textF (s.data.toList.drop k) (k - a) acc) ∧
      wr.ownsRow (w.heap.size + 1) 5 1 v acc.length (Lib.byteCells acc) ∧ Below (w.heap.size + 1) (w.alloc cut0) wr) (fun _ i _ => s.size - (intOf i).toNat)
  case atStart =>
    exact ⟨a + 1, [], by omega, by omega, by go_num, by simp, by show _ = _; congr 1; omega, by simpa [Lib.byteCells] using hown0, hb0⟩
  case round =>
    clear hown0 hb0
    obtain ⟨k, acc, hk1, hk2, rfl, hal, HK, hown, hb⟩ := hrel
    have hsz := hb.size
    simp only [World.size_alloc] at hsz
    have hlt2 : w.heap.size < wr.heap.size := by omega
    have hcx : ∀ o, wr.cell? ⟨w.heap.size, o, none⟩ = (w.alloc cut0).cell? ⟨w.heap.size, o, none⟩ := fun o =>
      hb.cell (p := ⟨w.heap.size, o, none⟩) (Nat.lt_succ_self _)
    have hc0 : wr.cell? ⟨w.heap.size, 0, none⟩ = some (.int .i64 0) := (hcx 0).trans (by simp)
    have hc1 : wr.cell? ⟨w.heap.size, 1, none⟩ = some (.int .i64 0) := (hcx 1).trans (by simp)
    have hc2 : wr.cell? ⟨w.heap.size, 2, none⟩ = some (.string ⟨#[]⟩) := (hcx 2).trans (by simp)
    have hc3 : wr.cell? ⟨w.heap.size, 3, none⟩ = some (.int .i64 0) := (hcx 3).trans (by simp)
    have hc4 : wr.cell? ⟨w.heap.size, 4, none⟩ = some (.int .i64 0) := (hcx 4).trans (by simp)
    have hc5 : wr.cell? ⟨w.heap.size, 5, none⟩ = some (.int .i64 0) := (hcx 5).trans (by simp)
    have hc6 : wr.cell? ⟨w.heap.size, 6, none⟩ = some (.int .i64 0) := (hcx 6).trans (by simp)
    have hf : ∀ o, wr.frozen? ⟨w.heap.size, o, none⟩ = false := fun o =>
      (hb.frozen (p := ⟨w.heap.size, o, none⟩) (Nat.lt_succ_self _)).trans (by simp)
    clear hcx
    have hbw : Below w.heap.size w wr := ((Below.refl _ _).alloc (Nat.le_refl _) _).trans (hb.mono (by omega))
    by_cases hlt : k < s.size
    · have hd := drop_cons s k hlt
      by_cases h34 : (s[k].toNat : Int) = 34
      · have HC : Hid (rcut (a : Int) 5 ⟨acc.toArray⟩ 0 ((k : Int) + 1) = R) := by
          have e := unhide HK
          rw [hd, byte_is (by decide) h34] at e
          have := rcut_yes (a := a) (l := s.data.toList.drop a) (by rw [tail_drop]; exact e.trans (textF_quote _ _ _))
          show _ = _
          rw [← unhide HR, this]
          congr 1
          omega
        have hq : ((s[k].toNat : Int) != 34) = false := by simp [h34]
        have heq : ((k : Int) == (s.size : Int)) = false := by simp; omega
        have kc := owns_bytes_back hown
        clear h34 hd HK HR hown hi hz0 hz1 hz2
        go_upto_region 24 with fail
        have hx : ∀ o, (wr.alloc (.cells #[.int .i64 a, .int .i64 5, .string ⟨acc.toArray⟩, .int .i64 0] 40)).cell? ⟨w.heap.size, o, none⟩ = wr.cell? ⟨w.heap.size, o, none⟩ := fun o => World.cell?_alloc_lt _ _ _ hlt2
        have hy : ∀ o, (wr.alloc (.cells #[.int .i64 a, .int .i64 5, .string ⟨acc.toArray⟩, .int .i64 0] 40)).cell? ⟨wr.heap.size, o, none⟩ = #[Value.int .i64 a, .int .i64 5, .string ⟨acc.toArray⟩, .int .i64 0][o]? := fun o => by rw [World.cell?_alloc_at _ _ _ _ (by rfl)]
        have g0 := (hx 0).trans hc0
        have g1 := (hx 1).trans hc1
        have g2 := (hx 2).trans hc2
        have g3 := (hx 3).trans hc3
        have g4 := (hx 4).trans hc4
        have g5 := (hx 5).trans hc5
        have g6 := (hx 6).trans hc6
        have y0 := hy 0
        have y1 := hy 1
        have y2 := hy 2
        have y3 := hy 3
        have gf : ∀ o, (wr.alloc (.cells #[.int .i64 a, .int .i64 5, .string ⟨acc.toArray⟩, .int .i64 0] 40)).frozen? ⟨w.heap.size, o, none⟩ = false := fun o => (((Below.refl wr.heap.size wr).alloc (Nat.le_refl _) _).frozen (p := ⟨w.heap.size, o, none⟩) hlt2).trans (hf o)
        have hB2 : Below w.heap.size w (wr.alloc (.cells #[.int .i64 a, .int .i64 5, .string ⟨acc.toArray⟩, .int .i64 0] 40)) := hbw.alloc (by omega) _
        clear hx hy hc0 hc1 hc2 hc3 hc4 hc5 hc6 hf hbw hb kc
        revert g0 g1 g2 g3 g4 g5 g6 y0 y1 y2 y3 gf hB2
        generalize wr.alloc (.cells #[.int .i64 a, .int .i64 5, .string ⟨acc.toArray⟩, .int .i64 0] 40) = W2
        clear hsz hlt2
        generalize wr.heap.size = B
        generalize hA : (⟨acc.toArray⟩ : ByteArray) = A
        intro g0 g1 g2 g3 g4 g5 g6 y0 y1 y2 y3 gf hB2
        simp at y0 y1 y2 y3
        go_wp2
        exact bodyPost_ret (v := rcut (a : Int) 5 A 0 ((k : Int) + 1)) (by simp [results, Tryz.results49, go_sem, g0, g1, g2, g3, g4, g5, g6, rcut]) rfl ⟨ret_val (by rw [← hA]; exact unhide HC), below7 hB2 (Nat.le_refl _) _ _ _ _ _ _ _⟩
      · have hq : ((s[k].toNat : Int) != 34) = true := by simpa using h34
        have hn34 : s[k] ≠ 34 := fun h => h34 (by rw [h]; rfl)
        have hlt' : (k : Int) < (s.size : Int) := by omega
        by_cases h92 : (s[k].toNat : Int) = 92
        · have hx : ((s[k].toNat : Int) != 92) = false := by simp [h92]
          have hpl : rplainB (s[k].toNat : Int) = false := by simp [rplainB, h92]
          have hs92 : s[k] = 92 := byte_is (n := 92) (by decide) h92
          by_cases hlt1 : k + 1 < s.size
          · have hne : ((k : Int) + 1 == (s.size : Int)) = false := by simp; omega
            have hd1 := drop_cons s (k + 1) hlt1
            have hkk : (k : Int) + 1 < (s.size : Int) := by omega
            by_cases hes : escOk (s[k + 1].toNat : Int) = true
            · have HT0 : textF (s.data.toList.drop (a + 1)) 1 [] = textF (s.data.toList.drop (k + 1 + 1)) (k + 1 + 1 - a) (acc ++ [(escB (s[k + 1].toNat : Int)).toNat.toUInt8]) := by
                have e := unhide HK
                rw [hd, hs92, hd1] at e
                rw [show k + 1 + 1 - a = k - a + 2 from by omega]
                exact e.trans (textF_esc _ _ _ _ hes)
              by_cases e110 : (s[k + 1].toNat : Int) = 110
              · have q1 : ((s[k + 1].toNat : Int) == 110) = true := by simp [e110]
                have HT : Hid (textF (s.data.toList.drop (a + 1)) 1 [] = textF (s.data.toList.drop (k + 1 + 1)) (k + 1 + 1 - a) (acc ++ [10])) := by
                  show _ = _
                  rw [HT0, e110]; rfl
                clear h34 h92 hd hd1 hs92 hn34 HK HR HT0 e110 hes
                go_wp2_with (first | (go_at_call 72; refine (rplain_any _ _).mono ?_; rintro e w' ⟨rfl, rfl⟩; rw [hpl]) | (at_builtin; refine wpList_append_own _ rfl _ _ 83 rfl (w.heap.size + 1) 5 i0 (.int .u8 0) 1 1 Tryz.underlying83 hi hz0 hz1 hz2 rfl (by decide) _ acc.length (Lib.byteCells acc) rfl ?ownA ⟨_, 0, none⟩ 1 1 [.int .u8 10] rfl rfl ?newsA ?oneA ?c3A ?c4A ?c5A ?_))
                case ownA => exact hown.alloc _
                case newsA =>
                  intro j u hj
                  match j, hj with
                  | 0, hj => simp at hj; subst hj; simp [Addr.add]
                  | j + 1, hj => simp at hj
                case oneA => intro u hu; simp at hu; subst hu; rfl
                case c3A => unfold maxLen; omega
                case c4A => omega
                case c5A => simp; omega
                intro v' w1 hown' hgrow _
                have hb' : Below (w.heap.size + 1) (w.alloc cut0) w1 := (hb.alloc (by omega) _).grown hgrow (by simp; omega) (fun q e => (hown.lt q e).1)
                have hl' : (acc ++ [(10 : UInt8)]).length = acc.length + 1 := by simp
                have hown2 : w1.ownsRow (w.heap.size + 1) 5 1 v' (acc ++ [(10 : UInt8)]).length (Lib.byteCells (acc ++ [(10 : UInt8)])) := by rw [cells_snoc, hl']; exact hown'
                clear hgrow hown'
                go_wp2
                go_roundw
                case rel => exact ⟨k + 1 + 1, acc ++ [(10 : UInt8)], by omega, by omega, by go_num, by omega, HT, hown2, hb'⟩
                case measure => simp [intOf]; omega
              · have q1 : ((s[k + 1].toNat : Int) == 110) = false := by simpa using e110
                have hor : (s[k + 1].toNat : Int) = 34 ∨ (s[k + 1].toNat : Int) = 92 := by
                  simp only [escOk, Bool.or_eq_true, beq_iff_eq] at hes; omega
                have HT : Hid (textF (s.data.toList.drop (a + 1)) 1 [] = textF (s.data.toList.drop (k + 1 + 1)) (k + 1 + 1 - a) (acc ++ [s[k + 1]])) := by
                  show _ = _
                  rw [HT0]
                  have : (escB (s[k + 1].toNat : Int)).toNat.toUInt8 = s[k + 1] := by
                    rcases hor with h | h
                    · rw [h, byte_is (n := 34) (by decide) h]; rfl
                    · rw [h, byte_is (n := 92) (by decide) h]; rfl
                  rw [this]
                have q23 : ((s[k + 1].toNat : Int) == 34) = true ∨ (((s[k + 1].toNat : Int) == 34) = false ∧ ((s[k + 1].toNat : Int) == 92) = true) := by
                  rcases hor with h | h
                  · left; simp [h]
                  · right; constructor <;> simp [h]
                clear h34 h92 hd hd1 hs92 hn34 HK HR HT0 e110 hes hor
                rcases q23 with q2 | ⟨q2, q3⟩
                · skip
                  go_wp2_with (first | (go_at_call 72; refine (rplain_any _ _).mono ?_; rintro e w' ⟨rfl, rfl⟩; rw [hpl]) | (at_builtin; refine wpList_append_own _ rfl _ _ 83 rfl (w.heap.size + 1) 5 i0 (.int .u8 0) 1 1 Tryz.underlying83 hi hz0 hz1 hz2 rfl (by decide) _ acc.length (Lib.byteCells acc) rfl ?ownB ⟨_, 0, none⟩ 1 1 [.int .u8 (s[k + 1].toNat : Int)] rfl rfl ?newsB ?oneB ?c3B ?c4B ?c5B ?_))
                  case ownB => exact hown.alloc _
                  case newsB =>
                    intro j u hj
                    match j, hj with
                    | 0, hj => simp at hj; subst hj; simp [Addr.add]
                    | j + 1, hj => simp at hj
                  case oneB => intro u hu; simp at hu; subst hu; rfl
                  case c3B => unfold maxLen; omega
                  case c4B => omega
                  case c5B => simp; omega
                  intro v' w1 hown' hgrow _
                  have hb' : Below (w.heap.size + 1) (w.alloc cut0) w1 := (hb.alloc (by omega) _).grown hgrow (by simp; omega) (fun q e => (hown.lt q e).1)
                  have hl' : (acc ++ [s[k + 1]]).length = acc.length + 1 := by simp
                  have hown2 : w1.ownsRow (w.heap.size + 1) 5 1 v' (acc ++ [s[k + 1]]).length (Lib.byteCells (acc ++ [s[k + 1]])) := by rw [cells_snoc, hl']; exact hown'
                  clear hgrow hown'
                  go_wp2
                  go_roundw
                  case rel => exact ⟨k + 1 + 1, acc ++ [s[k + 1]], by omega, by omega, by go_num, by omega, HT, hown2, hb'⟩
                  case measure => simp [intOf]; omega
                · skip
                  go_wp2_with (first | (go_at_call 72; refine (rplain_any _ _).mono ?_; rintro e w' ⟨rfl, rfl⟩; rw [hpl]) | (at_builtin; refine wpList_append_own _ rfl _ _ 83 rfl (w.heap.size + 1) 5 i0 (.int .u8 0) 1 1 Tryz.underlying83 hi hz0 hz1 hz2 rfl (by decide) _ acc.length (Lib.byteCells acc) rfl ?ownC ⟨_, 0, none⟩ 1 1 [.int .u8 (s[k + 1].toNat : Int)] rfl rfl ?newsC ?oneC ?c3C ?c4C ?c5C ?_))
                  case ownC => exact hown.alloc _
                  case newsC =>
                    intro j u hj
                    match j, hj with
                    | 0, hj => simp at hj; subst hj; simp [Addr.add]
                    | j + 1, hj => simp at hj
                  case oneC => intro u hu; simp at hu; subst hu; rfl
                  case c3C => unfold maxLen; omega
                  case c4C => omega
                  case c5C => simp; omega
                  intro v' w1 hown' hgrow _
                  have hb' : Below (w.heap.size + 1) (w.alloc cut0) w1 := (hb.alloc (by omega) _).grown hgrow (by simp; omega) (fun q e => (hown.lt q e).1)
                  have hl' : (acc ++ [s[k + 1]]).length = acc.length + 1 := by simp
                  have hown2 : w1.ownsRow (w.heap.size + 1) 5 1 v' (acc ++ [s[k + 1]]).length (Lib.byteCells (acc ++ [s[k + 1]])) := by rw [cells_snoc, hl']; exact hown'
                  clear hgrow hown'
                  go_wp2
                  go_roundw
                  case rel => exact ⟨k + 1 + 1, acc ++ [s[k + 1]], by omega, by omega, by go_num, by omega, HT, hown2, hb'⟩
                  case measure => simp [intOf]; omega
            · have hes : escOk (s[k + 1].toNat : Int) = false := (Bool.not_eq_true _).mp hes
              have HW : Hid (rbad 12 ((k : Int) + 1) = R) := by
                have e := unhide HK
                rw [hd, hs92, hd1] at e
                have := rcut_no (a := a) (l := s.data.toList.drop a) (by rw [tail_drop]; exact e.trans (textF_noesc _ _ _ _ hes))
                show _ = _
                rw [← unhide HR, this]
                congr 1
                omega
              have q123 : ((s[k + 1].toNat : Int) == 110) = false ∧ ((s[k + 1].toNat : Int) == 34) = false ∧ ((s[k + 1].toNat : Int) == 92) = false := by
                simp only [escOk, Bool.or_eq_false_iff] at hes
                exact ⟨hes.1.1, hes.1.2, hes.2⟩
              obtain ⟨q1, q2, q3⟩ := q123
              clear h34 h92 hd hd1 hs92 hn34 HK HR hes hown hi hz0 hz1 hz2
              go_wp2_with (first | (go_at_call 72; refine (rplain_any _ _).mono ?_; rintro e w' ⟨rfl, rfl⟩; rw [hpl]) | (go_at_call 50; refine (wrong_any _ _ _).mono ?_; rintro e w1 ⟨rfl, hb1⟩; have d0 := (hb1.cell (p := ⟨w.heap.size, 0, none⟩) hlt2).trans hc0; have d1 := (hb1.cell (p := ⟨w.heap.size, 1, none⟩) hlt2).trans hc1; have d2 := (hb1.cell (p := ⟨w.heap.size, 2, none⟩) hlt2).trans hc2; have d3 := (hb1.cell (p := ⟨w.heap.size, 3, none⟩) hlt2).trans hc3; have d4 := (hb1.cell (p := ⟨w.heap.size, 4, none⟩) hlt2).trans hc4; have d5 := (hb1.cell (p := ⟨w.heap.size, 5, none⟩) hlt2).trans hc5; have d6 := (hb1.cell (p := ⟨w.heap.size, 6, none⟩) hlt2).trans hc6; have df : ∀ o, w1.frozen? ⟨w.heap.size, o, none⟩ = false := fun o => (hb1.frozen (p := ⟨w.heap.size, o, none⟩) hlt2).trans (hf o); dsimp only [rbad]))
              exact bodyPost_ret (v := rbad 12 ((k : Int) + 1)) (by simp [results, Tryz.results49, go_sem, d0, d1, d2, d3, d4, d5, d6, rbad]) rfl ⟨ret_val (unhide HW), below7 (hbw.trans (hb1.mono (by omega))) (Nat.le_refl _) _ _ _ _ _ _ _⟩
          · have hne : ((k : Int) + 1 == (s.size : Int)) = true := by simp; omega
            have HW : Hid (rbad 12 ((k : Int) + 1) = R) := by
              have e := unhide HK
              rw [hd, hs92, List.drop_of_length_le (i := k + 1) (by simp; omega)] at e
              have := rcut_no (a := a) (l := s.data.toList.drop a) (by rw [tail_drop]; exact e.trans (textF_end _ _))
              show _ = _
              rw [← unhide HR, this]
              congr 1
              omega
            clear h34 h92 hd hs92 hn34 HK HR hown hi hz0 hz1 hz2
            go_wp2_with (first | (go_at_call 72; refine (rplain_any _ _).mono ?_; rintro e w' ⟨rfl, rfl⟩; rw [hpl]) | (go_at_call 50; refine (wrong_any _ _ _).mono ?_; rintro e w1 ⟨rfl, hb1⟩; have d0 := (hb1.cell (p := ⟨w.heap.size, 0, none⟩) hlt2).trans hc0; have d1 := (hb1.cell (p := ⟨w.heap.size, 1, none⟩) hlt2).trans hc1; have d2 := (hb1.cell (p := ⟨w.heap.size, 2, none⟩) hlt2).trans hc2; have d3 := (hb1.cell (p := ⟨w.heap.size, 3, none⟩) hlt2).trans hc3; have d4 := (hb1.cell (p := ⟨w.heap.size, 4, none⟩) hlt2).trans hc4; have d5 := (hb1.cell (p := ⟨w.heap.size, 5, none⟩) hlt2).trans hc5; have d6 := (hb1.cell (p := ⟨w.heap.size, 6, none⟩) hlt2).trans hc6; have df : ∀ o, w1.frozen? ⟨w.heap.size, o, none⟩ = false := fun o => (hb1.frozen (p := ⟨w.heap.size, o, none⟩) hlt2).trans (hf o); dsimp only [rbad]))
            exact bodyPost_ret (v := rbad 12 ((k : Int) + 1)) (by simp [results, Tryz.results49, go_sem, d0, d1, d2, d3, d4, d5, d6, rbad]) rfl ⟨ret_val (unhide HW), below7 (hbw.trans (hb1.mono (by omega))) (Nat.le_refl _) _ _ _ _ _ _ _⟩
        · have hx : ((s[k].toNat : Int) != 92) = true := by simpa using h92
          have hn92 : s[k] ≠ 92 := fun h => h92 (by rw [h]; rfl)
          by_cases hp : plainB (s[k].toNat : Int) = true
          · have hpl : rplainB (s[k].toNat : Int) = true := by rw [rplainB, hp, hq, hx]; rfl
            have HT : Hid (textF (s.data.toList.drop (a + 1)) 1 [] = textF (s.data.toList.drop (k + 1)) (k + 1 - a) (acc ++ [s[k]])) := by
              have e := unhide HK
              rw [hd] at e
              show _ = _
              rw [show k + 1 - a = k - a + 1 from by omega]
              exact e.trans (textF_plain _ _ _ _ hn34 hn92 hp)
            clear h34 h92 hd hn34 hn92 HK HR hp
            go_wp2_with (first | (go_at_call 72; refine (rplain_any _ _).mono ?_; rintro e w' ⟨rfl, rfl⟩; rw [hpl]) | (at_builtin; refine wpList_append_own _ rfl _ _ 83 rfl (w.heap.size + 1) 5 i0 (.int .u8 0) 1 1 Tryz.underlying83 hi hz0 hz1 hz2 rfl (by decide) _ acc.length (Lib.byteCells acc) rfl ?ownD ⟨_, 0, none⟩ 1 1 [.int .u8 (s[k].toNat : Int)] rfl rfl ?newsD ?oneD ?c3D ?c4D ?c5D ?_))
            case ownD => exact hown.alloc _
            case newsD =>
              intro j u hj
              match j, hj with
              | 0, hj => simp at hj; subst hj; simp [Addr.add]
              | j + 1, hj => simp at hj
            case oneD => intro u hu; simp at hu; subst hu; rfl
            case c3D => unfold maxLen; omega
            case c4D => omega
            case c5D => simp; omega
            intro v' w1 hown' hgrow _
            have hb' : Below (w.heap.size + 1) (w.alloc cut0) w1 := (hb.alloc (by omega) _).grown hgrow (by simp; omega) (fun q e => (hown.lt q e).1)
            have hl' : (acc ++ [s[k]]).length = acc.length + 1 := by simp
            have hown2 : w1.ownsRow (w.heap.size + 1) 5 1 v' (acc ++ [s[k]]).length (Lib.byteCells (acc ++ [s[k]])) := by rw [cells_snoc, hl']; exact hown'
            clear hgrow hown'
            go_wp2
            go_roundw
            case rel => exact ⟨k + 1, acc ++ [s[k]], by omega, by omega, by go_num, by omega, HT, hown2, hb'⟩
            case measure => simp [intOf]; omega
          · have hp : plainB (s[k].toNat : Int) = false := (Bool.not_eq_true _).mp hp
            have hpl : rplainB (s[k].toNat : Int) = false := by rw [rplainB, hp]; rfl
            have HW : Hid (rbad 12 (k : Int) = R) := by
              have e := unhide HK
              rw [hd] at e
              have := rcut_no (a := a) (l := s.data.toList.drop a) (by rw [tail_drop]; exact e.trans (textF_noplain _ _ _ _ hn34 hn92 hp))
              show _ = _
              rw [← unhide HR, this]
              congr 1
              omega
            clear h34 h92 hd hn34 hn92 HK HR hp hown hi hz0 hz1 hz2
            go_wp2_with (first | (go_at_call 72; refine (rplain_any _ _).mono ?_; rintro e w' ⟨rfl, rfl⟩; rw [hpl]) | (go_at_call 50; refine (wrong_any _ _ _).mono ?_; rintro e w1 ⟨rfl, hb1⟩; have d0 := (hb1.cell (p := ⟨w.heap.size, 0, none⟩) hlt2).trans hc0; have d1 := (hb1.cell (p := ⟨w.heap.size, 1, none⟩) hlt2).trans hc1; have d2 := (hb1.cell (p := ⟨w.heap.size, 2, none⟩) hlt2).trans hc2; have d3 := (hb1.cell (p := ⟨w.heap.size, 3, none⟩) hlt2).trans hc3; have d4 := (hb1.cell (p := ⟨w.heap.size, 4, none⟩) hlt2).trans hc4; have d5 := (hb1.cell (p := ⟨w.heap.size, 5, none⟩) hlt2).trans hc5; have d6 := (hb1.cell (p := ⟨w.heap.size, 6, none⟩) hlt2).trans hc6; have df : ∀ o, w1.frozen? ⟨w.heap.size, o, none⟩ = false := fun o => (hb1.frozen (p := ⟨w.heap.size, o, none⟩) hlt2).trans (hf o); dsimp only [rbad]))
            exact bodyPost_ret (v := rbad 12 ((k : Int))) (by simp [results, Tryz.results49, go_sem, d0, d1, d2, d3, d4, d5, d6, rbad]) rfl ⟨ret_val (unhide HW), below7 (hbw.trans (hb1.mono (by omega))) (Nat.le_refl _) _ _ _ _ _ _ _⟩
    · have HW : Hid (rbad 12 (k : Int) = R) := by
        have e := unhide HK
        rw [List.drop_of_length_le (i := k) (by simp; omega), textF_nil] at e
        have := rcut_no (a := a) (l := s.data.toList.drop a) (by rw [tail_drop]; exact e)
        show _ = _
        rw [← unhide HR, this]
        congr 1
        omega
      have heq : ((k : Int) == (s.size : Int)) = true := by simp; omega
      clear HK HR hown hi hz0 hz1 hz2
      go_wp2_with (first | (go_at_call 50; refine (wrong_any _ _ _).mono ?_; rintro e w1 ⟨rfl, hb1⟩; have d0 := (hb1.cell (p := ⟨w.heap.size, 0, none⟩) hlt2).trans hc0; have d1 := (hb1.cell (p := ⟨w.heap.size, 1, none⟩) hlt2).trans hc1; have d2 := (hb1.cell (p := ⟨w.heap.size, 2, none⟩) hlt2).trans hc2; have d3 := (hb1.cell (p := ⟨w.heap.size, 3, none⟩) hlt2).trans hc3; have d4 := (hb1.cell (p := ⟨w.heap.size, 4, none⟩) hlt2).trans hc4; have d5 := (hb1.cell (p := ⟨w.heap.size, 5, none⟩) hlt2).trans hc5; have d6 := (hb1.cell (p := ⟨w.heap.size, 6, none⟩) hlt2).trans hc6; have df : ∀ o, w1.frozen? ⟨w.heap.size, o, none⟩ = false := fun o => (hb1.frozen (p := ⟨w.heap.size, o, none⟩) hlt2).trans (hf o); dsimp only [rbad]))
      exact bodyPost_ret (v := rbad 12 ((k : Int))) (by simp [results, Tryz.results49, go_sem, d0, d1, d2, d3, d4, d5, d6, rbad]) rfl ⟨ret_val (unhide HW), below7 (hbw.trans (hb1.mono (by omega))) (Nat.le_refl _) _ _ _ _ _ _ _⟩
end Go.Proofs.YthplgkkailieoaaGreatDoor
