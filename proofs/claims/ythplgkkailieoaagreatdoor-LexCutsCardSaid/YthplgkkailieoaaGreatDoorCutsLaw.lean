/-
  coillaw1.LexCuts, walked: it answers true, whatever text, place and stop it is handed.
-/
import Derived.Test.YthplgkkailieoaaGreatDoorBook4
import Derived.Test.YthplgkkailieoaaGreatDoorHanded
import Derived.Test.YthplgkkailieoaaGreatDoorRefTokens
import Derived.Test.YthplgkkailieoaaGreatDoorLexed
import Derived.Test.YthplgkkailieoaaGreatDoorFew
import Derived.Test.YthplgkkailieoaaGreatDoorWithin
namespace Go.Proofs.YthplgkkailieoaaGreatDoor
open Go Go.RowKit Lx
namespace Lx
theorem text_place : ∀ (f : Nat) (l : Bs) (i : Nat) (acc : Bs) (o : Nat), l.length ≤ f → textF l i acc = .inl o → o ≤ i + l.length
  | _, [], i, acc, o, _, h => by rw [textF_nil] at h; cases h; simp
  | 0, c :: r, _, _, _, hf, _ => by simp at hf
  | f + 1, c :: r, i, acc, o, hf, h => by
    simp only [List.length_cons] at hf ⊢
    by_cases h34 : c = 34
    · subst h34; rw [textF_quote] at h; cases h
    · by_cases h92 : c = 92
      · subst h92
        cases r with
        | nil => rw [textF_end] at h; cases h; simp
        | cons d r' =>
          by_cases he : escOk (d.toNat : Int) = true
          · rw [textF_esc _ _ _ _ he] at h
            have := text_place f r' (i + 2) _ o (by simp at hf; omega) h
            simp; omega
          · rw [textF_noesc _ _ _ _ ((Bool.not_eq_true _).mp he)] at h
            cases h
            simp only [List.length_cons]; omega
      · by_cases hp : plainB (c.toNat : Int) = true
        · rw [textF_plain _ _ _ _ h34 h92 hp] at h
          have := text_place f r (i + 1) _ o (by omega) h
          omega
        · rw [textF_noplain _ _ _ _ h34 h92 ((Bool.not_eq_true _).mp hp)] at h
          cases h
          omega
theorem next_no {l : Bs} {n o y : Nat} (hne : l ≠ []) (h : next l n = .inl (o, y)) : LexNo y ∧ o ≤ l.length := by
  unfold next at h
  split at h
  · cases h; exact ⟨by simp [LexNo], by omega⟩
  · split at h
    · cases h; exact ⟨by simp [LexNo], by omega⟩
    · unfold cut at h
      split at h
      · unfold cutNumber at h
        split at h
        · cases h; exact ⟨by simp [LexNo], by omega⟩
        · split at h
          · cases h; exact ⟨by simp [LexNo], by omega⟩
          · cases h
      · split at h
        · unfold cutText at h
          split at h
          · rename_i o' ho
            cases h
            obtain ⟨c, t, rfl⟩ := List.exists_cons_of_ne_nil hne
            have := text_place _ t 1 [] o (Nat.le_refl _) ho
            exact ⟨by simp [LexNo], by simp; omega⟩
          · cases h
        · split at h
          · unfold cutSign at h
            split at h <;> cases h
          · unfold cutName at h
            split at h
            · rename_i hr
              cases h
              have := runLen_le nameB l.tail
              exact ⟨by simp [LexNo], by rw [List.length_tail] at this; omega⟩
            · cases h
theorem lexF_no : ∀ (f : Nat) (l : Bs) (a n p y : Nat), (lexF f l a n).2 = some (p, y) → LexNo y ∧ p ≤ a + l.length
  | 0, l, a, n, p, y, h => by simp [lexF] at h
  | f + 1, l, a, n, p, y, h => by
    rw [lexF] at h
    split at h
    · cases h
    · rename_i hne
      have hs := skip_le l
      rcases hx : next (l.drop (skip l)) n with ⟨o, z⟩ | ⟨k, s, v, m⟩
      · rw [hx] at h
        simp only [Option.some.injEq, Prod.mk.injEq] at h
        have := next_no hne hx
        rw [List.length_drop] at this
        obtain ⟨h1, rfl⟩ := h
        exact ⟨this.1, by omega⟩
      · rw [hx] at h
        have h2 := next_len hne hx
        have := lexF_no f _ _ _ p y h
        rw [List.length_drop] at this h2
        exact ⟨this.1, by omega⟩
theorem lex_no {l : Bs} {p y : Nat} (h : (lex l).2 = some (p, y)) : LexNo y ∧ p ≤ l.length := by
  rw [lex] at h
  split at h
  · simp only [Option.some.injEq, Prod.mk.injEq] at h
    obtain ⟨rfl, rfl⟩ := h
    exact ⟨by simp [LexNo], by omega⟩
  · have := lexF_no _ _ _ _ _ _ h
    exact ⟨this.1, by omega⟩
theorem lexF_count : ∀ (f : Nat) (l : Bs) (a n : Nat), n ≤ 4096 → (lexF f l a n).1.length + n ≤ 4096
  | 0, l, a, n, h => by simp [lexF]; exact h
  | f + 1, l, a, n, h => by
    rw [lexF]
    split
    · simpa using h
    · rcases hx : next (l.drop (skip l)) n with ⟨o, z⟩ | ⟨k, s, v, m⟩
      · simpa using h
      · have h2 := next_few hx
        have := lexF_count f (l.drop (skip l + m)) (a + skip l + m) (n + 1) (by omega)
        simp only [List.length_cons]
        omega
theorem lex_count (l : Bs) : (lex l).1.length ≤ 4096 := by
  rw [lex]
  split
  · simp
  · exact lexF_count _ _ _ 0 (by omega)
end Lx
theorem BookIs.grow {bk B : Nat} {K : List Kept} {W W' : World} (h : BookIs bk B K W) (hb : Below W.heap.size W W') : BookIs bk B K W' := by
  obtain ⟨⟨lv, wv, hd, h1, h2, h3, h4⟩, h5, h6, h7⟩ := h
  refine ⟨⟨lv, wv, hd, (hb.block bk (Array.getElem?_eq_some_iff.1 h1).1).trans h1, h2.kept (fun k hk => hb.block k (h2.lt k hk).2), h3.kept (fun k hk => hb.block k (h3.lt k hk).2), h4⟩, fun k hk => ?_, h6, h7⟩
  obtain ⟨a, b, c⟩ := h5 k hk
  exact ⟨a.kept (grown_of_below hb) (by cases k.1.ownBlock <;> simp), b.kept (grown_of_below hb) (by cases k.2.1.ownBlock <;> simp), c⟩
theorem BookIs.box' {bk B : Nat} {K : List Kept} {W : World} (h : BookIs bk B K W) : ∃ A, W.heap[bk]? = some (.cells A 27) := by
  obtain ⟨⟨lv, wv, hd, h1, _⟩, _⟩ := h
  exact ⟨_, h1⟩
theorem BookIs.far {bk B : Nat} {K : List Kept} {W W' : World} {v : Value} {n : Nat} {xs : List Value} (h : BookIs bk B K W) (ho : W'.ownsRow W.heap.size 40 4 v n xs) : ∀ k ∈ K, Far k.1 v := by
  intro k hk g h1 h2
  have := (h.rows k hk).1.lt g h1
  have := ho.lt g h2
  omega
set_option maxHeartbeats 4000000 in
set_option maxRecDepth 100000 in
theorem LexCuts_any (s : ByteArray) (at' stop : Int) (w : World) (hs : s.size ≤ 9223372036854775807) (ha : -9223372036854775808 ≤ at' ∧ at' ≤ 9223372036854775807) (hst : -9223372036854775808 ≤ stop ∧ stop ≤ 9223372036854775807) (hg : ErrType w) (ht : Tab w) (h5 : 5 ≤ w.heap.size) :
    Calls Tryz.prog 3 #[.string s, .int .i64 at', .int .i64 stop] w fun e w' => e = .returned (.bool true) ∧ Below w.heap.size w w' := by
  have RN := hide (fun W (hb : Below w.heap.size w W) => Runs_b (w0 := w) W hb hg ht h5)
  have HG := hide hg
  have HT := hide ht
  have h6 := (fewB_size s 6000).1
  have FW := hide (fun W => few_any s 6000 W hs (by omega))
  clear hg ht hs
  revert h6 FW
  generalize fewB s 6000 = S
  intro h6 FW
  have WI := hide (fun W => Within_any at' 0 (S.size : Int) W ha.1 ha.2 (by omega) (by omega) (by omega))
  have WS := hide (fun W => Within_any stop 1 6 W hst.1 hst.2 (by omega) (by omega) (by omega))
  have FR := hide (fun (n : Nat) (hn : n ≤ 1000000) W => few_any S n W (by omega) hn)
  clear ha hst
  go_enter Tryz.func3, Tryz.ntmps3
  go_upto_region 4 with (first | (go_at_call 5; refine (unhide FW _).mono ?_; clear FW; rintro e w' ⟨rfl, rfl⟩) | (go_at_call 6; refine (unhide WI _).mono ?_; clear WI; rintro e w' ⟨⟨r, rfl, hr0, hr1⟩, rfl⟩; obtain ⟨n, rfl⟩ : ∃ n : Nat, r = (n : Int) := ⟨r.toNat, by omega⟩) | (go_at_call 5; refine (unhide FR n (by omega) _).mono ?_; clear FR; rintro e w' ⟨rfl, rfl⟩))
  have hT6 : (fewB S n).size ≤ 6000 := by have := (fewB_size S n).2; omega
  have hb0 : BookIs (w.heap.size + 1) w.heap.size [] ((w.alloc (.cells #[.string S, .string (fewB S n)] 9)).alloc (.cells #[.slice none 0 0, .slice none 0 0, .int .i64 0, .bool false] 27)) := by
    refine ⟨⟨_, _, 0, ?_, .inl ⟨rfl, rfl⟩, .inl ⟨rfl, rfl⟩, fun g h => by simp [Value.ownBlock] at h⟩, fun k hk => by simp at hk, List.Pairwise.nil, by simp⟩
    have := heap_last (w.alloc (.cells #[.string S, .string (fewB S n)] 9)) (.cells #[.slice none 0 0, .slice none 0 0, .int .i64 0, .bool false] 27)
    simpa using this
  have hs0 : ((w.alloc (.cells #[.string S, .string (fewB S n)] 9)).alloc (.cells #[.slice none 0 0, .slice none 0 0, .int .i64 0, .bool false] 27)).heap[w.heap.size]? = some (.cells #[.string S, .string (fewB S n)] 9) := (Below.heap_alloc _ _ _ (by simp)).trans (heap_last w _)
  have hB0 : Below w.heap.size w ((w.alloc (.cells #[.string S, .string (fewB S n)] 9)).alloc (.cells #[.slice none 0 0, .slice none 0 0, .int .i64 0, .bool false] 27)) := below2 _ _ _
  revert hT6 hb0 hs0 hB0
  generalize (w.alloc (.cells #[.string S, .string (fewB S n)] 9)).alloc (.cells #[.slice none 0 0, .slice none 0 0, .int .i64 0, .bool false] 27) = W0
  generalize fewB S n = T
  intro hT6 hb0 hs0 hB0
  go_wp2
  go_loopw [9] (fun i wr => ∃ (k : Nat) (K : List Kept), i = .int .i64 k ∧ k ≤ 2 ∧ K.length ≤ 2 * k ∧ BookIs (w.heap.size + 1) w.heap.size K wr ∧ wr.heap[w.heap.size]? = some (.cells #[.string S, .string T] 9) ∧ Below w.heap.size w wr) (fun i _ => 2 - (intOf i).toNat)
  case atStart => exact ⟨0, [], rfl, by omega, by simp, hb0, hs0, hB0⟩
  case round =>
    clear hb0 hs0 hB0
    obtain ⟨k, K0, rfl, hk, hKl0, hbook0, hstr0, hBr0⟩ := hrel
    have hsr0 := hBr0.size
    by_cases hlt : k < 2
    · have hlt' : (k : Int) < 2 := by omega
      obtain ⟨X, hX6, XC⟩ : ∃ X : ByteArray, X.size ≤ 6000 ∧ Hid (∀ W : World, W.heap[w.heap.size]? = some (.cells #[.string S, .string T] 9) → W.cell? ⟨w.heap.size, k, none⟩ = some (.string X)) := by
        rcases (show k = 0 ∨ k = 1 by omega) with rfl | rfl
        · exact ⟨S, h6, fun W h => by simp [World.cell?, h]⟩
        · exact ⟨T, hT6, fun W h => by simp [World.cell?, h]⟩
      have x00 := unhide XC wr hstr0
      have RT := hide (rTokens_any X (by omega) wr)
      have TK := hide (fun W => Tokens_any X (by omega) W)
      unfold RTokens at RT
      unfold TokensSay at TK
      have hcnt := lex_count X.data.toList
      rcases hr : (lex X.data.toList).2 with _ | ⟨pp, yy⟩
      · simp only [hr, rplace, rwhy] at RT TK
        obtain ⟨TS, hTS⟩ : ∃ TS, TS = (lex X.data.toList).1 := ⟨_, rfl⟩
        rw [← hTS] at RT TK hcnt
        have HTS := hide hTS.symm
        clear hTS hr
        go_wp2_with (go_at_call 7; refine (unhide RT).mono ?_; clear RT; rintro e w2 ⟨hb2, v, rfl, hwant0⟩)
        have hs2 := hb2.size
        have hwant1 := ownsRow_less hwant0 (show w.heap.size ≤ wr.heap.size by omega)
        have hbook1 := hbook0.grow hb2
        have hstr1 : w2.heap[w.heap.size]? = _ := (hb2.block _ (Array.getElem?_eq_some_iff.1 hstr0).1).trans hstr0
        have hBr1 : Below w.heap.size w w2 := hBr0.trans (hb2.mono hBr0.size)
        have HS := hide (And.intro hwant1 (And.intro hbook1 (And.intro hstr1 hBr1)))
        clear hwant0 hwant1 hbook1 hstr1 hBr1 hbook0 hstr0 hBr0 hb2
        go_loopw [13] (fun i wr => ∃ (t : Nat) (K : List Kept), i = .int .i64 t ∧ t ≤ 2 ∧ K.length ≤ 2 * k + t ∧ wr.ownsRow w.heap.size 40 4 v TS.length (allCells TS) ∧ BookIs (w.heap.size + 1) w.heap.size K wr ∧ wr.heap[w.heap.size]? = some (.cells #[.string S, .string T] 9) ∧ Below w.heap.size w wr) (fun i _ => 2 - (intOf i).toNat)
        case atStart => exact ⟨0, K0, rfl, by omega, by omega, (unhide HS).1, (unhide HS).2.1, (unhide HS).2.2.1, (unhide HS).2.2.2⟩
        case round =>
          clear HS
          obtain ⟨t, K, rfl, ht2, hKl, hwant, hbook, hstr, hBr⟩ := hrel
          have hsr := hBr.size
          by_cases hlt2 : t < 2
          · have hlt2' : (t : Int) < 2 := by omega
            have x0 := unhide XC wr hstr
            have HSTR := hide hstr
            clear hstr
            go_wp2_with (first | (go_at_call 8; refine (unhide TK _).mono ?_; clear TK; rintro e w3 ⟨hb3, x, rfl, hx⟩; have hw3 := owns_below hwant hb3; have hbk3 := hbook.grow hb3; have hfar3 := hbook.far hx; have hs3 := hb3.size) | (go_at_call 10; refine (SameTok_any _ _ TS _ (by omega) (TokRow.of_owns hx) (TokRow.of_owns hw3)).mono ?_; rintro e w4 ⟨rfl, hb4⟩; have hs4' := hb4.size; have hw4 := owns_below hw3 hb4; have hbk4 := hbk3.grow hb4; have hx4 := ownsRow_less (owns_below hx hb4) (show w.heap.size ≤ wr.heap.size by omega); clear hx) | (go_at_call 11; refine (Keep_any (w.heap.size + 1) w.heap.size K _ TS _ hbk4 (by omega) hx4 (by omega) (by omega) hfar3).mono ?_; clear hx4; rintro e w5 ⟨rfl, hB5, hS5, K5, hbk5, hlen5, _⟩))
            obtain ⟨A4, hA4⟩ := hbk4.box'
            have hgl := (Array.getElem?_eq_some_iff.1 (unhide HSTR)).1
            have hB4 : Below w.heap.size w w4 := (hBr.trans (hb3.mono hBr.size)).trans (hb4.mono (by omega))
            have hstr5 : w5.heap[w.heap.size]? = some (.cells #[.string S, .string T] 9) := hS5.2 _ _ ((hb4.block _ (by omega)).trans ((hb3.block _ (by omega)).trans (unhide HSTR))) (by omega) (by intro c fz e; injection e with _ h2 _; exact absurd h2 (by decide))
            have hw5 := owns_stay hw4 hS5 hA4
            go_roundw
            case rel => exact ⟨t + 1, K5, by go_num, by omega, by omega, hw5, hbk5, hstr5, hB4.trans hB5⟩
            case measure => simp [intOf]; omega
          · have x0 := unhide XC wr hstr
            have HSTR := hide hstr
            have HBK := hide hbook
            clear hstr hbook
            go_wp2_with (first | (go_at_call 12; refine (All_any _ _).mono ?_; rintro e w6 ⟨rfl, rfl⟩; have hc6 : (wr.alloc (.cells #[.string X] 9)).cell? ⟨wr.heap.size, 0, none⟩ = some (.string X) := (by rw [World.cell?_alloc_at _ _ _ _ (by rfl)]; rfl); have hv6 := TokRow.of_owns (hwant.alloc (.cells #[.string X] 9))) | (go_at_call 13; refine (handed_any X (by omega) _ v _ _ hc6 (by rw [unhide HTS]; exact hv6)).mono ?_; rintro e w7 ⟨rfl, hb7⟩; have hc7 := (hb7.cell (p := ⟨wr.heap.size, 0, none⟩) (by simp)).trans hc6; have hv7 := hv6.below hb7; clear hc6 hv6) | (go_at_call 6; refine (unhide WS _).mono ?_; rintro e w' ⟨⟨r, rfl, hq0, hq1⟩, rfl⟩) | (go_at_call 13; refine (handed_any X (by omega) _ v _ _ hc7 (by rw [unhide HTS]; exact hv7)).mono ?_; rintro e w8 ⟨rfl, hb8⟩; have hc8 := (hb8.cell (p := ⟨wr.heap.size, 0, none⟩) (by have := hb7.size; simp at this; show wr.heap.size < w7.heap.size; omega)).trans hc7; have hv8 := hv7.below hb8; clear hc7 hv7) | (go_at_call 13; refine (handed_any X (by omega) _ v _ _ hc8 (by rw [unhide HTS]; exact hv8)).mono ?_; rintro e w9 ⟨rfl, hb9⟩; clear hc8 hv8))
            have hbA : Below wr.heap.size wr (wr.alloc (.cells #[.string X] 9)) := (Below.refl _ _).alloc (Nat.le_refl _) _
            have hz7 := hb7.size
            have hz8 := hb8.size
            simp only [World.size_alloc] at hz7
            have hb9' : Below wr.heap.size wr w9 := ((hbA.trans (hb7.mono (by simp))).trans (hb8.mono (by omega))).trans (hb9.mono (by omega))
            go_roundw
            case rel => exact ⟨k + 1, K, by go_num, by omega, by omega, (unhide HBK).grow hb9', (hb9'.block _ (Array.getElem?_eq_some_iff.1 (unhide HSTR)).1).trans (unhide HSTR), hBr.trans (hb9'.mono hsr)⟩
            case measure => simp [intOf]; omega
      · have hno := lex_no hr
        rw [len_data] at hno
        have hwy := hno.1
        have hpp : pp ≤ X.size := hno.2
        simp only [hr, rplace, rwhy] at RT TK
        obtain ⟨TS, hTS⟩ : ∃ TS, TS = (lex X.data.toList).1 := ⟨_, rfl⟩
        rw [← hTS] at RT hcnt
        have HTS := hide hTS.symm
        have hy0 : ((yy : Int) != 0) = true := by unfold LexNo at hwy; simp; omega
        have hy1 : ((yy : Int) == 0) = false := by unfold LexNo at hwy; simp; omega
        clear hTS hr hwy
        go_wp2_with (go_at_call 7; refine (unhide RT).mono ?_; clear RT; rintro e w2 ⟨hb2, v, rfl, hwant0⟩)
        have hs2 := hb2.size
        have hwant1 := ownsRow_less hwant0 (show w.heap.size ≤ wr.heap.size by omega)
        have hbook1 := hbook0.grow hb2
        have hstr1 : w2.heap[w.heap.size]? = _ := (hb2.block _ (Array.getElem?_eq_some_iff.1 hstr0).1).trans hstr0
        have hBr1 : Below w.heap.size w w2 := hBr0.trans (hb2.mono hBr0.size)
        have HS := hide (And.intro hwant1 (And.intro hbook1 (And.intro hstr1 hBr1)))
        clear hwant0 hwant1 hbook1 hstr1 hBr1 hbook0 hstr0 hBr0 hb2
        go_loopw [13] (fun i wr => ∃ (t : Nat) (K : List Kept), i = .int .i64 t ∧ t ≤ 2 ∧ K.length ≤ 2 * k + t ∧ wr.ownsRow w.heap.size 40 4 v TS.length (allCells TS) ∧ BookIs (w.heap.size + 1) w.heap.size K wr ∧ wr.heap[w.heap.size]? = some (.cells #[.string S, .string T] 9) ∧ Below w.heap.size w wr) (fun i _ => 2 - (intOf i).toNat)
        case atStart => exact ⟨0, K0, rfl, by omega, by omega, (unhide HS).1, (unhide HS).2.1, (unhide HS).2.2.1, (unhide HS).2.2.2⟩
        case round =>
          clear HS
          obtain ⟨t, K, rfl, ht2, hKl, hwant, hbook, hstr, hBr⟩ := hrel
          have hsr := hBr.size
          by_cases hlt2 : t < 2
          · have hlt2' : (t : Int) < 2 := by omega
            have x0 := unhide XC wr hstr
            have HSTR := hide hstr
            clear hstr
            go_wp2_with (first | (go_at_call 8; (refine (unhide TK _).mono ?_; clear TK; rintro e w3 ⟨hb3, b, rfl, hbge, hblk⟩); have hw3 := owns_below hwant hb3; have hbk3 := hbook.grow hb3; have hs3 := hb3.size; have hBx : Below w.heap.size w w3 := hBr.trans (hb3.mono hBr.size)) | (go_at_call 9; (refine (refused_any b pp yy hno.1 (by omega) _ hblk ((unhide HG).below hBx h5) ((unhide HT).below hBx h5) (Nat.le_trans h5 hBx.size)).mono ?_); (rintro e w4 ⟨rfl, hb4⟩; have hs4' := hb4.size; have hw4 := owns_below hw3 hb4; have hbk4 := hbk3.grow hb4; have hx4 : w4.ownsRow w.heap.size 40 4 (.slice none 0 0) 0 [] := World.ownsRow_nil _ _ _ _; have hfar3 : ∀ k ∈ K, Far k.1 (.slice none 0 0) := (fun k _ g _ h2 => (by simp [Value.ownBlock] at h2)); clear hblk)) | (go_at_call 11; refine (Keep_any (w.heap.size + 1) w.heap.size K _ [] _ hbk4 (by omega) hx4 (by simp) (by omega) hfar3).mono ?_; clear hx4; rintro e w5 ⟨rfl, hB5, hS5, K5, hbk5, hlen5, _⟩))
            obtain ⟨A4, hA4⟩ := hbk4.box'
            have hgl := (Array.getElem?_eq_some_iff.1 (unhide HSTR)).1
            have hB4 : Below w.heap.size w w4 := (hBr.trans (hb3.mono hBr.size)).trans (hb4.mono (by omega))
            have hstr5 : w5.heap[w.heap.size]? = some (.cells #[.string S, .string T] 9) := hS5.2 _ _ ((hb4.block _ (by omega)).trans ((hb3.block _ (by omega)).trans (unhide HSTR))) (by omega) (by intro c fz e; injection e with _ h2 _; exact absurd h2 (by decide))
            have hw5 := owns_stay hw4 hS5 hA4
            go_roundw
            case rel => exact ⟨t + 1, K5, by go_num, by omega, by omega, hw5, hbk5, hstr5, hB4.trans hB5⟩
            case measure => simp [intOf]; omega
          · have x0 := unhide XC wr hstr
            have HSTR := hide hstr
            have HBK := hide hbook
            clear hstr hbook
            go_wp2_with (first | (go_at_call 12; refine (All_any _ _).mono ?_; rintro e w6 ⟨rfl, rfl⟩; have hc6 : (wr.alloc (.cells #[.string X] 9)).cell? ⟨wr.heap.size, 0, none⟩ = some (.string X) := (by rw [World.cell?_alloc_at _ _ _ _ (by rfl)]; rfl); have hv6 := TokRow.of_owns (hwant.alloc (.cells #[.string X] 9))) | (go_at_call 13; refine (handed_any X (by omega) _ v _ _ hc6 (by rw [unhide HTS]; exact hv6)).mono ?_; rintro e w7 ⟨rfl, hb7⟩; have hc7 := (hb7.cell (p := ⟨wr.heap.size, 0, none⟩) (by simp)).trans hc6; have hv7 := hv6.below hb7; clear hc6 hv6) | (go_at_call 6; refine (unhide WS _).mono ?_; rintro e w' ⟨⟨r, rfl, hq0, hq1⟩, rfl⟩) | (go_at_call 13; refine (handed_any X (by omega) _ v _ _ hc7 (by rw [unhide HTS]; exact hv7)).mono ?_; rintro e w8 ⟨rfl, hb8⟩; have hc8 := (hb8.cell (p := ⟨wr.heap.size, 0, none⟩) (by have := hb7.size; simp at this; show wr.heap.size < w7.heap.size; omega)).trans hc7; have hv8 := hv7.below hb8; clear hc7 hv7) | (go_at_call 13; refine (handed_any X (by omega) _ v _ _ hc8 (by rw [unhide HTS]; exact hv8)).mono ?_; rintro e w9 ⟨rfl, hb9⟩; clear hc8 hv8))
            have hbA : Below wr.heap.size wr (wr.alloc (.cells #[.string X] 9)) := (Below.refl _ _).alloc (Nat.le_refl _) _
            have hz7 := hb7.size
            have hz8 := hb8.size
            simp only [World.size_alloc] at hz7
            have hb9' : Below wr.heap.size wr w9 := ((hbA.trans (hb7.mono (by simp))).trans (hb8.mono (by omega))).trans (hb9.mono (by omega))
            go_roundw
            case rel => exact ⟨k + 1, K, by go_num, by omega, by omega, (unhide HBK).grow hb9', (hb9'.block _ (Array.getElem?_eq_some_iff.1 (unhide HSTR)).1).trans (unhide HSTR), hBr.trans (hb9'.mono hsr)⟩
            case measure => simp [intOf]; omega
    · have AP := hide (Apart_any (w.heap.size + 1) w.heap.size K0 wr hbook0 (by omega))
      clear hbook0 hstr0
      go_wp2_with (first | (go_at_call 14; refine (unhide AP).mono ?_; clear AP; rintro e w3 ⟨rfl, hb3⟩) | (go_at_call 16; refine (unhide RN _ (hBr0.trans hb3)).mono ?_; clear RN; rintro e w4 ⟨rfl, hb4⟩))
      go_ret
      have hs3 := (hBr0.trans hb3).size
      exact ⟨rfl, (hBr0.trans hb3).trans (hb4.mono hs3)⟩
end Go.Proofs.YthplgkkailieoaaGreatDoor
