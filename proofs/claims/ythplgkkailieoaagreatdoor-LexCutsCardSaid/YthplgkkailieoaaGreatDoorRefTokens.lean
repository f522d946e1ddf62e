/-
  coilref1.Tokens, walked: the tokens ahead of the first wrong place, that place, why.
-/
import Derived.Test.YthplgkkailieoaaGreatDoorRefCut
namespace Go.Proofs.YthplgkkailieoaaGreatDoor
open Go Go.RowKit Lx

theorem owns_below {W W' : World} {B e size n : Nat} {v : Value} {xs : List Value} (h : W.ownsRow B e size v n xs) (hb : Below W.heap.size W W') : W'.ownsRow B e size v n xs := h.kept (grown_of_below hb) (by cases v.ownBlock <;> simp)
theorem next_at {l : Bs} {n : Nat} (h : n < 4096) : next l n = next l 0 := by
  rw [next, next]
  split
  · rfl
  · rw [if_neg (by omega), if_neg (by omega)]
theorem next_full {l : Bs} (h : beginB (hd l) = true) : next l 4096 = .inl (0, 3) := by rw [next, if_neg (by rw [h]; decide), if_pos (by omega)]
theorem next_byte {l : Bs} {n : Nat} (h : beginB (hd l) = false) : next l n = .inl (0, 10) := by rw [next, if_pos h]
theorem next_why {l : Bs} {n o y : Nat} (h : next l n = .inl (o, y)) : 2 ≤ y ∧ y ≤ 12 := by
  unfold next at h
  split at h
  · cases h; omega
  · split at h
    · cases h; omega
    · unfold cut at h
      split at h
      · unfold cutNumber at h
        split at h
        · cases h; omega
        · split at h
          · cases h; omega
          · cases h
      · split at h
        · unfold cutText at h
          split at h
          · cases h; omega
          · cases h
        · split at h
          · unfold cutSign at h
            split at h <;> cases h
          · unfold cutName at h
            split at h
            · cases h; omega
            · cases h
/-- Where it goes wrong, and why: noughts, where it doesn't. -/
def rplace : Option (Nat × Nat) → Nat
  | none => 0
  | some (p, _) => p
def rwhy : Option (Nat × Nat) → Nat
  | none => 0
  | some (_, y) => y
def RTokens (w : World) (s : ByteArray) (e : Ending) (W' : World) : Prop :=
  Below w.heap.size w W' ∧ ∃ v, e = .returned (.tuple #[v, .int .i64 (rplace (lex s.data.toList).2 : Int), .int .i64 (rwhy (lex s.data.toList).2 : Int)]) ∧ W'.ownsRow w.heap.size 40 4 v (lex s.data.toList).1.length (allCells (lex s.data.toList).1)
theorem RTokens.mk {w W' : World} {s : ByteArray} {ts : List Tok} {r : Option (Nat × Nat)} {v : Value} {p y : Int} (h : lex s.data.toList = (ts, r)) (hp : p = (rplace r : Int)) (hy : y = (rwhy r : Int)) (hb : Below w.heap.size w W') (ho : W'.ownsRow w.heap.size 40 4 v ts.length (allCells ts)) :
    RTokens w s (.returned (.tuple #[v, .int .i64 p, .int .i64 y])) W' := by
  subst hp; subst hy
  refine ⟨hb, v, ?_, ?_⟩
  · rw [h]
  · rw [h]; exact ho
set_option maxHeartbeats 4000000 in
set_option maxRecDepth 100000 in
theorem rTokens_any (s : ByteArray) (hs : s.size ≤ 140737488355328) (w : World) : Calls Tryz.prog 7 #[.string s] w fun e W' => RTokens w s e W' := by
  have hsz : s.data.toList.length = s.size := by simp
  by_cases hbig : 65536 < s.size
  · have hbig' : 65536 < (s.size : Int) := by omega
    have HE : Hid (lex s.data.toList = ([], some (0, 2))) := by show _ = _; rw [lex, hsz, if_pos hbig]
    clear hsz
    go_enter Tryz.func7, Tryz.ntmps7
    go_wp2
    exact bodyPost_ret (v := .tuple #[.slice none 0 0, .int .i64 0, .int .i64 2]) (by simp [results, Tryz.results7, go_sem]) rfl (RTokens.mk (unhide HE) rfl rfl (Below.refl _ _) (World.ownsRow_nil _ _ _ _))
  · have hbig' : (s.size : Int) ≤ 65536 := by omega
    have hk0 := skip_le s.data.toList
    obtain ⟨i0, hi, hz0, hz1, hz2⟩ := info_parts info_tok
    have SK := hide (fun k (hk : k ≤ s.size) W => rskip_any s k (k + skip (s.data.toList.drop k)) W hk hs rfl)
    have HS := hide hsz
    rw [hsz] at hk0
    clear hsz
    go_enter Tryz.func7, Tryz.ntmps7
    go_wp2_with (go_at_call 22; refine (unhide SK 0 (by omega) _).mono ?_; rintro e w' ⟨rfl, rfl⟩)
    go_loopw [5, 6] (fun v i wr => ∃ (k f : Nat) (pre : List Tok), i = .int .i64 k ∧ k ≤ s.size ∧ pre.length ≤ 4096 ∧ s.size - k < f ∧ wr.ownsRow w.heap.size 40 4 v pre.length (allCells pre) ∧ Below w.heap.size w wr ∧
        Hid (lex s.data.toList = (pre ++ (lexAt f (s.data.toList.drop k) k pre.length).1, (lexAt f (s.data.toList.drop k) k pre.length).2))) (fun _ i _ => s.size - (intOf i).toNat)
    case atStart =>
      refine ⟨skip s.data.toList, s.size + 1, [], by simp, by omega, by simp, by omega, World.ownsRow_nil _ _ _ _, Below.refl _ _, ?_⟩
      show _ = _
      rw [lex, if_neg (by rw [unhide HS]; omega), lexF_at, unhide HS]; simp
    case round =>
      obtain ⟨k, f, pre, rfl, hk, hpl, hf, hown, hb, HL⟩ := hrel
      have hbs := hb.size
      have hv : ∃ p c, u5 = .slice p pre.length c := by
        rcases hown.2 with ⟨rfl, h0⟩ | ⟨g, cap, cur, rfl, _⟩
        · exact ⟨none, 0, by rw [h0]⟩
        · exact ⟨_, _, rfl⟩
      obtain ⟨p, c, rfl⟩ := hv
      by_cases hlt : k < s.size
      · have hne : s.data.toList.drop k ≠ [] := by rw [drop_cons s k hlt]; simp
        have hdd : Lx.hd (s.data.toList.drop k) = (s[k].toNat : Int) := by rw [drop_cons s k hlt]; rfl
        obtain ⟨f', rfl⟩ : ∃ f', f = f' + 1 := ⟨f - 1, by omega⟩
        have hlt' : (k : Int) < (s.size : Int) := by omega
        rcases hnx : next (s.data.toList.drop k) pre.length with ⟨o, y⟩ | ⟨kd, S, v, m⟩
        · have HE : Hid (lex s.data.toList = (pre, some (k + o, y))) := by
            have e := unhide HL
            rw [lexAt_no hne hnx] at e
            show _ = _
            simpa using e
          have hyy := next_why hnx
          have hyn : ((y : Int) != 0) = true := by simp; omega
          by_cases h4 : pre.length = 4096
          · have q4 : ((pre.length : Int) == 4096) = true := by simp [h4]
            by_cases hbg : beginB (s[k].toNat : Int) = true
            · have h3 : next (s.data.toList.drop k) pre.length = .inl (0, 3) := by rw [h4]; exact next_full (by rw [hdd]; exact hbg)
              rw [h3] at hnx
              cases hnx
              have BG := hide (fun W => rbegins_any s[k] true hbg W)
              clear HL hne SK hdd h3 h4 hbg
              go_wp2_with (go_at_call 23; refine (unhide BG _).mono ?_; clear BG; rintro e w1 ⟨rfl, hb1⟩)
              exact bodyPost_ret (v := .tuple #[.slice p pre.length c, .int .i64 k, .int .i64 3]) (by simp [results, Tryz.results7, go_sem]) rfl (RTokens.mk (unhide HE) rfl rfl (hb.trans (hb1.mono hbs)) (owns_below hown hb1))
            · have hbg := (Bool.not_eq_true _).mp hbg
              have h3 : ∀ n, next (s.data.toList.drop k) n = .inl (0, 10) := fun n => next_byte (by rw [hdd]; exact hbg)
              rw [h3] at hnx
              cases hnx
              have BG := hide (fun W => rbegins_any s[k] false hbg W)
              have CT := hide (fun W => rcut_any s k W hlt hs (rbad 10 (k : Int)) (by rw [h3]; rfl))
              clear HL hne SK hdd h3 h4 hbg
              go_wp2_with (first | (go_at_call 23; refine (unhide BG _).mono ?_; clear BG; rintro e w1 ⟨rfl, hb1⟩; have hz1' := hb1.size) | (go_at_call 24; refine (unhide CT _).mono ?_; clear CT; rintro e w2 ⟨rfl, hb2⟩; have hz2' := hb2.size; dsimp only [rbad]))
              go_quiet (fail)
              go_wp2
              exact bodyPost_ret (v := .tuple #[.slice p pre.length c, .int .i64 k, .int .i64 10]) (by simp [results, Tryz.results7, go_sem]) rfl (RTokens.mk (unhide HE) rfl rfl (below_drewN (((hb.trans (hb1.mono hbs)).trans (hb2.mono (by omega))).alloc (by omega) _) _) (owns_below (owns_below (owns_below hown hb1) hb2) (below_drewN ((Below.refl _ _).alloc (Nat.le_refl _) _) _)))
          · have q4 : ((pre.length : Int) == 4096) = false := by simp; omega
            have CT := hide (fun W => rcut_any s k W hlt hs (rbad (y : Int) ((k + o : Nat) : Int)) (by rw [← next_at (n := pre.length) (by omega), hnx]; rfl))
            obtain ⟨z, hz⟩ : ∃ z, z = k + o := ⟨_, rfl⟩
            rw [← hz] at CT HE
            clear HL hne SK hdd hnx hz h4
            go_wp2_with (go_at_call 24; refine (unhide CT _).mono ?_; clear CT; rintro e w2 ⟨rfl, hb2⟩; have hz2' := hb2.size; dsimp only [rbad])
            go_quiet (fail)
            go_wp2
            exact bodyPost_ret (v := .tuple #[.slice p pre.length c, .int .i64 z, .int .i64 y]) (by simp [results, Tryz.results7, go_sem]) rfl (RTokens.mk (unhide HE) rfl rfl (below_drewN ((hb.trans (hb2.mono hbs)).alloc (by omega) _) _) (owns_below (owns_below hown hb2) (below_drewN ((Below.refl _ _).alloc (Nat.le_refl _) _) _)))
        · have hm := next_len hne hnx
          have hfew := next_few hnx
          have hdl : (s.data.toList.drop k).length = s.size - k := by simp
          rw [hdl] at hm
          have hsk := skip_le (s.data.toList.drop (k + m))
          rw [show (s.data.toList.drop (k + m)).length = s.size - (k + m) from by simp] at hsk
          have HE : Hid (lex s.data.toList = ((pre ++ [(k, kd, S, v)]) ++ (lexAt f' (s.data.toList.drop (k + m + skip (s.data.toList.drop (k + m)))) (k + m + skip (s.data.toList.drop (k + m))) (pre ++ [(k, kd, S, v)]).length).1, (lexAt f' (s.data.toList.drop (k + m + skip (s.data.toList.drop (k + m)))) (k + m + skip (s.data.toList.drop (k + m))) (pre ++ [(k, kd, S, v)]).length).2)) := by
            have e := unhide HL
            rw [lexAt_yes hne hnx] at e
            simp only [List.drop_drop] at e
            show _ = _
            rw [e]; simp
          have CT := hide (fun W => rcut_any s k W hlt hs (rcut (k : Int) kd ⟨S.toArray⟩ v ((k + m : Nat) : Int)) (by rw [← next_at hfew, hnx]; rfl))
          have SK2 := hide (fun W => unhide SK (k + m) (by omega) W)
          obtain ⟨z, hz⟩ : ∃ z, z = k + m := ⟨_, rfl⟩
          obtain ⟨x, hx⟩ : ∃ x, x = z + skip (s.data.toList.drop z) := ⟨_, rfl⟩
          rw [← hz] at CT SK2 HE hsk
          rw [← hx] at SK2 HE
          have q4 : ((pre.length : Int) == 4096) = false := by simp; omega
          have hz9 : k + 1 ≤ z ∧ z ≤ s.size := by omega
          have hx9 : z ≤ x ∧ x ≤ s.size := by omega
          clear HL hnx hne hdl SK hdd hz hx hsk hm
          go_wp2_with (first | (go_at_call 24; refine (unhide CT _).mono ?_; clear CT; rintro e w1 ⟨rfl, hb1⟩; have hz1' := hb1.size; dsimp only [rcut]) | (at_builtin; refine wpList_append_own _ rfl _ _ 28 rfl w.heap.size 40 i0 (.agg #[.int .i64 0, .int .i64 0, .string ⟨#[]⟩, .int .i64 0]) 4 40 Tryz.underlying28 hi hz0 hz1 hz2 rfl (by decide) _ pre.length (allCells pre) rfl ?own ⟨_, 0, none⟩ 1 1 (tokCells (k, kd, S, v)) rfl rfl ?news ?one ?c3 ?c4 ?c5 ?_))
          case own => exact ((owns_below hown hb1).alloc _).alloc _
          case news =>
            intro j u hj
            match j, hj with
            | 0, hj => simp [tokCells] at hj; subst hj; simp [Addr.add]
            | 1, hj => simp [tokCells] at hj; subst hj; simp [Addr.add]
            | 2, hj => simp [tokCells] at hj; subst hj; simp [Addr.add]
            | 3, hj => simp [tokCells] at hj; subst hj; simp [Addr.add]
            | j + 4, hj => simp [tokCells] at hj
          case one => intro u hu; simp [tokCells] at hu; rcases hu with rfl | rfl | rfl | rfl <;> rfl
          case c3 => unfold maxLen; omega
          case c4 => omega
          case c5 => simp; omega
          intro v' w2 hown' hgrow _
          have c4 : w2.cell? ⟨w1.heap.size, 4, none⟩ = some (.int .i64 (z : Int)) := by
            refine (World.cell?_of_block (a := ⟨w1.heap.size, 4, none⟩) (hgrow.block w1.heap.size (by simp; omega) (fun e => ?_))).trans (by simp)
            have := (hown.lt _ e.symm).2
            omega
          have hb' : Below w.heap.size w w2 := (((hb.trans (hb1.mono hbs)).alloc (by omega) _).alloc (by simp; omega) _).grown hgrow (by simp; omega) (fun q e => (hown.lt q e).1)
          have hl' : (pre ++ [(k, kd, S, v)]).length = pre.length + 1 := by simp
          rw [← allCells_snoc, ← hl'] at hown'
          clear hgrow
          go_wp2_with (go_at_call 22; refine (unhide SK2 _).mono ?_; clear SK2; rintro e w' ⟨rfl, rfl⟩)
          go_roundw
          case rel => exact ⟨x, f', pre ++ [(k, kd, S, v)], rfl, by omega, by omega, by omega, hown', hb', HE⟩
          case measure => simp [intOf]; omega
      · have HE : Hid (lex s.data.toList = (pre, none)) := by
          have e := unhide HL
          rw [List.drop_of_length_le (by simp; omega), lexAt_nil] at e
          show _ = _
          simpa using e
        clear HL SK
        go_wp2
        exact bodyPost_ret (v := .tuple #[.slice p pre.length c, .int .i64 0, .int .i64 0]) (by simp [results, Tryz.results7, go_sem]) rfl (RTokens.mk (unhide HE) rfl rfl hb hown)
end Go.Proofs.YthplgkkailieoaaGreatDoor
