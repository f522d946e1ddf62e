/-
  Texts that were joined, cut and joined again; statements' texts one behind another. No world.
-/
import Derived.Test.YtdahegogdblahaaGreatDoorQSizeG
import Derived.Test.YtdahegogdblahaaGreatDoorQPartsG
import Derived.Test.YtdahegogdblahaaGreatDoorQStText
import Derived.Test.YtdahegogdblahaaGreatDoorQRunsC
import Derived.Deep.DeepCutAuto
namespace Go.Proofs.YtdahegogdblahaaGreatDoor
open Go Go.RowKit Lx

theorem joinW_bare : ∀ (us ts : List Tok) (i : Nat) (acc : Bs), us.map (·.2) = ts.map (·.2) → joinW us i acc = joinW ts i acc
  | [], [], _, _, _ => rfl
  | [], _ :: _, _, _, h => by simp at h
  | _ :: _, [], _, _, h => by simp at h
  | u :: us, t :: ts, i, acc, h => by
    rw [List.map_cons, List.map_cons] at h
    injection h with h1 h2
    have e1 : tokText u = tokText t := by unfold tokText; rw [h1]
    rw [joinW, joinW, e1, h1]
    generalize acc ++ (if 0 < i then [32] else []) = P
    by_cases c1 : 65536 < P.length + t.2.2.1.length
    · rw [if_pos c1, if_pos c1]
    · rw [if_neg c1, if_neg c1]
      by_cases c2 : 65536 < (P ++ tokText t).length
      · rw [if_pos c2, if_pos c2]
      · rw [if_neg c2, if_neg c2]
        exact joinW_bare us ts _ _ h2
theorem all_bare : ∀ (us ts : List Tok), us.map (·.2) = ts.map (·.2) → us.all sound = ts.all sound
  | [], [], _ => rfl
  | [], _ :: _, h => by simp at h
  | _ :: _, [], h => by simp at h
  | u :: us, t :: ts, h => by
    rw [List.map_cons, List.map_cons] at h
    injection h with h1 h2
    have e1 : sound u = sound t := by unfold sound; rw [h1]
    rw [List.all_cons, List.all_cons, e1, all_bare us ts h2]
/-- what was joined is cut into tokens that, joined, are it. -/
theorem join_again {ts : List Tok} {l : Bs} (h : join ts = .inr l) (hF : Fits ts) : l.length ≤ 65536 ∧ ∃ us, lex l = (us, none) ∧ join us = .inr l ∧ Fits us ∧ us.length ≤ 4096 := by
  obtain ⟨us, h1, h2⟩ := join_lex h fun t ht => (hF t ht).2.2
  obtain ⟨_, hn, hl, _⟩ := join_is h
  have hlen : us.length = ts.length := by simpa using congrArg List.length h2
  refine ⟨hl, us, h1, ?_, fun t ht => ?_, by omega⟩
  · rw [← h, join, join, all_bare us ts h2, joinW_bare us ts _ _ h2, hlen]
  · have : t.2 ∈ ts.map (·.2) := by rw [← h2]; exact List.mem_map.2 ⟨t, ht, rfl⟩
    obtain ⟨u, hu, e⟩ := List.mem_map.1 this
    have := hF u hu
    rw [e] at this
    exact this
theorem jtext_len {l : List Tok} (h : l ≠ []) : (jtext l).length + 1 = (spaced l).length := by rw [spaced_ne h]; simp
theorem jtext_app {a b : List Tok} (ha : a ≠ []) (hb : b ≠ []) : jtext (a ++ b) = jtext a ++ [32] ++ jtext b := by
  cases a with
  | nil => exact absurd rfl ha
  | cons t r => rw [List.cons_append, jtext, jtext, spaced_append, spaced_ne hb]; simp
/-- sound tokens that are few and whose text is short are joined. -/
theorem join_to2 {ts : List Tok} (hs : ts.all sound = true) (hn : ts.length ≤ 4096) (hl : (jtext ts).length ≤ 65536) : join ts = .inr (jtext ts) := by
  have hw : joinW ts 0 [] = some (jtext ts) := by
    cases ts with
    | nil => rfl
    | cons t r =>
      rw [List.all_cons, Bool.and_eq_true] at hs
      have h1 := own_le hs.1
      rw [jtext, List.length_append] at hl
      simp only [joinW, Nat.lt_irrefl, if_false, List.append_nil, List.length_nil, List.nil_append, Nat.zero_add]
      rw [if_neg (by omega), if_neg (by omega), joinW_to r 1 _ (by omega) hs.2 (by omega), jtext]
  rw [join, if_neg (by rw [hs]; simp), hw]
  simp only
  rw [if_neg (by omega)]
theorem put_full : ∀ (l ts : List Tok), 32769 ≤ ts.length → putAll ts l = ts
  | [], _, _ => rfl
  | x :: l, ts, h => by rw [putAll_cons, putT, if_neg (by omega)]; exact put_full l ts h
/-- where a writer's tokens are joined, it has all of them. -/
theorem put_join {l : List Tok} {s : Bs} (h : join (putAll [] l) = .inr s) : putAll [] l = l ∧ l.length ≤ 4096 := by
  obtain ⟨_, hn, _, _⟩ := join_is h
  rcases Nat.lt_or_ge 32769 l.length with hl | hl
  · exfalso
    have e : l = l.take 32769 ++ l.drop 32769 := (List.take_append_drop _ _).symm
    have hl2 : (l.take 32769).length = 32769 := by rw [List.length_take]; omega
    have h1 : putAll [] l = putAll [] (l.take 32769 ++ l.drop 32769) := by rw [← e]
    rw [h1, putAll_append, putAll_all (l.take 32769) [] (by rw [hl2]; simp), List.nil_append, put_full _ _ (by omega)] at hn
    omega
  · have e := putAll_all l [] (by simpa using hl)
    rw [List.nil_append] at e
    rw [e] at hn
    exact ⟨e, hn⟩
theorem stT_ne (K : Int) (S : Bs) (ty x b e : List Tok) (ne : Nat) : stT K S ty x b e ne ≠ [] := by
  unfold stT
  by_cases h4 : K = 4
  · rw [if_pos h4]; simp
  · rw [if_neg h4]
    by_cases h5 : K = 5
    · rw [if_pos h5]; simp
    · rw [if_neg h5]; simp
theorem stTks_cons (D d m : Nat) (ss : List (St D d (m + 1))) : stTks D d (m + 1) ss = ss.flatMap (stTk D d m) := rfl
/-- the text of the first k statements. -/
def firstT (D d m : Nat) (ss : List (St D d (m + 1))) (k : Nat) : Bs := jtext ((ss.take k).flatMap (stTk D d m))
theorem flat_ne {D d m : Nat} {ss : List (St D d (m + 1))} {k : Nat} (hk : 0 < k) (hl : 0 < ss.length) : (ss.take k).flatMap (stTk D d m) ≠ [] := by
  cases ss with
  | nil => simp at hl
  | cons s r =>
    obtain ⟨j, rfl⟩ : ∃ j, k = j + 1 := ⟨k - 1, by omega⟩
    rw [List.take_succ_cons, List.flatMap_cons]
    intro h
    exact stT_ne _ _ _ _ _ _ _ (List.append_eq_nil_iff.1 h).1
theorem firstT_succ {D d m : Nat} {ss : List (St D d (m + 1))} {k : Nat} (h : k < ss.length) : firstT D d m ss (k + 1) = if 0 < k then firstT D d m ss k ++ [32] ++ jtext (stTk D d m ss[k]) else jtext (stTk D d m ss[k]) := by
  unfold firstT
  rw [List.take_succ_eq_append_getElem h, List.flatMap_append, List.flatMap_cons, List.flatMap_nil, List.append_nil]
  by_cases hk : 0 < k
  · rw [if_pos hk]
    exact jtext_app (flat_ne hk (by omega)) (stT_ne _ _ _ _ _ _ _)
  · rw [if_neg hk]
    obtain rfl : k = 0 := by omega
    simp
/-- of statements whose text is told: each one's text is told, and they are put together to it. -/
theorem stmts_told {D d m : Nat} {ss : List (St D d (m + 1))} {s : Bs} (h : stmtsAns D d (m + 1) ss = .inr s) :
    s = firstT D d m ss ss.length ∧ s.length ≤ 65536 ∧ (∀ k, k ≤ ss.length → (firstT D d m ss k).length ≤ 65536) ∧ ∀ k (hk : k < ss.length), stmtsAns D d (m + 1) [ss[k]] = .inr (jtext (stTk D d m ss[k])) := by
  unfold stmtsAns at h
  split at h
  · rename_i hr
    obtain ⟨e, hn⟩ := put_join h
    rw [e] at h
    obtain ⟨h1, _, h3, h4⟩ := join_is h
    have hs : s = jtext (stTks D d (m + 1) ss) := (join_of h).2
    rw [stTks_cons] at hs hn h1
    have hfull : firstT D d m ss ss.length = s := by rw [firstT, List.take_length, ← hs]
    have hsub : ∀ (a b c : List Tok), ss.flatMap (stTk D d m) = a ++ b ++ c → b ≠ [] → (jtext b).length ≤ 65536 ∧ b.length ≤ 4096 ∧ b.all sound = true := fun a b c hab hb => by
      have hne : ss.flatMap (stTk D d m) ≠ [] := by rw [hab]; intro h; exact hb (by simp at h; exact h.2.1)
      have e1 := jtext_len hne
      rw [← hs] at e1
      rw [hab, spaced_append, spaced_append, List.length_append, List.length_append] at e1
      have e2 := jtext_len hb
      rw [hab] at hn h1
      simp only [List.length_append] at hn
      simp only [List.all_append, Bool.and_eq_true] at h1
      exact ⟨by omega, by omega, h1.1.2⟩
    refine ⟨hfull.symm, h3, fun k hk => ?_, fun k hk => ?_⟩
    · rcases Nat.eq_zero_or_pos k with rfl | hk0
      · simp [firstT, jtext]
      · rcases Nat.eq_zero_or_pos ss.length with h0 | h0
        · omega
        · have := hsub [] ((ss.take k).flatMap (stTk D d m)) ((ss.drop k).flatMap (stTk D d m)) (by rw [List.nil_append, ← List.flatMap_append, List.take_append_drop]) (flat_ne hk0 h0)
          exact this.1
    · have hsp : ss.flatMap (stTk D d m) = (ss.take k).flatMap (stTk D d m) ++ stTk D d m ss[k] ++ (ss.drop (k + 1)).flatMap (stTk D d m) := by
        have : ss = ss.take k ++ (ss[k] :: ss.drop (k + 1)) := by rw [← List.drop_eq_getElem_cons hk, List.take_append_drop]
        conv => lhs; rw [this]
        rw [List.flatMap_append, List.flatMap_cons, List.append_assoc]
      obtain ⟨t1, t2, t3⟩ := hsub _ _ _ hsp (stT_ne _ _ _ _ _ _ _)
      have hr1 : rightSs D d (m + 1) 64 [ss[k]] = true := by
        rw [rightSs, List.all_eq_true] at hr
        rw [rightSs, List.all_cons, List.all_nil, Bool.and_true]
        exact hr _ (List.getElem_mem hk)
      have et : stTks D d (m + 1) [ss[k]] = stTk D d m ss[k] := by rw [stTks_cons, List.flatMap_cons, List.flatMap_nil, List.append_nil]
      rw [stmtsAns, if_pos hr1, et, putAll_all _ _ (by simp; omega), List.nil_append, join_to2 t3 t2 t1]
  · cases h
/-- small expressions fit. -/
theorem exfits_of {D : Nat} : ∀ {d : Nat} {xs : List (Ex D d)}, szXL D d xs ≤ 1000000 → ExWf D d xs → ExFits D d xs
  | 0, _, _, _ => trivial
  | d + 1, xs, hz, hw => by
    have hlen : xs.length ≤ szXL D (d + 1) xs := by
      clear hz hw
      induction xs with
      | nil => simp
      | cons x r ih =>
        have : 1 ≤ szX D (d + 1) x := by rw [szX]; omega
        simp only [szXL, List.map_cons, List.sum_cons, List.length_cons] at ih ⊢
        omega
    refine ⟨by omega, fun x hx => ?_⟩
    have h1 : szX D (d + 1) x ≤ szXL D (d + 1) xs := mem_sum (List.mem_map.2 ⟨x, hx, rfl⟩)
    rw [szX] at h1
    obtain ⟨⟨w1, w2, w3⟩, w4, w5, w6, w7⟩ := hw.2 x hx
    have h2 : szXL D d (xPs x) ≤ 1000000 := by unfold szXL; omega
    have hf := exfits_of h2 w7
    have h3 : (xPs x).length ≤ 1000000 := by
      match d, x, hf with
      | 0, x, _ =>
        rcases hx : xPs x with _ | ⟨y, _⟩
        · simp
        · exact nomatch y
      | d + 1, x, hf => exact hf.1
    have h4 := Nat.le_trans (len_many _ (xT x)) (many_szL _ (xT x))
    exact ⟨⟨by omega, by omega, fits_of_sz (by omega), by omega, fun s hs => by have := sumL_mem hs; omega, h3, w2, w3⟩, hf⟩
theorem exlen_of {D : Nat} : ∀ {d : Nat} {xs : List (Ex D d)}, ExFits D d xs → xs.length ≤ 1000000
  | 0, [], _ => by simp
  | 0, x :: _, _ => nomatch x
  | _ + 1, _, h => h.1
theorem stlen_of {D d : Nat} : ∀ {m : Nat} {ss : List (St D d m)}, StFits D d m ss → ss.length ≤ 1000000
  | 0, [], _ => by simp
  | 0, x :: _, _ => nomatch x
  | _ + 1, _, h => h.1
/-- small statements fit. -/
theorem stfits_of {D d : Nat} : ∀ {m : Nat} {ss : List (St D d m)}, szSs D d m ss ≤ 1000000 → StWf D d m ss → StFits D d m ss
  | 0, _, _, _ => trivial
  | m + 1, ss, hz, hw => by
    have hlen : ss.length ≤ szSs D d (m + 1) ss := by
      clear hz hw
      rw [szSs]
      induction ss with
      | nil => simp
      | cons x r ih =>
        simp only [List.map_cons, List.sum_cons, List.length_cons]
        omega
    refine ⟨by omega, fun s hs => ?_⟩
    have h1 : 1 + (sName s).length + szL D (sT s) + szXL D d (sX s) + szSs D d m (sB s) + szSs D d m (sE s) ≤ szSs D d (m + 1) ss := by
      rw [szSs]; exact mem_sum (List.mem_map.2 ⟨s, hs, rfl⟩)
    obtain ⟨w1, w2, w3, w4, w5⟩ := hw.2 s hs
    have hx := exfits_of (by omega) w3
    have hb := stfits_of (show szSs D d m (sB s) ≤ 1000000 by omega) w4
    have he := stfits_of (show szSs D d m (sE s) ≤ 1000000 by omega) w5
    have h4 := Nat.le_trans (len_many _ (sT s)) (many_szL _ (sT s))
    exact ⟨⟨by omega, fits_of_sz (by omega), by omega, hx, exlen_of hx, stlen_of hb, stlen_of he⟩, hb, he⟩
end Go.Proofs.YtdahegogdblahaaGreatDoor
/-
  coillaw2.SyntaxTokens, walked.
-/
namespace Go.Proofs.YtdahegogdblahaaGreatDoor
open Go Go.RowKit Lx

/-- one statement in a block. -/
theorem StRow.one {W : World} {g D d m : Nat} {s : St D d (m + 1)} {vt vx vb ve : Value} (hg : W.heap[g]? = some (.cells #[.int .i64 (sAt s), .int .i64 (sKind s), .string ⟨(sName s).toArray⟩, vt, vx, vb, ve] 45)) (r1 : TyRow W D vt (sT s)) (r2 : ExRow W D d vx (sX s) ∧ ExCap W D d vx (sX s)) (r3 : StRow W D d m vb (sB s)) (r4 : StRow W D d m ve (sE s)) :
    StRow W D d (m + 1) (.slice (some ⟨g, 0, none⟩) 1 1) [s] := by
  have hc := Lib.cell_of_heap hg
  refine ⟨_, 1, rfl, fun j x hx => ?_⟩
  match j, hx with
  | 0, hx =>
    obtain rfl := Option.some.inj hx
    exact ⟨g, 0, _, _, _, _, rfl, hc 0, hc 1, hc 2, hc 3, hc 4, hc 5, hc 6, r1, r2, r3, r4⟩
  | j + 1, hx => cases hx
theorem tok_ok (X : ByteArray) (us : List Tok) (w : World) (hs : X.size ≤ 140737488355328) (hx : lex X.data.toList = (us, none)) :
    Calls Tryz.prog 11 #[.string X] w fun e w' => ∃ p c, e = .returned (.tuple #[.slice p us.length c, .nilIface]) ∧ TokRow w' (.slice p us.length c) us ∧ Below w.heap.size w w' := by
  refine (Tokens_any X hs w).mono ?_
  rintro e w' ⟨hb, h⟩
  rw [hx] at h
  obtain ⟨v, rfl, ho⟩ := h
  have hr := TokRow.of_owns ho
  obtain ⟨p, c, rfl, _⟩ := id hr
  exact ⟨p, c, rfl, hr, hb⟩
theorem data_of (l : Bs) : (⟨l.toArray⟩ : ByteArray).data.toList = l := by show l.toArray.toList = l; simp
theorem size_of (l : Bs) : (⟨l.toArray⟩ : ByteArray).size = l.length := by show l.toArray.size = _; simp
theorem type_inl {d : Nat} {t : Ty (d + 1)} {y : Nat} (h : typeAns d t = .inl y) : y ≠ 0 := by
  unfold typeAns at h
  split at h
  · unfold join at h
    split at h
    · cases h; decide
    · split at h
      · cases h; decide
      · split at h
        · cases h; decide
        · cases h
  · cases h; decide
theorem stmts_inl {D d m : Nat} {ss : List (St D d m)} {y : Nat} (h : stmtsAns D d m ss = .inl y) : y ≠ 0 := by
  unfold stmtsAns at h
  split at h
  · unfold join at h
    split at h
    · cases h; decide
    · split at h
      · cases h; decide
      · split at h
        · cases h; decide
        · cases h
  · cases h; decide
set_option maxHeartbeats 8000000 in
set_option maxRecDepth 100000 in
theorem SyntaxTokens_any (D m kt : Nat) (ss : List (St D D (m + 1))) (t : Ty (kt + 1)) (p : Option Addr) (c : Nat) (vt : Value) (w : World) (hS : StRow w D D (m + 1) (.slice p ss.length c) ss) (wS : StWf D D (m + 1) ss) (hvt : TyVal w kt vt t) (wt : WfD (kt + 1) t) (ht : Tab w) (h5 : 4 ≤ w.heap.size) :
    Calls Tryz.prog 3 #[.slice p ss.length c, vt] w fun e w' => e = .returned (.bool true) ∧ Below w.heap.size w w' := by
  have VT := hide hvt
  obtain ⟨pn, pe, pp, cn, ce, cp, rfl, _, _, _⟩ := hvt
  have HA : Hid (Below w.heap.size w (w.alloc (tyBox t.1 ⟨t.2.1.toArray⟩ pn pe pp t.2.2.1.length t.2.2.2.1.length t.2.2.2.2.length cn ce cp))) := al1 _ _
  have HS := hide hS
  have HT := hide ht
  have WT := hide wt
  have WS := hide wS
  have hlenS := wS.1
  clear hS ht wt wS
  have RN : Hid (∀ W, Below w.heap.size w W → Calls Tryz.prog 9 #[] W fun e w' => e = .returned (.bool true) ∧ Below w.heap.size w w') := fun W hW =>
    (SyntaxRuns_any W ((unhide HT).below hW h5) (Nat.le_trans h5 hW.size)).mono fun e w' ⟨he, hb⟩ => ⟨he, bon hW hb⟩
  go_enter Tryz.func3, Tryz.ntmps3
  go_wp2_with fail
  refine (sizeS_any D D (m + 1) ss p c w (unhide HS) (unhide WS) 8000 8000 _ rfl (unhide HA) (by decide) (by decide)).mono ?_
  rintro _ w3 ⟨⟨n1, rfl, hn1, hz1⟩, b3⟩
  have HB := hide b3
  clear b3
  by_cases c1 : n1 < 8000
  rotate_left
  · have c1' : (8000 : Int) ≤ (n1 : Int) := by omega
    go_wp2_with fail
    refine (unhide RN _ (bon (unhide HA) (unhide HB))).mono ?_
    rintro _ w4 ⟨rfl, b4⟩
    go_wp2_with fail
    go_ret
    exact ⟨rfl, b4⟩
  have c1' : (n1 : Int) < 8000 := by omega
  have z1 := hz1 c1
  have zs : Hid (szSs D D (m + 1) ss ≤ 8000) := by show _ ≤ _; rw [← z1]; omega
  clear hz1 z1
  obtain ⟨d0, d1, d2, d3, d4⟩ := box_cells (unhide HB)
  go_wp2_with fail
  refine (size_any (kt + 1) t _ _ 8000 _ rfl (TyVal.below (unhide VT) (bon (unhide HA) (unhide HB))) (unhide WT) (by decide) (by decide)).mono ?_
  rintro _ w4 ⟨⟨n2, rfl, hn2, hz2⟩, b4⟩
  replace HB := hide (bon (unhide HB) b4)
  clear b4 d0 d1 d2 d3 d4
  by_cases c2 : n2 < 8000
  rotate_left
  · have c2' : (8000 : Int) ≤ (n2 : Int) := by omega
    go_wp2_with fail
    refine (unhide RN _ (bon (unhide HA) (unhide HB))).mono ?_
    rintro _ w5 ⟨rfl, b5⟩
    go_wp2_with fail
    go_ret
    exact ⟨rfl, b5⟩
  have c2' : (n2 : Int) < 8000 := by omega
  have z2 := hz2 c2
  have zt : Hid (szD (kt + 1) t ≤ 8000) := by show _ ≤ _; rw [← z2]; omega
  clear hz2 z2
  obtain ⟨d0, d1, d2, d3, d4⟩ := box_cells (unhide HB)
  have TY := hide (Type_any kt _ t w4 (TyVal.below (unhide VT) (bon (unhide HA) (unhide HB))) (fit_of_sz (by have := unhide zt; omega)).1 (fit_of_sz (by have := unhide zt; omega)).2 ((unhide HT).below (bon (unhide HA) (unhide HB)) h5) (Nat.le_trans h5 (bon (unhide HA) (unhide HB)).size))
  have SF := hide (stfits_of (Nat.le_trans (unhide zs) (by decide)) (unhide WS))
  go_wp2_with fail
  refine (unhide TY).mono ?_
  clear TY
  rintro _ w5 ⟨rfl, b5⟩
  replace HB := hide (bon (unhide HB) b5)
  clear b5 d0 d1 d2 d3 d4
  obtain ⟨X, Y, hXY⟩ : ∃ (X : ByteArray) (Y : Int), joinAns (typeAns kt t) = .tuple #[.string X, .int .i64 Y] := by
    rcases typeAns kt t with y | s
    · exact ⟨_, _, rfl⟩
    · exact ⟨_, _, rfl⟩
  rw [hXY]
  have hcase : (Y ≠ 0) ∨ (Y = 0 ∧ ∃ (us : List Tok) (s : Bs), X = ⟨s.toArray⟩ ∧ s.length ≤ 65536 ∧ lex s = (us, none) ∧ join us = .inr s ∧ Fits us ∧ us.length ≤ 4096) := by
    rcases hta : typeAns kt t with y | s
    · rw [hta] at hXY
      left
      have h1 := type_inl hta
      simp [joinAns] at hXY
      omega
    · rw [hta] at hXY
      right
      simp [joinAns] at hXY
      unfold typeAns at hta
      split at hta
      · obtain ⟨hl, us, j1, j2, j3, j4⟩ := join_again hta (fits_put _ _ fits_nil (tyToks_fits (kt + 1) false [t] ⟨by simp, fun u hu => by rw [List.mem_singleton] at hu; rw [hu]; exact fit_of_sz (by have := unhide zt; omega)⟩ t (by simp)))
        exact ⟨hXY.2.symm, us, s, hXY.1.symm, hl, j1, j2, j3, j4⟩
      · cases hta
  clear hXY
  go_upto_if 34 with fail
  go_cut [] (fun wx => ∃ Wy : World, Wy = wx ∧ Hid (Below w.heap.size w Wy))
  case first =>
    rcases hcase with hY | ⟨rfl, us, s, rfl, hl, j1, j2, j3, j4⟩
    · have hY' : (Y == 0) = false := beq_eq_false_iff_ne.2 hY
      go_wp2
      go_meet
      case rel => exact ⟨_, rfl, bon (unhide HA) (unhide HB)⟩
    · have hbw := bon (unhide HA) (unhide HB)
      have T1 := hide (tok_ok ⟨s.toArray⟩ us w5 (by rw [size_of]; omega) (by rw [data_of]; exact j1))
      have J2 := hide j2
      have J3 := hide j3
      clear j1 j2 j3
      go_wp2_with fail
      refine (unhide T1).mono ?_
      clear T1
      rintro _ w6 ⟨p6, c6, rfl, hr6, hb6⟩
      have hbw6 := bon hbw hb6
      have J1 := Join_any _ us w6 hr6 (by omega) (unhide J3) ((unhide HT).below hbw6 h5) (Nat.le_trans h5 hbw6.size)
      rw [unhide J2] at J1
      have J1 := hide J1
      go_wp2_with fail
      refine (unhide J1).mono ?_
      clear J1
      rintro _ w7 ⟨rfl, hb7⟩
      have HB7 := hide (bon hbw6 hb7)
      clear hb7 hbw6 hbw hb6
      simp only [joinAns]
      go_wp2
      go_meet
      case rel => exact ⟨_, rfl, unhide HB7⟩
  case rest =>
    obtain ⟨W1, rfl, HB1⟩ := hcut
    clear HB HA hcase
    have ST := hide (Stmts_any D D (m + 1) p c ss W1 (StRow.below (unhide HB1) (m + 1) (unhide HS)) (unhide SF) ((unhide HT).below (unhide HB1) h5) (Nat.le_trans h5 (unhide HB1).size))
    go_wp2_with fail
    refine (unhide ST).mono ?_
    clear ST
    rintro _ w6 ⟨rfl, b6⟩
    have HB6 := hide (bon (unhide HB1) b6)
    clear b6
    rcases hsa : stmtsAns D D (m + 1) ss with y | s
    · have hy := stmts_inl hsa
      have hy' : ((y : Int) == 0) = false := beq_eq_false_iff_ne.2 (by omega)
      have hy2 : ((y : Int) != 0) = true := by rw [bne, hy']; rfl
      clear hsa
      simp only [joinAns]
      go_wp2_with fail
      refine (unhide RN _ (unhide HB6)).mono ?_
      rintro _ w7 ⟨rfl, b7⟩
      go_wp2_with fail
      go_ret
      exact ⟨rfl, b7⟩
    · obtain ⟨hs1, hs2, hs3, hs4⟩ := stmts_told hsa
      have hja : join (putAll [] (stTks D D (m + 1) ss)) = .inr s := by
        unfold stmtsAns at hsa
        split at hsa
        · exact hsa
        · cases hsa
      obtain ⟨hl, us, j1, j2, j3, j4⟩ := join_again hja (fits_put _ _ fits_nil (stTks_fits D D (m + 1) ss (unhide SF)))
      have T1 := hide (tok_ok ⟨s.toArray⟩ us w6 (by rw [size_of]; omega) (by rw [data_of]; exact j1))
      have J2 := hide j2
      have J3 := hide j3
      have HS1 := hide hs1
      have HS3 := hide hs3
      have HS4 := hide hs4
      clear j1 j2 j3 hsa hja hs1 hs3 hs4
      simp only [joinAns]
      go_wp2_with fail
      refine (unhide T1).mono ?_
      clear T1
      rintro _ w7 ⟨p6, c6, rfl, hr6, hb6⟩
      have hbw6 := bon (unhide HB6) hb6
      have J1 := Join_any _ us w7 hr6 (by omega) (unhide J3) ((unhide HT).below hbw6 h5) (Nat.le_trans h5 hbw6.size)
      rw [unhide J2] at J1
      have J1 := hide J1
      go_wp2_with fail
      refine (unhide J1).mono ?_
      clear J1
      rintro _ w8 ⟨rfl, hb7⟩
      have HB7 := hide (bon hbw6 hb7)
      clear hb7 hbw6 hb6 hr6 HB6 HB1
      obtain ⟨Y, hY⟩ : ∃ Y : ByteArray, Y = ⟨s.toArray⟩ := ⟨_, rfl⟩
      simp only [joinAns]
      rw [← hY]
      have HY := hide hY
      clear hY
      go_wp2
      go_loopw [15, 16] (fun q i wr => ∃ (k : Nat) (Q : ByteArray), i = .int .i64 k ∧ q = .string Q ∧ k ≤ ss.length ∧ Q.size ≤ 65536 ∧ Hid (Q = ⟨(firstT D D m ss k).toArray⟩) ∧ Hid (Below w.heap.size w wr)) (fun _ i _ => ss.length - (intOf i).toNat)
      case atStart => exact ⟨0, _, rfl, rfl, by omega, (by decide), rfl, unhide HB7⟩
      case round =>
        obtain ⟨k, Q, rfl, rfl, hk, hQ, HQ, HBr⟩ := hrel
        by_cases hlt : k < ss.length
        · have hlt' : (k : Int) < (ss.length : Int) := by omega
          obtain ⟨p', c', e', hp⟩ := StRow.below (unhide HBr) (m + 1) (unhide HS)
          injection e' with e1 e2 e3
          subst e1
          clear e2 e3
          have hk' : ss[k]? = some ss[k] := by simp
          obtain ⟨g, o, vt', vx, vb, ve, rfl, a0, a1, a2, a3, a4, a5, a6, r1, r2, r3, r4⟩ := hp k _ hk'
          have hone := unhide HS4 k hlt
          have hF1 := hide (show StFits D D (m + 1) [ss[k]] from ⟨by simp, fun u hu => by rw [List.mem_singleton] at hu; rw [hu]; exact (unhide SF).2 _ (List.getElem_mem hlt)⟩)
          have hwr := bon (unhide HBr) (al1 wr (.cells #[.int .i64 (sAt ss[k]), .int .i64 (sKind ss[k]), .string ⟨(sName ss[k]).toArray⟩, vt', vx, vb, ve] 45))
          have hrow : StRow (wr.alloc (.cells #[.int .i64 (sAt ss[k]), .int .i64 (sKind ss[k]), .string ⟨(sName ss[k]).toArray⟩, vt', vx, vb, ve] 45)) D D (m + 1) (.slice (some ⟨wr.heap.size, 0, none⟩) [ss[k]].length 1) [ss[k]] := StRow.one (hp1 _ _) (TyRow.below (al1 _ _) D r1) ⟨ExRow.below (al1 _ _) D r2.1, ExCap.below (al1 _ _) D r2.2⟩ (StRow.below (al1 _ _) m r3) (StRow.below (al1 _ _) m r4)
          have S1 := Stmts_any D D (m + 1) (some ⟨wr.heap.size, 0, none⟩) 1 [ss[k]] _ hrow (unhide hF1) ((unhide HT).below hwr h5) (Nat.le_trans h5 hwr.size)
          rw [hone] at S1
          obtain ⟨Z, hZ⟩ : ∃ Z : ByteArray, Z = ⟨(jtext (stTk D D m ss[k])).toArray⟩ := ⟨_, rfl⟩
          simp only [joinAns, ← hZ, List.length_cons, List.length_nil, Nat.zero_add] at S1
          have HN1 := unhide HS3 (k + 1) hlt
          have HSU := firstT_succ (D := D) (d := D) (m := m) hlt
          obtain ⟨pt', ct', rfl⟩ := r1.slice
          obtain ⟨px', cx', rfl⟩ := r2.1.slice
          obtain ⟨pb', cb', rfl⟩ := r3.slice
          obtain ⟨pe', ce', rfl⟩ := r4.slice
          have S2 := hide S1
          have HWR := hide hwr
          have HZ := hide hZ
          clear S1 hwr hrow r1 r2 r3 r4 hp hk' hone hZ
          by_cases h0 : 0 < k
          · have h0' : (0 : Int) < (k : Int) := by omega
            rw [if_pos h0] at HSU
            have hNew : Hid (Q ++ ⟨#[32]⟩ ++ Z = ⟨(firstT D D m ss (k + 1)).toArray⟩) := by
              show _ = _
              rw [HSU, unhide HQ, unhide HZ]
              apply ByteArray.ext
              simp
            have hNs : (Q ++ ⟨#[32]⟩ ++ Z).size ≤ 65536 := by rw [unhide hNew, size_of]; exact HN1
            have hNs2 := hNs
            rw [ByteArray.size_append, ByteArray.size_append, show ByteArray.size ⟨#[32]⟩ = 1 from rfl] at hNs2
            clear HSU HN1
            go_wp2_with (go_at_call 13; refine (unhide S2).mono ?_; clear S2; rintro x w9 ⟨rfl, b9⟩)
            go_roundw
            case rel => exact ⟨k + 1, _, by go_num, rfl, by omega, hNs, unhide hNew, bon (unhide HWR) b9⟩
            case measure => simp [intOf]; omega
          · obtain rfl : k = 0 := by omega
            simp only [Nat.zero_mul, Nat.add_zero] at a0 a1 a2 a3 a4 a5 a6
            rw [if_neg h0] at HSU
            have hNew : Hid (Q ++ Z = ⟨(firstT D D m ss (0 + 1)).toArray⟩) := by
              show _ = _
              rw [HSU, unhide HQ, unhide HZ]
              apply ByteArray.ext
              simp [firstT, jtext]
            have hNs : (Q ++ Z).size ≤ 65536 := by rw [unhide hNew, size_of]; exact HN1
            have hNs2 := hNs
            rw [ByteArray.size_append] at hNs2
            clear HSU HN1
            go_wp2_with (go_at_call 13; refine (unhide S2).mono ?_; clear S2; rintro x w9 ⟨rfl, b9⟩)
            go_roundw
            case rel => exact ⟨1, _, by go_num, rfl, by omega, hNs, unhide hNew, bon (unhide HWR) b9⟩
            case measure => simp [intOf]; omega
        · obtain rfl : k = ss.length := by omega
          have hlt' : ¬ (ss.length : Int) < (ss.length : Int) := by omega
          obtain rfl : Q = Y := by rw [unhide HQ, unhide HY, unhide HS1]
          clear HQ HY
          go_wp2_with fail
          refine (unhide RN _ (unhide HBr)).mono ?_
          rintro _ w9 ⟨rfl, b9⟩
          go_wp2_with fail
          go_ret
          exact ⟨rfl, b9⟩
end Go.Proofs.YtdahegogdblahaaGreatDoor
