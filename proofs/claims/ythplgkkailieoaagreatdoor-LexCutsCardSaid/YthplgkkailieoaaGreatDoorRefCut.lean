/-
  coilref1.cut, walked: the token that begins at a place.
-/
import Derived.Test.YthplgkkailieoaaGreatDoorRefQuoted2
import Derived.Test.YthplgkkailieoaaGreatDoorRefNumber
import Derived.BigQuiet
import Derived.BigRegion
namespace Go.Proofs.YthplgkkailieoaaGreatDoor
open Go Go.RowKit Lx

theorem next_name {l : Bs} (h : smallB (hd l) = true ∨ greatB (hd l) = true) : next l 0 = cutName l := by
  have hb : beginB (hd l) = true := by rcases h with h | h <;> simp [beginB, h]
  have hx : 65 ≤ hd l ∧ hd l ≤ 122 ∧ ¬ (91 ≤ hd l ∧ hd l ≤ 96) := by
    rcases h with h | h
    · simp [smallB] at h; omega
    · simp [greatB] at h; omega
  have hdg : digitB (hd l) = false := by simp [digitB]; omega
  have hsg : signB (hd l) = false := by
    simp only [signB, signs, List.contains_cons, List.contains_nil, Bool.or_eq_false_iff, beq_eq_false_iff_ne]
    refine ⟨?_, ?_, ?_, ?_, ?_, ?_, ?_, ?_, ?_, ?_, ?_, ?_, ?_, trivial⟩ <;> omega
  rw [next, if_neg (by rw [hb]; decide), if_neg (by omega), cut, if_neg (by rw [hdg]; decide), if_neg (by omega), if_neg (by rw [hsg]; decide)]
theorem next_number {l : Bs} (h : digitB (hd l) = true) : next l 0 = cutNumber l := by
  have hb : beginB (hd l) = true := by simp [beginB, h]
  rw [next, if_neg (by rw [hb]; decide), if_neg (by omega), cut, if_pos h]
theorem next_text {l : Bs} (h : hd l = 34) : next l 0 = cutText l := by
  have hb : beginB (hd l) = true := by simp [beginB, h]
  rw [next, if_neg (by rw [hb]; decide), if_neg (by omega), cut, if_neg (by rw [h]; decide), if_pos h]
theorem sign_two (l : Bs) (h : signB (hd l) = true) (hne : l ≠ []) : signRows.find? (fun r => r.isPrefixOf l) = some (if [61, 61].isPrefixOf l = true then [61, 61] else l.take 1) := by
  obtain ⟨c, t, rfl⟩ := List.exists_cons_of_ne_nil hne
  have hc : ∀ n : Nat, n < 256 → (c.toNat : Int) = n → c = n.toUInt8 := fun n hn h => byte_is hn h
  have h' : signB (c.toNat : Int) = true := h
  simp only [signB, signs, List.contains_cons, List.contains_nil, Bool.or_eq_true, beq_iff_eq, Bool.false_eq_true, or_false] at h'
  rcases h' with h | h | h | h | h | h | h | h | h | h | h | h | h
  · obtain rfl := hc 40 (by decide) h; rfl
  · obtain rfl := hc 41 (by decide) h; rfl
  · obtain rfl := hc 123 (by decide) h; rfl
  · obtain rfl := hc 125 (by decide) h; rfl
  · obtain rfl := hc 59 (by decide) h; rfl
  · obtain rfl := hc 58 (by decide) h; rfl
  · obtain rfl := hc 44 (by decide) h; rfl
  · obtain rfl := hc 46 (by decide) h; rfl
  · obtain rfl := hc 61 (by decide) h
    cases t with
    | nil => rfl
    | cons d u =>
      by_cases e : d = 61
      · subst e; simp [signRows, List.isPrefixOf]
      · have e' : ((61 : UInt8) == d) = false := by simpa using fun h => e h.symm
        simp [signRows, List.find?, List.isPrefixOf, e']
  · obtain rfl := hc 60 (by decide) h; rfl
  · obtain rfl := hc 43 (by decide) h; rfl
  · obtain rfl := hc 45 (by decide) h; rfl
  · obtain rfl := hc 42 (by decide) h; rfl
theorem sign_none (l : Bs) (h : signB (hd l) = false) (hne : l ≠ []) : signRows.find? (fun r => r.isPrefixOf l) = none := by
  obtain ⟨c, t, rfl⟩ := List.exists_cons_of_ne_nil hne
  have hh : ∀ r ∈ signRows, signB (hd r) = true ∧ r ≠ [] := by decide
  rw [List.find?_eq_none]
  intro r hr hp
  obtain ⟨h1, h2⟩ := hh r hr
  obtain ⟨d, u, rfl⟩ := List.exists_cons_of_ne_nil h2
  simp [List.isPrefixOf] at hp
  rw [hp.1] at h1
  exact absurd h1 (by rw [show hd (c :: u) = hd (c :: t) from rfl, h]; decide)
/-- Where neither a name, a number nor a text begins. -/
theorem next_sign {l : Bs} (hne : l ≠ []) (h1 : smallB (hd l) = false) (h2 : greatB (hd l) = false) (h3 : digitB (hd l) = false) (h4 : hd l ≠ 34) :
    next l 0 = match signRows.find? (fun r => r.isPrefixOf l) with
      | some r => .inr (6, r, 0, r.length)
      | none => .inl (0, 10) := by
  have q : (hd l == 34) = false := by simpa using h4
  have hb : beginB (hd l) = signB (hd l) := by rw [beginB, h1, h2, h3, q]; simp
  by_cases hs : signB (hd l) = true
  · rw [sign_two l hs hne, next, if_neg (by rw [hb, hs]; decide), if_neg (by omega), cut, if_neg (by rw [h3]; decide), if_neg h4, if_pos hs, cutSign]
    obtain ⟨c, t, rfl⟩ := List.exists_cons_of_ne_nil hne
    by_cases hp : [61, 61].isPrefixOf (c :: t) = true
    · rw [if_pos hp]
      simp only [hp, if_true]
      cases t with
      | nil => simp [List.isPrefixOf] at hp
      | cons d u =>
        simp [List.isPrefixOf] at hp
        obtain ⟨rfl, rfl⟩ := hp
        rfl
    · rw [if_neg hp]
      simp only [hp]
      rfl
  · have hs := (Bool.not_eq_true _).mp hs
    rw [sign_none l hs hne, next, if_pos (by rw [hb, hs])]
theorem prefix_extract (s : ByteArray) (a z : Nat) (F : ByteArray) (r : Bs) (hF : (⟨r.toArray⟩ : ByteArray) = F) (hz : z = a + F.size) : ((s.extract a z).toList == F.toList) = r.isPrefixOf (s.data.toList.drop a) := by
  have hl : F.size = r.length := by rw [← hF]; show r.toArray.size = _; simp
  rw [hz, hl, extract_take, toList_data, toList_data, ← hF]
  simp only
  rw [Bool.eq_iff_iff, beq_iff_eq, List.isPrefixOf_iff_prefix, List.prefix_iff_eq_take]
  exact ⟨fun h => h.symm, fun h => h.symm⟩
theorem prefix_le (s : ByteArray) (a : Nat) (r : Bs) (ha : a ≤ s.size) (h : r.isPrefixOf (s.data.toList.drop a) = true) : a + r.length ≤ s.size := by
  have := (List.isPrefixOf_iff_prefix.1 h).length_le
  rw [List.length_drop, len_data] at this
  omega
set_option maxHeartbeats 4000000 in
set_option maxRecDepth 100000 in
theorem rcut_any (s : ByteArray) (a : Nat) (w : World) (h0 : a < s.size) (hs : s.size ≤ 140737488355328) (R : Value) (hR : RCut a (next (s.data.toList.drop a) 0) = R) :
    Calls Tryz.prog 24 #[.string s, .int .i64 a] w fun e w' => e = .returned R ∧ Below w.heap.size w w' := by
  have hd0 : Lx.hd (s.data.toList.drop a) = (s[a].toNat : Int) := by rw [drop_cons s a h0]; rfl
  have hne : s.data.toList.drop a ≠ [] := by rw [drop_cons s a h0]; simp
  have h0' : (a : Int) < (s.size : Int) := by omega
  by_cases hn : smallB (s[a].toNat : Int) = true ∨ greatB (s[a].toNat : Int) = true
  · have hnb : nameB (s[a].toNat : Int) = true := by rcases hn with h | h <;> simp [nameB, h]
    rw [next_name (by rw [hd0]; exact hn)] at hR
    have NM := hide (fun W => rname_any s a W h0 hs hnb R hR)
    have hn' : smallB (s[a].toNat : Int) = true ∨ (smallB (s[a].toNat : Int) = false ∧ greatB (s[a].toNat : Int) = true) := by
      by_cases h : smallB (s[a].toNat : Int) = true
      · exact .inl h
      · exact .inr ⟨(Bool.not_eq_true _).mp h, hn.resolve_left h⟩
    obtain ⟨o, y, hRR⟩ | ⟨k, t, v, n, hRR⟩ : (∃ o y, RCut a (cutName (s.data.toList.drop a)) = rbad y o) ∨ (∃ k t v n, RCut a (cutName (s.data.toList.drop a)) = rcut a k t v n) := by
      cases cutName (s.data.toList.drop a) with
      | inl x => exact .inl ⟨_, _, rfl⟩
      | inr x => exact .inr ⟨_, _, _, _, rfl⟩
    all_goals
      rw [hRR] at hR
      subst hR
      clear hRR hnb hn hd0 hne
      rcases hn' with g1 | ⟨g1, g2⟩
      all_goals
        go_enter Tryz.func24, Tryz.ntmps24
        go_wp2_with (first | (go_at_call 43; refine (rsmall_any _ _).mono ?_; rintro e w' ⟨rfl, rfl⟩; rw [g1]) | (go_at_call 44; refine (rgreat_any _ _).mono ?_; rintro e w' ⟨rfl, rfl⟩; rw [g2]) | (go_at_call 47; refine (unhide NM _).mono ?_; rintro e w1 ⟨rfl, hb1⟩; obtain ⟨hc, hf⟩ := bcell hb1; dsimp only [rbad, rcut]))
        first
        | exact bodyPost_ret (v := rbad y o) (by simp [results, Tryz.results24, go_sem, hc, rbad]) rfl ⟨rfl, below7 ((Below.refl _ _).alloc (Nat.le_refl _) _ |>.trans (hb1.mono (by simp))) (Nat.le_refl _) _ _ _ _ _ _ _⟩
        | exact bodyPost_ret (v := rcut a k t v n) (by simp [results, Tryz.results24, go_sem, hc, rcut]) rfl ⟨rfl, below7 ((Below.refl _ _).alloc (Nat.le_refl _) _ |>.trans (hb1.mono (by simp))) (Nat.le_refl _) _ _ _ _ _ _ _⟩
  · have g1 : smallB (s[a].toNat : Int) = false := (Bool.not_eq_true _).mp fun h => hn (.inl h)
    have g2 : greatB (s[a].toNat : Int) = false := (Bool.not_eq_true _).mp fun h => hn (.inr h)
    clear hn
    by_cases g3 : digitB (s[a].toNat : Int) = true
    · rw [next_number (by rw [hd0]; exact g3)] at hR
      have NM := hide (fun W => rnumber_any s a W h0 hs g3 R hR)
      obtain ⟨o, y, hRR⟩ | ⟨k, t, v, n, hRR⟩ : (∃ o y, RCut a (cutNumber (s.data.toList.drop a)) = rbad y o) ∨ (∃ k t v n, RCut a (cutNumber (s.data.toList.drop a)) = rcut a k t v n) := by
        cases cutNumber (s.data.toList.drop a) with
        | inl x => exact .inl ⟨_, _, rfl⟩
        | inr x => exact .inr ⟨_, _, _, _, rfl⟩
      all_goals
        rw [hRR] at hR
        subst hR
        clear hRR hd0 hne
        go_enter Tryz.func24, Tryz.ntmps24
        go_wp2_with (first | (go_at_call 43; refine (rsmall_any _ _).mono ?_; rintro e w' ⟨rfl, rfl⟩; rw [g1]) | (go_at_call 44; refine (rgreat_any _ _).mono ?_; rintro e w' ⟨rfl, rfl⟩; rw [g2]) | (go_at_call 45; refine (rdigit_any _ _).mono ?_; rintro e w' ⟨rfl, rfl⟩; rw [g3]) | (go_at_call 48; refine (unhide NM _).mono ?_; rintro e w1 ⟨rfl, hb1⟩; obtain ⟨hc, hf⟩ := bcell hb1; dsimp only [rbad, rcut]))
        first
        | exact bodyPost_ret (v := rbad y o) (by simp [results, Tryz.results24, go_sem, hc, rbad]) rfl ⟨rfl, below7 ((Below.refl _ _).alloc (Nat.le_refl _) _ |>.trans (hb1.mono (by simp))) (Nat.le_refl _) _ _ _ _ _ _ _⟩
        | exact bodyPost_ret (v := rcut a k t v n) (by simp [results, Tryz.results24, go_sem, hc, rcut]) rfl ⟨rfl, below7 ((Below.refl _ _).alloc (Nat.le_refl _) _ |>.trans (hb1.mono (by simp))) (Nat.le_refl _) _ _ _ _ _ _ _⟩
    · have g3 := (Bool.not_eq_true _).mp g3
      by_cases g4 : (s[a].toNat : Int) = 34
      · rw [next_text (by rw [hd0]; exact g4)] at hR
        have NM := hide (fun W => rquoted_any s a W h0 hs R hR)
        have q4 : ((s[a].toNat : Int) == 34) = true := by simp [g4]
        clear g4
        obtain ⟨o, y, hRR⟩ | ⟨k, t, v, n, hRR⟩ : (∃ o y, RCut a (cutText (s.data.toList.drop a)) = rbad y o) ∨ (∃ k t v n, RCut a (cutText (s.data.toList.drop a)) = rcut a k t v n) := by
          cases cutText (s.data.toList.drop a) with
          | inl x => exact .inl ⟨_, _, rfl⟩
          | inr x => exact .inr ⟨_, _, _, _, rfl⟩
        all_goals
          rw [hRR] at hR
          subst hR
          clear hRR hd0 hne
          go_enter Tryz.func24, Tryz.ntmps24
          go_wp2_with (first | (go_at_call 43; refine (rsmall_any _ _).mono ?_; rintro e w' ⟨rfl, rfl⟩; rw [g1]) | (go_at_call 44; refine (rgreat_any _ _).mono ?_; rintro e w' ⟨rfl, rfl⟩; rw [g2]) | (go_at_call 45; refine (rdigit_any _ _).mono ?_; rintro e w' ⟨rfl, rfl⟩; rw [g3]) | (go_at_call 49; refine (unhide NM _).mono ?_; rintro e w1 ⟨rfl, hb1⟩; obtain ⟨hc, hf⟩ := bcell hb1; dsimp only [rbad, rcut]))
          first
          | exact bodyPost_ret (v := rbad y o) (by simp [results, Tryz.results24, go_sem, hc, rbad]) rfl ⟨rfl, below7 ((Below.refl _ _).alloc (Nat.le_refl _) _ |>.trans (hb1.mono (by simp))) (Nat.le_refl _) _ _ _ _ _ _ _⟩
          | exact bodyPost_ret (v := rcut a k t v n) (by simp [results, Tryz.results24, go_sem, hc, rcut]) rfl ⟨rfl, below7 ((Below.refl _ _).alloc (Nat.le_refl _) _ |>.trans (hb1.mono (by simp))) (Nat.le_refl _) _ _ _ _ _ _ _⟩
      · have q4 : ((s[a].toNat : Int) == 34) = false := by simpa using g4
        rw [next_sign hne (by rw [hd0]; exact g1) (by rw [hd0]; exact g2) (by rw [hd0]; exact g3) (by rw [hd0]; exact g4)] at hR
        have HR := hide hR
        clear hR hd0 hne g4
        go_enter Tryz.func24, Tryz.ntmps24
        go_wp2_with (first | (go_at_call 43; refine (rsmall_any _ _).mono ?_; rintro e w' ⟨rfl, rfl⟩; rw [g1]) | (go_at_call 44; refine (rgreat_any _ _).mono ?_; rintro e w' ⟨rfl, rfl⟩; rw [g2]) | (go_at_call 45; refine (rdigit_any _ _).mono ?_; rintro e w' ⟨rfl, rfl⟩; rw [g3]) | (go_at_call 46; refine (rsigns_any _).mono ?_; rintro e wv ⟨rfl, rfl⟩))
        have HW := hide (sign_cell (w.alloc cut0))
        simp only [World.size_alloc] at HW
        have HC : Hid (∀ j, j < 7 → ((w.alloc cut0).alloc (.cells signCells 9)).cell? ⟨w.heap.size, j, none⟩ = some (#[Value.int .i64 0, .int .i64 0, .string ⟨#[]⟩, .int .i64 0, .int .i64 0, .int .i64 0, .int .i64 0].getD j (.int .i64 0))) := fun j hj => by
          rw [World.cell?_alloc_lt _ _ _ (by simp), World.cell?_alloc_at _ _ _ _ (by rfl)]
          rcases j with _ | _ | _ | _ | _ | _ | _ | j
          all_goals first | rfl | omega
        have HF : Hid (∀ o, ((w.alloc cut0).alloc (.cells signCells 9)).frozen? ⟨w.heap.size, o, none⟩ = false) := fun o => by simp
        have HB1 : Below w.heap.size w ((w.alloc cut0).alloc (.cells signCells 9)) := below2 _ _ _
        have HS1 : ((w.alloc cut0).alloc (.cells signCells 9)).heap.size = w.heap.size + 2 := by simp
        revert HW HB1 HC HF HS1
        generalize (w.alloc cut0).alloc (.cells signCells 9) = W1
        intro HW HC HF HB1 HS1
        go_loopw [7] (fun i wr => ∃ k : Nat, k ≤ 14 ∧ i = .int .i64 k ∧ Below W1.heap.size W1 wr ∧ Hid (signRows.find? (fun r => r.isPrefixOf (s.data.toList.drop a)) = (signRows.drop k).find? (fun r => r.isPrefixOf (s.data.toList.drop a)))) (fun i _ => 14 - (intOf i).toNat)
        case atStart => exact ⟨0, by omega, rfl, Below.refl _ _, rfl⟩
        case round =>
          obtain ⟨k, hk, rfl, hb, HK⟩ := hrel
          have hbs := hb.size
          by_cases hlt : k < 14
          · have c0 := (hb.cell (p := ⟨w.heap.size + 1, k, none⟩) (by show w.heap.size + 1 < W1.heap.size; omega)).trans (unhide HW k hlt)
            have hlt' : (k : Int) < 14 := by omega
            obtain ⟨_, hrl⟩ := sign_row k hlt
            have hdr : signRows.drop k = signRows.getD k [] :: signRows.drop (k + 1) := by
              have hwl : k < signRows.length := hlt
              rw [List.drop_eq_getElem_cons hwl, List.getD_eq_getElem?_getD, List.getElem?_eq_getElem hwl]; rfl
            have e := unhide HK
            rw [hdr, List.find?_cons] at e
            clear hdr HK
            revert c0 e hrl
            generalize signRows.getD k [] = row
            intro c0 hrl e
            obtain ⟨F, hF⟩ : ∃ F : ByteArray, (⟨row.toArray⟩ : ByteArray) = F := ⟨_, rfl⟩
            have hFl : F.size = row.length := by rw [← hF]; show row.toArray.size = _; simp
            rw [hF] at c0
            obtain ⟨z, hz⟩ : ∃ z, z = a + F.size := ⟨_, rfl⟩
            have hpx := prefix_extract s a z F row hF hz
            have hzi : (a : Int) + (F.size : Int) = (z : Int) := by omega
            have hF2 : F.size ≤ 2 := by omega
            have haz : a ≤ z := by omega
            by_cases hp : row.isPrefixOf (s.data.toList.drop a) = true
            · have hzs : z ≤ s.size := by have := prefix_le s a row (by omega) hp; omega
              have HV : Hid (rcut (a : Int) 6 F 0 (z : Int) = R) := by
                rw [hp] at e
                show _ = _
                rw [← unhide HR, e, ← hF]
                show _ = rcut (a : Int) 6 ⟨row.toArray⟩ 0 ((a + row.length : Nat) : Int)
                rw [hz, hFl]
              rw [hp] at hpx
              have hzs' : (z : Int) ≤ (s.size : Int) := by omega
              clear hp e HR hF hFl hz hrl
              go_wp2
              go_quiet (fail)
              have hb2 : Below W1.heap.size W1 (wr.drewN nq) := below_drewN hb nq
              have c0' : (wr.drewN nq).cell? ⟨w.heap.size + 1, k, none⟩ = some (.string F) := c0
              clear hb c0 hbs
              revert hb2 c0'
              generalize wr.drewN nq = wd
              intro hb2 c0
              have hsd := hb2.size
              have hq2 : w.heap.size + 1 < wd.heap.size := by omega
              have hq1 : w.heap.size < wd.heap.size := by omega
              go_upto_region 15 with fail
              have HX : ∀ o, (wd.alloc (.cells #[.int .i64 a, .int .i64 6, .string F, .int .i64 0] 40)).cell? ⟨w.heap.size, o, none⟩ = W1.cell? ⟨w.heap.size, o, none⟩ := fun o => (World.cell?_alloc_lt _ _ _ hq1).trans (hb2.cell (p := ⟨w.heap.size, o, none⟩) (by show w.heap.size < W1.heap.size; omega))
              have x0 := (HX 0).trans (unhide HC 0 (by omega))
              have x1 := (HX 1).trans (unhide HC 1 (by omega))
              have x2 := (HX 2).trans (unhide HC 2 (by omega))
              have x3 := (HX 3).trans (unhide HC 3 (by omega))
              have x4 := (HX 4).trans (unhide HC 4 (by omega))
              have x5 := (HX 5).trans (unhide HC 5 (by omega))
              have x6 := (HX 6).trans (unhide HC 6 (by omega))
              have xf : ∀ o, (wd.alloc (.cells #[.int .i64 a, .int .i64 6, .string F, .int .i64 0] 40)).frozen? ⟨w.heap.size, o, none⟩ = false := fun o => (((Below.refl wd.heap.size wd).alloc (Nat.le_refl _) _).frozen (p := ⟨w.heap.size, o, none⟩) hq1).trans ((hb2.frozen (p := ⟨w.heap.size, o, none⟩) (by show w.heap.size < W1.heap.size; omega)).trans (unhide HF o))
              have hy : ∀ o, (wd.alloc (.cells #[.int .i64 a, .int .i64 6, .string F, .int .i64 0] 40)).cell? ⟨wd.heap.size, o, none⟩ = #[Value.int .i64 a, .int .i64 6, .string F, .int .i64 0][o]? := fun o => by rw [World.cell?_alloc_at _ _ _ _ (by rfl)]
              have y0 := hy 0
              have y1 := hy 1
              have y2 := hy 2
              have y3 := hy 3
              have c1 : (wd.alloc (.cells #[.int .i64 a, .int .i64 6, .string F, .int .i64 0] 40)).cell? ⟨w.heap.size + 1, k, none⟩ = some (.string F) := (World.cell?_alloc_lt _ _ _ hq2).trans c0
              have hB2 : Below w.heap.size w (wd.alloc (.cells #[.int .i64 a, .int .i64 6, .string F, .int .i64 0] 40)) := (HB1.trans (hb2.mono (by omega))).alloc (by omega) _
              clear HX hy c0 hb2 HB1 HW HC HF
              revert x0 x1 x2 x3 x4 x5 x6 xf y0 y1 y2 y3 c1 hB2
              generalize wd.alloc (.cells #[.int .i64 a, .int .i64 6, .string F, .int .i64 0] 40) = W2
              clear HS1 hsd hq2 hq1
              generalize wd.heap.size = B
              intro x0 x1 x2 x3 x4 x5 x6 xf y0 y1 y2 y3 c1 hB2
              simp at y0 y1 y2 y3 x0 x1 x2 x3 x4 x5 x6
              go_wp2
              go_region
              go_wp2
              exact bodyPost_ret (v := rcut (a : Int) 6 F 0 (z : Int)) (by simp [results, Tryz.results24, go_sem, x0, x1, x2, x3, x4, x5, x6, rcut]) rfl ⟨ret_val (unhide HV), (below7 hB2 (Nat.le_refl _) _ _ _ _ _ _ _).drew⟩
            · have hp := (Bool.not_eq_true _).mp hp
              rw [hp] at hpx e
              have HN := hide e
              by_cases hzs : z ≤ s.size
              · have hzs' : (z : Int) ≤ (s.size : Int) := by omega
                clear hp e HR hF hFl hz hrl HW HC HF
                go_wp2
                go_quiet (fail)
                go_wp2
                go_roundw
                case rel => exact ⟨k + 1, by omega, by go_num, below_drewN hb _, HN⟩
                case measure => simp [intOf]; omega
              · have hzs' : decide (z ≤ s.size) = false := by simp; omega
                have hzb : IntKind.i64.wrap (z : Int) = (z : Int) := by rw [IntKind.wrap_i64]; omega
                clear hp e HR hF hFl hz hrl hzs HW HC HF
                go_wp2
                go_quiet (fail)
                go_wp2
                go_roundw
                case rel => exact ⟨k + 1, by omega, by go_num, below_drewN hb _, HN⟩
                case measure => simp [intOf]; omega
          · have HV : Hid (rbad 10 (a : Int) = R) := by
              have e := unhide HK
              rw [show signRows.drop k = [] from List.drop_of_length_le (by simp [signRows]; omega)] at e
              show _ = _
              rw [← unhide HR, e]
              rfl
            have hq1 : w.heap.size < wr.heap.size := by omega
            have HX : ∀ o, wr.cell? ⟨w.heap.size, o, none⟩ = W1.cell? ⟨w.heap.size, o, none⟩ := fun o => hb.cell (p := ⟨w.heap.size, o, none⟩) (by show w.heap.size < W1.heap.size; omega)
            have x0 := (HX 0).trans (unhide HC 0 (by omega))
            have x1 := (HX 1).trans (unhide HC 1 (by omega))
            have x2 := (HX 2).trans (unhide HC 2 (by omega))
            have x3 := (HX 3).trans (unhide HC 3 (by omega))
            have x4 := (HX 4).trans (unhide HC 4 (by omega))
            have x5 := (HX 5).trans (unhide HC 5 (by omega))
            have x6 := (HX 6).trans (unhide HC 6 (by omega))
            have xf : ∀ o, wr.frozen? ⟨w.heap.size, o, none⟩ = false := fun o => (hb.frozen (p := ⟨w.heap.size, o, none⟩) (by show w.heap.size < W1.heap.size; omega)).trans (unhide HF o)
            simp at x0 x1 x2 x3 x4 x5 x6
            have hbw : Below w.heap.size w wr := HB1.trans (hb.mono (by omega))
            clear HX HW HC HF HK HR hb HB1
            go_wp2_with (go_at_call 50; refine (wrong_any _ _ _).mono ?_; rintro e w1 ⟨rfl, hb1⟩; have d0 := (hb1.cell (p := ⟨w.heap.size, 0, none⟩) hq1).trans x0; have d1 := (hb1.cell (p := ⟨w.heap.size, 1, none⟩) hq1).trans x1; have d2 := (hb1.cell (p := ⟨w.heap.size, 2, none⟩) hq1).trans x2; have d3 := (hb1.cell (p := ⟨w.heap.size, 3, none⟩) hq1).trans x3; have d4 := (hb1.cell (p := ⟨w.heap.size, 4, none⟩) hq1).trans x4; have d5 := (hb1.cell (p := ⟨w.heap.size, 5, none⟩) hq1).trans x5; have d6 := (hb1.cell (p := ⟨w.heap.size, 6, none⟩) hq1).trans x6; have df : ∀ o, w1.frozen? ⟨w.heap.size, o, none⟩ = false := fun o => (hb1.frozen (p := ⟨w.heap.size, o, none⟩) hq1).trans (xf o); dsimp only [rbad])
            exact bodyPost_ret (v := rbad 10 (a : Int)) (by simp [results, Tryz.results24, go_sem, d0, d1, d2, d3, d4, d5, d6, rbad]) rfl ⟨ret_val (unhide HV), below7 (hbw.trans (hb1.mono (by omega))) (Nat.le_refl _) _ _ _ _ _ _ _⟩
end Go.Proofs.YthplgkkailieoaaGreatDoor
