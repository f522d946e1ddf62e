/-
  coilref1: its bytes, words, signs and refusals, walked.
-/
import Derived.Test.YthplgkkailieoaaGreatDoorJoinF
import Derived.Test.YthplgkkailieoaaGreatDoorLaws9
namespace Go.Proofs.YthplgkkailieoaaGreatDoor
open Go Go.RowKit Lx

theorem rsmall_any (b : Int) (w : World) : Calls Tryz.prog 43 #[.int .u8 b] w fun e w' => e = .returned (.bool (smallB b)) ∧ w = w' := by
  go_enter Tryz.func43, Tryz.ntmps43
  go_wp2
  all_goals
    go_ret
    simp_all [smallB]
    try omega
theorem rgreat_any (b : Int) (w : World) : Calls Tryz.prog 44 #[.int .u8 b] w fun e w' => e = .returned (.bool (greatB b)) ∧ w = w' := by
  go_enter Tryz.func44, Tryz.ntmps44
  go_wp2
  all_goals
    go_ret
    simp_all [greatB]
    try omega
theorem rdigit_any (b : Int) (w : World) : Calls Tryz.prog 45 #[.int .u8 b] w fun e w' => e = .returned (.bool (digitB b)) ∧ w = w' := by
  go_enter Tryz.func45, Tryz.ntmps45
  go_wp2
  all_goals
    go_ret
    simp_all [digitB]
    try omega
theorem rgrows_any (b : Int) (w : World) : Calls Tryz.prog 70 #[.int .u8 b] w fun e w' => e = .returned (.bool (nameB b)) ∧ w = w' := by
  go_enter Tryz.func70, Tryz.ntmps70
  go_wp2_with (first | (go_at_call 43; refine (rsmall_any _ _).mono ?_; rintro e w' ⟨rfl, rfl⟩) | (go_at_call 44; refine (rgreat_any _ _).mono ?_; rintro e w' ⟨rfl, rfl⟩) | (go_at_call 45; refine (rdigit_any _ _).mono ?_; rintro e w' ⟨rfl, rfl⟩))
  all_goals
    go_ret
    simp_all [nameB]
/-- may a byte stand in a text as it is? -/
def rplainB (b : Int) : Bool := plainB b && b != 34 && b != 92
theorem rplain_any (b : Int) (w : World) : Calls Tryz.prog 72 #[.int .u8 b] w fun e w' => e = .returned (.bool (rplainB b)) ∧ w = w' := by
  go_enter Tryz.func72, Tryz.ntmps72
  go_wp2
  all_goals
    go_ret
    simp_all [rplainB, plainB]
    try omega
theorem rsaid_any (b : Int) (w : World) : Calls Tryz.prog 63 #[.int .u8 b] w fun e w' => e = .returned (.bool (b == 10 || plainB b)) ∧ w = w' := by
  go_enter Tryz.func63, Tryz.ntmps63
  go_wp2
  all_goals
    go_ret
    simp_all [plainB]
    try omega
/-- What coilref1 says of a cut: the token, where it ends; or why not, and where. -/
def rcut (a k : Int) (s : ByteArray) (v z : Int) : Value := .agg #[.int .i64 a, .int .i64 k, .string s, .int .i64 v, .int .i64 z, .int .i64 0, .int .i64 0]
def rbad (y p : Int) : Value := .agg #[.int .i64 0, .int .i64 0, .string ⟨#[]⟩, .int .i64 0, .int .i64 0, .int .i64 y, .int .i64 p]
theorem wrong_any (y p : Int) (w : World) : Calls Tryz.prog 50 #[.int .i64 y, .int .i64 p] w fun e w' => e = .returned (rbad y p) ∧ Below w.heap.size w w' := by
  go_enter Tryz.func50, Tryz.ntmps50
  go_wp2
  exact bodyPost_ret (v := rbad y p) (by simp [results, Tryz.results50, go_sem, rbad]) rfl ⟨rfl, (Below.refl _ _).alloc (Nat.le_refl _) _⟩

theorem rwords_any (w : World) : Calls Tryz.prog 36 #[] w fun e w' => e = .returned (.slice (some ⟨w.heap.size, 0, none⟩) 25 25) ∧ w' = w.alloc (.cells wordCells 9) := refWords_any w
set_option maxHeartbeats 1000000 in
set_option maxRecDepth 100000 in
theorem rword_any (s : ByteArray) (b : Bool) (hb : words.contains s.data.toList = b) (w : World) : Calls Tryz.prog 71 #[.string s] w fun e w' => e = .returned (.bool b) ∧ Below w.heap.size w w' := by
  have HBB := hide hb
  clear hb
  go_enter Tryz.func71, Tryz.ntmps71
  go_wp2_with (go_at_call 36; refine (rwords_any _).mono ?_; rintro e wv ⟨rfl, rfl⟩)
  have HW := hide (word_cell w)
  have HB1 : Below w.heap.size w (w.alloc (.cells wordCells 9)) := (Below.refl _ _).alloc (Nat.le_refl _) _
  revert HW HB1
  generalize w.alloc (.cells wordCells 9) = W1
  intro HW HB1
  go_loop [4] (fun i => ∃ k : Nat, k ≤ 25 ∧ i = .int .i64 k ∧ Hid (words.contains s.data.toList = (words.drop k).contains s.data.toList)) (fun i => 25 - (intOf i).toNat)
  case atStart => exact ⟨0, by omega, rfl, rfl⟩
  case round =>
    obtain ⟨k, hk, rfl, HK⟩ := hrel
    by_cases hlt : k < 25
    · have c0 := unhide HW k (by simpa [wordStrs, words] using hlt)
      rw [Nat.zero_add] at c0
      have hlt' : (k : Int) < 25 := by omega
      have hwl : k < words.length := by simpa [words] using hlt
      have hdr : words.drop k = words.getD k [] :: words.drop (k + 1) := by
        rw [List.drop_eq_getElem_cons hwl, List.getD_eq_getElem?_getD, List.getElem?_eq_getElem hwl]; rfl
      have hws : (wordStrs.getD k ByteArray.empty).data.toList = words.getD k [] := by
        simp [wordStrs, List.getD_eq_getElem?_getD, List.getElem?_eq_getElem hwl]
      have e := unhide HK
      rw [hdr, ← hws] at e
      clear hdr hws HK
      revert c0 e
      generalize wordStrs.getD k ByteArray.empty = ws
      intro c0 e
      by_cases hw : ws = s
      · subst hw
        have HT : Hid (true = b) := by show _ = _; rw [← unhide HBB, e]; simp
        clear e
        go_wp2
        go_ret
        exact ⟨ret_bool (unhide HT), HB1⟩
      · have q : (ws.toList == s.toList) = false := by
          rw [beq_eq_false_iff_ne, toList_data, toList_data]
          intro h; apply hw; apply ByteArray.ext; apply Array.ext'; exact h
        have HN : Hid (words.contains s.data.toList = (words.drop (k + 1)).contains s.data.toList) := by
          show _ = _
          rw [e, List.contains_cons, show (s.data.toList == ws.data.toList) = false from by
            rw [beq_eq_false_iff_ne]; intro h; apply hw; apply ByteArray.ext; apply Array.ext'; exact h.symm]
          rfl
        clear e
        go_wp2
        go_round
        case rel => exact ⟨k + 1, by omega, by go_num, HN⟩
        case measure => simp [intOf]; omega
    · have HT : Hid (false = b) := by
        have e := unhide HK
        rw [List.drop_of_length_le (by simp [words]; omega), unhide HBB] at e
        exact e.symm
      go_wp2
      go_ret
      exact ⟨ret_bool (unhide HT), HB1⟩

def signRows : List Bs := [[61, 61], [40], [41], [123], [125], [59], [58], [44], [46], [61], [60], [43], [45], [42]]
def signCells : Array Value := (signRows.map fun s => Value.string ⟨s.toArray⟩).toArray
theorem rsigns_any (w : World) : Calls Tryz.prog 46 #[] w fun e w' => e = .returned (.slice (some ⟨w.heap.size, 0, none⟩) 14 14) ∧ w' = w.alloc (.cells signCells 9) := by
  go_enter Tryz.func46, Tryz.ntmps46
  go_wp2
  go_ret
  exact ⟨rfl, rfl⟩
theorem sign_cell (w : World) : ∀ j, j < 14 → (w.alloc (.cells signCells 9)).cell? ⟨w.heap.size, j, none⟩ = some (.string ⟨(signRows.getD j []).toArray⟩) := by
  intro j hj
  rw [World.cell?_alloc_at _ _ _ _ (by rfl)]
  have hl : j < signRows.length := hj
  simp [signCells, List.getD_eq_getElem?_getD, List.getElem?_eq_getElem hl]
theorem sign_row : ∀ j, j < 14 → (signRows.getD j []) ≠ [] ∧ (signRows.getD j []).length ≤ 2 := by decide
theorem signs_first : ∀ b : Nat, b < 256 → signB (b : Int) = (signRows.any fun r => hd r == (b : Int)) := by decide +kernel
set_option maxHeartbeats 1000000 in
set_option maxRecDepth 100000 in
theorem rbegins_any (b : UInt8) (t : Bool) (ht : beginB (b.toNat : Int) = t) (w : World) : Calls Tryz.prog 23 #[.int .u8 (b.toNat : Int)] w fun e w' => e = .returned (.bool t) ∧ Below w.heap.size w w' := by
  obtain ⟨x, hx⟩ : ∃ x : Int, (b.toNat : Int) = x := ⟨_, rfl⟩
  have hs := signs_first b.toNat (UInt8.toNat_lt b)
  rw [hx] at ht hs
  rw [hx]
  clear hx
  by_cases h1 : smallB x = true
  · have HT : Hid (true = t) := by show _ = _; rw [← ht, beginB, h1]; rfl
    clear ht hs
    go_enter Tryz.func23, Tryz.ntmps23
    go_wp2_with (go_at_call 43; refine (rsmall_any _ _).mono ?_; rintro e w' ⟨rfl, rfl⟩; rw [h1])
    go_ret
    exact ⟨ret_bool (unhide HT), Below.refl _ _⟩
  · have h1 := (Bool.not_eq_true _).mp h1
    by_cases h2 : greatB x = true
    · have HT : Hid (true = t) := by show _ = _; rw [← ht, beginB, h1, h2]; rfl
      clear ht hs
      go_enter Tryz.func23, Tryz.ntmps23
      go_wp2_with (first | (go_at_call 43; refine (rsmall_any _ _).mono ?_; rintro e w' ⟨rfl, rfl⟩; rw [h1]) | (go_at_call 44; refine (rgreat_any _ _).mono ?_; rintro e w' ⟨rfl, rfl⟩; rw [h2]))
      go_ret
      exact ⟨ret_bool (unhide HT), Below.refl _ _⟩
    · have h2 := (Bool.not_eq_true _).mp h2
      by_cases h3 : digitB x = true
      · have HT : Hid (true = t) := by show _ = _; rw [← ht, beginB, h1, h2, h3]; rfl
        clear ht hs
        go_enter Tryz.func23, Tryz.ntmps23
        go_wp2_with (first | (go_at_call 43; refine (rsmall_any _ _).mono ?_; rintro e w' ⟨rfl, rfl⟩; rw [h1]) | (go_at_call 44; refine (rgreat_any _ _).mono ?_; rintro e w' ⟨rfl, rfl⟩; rw [h2]) | (go_at_call 45; refine (rdigit_any _ _).mono ?_; rintro e w' ⟨rfl, rfl⟩; rw [h3]))
        go_ret
        exact ⟨ret_bool (unhide HT), Below.refl _ _⟩
      · have h3 := (Bool.not_eq_true _).mp h3
        by_cases h4 : x = 34
        · have HT : Hid (true = t) := by show _ = _; rw [← ht, beginB, h1, h2, h3, h4]; rfl
          have q : (x == 34) = true := by simp [h4]
          clear ht hs h4
          go_enter Tryz.func23, Tryz.ntmps23
          go_wp2_with (first | (go_at_call 43; refine (rsmall_any _ _).mono ?_; rintro e w' ⟨rfl, rfl⟩; rw [h1]) | (go_at_call 44; refine (rgreat_any _ _).mono ?_; rintro e w' ⟨rfl, rfl⟩; rw [h2]) | (go_at_call 45; refine (rdigit_any _ _).mono ?_; rintro e w' ⟨rfl, rfl⟩; rw [h3]))
          go_ret
          exact ⟨ret_bool (unhide HT), Below.refl _ _⟩
        · have q : (x == 34) = false := by simpa using h4
          have HT : Hid (t = signRows.any fun r => hd r == x) := by show _ = _; rw [← ht, beginB, h1, h2, h3, q, hs]; rfl
          clear ht hs h4
          go_enter Tryz.func23, Tryz.ntmps23
          go_wp2_with (first | (go_at_call 43; refine (rsmall_any _ _).mono ?_; rintro e w' ⟨rfl, rfl⟩; rw [h1]) | (go_at_call 44; refine (rgreat_any _ _).mono ?_; rintro e w' ⟨rfl, rfl⟩; rw [h2]) | (go_at_call 45; refine (rdigit_any _ _).mono ?_; rintro e w' ⟨rfl, rfl⟩; rw [h3]) | (go_at_call 46; refine (rsigns_any _).mono ?_; rintro e wv ⟨rfl, rfl⟩))
          have HW := hide (sign_cell w)
          have HB1 : Below w.heap.size w (w.alloc (.cells signCells 9)) := (Below.refl _ _).alloc (Nat.le_refl _) _
          revert HW HB1
          generalize w.alloc (.cells signCells 9) = W1
          intro HW HB1
          go_loop [4] (fun i => ∃ k : Nat, k ≤ 14 ∧ i = .int .i64 k ∧ Hid (t = (signRows.drop k).any fun r => hd r == x)) (fun i => 14 - (intOf i).toNat)
          case atStart => exact ⟨0, by omega, rfl, HT⟩
          case round =>
            obtain ⟨k, hk, rfl, HK⟩ := hrel
            by_cases hlt : k < 14
            · have c0 := unhide HW k hlt
              obtain ⟨hne, _⟩ := sign_row k hlt
              have hlt' : (k : Int) < 14 := by omega
              have hdr : signRows.drop k = signRows.getD k [] :: signRows.drop (k + 1) := by
                have hwl : k < signRows.length := hlt
                rw [List.drop_eq_getElem_cons hwl, List.getD_eq_getElem?_getD, List.getElem?_eq_getElem hwl]; rfl
              have e := unhide HK
              rw [hdr, List.any_cons] at e
              clear hdr HK
              revert c0 e hne
              generalize signRows.getD k [] = row
              intro c0 hne e
              obtain ⟨f, r, rfl⟩ := List.exists_cons_of_ne_nil hne
              obtain ⟨F, hF⟩ : ∃ F : ByteArray, (⟨(f :: r).toArray⟩ : ByteArray) = F := ⟨_, rfl⟩
              have hF0 : 0 < F.size := by rw [← hF]; show 0 < (f :: r).toArray.size; simp
              have hFb : (F[0]'hF0) = f := by subst hF; rfl
              have hh : hd (f :: r) = ((F[0]'hF0).toNat : Int) := by rw [hFb]; rfl
              rw [hF] at c0
              rw [hh] at e
              clear hF hFb hh hne
              by_cases hw : ((F[0]'hF0).toNat : Int) = x
              · have HT2 : Hid (true = t) := by show _ = _; rw [e]; simp [hw]
                have q2 : (((F[0]'hF0).toNat : Int) == x) = true := by simpa using hw
                clear e HT hw
                go_wp2
                go_ret
                exact ⟨ret_bool (unhide HT2), HB1⟩
              · have q2 : (((F[0]'hF0).toNat : Int) == x) = false := by simpa using hw
                have HN : Hid (t = (signRows.drop (k + 1)).any fun r => hd r == x) := by rw [q2] at e; exact e
                clear e HT hw
                go_wp2
                go_round
                case rel => exact ⟨k + 1, by omega, by go_num, HN⟩
                case measure => simp [intOf]; omega
            · have HT2 : Hid (false = t) := by
                have e := unhide HK
                rw [List.drop_of_length_le (by show signRows.length ≤ k; simp [signRows]; omega)] at e
                exact e.symm
              go_wp2
              go_ret
              exact ⟨ret_bool (unhide HT2), HB1⟩
end Go.Proofs.YthplgkkailieoaaGreatDoor
