/-
  coillaw1.LexRuns, walked: it answers true, whatever world it is called in.
-/
import Derived.Test.YthplgkkailieoaaGreatDoorSays
import Derived.Deep.RegionHeld3
namespace Go.Proofs.YthplgkkailieoaaGreatDoor
open Go Go.RowKit Lx

def T1 : List Tok := [(0, 3, [108, 101, 116], 0), (4, 1, [120], 0), (6, 6, [61], 0), (8, 4, [], 5), (9, 6, [59], 0)]
def T2 : List Tok := [(0, 2, [65], 0), (1, 6, [61, 61], 0), (3, 1, [97], 0)]
def T3 : List Tok := [(0, 5, [97, 10, 34], 0)]
def T4 : List Tok := [(0, 4, [], 0)]
theorem l1 : lex [108, 101, 116, 32, 120, 32, 61, 32, 53, 59] = (T1, none) := by decide +kernel
theorem l2 : lex [65, 61, 61, 97] = (T2, none) := by decide +kernel
theorem l3 : lex [34, 97, 92, 110, 92, 34, 34, 32, 47, 47, 32, 98] = (T3, none) := by decide +kernel
theorem l4 : lex [48] = (T4, none) := by decide +kernel
theorem l5 : lex [47, 47, 32, 120] = ([], none) := by decide +kernel
def RT : List Bs := [[48, 48, 55], [49, 97], [57, 50, 50, 51, 51, 55, 50, 48, 51, 54, 56, 53, 52, 55, 55, 53, 56, 48, 56], [120, 32, 35, 32, 121], [97, 32, 47, 32, 98], [34, 97], [34, 97, 92, 120, 34], [195, 169],
  [97, 98, 99, 100, 101, 102, 103, 104, 105, 106, 97, 98, 99, 100, 101, 102, 103, 104, 105, 106, 97, 98, 99, 100, 101, 102, 103, 104, 105, 106, 97, 98, 99]]
def RP : List Nat := [0, 0, 0, 2, 2, 2, 3, 0, 32]
def RY : List Nat := [11, 11, 11, 10, 10, 12, 12, 10, 2]
def rt (k : Nat) : Bs := RT.getD k []
def rp (k : Nat) : Nat := RP.getD k 0
def ry (k : Nat) : Nat := RY.getD k 0
theorem lr : ∀ k, k < 9 → (lex (rt k)).2 = some (rp k, ry k) := by decide +kernel
theorem lry : ∀ k, k < 9 → ry k = 2 ∨ ry k = 3 ∨ ry k = 10 ∨ ry k = 11 ∨ ry k = 12 := by decide +kernel
theorem lrp : ∀ k, k < 9 → rp k ≤ 32 := by decide +kernel
theorem lrt : ∀ k, k < 9 → (rt k).length ≤ 33 := by decide +kernel
/-- The three lists as they lie. -/
structure Lists (B : Nat) (W : World) : Prop where
  size : B + 3 ≤ W.heap.size
  texts : ∀ k, k < 9 → W.cell? ⟨B, k, none⟩ = some (.string ⟨(rt k).toArray⟩)
  places : ∀ k, k < 9 → W.cell? ⟨B + 1, k, none⟩ = some (.int .i64 (rp k : Int))
  whys : ∀ k, k < 9 → W.cell? ⟨B + 1 + 1, k, none⟩ = some (.int .i64 (ry k : Int))
theorem Lists.below {B : Nat} {W W' : World} (h : Lists B W) (hb : Below W.heap.size W W') : Lists B W' where
  size := Nat.le_trans h.size hb.size
  texts := fun k hk => (hb.cell (p := ⟨B, k, none⟩) (show B < W.heap.size by have := h.size; omega)).trans (h.texts k hk)
  places := fun k hk => (hb.cell (p := ⟨B + 1, k, none⟩) (show B + 1 < W.heap.size by have := h.size; omega)).trans (h.places k hk)
  whys := fun k hk => (hb.cell (p := ⟨B + 1 + 1, k, none⟩) (show B + 1 + 1 < W.heap.size by have := h.size; omega)).trans (h.whys k hk)
theorem Lists.new (w : World) : Lists w.heap.size (((w.alloc (.cells ((List.range 9).map fun k => Value.string ⟨(rt k).toArray⟩).toArray 9)).alloc (.cells ((List.range 9).map fun k => Value.int .i64 (rp k : Int)).toArray 3)).alloc (.cells ((List.range 9).map fun k => Value.int .i64 (ry k : Int)).toArray 3)) where
  size := by simp
  texts := fun k hk => by
    rw [World.cell?_alloc_lt _ _ ⟨w.heap.size, k, none⟩ (by simp; omega), World.cell?_alloc_lt _ _ ⟨w.heap.size, k, none⟩ (by simp), World.cell?_alloc_at _ _ _ _ (by rfl)]
    simp [hk]
  places := fun k hk => by
    rw [World.cell?_alloc_lt _ _ ⟨w.heap.size + 1, k, none⟩ (by simp), World.cell?_alloc_at _ _ _ _ (by simp)]
    simp [hk]
  whys := fun k hk => by
    rw [World.cell?_alloc_at _ _ _ _ (by simp)]
    simp [hk]
def J1 : List Tok := [(5, 5, [97, 10], 0), (1, 1, [98], 0)]
def J2 : List Tok := [(0, 1, [108, 101, 116], 0)]
theorem j0 : join [] = .inr [] := by decide +kernel
theorem j1 : join J1 = .inr [34, 97, 92, 110, 34, 32, 98] := by decide +kernel
theorem j2 : join J2 = .inl 1 := by decide +kernel
theorem fits1 : Fits J1 := by intro t ht; simp [J1] at ht; rcases ht with rfl | rfl <;> decide
theorem fits2 : Fits J2 := by intro t ht; simp [J2] at ht; subst ht; decide
theorem Join_w (v : Value) (ts : List Tok) (w : World) (a : Value) (hv : TokRow w v ts) (hl : ts.length ≤ 1000000) (hF : Fits ts) (ht : Tab w) (h5 : 5 ≤ w.heap.size) (ha : joinAns (join ts) = a) :
    Calls Tryz.prog 20 #[v] w fun e w' => e = .returned a ∧ Below w.heap.size w w' := by subst ha; exact Join_any v ts w hv hl hF ht h5
theorem words_row (W : World) (g : Nat) (h : ∀ j, j < wordStrs.length → W.cell? ⟨g, 0 + j, none⟩ = some (.string (wordStrs.getD j ByteArray.empty))) : StrRow W (.slice (some ⟨g, 0, none⟩) 25 25) words := by
  refine ⟨_, 25, rfl, fun j t ht => ⟨g, 0, rfl, ?_⟩⟩
  have hj : j < words.length := (List.getElem?_eq_some_iff.1 ht).1
  rw [h j (by simpa [wordStrs] using hj)]
  simp [wordStrs, List.getD_eq_getElem?_getD, ht]
theorem step0 {w a b : World} (H : Below w.heap.size w a) (h : Below a.heap.size a b) : Below w.heap.size w b := H.trans (h.mono H.size)
theorem step1 {w a b : World} {o : Obj} (H : Below w.heap.size w a) (h : Below (a.alloc o).heap.size (a.alloc o) b) : Below w.heap.size w b := step0 (H.alloc H.size o) h

def TEXTS : Array Value := #[.string ⟨#[48, 48, 55]⟩, .string ⟨#[49, 97]⟩, .string ⟨#[57, 50, 50, 51, 51, 55, 50, 48, 51, 54, 56, 53, 52, 55, 55, 53, 56, 48, 56]⟩, .string ⟨#[120, 32, 35, 32, 121]⟩, .string ⟨#[97, 32, 47, 32, 98]⟩, .string ⟨#[34, 97]⟩, .string ⟨#[34, 97, 92, 120, 34]⟩, .string ⟨#[195, 169]⟩, .string ⟨#[97, 98, 99, 100, 101, 102, 103, 104, 105, 106, 97, 98, 99, 100, 101, 102, 103, 104, 105, 106, 97, 98, 99, 100, 101, 102, 103, 104, 105, 106, 97, 98, 99]⟩]
def PLACES : Array Value := #[.int .i64 0, .int .i64 0, .int .i64 0, .int .i64 2, .int .i64 2, .int .i64 2, .int .i64 3, .int .i64 0, .int .i64 32]
def WHYS : Array Value := #[.int .i64 11, .int .i64 11, .int .i64 11, .int .i64 10, .int .i64 10, .int .i64 12, .int .i64 12, .int .i64 10, .int .i64 2]
set_option maxHeartbeats 4000000 in
set_option maxRecDepth 100000 in
theorem LexRuns_any (w : World) (hg : ErrType w) (ht : Tab w) (h5 : 5 ≤ w.heap.size) :
    Calls Tryz.prog 16 #[] w fun e w' => e = .returned (.bool true) ∧ Below w.heap.size w w' := by
  have HB : Below w.heap.size w w := Below.refl _ _
  have HG := hide hg
  have HT := hide ht
  clear hg ht
  go_enter Tryz.func16, Tryz.ntmps16
  go_wp2_with (first | (go_at_call 33; refine (token_any _ _ _ _ _).mono ?_; rintro e wt ⟨rfl, hbt⟩; replace HB := step0 HB hbt; clear hbt))
  refine (says_any _ _ T1 _ (by decide) (by decide) l1 (TokRow.of_new _ T1 5 _ rfl)).mono ?_
  rintro e ws ⟨rfl, hbs⟩
  replace HB := step1 HB hbs
  clear hbs
  go_wp2_with (first | (go_at_call 33; refine (token_any _ _ _ _ _).mono ?_; rintro e wt ⟨rfl, hbt⟩; replace HB := step0 HB hbt; clear hbt))
  refine (says_any _ _ T2 _ (by decide) (by decide) l2 (TokRow.of_new _ T2 3 _ rfl)).mono ?_
  rintro e ws ⟨rfl, hbs⟩
  replace HB := step1 HB hbs
  clear hbs
  go_wp2_with (first | (go_at_call 33; refine (token_any _ _ _ _ _).mono ?_; rintro e wt ⟨rfl, hbt⟩; replace HB := step0 HB hbt; clear hbt))
  refine (says_any _ _ T3 _ (by decide) (by decide) l3 (TokRow.of_new _ T3 1 _ rfl)).mono ?_
  rintro e ws ⟨rfl, hbs⟩
  replace HB := step1 HB hbs
  clear hbs
  go_wp2_with (first | (go_at_call 33; refine (token_any _ _ _ _ _).mono ?_; rintro e wt ⟨rfl, hbt⟩; replace HB := step0 HB hbt; clear hbt))
  refine (says_any _ _ T4 _ (by decide) (by decide) l4 (TokRow.of_new _ T4 1 _ rfl)).mono ?_
  rintro e ws ⟨rfl, hbs⟩
  replace HB := step1 HB hbs
  clear hbs
  go_wp2_with (first | (go_at_call 33; refine (token_any _ _ _ _ _).mono ?_; rintro e wt ⟨rfl, hbt⟩; replace HB := step0 HB hbt; clear hbt))
  refine (says_any _ _ [] _ (by decide) (by decide) l5 (TokRow.nil _)).mono ?_
  rintro e ws ⟨rfl, hbs⟩
  replace HB := step0 HB hbs
  clear hbs
  go_wp2_with fail
  have HL : Lists ws.heap.size (((ws.alloc (.cells ((List.range 9).map fun k => Value.string ⟨(rt k).toArray⟩).toArray 9)).alloc (.cells ((List.range 9).map fun k => Value.int .i64 (rp k : Int)).toArray 3)).alloc (.cells ((List.range 9).map fun k => Value.int .i64 (ry k : Int)).toArray 3)) := Lists.new ws
  have HB0 := ((HB.alloc HB.size (.cells ((List.range 9).map fun k => Value.string ⟨(rt k).toArray⟩).toArray 9)).alloc (by have := HB.size; simp; omega) (.cells ((List.range 9).map fun k => Value.int .i64 (rp k : Int)).toArray 3)).alloc (by have := HB.size; simp; omega) (.cells ((List.range 9).map fun k => Value.int .i64 (ry k : Int)).toArray 3)
  rw [show ((List.range 9).map fun k => Value.string ⟨(rt k).toArray⟩).toArray = TEXTS from rfl, show ((List.range 9).map fun k => Value.int .i64 (rp k : Int)).toArray = PLACES from rfl, show ((List.range 9).map fun k => Value.int .i64 (ry k : Int)).toArray = WHYS from rfl] at HL HB0
  dsimp only [TEXTS, PLACES, WHYS] at HL HB0
  clear HB
  revert HL HB0
  generalize ((ws.alloc (.cells _ 9)).alloc (.cells _ 3)).alloc (.cells _ 3) = W0
  intro HL HB0
  obtain ⟨B, hB⟩ : ∃ B, B = ws.heap.size := ⟨_, rfl⟩
  rw [← hB] at HL ⊢
  clear hB
  have HL := hide HL
  go_loopw [4] (fun i wr => ∃ k : Nat, i = .int .i64 k ∧ k ≤ 9 ∧ Below W0.heap.size W0 wr) (fun i _ => 9 - (intOf i).toNat)
  case atStart => exact ⟨0, rfl, by omega, Below.refl _ _⟩
  case round =>
    obtain ⟨k, rfl, hk, hb⟩ := hrel
    by_cases hlt : k < 9
    · have hL := (unhide HL).below hb
      have c1 := hL.texts k hlt
      have hbw := step0 HB0 hb
      have hsz : ByteArray.size ⟨(rt k).toArray⟩ ≤ 140737488355328 := by
        show (rt k).toArray.size ≤ _
        have := lrt k hlt; simp; omega
      have TK : Hid (Calls Tryz.prog 8 #[.string ⟨(rt k).toArray⟩] wr fun e w' => ∃ b, e = .returned (.tuple #[.slice none 0 0, .iface 64 (.pointer (some ⟨b, 0, none⟩))]) ∧ RefAt b (rp k) (ry k) w' ∧ Below wr.heap.size wr w') := by
        refine (Tokens_any _ hsz wr).mono ?_
        rintro e w' ⟨hb', h⟩
        have e2 : (lex (⟨(rt k).toArray⟩ : ByteArray).data.toList).2 = some (rp k, ry k) := lr k hlt
        rw [e2] at h
        obtain ⟨b, rfl, _, hr⟩ := h
        exact ⟨b, rfl, hr, hb'⟩
      have RF := hide (fun b W (hr : RefAt b (rp k) (ry k) W) (hbW : Below w.heap.size w W) => refused_any b (rp k) (ry k) (lry k hlt) (by have := lrp k hlt; omega) W hr ((unhide HG).below hbW h5) ((unhide HT).below hbW h5) (Nat.le_trans h5 hbW.size))
      have LS := hide (fun W (hbW : Below wr.heap.size wr W) => hL.below hbW)
      have hlt' : (k : Int) < 9 := by omega
      clear hL hsz
      go_wp2_with (first | (go_at_call 8; refine (unhide TK).mono ?_; rintro e w1 ⟨b, rfl, hr1, hb1⟩; have hL1 := unhide LS w1 hb1; have p1 := hL1.places k hlt; have y1 := hL1.whys k hlt; have RF1 := hide (unhide RF b w1.drew hr1 (step0 hbw hb1).drew)))
      have hk0 : (0 : Int) ≤ (k : Int) := by omega
      have LS1 := hide (fun W (hbW : Below w1.drew.heap.size w1.drew W) => hL1.below (below_of_drew hbW))
      clear c1
      go_region_held3 (fun w' => w'.cell? ⟨B + 1, k, none⟩ = some (.int .i64 (rp k : Int)) ∧ w'.cell? ⟨B + 1 + 1, k, none⟩ = some (.int .i64 (ry k : Int))) (go_keep) (first | (go_at_call 9; refine (unhide RF1).mono ?_; rintro e w2 ⟨rfl, hb2⟩; have hL2 := unhide LS1 w2 hb2; have p2 := hL2.places k hlt; have y2 := hL2.whys k hlt))
      all_goals
        go_wp2
        go_roundw
        case rel => exact ⟨k + 1, by go_num, by omega, step0 (step0 hb hb1) (below_of_drew hb2)⟩
        case measure => simp [intOf]; omega
    · have HB := step0 HB0 hb
      clear HB0 HL
      go_wp2_with fail
      refine (Join_w _ [] _ _ (TokRow.nil _) (by decide) (by intro t ht; simp at ht) ((unhide HT).below HB h5) (Nat.le_trans h5 HB.size) (congrArg joinAns j0)).mono ?_
      rintro e wj ⟨rfl, hbj⟩
      replace HB := step0 HB hbj
      clear hbj
      dsimp only [joinAns]
      go_wp2_with (first | (go_at_call 33; refine (token_any _ _ _ _ _).mono ?_; rintro e wt ⟨rfl, hbt⟩; replace HB := step0 HB hbt; clear hbt))
      refine (Join_w _ J1 _ _ (TokRow.of_new _ J1 2 _ rfl) (by decide) fits1 ((unhide HT).below (HB.alloc HB.size _) h5) (Nat.le_trans h5 (HB.alloc HB.size _).size) (congrArg joinAns j1)).mono ?_
      rintro e wj2 ⟨rfl, hbj⟩
      replace HB := step1 HB hbj
      clear hbj
      dsimp only [joinAns]
      go_wp2_with (first | (go_at_call 33; refine (token_any _ _ _ _ _).mono ?_; rintro e wt ⟨rfl, hbt⟩; replace HB := step0 HB hbt; clear hbt))
      refine (Join_w _ J2 _ _ (TokRow.of_new _ J2 1 _ rfl) (by decide) fits2 ((unhide HT).below (HB.alloc HB.size _) h5) (Nat.le_trans h5 (HB.alloc HB.size _).size) (congrArg joinAns j2)).mono ?_
      rintro e wj3 ⟨rfl, hbj⟩
      replace HB := step1 HB hbj
      clear hbj
      dsimp only [joinAns]
      go_wp2_with (first | (go_at_call 35; refine (Words_any _).mono ?_; rintro e wv ⟨rfl, rfl⟩) | (go_at_call 36; refine (refWords_any _).mono ?_; rintro e wv ⟨rfl, rfl⟩))
      refine (SameStr_any _ _ words _ (by decide) (words_row _ _ fun j hj => ?_) (words_row _ _ fun j hj => ?_)).mono ?_
      · rw [World.cell?_alloc_lt _ _ ⟨wj3.heap.size, 0 + j, none⟩ (by simp)]; exact word_cell wj3 j hj
      · have := word_cell (wj3.alloc (.cells wordCells 9)) j hj
        rwa [World.size_alloc] at this
      rintro e wz ⟨rfl, hbz⟩
      go_wp2
      go_ret
      exact ⟨rfl, step0 ((HB.alloc HB.size _).alloc (by have := HB.size; simp; omega) _) hbz⟩
end Go.Proofs.YthplgkkailieoaaGreatDoor
