/-
  coilref1.name, walked.
-/
import Derived.Test.YthplgkkailieoaaGreatDoorRefSkip
namespace Go.Proofs.YthplgkkailieoaaGreatDoor
open Go Go.RowKit Lx

def RCut (a : Nat) : Cut → Value
  | .inl (o, y) => rbad (y : Int) ((a + o : Nat) : Int)
  | .inr (k, s, v, m) => rcut (a : Int) k ⟨s.toArray⟩ v ((a + m : Nat) : Int)
theorem ret_val {a b : Value} (h : a = b) : Ending.returned a = .returned b := by rw [h]
theorem great_kind' {s : Bs} (h : greatB (hd s) = true) : kindOf s = 2 := by rw [kindOf, if_pos h]
theorem rwords_small : ∀ x ∈ words, greatB (hd x) = false := by decide +kernel
theorem word_kind' {s : Bs} (h : words.contains s = true) : kindOf s = 3 := by
  have := rwords_small s (by simpa using h)
  rw [kindOf, this, h]; rfl
theorem name_kind' {s : Bs} (h : greatB (hd s) = false) (h2 : words.contains s = false) : kindOf s = 1 := by rw [kindOf, h, h2]; rfl
theorem below7 {B : Nat} {w w1 : World} (h : Below B w w1) {b : Nat} (hb : B ≤ b) (v0 v1 v2 v3 v4 v5 v6 : Value) :
    Below B w (((((((w1.setCell ⟨b, 0, none⟩ v0).setCell ⟨b, 1, none⟩ v1).setCell ⟨b, 2, none⟩ v2).setCell ⟨b, 3, none⟩ v3).setCell ⟨b, 4, none⟩ v4).setCell ⟨b, 5, none⟩ v5).setCell ⟨b, 6, none⟩ v6) :=
  (((below4 h hb v0 v1 v2 v3).setCell (p := ⟨b, 4, none⟩) hb v4).setCell (p := ⟨b, 5, none⟩) hb v5).setCell (p := ⟨b, 6, none⟩) hb v6
set_option maxHeartbeats 4000000 in
set_option maxRecDepth 100000 in
theorem rname_any (s : ByteArray) (a : Nat) (w : World) (h0 : a < s.size) (hs : s.size ≤ 140737488355328) (hn : nameB (s[a].toNat : Int) = true) (R : Value) (hR : RCut a (cutName (s.data.toList.drop a)) = R) :
    Calls Tryz.prog 47 #[.string s, .int .i64 a] w fun e w' => e = .returned R ∧ Below w.heap.size w w' := by
  obtain ⟨n, hnn⟩ : ∃ n, n = runLen nameB (s.data.toList.drop a) := ⟨_, rfl⟩
  have hn1 : 1 + runLen nameB (s.data.toList.drop a).tail = n := by
    rw [hnn, drop_cons s a h0, runLen_yes _ _ _ hn]; rfl
  have hle : a + n ≤ s.size := by
    have := runLen_le nameB (s.data.toList.drop a)
    rw [← hnn, List.length_drop, len_data] at this
    omega
  have hR' : R = if 32 < n then rbad 2 ((a + 32 : Nat) : Int) else rcut (a : Int) (kindOf ((s.data.toList.drop a).take n)) ⟨((s.data.toList.drop a).take n).toArray⟩ 0 ((a + n : Nat) : Int) := by
    rw [← hR, cutName, hn1]
    split <;> rfl
  have HR := hide hR'
  have HNN := hide hnn
  have hnp : 1 ≤ n := by omega
  clear hR hR' hn1 hnn
  go_enter Tryz.func47, Tryz.ntmps47
  go_wp2
  go_loop [5] (fun i => ∃ k : Nat, a ≤ k ∧ k ≤ s.size ∧ k ≤ a + 32 ∧ k ≤ a + n ∧ i = .int .i64 k ∧ Hid (a + n = k + runLen nameB (s.data.toList.drop k))) (fun i => s.size - (intOf i).toNat)
  case atStart => exact ⟨a, by omega, by omega, by omega, by omega, rfl, by show _ = _; rw [unhide HNN]⟩
  case round =>
    obtain ⟨k, hk0, hk1, hk2, hk3, rfl, HK⟩ := hrel
    by_cases hlt : k < s.size
    · have hd := drop_cons s k hlt
      have hlt' : (k : Int) < (s.size : Int) := by omega
      by_cases hb : nameB (s[k].toNat : Int) = true
      · have HN : Hid (a + n = (k + 1) + runLen nameB (s.data.toList.drop (k + 1))) := by
          have e := unhide HK
          rw [hd, runLen_yes _ _ _ hb] at e
          show _ = _
          omega
        have hkn : k + 1 ≤ a + n := by have := unhide HN; omega
        by_cases h32 : k = a + 32
        · have q : ((k : Int) - (a : Int) == 32) = true := by rw [beq_iff_eq]; omega
          have HW : Hid (rbad 2 (k : Int) = R) := by
            show _ = _
            rw [unhide HR, if_pos (by omega), h32]
          clear hd HK HR HN h32
          go_wp2_with (first | (go_at_call 70; refine (rgrows_any _ _).mono ?_; rintro e w' ⟨rfl, rfl⟩; rw [hb]) | (go_at_call 50; refine (wrong_any _ _ _).mono ?_; rintro e w1 ⟨rfl, hb1⟩; obtain ⟨hc, hf⟩ := bcell hb1; dsimp only [rbad]))
          exact bodyPost_ret (v := rbad 2 (k : Int)) (by simp [results, Tryz.results47, go_sem, hc, rbad]) rfl ⟨ret_val (unhide HW), below7 ((Below.refl _ _).alloc (Nat.le_refl _) _ |>.trans (hb1.mono (by simp))) (Nat.le_refl _) _ _ _ _ _ _ _⟩
        · have q : ((k : Int) - (a : Int) == 32) = false := by rw [beq_eq_false_iff_ne]; omega
          clear hd HK
          go_wp2_with (first | (go_at_call 70; refine (rgrows_any _ _).mono ?_; rintro e w' ⟨rfl, rfl⟩; rw [hb]))
          go_round
          case rel => exact ⟨k + 1, by omega, by omega, by omega, hkn, by go_num, HN⟩
          case measure => simp [intOf]; omega
      · have hb := (Bool.not_eq_true _).mp hb
        have hkn : k = a + n := by
          have e := unhide HK
          rw [hd, runLen_no _ _ _ hb] at e
          omega
        have hn32 : ¬ 32 < n := by omega
        have hk32 : k ≤ s.size := hk1
        have HS : Hid ((⟨((s.data.toList.drop a).take n).toArray⟩ : ByteArray) = s.extract a k) := by
          show _ = _
          rw [hkn]; exact (extract_take s a n).symm
        have hhd : Lx.hd ((s.data.toList.drop a).take n) = (s[a].toNat : Int) := by
          obtain ⟨m, rfl⟩ : ∃ m, n = m + 1 := ⟨n - 1, by omega⟩
          rw [drop_cons s a h0]; rfl
        have hdat : (s.extract a k).data.toList = (s.data.toList.drop a).take n := by rw [← unhide HS]
        have HR2 : Hid (R = rcut (a : Int) (kindOf ((s.data.toList.drop a).take n)) (s.extract a k) 0 (k : Int)) := by
          show _ = _
          rw [unhide HR, if_neg hn32, unhide HS, ← hkn]
        clear HR HS HK
        by_cases hgr : greatB (s[a].toNat : Int) = true
        · have HR3 : Hid (rcut (a : Int) 2 (s.extract a k) 0 (k : Int) = R) := by show _ = _; rw [unhide HR2, great_kind' (by rw [hhd]; exact hgr)]
          clear HR2 hdat hhd hkn
          go_wp2_with (first | (go_at_call 70; refine (rgrows_any _ _).mono ?_; rintro e w' ⟨rfl, rfl⟩; rw [hb]) | (go_at_call 44; refine (rgreat_any _ _).mono ?_; rintro e w' ⟨rfl, rfl⟩; rw [hgr]))
          exact bodyPost_ret (v := rcut (a : Int) 2 (s.extract a k) 0 (k : Int)) (by simp [results, Tryz.results47, go_sem, rcut]) rfl ⟨ret_val (unhide HR3), below2 _ _ _⟩
        · have hgr := (Bool.not_eq_true _).mp hgr
          by_cases hw : words.contains (s.extract a k).data.toList = true
          · have HR3 : Hid (rcut (a : Int) 3 (s.extract a k) 0 (k : Int) = R) := by show _ = _; rw [unhide HR2, word_kind' (by rw [← hdat]; exact hw)]
            have WD := hide (fun W => rword_any (s.extract a k) true hw W)
            clear HR2 hdat hhd hkn hw
            go_wp2_with (first | (go_at_call 70; refine (rgrows_any _ _).mono ?_; rintro e w' ⟨rfl, rfl⟩; rw [hb]) | (go_at_call 44; refine (rgreat_any _ _).mono ?_; rintro e w' ⟨rfl, rfl⟩; rw [hgr]) | (go_at_call 71; refine (unhide WD _).mono ?_; rintro e w1 ⟨rfl, hb1⟩; obtain ⟨hc, hf⟩ := bcell hb1; have hz := hb1.size))
            have hB1 : Below w.heap.size w w1 := (((Below.refl _ _).alloc (Nat.le_refl _) _).alloc (by simp) _).trans (hb1.mono (by simp; omega))
            have hx : ∀ o, (w1.setCell ⟨w.heap.size + 1, 1, none⟩ (.int .i64 3)).cell? ⟨w.heap.size, o, none⟩ = w1.cell? ⟨w.heap.size, o, none⟩ := fun o => World.cell?_setCell_other _ _ _ _ (by simp)
            have k0 : (w1.setCell ⟨w.heap.size + 1, 1, none⟩ (.int .i64 3)).cell? ⟨w.heap.size, 0, none⟩ = some (.int .i64 0) := by rw [hx, hc _ _ (by simp; omega)]; exact (World.cell?_alloc_lt _ _ ⟨w.heap.size, _, none⟩ (by simp)).trans (by rw [World.cell?_alloc_at _ _ _ _ (by rfl)]; rfl)
            have k1 : (w1.setCell ⟨w.heap.size + 1, 1, none⟩ (.int .i64 3)).cell? ⟨w.heap.size, 1, none⟩ = some (.int .i64 0) := by rw [hx, hc _ _ (by simp; omega)]; exact (World.cell?_alloc_lt _ _ ⟨w.heap.size, _, none⟩ (by simp)).trans (by rw [World.cell?_alloc_at _ _ _ _ (by rfl)]; rfl)
            have k2 : (w1.setCell ⟨w.heap.size + 1, 1, none⟩ (.int .i64 3)).cell? ⟨w.heap.size, 2, none⟩ = some (.string ⟨#[]⟩) := by rw [hx, hc _ _ (by simp; omega)]; exact (World.cell?_alloc_lt _ _ ⟨w.heap.size, _, none⟩ (by simp)).trans (by rw [World.cell?_alloc_at _ _ _ _ (by rfl)]; rfl)
            have k3 : (w1.setCell ⟨w.heap.size + 1, 1, none⟩ (.int .i64 3)).cell? ⟨w.heap.size, 3, none⟩ = some (.int .i64 0) := by rw [hx, hc _ _ (by simp; omega)]; exact (World.cell?_alloc_lt _ _ ⟨w.heap.size, _, none⟩ (by simp)).trans (by rw [World.cell?_alloc_at _ _ _ _ (by rfl)]; rfl)
            have k4 : (w1.setCell ⟨w.heap.size + 1, 1, none⟩ (.int .i64 3)).cell? ⟨w.heap.size, 4, none⟩ = some (.int .i64 0) := by rw [hx, hc _ _ (by simp; omega)]; exact (World.cell?_alloc_lt _ _ ⟨w.heap.size, _, none⟩ (by simp)).trans (by rw [World.cell?_alloc_at _ _ _ _ (by rfl)]; rfl)
            have k5 : (w1.setCell ⟨w.heap.size + 1, 1, none⟩ (.int .i64 3)).cell? ⟨w.heap.size, 5, none⟩ = some (.int .i64 0) := by rw [hx, hc _ _ (by simp; omega)]; exact (World.cell?_alloc_lt _ _ ⟨w.heap.size, _, none⟩ (by simp)).trans (by rw [World.cell?_alloc_at _ _ _ _ (by rfl)]; rfl)
            have k6 : (w1.setCell ⟨w.heap.size + 1, 1, none⟩ (.int .i64 3)).cell? ⟨w.heap.size, 6, none⟩ = some (.int .i64 0) := by rw [hx, hc _ _ (by simp; omega)]; exact (World.cell?_alloc_lt _ _ ⟨w.heap.size, _, none⟩ (by simp)).trans (by rw [World.cell?_alloc_at _ _ _ _ (by rfl)]; rfl)
            have hB2 := hB1.setCell (p := ⟨w.heap.size + 1, 1, none⟩) (Nat.le_succ _) (.int .i64 3)
            clear hx hc hf hz hB1 hb1
            revert k0 k1 k2 k3 k4 k5 k6 hB2
            generalize w1.setCell ⟨w.heap.size + 1, 1, none⟩ (.int .i64 3) = W2
            intro k0 k1 k2 k3 k4 k5 k6 hB2
            exact bodyPost_ret (v := rcut (a : Int) 3 (s.extract a k) 0 (k : Int)) (by simp [results, Tryz.results47, go_sem, k0, k1, k2, k3, k4, k5, k6, rcut]) rfl ⟨ret_val (unhide HR3), below7 hB2 (Nat.le_refl _) _ _ _ _ _ _ _⟩
          · have hw := (Bool.not_eq_true _).mp hw
            have HR3 : Hid (rcut (a : Int) 1 (s.extract a k) 0 (k : Int) = R) := by show _ = _; rw [unhide HR2, name_kind' (by rw [hhd]; exact hgr) (by rw [← hdat]; exact hw)]
            have WD := hide (fun W => rword_any (s.extract a k) false hw W)
            clear HR2 hdat hhd hkn hw
            go_wp2_with (first | (go_at_call 70; refine (rgrows_any _ _).mono ?_; rintro e w' ⟨rfl, rfl⟩; rw [hb]) | (go_at_call 44; refine (rgreat_any _ _).mono ?_; rintro e w' ⟨rfl, rfl⟩; rw [hgr]) | (go_at_call 71; refine (unhide WD _).mono ?_; rintro e w1 ⟨rfl, hb1⟩; obtain ⟨hc, hf⟩ := bcell hb1; have hz := hb1.size))
            have hB1 : Below w.heap.size w w1 := (((Below.refl _ _).alloc (Nat.le_refl _) _).alloc (by simp) _).trans (hb1.mono (by simp; omega))
            have k0 : w1.cell? ⟨w.heap.size, 0, none⟩ = some (.int .i64 0) := by rw [hc _ _ (by simp; omega)]; exact (World.cell?_alloc_lt _ _ ⟨w.heap.size, _, none⟩ (by simp)).trans (by rw [World.cell?_alloc_at _ _ _ _ (by rfl)]; rfl)
            have k1 : w1.cell? ⟨w.heap.size, 1, none⟩ = some (.int .i64 0) := by rw [hc _ _ (by simp; omega)]; exact (World.cell?_alloc_lt _ _ ⟨w.heap.size, _, none⟩ (by simp)).trans (by rw [World.cell?_alloc_at _ _ _ _ (by rfl)]; rfl)
            have k2 : w1.cell? ⟨w.heap.size, 2, none⟩ = some (.string ⟨#[]⟩) := by rw [hc _ _ (by simp; omega)]; exact (World.cell?_alloc_lt _ _ ⟨w.heap.size, _, none⟩ (by simp)).trans (by rw [World.cell?_alloc_at _ _ _ _ (by rfl)]; rfl)
            have k3 : w1.cell? ⟨w.heap.size, 3, none⟩ = some (.int .i64 0) := by rw [hc _ _ (by simp; omega)]; exact (World.cell?_alloc_lt _ _ ⟨w.heap.size, _, none⟩ (by simp)).trans (by rw [World.cell?_alloc_at _ _ _ _ (by rfl)]; rfl)
            have k4 : w1.cell? ⟨w.heap.size, 4, none⟩ = some (.int .i64 0) := by rw [hc _ _ (by simp; omega)]; exact (World.cell?_alloc_lt _ _ ⟨w.heap.size, _, none⟩ (by simp)).trans (by rw [World.cell?_alloc_at _ _ _ _ (by rfl)]; rfl)
            have k5 : w1.cell? ⟨w.heap.size, 5, none⟩ = some (.int .i64 0) := by rw [hc _ _ (by simp; omega)]; exact (World.cell?_alloc_lt _ _ ⟨w.heap.size, _, none⟩ (by simp)).trans (by rw [World.cell?_alloc_at _ _ _ _ (by rfl)]; rfl)
            have k6 : w1.cell? ⟨w.heap.size, 6, none⟩ = some (.int .i64 0) := by rw [hc _ _ (by simp; omega)]; exact (World.cell?_alloc_lt _ _ ⟨w.heap.size, _, none⟩ (by simp)).trans (by rw [World.cell?_alloc_at _ _ _ _ (by rfl)]; rfl)
            clear hc hf hz hb1
            exact bodyPost_ret (v := rcut (a : Int) 1 (s.extract a k) 0 (k : Int)) (by simp [results, Tryz.results47, go_sem, k0, k1, k2, k3, k4, k5, k6, rcut]) rfl ⟨ret_val (unhide HR3), below7 hB1 (Nat.le_refl _) _ _ _ _ _ _ _⟩
    · have hkn : k = a + n := by
        have e := unhide HK
        rw [List.drop_of_length_le (i := k) (by rw [len_data]; omega), runLen_nil] at e
        omega
      have hn32 : ¬ 32 < n := by omega
      have hk32 : k ≤ s.size := hk1
      have HS : Hid ((⟨((s.data.toList.drop a).take n).toArray⟩ : ByteArray) = s.extract a k) := by
        show _ = _
        rw [hkn]; exact (extract_take s a n).symm
      have hhd : Lx.hd ((s.data.toList.drop a).take n) = (s[a].toNat : Int) := by
        obtain ⟨m, rfl⟩ : ∃ m, n = m + 1 := ⟨n - 1, by omega⟩
        rw [drop_cons s a h0]; rfl
      have hdat : (s.extract a k).data.toList = (s.data.toList.drop a).take n := by rw [← unhide HS]
      have HR2 : Hid (R = rcut (a : Int) (kindOf ((s.data.toList.drop a).take n)) (s.extract a k) 0 (k : Int)) := by
        show _ = _
        rw [unhide HR, if_neg hn32, unhide HS, ← hkn]
      clear HR HS HK
      by_cases hgr : greatB (s[a].toNat : Int) = true
      · have HR3 : Hid (rcut (a : Int) 2 (s.extract a k) 0 (k : Int) = R) := by show _ = _; rw [unhide HR2, great_kind' (by rw [hhd]; exact hgr)]
        clear HR2 hdat hhd hkn
        go_wp2_with (first | (go_at_call 70; fail) | (go_at_call 44; refine (rgreat_any _ _).mono ?_; rintro e w' ⟨rfl, rfl⟩; rw [hgr]))
        exact bodyPost_ret (v := rcut (a : Int) 2 (s.extract a k) 0 (k : Int)) (by simp [results, Tryz.results47, go_sem, rcut]) rfl ⟨ret_val (unhide HR3), below2 _ _ _⟩
      · have hgr := (Bool.not_eq_true _).mp hgr
        by_cases hw : words.contains (s.extract a k).data.toList = true
        · have HR3 : Hid (rcut (a : Int) 3 (s.extract a k) 0 (k : Int) = R) := by show _ = _; rw [unhide HR2, word_kind' (by rw [← hdat]; exact hw)]
          have WD := hide (fun W => rword_any (s.extract a k) true hw W)
          clear HR2 hdat hhd hkn hw
          go_wp2_with (first | (go_at_call 70; fail) | (go_at_call 44; refine (rgreat_any _ _).mono ?_; rintro e w' ⟨rfl, rfl⟩; rw [hgr]) | (go_at_call 71; refine (unhide WD _).mono ?_; rintro e w1 ⟨rfl, hb1⟩; obtain ⟨hc, hf⟩ := bcell hb1; have hz := hb1.size))
          have hB1 : Below w.heap.size w w1 := (((Below.refl _ _).alloc (Nat.le_refl _) _).alloc (by simp) _).trans (hb1.mono (by simp; omega))
          have hx : ∀ o, (w1.setCell ⟨w.heap.size + 1, 1, none⟩ (.int .i64 3)).cell? ⟨w.heap.size, o, none⟩ = w1.cell? ⟨w.heap.size, o, none⟩ := fun o => World.cell?_setCell_other _ _ _ _ (by simp)
          have k0 : (w1.setCell ⟨w.heap.size + 1, 1, none⟩ (.int .i64 3)).cell? ⟨w.heap.size, 0, none⟩ = some (.int .i64 0) := by rw [hx, hc _ _ (by simp; omega)]; exact (World.cell?_alloc_lt _ _ ⟨w.heap.size, _, none⟩ (by simp)).trans (by rw [World.cell?_alloc_at _ _ _ _ (by rfl)]; rfl)
          have k1 : (w1.setCell ⟨w.heap.size + 1, 1, none⟩ (.int .i64 3)).cell? ⟨w.heap.size, 1, none⟩ = some (.int .i64 0) := by rw [hx, hc _ _ (by simp; omega)]; exact (World.cell?_alloc_lt _ _ ⟨w.heap.size, _, none⟩ (by simp)).trans (by rw [World.cell?_alloc_at _ _ _ _ (by rfl)]; rfl)
          have k2 : (w1.setCell ⟨w.heap.size + 1, 1, none⟩ (.int .i64 3)).cell? ⟨w.heap.size, 2, none⟩ = some (.string ⟨#[]⟩) := by rw [hx, hc _ _ (by simp; omega)]; exact (World.cell?_alloc_lt _ _ ⟨w.heap.size, _, none⟩ (by simp)).trans (by rw [World.cell?_alloc_at _ _ _ _ (by rfl)]; rfl)
          have k3 : (w1.setCell ⟨w.heap.size + 1, 1, none⟩ (.int .i64 3)).cell? ⟨w.heap.size, 3, none⟩ = some (.int .i64 0) := by rw [hx, hc _ _ (by simp; omega)]; exact (World.cell?_alloc_lt _ _ ⟨w.heap.size, _, none⟩ (by simp)).trans (by rw [World.cell?_alloc_at _ _ _ _ (by rfl)]; rfl)
          have k4 : (w1.setCell ⟨w.heap.size + 1, 1, none⟩ (.int .i64 3)).cell? ⟨w.heap.size, 4, none⟩ = some (.int .i64 0) := by rw [hx, hc _ _ (by simp; omega)]; exact (World.cell?_alloc_lt _ _ ⟨w.heap.size, _, none⟩ (by simp)).trans (by rw [World.cell?_alloc_at _ _ _ _ (by rfl)]; rfl)
          have k5 : (w1.setCell ⟨w.heap.size + 1, 1, none⟩ (.int .i64 3)).cell? ⟨w.heap.size, 5, none⟩ = some (.int .i64 0) := by rw [hx, hc _ _ (by simp; omega)]; exact (World.cell?_alloc_lt _ _ ⟨w.heap.size, _, none⟩ (by simp)).trans (by rw [World.cell?_alloc_at _ _ _ _ (by rfl)]; rfl)
          have k6 : (w1.setCell ⟨w.heap.size + 1, 1, none⟩ (.int .i64 3)).cell? ⟨w.heap.size, 6, none⟩ = some (.int .i64 0) := by rw [hx, hc _ _ (by simp; omega)]; exact (World.cell?_alloc_lt _ _ ⟨w.heap.size, _, none⟩ (by simp)).trans (by rw [World.cell?_alloc_at _ _ _ _ (by rfl)]; rfl)
          have hB2 := hB1.setCell (p := ⟨w.heap.size + 1, 1, none⟩) (Nat.le_succ _) (.int .i64 3)
          clear hx hc hf hz hB1 hb1
          revert k0 k1 k2 k3 k4 k5 k6 hB2
          generalize w1.setCell ⟨w.heap.size + 1, 1, none⟩ (.int .i64 3) = W2
          intro k0 k1 k2 k3 k4 k5 k6 hB2
          exact bodyPost_ret (v := rcut (a : Int) 3 (s.extract a k) 0 (k : Int)) (by simp [results, Tryz.results47, go_sem, k0, k1, k2, k3, k4, k5, k6, rcut]) rfl ⟨ret_val (unhide HR3), below7 hB2 (Nat.le_refl _) _ _ _ _ _ _ _⟩
        · have hw := (Bool.not_eq_true _).mp hw
          have HR3 : Hid (rcut (a : Int) 1 (s.extract a k) 0 (k : Int) = R) := by show _ = _; rw [unhide HR2, name_kind' (by rw [hhd]; exact hgr) (by rw [← hdat]; exact hw)]
          have WD := hide (fun W => rword_any (s.extract a k) false hw W)
          clear HR2 hdat hhd hkn hw
          go_wp2_with (first | (go_at_call 70; fail) | (go_at_call 44; refine (rgreat_any _ _).mono ?_; rintro e w' ⟨rfl, rfl⟩; rw [hgr]) | (go_at_call 71; refine (unhide WD _).mono ?_; rintro e w1 ⟨rfl, hb1⟩; obtain ⟨hc, hf⟩ := bcell hb1; have hz := hb1.size))
          have hB1 : Below w.heap.size w w1 := (((Below.refl _ _).alloc (Nat.le_refl _) _).alloc (by simp) _).trans (hb1.mono (by simp; omega))
          have k0 : w1.cell? ⟨w.heap.size, 0, none⟩ = some (.int .i64 0) := by rw [hc _ _ (by simp; omega)]; exact (World.cell?_alloc_lt _ _ ⟨w.heap.size, _, none⟩ (by simp)).trans (by rw [World.cell?_alloc_at _ _ _ _ (by rfl)]; rfl)
          have k1 : w1.cell? ⟨w.heap.size, 1, none⟩ = some (.int .i64 0) := by rw [hc _ _ (by simp; omega)]; exact (World.cell?_alloc_lt _ _ ⟨w.heap.size, _, none⟩ (by simp)).trans (by rw [World.cell?_alloc_at _ _ _ _ (by rfl)]; rfl)
          have k2 : w1.cell? ⟨w.heap.size, 2, none⟩ = some (.string ⟨#[]⟩) := by rw [hc _ _ (by simp; omega)]; exact (World.cell?_alloc_lt _ _ ⟨w.heap.size, _, none⟩ (by simp)).trans (by rw [World.cell?_alloc_at _ _ _ _ (by rfl)]; rfl)
          have k3 : w1.cell? ⟨w.heap.size, 3, none⟩ = some (.int .i64 0) := by rw [hc _ _ (by simp; omega)]; exact (World.cell?_alloc_lt _ _ ⟨w.heap.size, _, none⟩ (by simp)).trans (by rw [World.cell?_alloc_at _ _ _ _ (by rfl)]; rfl)
          have k4 : w1.cell? ⟨w.heap.size, 4, none⟩ = some (.int .i64 0) := by rw [hc _ _ (by simp; omega)]; exact (World.cell?_alloc_lt _ _ ⟨w.heap.size, _, none⟩ (by simp)).trans (by rw [World.cell?_alloc_at _ _ _ _ (by rfl)]; rfl)
          have k5 : w1.cell? ⟨w.heap.size, 5, none⟩ = some (.int .i64 0) := by rw [hc _ _ (by simp; omega)]; exact (World.cell?_alloc_lt _ _ ⟨w.heap.size, _, none⟩ (by simp)).trans (by rw [World.cell?_alloc_at _ _ _ _ (by rfl)]; rfl)
          have k6 : w1.cell? ⟨w.heap.size, 6, none⟩ = some (.int .i64 0) := by rw [hc _ _ (by simp; omega)]; exact (World.cell?_alloc_lt _ _ ⟨w.heap.size, _, none⟩ (by simp)).trans (by rw [World.cell?_alloc_at _ _ _ _ (by rfl)]; rfl)
          clear hc hf hz hb1
          exact bodyPost_ret (v := rcut (a : Int) 1 (s.extract a k) 0 (k : Int)) (by simp [results, Tryz.results47, go_sem, k0, k1, k2, k3, k4, k5, k6, rcut]) rfl ⟨ret_val (unhide HR3), below7 hB1 (Nat.le_refl _) _ _ _ _ _ _ _⟩
end Go.Proofs.YthplgkkailieoaaGreatDoor
