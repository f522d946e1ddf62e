/-
  coilbook.Book: Stays and mark, walked.
-/
import Derived.Test.YthplgkkailieoaaGreatDoorBook2
namespace Go.Proofs.YthplgkkailieoaaGreatDoor
open Go Go.RowKit Lx

set_option maxHeartbeats 2000000 in
set_option maxRecDepth 100000 in
theorem Stays_any (bk B : Nat) (K : List Kept) (w : World) (h : BookIs bk B K w) :
    Calls Tryz.prog 31 #[.pointer (some ⟨bk, 0, none⟩)] w fun e w' => e = .returned (.bool true) ∧ ∃ m, w' = w.drewN m := by
  obtain ⟨⟨lv, wv, hd, hbox, hlv, hwv, hlw⟩, hrows, hap, hfew⟩ := h
  obtain ⟨c0, c1, c2, c3, cf⟩ := book_cells hbox
  obtain ⟨lp, lc, rfl⟩ := hlv.shape
  obtain ⟨wp, wc, rfl⟩ := hwv.shape
  simp only [List.length_map] at c0 c1
  have sb : ∀ k, (w.drewN k).setCell ⟨bk, 3, none⟩ (.bool false) = w.drewN k := fun k => set_back (W := w.drewN k) hbox
  have HL := hide hlv
  have HV := hide hwv
  have HR := hide hrows
  clear hlv hwv hrows hap hlw hbox
  go_enter Tryz.func31, Tryz.ntmps31
  go_wp2
  go_loopw [3] (fun i wr => ∃ k nd : Nat, i = .int .i64 k ∧ k ≤ K.length ∧ wr = w.drewN nd) (fun i _ => K.length - (intOf i).toNat)
  case atStart => exact ⟨0, 0, rfl, by omega, rfl⟩
  case round =>
    obtain ⟨k, nd, rfl, hk, rfl⟩ := hrel
    by_cases hlt : k < K.length
    · have hlt' : (k : Int) < (K.length : Int) := by omega
      obtain ⟨g1, o1, rfl⟩ : ∃ g o, lp = some ⟨g, o, none⟩ := by
        rcases unhide HL with ⟨_, h⟩ | ⟨g, o, cap, cur, e, _⟩
        · have : K.length = 0 := by simpa using congrArg List.length h
          omega
        · simp only [Value.slice.injEq] at e
          exact ⟨g, o, e.1⟩
      obtain ⟨g2, o2, rfl⟩ : ∃ g o, wp = some ⟨g, o, none⟩ := by
        rcases unhide HV with ⟨_, h⟩ | ⟨g, o, cap, cur, e, _⟩
        · have : K.length = 0 := by simpa using congrArg List.length h
          omega
        · simp only [Value.slice.injEq] at e
          exact ⟨g, o, e.1⟩
      have l0 : w.cell? ⟨g1, o1 + k, none⟩ = some K[k].1 := ((unhide HL).cellAt k (by simpa using hlt)).trans (by rw [List.getElem_map])
      have w0 : w.cell? ⟨g2, o2 + k, none⟩ = some K[k].2.1 := ((unhide HV).cellAt k (by simpa using hlt)).trans (by rw [List.getElem_map])
      have hx := unhide HR K[k] (by simp)
      revert l0 w0 hx
      generalize K[k] = x
      intro l0 w0 hx
      have SM : Hid (∀ m, Calls Tryz.prog 10 #[x.1, x.2.1] ((w.drewN nd).drewN m) fun e w' => e = .returned (.bool true) ∧ ∃ k, w' = (w.drewN nd).drewN k) := fun m => by
        refine (SameTok_q x.1 x.2.1 x.2.2 ((w.drewN nd).drewN m) (by omega) (TokRow.of_owns ⟨hx.1.1, hx.1.2⟩) (TokRow.of_owns ⟨hx.2.1.1, hx.2.1.2⟩)).mono ?_
        rintro e w' ⟨h1, k, h2⟩
        exact ⟨h1, m + k, by rw [h2, World.drewN_drewN]⟩
      obtain ⟨xp, xc, hx1⟩ : ∃ p c, x.1 = .slice p x.2.2.length c := by
        rcases hx.1.2 with ⟨e, h0⟩ | ⟨g, cap, cur, e, _⟩
        · exact ⟨none, 0, by rw [e, h0]⟩
        · exact ⟨_, _, e⟩
      obtain ⟨yp, yc, hx2⟩ : ∃ p c, x.2.1 = .slice p x.2.2.length c := by
        rcases hx.2.1.2 with ⟨e, h0⟩ | ⟨g, cap, cur, e, _⟩
        · exact ⟨none, 0, by rw [e, h0]⟩
        · exact ⟨_, _, e⟩
      rw [hx1] at l0 SM
      rw [hx2] at w0 SM
      have sb2 : ∀ k, ((w.drewN nd).drewN k).setCell ⟨bk, 3, none⟩ (.bool false) = (w.drewN nd).drewN k := fun k => by rw [World.drewN_drewN]; exact sb _
      have d0 : (w.drewN nd).cell? ⟨bk, 0, none⟩ = _ := c0
      have d1 : (w.drewN nd).cell? ⟨bk, 1, none⟩ = _ := c1
      have d3 : (w.drewN nd).cell? ⟨bk, 3, none⟩ = _ := c3
      have df : ∀ o, (w.drewN nd).frozen? ⟨bk, o, none⟩ = false := cf
      have m0 : (w.drewN nd).cell? ⟨g1, o1 + k, none⟩ = _ := l0
      have m1 : (w.drewN nd).cell? ⟨g2, o2 + k, none⟩ = _ := w0
      have HWN : Hid (∀ q, (w.drewN nd).drewN q = w.drewN (nd + q)) := fun q => by rw [World.drewN_drewN]
      clear hx hx1 hx2 sb c0 c1 c2 c3 cf l0 w0
      revert SM sb2 d0 d1 d3 df m0 m1 HWN
      generalize w.drewN nd = wr
      intro SM sb2 d0 d1 d3 df m0 m1 HWN
      go_wp2
      go_quiet ((go_at_call 10; exact unhide SM _))
      go_wp2
      go_roundw
      case rel => exact ⟨k + 1, nd + nq, by go_num, by omega, unhide HWN nq⟩
      case measure => simp [intOf]; omega
    · clear sb
      go_wp2
      go_ret
      exact ⟨rfl, nd, rfl⟩
theorem mark_any (i j : Nat) (hi : i ≤ 1000000) (w : World) : Calls Tryz.prog 15 #[.int .i64 i, .int .i64 j] w fun e w' => e = .returned (.agg #[.int .i64 0, .int .i64 (-1 - (i : Int)), .string ⟨#[]⟩, .int .i64 j]) ∧ Below w.heap.size w w' := by
  go_enter Tryz.func15, Tryz.ntmps15
  go_wp2
  exact bodyPost_ret (v := .agg #[.int .i64 0, .int .i64 (-1 - (i : Int)), .string ⟨#[]⟩, .int .i64 j]) (by simp [results, Tryz.results15, go_sem]) rfl ⟨rfl, (Below.refl _ _).alloc (Nat.le_refl _) _⟩
end Go.Proofs.YthplgkkailieoaaGreatDoor
