/-
  Package value's writer: a strings.Builder that stands within a struct, written once, and what it says. Own work.
-/
import Derived.Test.YtnkcibcodabkiaaGreatDoorProg
import Derived.Test.YtnkcibcodabkiaaGreatDoorShelf
import Derived.Test.YtnkcibcodabkiaaGreatDoorRTxt
import Derived.WalkKit
import Derived.WalkLawsBesides
import Derived.Outline
import Derived.Handy
import Derived.Lib.AppendStr
import Derived.Lib.UnsafeStr
import Derived.Lib.Builder
import Derived.Deep.DeepFit
import Derived.Deep.RegionWith
namespace Go.Proofs.YtnkcibcodabkiaaGreatDoor
open Go Go.RowKit Go.Proofs

/-- a writer's block. -/
def WrAt (b : Nat) (p v c g m : Value) (w : World) : Prop := w.heap[b]? = some (.cells #[p, v, c, g, m] 190 (0, 0))
theorem WrAt.lt {b : Nat} {p v c g m : Value} {w : World} (h : WrAt b p v c g m w) : b < w.heap.size := (Array.getElem?_eq_some_iff.1 h).1
theorem WrAt.below {B b : Nat} {p v c g m : Value} {w w' : World} (h : WrAt b p v c g m w) (hb : Below B w w') (hB : b < B) : WrAt b p v c g m w' := (hb.block b hB).trans h
theorem WrAt.cell0 {b : Nat} {p v c g m : Value} {w : World} (h : WrAt b p v c g m w) : w.cell? ⟨b, 0, none⟩ = some p := by rw [Lib.cell_of_heap h]; rfl
theorem WrAt.cell1 {b : Nat} {p v c g m : Value} {w : World} (h : WrAt b p v c g m w) : w.cell? ⟨b, 1, none⟩ = some v := by rw [Lib.cell_of_heap h]; rfl
theorem WrAt.shape {b : Nat} {p v c g m : Value} {w : World} (h : WrAt b p v c g m w) : w.shape? b = some (190, 5) := by simp [World.shape?, show w.heap[b]? = _ from h]
theorem WrAt.frozen {b : Nat} {p v c g m : Value} {w : World} (h : WrAt b p v c g m w) (j : Nat) : w.frozen? ⟨b, j, none⟩ = false := Lib.frozen_of_heap h j
theorem WrAt.set0 {b : Nat} {p v c g m : Value} {w : World} (h : WrAt b p v c g m w) (q : Value) : WrAt b q v c g m (w.setCell ⟨b, 0, none⟩ q) := by
  show (w.setCell ⟨b, 0, none⟩ q).heap[b]? = _
  have hlt := h.lt
  simp [World.setCell, Array.getElem?_modify, show w.heap[b]? = _ from h]
theorem WrAt.set1 {b : Nat} {p v c g m : Value} {w : World} (h : WrAt b p v c g m w) (q : Value) : WrAt b p q c g m (w.setCell ⟨b, 1, none⟩ q) := by
  show (w.setCell ⟨b, 1, none⟩ q).heap[b]? = _
  have hlt := h.lt
  simp [World.setCell, Array.getElem?_modify, show w.heap[b]? = _ from h]
theorem size_builder : (Tryz.prog.info? 188).map (·.size) = some 2 := by kernel_rfl
theorem lies_writer : liesAt Tryz.prog Tryz.prog.depth 190 (5 / Tryz.prog.cellsOf 190) 0 188 1 = true := by kernel_rfl

set_option maxHeartbeats 1000000 in
set_option maxRecDepth 100000 in
theorem wr_copyCheck (b : Nat) (v c g m : Value) (w : World) (h : WrAt b (.pointer none) v c g m w) :
    Calls Tryz.prog 187 #[.pointer (some ⟨b, 0, none⟩)] w fun e w' => e = .returned (.tuple #[]) ∧ w' = w.setCell ⟨b, 0, none⟩ (.pointer (some ⟨b, 0, none⟩)) := by
  obtain ⟨j, hj, hjs⟩ := Option.map_eq_some_iff.1 size_builder
  have h0 := h.cell0
  have hsh := h.shape
  have hfz := h.frozen 0
  go_enter Tryz.func187, Tryz.ntmps187
  go_wp2
  rw [Lib.run_to_unsafe w ⟨b, 0, none⟩ Tryz.underlying186 Tryz.underlying340 hj (by rw [hjs]; decide) hsh (Nat.zero_lt_succ 4)]
  simp only [Result.andThen]
  rw [Oper.upon_value]
  go_wp2
  rw [run_callFunc_extern Tryz.func220 (by kernel_rfl) (by kernel_rfl) (by kernel_rfl) (e := Extern.AbiNoEscape.same) (by kernel_rfl)]
  rw [Lib.run_noEscape]
  simp only [Result.andThen]
  rw [Oper.upon_value]
  go_wp2
  rw [Lib.run_from_unsafe w ⟨b, 0, none⟩ Tryz.underlying340 Tryz.underlying186 hj hsh lies_writer]
  simp only [Result.andThen]
  rw [Oper.upon_value]
  go_wp2
  go_end0
  exact ⟨rfl, rfl⟩
theorem owns_set {B b : Nat} {n : Nat} {v : Value} {xs : List Value} {w : World} (h : w.ownsRow B 5 1 v n xs) (hb : b < B) (a : Nat) (q : Value) : (w.setCell ⟨b, a, none⟩ q).ownsRow B 5 1 v n xs := by
  refine ⟨h.1, ?_⟩
  rcases h.2 with hl | ⟨g, cap, cur, hv, hg, hbg, r⟩
  · exact .inl hl
  · exact .inr ⟨g, cap, cur, hv, hg, (Below.heap_setCell w ⟨b, a, none⟩ q g (show g ≠ b by omega)).trans hbg, r⟩
theorem empty_of {s : ByteArray} (h : s.size = 0) : s = .empty := by
  apply ByteArray.ext
  apply Array.toList_inj.1
  exact List.eq_nil_of_length_eq_zero h
theorem byte_info : (Tryz.prog.info? 5).map (fun i => (i.zero, i.size, i.bytes)) = some (some (.int .u8 0), 1, 1) := by kernel_rfl
set_option maxHeartbeats 2000000 in
set_option maxRecDepth 100000 in
/-- a text written into a fresh writer. -/
theorem wr_string (b : Nat) (c g m : Value) (s : ByteArray) (w : World) (h : WrAt b (.pointer none) (.slice none 0 0) c g m w) (hlen : s.size ≤ 140737488355328) :
    Calls Tryz.prog 141 #[.pointer (some ⟨b, 0, none⟩), .string s] w fun e w' => e = .returned (.tuple #[.int .i64 s.size, .nilIface]) ∧ ∃ v, WrAt b (.pointer (some ⟨b, 0, none⟩)) v c g m w' ∧ w'.ownsRow (b + 1) 5 1 v s.size (Lib.strCells s) ∧ (s.size = 0 → v = .slice none 0 0) ∧ Below b w w' := by
  obtain ⟨i0, hi, hz0, hz1, hz2⟩ := info_parts byte_info
  have CC := hide (wr_copyCheck b (.slice none 0 0) c g m w h)
  have hlt := h.lt
  have h1 := hide (h.set0 (.pointer (some ⟨b, 0, none⟩)))
  have hb1 : Below b w (w.setCell ⟨b, 0, none⟩ (.pointer (some ⟨b, 0, none⟩))) := (Below.refl b w).setCell (Nat.le_refl _) _
  have hs1 : (w.setCell ⟨b, 0, none⟩ (.pointer (some ⟨b, 0, none⟩))).heap.size = w.heap.size := by simp
  go_enter Tryz.func141, Tryz.ntmps141
  go_wp2_with (go_at_call 187; refine (unhide CC).mono ?_)
  clear CC
  rintro e w1 ⟨rfl, rfl⟩
  generalize w.setCell ⟨b, 0, none⟩ (.pointer (some ⟨b, 0, none⟩)) = w1 at h1 hb1 hs1 ⊢
  have c0 := (unhide h1).cell0
  have c1 := (unhide h1).cell1
  have hown : w1.ownsRow (b + 1) 5 1 (.slice none 0 0) 0 [] := ⟨rfl, .inl ⟨rfl, rfl⟩⟩
  go_wp2_with (at_builtin; refine Lib.wpList_append_own_string _ rfl _ _ 53 9 rfl (b + 1) 5 i0 Tryz.underlying53 Tryz.underlying9 hi hz0 hz1 hz2 _ _ _ rfl hown s rfl ?c3 ?c4 ?c5 ?_)
  case c3 => unfold maxLen; omega
  case c4 => omega
  case c5 => omega
  intro v' w2 hown' hgrow hnil
  have hn0 : Hid (s.size = 0 → v' = .slice none 0 0) := fun hz => hnil.2 (empty_of hz)
  clear hnil
  have hb2 : WrAt b (.pointer (some ⟨b, 0, none⟩)) (.slice none 0 0) c g m w2 := (hgrow.block b (by omega) (fun e => by cases e)).trans (unhide h1)
  have d0 := hb2.cell0
  have d1 := hb2.cell1
  have f1 := hb2.frozen 1
  obtain ⟨ao, n', cap, rfl⟩ : ∃ ao n' cap, v' = .slice ao n' cap := by
    rcases hown'.2 with ⟨hv, _⟩ | ⟨g, cap, cur, hv, _⟩
    · exact ⟨_, _, _, hv⟩
    · exact ⟨_, _, _, hv⟩
  go_wp2
  go_ret2
  refine ⟨rfl, _, hb2.set1 _, ?_, unhide hn0, ?_⟩
  · exact owns_set (by simpa using hown') (Nat.lt_succ_self b) 1 _
  · exact (hb1.grown hgrow (by omega) (fun k hk => by cases hk)).setCell (p := ⟨b, 1, none⟩) (Nat.le_refl _) _
set_option maxHeartbeats 1000000 in
set_option maxRecDepth 100000 in
theorem wr_full (b : Nat) (p c g m : Value) (ao : Option Addr) (n cap : Nat) (w : World) (h : WrAt b p (.slice ao n cap) c g m w) :
    Calls Tryz.prog 95 #[.pointer (some ⟨b, 0, none⟩)] w fun e w' => e = .returned (.bool (decide ((4096 : Int) < n))) ∧ w = w' := by
  have c1 := h.cell1
  have LN := hide (show Calls Tryz.prog 146 #[.pointer (some ⟨b, 0, none⟩)] w fun e w' => e = .returned (.int .i64 n) ∧ w = w' by
    go_enter Tryz.func146, Tryz.ntmps146
    go_wp2
    go_ret
    exact ⟨rfl, rfl⟩)
  go_enter Tryz.func95, Tryz.ntmps95
  go_wp2_with (go_at_call 146; refine (unhide LN).mono ?_)
  rintro e w1 ⟨rfl, rfl⟩
  go_wp2
  go_ret
  exact ⟨rfl, rfl⟩
set_option maxHeartbeats 1000000 in
set_option maxRecDepth 100000 in
/-- what was written is told. -/
theorem wr_told (b : Nat) (p v c g m : Value) (s : ByteArray) (B : Nat) (w : World) (h : WrAt b p v c g m w) (hown : w.ownsRow B 5 1 v s.size (Lib.strCells s)) (hz : s.size = 0 → v = .slice none 0 0) :
    Calls Tryz.prog 96 #[.pointer (some ⟨b, 0, none⟩)] w fun e w' => e = .returned (.string s) ∧ Below B w w' := by
  have mixed : Tryz.prog.follows .mixedOrders = true := by kernel_rfl
  by_cases h0 : s.size = 0
  · obtain rfl := hz h0
    obtain rfl := empty_of h0
    have hd : WrAt b p (.slice none 0 0) c g m w.drew := h
    have c1 := hd.cell1
    have h1 := Lib.run_unsafeSliceData_nil (P := Tryz.prog) (w := w.drew) #[53] 257 0 0
    have h2 := Lib.run_unsafeString_none (P := Tryz.prog) (w := w.drew) 257 3 9 none
    go_enter Tryz.func96, Tryz.ntmps96
    go_wp2
    go_region_o
    all_goals (go_wp2; go_ret; exact ⟨rfl, Below.drew (Below.refl B w)⟩)
  · have hl0 : s.data.toList ≠ [] := fun e => h0 (show s.data.toList.length = 0 by rw [e]; rfl)
    rw [Lib.strCells_eq] at hown
    have hsl : s.data.toList.length = s.size := rfl
    obtain ⟨q, cap, cur, rfl, hbq, hq, hnc, hcm, hcs, htake⟩ : ∃ q cap cur, v = .slice (some ⟨q, 0, none⟩) s.size cap ∧ B ≤ q ∧ w.heap[q]? = some (.cells cur 5 (0, 0)) ∧ s.size ≤ cap ∧ cap ≤ maxLen ∧ cur.size = cap * 1 ∧ cur.toList.take (s.size * 1) = Lib.byteCells s.data.toList := by
      rcases hown.2 with ⟨_, hz⟩ | ⟨q, cap, cur, hv, r⟩
      · exact absurd hz h0
      · exact ⟨q, cap, cur, hv, r⟩
    have hd : WrAt b p (.slice (some ⟨q, 0, none⟩) s.size cap) c g m w.drew := h
    have c1 := hd.cell1
    have hSD : (Builtin.unsafeSliceData_ #[53] 257 #[.slice (some ⟨q, 0, none⟩) s.size cap]).run Tryz.prog w.drew = .ok (.pointer (some ⟨q, 0, none⟩)) w.drew :=
      Lib.run_unsafeSliceData_row _ _ _ _ _ _ (by omega)
    have hUS : (Builtin.unsafeString_ #[257, 3] 9 #[.pointer (some ⟨q, 0, none⟩), .int .i64 s.size]).run Tryz.prog w.drew = .ok (.string s) (w.drew.freeze ⟨q, 0, none⟩ s.size) := by
      refine Lib.run_unsafeString_row w.drew 257 3 9 5 Tryz.underlying257 (by kernel_rfl) q cur.size (by have hg' : w.drew.heap[q]? = some (.cells cur 5 (0, 0)) := hq; simp [World.shape?, hg']) s.data.toList hl0 (by omega) (by unfold maxLen at hcm; omega) ?_
      intro j x hx
      have := hown.cells (g := q) rfl j (.int .u8 x.toNat) (by simp [Lib.byteCells, hx])
      exact this
    go_enter Tryz.func96, Tryz.ntmps96
    go_wp2
    go_region_o
    all_goals (go_wp2; go_ret; exact ⟨rfl, Lib.below_freeze (Below.drew (Below.refl B w)) (p := ⟨q, 0, none⟩) hbq _⟩)
end Go.Proofs.YtnkcibcodabkiaaGreatDoor
