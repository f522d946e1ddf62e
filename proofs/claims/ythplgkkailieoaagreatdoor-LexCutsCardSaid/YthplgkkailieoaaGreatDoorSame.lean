/-
  coilbook.Same at two equal lists, and coillaw1.token, walked.
-/
import Derived.Test.YthplgkkailieoaaGreatDoorTokens
import Derived.Laws.StructEq
import Derived.RegionTactic
namespace Go.Proofs.YthplgkkailieoaaGreatDoor
open Go Go.RowKit Lx

theorem token_any (k a n : Int) (s : ByteArray) (w : World) : Calls Tryz.prog 33 #[.int .i64 k, .int .i64 a, .int .i64 n, .string s] w fun e w' => e = .returned (.agg #[.int .i64 a, .int .i64 k, .string s, .int .i64 n]) ∧ Below w.heap.size w w' := by
  go_enter Tryz.func33, Tryz.ntmps33
  go_wp2
  exact bodyPost_ret (v := .agg #[.int .i64 a, .int .i64 k, .string s, .int .i64 n]) (by simp [results, Tryz.results33, go_sem]) rfl ⟨rfl, below2 _ _ _⟩

/-- A slice of tokens as it lies. -/
def TokRow (W : World) (v : Value) (ts : List Tok) : Prop :=
  ∃ (p : Option Addr) (c : Nat), v = .slice p ts.length c ∧ ∀ j t, ts[j]? = some t → ∃ g o, p = some ⟨g, o, none⟩ ∧
    W.cell? ⟨g, o + j * 4, none⟩ = some (.int .i64 (t.1 : Int)) ∧ W.cell? ⟨g, o + j * 4 + 1, none⟩ = some (.int .i64 t.2.1) ∧
    W.cell? ⟨g, o + j * 4 + 2, none⟩ = some (.string ⟨t.2.2.1.toArray⟩) ∧ W.cell? ⟨g, o + j * 4 + 3, none⟩ = some (.int .i64 t.2.2.2)

set_option maxHeartbeats 1000000 in
set_option maxRecDepth 100000 in
theorem SameTok_any (v u : Value) (ts : List Tok) (w : World) (hl : ts.length ≤ 1000000) (hv : TokRow w v ts) (hu : TokRow w u ts) :
    Calls Tryz.prog 10 #[v, u] w fun e w' => e = .returned (.bool true) ∧ Below w.heap.size w w' := by
  obtain ⟨p, c, rfl, hp⟩ := hv
  obtain ⟨q, d, rfl, hq⟩ := hu
  have HP := hide hp
  have HQ := hide hq
  clear hp hq
  go_enter Tryz.func10, Tryz.ntmps10
  go_wp2
  go_loopw [5] (fun i wr => ∃ k nd : Nat, i = .int .i64 k ∧ k ≤ ts.length ∧ wr = w.drewN nd) (fun i _ => ts.length - (intOf i).toNat)
  case atStart => exact ⟨0, 0, rfl, by omega, rfl⟩
  case round =>
    obtain ⟨k, nd, rfl, hk, rfl⟩ := hrel
    by_cases hlt : k < ts.length
    · obtain ⟨g, o, rfl, a0, a1, a2, a3⟩ := unhide HP k ts[k] (by simp [hlt])
      obtain ⟨g', o', rfl, b0, b1, b2, b3⟩ := unhide HQ k ts[k] (by simp [hlt])
      have hlt' : (k : Int) < (ts.length : Int) := by omega
      go_wp2
      go_quiet (fail)
      go_wp2
      go_roundw
      case rel => exact ⟨k + 1, nd + nq, by go_num, by omega, by simp [World.drewN]⟩
      case measure => simp [intOf]; omega
    · go_wp2
      go_ret
      exact ⟨rfl, below_drewN (Below.refl _ _) _⟩

/-- A slice of strings as it lies. -/
def StrRow (W : World) (v : Value) (ss : List Bs) : Prop :=
  ∃ (p : Option Addr) (c : Nat), v = .slice p ss.length c ∧ ∀ j t, ss[j]? = some t → ∃ g o, p = some ⟨g, o, none⟩ ∧ W.cell? ⟨g, o + j, none⟩ = some (.string ⟨t.toArray⟩)
set_option maxHeartbeats 1000000 in
set_option maxRecDepth 100000 in
theorem SameStr_any (v u : Value) (ts : List Bs) (w : World) (hl : ts.length ≤ 1000000) (hv : StrRow w v ts) (hu : StrRow w u ts) :
    Calls Tryz.prog 34 #[v, u] w fun e w' => e = .returned (.bool true) ∧ Below w.heap.size w w' := by
  obtain ⟨p, c, rfl, hp⟩ := hv
  obtain ⟨q, d, rfl, hq⟩ := hu
  have HP := hide hp
  have HQ := hide hq
  clear hp hq
  go_enter Tryz.func34, Tryz.ntmps34
  go_wp2
  go_loopw [5] (fun i wr => ∃ k nd : Nat, i = .int .i64 k ∧ k ≤ ts.length ∧ wr = w.drewN nd) (fun i _ => ts.length - (intOf i).toNat)
  case atStart => exact ⟨0, 0, rfl, by omega, rfl⟩
  case round =>
    obtain ⟨k, nd, rfl, hk, rfl⟩ := hrel
    by_cases hlt : k < ts.length
    · obtain ⟨g, o, rfl, a0⟩ := unhide HP k ts[k] (by simp [hlt])
      obtain ⟨g', o', rfl, b0⟩ := unhide HQ k ts[k] (by simp [hlt])
      have hlt' : (k : Int) < (ts.length : Int) := by omega
      go_wp2
      go_quiet (fail)
      go_wp2
      go_roundw
      case rel => exact ⟨k + 1, nd + nq, by go_num, by omega, by simp [World.drewN]⟩
      case measure => simp [intOf]; omega
    · go_wp2
      go_ret
      exact ⟨rfl, below_drewN (Below.refl _ _) _⟩
theorem refWords_any (w : World) : Calls Tryz.prog 36 #[] w fun e w' => e = .returned (.slice (some ⟨w.heap.size, 0, none⟩) 25 25) ∧ w' = w.alloc (.cells wordCells 9) := by
  go_enter Tryz.func36, Tryz.ntmps36
  go_wp2
  go_ret
  exact ⟨rfl, rfl⟩
end Go.Proofs.YthplgkkailieoaaGreatDoor
