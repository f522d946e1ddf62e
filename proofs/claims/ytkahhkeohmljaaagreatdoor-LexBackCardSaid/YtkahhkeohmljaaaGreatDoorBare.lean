/-
  coillaw1.bare, walked: tokens without their places.
-/
import Derived.Test.YtkahhkeohmljaaaGreatDoorSays
namespace Go.Proofs.YtkahhkeohmljaaaGreatDoor
namespace Lx
def bareT (ts : List Tok) : List Tok := ts.map fun t => (0, t.2)
theorem bareT_take {ts : List Tok} {k : Nat} {t : Tok} (h : ts[k]? = some t) : bareT (ts.take (k + 1)) = bareT (ts.take k) ++ [(0, t.2)] := by
  have hk : k < ts.length := (List.getElem?_eq_some_iff.1 h).1
  have : ts.take (k + 1) = ts.take k ++ [t] := by rw [List.take_add_one, h]; rfl
  rw [this]; simp [bareT]
theorem bareT_eq {a b : List Tok} (h : a.map (·.2) = b.map (·.2)) : bareT a = bareT b := by
  have e : ∀ l : List Tok, bareT l = (l.map (·.2)).map fun x => ((0, x) : Tok) := fun l => by simp [bareT, Function.comp_def]
  rw [e, e, h]
end Lx
open Go Go.RowKit Lx

set_option maxHeartbeats 2000000 in
set_option maxRecDepth 100000 in
theorem bare_any (v : Value) (ts : List Tok) (w : World) (hl : ts.length ≤ 1000000) (hv : TokRow w v ts) :
    Calls Tryz.prog 23 #[v] w fun e w' => ∃ u, e = .returned u ∧ TokRow w' u (bareT ts) ∧ Below w.heap.size w w' := by
  obtain ⟨p, c, rfl, hp⟩ := hv
  have HP := hide hp
  clear hp
  obtain ⟨i0, hi, hz0, hz1, hz2⟩ := info_parts info_tok
  go_enter Tryz.func23, Tryz.ntmps23
  go_wp2
  go_loopw [3, 4] (fun u i wr => ∃ k : Nat, i = .int .i64 k ∧ k ≤ ts.length ∧ wr.ownsRow w.heap.size 40 4 u k (allCells (bareT (ts.take k))) ∧ Below w.heap.size w wr) (fun _ i _ => ts.length - (intOf i).toNat)
  case atStart => exact ⟨0, rfl, by omega, World.ownsRow_nil _ _ _ _, Below.refl _ _⟩
  case round =>
    obtain ⟨k, rfl, hk, hown, hb⟩ := hrel
    by_cases hlt : k < ts.length
    · have hget : ts[k]? = some ts[k] := by simp [hlt]
      obtain ⟨g, o, rfl, a0, a1, a2, a3⟩ := unhide HP k ts[k] hget
      have hgl := cell_lt a0
      have b0 := (hb.cell (p := ⟨g, _, none⟩) hgl).trans a0
      have b1 := (hb.cell (p := ⟨g, _, none⟩) hgl).trans a1
      have b2 := (hb.cell (p := ⟨g, _, none⟩) hgl).trans a2
      have b3 := (hb.cell (p := ⟨g, _, none⟩) hgl).trans a3
      have HN := hide (bareT_take hget)
      have hlt' : (k : Int) < (ts.length : Int) := by omega
      clear a0 a1 a2 a3
      revert b0 b1 b2 b3 HN
      generalize ts[k] = t
      obtain ⟨pl, kd, sy, nv⟩ := t
      intro b0 b1 b2 b3 HN
      go_wp2_with (at_builtin; refine wpList_append_own _ rfl _ _ 28 rfl w.heap.size 40 i0 (.agg #[.int .i64 0, .int .i64 0, .string ⟨#[]⟩, .int .i64 0]) 4 40 Tryz.underlying28 hi hz0 hz1 hz2 rfl (by decide) _ k (allCells (bareT (ts.take k))) rfl ?own ⟨_, 0, none⟩ 1 1 (tokCells (0, kd, sy, nv)) rfl rfl ?news ?one ?c3 ?c4 ?c5 ?_)
      case own => exact (hown.alloc _).alloc _
      case news =>
        intro j u hj
        match j, hj with
        | 0, hj => simp [tokCells] at hj; subst hj; simp
        | 1, hj => simp [tokCells] at hj; subst hj; simp
        | 2, hj => simp [tokCells] at hj; subst hj; simp
        | 3, hj => simp [tokCells] at hj; subst hj; simp
        | j + 4, hj => simp [tokCells] at hj
      case one => intro u hu; simp [tokCells] at hu; rcases hu with rfl | rfl | rfl | rfl <;> rfl
      case c3 => unfold maxLen; omega
      case c4 => omega
      case c5 => have := hb.size; simp; omega
      intro v' w1 hown' hgrow _
      have hbs := hb.size
      have hb' : Below w.heap.size w w1 := ((hb.alloc hbs _).alloc (by simp; omega) _).grown hgrow (by simp; omega) (fun q e => (hown.lt q e).1)
      rw [← allCells_snoc] at hown'
      have HN' := unhide HN
      rw [← HN'] at hown'
      clear hgrow HN'
      go_wp2
      go_roundw
      case rel => exact ⟨k + 1, by go_num, by omega, hown', hb'⟩
      case measure => simp [intOf]; omega
    · have e : (bareT (ts.take k)).length = k := by simp [bareT]; omega
      have e2 : ts.take k = ts := List.take_of_length_le (by omega)
      rw [e2] at e hown
      rw [← e] at hown
      go_wp2
      go_ret
      exact ⟨_, rfl, TokRow.of_owns hown, hb⟩
end Go.Proofs.YtkahhkeohmljaaaGreatDoor
