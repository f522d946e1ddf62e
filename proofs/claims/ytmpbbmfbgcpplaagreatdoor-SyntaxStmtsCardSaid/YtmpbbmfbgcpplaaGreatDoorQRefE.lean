import Derived.Test.YtmpbbmfbgcpplaaGreatDoorQRefC
import Derived.Test.YtmpbbmfbgcpplaaGreatDoorQLaws6
import Derived.Test.YtmpbbmfbgcpplaaGreatDoorQOwnG
import Derived.Lib.AppendStr
set_option maxHeartbeats 4000000
set_option maxRecDepth 100000
namespace Go.Proofs.YtmpbbmfbgcpplaaGreatDoor
open Go Go.RowKit Lx
namespace Lx
def textR : List Bs → Nat → Bs → Option Bs
 | [], _, acc => some acc
 | s :: r, i, acc =>
  if 65536 < ((acc ++ (if 0 < i then [32] else [])) ++ s).length then none
  else textR r (i + 1) ((acc ++ (if 0 < i then [32] else [])) ++ s)
def zex (ss : List Bs) : Sum Nat Bs :=
 match textR ss 0 [] with
 | none => .inl 2
 | some l => if 4096 < ss.length then .inl 3 else .inr l
end Lx
theorem cells_of_str (s : ByteArray) : Lib.strCells s = Lib.byteCells s.data.toList := by simp [Lib.strCells, Lib.byteCells]
theorem Text_any (v : Value) (ss : List Bs) (w : World) (hv : SRow w v ss) (hl : ss.length ≤ 1000000) (hS : ∀ s ∈ ss, s.length ≤ 1000000) :
  Calls Tryz.prog 57 #[v] w fun e w' => e = .returned (zbk (zex ss)) ∧ Below w.heap.size w w' := by
 obtain ⟨i0, hi, hz0, hz1, hz2⟩ := info_parts rinfo_u8
 have HV := za3 hv
 have HT0 := za3 hS
 obtain ⟨p, c, rfl, hp⟩ := hv
 clear hp hS
 go_enter Tryz.func57, Tryz.ntmps57
 go_wp2_with (at_make; refine wpList_make_own _ rfl _ _ 130 rfl w.heap.size 5 i0 (.int .u8 0) 1 Tryz.underlying130 hi hz0 hz1 .i64 .i64 _ 0 rfl rfl rfl (by rw [hz2]; omega) (by unfold maxLen; omega) (Nat.le_refl _) ?_; intro w0 hown0 hgrow0)
 have hb0 : Below w.heap.size w w0 := (Below.refl _ _).grown hgrow0 (by simp) (by simp)
 clear hgrow0
 go_loopw [4, 5] (fun v i wr => ∃ (j : Nat) (acc : Bs), i = .int .i64 j ∧ j ≤ ss.length ∧ acc.length ≤ 65536 ∧ wr.ownsRow w.heap.size 5 1 v acc.length (Lib.byteCells acc) ∧ Below w.heap.size w wr ∧ Hid (textR ss 0 [] = textR (ss.drop j) j acc)) (fun _ i _ => ss.length - (intOf i).toNat)
 case atStart => exact ⟨0, [], rfl, by omega, by simp, by simpa [Lib.byteCells] using hown0, hb0, rfl⟩
 case round =>
  clear hown0 hb0
  obtain ⟨j, acc, rfl, hj, hal, hown, hbx, HJ⟩ := hrel
  have hxs := hbx.size
  by_cases hlt2 : j < ss.length
  ·obtain ⟨A2, hA2⟩ : ∃ A2, A2 = acc ++ (if 0 < j then [32] else []) := ⟨_, rfl⟩
   have hft2 := za0 HT0 ss[j] (by simp)
   have hlt' : (j : Int) < (ss.length : Int) := by omega
   have hJ := za0 HJ
   rw [List.drop_eq_getElem_cons hlt2, textR, ← hA2] at hJ
   obtain ⟨A3, hA3⟩ : ∃ A3, A3 = A2 ++ ss[j] := ⟨_, rfl⟩
   rw [← hA3] at hJ
   obtain ⟨X, hX⟩ : ∃ X : ByteArray, X = ⟨ss[j].toArray⟩ := ⟨_, rfl⟩
   have hXl : X.size ≤ 1000000 := by rw [hX]; show ss[j].toArray.size ≤ _; simpa using hft2
   have hX2 : Lib.byteCells A2 ++ Lib.strCells X = Lib.byteCells A3 := by rw [cells_of_str, ← byteCells_append, hA3, hX]
   have hA3l : A2.length + X.size = A3.length := by rw [hA3, hX, List.length_append]; rfl
   have HX2 := za3 hX2
   have HA3 := za3 hA3l
   obtain ⟨p', c', hpe, hp'⟩ := za0 HV
   obtain ⟨g, o, hpg, a0⟩ := hp' j ss[j] (by simp)
   simp only [Value.slice.injEq] at hpe
   obtain ⟨rfl, _, rfl⟩ := hpe
   subst hpg
   rw [← hX] at a0
   have hga := za2 a0
   clear hft2 HJ hA3 hX hX2 hp'
   by_cases hj0 : 0 < j
   ·have hj0' : 0 < (j : Int) := by omega
    rw [if_pos hj0] at hA2
    have hA2l : A2.length = acc.length + 1 := by rw [hA2]; simp
    clear hj0
    go_wp2_with (at_builtin; refine wpList_append_own _ rfl _ _ 130 rfl w.heap.size 5 i0 (.int .u8 0) 1 1 Tryz.underlying130 hi hz0 hz1 hz2 rfl (by decide) _ acc.length (Lib.byteCells acc) rfl ?own ⟨_, 0, none⟩ 1 1 [.int .u8 32] rfl rfl ?news ?one ?c3 ?c4 ?c5 ?_)
    case own => exact hown.alloc _
    case news =>
     intro j u hj
     match j, hj with
     | 0, hj => simp at hj; subst hj; simp [Addr.add]
     | j + 1, hj => simp at hj
    case one => intro u hu; simp at hu; subst hu; rfl
    case c3 => unfold maxLen; omega
    case c4 => omega
    case c5 => simp; omega
    intro v' w2 hown' hgrow _
    have hown2 : w2.ownsRow w.heap.size 5 1 v' A2.length (Lib.byteCells A2) := by rw [hA2l, hA2, zd2]; exact hown'
    have hb2 : Below w.heap.size w w2 := (hbx.alloc (by omega) _).grown hgrow (by simp; omega) (fun q e => (hown.lt q e).1)
    have b0 := (hb2.cell (p := ⟨g, _, none⟩) hga).trans a0
    clear hgrow hown' a0
    have hws := hb2.size
    by_cases hlg : 65536 < A3.length
    ·have hlg' : 65536 < (A3.length : Int) := by omega
     rw [if_pos hlg] at hJ
     have HR : Hid (zbk (zex ss) = .tuple #[.string ⟨#[]⟩, .int .i64 2]) := by show _ = _; rw [zex, hJ]; rfl
     clear hJ hA2 hlg
     go_wp2_with (at_builtin; refine Lib.wpList_append_own_string _ rfl _ _ 130 9 rfl w.heap.size 5 i0 Tryz.underlying130 Tryz.underlying9 hi hz0 hz1 hz2 _ A2.length (Lib.byteCells A2) rfl hown2 X rfl (by unfold maxLen; omega) (by omega) (by omega) ?_; intro v4 w4 hown4 hgrow4 _; rw [za0 HX2, za0 HA3] at hown4; obtain ⟨p4, c4, rfl, _⟩ := zaq hown4)
     go_ret2
     have hb4 : Below w.heap.size w w4 := hb2.grown hgrow4 (by omega) (fun q e => (hown2.lt q e).1)
     exact ⟨by rw [za0 HR]; rfl, hb4⟩
    ·have hlg' : (A3.length : Int) ≤ 65536 := by omega
     rw [if_neg hlg] at hJ
     have HN := za3 hJ
     clear hJ hA2
     go_wp2_with (at_builtin; refine Lib.wpList_append_own_string _ rfl _ _ 130 9 rfl w.heap.size 5 i0 Tryz.underlying130 Tryz.underlying9 hi hz0 hz1 hz2 _ A2.length (Lib.byteCells A2) rfl hown2 X rfl (by unfold maxLen; omega) (by omega) (by omega) ?_; intro v4 w4 hown4 hgrow4 _; rw [za0 HX2, za0 HA3] at hown4; obtain ⟨p4, c4, rfl, _⟩ := zaq hown4)
     have hb4 : Below w.heap.size w w4 := hb2.grown hgrow4 (by omega) (fun q e => (hown2.lt q e).1)
     go_roundw
     case rel => exact ⟨j + 1, A3, by go_num, by omega, by omega, hown4, hb4, HN⟩
     case measure => simp [intOf]; omega
   ·have hj0' : (j : Int) ≤ 0 := by omega
    rw [if_neg hj0, List.append_nil] at hA2
    subst hA2
    have b0 := (hbx.cell (p := ⟨g, _, none⟩) hga).trans a0
    clear hj0 a0
    by_cases hlg : 65536 < A3.length
    ·have hlg' : 65536 < (A3.length : Int) := by omega
     rw [if_pos hlg] at hJ
     have HR : Hid (zbk (zex ss) = .tuple #[.string ⟨#[]⟩, .int .i64 2]) := by show _ = _; rw [zex, hJ]; rfl
     clear hJ hlg
     go_wp2_with (at_builtin; refine Lib.wpList_append_own_string _ rfl _ _ 130 9 rfl w.heap.size 5 i0 Tryz.underlying130 Tryz.underlying9 hi hz0 hz1 hz2 _ A2.length (Lib.byteCells A2) rfl hown X rfl (by unfold maxLen; omega) (by omega) (by omega) ?_; intro v4 w4 hown4 hgrow4 _; rw [za0 HX2, za0 HA3] at hown4; obtain ⟨p4, c4, rfl, _⟩ := zaq hown4)
     go_ret2
     have hb4 : Below w.heap.size w w4 := hbx.grown hgrow4 (by omega) (fun q e => (hown.lt q e).1)
     exact ⟨by rw [za0 HR]; rfl, hb4⟩
    ·have hlg' : (A3.length : Int) ≤ 65536 := by omega
     rw [if_neg hlg] at hJ
     have HN := za3 hJ
     clear hJ
     go_wp2_with (at_builtin; refine Lib.wpList_append_own_string _ rfl _ _ 130 9 rfl w.heap.size 5 i0 Tryz.underlying130 Tryz.underlying9 hi hz0 hz1 hz2 _ A2.length (Lib.byteCells A2) rfl hown X rfl (by unfold maxLen; omega) (by omega) (by omega) ?_; intro v4 w4 hown4 hgrow4 _; rw [za0 HX2, za0 HA3] at hown4; obtain ⟨p4, c4, rfl, _⟩ := zaq hown4)
     have hb4 : Below w.heap.size w w4 := hbx.grown hgrow4 (by omega) (fun q e => (hown.lt q e).1)
     go_roundw
     case rel => exact ⟨j + 1, A3, by go_num, by omega, by omega, hown4, hb4, HN⟩
     case measure => simp [intOf]; omega
  ·have HR : Hid (textR ss 0 [] = some acc) := by
    have e := za0 HJ
    rw [List.drop_of_length_le (by omega)] at e
    exact e
   clear HJ
   obtain ⟨p4, c4, rfl, _⟩ := zaq hown
   by_cases hmany : 4096 < ss.length
   ·have hm' : 4096 < (ss.length : Int) := by omega
    have HX : Hid (zbk (zex ss) = .tuple #[.string ⟨#[]⟩, .int .i64 3]) := by
     show _ = _
     rw [zex, za0 HR]; simp [hmany, zbk]
    clear hmany HR
    go_wp2
    go_ret2
    exact ⟨by rw [za0 HX]; rfl, hbx⟩
   ·have hm' : (ss.length : Int) ≤ 4096 := by omega
    have HX : Hid (zbk (zex ss) = .tuple #[.string ⟨acc.toArray⟩, .int .i64 0]) := by
     show _ = _
     rw [zex, za0 HR]; simp [hmany, zbk]
    have kc := zga hown
    clear hmany HR
    go_wp2
    go_ret2
    exact ⟨by rw [za0 HX]; rfl, hbx⟩
theorem fits_no (v : Value) (w : World) : Calls Tryz.prog 12 #[.string ⟨#[]⟩, .int .i64 1, .bool false, v] w fun e w' => e = .returned (.bool true) ∧ Below w.heap.size w w' := by
 go_enter Tryz.func12, Tryz.ntmps12
 go_wp2
 go_ret
 exact ⟨rfl, Below.refl _ _⟩
theorem fits_yes (X : ByteArray) (y : Int) (v : Value) (ss : List Bs) (w : World) (hx : zbk (zex ss) = .tuple #[.string X, .int .i64 y]) (hv : SRow w v ss) (hl : ss.length ≤ 1000000) (hS : ∀ s ∈ ss, s.length ≤ 1000000) :
  Calls Tryz.prog 12 #[.string X, .int .i64 y, .bool true, v] w fun e w' => e = .returned (.bool true) ∧ Below w.heap.size w w' := by
 have TX := Text_any v ss w hv hl hS
 rw [hx] at TX
 have HT := za3 TX
 clear TX hx hv hS
 go_enter Tryz.func12, Tryz.ntmps12
 go_wp2_with (go_at_call 57; refine (za0 HT).mono ?_; clear HT; rintro x w1 ⟨rfl, hb1⟩)
 go_ret
 exact ⟨by simp, hb1⟩
end Go.Proofs.YtmpbbmfbgcpplaaGreatDoor
