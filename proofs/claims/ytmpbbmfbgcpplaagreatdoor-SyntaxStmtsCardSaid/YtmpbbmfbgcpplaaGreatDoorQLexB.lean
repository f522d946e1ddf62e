import Derived.Test.YtmpbbmfbgcpplaaGreatDoorQLexA
import Derived.Shelf.Strings.Builder1
import Derived.RangeFuncNested
import Derived.RangeFuncLeaves
import Derived.RangeFuncCalls
import Derived.RangeFuncBound
import Derived.Shelf.Abstract
import Derived.OwnWalkIn
import Derived.TacticsInMore
import Derived.LoopNIn
import Derived.LoopIn
import Derived.Maps.AppendAt
import Derived.Deep.QuietTactic
import Derived.BigQuiet
import Derived.Laws.StructEq
import Derived.RegionTactic
set_option maxHeartbeats 2000000
set_option maxRecDepth 100000
namespace Go.Proofs.YtmpbbmfbgcpplaaGreatDoor
open Go Go.RowKit Go.Shelf Go.Proofs
def ren : Ren where
 f := fun
  | 240 => 153
  | 276 => 164
  | 167 => 128
  | 166 => 154
  | n => n
 t := fun
  | 0 => 0
  | 3 => 3
  | 4 => 4
  | 5 => 5
  | 9 => 9
  | 20 => 20
  | 37 => 130
  | 70 => 165
  | 72 => 167
  | 75 => 169
  | 80 => 173
  | 164 => 194
  | n => n
 g := fun n => n
theorem lays167 : Lays.n167 Tryz.prog ren where
 mixed := by kernel_rfl
 f167 := by kernel_rfl
 f240 := by kernel_rfl
 f276 := by kernel_rfl
 t0 := Tryz.underlying0
 a0 := Tryz.isAgg0
 z0 := Tryz.sizeOf0
 v0 := Tryz.zeroValue0
 t4 := Tryz.underlying4
 a4 := Tryz.isAgg4
 z4 := Tryz.sizeOf4
 v4 := Tryz.zeroValue4
 t5 := Tryz.underlying5
 a5 := Tryz.isAgg5
 z5 := Tryz.sizeOf5
 v5 := Tryz.zeroValue5
 t9 := Tryz.underlying9
 a9 := Tryz.isAgg9
 z9 := Tryz.sizeOf9
 v9 := Tryz.zeroValue9
 t20 := Tryz.underlying20
 a20 := Tryz.isAgg20
 z20 := Tryz.sizeOf20
 v20 := Tryz.zeroValue20
 t37 := Tryz.underlying130
 a37 := Tryz.isAgg130
 z37 := Tryz.sizeOf130
 v37 := Tryz.zeroValue130
 t70 := Tryz.underlying165
 a70 := Tryz.isAgg165
 z70 := Tryz.sizeOf165
 v70 := Tryz.zeroValue165
 t72 := Tryz.underlying167
 a72 := Tryz.isAgg167
 z72 := Tryz.sizeOf167
 v72 := Tryz.zeroValue167
 t75 := Tryz.underlying169
 a75 := Tryz.isAgg169
 z75 := Tryz.sizeOf169
 v75 := Tryz.zeroValue169
 t164 := Tryz.underlying194
 a164 := Tryz.isAgg194
 z164 := Tryz.sizeOf194
 v164 := Tryz.zeroValue194
theorem lays166 : Lays.n166 Tryz.prog ren where
 mixed := by kernel_rfl
 f166 := by kernel_rfl
 f240 := by kernel_rfl
 f276 := by kernel_rfl
 t0 := Tryz.underlying0
 a0 := Tryz.isAgg0
 z0 := Tryz.sizeOf0
 v0 := Tryz.zeroValue0
 t3 := Tryz.underlying3
 a3 := Tryz.isAgg3
 z3 := Tryz.sizeOf3
 v3 := Tryz.zeroValue3
 t4 := Tryz.underlying4
 a4 := Tryz.isAgg4
 z4 := Tryz.sizeOf4
 v4 := Tryz.zeroValue4
 t9 := Tryz.underlying9
 a9 := Tryz.isAgg9
 z9 := Tryz.sizeOf9
 v9 := Tryz.zeroValue9
 t20 := Tryz.underlying20
 a20 := Tryz.isAgg20
 z20 := Tryz.sizeOf20
 v20 := Tryz.zeroValue20
 t37 := Tryz.underlying130
 a37 := Tryz.isAgg130
 z37 := Tryz.sizeOf130
 v37 := Tryz.zeroValue130
 t70 := Tryz.underlying165
 a70 := Tryz.isAgg165
 z70 := Tryz.sizeOf165
 v70 := Tryz.zeroValue165
 t72 := Tryz.underlying167
 a72 := Tryz.isAgg167
 z72 := Tryz.sizeOf167
 v72 := Tryz.zeroValue167
 t75 := Tryz.underlying169
 a75 := Tryz.isAgg169
 z75 := Tryz.sizeOf169
 v75 := Tryz.zeroValue169
 t164 := Tryz.underlying194
 a164 := Tryz.isAgg194
 z164 := Tryz.sizeOf194
 v164 := Tryz.zeroValue194
theorem extra : Builder.Extra Tryz.prog ren where
 sizeBuilder := by kernel_rfl
 liesBuilder := by kernel_rfl
 t5 := Tryz.underlying5
 a5 := Tryz.isAgg5
 z5 := Tryz.sizeOf5
 v5 := Tryz.zeroValue5
 infoByte := by kernel_rfl
 cellsByte := by kernel_rfl
 sizeByte := by kernel_rfl
 neB5 := by decide
abbrev IsB (B b : Nat) (bs : List Value) (w : World) : Prop := Lib.IsBuilder 167 5 B b bs w
theorem zhn (B b : Nat) (bs : List Value) (c : Int) (w : World) (h : IsB B b bs w) (hlen : bs.length + 1 ≤ 140737488355328) (hBw : B ≤ w.heap.size) :
  Calls Tryz.prog 128 #[.pointer (some ⟨b, 0, none⟩), .int .u8 c] w fun e w' => e = .returned .nilIface ∧ IsB B b (bs ++ [.int .u8 c]) w' ∧ Below B w w' :=
 (Any.Builder_WriteByte lays167 extra B b bs c w h hlen hBw).mono fun _ _ h => ⟨h.1, .inr h.2.1, h.2.2⟩
open Go.RowKit Lx
theorem textF_nil (i : Nat) (acc : Bs) : textF [] i acc = .inl i := rfl
theorem zk1 (r : Bs) (i : Nat) (acc : Bs) : textF (34 :: r) i acc = .inr (acc, i + 1) := by cases r <;> simp [textF]
theorem textF_end (i : Nat) (acc : Bs) : textF [92] i acc = .inl (i + 1) := by simp [textF]
theorem textF_esc (d : UInt8) (r : Bs) (i : Nat) (acc : Bs) (h : zg2 (d.toNat : Int) = true) : textF (92 :: d :: r) i acc = textF r (i + 2) (acc ++ [(escB (d.toNat : Int)).toNat.toUInt8]) := by simp [textF, h]
theorem zlc (d : UInt8) (r : Bs) (i : Nat) (acc : Bs) (h : zg2 (d.toNat : Int) = false) : textF (92 :: d :: r) i acc = .inl (i + 1) := by simp [textF, h]
theorem zkz (c : UInt8) (r : Bs) (i : Nat) (acc : Bs) (h1 : c ≠ 34) (h2 : c ≠ 92) (h : zcn (c.toNat : Int) = true) : textF (c :: r) i acc = textF r (i + 1) (acc ++ [c]) := by cases r <;> simp [textF, h1, h2, h]
theorem zho (c : UInt8) (r : Bs) (i : Nat) (acc : Bs) (h1 : c ≠ 34) (h2 : c ≠ 92) (h : zcn (c.toNat : Int) = false) : textF (c :: r) i acc = .inl i := by cases r <;> simp [textF, h1, h2, h]
theorem zcp {c : UInt8} {n : Nat} (hn : n < 256) (h : (c.toNat : Int) = n) : c = n.toUInt8 := by
 apply UInt8.toNat_inj.1; simp; omega
theorem escB_byte (d : Int) : (((escB d).toNat.toUInt8).toNat : Int) = escB d := by
 unfold escB; repeat' split
 all_goals rfl
theorem zd2 (acc : Bs) (c : UInt8) : Lib.byteCells (acc ++ [c]) = Lib.byteCells acc ++ [.int .u8 (c.toNat : Int)] := by simp [Lib.byteCells]
theorem cells_esc (acc : Bs) (d : Int) : Lib.byteCells (acc ++ [(escB d).toNat.toUInt8]) = Lib.byteCells acc ++ [.int .u8 (escB d)] := by rw [zd2, escB_byte]
theorem zgq {l : Bs} {o : Nat} (h : textF l.tail 1 [] = .inl o) : zb6 l = .inl (o, 12) := by rw [zb6, h]
theorem cutText_yes {l : Bs} {s : Bs} {n : Nat} (h : textF l.tail 1 [] = .inr (s, n)) : zb6 l = .inr (5, s, 0, n) := by rw [zb6, h]
theorem zh7 (b : Int) (w : World) : Calls Tryz.prog 163 #[.int .u8 b] w fun e w' => e = .returned (.bool (zcn b)) ∧ w = w' := (plain_any b w).mono fun _ _ h => ⟨h.1, h.2.symm⟩
theorem escaped_w (b : Int) (w : World) : Calls Tryz.prog 189 #[.int .u8 b] w fun e w' => e = .returned (.tuple #[.int .u8 (escB b), .bool (zg2 b)]) ∧ w = w' := (escaped_any b w).mono fun _ _ h => ⟨h.1, h.2.symm⟩
theorem size4 (wr : World) (b : Nat) (v0 v1 v2 v3 : Value) : ((((wr.setCell ⟨b, 0, none⟩ v0).setCell ⟨b, 1, none⟩ v1).setCell ⟨b, 2, none⟩ v2).setCell ⟨b, 3, none⟩ v3).heap.size = wr.heap.size := by simp
theorem zgv (wr : World) (b : Nat) (v0 v1 v2 v3 : Value) (o : Obj) : (((((wr.setCell ⟨b, 0, none⟩ v0).setCell ⟨b, 1, none⟩ v1).setCell ⟨b, 2, none⟩ v2).setCell ⟨b, 3, none⟩ v3).alloc o).heap[wr.heap.size]? = some o := by
 have := zaj ((((wr.setCell ⟨b, 0, none⟩ v0).setCell ⟨b, 1, none⟩ v1).setCell ⟨b, 2, none⟩ v2).setCell ⟨b, 3, none⟩ v3) o
 rwa [size4] at this
theorem cutText_any (s : ByteArray) (a : Nat) (w : World) (h1 : a < s.size) (hs : s.size ≤ 140737488355328) :
  Calls Tryz.prog 178 #[.string s, .int .i64 a] w fun e w' => zca w a (zb6 (s.data.toList.drop a)) e w' := by
 go_enter Tryz.func178, Tryz.ntmps178
 go_wp2
 go_loopw [8] (fun i wr => ∃ (k : Nat) (acc : Bs), a + 1 ≤ k ∧ k ≤ s.size ∧ i = .int .i64 k ∧ acc.length ≤ k ∧ Hid (textF (s.data.toList.drop (a + 1)) 1 [] = textF (s.data.toList.drop k) (k - a) acc) ∧
   IsB (w.heap.size + 1) (w.heap.size + 1) (Lib.byteCells acc) wr ∧ Below (w.heap.size + 1) ((w.alloc (.cells #[.int .i64 0, .int .i64 0, .string ⟨#[]⟩, .int .i64 0] 142)).alloc (.cells #[.pointer none, .slice none 0 0] 167)) wr) (fun i _ => s.size - (intOf i).toNat)
 case atStart =>
  refine ⟨a + 1, [], by omega, by omega, by go_num, by simp, by show _ = _; congr 1; omega, ?_, Below.refl _ _⟩
  have := Lib.fresh_isBuilder 167 5 (w.alloc (.cells #[.int .i64 0, .int .i64 0, .string ⟨#[]⟩, .int .i64 0] 142))
  simpa [Lib.byteCells] using this
 case round =>
  obtain ⟨k, acc, hk1, hk2, rfl, hal, HK, HB, hb⟩ := hrel
  have hsz := hb.size
  simp only [World.size_alloc] at hsz
  have hlt2 : w.heap.size < wr.heap.size := by omega
  have hcx : ∀ o, wr.cell? ⟨w.heap.size, o, none⟩ = (w.alloc (.cells #[.int .i64 0, .int .i64 0, .string ⟨#[]⟩, .int .i64 0] 142)).cell? ⟨w.heap.size, o, none⟩ := fun o =>
   (hb.cell (p := ⟨w.heap.size, o, none⟩) (Nat.lt_succ_self _)).trans (World.cell?_alloc_lt _ _ _ (by simp))
  have hc0 : wr.cell? ⟨w.heap.size, 0, none⟩ = some (.int .i64 0) := (hcx 0).trans (by simp)
  have hc1 : wr.cell? ⟨w.heap.size, 1, none⟩ = some (.int .i64 0) := (hcx 1).trans (by simp)
  have hc2 : wr.cell? ⟨w.heap.size, 2, none⟩ = some (.string ⟨#[]⟩) := (hcx 2).trans (by simp)
  have hc3 : wr.cell? ⟨w.heap.size, 3, none⟩ = some (.int .i64 0) := (hcx 3).trans (by simp)
  have hf : ∀ o, wr.frozen? ⟨w.heap.size, o, none⟩ = false := fun o =>
   (hb.frozen (p := ⟨w.heap.size, o, none⟩) (Nat.lt_succ_self _)).trans (by simp)
  clear hcx
  have hbw : Below w.heap.size w wr := (zg9 w _ _).trans (hb.mono (by omega))
  by_cases hlt : k < s.size
  ·have hd := drop_cons s k hlt
   by_cases h34 : (s[k].toNat : Int) = 34
   ·have HC : Hid (zb6 (s.data.toList.drop a) = .inr (5, acc, 0, k - a + 1)) := by
     have e := za0 HK
     rw [hd, zcp (by decide) h34] at e
     exact cutText_yes (by rw [tail_drop]; exact e.trans (zk1 _ _ _))
    have hq : ((s[k].toNat : Int) != 34) = false := by simp [h34]
    have heq : ((k : Int) == (s.size : Int)) = false := by simp; omega
    clear h34 hd HK
    have BS : Hid (∀ hx, _) := fun hx => Tryz.Builder_String_any (w.heap.size + 1) (w.heap.size + 1) acc wr HB hx
    go_wp2_with (first | (go_at_call 131; go_fit (za0 BS (by omega)); rintro e w1 ⟨rfl, hb1⟩; have hlt3 : w.heap.size < w1.heap.size := Nat.lt_of_lt_of_le hlt2 hb1.size; have hd0 := (hb1.cell (p := ⟨w.heap.size, 0, none⟩) (Nat.lt_succ_self _)).trans hc0; have hd1 := (hb1.cell (p := ⟨w.heap.size, 1, none⟩) (Nat.lt_succ_self _)).trans hc1; have hd2 := (hb1.cell (p := ⟨w.heap.size, 2, none⟩) (Nat.lt_succ_self _)).trans hc2; have hd3 := (hb1.cell (p := ⟨w.heap.size, 3, none⟩) (Nat.lt_succ_self _)).trans hc3; have hf1 : ∀ o, w1.frozen? ⟨w.heap.size, o, none⟩ = false := fun o => (hb1.frozen (p := ⟨w.heap.size, o, none⟩) (Nat.lt_succ_self _)).trans (hf o)))
    exact bodyPost_ret (v := .tuple #[.agg #[.int .i64 a, .int .i64 5, .string ⟨acc.toArray⟩, .int .i64 0], .int .i64 (k + 1), .pointer none]) (by simp [results, Tryz.results178, go_sem, hd0, hd1, hd2, hd3]) rfl (zdk (za0 HC) (zdo (hbw.trans (hb1.mono (by omega))) (Nat.le_refl _) _ _ _ _) rfl (by omega))
   ·have hq : ((s[k].toNat : Int) != 34) = true := by simpa using h34
    have hn34 : s[k] ≠ 34 := fun h => h34 (by rw [h]; rfl)
    by_cases h92 : (s[k].toNat : Int) = 92
    ·have hx : ((s[k].toNat : Int) == 92) = true := by simp [h92]
     have hs92 : s[k] = 92 := zcp (n := 92) (by decide) h92
     by_cases hlt1 : k + 1 < s.size
     ·have hne : ((k : Int) + 1 == (s.size : Int)) = false := by simp; omega
      have hd1 := drop_cons s (k + 1) hlt1
      by_cases hes : zg2 (s[k + 1].toNat : Int) = true
      ·have HT : Hid (textF (s.data.toList.drop (a + 1)) 1 [] = textF (s.data.toList.drop (k + 1 + 1)) (k - a + 2) (acc ++ [(escB (s[k + 1].toNat : Int)).toNat.toUInt8])) := by
        have e := za0 HK
        rw [hd, hs92, hd1] at e
        exact e.trans (textF_esc _ _ _ _ hes)
       clear h34 h92 hd hd1 hs92 hn34 HK
       go_wp2_with (first | (go_at_call 163; refine (zh7 _ _).mono ?_; rintro e w' ⟨rfl, rfl⟩) | (go_at_call 189; refine (escaped_w _ _).mono ?_; rintro e w' ⟨rfl, rfl⟩) | (go_at_call 128; refine (zhn _ _ _ _ _ HB (by rw [Lib.byteCells_length]; omega) (by omega)).mono ?_; rintro e w1 ⟨rfl, HB1, hb1⟩))
       go_roundw
       case rel => exact ⟨k + 1 + 1, acc ++ [(escB (s[k + 1].toNat : Int)).toNat.toUInt8], by omega, by omega, by go_num, by simp; omega, by have e := za0 HT; rw [show k - a + 2 = k + 1 + 1 - a from by omega] at e; exact e, by rw [cells_esc]; exact HB1, hb.trans hb1⟩
       case measure => simp [intOf]; omega
      ·have hes : zg2 (s[k + 1].toNat : Int) = false := (Bool.not_eq_true _).mp hes
       have HC : Hid (zb6 (s.data.toList.drop a) = .inl (k - a + 1, 12)) := by
        have e := za0 HK
        rw [hd, hs92, hd1] at e
        exact zgq (by rw [tail_drop]; exact e.trans (zlc _ _ _ _ hes))
       clear h34 h92 hd hd1 hs92 hn34 HK
       go_wp2_with (first | (go_at_call 163; refine (zh7 _ _).mono ?_; rintro e w' ⟨rfl, rfl⟩) | (go_at_call 189; refine (escaped_w _ _).mono ?_; rintro e w' ⟨rfl, rfl⟩) | (go_at_call 188; refine (zd9 _ _ _).mono ?_; rintro e w' ⟨rfl, rfl⟩))
       exact bodyPost_ret (v := .tuple #[.agg #[.int .i64 0, .int .i64 0, .string ⟨#[]⟩, .int .i64 0], .int .i64 0, .pointer (some ⟨wr.heap.size, 0, none⟩)]) (by simp [results, Tryz.results178, go_sem, hc0, hc1, hc2, hc3, hlt2]) rfl (ze8 (za0 HC) ((zdo hbw (Nat.le_refl _) _ _ _ _).alloc (by rw [size4]; omega) _) (by omega) ((zgv _ _ _ _ _ _ _).trans (by rw [show a + (k - a + 1) = k + 1 from by omega]; rfl)))
     ·have hne : ((k : Int) + 1 == (s.size : Int)) = true := by simp; omega
      have HC : Hid (zb6 (s.data.toList.drop a) = .inl (k - a + 1, 12)) := by
       have e := za0 HK
       rw [hd, hs92, List.drop_of_length_le (i := k + 1) (by simp; omega)] at e
       exact zgq (by rw [tail_drop]; exact e.trans (textF_end _ _))
      clear h34 h92 hd hs92 hn34 HK
      go_wp2_with (first | (go_at_call 163; refine (zh7 _ _).mono ?_; rintro e w' ⟨rfl, rfl⟩) | (go_at_call 188; refine (zd9 _ _ _).mono ?_; rintro e w' ⟨rfl, rfl⟩))
      exact bodyPost_ret (v := .tuple #[.agg #[.int .i64 0, .int .i64 0, .string ⟨#[]⟩, .int .i64 0], .int .i64 0, .pointer (some ⟨wr.heap.size, 0, none⟩)]) (by simp [results, Tryz.results178, go_sem, hc0, hc1, hc2, hc3, hlt2]) rfl (ze8 (za0 HC) ((zdo hbw (Nat.le_refl _) _ _ _ _).alloc (by rw [size4]; omega) _) (by omega) ((zgv _ _ _ _ _ _ _).trans (by rw [show a + (k - a + 1) = k + 1 from by omega]; rfl)))
    ·have hx : ((s[k].toNat : Int) == 92) = false := by simpa using h92
     have hn92 : s[k] ≠ 92 := fun h => h92 (by rw [h]; rfl)
     by_cases hp : zcn (s[k].toNat : Int) = true
     ·have HT : Hid (textF (s.data.toList.drop (a + 1)) 1 [] = textF (s.data.toList.drop (k + 1)) (k - a + 1) (acc ++ [s[k]])) := by
       have e := za0 HK
       rw [hd] at e
       exact e.trans (zkz _ _ _ _ hn34 hn92 hp)
      clear h34 h92 hd hn34 hn92 HK
      go_wp2_with (first | (go_at_call 163; refine (zh7 _ _).mono ?_; rintro e w' ⟨rfl, rfl⟩) | (go_at_call 128; refine (zhn _ _ _ _ _ HB (by rw [Lib.byteCells_length]; omega) (by omega)).mono ?_; rintro e w1 ⟨rfl, HB1, hb1⟩))
      go_roundw
      case rel => exact ⟨k + 1, acc ++ [s[k]], by omega, by omega, by go_num, by simp; omega, by have e := za0 HT; rw [show k - a + 1 = k + 1 - a from by omega] at e; exact e, by rw [zd2]; exact HB1, hb.trans hb1⟩
      case measure => simp [intOf]; omega
     ·have hp : zcn (s[k].toNat : Int) = false := (Bool.not_eq_true _).mp hp
      have HC : Hid (zb6 (s.data.toList.drop a) = .inl (k - a, 12)) := by
       have e := za0 HK
       rw [hd] at e
       exact zgq (by rw [tail_drop]; exact e.trans (zho _ _ _ _ hn34 hn92 hp))
      clear h34 h92 hd hn34 hn92 HK
      go_wp2_with (first | (go_at_call 163; refine (zh7 _ _).mono ?_; rintro e w' ⟨rfl, rfl⟩) | (go_at_call 188; refine (zd9 _ _ _).mono ?_; rintro e w' ⟨rfl, rfl⟩))
      exact bodyPost_ret (v := .tuple #[.agg #[.int .i64 0, .int .i64 0, .string ⟨#[]⟩, .int .i64 0], .int .i64 0, .pointer (some ⟨wr.heap.size, 0, none⟩)]) (by simp [results, Tryz.results178, go_sem, hc0, hc1, hc2, hc3, hlt2]) rfl (ze8 (za0 HC) ((zdo hbw (Nat.le_refl _) _ _ _ _).alloc (by rw [size4]; omega) _) (by omega) ((zgv _ _ _ _ _ _ _).trans (by rw [show a + (k - a) = k from by omega]; rfl)))
  ·have HC : Hid (zb6 (s.data.toList.drop a) = .inl (k - a, 12)) := by
    have e := za0 HK
    rw [List.drop_of_length_le (i := k) (by simp; omega), textF_nil] at e
    exact zgq (by rw [tail_drop]; exact e)
   have heq : ((k : Int) == (s.size : Int)) = true := by simp; omega
   clear HK
   go_wp2_with (first | (go_at_call 188; refine (zd9 _ _ _).mono ?_; rintro e w' ⟨rfl, rfl⟩))
   exact bodyPost_ret (v := .tuple #[.agg #[.int .i64 0, .int .i64 0, .string ⟨#[]⟩, .int .i64 0], .int .i64 0, .pointer (some ⟨wr.heap.size, 0, none⟩)]) (by simp [results, Tryz.results178, go_sem, hc0, hc1, hc2, hc3, hlt2]) rfl (ze8 (za0 HC) ((zdo hbw (Nat.le_refl _) _ _ _ _).alloc (by rw [size4]; omega) _) (by omega) ((zgv _ _ _ _ _ _ _).trans (by rw [show a + (k - a) = k from by omega]; rfl)))
theorem heap4 (wr : World) (b : Nat) (v0 v1 v2 v3 : Value) (g : Nat) (h : g ≠ b) : ((((wr.setCell ⟨b, 0, none⟩ v0).setCell ⟨b, 1, none⟩ v1).setCell ⟨b, 2, none⟩ v2).setCell ⟨b, 3, none⟩ v3).heap[g]? = wr.heap[g]? := by
 rw [Below.heap_setCell _ _ _ _ h, Below.heap_setCell _ _ _ _ h, Below.heap_setCell _ _ _ _ h, Below.heap_setCell _ _ _ _ h]
theorem byte_bd (c : UInt8) : 0 ≤ (c.toNat : Int) ∧ (c.toNat : Int) < 256 := ⟨by omega, by have := c.toNat_lt; omega⟩
theorem cut_any (s : ByteArray) (a : Nat) (w : World) (h1 : a < s.size) (hs : s.size ≤ 140737488355328) :
  Calls Tryz.prog 162 #[.string s, .int .i64 a] w fun e w' => zca w a (cut (s.data.toList.drop a)) e w' := by
 have hh := hd_at s a h1
 obtain ⟨hx0, hx1⟩ := byte_bd s[a]
 by_cases hdg : zab (s[a].toNat : Int) = true
 ·have hC : cut (s.data.toList.drop a) = zas (s.data.toList.drop a) := by rw [cut, hh, if_pos hdg]
  have HX : Hid (∀ W, Calls Tryz.prog 177 #[.string s, .int .i64 a] W fun e w' => zca W a (zas (s.data.toList.drop a)) e w') := fun W => cutNumber_any s a W h1 (by omega) hdg
  rcases hcut : zas (s.data.toList.drop a) with ⟨o, y⟩ | ⟨k, S, v, n⟩
  ·have HC := za3 (hC.trans hcut)
   have HY : Hid (∀ W, Calls Tryz.prog 177 #[.string s, .int .i64 a] W fun e w' => zca W a (.inl (o, y)) e w') := by rw [← hcut]; exact HX
   clear HX hcut hC hh hx0 hx1
   go_enter Tryz.func162, Tryz.ntmps162
   go_wp2_with (first | (go_at_call 175; refine (zba _ _).mono ?_; rintro e w' ⟨rfl, rfl⟩) | (go_at_call 177; go_fit (za0 HY _); rintro e w1 ⟨hb, b, rfl, hge, hblk⟩; obtain ⟨hc', hf'⟩ := zd4 hb))
   exact bodyPost_ret (v := .tuple #[.agg #[.int .i64 0, .int .i64 0, .string ⟨#[]⟩, .int .i64 0], .int .i64 0, .pointer (some ⟨b, 0, none⟩)]) (by simp [results, Tryz.results162, go_sem, hc']) rfl (ze8 (za0 HC) (zdo (((Below.refl _ _).alloc (Nat.le_refl _) _).trans (hb.mono (by simp))) (Nat.le_refl _) _ _ _ _) (by simp at hge; omega) (by rw [heap4 _ _ _ _ _ _ _ (by simp at hge; omega)]; exact hblk))
  ·have HC := za3 (hC.trans hcut)
   have HY : Hid (∀ W, Calls Tryz.prog 177 #[.string s, .int .i64 a] W fun e w' => zca W a (.inr (k, S, v, n)) e w') := by rw [← hcut]; exact HX
   clear HX hcut hC hh hx0 hx1
   go_enter Tryz.func162, Tryz.ntmps162
   go_wp2_with (first | (go_at_call 175; refine (zba _ _).mono ?_; rintro e w' ⟨rfl, rfl⟩) | (go_at_call 177; go_fit (za0 HY _); rintro e w1 ⟨hb, rfl⟩; obtain ⟨hc', hf'⟩ := zd4 hb))
   exact bodyPost_ret (v := .tuple #[.agg #[.int .i64 a, .int .i64 k, .string ⟨S.toArray⟩, .int .i64 v], .int .i64 ((a + n : Nat) : Int), .pointer none]) (by simp [results, Tryz.results162, go_sem, hc']) rfl (zdk (za0 HC) (zdo (((Below.refl _ _).alloc (Nat.le_refl _) _).trans (hb.mono (by simp))) (Nat.le_refl _) _ _ _ _) rfl rfl)
 ·have hdg : zab (s[a].toNat : Int) = false := (Bool.not_eq_true _).mp hdg
  by_cases h34 : (s[a].toNat : Int) = 34
  ·have hC : cut (s.data.toList.drop a) = zb6 (s.data.toList.drop a) := by rw [cut, hh, hdg, if_neg (by decide), if_pos h34]
   have hq : ((s[a].toNat : Int) == 34) = true := by simp [h34]
   have HX : Hid (∀ W, Calls Tryz.prog 178 #[.string s, .int .i64 a] W fun e w' => zca W a (zb6 (s.data.toList.drop a)) e w') := fun W => cutText_any s a W h1 hs
   rcases hcut : zb6 (s.data.toList.drop a) with ⟨o, y⟩ | ⟨k, S, v, n⟩
   ·have HC := za3 (hC.trans hcut)
    have HY : Hid (∀ W, Calls Tryz.prog 178 #[.string s, .int .i64 a] W fun e w' => zca W a (.inl (o, y)) e w') := by rw [← hcut]; exact HX
    clear HX hcut hC hh hx0 hx1 h34
    go_enter Tryz.func162, Tryz.ntmps162
    go_wp2_with (first | (go_at_call 175; refine (zba _ _).mono ?_; rintro e w' ⟨rfl, rfl⟩) | (go_at_call 178; go_fit (za0 HY _); rintro e w1 ⟨hb, b, rfl, hge, hblk⟩; obtain ⟨hc', hf'⟩ := zd4 hb))
    exact bodyPost_ret (v := .tuple #[.agg #[.int .i64 0, .int .i64 0, .string ⟨#[]⟩, .int .i64 0], .int .i64 0, .pointer (some ⟨b, 0, none⟩)]) (by simp [results, Tryz.results162, go_sem, hc']) rfl (ze8 (za0 HC) (zdo (((Below.refl _ _).alloc (Nat.le_refl _) _).trans (hb.mono (by simp))) (Nat.le_refl _) _ _ _ _) (by simp at hge; omega) (by rw [heap4 _ _ _ _ _ _ _ (by simp at hge; omega)]; exact hblk))
   ·have HC := za3 (hC.trans hcut)
    have HY : Hid (∀ W, Calls Tryz.prog 178 #[.string s, .int .i64 a] W fun e w' => zca W a (.inr (k, S, v, n)) e w') := by rw [← hcut]; exact HX
    clear HX hcut hC hh hx0 hx1 h34
    go_enter Tryz.func162, Tryz.ntmps162
    go_wp2_with (first | (go_at_call 175; refine (zba _ _).mono ?_; rintro e w' ⟨rfl, rfl⟩) | (go_at_call 178; go_fit (za0 HY _); rintro e w1 ⟨hb, rfl⟩; obtain ⟨hc', hf'⟩ := zd4 hb))
    exact bodyPost_ret (v := .tuple #[.agg #[.int .i64 a, .int .i64 k, .string ⟨S.toArray⟩, .int .i64 v], .int .i64 ((a + n : Nat) : Int), .pointer none]) (by simp [results, Tryz.results162, go_sem, hc']) rfl (zdk (za0 HC) (zdo (((Below.refl _ _).alloc (Nat.le_refl _) _).trans (hb.mono (by simp))) (Nat.le_refl _) _ _ _ _) rfl rfl)
  ·have hq : ((s[a].toNat : Int) == 34) = false := by simpa using h34
   by_cases hsg : zeu (s[a].toNat : Int) = true
   ·have hC : cut (s.data.toList.drop a) = zc0 (s.data.toList.drop a) := by rw [cut, hh, hdg, if_neg (by decide), if_neg h34, if_pos hsg]
    have HX : Hid (∀ W, Calls Tryz.prog 179 #[.string s, .int .i64 a] W fun e w' => zca W a (zc0 (s.data.toList.drop a)) e w') := fun W => cutSign_any s a W h1 (by omega)
    rcases hcut : zc0 (s.data.toList.drop a) with ⟨o, y⟩ | ⟨k, S, v, n⟩
    ·have HC := za3 (hC.trans hcut)
     have HY : Hid (∀ W, Calls Tryz.prog 179 #[.string s, .int .i64 a] W fun e w' => zca W a (.inl (o, y)) e w') := by rw [← hcut]; exact HX
     clear HX hcut hC hh h34
     go_enter Tryz.func162, Tryz.ntmps162
     go_wp2_with (first | (go_at_call 175; refine (zba _ _).mono ?_; rintro e w' ⟨rfl, rfl⟩) | (go_at_call 176; refine (zfa _ _ hx0 hx1).mono ?_; rintro e w' ⟨rfl, rfl⟩) | (go_at_call 179; go_fit (za0 HY _); rintro e w1 ⟨hb, b, rfl, hge, hblk⟩; obtain ⟨hc', hf'⟩ := zd4 hb))
     exact bodyPost_ret (v := .tuple #[.agg #[.int .i64 0, .int .i64 0, .string ⟨#[]⟩, .int .i64 0], .int .i64 0, .pointer (some ⟨b, 0, none⟩)]) (by simp [results, Tryz.results162, go_sem, hc']) rfl (ze8 (za0 HC) (zdo (((Below.refl _ _).alloc (Nat.le_refl _) _).trans (hb.mono (by simp))) (Nat.le_refl _) _ _ _ _) (by simp at hge; omega) (by rw [heap4 _ _ _ _ _ _ _ (by simp at hge; omega)]; exact hblk))
    ·have HC := za3 (hC.trans hcut)
     have HY : Hid (∀ W, Calls Tryz.prog 179 #[.string s, .int .i64 a] W fun e w' => zca W a (.inr (k, S, v, n)) e w') := by rw [← hcut]; exact HX
     clear HX hcut hC hh h34
     go_enter Tryz.func162, Tryz.ntmps162
     go_wp2_with (first | (go_at_call 175; refine (zba _ _).mono ?_; rintro e w' ⟨rfl, rfl⟩) | (go_at_call 176; refine (zfa _ _ hx0 hx1).mono ?_; rintro e w' ⟨rfl, rfl⟩) | (go_at_call 179; go_fit (za0 HY _); rintro e w1 ⟨hb, rfl⟩; obtain ⟨hc', hf'⟩ := zd4 hb))
     exact bodyPost_ret (v := .tuple #[.agg #[.int .i64 a, .int .i64 k, .string ⟨S.toArray⟩, .int .i64 v], .int .i64 ((a + n : Nat) : Int), .pointer none]) (by simp [results, Tryz.results162, go_sem, hc']) rfl (zdk (za0 HC) (zdo (((Below.refl _ _).alloc (Nat.le_refl _) _).trans (hb.mono (by simp))) (Nat.le_refl _) _ _ _ _) rfl rfl)
   ·have hsg : zeu (s[a].toNat : Int) = false := (Bool.not_eq_true _).mp hsg
    have hC : cut (s.data.toList.drop a) = zbz (s.data.toList.drop a) := by rw [cut, hh, hdg, if_neg (by decide), if_neg h34, hsg]; rfl
    have HX : Hid (∀ W, Calls Tryz.prog 180 #[.string s, .int .i64 a] W fun e w' => zca W a (zbz (s.data.toList.drop a)) e w') := fun W => cutName_any s a W h1 (by omega)
    rcases hcut : zbz (s.data.toList.drop a) with ⟨o, y⟩ | ⟨k, S, v, n⟩
    ·have HC := za3 (hC.trans hcut)
     have HY : Hid (∀ W, Calls Tryz.prog 180 #[.string s, .int .i64 a] W fun e w' => zca W a (.inl (o, y)) e w') := by rw [← hcut]; exact HX
     clear HX hcut hC hh h34
     go_enter Tryz.func162, Tryz.ntmps162
     go_wp2_with (first | (go_at_call 175; refine (zba _ _).mono ?_; rintro e w' ⟨rfl, rfl⟩) | (go_at_call 176; refine (zfa _ _ hx0 hx1).mono ?_; rintro e w' ⟨rfl, rfl⟩) | (go_at_call 180; go_fit (za0 HY _); rintro e w1 ⟨hb, b, rfl, hge, hblk⟩; obtain ⟨hc', hf'⟩ := zd4 hb))
     exact bodyPost_ret (v := .tuple #[.agg #[.int .i64 0, .int .i64 0, .string ⟨#[]⟩, .int .i64 0], .int .i64 0, .pointer (some ⟨b, 0, none⟩)]) (by simp [results, Tryz.results162, go_sem, hc']) rfl (ze8 (za0 HC) (zdo (((Below.refl _ _).alloc (Nat.le_refl _) _).trans (hb.mono (by simp))) (Nat.le_refl _) _ _ _ _) (by simp at hge; omega) (by rw [heap4 _ _ _ _ _ _ _ (by simp at hge; omega)]; exact hblk))
    ·have HC := za3 (hC.trans hcut)
     have HY : Hid (∀ W, Calls Tryz.prog 180 #[.string s, .int .i64 a] W fun e w' => zca W a (.inr (k, S, v, n)) e w') := by rw [← hcut]; exact HX
     clear HX hcut hC hh h34
     go_enter Tryz.func162, Tryz.ntmps162
     go_wp2_with (first | (go_at_call 175; refine (zba _ _).mono ?_; rintro e w' ⟨rfl, rfl⟩) | (go_at_call 176; refine (zfa _ _ hx0 hx1).mono ?_; rintro e w' ⟨rfl, rfl⟩) | (go_at_call 180; go_fit (za0 HY _); rintro e w1 ⟨hb, rfl⟩; obtain ⟨hc', hf'⟩ := zd4 hb))
     exact bodyPost_ret (v := .tuple #[.agg #[.int .i64 a, .int .i64 k, .string ⟨S.toArray⟩, .int .i64 v], .int .i64 ((a + n : Nat) : Int), .pointer none]) (by simp [results, Tryz.results162, go_sem, hc']) rfl (zdk (za0 HC) (zdo (((Below.refl _ _).alloc (Nat.le_refl _) _).trans (hb.mono (by simp))) (Nat.le_refl _) _ _ _ _) rfl rfl)
namespace Lx
theorem zlr : ∀ (f : Nat) (l : Bs), l.length ≤ f → ∀ (i : Nat) (acc s : Bs) (n : Nat), textF l i acc = .inr (s, n) → i < n ∧ n ≤ i + l.length
 | _, [], _, i, acc, s, n, h => by simp [textF] at h
 | 0, c :: r, hf, _, _, _, _, _ => by simp at hf
 | f + 1, c :: r, hf, i, acc, s, n, h => by
  have hf' : r.length ≤ f := by simpa using hf
  by_cases h34 : c = 34
  ·subst h34
   have e : textF (34 :: r) i acc = .inr (acc, i + 1) := by cases r <;> simp [textF]
   rw [e] at h; simp at h; obtain ⟨_, rfl⟩ := h; simp
  ·by_cases h92 : c = 92
   ·subst h92
    match r, hf', h with
    | [], _, h => simp [textF] at h
    | d :: r', hf', h =>
     by_cases hd : zg2 (d.toNat : Int) = true
     ·have e : textF (92 :: d :: r') i acc = textF r' (i + 2) (acc ++ [(escB (d.toNat : Int)).toNat.toUInt8]) := by simp [textF, hd]
      rw [e] at h
      have := zlr f r' (by simp at hf'; omega) _ _ _ _ h
      simp; omega
     ·have e : textF (92 :: d :: r') i acc = .inl (i + 1) := by simp [textF, hd]
      rw [e] at h; cases h
   ·by_cases hp : zcn (c.toNat : Int) = true
    ·have e : textF (c :: r) i acc = textF r (i + 1) (acc ++ [c]) := by cases r <;> simp [textF, h34, h92, hp]
     rw [e] at h
     have := zlr f r hf' _ _ _ _ h
     simp; omega
    ·have e : textF (c :: r) i acc = .inl i := by cases r <;> simp [textF, h34, h92, hp]
     rw [e] at h; cases h
theorem cut_len {l : Bs} (h0 : l ≠ []) {k : Int} {s : Bs} {v : Int} {m : Nat} (h : cut l = .inr (k, s, v, m)) : 1 ≤ m ∧ m ≤ l.length := by
 obtain ⟨c, r, rfl⟩ := List.exists_cons_of_ne_nil h0
 unfold cut at h
 split at h
 ·have hr := zen zab r
  unfold zas at h
  split at h
  ·cases h
  ·split at h
   ·cases h
   ·simp at h; obtain ⟨_, _, _, rfl⟩ := h; simp [zbr]; omega
 ·split at h
  ·unfold zb6 at h
   split at h
   ·cases h
   ·rename_i s' n' ht
    simp at h; obtain ⟨_, _, _, rfl⟩ := h
    have := zlr r.length r (Nat.le_refl _) _ _ _ _ ht
    simp; omega
  ·split at h
   ·unfold zc0 at h
    split at h
    ·rename_i hp
     simp at h; obtain ⟨_, _, _, rfl⟩ := h
     cases r with
     | nil => simp [List.isPrefixOf] at hp
     | cons d r => simp
    ·simp at h; obtain ⟨_, _, _, rfl⟩ := h; simp
   ·have hr := zen zax r
    unfold zbz at h
    split at h
    ·cases h
    ·simp at h; obtain ⟨_, _, _, rfl⟩ := h; simp; omega
theorem next_len {l : Bs} {n : Nat} (h0 : l ≠ []) {k : Int} {s : Bs} {v : Int} {m : Nat} (h : next l n = .inr (k, s, v, m)) : 1 ≤ m ∧ m ≤ l.length := by
 unfold next at h
 split at h
 ·cases h
 ·split at h
  ·cases h
  ·exact cut_len h0 h
theorem next_few {l : Bs} {n : Nat} {k : Int} {s : Bs} {v : Int} {m : Nat} (h : next l n = .inr (k, s, v, m)) : n < 4096 := by
 unfold next at h
 split at h
 ·cases h
 ·split at h
  ·cases h
  ·omega
def zgy (f : Nat) (l : Bs) (a n : Nat) : List Tok × Option (Nat × Nat) :=
 match f with
 | 0 => ([], none)
 | f + 1 => if l = [] then ([], none) else
  match next l n with
  | .inl (o, y) => ([], some (a + o, y))
  | .inr (k, s, v, m) => ((a, k, s, v) :: (lexF f (l.drop m) (a + m) (n + 1)).1, (lexF f (l.drop m) (a + m) (n + 1)).2)
theorem lexF_at (f : Nat) (l : Bs) (a n : Nat) : lexF f l a n = zgy f (l.drop (skip l)) (a + skip l) n := by
 cases f with
 | zero => rfl
 | succ f =>
  by_cases h : l.drop (skip l) = []
  ·simp only [lexF, zgy, h, if_true]
  ·rcases hn : next (l.drop (skip l)) n with ⟨o, y⟩ | ⟨k, s, v, m⟩
   ·simp only [lexF, zgy, h, if_false, hn]
   ·simp only [lexF, zgy, h, if_false, hn, List.drop_drop]
theorem lexAt_nil (f a n : Nat) : zgy f [] a n = ([], none) := by cases f <;> simp [zgy]
theorem lexAt_no {f : Nat} {l : Bs} {a n o y : Nat} (h0 : l ≠ []) (h : next l n = .inl (o, y)) : zgy (f + 1) l a n = ([], some (a + o, y)) := by simp [zgy, h0, h]
theorem lexAt_yes {f : Nat} {l : Bs} {a n : Nat} {k : Int} {s : Bs} {v : Int} {m : Nat} (h0 : l ≠ []) (h : next l n = .inr (k, s, v, m)) :
  zgy (f + 1) l a n = ((a, k, s, v) :: (zgy f ((l.drop m).drop (skip (l.drop m))) (a + m + skip (l.drop m)) (n + 1)).1, (zgy f ((l.drop m).drop (skip (l.drop m))) (a + m + skip (l.drop m)) (n + 1)).2) := by
 rw [← lexF_at]; simp only [zgy, h0, if_false, h]
end Lx
open Go Go.RowKit Go.Shelf Lx
attribute [local go_sem] Oper.semAt_some
attribute [local go_sem] Oper.semAt_some
def zbb (t : Tok) : List Value := [.int .i64 (t.1 : Int), .int .i64 t.2.1, .string ⟨t.2.2.1.toArray⟩, .int .i64 t.2.2.2]
def zcx (ts : List Tok) : List Value := ts.flatMap zbb
theorem zhi (ts : List Tok) (t : Tok) : zcx (ts ++ [t]) = zcx ts ++ zbb t := by simp [zcx]
theorem info_tok : (Tryz.prog.info? 142).map (fun i => (i.zero, i.size, i.bytes)) = some (some (.agg #[.int .i64 0, .int .i64 0, .string ⟨#[]⟩, .int .i64 0]), 4, 40) := by kernel_rfl
theorem zaa {W W' : World} (h : Below W.heap.size W W') : W.grownBy W' none := ⟨h.os, h.tape, h.output, h.size, fun k hk _ => h.block k hk⟩
structure Mid (w : World) (r : Loop) (pre : List Tok) (W : World) : Prop where
 list : ∃ v, Boxed W (w.heap.size + 1) 91 v ∧ W.ownsRow (w.heap.size + 1) 142 4 v pre.length (zcx pre)
 defers : W.heap[w.heap.size + 2]? = some (.deferred (some []))
 loop : W.heap[w.heap.size + 3]? = some (.loop r)
 old : Below w.heap.size w W
theorem heap_old2 {w : World} (o o' : Obj) (k : Nat) (h : k < w.heap.size) : ((w.alloc o).alloc o').heap[k]? = w.heap[k]? :=
 (Below.heap_alloc _ _ _ (by simp; omega)).trans (Below.heap_alloc _ _ _ h)
open Go Go.RowKit Lx
def TokRow (W : World) (v : Value) (ts : List Tok) : Prop :=
 ∃ (p : Option Addr) (c : Nat), v = .slice p ts.length c ∧ ∀ j t, ts[j]? = some t → ∃ g o, p = some ⟨g, o, none⟩ ∧
  W.cell? ⟨g, o + j * 4, none⟩ = some (.int .i64 (t.1 : Int)) ∧ W.cell? ⟨g, o + j * 4 + 1, none⟩ = some (.int .i64 t.2.1) ∧
  W.cell? ⟨g, o + j * 4 + 2, none⟩ = some (.string ⟨t.2.2.1.toArray⟩) ∧ W.cell? ⟨g, o + j * 4 + 3, none⟩ = some (.int .i64 t.2.2.2)
def StrRow (W : World) (v : Value) (ss : List Bs) : Prop :=
 ∃ (p : Option Addr) (c : Nat), v = .slice p ss.length c ∧ ∀ j t, ss[j]? = some t → ∃ g o, p = some ⟨g, o, none⟩ ∧ W.cell? ⟨g, o + j, none⟩ = some (.string ⟨t.toArray⟩)
theorem SameStr_any (v u : Value) (ts : List Bs) (w : World) (hl : ts.length ≤ 1000000) (hv : StrRow w v ts) (hu : StrRow w u ts) :
  Calls Tryz.prog 34 #[v, u] w fun e w' => e = .returned (.bool true) ∧ Below w.heap.size w w' := by
 obtain ⟨p, c, rfl, hp⟩ := hv
 obtain ⟨q, d, rfl, hq⟩ := hu
 have HP := za3 hp
 have HQ := za3 hq
 clear hp hq
 go_enter Tryz.func34, Tryz.ntmps34
 go_wp2
 go_loopw [5] (fun i wr => ∃ k nd : Nat, i = .int .i64 k ∧ k ≤ ts.length ∧ wr = w.drewN nd) (fun i _ => ts.length - (intOf i).toNat)
 case atStart => exact ⟨0, 0, rfl, by omega, rfl⟩
 case round =>
  obtain ⟨k, nd, rfl, hk, rfl⟩ := hrel
  by_cases hlt : k < ts.length
  ·obtain ⟨g, o, rfl, a0⟩ := za0 HP k ts[k] (by simp [hlt])
   obtain ⟨g', o', rfl, b0⟩ := za0 HQ k ts[k] (by simp [hlt])
   have hlt' : (k : Int) < (ts.length : Int) := by omega
   go_wp2
   go_quiet (fail)
   go_wp2
   go_roundw
   case rel => exact ⟨k + 1, nd + nq, by go_num, by omega, by simp [World.drewN]⟩
   case measure => simp [intOf]; omega
  ·go_wp2
   go_ret
   exact ⟨rfl, below_drewN (Below.refl _ _) _⟩
theorem refWords_any (w : World) : Calls Tryz.prog 197 #[] w fun e w' => e = .returned (.slice (some ⟨w.heap.size, 0, none⟩) 25 25) ∧ w' = w.alloc (.cells ze2 9) := by
 go_enter Tryz.func197, Tryz.ntmps197
 go_wp2
 go_ret
 exact ⟨rfl, rfl⟩
end Go.Proofs.YtmpbbmfbgcpplaaGreatDoor
