/-
  How package session tells an error: session.refusal at an api.Errno and at refusals with a place, walked. Own work.
-/
import Derived.Test.YtcofioeikpiabaaGreatDoorRAsN
import Derived.Test.YtcofioeikpiabaaGreatDoorRAsU
import Derived.Test.YtcofioeikpiabaaGreatDoorRAsG
import Derived.Test.YtcofioeikpiabaaGreatDoorRAsQ
import Derived.Test.YtcofioeikpiabaaGreatDoorAmRf
import Derived.Test.YtcofioeikpiabaaGreatDoorShelf
import Derived.Test.YtcofioeikpiabaaGreatDoorTokens
namespace Go.Proofs.YtcofioeikpiabaaGreatDoor.RE
open Go Go.RowKit Am

theorem err_type {w : World} (h : GlobOk w) : ErrType w := by
  obtain ⟨c, e, f, h1, h2⟩ := h.obj 0 _ rfl
  show w.cell? _ = _
  have h3 : c[0]? = some (.iface 195 (.agg #[hdl 44])) := by rw [← Array.getElem?_toList, h2]; rfl
  simp [World.cell?, h1, h3]
theorem ErrType.below {B : Nat} {w w' : World} (h : ErrType w) (hb : Below B w w') (hB : 0 < B) : ErrType w' := (hb.cell (p := ⟨0, 0, none⟩) (show 0 < B from hB)).trans h
theorem Itoa_two (i : Nat) (hi : i < 100) (w : World) : Calls Tryz.prog 20 #[.int .i64 (i : Int)] w fun e w' => e = .returned (.string ⟨⟨two i⟩⟩) ∧ w' = w := by
  rw [two_eq hi]; exact Tryz.strconv_Itoa_small i hi w
theorem cat_str (l m : List UInt8) : (⟨⟨l⟩⟩ : ByteArray) ++ ⟨⟨m⟩⟩ = ⟨⟨l ++ m⟩⟩ := by
  apply ByteArray.ext
  simp [ByteArray.data_append]
theorem two_len (n : Nat) : (two n).length ≤ 2 := by unfold two; cases Nat.blt n 10 <;> simp
/-- a hit leaves its box so. -/
theorem hit_box {w w1 : World} {rb : Nat} {t : TypeId} {old v : Value} (hr : Boxed w rb t old) (hb : Below w.heap.size w w1) : Boxed (w1.setCell ⟨rb, 0, none⟩ v) rb t v ∧ Below rb w (w1.setCell ⟨rb, 0, none⟩ v) :=
  ⟨Boxed.set v ((hb.block rb hr.lt).trans hr), (hb.mono (Nat.le_of_lt hr.lt)).setCell (Nat.le_refl _) v⟩
set_option maxHeartbeats 2000000 in
set_option maxRecDepth 100000 in
theorem told_errno (y : Nat) (hy : y < 100) (w : World) (hG : GlobOk w) :
    Calls Tryz.prog 13 #[.iface 27 (.int .i64 (y : Int))] w fun e w' => e = .returned (.string ⟨⟨errT (two y)⟩⟩) ∧ Below w.heap.size w w' := by
  have hg := err_type hG
  have hlt : 0 < w.heap.size := cellLt hg
  have A1 := hide (as_hit (y : Int) w.heap.size (.int .i64 0) (w.alloc (.cells #[.int .i64 0] 27)) (hg.below ((Below.refl w.heap.size w).alloc (Nat.le_refl _) _) hlt) (Boxed.new w _ _))
  have A2 := hide (fun rb W => P.as_none (y : Int) rb W)
  have IT := hide (fun W => Itoa_two y hy W)
  have hb0 : Below w.heap.size w (w.alloc (.cells #[.int .i64 0] 27)) := (Below.refl w.heap.size w).alloc (Nat.le_refl _) _
  have hx0 : Boxed (w.alloc (.cells #[.int .i64 0] 27)) w.heap.size 27 (.int .i64 0) := Boxed.new w _ _
  have hn2 := two_len y
  have hno : ¬ 9223372036854775807 < 6 + (two y).length := by omega
  have hno2 : 6 + (two y).length ≤ 9223372036854775807 := by omega
  go_enter Tryz.func13, Tryz.ntmps13
  go_wp2_with (first
    | (go_at_call 19; refine (unhide A1).mono ?_; clear A1; rintro e w1 ⟨rfl, w2, hb2, rfl⟩; obtain ⟨hx, hbb⟩ := hit_box (v := .int .i64 (y : Int)) hx0 hb2; generalize w2.setCell ⟨w.heap.size, 0, none⟩ (.int .i64 (y : Int)) = W3 at hx hbb ⊢; have hc := hx.cell; have hl3 := hx.lt; have hb3 := hb0.trans hbb; clear hb2 hx0 hb0 hbb)
    | (go_at_call 20; refine (unhide IT _).mono ?_; clear IT; rintro e w4 ⟨rfl, rfl⟩)
    | (go_at_call 19; refine (unhide A2 _ _).mono ?_; rintro e w5 ⟨rfl, hb5⟩))
  go_ret
  refine ⟨by rw [cat_str]; rfl, ?_⟩
  exact (hb3.alloc (by omega) _).trans (hb5.mono (by simp; omega))
theorem Where_any0 (a : Int) (w : World) : Calls Tryz.prog 279 #[.agg #[.int .i64 a]] w fun e w' => e = .returned (.int .i64 a) ∧ Below w.heap.size w w' := by
  go_enter Tryz.func279, Tryz.ntmps279
  go_wp2
  go_ret
  exact ⟨rfl, (Below.refl _ _).alloc (Nat.le_refl _) _⟩
theorem m_where_lex (b : Nat) (a : Int) (W : World) (hc : W.cell? ⟨b, 0, none⟩ = some (.int .i64 a)) : (Go.method 1084 359 (.pointer (some ⟨b, 0, none⟩)) "Where").run Tryz.prog W = .ok (279, .agg #[.int .i64 a]) W := by
  obtain ⟨k, hk⟩ : ∃ k, (1084 : Nat) = k + 1 := ⟨_, rfl⟩
  rw [hk]
  exact mwhereB k 359 654 120 "Where" 279 _ ⟨b, 0, none⟩ a W (by kernel_rfl) (by kernel_rfl) Tryz.underlying120 (by kernel_rfl) rfl hc
set_option maxHeartbeats 2000000 in
set_option maxRecDepth 100000 in
theorem told_lex (b a y : Nat) (ha : a < 100) (hy : y < 100) (w : World) (hG : GlobOk w) (h0 : w.cell? ⟨b, 0, none⟩ = some (.int .i64 (a : Int))) (h1 : w.cell? ⟨b, 1, none⟩ = some (.int .i64 (y : Int))) :
    Calls Tryz.prog 13 #[.iface 359 (.pointer (some ⟨b, 0, none⟩))] w fun e w' => e = .returned (.string ⟨⟨errA (two y) (two a)⟩⟩) ∧ Below w.heap.size w w' := by
  have hg := err_type hG
  have hlt : 0 < w.heap.size := cellLt hg
  have hlb : b < w.heap.size := cellLt h0
  have hb0 : Below w.heap.size w (w.alloc (.cells #[.int .i64 0] 27)) := (Below.refl w.heap.size w).alloc (Nat.le_refl _) _
  have hx0 : Boxed (w.alloc (.cells #[.int .i64 0] 27)) w.heap.size 27 (.int .i64 0) := Boxed.new w _ _
  have A1 := hide (RE.as_unwrap b (y : Int) w.heap.size (.int .i64 0) (w.alloc (.cells #[.int .i64 0] 27)) ((hb0.cell (p := ⟨b, 1, none⟩) hlb).trans h1) (hg.below hb0 hlt) hx0)
  have A2 := hide (fun rb W (hg : ErrType W) (hr : Boxed W rb 65 .nilIface) => P.as_hit ⟨b, 0, none⟩ rb .nilIface W hg hr)
  have IT := hide (fun W => Itoa_two y hy W)
  have IU := hide (fun W => Itoa_two a ha W)
  have WH := hide (fun W => Where_any0 (a : Int) W)
  have MW := hide (fun W hc => m_where_lex b (a : Int) W hc)
  have KP := hide (fun W (hb : Below w.heap.size w W) => (⟨(hb.cell (p := ⟨b, 0, none⟩) hlb).trans h0, hg.below hb hlt⟩ : W.cell? ⟨b, 0, none⟩ = some (.int .i64 (a : Int)) ∧ ErrType W))
  have hn2 := two_len y
  have hn3 := two_len a
  have hno : ¬ 9223372036854775807 < 6 + (two y).length := by omega
  have hno3 : ¬ 9223372036854775807 < 4 + (two a).length := by omega
  clear h0 h1 hg hG
  go_enter Tryz.func13, Tryz.ntmps13
  go_wp2_with (first
    | (go_at_call 19; refine (unhide A1).mono ?_; clear A1; rintro e w1 ⟨rfl, w2, hb2, rfl⟩; obtain ⟨hx, hbb⟩ := hit_box (v := .int .i64 (y : Int)) hx0 hb2; generalize w2.setCell ⟨w.heap.size, 0, none⟩ (.int .i64 (y : Int)) = W3 at hx hbb ⊢; have hc := hx.cell; have hl3 := hx.lt; have hb3 := hb0.trans hbb; clear hb2 hx0 hb0 hbb)
    | (go_at_call 20; refine (unhide IT _).mono ?_; clear IT; rintro e w4 ⟨rfl, rfl⟩)
    | (go_at_call 19; refine (unhide A2 w4.heap.size (w4.alloc (.cells #[.nilIface] 65)) (unhide KP _ (hb3.alloc (by omega) _)).2 (Boxed.new w4 _ _)).mono ?_; clear A2; rintro e w5 ⟨rfl, w6, hb6, rfl⟩; obtain ⟨hx7, hbb7⟩ := hit_box (v := .iface 359 (.pointer (some ⟨b, 0, none⟩))) (Boxed.new w4 65 .nilIface) hb6; generalize w6.setCell ⟨w4.heap.size, 0, none⟩ (.iface 359 (.pointer (some ⟨b, 0, none⟩))) = W7 at hx7 hbb7 ⊢; have hc7 := hx7.cell; have hl7 := hx7.lt; have hb7 := (hb3.alloc (by omega) (.cells #[.nilIface] 65)).trans (hbb7.mono (by omega)); have mw := unhide MW _ (unhide KP _ hb7).1; clear hb6 hbb7)
    | (go_at_call 279; refine (unhide WH _).mono ?_; clear WH; rintro e w8 ⟨rfl, hb8⟩)
    | (go_at_call 20; refine (unhide IU _).mono ?_; clear IU; rintro e w9 ⟨rfl, rfl⟩))
  go_ret
  refine ⟨?_, hb7.trans (hb8.mono hb7.size)⟩
  rw [cat_str, cat_str, cat_str]; rfl
theorem m_where_graph (b : Nat) (a : Int) (W : World) (hc : W.cell? ⟨b, 0, none⟩ = some (.int .i64 a)) : (Go.method 1084 265 (.pointer (some ⟨b, 0, none⟩)) "Where").run Tryz.prog W = .ok (279, .agg #[.int .i64 a]) W := by
  obtain ⟨k, hk⟩ : ∃ k, (1084 : Nat) = k + 1 := ⟨_, rfl⟩
  rw [hk]
  exact mwhereB k 265 266 120 "Where" 279 _ ⟨b, 0, none⟩ a W (by kernel_rfl) (by kernel_rfl) Tryz.underlying120 (by kernel_rfl) rfl hc
set_option maxHeartbeats 2000000 in
set_option maxRecDepth 100000 in
theorem told_graph (b a y : Nat) (ha : a < 100) (hy : y < 100) (w : World) (hG : GlobOk w) (h0 : w.cell? ⟨b, 0, none⟩ = some (.int .i64 (a : Int))) (h1 : w.cell? ⟨b, 1, none⟩ = some (.int .i64 (y : Int))) :
    Calls Tryz.prog 13 #[.iface 265 (.pointer (some ⟨b, 0, none⟩))] w fun e w' => e = .returned (.string ⟨⟨errA (two y) (two a)⟩⟩) ∧ Below w.heap.size w w' := by
  have hg := err_type hG
  have hlt : 0 < w.heap.size := cellLt hg
  have hlb : b < w.heap.size := cellLt h0
  have hb0 : Below w.heap.size w (w.alloc (.cells #[.int .i64 0] 27)) := (Below.refl w.heap.size w).alloc (Nat.le_refl _) _
  have hx0 : Boxed (w.alloc (.cells #[.int .i64 0] 27)) w.heap.size 27 (.int .i64 0) := Boxed.new w _ _
  have A1 := hide (G.as_unwrap b (y : Int) w.heap.size (.int .i64 0) (w.alloc (.cells #[.int .i64 0] 27)) ((hb0.cell (p := ⟨b, 1, none⟩) hlb).trans h1) (hg.below hb0 hlt) hx0)
  have A2 := hide (fun rb W (hg : ErrType W) (hr : Boxed W rb 65 .nilIface) => PG.as_hit ⟨b, 0, none⟩ rb .nilIface W hg hr)
  have IT := hide (fun W => Itoa_two y hy W)
  have IU := hide (fun W => Itoa_two a ha W)
  have WH := hide (fun W => Where_any0 (a : Int) W)
  have MW := hide (fun W hc => m_where_graph b (a : Int) W hc)
  have KP := hide (fun W (hb : Below w.heap.size w W) => (⟨(hb.cell (p := ⟨b, 0, none⟩) hlb).trans h0, hg.below hb hlt⟩ : W.cell? ⟨b, 0, none⟩ = some (.int .i64 (a : Int)) ∧ ErrType W))
  have hn2 := two_len y
  have hn3 := two_len a
  have hno : ¬ 9223372036854775807 < 6 + (two y).length := by omega
  have hno3 : ¬ 9223372036854775807 < 4 + (two a).length := by omega
  clear h0 h1 hg hG
  go_enter Tryz.func13, Tryz.ntmps13
  go_wp2_with (first
    | (go_at_call 19; refine (unhide A1).mono ?_; clear A1; rintro e w1 ⟨rfl, w2, hb2, rfl⟩; obtain ⟨hx, hbb⟩ := hit_box (v := .int .i64 (y : Int)) hx0 hb2; generalize w2.setCell ⟨w.heap.size, 0, none⟩ (.int .i64 (y : Int)) = W3 at hx hbb ⊢; have hc := hx.cell; have hl3 := hx.lt; have hb3 := hb0.trans hbb; clear hb2 hx0 hb0 hbb)
    | (go_at_call 20; refine (unhide IT _).mono ?_; clear IT; rintro e w4 ⟨rfl, rfl⟩)
    | (go_at_call 19; refine (unhide A2 w4.heap.size (w4.alloc (.cells #[.nilIface] 65)) (unhide KP _ (hb3.alloc (by omega) _)).2 (Boxed.new w4 _ _)).mono ?_; clear A2; rintro e w5 ⟨rfl, w6, hb6, rfl⟩; obtain ⟨hx7, hbb7⟩ := hit_box (v := .iface 265 (.pointer (some ⟨b, 0, none⟩))) (Boxed.new w4 65 .nilIface) hb6; generalize w6.setCell ⟨w4.heap.size, 0, none⟩ (.iface 265 (.pointer (some ⟨b, 0, none⟩))) = W7 at hx7 hbb7 ⊢; have hc7 := hx7.cell; have hl7 := hx7.lt; have hb7 := (hb3.alloc (by omega) (.cells #[.nilIface] 65)).trans (hbb7.mono (by omega)); have mw := unhide MW _ (unhide KP _ hb7).1; clear hb6 hbb7)
    | (go_at_call 279; refine (unhide WH _).mono ?_; clear WH; rintro e w8 ⟨rfl, hb8⟩)
    | (go_at_call 20; refine (unhide IU _).mono ?_; clear IU; rintro e w9 ⟨rfl, rfl⟩))
  go_ret
  refine ⟨?_, hb7.trans (hb8.mono hb7.size)⟩
  rw [cat_str, cat_str, cat_str]; rfl
theorem refusal_fn : CallOk Tryz.prog (fun f' args s k => cond (Nat.beq f' 13) (xRefusal 27 359 265 args s k) false) :=
  refusal_ok (by kernel_rfl) (fun y w hG hy => told_errno y hy w hG) fun t ht b a y w hG ha hy h0 h1 => by
    rcases ht with rfl | rfl
    · exact told_lex b a y ha hy w hG h0 h1
    · exact told_graph b a y ha hy w hG h0 h1
end Go.Proofs.YtcofioeikpiabaaGreatDoor.RE
