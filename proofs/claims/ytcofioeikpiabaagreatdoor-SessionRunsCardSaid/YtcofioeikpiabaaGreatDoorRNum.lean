/-
  session.number at the words that the runs ask for, over the library's contracts of strconv.Atoi and strconv.Itoa. Own work.
-/
import Derived.Test.YtcofioeikpiabaaGreatDoorAmRf
import Derived.Test.YtcofioeikpiabaaGreatDoorShelf
import Derived.Test.YtcofioeikpiabaaGreatDoorTokens
import Derived.Lib.ItoaLen
import Derived.Lib.AppendIntMem
namespace Go.Proofs.YtcofioeikpiabaaGreatDoor.RE
open Go Go.RowKit Am

theorem cell_ifc {w : World} (h : GlobOk w) : ∃ t p, w.cell? ⟨6, 0, none⟩ = some (.iface t p) := by
  obtain ⟨t, p, e, f, h1⟩ := h.ifc 6 rfl
  exact ⟨t, p, by simp [World.cell?, h1]⟩
theorem tab_of {w : World} (h : GlobOk w) : Lib.TabIs Tryz.prog w "internal/strconv.uint64pow10" .u64 Lib.pow10Tab := by
  obtain ⟨c, e, f, h1, h2, _⟩ := h.tab 2 _ rfl
  unfold Lib.TabIs World.var?
  rw [show Tryz.prog.globalNamed "internal/strconv.uint64pow10" = some 2 by kernel_rfl, Option.bind_some, h1]
  show some c = _
  congr 1
  apply Array.toList_inj.1
  rw [h2]
  kernel_rfl
theorem pow_global : Tryz.prog.globalNamed "internal/strconv.uint64pow10" = some 2 := by kernel_rfl
theorem Itoa_tab (n : Int) (h0 : -9223372036854775808 ≤ n) (h1 : n ≤ 9223372036854775807) (w : World) (ht : Lib.TabIs Tryz.prog w "internal/strconv.uint64pow10" .u64 Lib.pow10Tab) :
    Calls Tryz.prog 20 #[.int .i64 n] w fun e w' => e = .returned (.string ⟨(Lib.itoa n).toArray⟩) ∧ Below w.heap.size w w' := by
  refine (Tryz.strconv_Itoa n h0 h1 w ht).mono ?_
  rintro e w' ⟨rfl, k, os, rfl⟩
  exact ⟨rfl, Lib.below_grow _ w (Nat.le_refl _) k os⟩
theorem read_below {w w1 : World} {b : TypeId} (h : w1 = w ∨ ∃ t, w1 = Lib.bytesWorld w b t) : Below w.heap.size w w1 := by
  rcases h with rfl | ⟨t, rfl⟩
  · exact Below.refl _ _
  · exact Lib.bytesWorld_below _ _ _
set_option maxHeartbeats 2000000 in
set_option maxRecDepth 100000 in
/-- a word that is a number: it is one of ours if it is written so. -/
theorem number_yes (s : ByteArray) (v : Int) (ok : Bool) (hs : s.size ≤ 100) (h : Lib.atoiAll s.data.toList = .ok v) (v0 : -9223372036854775808 ≤ v) (v1 : v ≤ 9223372036854775807) (hq : (Lib.itoa v == s.toList) = ok) (w : World) (hG : GlobOk w) :
    Calls Tryz.prog 93 #[.string s] w fun e w' => e = .returned (.tuple #[.int .i64 v, .bool ok]) ∧ Below w.heap.size w w' := by
  have AT := hide (Tryz.strconv_Atoi_ok s (by omega) v h w)
  have hlt : 2 < w.heap.size := hG.lt (isG_tab (cs := _) (show gtab 2 = some _ from rfl))
  have IT := hide (fun W (hb : Below w.heap.size w W) => Itoa_tab v v0 v1 W (var?_below hb pow_global hlt (tab_of hG)))
  clear h hG
  go_enter Tryz.func93, Tryz.ntmps93
  go_wp2_with (first
    | (go_at_call 161; refine (unhide AT).mono ?_; clear AT; rintro e w1 ⟨rfl, hw1⟩; have hb1 := read_below hw1; clear hw1)
    | (go_at_call 20; refine (unhide IT _ hb1).mono ?_; clear IT; rintro e w2 ⟨rfl, hb2⟩))
  go_ret2
  exact ⟨by rw [← hq]; rfl, hb1.trans (hb2.mono hb1.size)⟩
set_option maxHeartbeats 2000000 in
set_option maxRecDepth 100000 in
/-- a word that is none. -/
theorem number_no (s : ByteArray) (hs : s.size ≤ 100) (h : Lib.atoiAll s.data.toList = .«syntax») (w : World) (hG : GlobOk w) :
    Calls Tryz.prog 93 #[.string s] w fun e w' => e = .returned (.tuple #[.int .i64 0, .bool false]) ∧ Below w.heap.size w w' := by
  obtain ⟨te, pe, hc⟩ := cell_ifc hG
  have AT := hide (Tryz.strconv_Atoi_syntax s (by omega) h (.iface te pe) w hc (.inr ⟨te, pe, rfl⟩))
  clear h hG hc
  go_enter Tryz.func93, Tryz.ntmps93
  go_wp2_with (go_at_call 161; refine (unhide AT).mono ?_; clear AT; rintro e w1 ⟨nb, rfl, hn, _, hb1⟩)
  go_ret2
  exact ⟨rfl, hb1⟩
/-- the words that the runs ask for. -/
def numT : List (List UInt8 × Int × Bool) := [([53], 5, true), ([49], 1, true), ([45, 49], -1, true), ([120], 0, false)]
theorem itoa_pos (n : Nat) (h : n < 100) : Lib.itoa (n : Int) = two n := by
  rw [two_eq h, Lib.itoa, if_neg (by omega)]
  rfl
theorem itoa_m1 : Lib.itoa (-1) = [45, 49] := by
  rw [Lib.itoa, if_pos (by decide), show (-1 : Int).natAbs = 1 from rfl, ← two_eq (by decide)]
  rfl
theorem number_fn : CallOk Tryz.prog (fun f' args s k => cond (Nat.beq f' 93) (xNumber numT args s k) false) := number_ok (by kernel_rfl) fun x hx w hG => by
  simp only [numT, List.mem_cons, List.not_mem_nil, or_false] at hx
  rcases hx with rfl | rfl | rfl | rfl
  · exact number_yes _ 5 true (by decide) (by kernel_rfl) (by decide) (by decide) (by rw [Lib.toList_data, show (5 : Int) = ((5 : Nat) : Int) from rfl, itoa_pos 5 (by decide)]; rfl) w hG
  · exact number_yes _ 1 true (by decide) (by kernel_rfl) (by decide) (by decide) (by rw [Lib.toList_data, show (1 : Int) = ((1 : Nat) : Int) from rfl, itoa_pos 1 (by decide)]; rfl) w hG
  · exact number_yes _ (-1) true (by decide) (by kernel_rfl) (by decide) (by decide) (by rw [Lib.toList_data, itoa_m1]; rfl) w hG
  · exact number_no _ (by decide) (by kernel_rfl) w hG
end Go.Proofs.YtcofioeikpiabaaGreatDoor.RE
