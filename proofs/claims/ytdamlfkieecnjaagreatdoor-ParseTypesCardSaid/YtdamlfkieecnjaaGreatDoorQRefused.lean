import Derived.Test.YtdamlfkieecnjaaGreatDoorQErrno
import Derived.Deep.RegionWith

namespace Go.Proofs.YtdamlfkieecnjaaGreatDoor
open Go Go.RowKit
theorem Where_any (a:Int) (w:World):Calls Tryz.prog 48 #[.agg #[.int .i64 a]] w fun e w'=>e=.returned (.int .i64 a)/\Below w.heap.size w w':=by
 go_enter Tryz.func48,Tryz.ntmps48;go_wp2;go_ret;exact⟨rfl,(Below.refl _ _).alloc (Nat.le_refl _) _⟩
def RefAt (b:Nat) (p y:Nat) (W:World):Prop:=W.heap[b]?=some (.cells #[.int .i64 (p:Int),.int .i64 (y:Int)] 114)
theorem RefAt.c0 {b p y:Nat} {W:World} (h:RefAt b p y W):W.cell? ⟨b,0,none⟩=some (.int .i64 (p:Int)):=by simp[World.cell?,show W.heap[b]?=_ from h]
theorem RefAt.c1 {b p y:Nat} {W:World} (h:RefAt b p y W):W.cell? ⟨b,1,none⟩=some (.int .i64 (y:Int)):=by simp[World.cell?,show W.heap[b]?=_ from h]
theorem RefAt.lt {b p y:Nat} {W:World} (h:RefAt b p y W):b<W.heap.size:=(Array.getElem?_eq_some_iff.1 h).1
theorem RefAt.below {B b p y:Nat} {W W':World} (h:RefAt b p y W) (hb:Below B W W') (hB:b<B):RefAt b p y W':=(hb.block b hB).trans h
theorem text_not_empty (s x:ByteArray):(s++(⟨#[32,97,116,32]⟩:ByteArray)++x).toList.isEmpty=false:=by
 apply not_empty_of;rw[ByteArray.size_append,ByteArray.size_append];have:ByteArray.size ⟨#[32,97,116,32]⟩=4:=rfl;omega
theorem below_of_drew {w W:World} (h:Below w.drew.heap.size w.drew W):Below w.heap.size w W:=⟨h.os,h.tape,h.output,h.size,h.block⟩
end Go.Proofs.YtdamlfkieecnjaaGreatDoor
