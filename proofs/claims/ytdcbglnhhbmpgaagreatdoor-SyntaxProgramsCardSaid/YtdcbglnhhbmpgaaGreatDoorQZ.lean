import Derived.Test.YtdcbglnhhbmpgaaGreatDoorProg
import Derived.WalkKit
import Derived.WalkLawsBesides
import Derived.Handy
set_option maxRecDepth 100000
namespace Go.Proofs.YtdcbglnhhbmpgaaGreatDoor
open Go Go.RowKit
abbrev ZB (u w:World):Prop:=Below u.heap.size u w
theorem Zr {n:Nat} {w:World}:Below n w w:=Below.refl _ _
theorem Za (w:World) (O:Obj):ZB w (w.alloc O):=(Below.refl _ _).alloc (Nat.le_refl _) _
theorem Zn {u v w:World} (h:ZB u v) (k:ZB v w):ZB u w:=h.trans (k.mono h.size)
theorem Zq {w w':World} {g i:Nat} {v:Value} (h:ZB w w') (a:w.cell? ⟨g,i,none⟩=some v):w'.cell? ⟨g,i,none⟩=some v:=(h.cell (p:=⟨g,i,none⟩) (by
 rcases Nat.lt_or_ge g w.heap.size with h'|h'
 ·exact h'
 ·simp[World.cell?,Array.getElem?_eq_none h'] at a)).trans a
theorem Zk {p:Prop} (h:p:=by kernel_rfl):p:=h
theorem Ze {α:Type} (a:α):∃x,x=a:=⟨a,rfl⟩
abbrev Zi (n:Int):Value:=.int .i64 n
abbrev Zs (b o:Nat):Option Addr:=some ⟨b,o,none⟩
abbrev Zz:Value:=.slice none 0 0
theorem Zx (u:World):∃B:World->Prop,(∀W,B W->ZB u W)/\(∀W,ZB u W->B W)/\(∀W W',B W->ZB W W'->B W')/\(∀W W',B W->Below u.heap.size W W'->B W')/\∀W,B W->u.heap.size<=W.heap.size:=⟨fun W=>ZB u W,fun _ h=>h,fun _ h=>h,fun _ _ h k=>Zn h k,fun _ _ h k=>h.trans k,fun _ h=>h.size⟩
abbrev Zw:=World
abbrev Zg:=Calls Tryz.prog
abbrev Zo:=Option Addr
abbrev Zy:=ByteArray
abbrev ZC (F:FuncId) (x:Array Value) (w:World) (v:Value):Prop:=Calls Tryz.prog F x w fun e w'=>e=.returned v/\ZB w w'
abbrev ZK5 (w:World) (g o:Nat) (v0 v1 v2 v3 v4:Value):Prop:=w.cell? ⟨g,o,none⟩=some v0/\w.cell? ⟨g,o+1,none⟩=some v1/\w.cell? ⟨g,o+2,none⟩=some v2/\w.cell? ⟨g,o+3,none⟩=some v3/\w.cell? ⟨g,o+4,none⟩=some v4
abbrev ZK6 (w:World) (g o:Nat) (v0 v1 v2 v3 v4 v5:Value):Prop:=w.cell? ⟨g,o,none⟩=some v0/\w.cell? ⟨g,o+1,none⟩=some v1/\w.cell? ⟨g,o+2,none⟩=some v2/\w.cell? ⟨g,o+3,none⟩=some v3/\w.cell? ⟨g,o+4,none⟩=some v4/\w.cell? ⟨g,o+5,none⟩=some v5
abbrev ZK7 (w:World) (g o:Nat) (v0 v1 v2 v3 v4 v5 v6:Value):Prop:=w.cell? ⟨g,o,none⟩=some v0/\w.cell? ⟨g,o+1,none⟩=some v1/\w.cell? ⟨g,o+2,none⟩=some v2/\w.cell? ⟨g,o+3,none⟩=some v3/\w.cell? ⟨g,o+4,none⟩=some v4/\w.cell? ⟨g,o+5,none⟩=some v5/\w.cell? ⟨g,o+6,none⟩=some v6
abbrev ZK10 (w:World) (g o:Nat) (v0 v1 v2 v3 v4 v5 v6 v7 v8 v9:Value):Prop:=w.cell? ⟨g,o,none⟩=some v0/\w.cell? ⟨g,o+1,none⟩=some v1/\w.cell? ⟨g,o+2,none⟩=some v2/\w.cell? ⟨g,o+3,none⟩=some v3/\w.cell? ⟨g,o+4,none⟩=some v4/\w.cell? ⟨g,o+5,none⟩=some v5/\w.cell? ⟨g,o+6,none⟩=some v6/\w.cell? ⟨g,o+7,none⟩=some v7/\w.cell? ⟨g,o+8,none⟩=some v8/\w.cell? ⟨g,o+9,none⟩=some v9
abbrev ZL5 (w:World) (g:Nat) (v0 v1 v2 v3 v4:Value):Prop:=w.cell? ⟨g,0,none⟩=some v0/\w.cell? ⟨g,1,none⟩=some v1/\w.cell? ⟨g,2,none⟩=some v2/\w.cell? ⟨g,3,none⟩=some v3/\w.cell? ⟨g,4,none⟩=some v4
abbrev ZL6 (w:World) (g:Nat) (v0 v1 v2 v3 v4 v5:Value):Prop:=w.cell? ⟨g,0,none⟩=some v0/\w.cell? ⟨g,1,none⟩=some v1/\w.cell? ⟨g,2,none⟩=some v2/\w.cell? ⟨g,3,none⟩=some v3/\w.cell? ⟨g,4,none⟩=some v4/\w.cell? ⟨g,5,none⟩=some v5
abbrev ZL7 (w:World) (g:Nat) (v0 v1 v2 v3 v4 v5 v6:Value):Prop:=w.cell? ⟨g,0,none⟩=some v0/\w.cell? ⟨g,1,none⟩=some v1/\w.cell? ⟨g,2,none⟩=some v2/\w.cell? ⟨g,3,none⟩=some v3/\w.cell? ⟨g,4,none⟩=some v4/\w.cell? ⟨g,5,none⟩=some v5/\w.cell? ⟨g,6,none⟩=some v6
abbrev ZL10 (w:World) (g:Nat) (v0 v1 v2 v3 v4 v5 v6 v7 v8 v9:Value):Prop:=w.cell? ⟨g,0,none⟩=some v0/\w.cell? ⟨g,1,none⟩=some v1/\w.cell? ⟨g,2,none⟩=some v2/\w.cell? ⟨g,3,none⟩=some v3/\w.cell? ⟨g,4,none⟩=some v4/\w.cell? ⟨g,5,none⟩=some v5/\w.cell? ⟨g,6,none⟩=some v6/\w.cell? ⟨g,7,none⟩=some v7/\w.cell? ⟨g,8,none⟩=some v8/\w.cell? ⟨g,9,none⟩=some v9
abbrev ZL13 (w:World) (g:Nat) (v0 v1 v2 v3 v4 v5 v6 v7 v8 v9 v10 v11 v12:Value):Prop:=w.cell? ⟨g,0,none⟩=some v0/\w.cell? ⟨g,1,none⟩=some v1/\w.cell? ⟨g,2,none⟩=some v2/\w.cell? ⟨g,3,none⟩=some v3/\w.cell? ⟨g,4,none⟩=some v4/\w.cell? ⟨g,5,none⟩=some v5/\w.cell? ⟨g,6,none⟩=some v6/\w.cell? ⟨g,7,none⟩=some v7/\w.cell? ⟨g,8,none⟩=some v8/\w.cell? ⟨g,9,none⟩=some v9/\w.cell? ⟨g,10,none⟩=some v10/\w.cell? ⟨g,11,none⟩=some v11/\w.cell? ⟨g,12,none⟩=some v12
theorem Y0:type_of% @Go.Lib.cell_of_heap:=@Go.Lib.cell_of_heap
theorem Y1:type_of% @Option.some.inj.{0}:=@Option.some.inj.{0}
theorem Y3:type_of% @beq_eq_false_iff_ne.{0}:=@beq_eq_false_iff_ne.{0}
theorem Y4:type_of% @Option.ne_none_iff_exists'.{0}:=@Option.ne_none_iff_exists'.{0}
theorem Y5:type_of% @Nat.le_refl:=@Nat.le_refl
theorem Y6:type_of% @List.getElem?_eq_getElem.{0}:=@List.getElem?_eq_getElem.{0}
theorem Y7:type_of% @if_neg.{1}:=@if_neg.{1}
theorem Y8:type_of% @Array.getElem?_eq_some_iff.{0}:=@Array.getElem?_eq_some_iff.{0}
theorem Y9:type_of% @List.length_append.{0}:=@List.length_append.{0}
theorem Ya:type_of% @Go.World.cell?_alloc_at:=@Go.World.cell?_alloc_at
theorem Yb:type_of% @Bool.not_eq_true:=@Bool.not_eq_true
theorem Yc:type_of% @Bool.and_eq_true:=@Bool.and_eq_true
theorem Yd:type_of% @Go.bodyPost_end:=@Go.bodyPost_end
theorem Ye:type_of% @if_pos.{1}:=@if_pos.{1}
theorem Yf:type_of% @List.map_cons.{0,0}:=@List.map_cons.{0,0}
theorem Yg:type_of% @List.drop_of_length_le.{0}:=@List.drop_of_length_le.{0}
theorem Yh:type_of% @Nat.le_trans:=@Nat.le_trans
theorem Yi:type_of% @Go.bodyPost_ret:=@Go.bodyPost_ret
theorem Yj:type_of% @List.map_append.{0,0}:=@List.map_append.{0,0}
theorem Yk:type_of% @List.length_cons.{0}:=@List.length_cons.{0}
theorem Yl:type_of% @Go.World.cell?_alloc_lt:=@Go.World.cell?_alloc_lt
theorem Ym:type_of% @decide_eq_false:=@decide_eq_false
theorem Yn:type_of% @List.all_eq_true.{0}:=@List.all_eq_true.{0}
theorem Yo:type_of% @List.getD_eq_getElem?_getD.{0}:=@List.getD_eq_getElem?_getD.{0}
theorem Yq:type_of% @List.take_succ_eq_append_getElem.{0}:=@List.take_succ_eq_append_getElem.{0}
theorem Yr:type_of% @List.take_length.{0}:=@List.take_length.{0}
theorem Ys:type_of% @List.getElem_mem.{0}:=@List.getElem_mem.{0}
theorem Yt:type_of% @List.drop_eq_getElem_cons.{0}:=@List.drop_eq_getElem_cons.{0}
theorem Yu:type_of% @Go.RowKit.Below.refl:=@Go.RowKit.Below.refl
theorem Yv:type_of% @List.getElem?_append_right.{0}:=@List.getElem?_append_right.{0}
theorem Yw:type_of% @Go.below_drewN:=@Go.below_drewN
theorem Yx:type_of% @List.sum_append.{0}:=@List.sum_append.{0}
theorem Yy:type_of% @List.mem_range:=@List.mem_range
theorem Yz:type_of% @Nat.lt_of_lt_of_le:=@Nat.lt_of_lt_of_le
theorem YA:type_of% @List.range_succ:=@List.range_succ
theorem YB:type_of% @List.eq_nil_of_length_eq_zero.{0}:=@List.eq_nil_of_length_eq_zero.{0}
theorem YC:type_of% @List.getElem?_append_left.{0}:=@List.getElem?_append_left.{0}
theorem YD:type_of% @List.cons_append.{0}:=@List.cons_append.{0}
theorem YE:type_of% @List.length_take.{0}:=@List.length_take.{0}
theorem YF:type_of% @List.mem_map.{0,0}:=@List.mem_map.{0,0}
theorem YG:type_of% @List.map_nil.{0,0}:=@List.map_nil.{0,0}
theorem YH:type_of% @Go.Lib.frozen_of_heap:=@Go.Lib.frozen_of_heap
theorem YI:type_of% @List.getElem?_eq_some_iff.{0}:=@List.getElem?_eq_some_iff.{0}
theorem YJ:type_of% @Go.IntKind.wrap_i64:=@Go.IntKind.wrap_i64
theorem YK:type_of% @List.mem_of_getElem?.{0}:=@List.mem_of_getElem?.{0}
theorem YL:type_of% @List.all_cons.{0}:=@List.all_cons.{0}
theorem YM:type_of% @List.sum_cons.{0}:=@List.sum_cons.{0}
theorem YN:type_of% @List.getElem?_cons_succ.{0}:=@List.getElem?_cons_succ.{0}
theorem YO:type_of% @List.flatMap_append.{0,0}:=@List.flatMap_append.{0,0}
theorem YP:type_of% @Array.getElem?_setIfInBounds_ne.{0}:=@Array.getElem?_setIfInBounds_ne.{0}
theorem YQ:type_of% @Array.getD_eq_getD_getElem?.{0}:=@Array.getD_eq_getD_getElem?.{0}
theorem YR:type_of% @Nat.add_assoc:=@Nat.add_assoc
theorem YS:type_of% @List.take_of_length_le.{0}:=@List.take_of_length_le.{0}
theorem YT:type_of% @Go.WideShapes.add_plain:=@Go.WideShapes.add_plain
theorem YU:type_of% @Go.World.ownsRow_nil:=@Go.World.ownsRow_nil
theorem YW:type_of% @Nat.lt_or_ge:=@Nat.lt_or_ge
theorem YX:type_of% @List.exists_cons_of_ne_nil.{0}:=@List.exists_cons_of_ne_nil.{0}
theorem YY:type_of% @Option.getD_some.{0}:=@Option.getD_some.{0}
theorem YZ:type_of% @List.mem_append.{0}:=@List.mem_append.{0}
theorem X0:type_of% @Option.bind_eq_some_iff.{0,0}:=@Option.bind_eq_some_iff.{0,0}
theorem X1:type_of% @Nat.eq_zero_or_pos:=@Nat.eq_zero_or_pos
theorem X3:type_of% @Nat.zero_add:=@Nat.zero_add
theorem X4:type_of% @Bool.and_true:=@Bool.and_true
theorem X5:type_of% @Option.map_some.{0,0}:=@Option.map_some.{0,0}
theorem X6:type_of% @List.flatMap_cons.{0,0}:=@List.flatMap_cons.{0,0}
theorem X7:type_of% @List.append_nil.{0}:=@List.append_nil.{0}
theorem X8:type_of% @List.length_nil.{0}:=@List.length_nil.{0}
theorem X9:type_of% @List.getElem?_eq_none.{0}:=@List.getElem?_eq_none.{0}
theorem Xa:type_of% @List.getElem?_cons_zero.{0}:=@List.getElem?_cons_zero.{0}
theorem Xb:type_of% @decide_eq_true_eq:=@decide_eq_true_eq
theorem Xc:type_of% @List.nil_append.{0}:=@List.nil_append.{0}
theorem Xd:type_of% @List.getElem?_map.{0,0}:=@List.getElem?_map.{0,0}
theorem Xe:type_of% @List.append_assoc.{0}:=@List.append_assoc.{0}
theorem Xf:type_of% @List.setIfInBounds_toArray.{0}:=@List.setIfInBounds_toArray.{0}
theorem Xg:type_of% @List.mem_singleton.{0}:=@List.mem_singleton.{0}
theorem Xh:type_of% @Array.all_eq_true'.{0}:=@Array.all_eq_true'.{0}
theorem Xi:type_of% @decide_eq_true:=@decide_eq_true
theorem Xj:type_of% @List.mem_cons.{0}:=@List.mem_cons.{0}
theorem Xk:type_of% @List.cons.inj.{0}:=@List.cons.inj.{0}
theorem Xl:type_of% @List.take_append_drop.{0}:=@List.take_append_drop.{0}
theorem Xm:type_of% @Go.DataW.trod_struct:=@Go.DataW.trod_struct
theorem Xn:type_of% @beq_iff_eq.{0}:=@beq_iff_eq.{0}
theorem Xo:type_of% @Go.Oper.wp_mono:=@Go.Oper.wp_mono
theorem Xp:type_of% @List.map_toArray.{0,0}:=@List.map_toArray.{0,0}
theorem Xq:type_of% @List.length_eq_one_iff.{0}:=@List.length_eq_one_iff.{0}
theorem Xr:type_of% @Nat.zero_le:=@Nat.zero_le
theorem Xs:type_of% @Nat.add_zero:=@Nat.add_zero
theorem Xt:type_of% @Nat.zero_mul:=@Nat.zero_mul
theorem Xu:type_of% @List.set_cons_zero.{0}:=@List.set_cons_zero.{0}
theorem Xv:type_of% @List.map_flatMap.{0,0,0}:=@List.map_flatMap.{0,0,0}
theorem Xw:type_of% @Bool.and_false:=@Bool.and_false
theorem Xx:type_of% @Go.info_parts:=@Go.info_parts
theorem Xy:type_of% @List.length_map.{0,0}:=@List.length_map.{0,0}
theorem Xz:type_of% @Nat.min_eq_left:=@Nat.min_eq_left
theorem XA:type_of% @List.all_append.{0}:=@List.all_append.{0}
theorem XB:type_of% @Nat.lt_succ_self:=@Nat.lt_succ_self
theorem XC:type_of% @Go.RowKit.Below.heap_setCell:=@Go.RowKit.Below.heap_setCell
theorem XD:type_of% @Bool.true_and:=@Bool.true_and
theorem XE:type_of% @Go.Lib.byteCells_length:=@Go.Lib.byteCells_length
theorem XF:type_of% @Go.DataW.trod_string:=@Go.DataW.trod_string
theorem XH:type_of% @List.getElem?_range:=@List.getElem?_range
end Go.Proofs.YtdcbglnhhbmpgaaGreatDoor
