import Derived.Test.YtdamlfkieecnjaaGreatDoorProg
import Derived.Test.YtdamlfkieecnjaaGreatDoorQAmTk
import Derived.WalkKit
import Derived.WalkLawsBesides
import Derived.Outline
import Derived.Handy
import Derived.Deep.DeepFit
import Derived.RangeFuncNested
import Derived.Stop.Asserts
import Derived.RowKitTokens
set_option maxHeartbeats 4000000
set_option maxRecDepth 100000
namespace Go.Proofs.YtdamlfkieecnjaaGreatDoor.RR
open Go Go.RowKit Go.Extern.Stop Go.Stop Go.Extern Am
theorem cellLt {w:World} {b o:Nat} {v:Value} (h:w.cell? ⟨b,o,none⟩=some v):b<w.heap.size:=by
 rcases Nat.lt_or_ge b w.heap.size with hl|hl
 ·exact hl
 ·simp[World.cell?,Array.getElem?_eq_none hl]at h
abbrev hdl (t:Nat):Value:=.pointer (some ⟨5,t,none⟩)
theorem as_valueOf (t:Addr) (w:World):(ReflectliteValue.unpack (.iface 111 (.pointer (some t)))).run Tryz.prog w
  = .ok (.agg #[hdl 111,.pointer (some ⟨w.heap.size,0,none⟩),.int .u64 150]) (w.alloc (.cells #[.pointer (some t)] 111)):=by kernel_rfl
theorem as_type (a:Addr) (w:World):(ReflectliteValue.methodAny (ReflectliteValue.valueError "reflectlite.Value.Type" 0) (fun t _ _ _=>ReflectliteType.toType t) #[.agg #[hdl 111,.pointer (some a),.int .u64 150]]).run Tryz.prog w
  = .ok (.iface 233 (.agg #[hdl 111])) w:=by kernel_rfl
theorem as_kindP (w:World):((ReflectliteType.abiMethod fun t=>(fun a:Nat=>Value.int IntKind.u8 (a:Int)) <$> Rtype.kind t) #[hdl 111]).run Tryz.prog w=.ok (.int .u8 22) w:=by kernel_rfl
theorem as_kindE (w:World):((ReflectliteType.abiMethod fun t=>(fun a:Nat=>Value.int IntKind.u8 (a:Int)) <$> Rtype.kind t) #[hdl 94]).run Tryz.prog w=.ok (.int .u8 22) w:=by kernel_rfl
theorem as_parts (a:Addr) (w:World):(ReflectliteValue.parts (.agg #[hdl 111,.pointer (some a),.int .u64 150])).run Tryz.prog w=.ok (some (111,a,150)) w:=by kernel_rfl
theorem as_elemT (w:World):(ReflectliteType.method ReflectliteType.elem #[.agg #[hdl 111]]).run Tryz.prog w=.ok (.iface 233 (.agg #[hdl 94])) w:=by kernel_rfl
theorem as_implements (w:World):(ReflectliteType.relation "Implements" ReflectliteType.implements_ #[.agg #[hdl 94],.iface 233 (.agg #[hdl 29])]).run Tryz.prog w=.ok (.bool true) w:=by kernel_rfl
theorem as_typeOf (v:Value) (w:World):(ReflectliteType.typeOf #[.iface 94 v]).run Tryz.prog w=.ok (.iface 233 (.agg #[hdl 94])) w:=by kernel_rfl
theorem as_assignable (w:World):(ReflectliteType.relation "AssignableTo" ReflectliteType.assignableTo #[.agg #[hdl 94],.iface 233 (.agg #[hdl 94])]).run Tryz.prog w=.ok (.bool true) w:=by kernel_rfl
theorem as_valueE (e:Addr) (w:World):(ReflectliteValue.unpack (.iface 94 (.pointer (some e)))).run Tryz.prog w
  = .ok (.agg #[hdl 94,.pointer (some ⟨w.heap.size,0,none⟩),.int .u64 150]) (w.alloc (.cells #[.pointer (some e)] 94)):=by kernel_rfl
theorem as_elemOf (w:World):(Rtype.elem? 111).run Tryz.prog w=.ok (some 94) w:=by kernel_rfl
theorem as_mk (p:Addr) (w:World):(ReflectliteValue.mk 94 p ReflectliteValue.flagAddr).run Tryz.prog w=.ok (.agg #[hdl 94,.pointer (some p),.int .u64 406]) w:=by kernel_rfl
theorem as_partsA (a:Addr) (w:World):(ReflectliteValue.parts (.agg #[hdl 94,.pointer (some a),.int .u64 406])).run Tryz.prog w=.ok (some (94,a,406)) w:=by kernel_rfl
theorem as_partsE (a:Addr) (w:World):(ReflectliteValue.parts (.agg #[hdl 94,.pointer (some a),.int .u64 150])).run Tryz.prog w=.ok (some (94,a,150)) w:=by kernel_rfl
theorem as_direct (w:World):(Rtype.directlyAssignable 94 94).run Tryz.prog w=.ok true w:=by kernel_rfl
theorem as_isNil (a p:Addr) (W:World) (ha:W.cell? a=some (.pointer (some p))) :
  (ReflectliteValue.method (ReflectliteValue.valueError "reflectlite.Value.IsNil" 0) ReflectliteValue.isNil #[.agg #[hdl 111,.pointer (some a),.int .u64 150]]).run Tryz.prog W=.ok (.bool false) W:=by
 rw[show ReflectliteValue.method (ReflectliteValue.valueError "reflectlite.Value.IsNil" 0) ReflectliteValue.isNil #[(.agg #[hdl 111,.pointer (some a),.int .u64 150])]=Bind.bind (ReflectliteValue.parts (.agg #[hdl 111,.pointer (some a),.int .u64 150])) _ from rfl];simp only[Sem.run_bind,as_parts,Result.andThen];simp[ReflectliteValue.isNil,loadVar,isAgg,underlying,Tryz.underlying111,ha,Result.andThen]
theorem as_elemV (a p:Addr) (W:World) (ha:W.cell? a=some (.pointer (some p))) :
  (ReflectliteValue.method (ReflectliteValue.valueError "reflectlite.Value.Elem" 0) ReflectliteValue.elem #[.agg #[hdl 111,.pointer (some a),.int .u64 150]]).run Tryz.prog W
   = .ok (.agg #[hdl 94,.pointer (some p),.int .u64 406]) W:=by
 rw[show ReflectliteValue.method (ReflectliteValue.valueError "reflectlite.Value.Elem" 0) ReflectliteValue.elem #[(.agg #[hdl 111,.pointer (some a),.int .u64 150])]=Bind.bind (ReflectliteValue.parts (.agg #[hdl 111,.pointer (some a),.int .u64 150])) _ from rfl];simp only[Sem.run_bind,as_parts,Result.andThen];simp[ReflectliteValue.elem,loadVar,isAgg,underlying,Tryz.underlying111,ha,Result.andThen,as_elemOf,as_mk]
open Go Go.RowKit Go.Extern.Stop Go.Stop Go.Extern
theorem as_set (ta b e:Addr) (old:Value) (W:World) (hb:W.cell? b=some (.pointer (some e))) (ht:W.cell? ta=some old) (hf:W.frozen? ta=false) :
  (ReflectliteValue.set #[.agg #[hdl 94,.pointer (some ta),.int .u64 406],.agg #[hdl 94,.pointer (some b),.int .u64 150]]).run Tryz.prog W
   = .ok (.tuple #[]) (W.setCell ta (.pointer (some e))):=by
 rw[show ReflectliteValue.set #[.agg #[hdl 94,.pointer (some ta),.int .u64 406],.agg #[hdl 94,.pointer (some b),.int .u64 150]]=Bind.bind (ReflectliteValue.parts (.agg #[hdl 94,.pointer (some ta),.int .u64 406])) (fun _r=>Bind.bind (ReflectliteValue.parts (.agg #[hdl 94,.pointer (some b),.int .u64 150])) _)from rfl];simp only[Sem.run_bind,as_partsA,as_partsE,Result.andThen];simp[ReflectliteValue.flagAddr,loadVar,isAgg,underlying,Tryz.underlying94,hb,Result.andThen,as_direct,storeVar,Value.cells,storeCells,Addr.add];rw[run_store Tryz.prog W ta _ _ (by rfl)];simp[ht,hf]
theorem m_kind (h:Value) (w:World):(Go.method 445 233 (.agg #[h]) "Kind").run Tryz.prog w=.ok (303,h) w:=by kernel_rfl
theorem m_elem (h:Value) (w:World):(Go.method 445 233 (.agg #[h]) "Elem").run Tryz.prog w=.ok (313,.agg #[h]) w:=by kernel_rfl
theorem m_implements (h:Value) (w:World):(Go.method 445 233 (.agg #[h]) "Implements").run Tryz.prog w=.ok (314,.agg #[h]) w:=by kernel_rfl
theorem m_assignable (h:Value) (w:World):(Go.method 445 233 (.agg #[h]) "AssignableTo").run Tryz.prog w=.ok (311,.agg #[h]) w:=by kernel_rfl
theorem m_comparable (h:Value) (w:World):(Go.method 445 233 (.agg #[h]) "Comparable").run Tryz.prog w=.ok (312,.agg #[h]) w:=by kernel_rfl
def ErrType (w:World):Prop:=w.cell? ⟨0,0,none⟩=some (.iface 233 (.agg #[hdl 29]))
abbrev refBlk (t:Addr):Obj:=.cells #[.pointer (some t)] 111
theorem as_hit (e:Addr) (rb:Nat) (old:Value) (w:World) (hg:ErrType w) (hr:Boxed w rb 94 old) :
  Calls Tryz.prog 47 #[.iface 94 (.pointer (some e)),.iface 111 (.pointer (some ⟨rb,0,none⟩))] w fun ev w'=>ev=.returned (.bool true)/\∃w1,Below w.heap.size w w1/\w'=w1.setCell ⟨rb,0,none⟩ (.pointer (some e)):=by
 have h30:=@run_callFunc_extern Tryz.prog 100 _ (fun args=>ReflectliteValue.unpack (args.getD 0 (.tuple #[]))) Tryz.func100 (by kernel_rfl) (by kernel_rfl) (by kernel_rfl) (by kernel_rfl);have h31:=@run_callFunc_extern Tryz.prog 101 _ (ReflectliteValue.methodAny (ReflectliteValue.valueError "reflectlite.Value.Type" 0) (fun t _ _ _=>ReflectliteType.toType t)) Tryz.func101 (by kernel_rfl) (by kernel_rfl) (by kernel_rfl) (by kernel_rfl);have h32:=@run_callFunc_extern Tryz.prog 102 _ (ReflectliteValue.method (ReflectliteValue.valueError "reflectlite.Value.IsNil" 0) ReflectliteValue.isNil) Tryz.func102 (by kernel_rfl) (by kernel_rfl) (by kernel_rfl) (by kernel_rfl);have hkd:=@run_callFunc_extern Tryz.prog 303 _ (ReflectliteType.abiMethod fun t=>do pure (.int .u8 (<-Rtype.kind t))) Tryz.func303 (by kernel_rfl) (by kernel_rfl) (by kernel_rfl) (by kernel_rfl);have hel:=@run_callFunc_extern Tryz.prog 313 _ (ReflectliteType.method ReflectliteType.elem) Tryz.func313 (by kernel_rfl) (by kernel_rfl) (by kernel_rfl) (by kernel_rfl);have him:=@run_callFunc_extern Tryz.prog 314 _ (ReflectliteType.relation "Implements" ReflectliteType.implements_) Tryz.func314 (by kernel_rfl) (by kernel_rfl) (by kernel_rfl) (by kernel_rfl);have hto:=@run_callFunc_extern Tryz.prog 106 _ ReflectliteType.typeOf Tryz.func106 (by kernel_rfl) (by kernel_rfl) (by kernel_rfl) (by kernel_rfl);have hat:=@run_callFunc_extern Tryz.prog 311 _ (ReflectliteType.relation "AssignableTo" ReflectliteType.assignableTo) Tryz.func311 (by kernel_rfl) (by kernel_rfl) (by kernel_rfl) (by kernel_rfl);have hev:=@run_callFunc_extern Tryz.prog 160 _ (ReflectliteValue.method (ReflectliteValue.valueError "reflectlite.Value.Elem" 0) ReflectliteValue.elem) Tryz.func160 (by kernel_rfl) (by kernel_rfl) (by kernel_rfl) (by kernel_rfl);have hst:=@run_callFunc_extern Tryz.prog 161 _ ReflectliteValue.set Tryz.func161 (by kernel_rfl) (by kernel_rfl) (by kernel_rfl) (by kernel_rfl);have f1:=as_valueOf;have f2:=as_type;have f3:=m_kind;have f4:=m_elem;have f5:=m_implements;have f6:=as_kindP;have f7:=as_kindE;have f8:=as_elemT;have f9:=as_implements;have fa:=as_typeOf;have fb:=m_assignable;have fc:=as_assignable;have fd:=as_valueE;have hrl:=hr.lt;have hlt:0<w.heap.size:=cellLt hg;have n8:=as_isNil ⟨w.heap.size,0,none⟩ ⟨rb,0,none⟩ ((w.alloc (refBlk ⟨rb,0,none⟩)).alloc (.cells #[hdl 111,.pointer (some ⟨w.heap.size,0,none⟩),.int .u64 150] 186)) (by simp);have hg2:((w.alloc (refBlk ⟨rb,0,none⟩)).alloc (.cells #[hdl 111,.pointer (some ⟨w.heap.size,0,none⟩),.int .u64 150] 186)).cell? ⟨0,0,none⟩=some (.iface 233 (.agg #[hdl 29])):=by
  rw[World.cell?_alloc_lt _ _ ⟨0,0,none⟩ (by simp),World.cell?_alloc_lt _ _ ⟨0,0,none⟩ hlt];exact hg
 have el:=as_elemV ⟨w.heap.size,0,none⟩ ⟨rb,0,none⟩ (((w.alloc (refBlk ⟨rb,0,none⟩)).alloc (.cells #[hdl 111,.pointer (some ⟨w.heap.size,0,none⟩),.int .u64 150] 186)).alloc (.cells #[hdl 111,.pointer (some ⟨w.heap.size,0,none⟩),.int .u64 150] 186)) (by rw[World.cell?_alloc_lt _ _ ⟨w.heap.size,0,none⟩ (by simp;omega),World.cell?_alloc_lt _ _ ⟨w.heap.size,0,none⟩ (by simp),World.cell?_alloc_at _ _ _ _ (by simp)];rfl);have b4:Boxed ((((w.alloc (refBlk ⟨rb,0,none⟩)).alloc (.cells #[hdl 111,.pointer (some ⟨w.heap.size,0,none⟩),.int .u64 150] 186)).alloc (.cells #[hdl 111,.pointer (some ⟨w.heap.size,0,none⟩),.int .u64 150] 186)).alloc (.cells #[.pointer (some e)] 94)) rb 94 old:=(((hr.alloc _).alloc _).alloc _).alloc _;have st:=as_set ⟨rb,0,none⟩ ⟨w.heap.size+1+1+1,0,none⟩ e old ((((w.alloc (refBlk ⟨rb,0,none⟩)).alloc (.cells #[hdl 111,.pointer (some ⟨w.heap.size,0,none⟩),.int .u64 150] 186)).alloc (.cells #[hdl 111,.pointer (some ⟨w.heap.size,0,none⟩),.int .u64 150] 186)).alloc (.cells #[.pointer (some e)] 94)) (by rw[World.cell?_alloc_at _ _ _ _ (by simp)];rfl) b4.cell b4.frozen;go_enter Tryz.func47,Tryz.ntmps47;go_wp2;refine wp_loop_rounds 1 ?_;rw[rounds_succ];go_wp2;go_ret;exact⟨rfl,_,(((((Below.refl w.heap.size w).alloc (by omega) _).alloc (by simp) _).alloc (by simp;omega) _).alloc (by simp;omega) _),rfl⟩
open Am
theorem err_type {w:World} (h:GlobOk w):ErrType w:=by
 obtain⟨c,e,f,h1,h2⟩:=h.obj 0 _ rfl;show w.cell? _=_;have h3:c[0]?=some (.iface 233 (.agg #[hdl 29])):=by rw[<-Array.getElem?_toList,h2];rfl
 simp[World.cell?,h1,h3]
theorem as_fn:CallOk Tryz.prog (fun f' args s k=>cond (Nat.beq f' 47) (xAs 94 111 args s k) false):=as_ok (by kernel_rfl) fun e rb old w hg hb=>as_hit e rb old w (err_type hg) hb
end Go.Proofs.YtdamlfkieecnjaaGreatDoor.RR
namespace Go.Proofs.YtdamlfkieecnjaaGreatDoor.RR
open Go Go.RowKit Go.Extern.Stop Go.Stop Go.Extern
theorem equalIn_int (d:Nat) (w:World) (y:Int):(Op.equalIn (d+2) 29 (.iface 80 (.int .i64 y)) (.iface 80 (.int .i64 y))).run Tryz.prog w=.ok true w:=by
 obtain⟨i,hi,hc⟩:=Option.map_eq_some_iff.1 (show(Tryz.prog.info? 80).map (·.comparable)=some true by kernel_rfl);simp[Op.equalIn,run_underlying Tryz.underlying29,run_underlying Tryz.underlying80,typeInfo,hi,hc]
theorem eql_int (w:World) (y:Int):(binOp .eql 29 (.iface 80 (.int .i64 y)) (.iface 80 (.int .i64 y))).run Tryz.prog w=.ok (.bool true) w:=by
 simp only[binOp];simp[Op.equal,Op.maxDepth,equalIn_int 9998 w y]
theorem eql_types (w:World) (p:Value) (y:Int):(binOp .eql 29 (.iface 94 p) (.iface 80 (.int .i64 y))).run Tryz.prog w=.ok (.bool false) w:=
 run_eql_iface_types (P:=Tryz.prog) 94 80 p (.int .i64 y) Tryz.underlying29 (by decide) w
theorem is_typeOf (v:Value) (w:World):(ReflectliteType.typeOf #[.iface 80 v]).run Tryz.prog w=.ok (.iface 233 (.agg #[hdl 80])) w:=by kernel_rfl
theorem is_comparable (w:World):((ReflectliteType.method fun t=>do Rtype.noPackHeld "Comparable" t;(fun a=>Value.bool a.comparable) <$> typeInfo t) #[.agg #[hdl 80]]).run Tryz.prog w=.ok (.bool true) w:=by kernel_rfl
theorem is_noIs (v:Value) (x:TypeId) (w:World):(Instr.typeAssert (.iface 94 v) x 246 true).run Tryz.prog w=.ok (.tuple #[.nilIface,.bool false]) w:=run_typeAssert_lacksB Tryz.underlying246 (by kernel_rfl) (by kernel_rfl) v x w
theorem is_unwrap (v:Value) (x:TypeId) (w:World):(Instr.typeAssert (.iface 94 v) x 240 true).run Tryz.prog w=.ok (.tuple #[.iface 94 v,.bool true]) w:=run_typeAssert_hasB Tryz.underlying240 (by kernel_rfl) v x w
theorem m_unwrap (a:Addr) (w:World):(Go.method 445 94 (.pointer (some a)) "Unwrap").run Tryz.prog w=.ok (306,.pointer (some a)) w:=by kernel_rfl
theorem is_hit (b:Nat) (y:Int) (w:World) (h1:w.cell? ⟨b,1,none⟩=some (.int .i64 y)) :
  Calls Tryz.prog 50 #[.iface 94 (.pointer (some ⟨b,0,none⟩)),.iface 80 (.int .i64 y)] w fun ev w'=>ev=.returned (.bool true)/\w=w':=by
 have hto:=@run_callFunc_extern Tryz.prog 106 _ ReflectliteType.typeOf Tryz.func106 (by kernel_rfl) (by kernel_rfl) (by kernel_rfl) (by kernel_rfl);have hcm:=@run_callFunc_extern Tryz.prog 312 _ (ReflectliteType.method fun t=>do Rtype.noPackHeld "Comparable" t;pure (.bool (<-typeInfo t).comparable)) Tryz.func312 (by kernel_rfl) (by kernel_rfl) (by kernel_rfl) (by kernel_rfl);have f1:=is_typeOf;have f2:=is_comparable;have f3:=m_comparable;have f4:=eql_types;have f5:=eql_int;have f6:=is_noIs;have f7:=is_unwrap;have f8:=m_unwrap;go_enter Tryz.func50,Tryz.ntmps50;go_wp2;refine wp_loop_rounds 2 ?_;rw[rounds_succ];go_wp2;rw[rounds_succ];go_wp2;go_ret;exact⟨rfl,rfl⟩
open Am
theorem is_fn:CallOk Tryz.prog (fun f' args s k=>cond (Nat.beq f' 50) (xIs 94 80 1 args s k) false):=is_ok (by kernel_rfl) fun b y w h=>is_hit b y w h
end Go.Proofs.YtdamlfkieecnjaaGreatDoor.RR
