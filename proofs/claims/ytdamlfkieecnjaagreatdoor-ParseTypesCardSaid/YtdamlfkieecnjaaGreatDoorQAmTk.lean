import Derived.Test.YtdamlfkieecnjaaGreatDoorQAmUa
import Derived.Shelf.Strings.OnBuilder
import Derived.Shelf.Strconv.Clone
import Derived.Shelf.SlIter.Nil
import Derived.Sort.Walk0
import Derived.StringKeys

set_option linter.unusedSimpArgs false
namespace Go.Proofs.YtdamlfkieecnjaaGreatDoor.Am
open Go Go.RowKit Go.Shelf Go.Proofs
/- functions of Go's library that are told by the library's own contracts. -/
theorem enters {P:Program} {f:FuncId} (h:(fnOfP P f).isSome=true) (us:Array Value) (w:World):(callFunc f us).run P w=.ok (.enter f us) w:=by
 obtain⟨fn,hf⟩:=Option.isSome_iff_exists.1 h;exact((goodF_of (P:=P) (ext:=fun _=>none) (xt:=fun _=>none) (hs:=fun _ _ _=>true) (fun _ _ h=>by cases h)).fn f fn hf).2 us w
def strOf:Value->Option (List UInt8)
 | .string b=>some b.data.toList
 | _=>none
def strsOf:List Value->Option (List (List UInt8))
 | []=>some []
 | v::r=>match strOf v with
  | some b=>match strsOf r with
   | some l=>some (b::l)
   | none=>none
  | none=>none
def joinK3 (s:St) (k:K2) (l:List UInt8):Bool:=cond (Nat.ble l.length 1000000) (forceL l fun l=>k (.string ⟨⟨l⟩⟩) s) false
def joinK2 (s:St) (sep:List UInt8) (k:K2):Option (List (List UInt8))->Bool
 | some xs=>cond (Nat.ble xs.length 1000000) (joinK3 s k (Lib.join xs sep)) false
 | none=>false
def joinK1 (s:St) (sep:List UInt8) (k:K2):Option (List Value)->Bool
 | some l=>joinK2 s sep k (strsOf l)
 | none=>false
def xJoin:List Value->St->K2->Bool
 | [.slice a n _,.string sep],s,k=>joinK1 s sep.data.toList k (rowPart s n a)
 | _,_,_=>false
def xClone:List Value->St->K2->Bool
 | [.string b],s,k=>cond (Nat.ble b.data.toList.length 1000000) (k (.string b) s) false
 | _,_,_=>false
theorem ext_one {P:Program} {f:FuncId} {g:List Value->St->K2->Bool} (hf:(fnOfP P f).isSome=true) (h:∀args s k,g args s k=true->∀ρ w us,R ρ s w->L2 ρ args us->Calls P f us.toArray w (fun e w'=>∃v u ρ' s',e=.returned u/\VR ρ' v u/\R ρ' s' w'/\Ext ρ s w ρ' s' w'/\k v s'=true)):CallOk P (fun f' args s k=>cond (Nat.beq f' f) (g args s k) false):=fun f' args s k hk=>by
 cases hq:Nat.beq f' f with
 | false=>simp only[hq]at hk;cases hk
 | true=>
  simp only[hq,cond_true]at hk;obtain rfl:=Nat.eq_of_beq_eq_true hq;exact⟨enters hf,h args s k hk⟩
theorem clone_ok {P:Program} {ren:Ren} (L:LaysM.n316 P ren) (hf:(fnOfP P (ren.f 316)).isSome=true):CallOk P (fun f' args s k=>cond (Nat.beq f' (ren.f 316)) (xClone args s k) false):=by
 refine ext_one hf fun args s k h ρ w us hR hl=>?_
 unfold xClone at h
 split at h
 ·rename_i b
  cases hq:Nat.ble b.data.toList.length 1000000 with
  | false=>rw[hq]at h;cases h
  | true=>
   rw[hq]at h;obtain⟨u,r,rfl,hv,hr⟩:=hl.inv;have:r=[]:=List.length_eq_zero_iff.1 hr.1;subst this;obtain rfl:u=.string b:=by rw[VR]at hv;exact hv
   have hbl:b.data.toList.length=b.size:=by cases b;rfl
   have hle:=Nat.le_of_ble_eq_true hq;refine(Any.stringslite_Clone L b w (by omega)).mono ?_;rintro e w' ⟨rfl,hb⟩;obtain⟨r1,r2⟩:=hR.grow hb;exact⟨.string b,_,ρ,s,rfl,by rw[VR],r1,r2,h⟩
 ·cases h
end Go.Proofs.YtdamlfkieecnjaaGreatDoor.Am
set_option linter.unusedSimpArgs false
namespace Go.Proofs.YtdamlfkieecnjaaGreatDoor.Am
open Go Go.RowKit Go.Shelf Go.Proofs
/- slices.Sorted over the keys of a map. -/
def insS (x:List UInt8):List (List UInt8)->List (List UInt8)
 | []=>[x]
 | y::r=>cond (Op.bytesLess y x) (y::insS x r) (x::y::r)
def sortS:List (List UInt8)->List (List UInt8)
 | []=>[]
 | x::r=>insS x (sortS r)
def keyStrs:List (Value×Value)->Option (List (List UInt8))
 | []=>some []
 | p::r=>match strOf p.1 with
  | some b=>match keyStrs r with
   | some l=>some (b::l)
   | none=>none
  | none=>none
def risesS:List (List UInt8)->Bool
 | x::y::r=>cond (Op.bytesLess x y) (risesS (y::r)) false
 | _=>true
def shortS:List (List UInt8)->Bool
 | []=>true
 | x::r=>cond (Nat.ble x.length 1000000) (shortS r) false
def xSorted2 (e:TypeId) (s:St) (k:K2) (l:List (List UInt8)):List (List UInt8)->Bool
 | []=>k (.slice none 0 0) s
 | x::r=>cond (risesS (x::r)&&(Nat.ble l.length 1000000&&shortS l)) (nSK k s e 1 l.length 0 (some ((x::r).map fun x=>.string ⟨⟨x⟩⟩))) false
def xSorted1 (e:TypeId) (s:St) (k:K2):Option (List (List UInt8))->Bool
 | some l=>xSorted2 e s k l (sortS l)
 | none=>false
def mapOf (s:St):Option Row->Option (List (Value×Value))
 | some r=>match r.cells with
  | [m]=>entries s m
  | _=>none
 | none=>none
def keysO:Option (List (Value×Value))->Option (List (List UInt8))
 | some es=>keyStrs es
 | none=>none
def xSorted (gs:List FuncId) (e:TypeId):List Value->St->K2->Bool
 | [.func (.func f) first cap],s,k=>match first.toList,cap.toList with
  | [],[.pointer (some a)]=>cond (hasN gs f&&Nat.beq a.off 0) (xSorted1 e s k (keysO (mapOf s (s.get a.block)))) false
  | _,_=>false
 | _,_,_=>false
end Go.Proofs.YtdamlfkieecnjaaGreatDoor.Am
set_option linter.unusedSimpArgs false
namespace Go.Proofs.YtdamlfkieecnjaaGreatDoor.Am
open Go Go.RowKit Go.Shelf Go.Proofs
/- slices.Sorted over slices.Values of a row of one string (beside the keys of a map). -/
end Go.Proofs.YtdamlfkieecnjaaGreatDoor.Am
set_option linter.unusedSimpArgs false
namespace Go.Proofs.YtdamlfkieecnjaaGreatDoor.Am
open Go Go.RowKit Go.Shelf Go.Proofs
/- errors.As of an error of the type te into a variable of that type (tp: the type of its address);errors.Is of such an error whose cell i holds the number asked for (tn: the number's type). -/
def asStore (te:TypeId) (s:St) (p:Addr) (b:Nat) (k:K2):Option Row->Bool
 | some r=>cond (Nat.beq r.elem te&&(Nat.beq r.cells.length 1&&Nat.beq r.sz 0)) (putRowK s b (some ⟨[.pointer (some p)],r.elem,r.sz⟩) fun s=>k (.bool true) s) false
 | none=>false
def xAs (te tp:TypeId):List Value->St->K2->Bool
 | [.iface t1 (.pointer (some p)),.iface t2 (.pointer (some b))],s,k=>cond (Nat.beq t1 te&&(Nat.beq t2 tp&&Nat.beq b.off 0)) (asStore te s p b.block k (s.get b.block)) false
 | _,_,_=>false
def isCell (i:Nat) (y:Int):Option Row->Bool
 | some r=>match r.cells[i]? with
  | some (.int .i64 z)=>decide (z=y)
  | _=>false
 | none=>false
def xIs (te tn:TypeId) (i:Nat):List Value->St->K2->Bool
 | [.iface t1 (.pointer (some b)),.iface t2 (.int .i64 y)],s,k=>cond (Nat.beq t1 te&&(Nat.beq t2 tn&&(Nat.beq b.off 0&&isCell i y (s.get b.block)))) (k (.bool true) s) false
 | _,_,_=>false
theorem ifc_ptr {ρ:Rho} {t:TypeId} {a:Addr} {u:Value} (h:VR ρ (.iface t (.pointer (some a))) u):∃x,ρ a.block=some x/\u=.iface t (.pointer (some ⟨x.1,a.off,none⟩)):=by
 rw[VR]at h;obtain⟨y,rfl,h⟩:=h;rw[VR]at h;obtain⟨b,⟨x,hx,rfl⟩,rfl⟩:=h;exact⟨x,hx,rfl⟩
theorem as_ok {P:Program} {f:FuncId} {te tp:TypeId} (hf:(fnOfP P f).isSome=true)
  (hA:∀(e:Addr) (rb:Nat) (old:Value) (w:World),GlobOk w->w.heap[rb]?=some (.cells #[old] te) ->
   Calls P f #[.iface te (.pointer (some e)),.iface tp (.pointer (some ⟨rb,0,none⟩))] w fun ev w'=>ev=.returned (.bool true)/\∃w1,Below w.heap.size w w1/\w'=w1.setCell ⟨rb,0,none⟩ (.pointer (some e))) :
  CallOk P (fun f' args s k=>cond (Nat.beq f' f) (xAs te tp args s k) false):=by
 refine ext_one hf fun args s k h ρ w us hR hl=>?_
 unfold xAs at h
 split at h
 case h_2=>cases h
 rename_i t1 p t2 b
 cases hq:(Nat.beq t1 te&&(Nat.beq t2 tp&&Nat.beq b.off 0))with
 | false=>rw[hq]at h;cases h
 | true=>
  rw[hq]at h;simp only[cond_true]at h;simp only[Bool.and_eq_true]at hq;obtain rfl:=Nat.eq_of_beq_eq_true hq.1;obtain rfl:=Nat.eq_of_beq_eq_true hq.2.1;have ho:b.off=0:=Nat.eq_of_beq_eq_true hq.2.2;unfold asStore at h
  split at h
  case h_2=>cases h
  rename_i r hr
  cases hq2:(Nat.beq r.elem t1&&(Nat.beq r.cells.length 1&&Nat.beq r.sz 0))with
  | false=>rw[hq2]at h;cases h
  | true=>
   rw[hq2]at h;simp only[cond_true]at h;simp only[Bool.and_eq_true]at hq2;have e1:r.elem=t1:=Nat.eq_of_beq_eq_true hq2.1;have e2:r.cells.length=1:=Nat.eq_of_beq_eq_true hq2.2.1;have e3:r.sz=0:=Nat.eq_of_beq_eq_true hq2.2.2;obtain⟨u,l,rfl,hv,hl⟩:=hl.inv;obtain⟨u2,l2,rfl,hv2,hl⟩:=hl.inv;obtain rfl:l2=[]:=List.length_eq_zero_iff.1 hl.1;obtain⟨x,hx,rfl⟩:=ifc_ptr hv;obtain⟨z,hz,rfl⟩:=ifc_ptr hv2;rw[ho];obtain⟨c,c1,c2,c3,c4,c5,c6,c7⟩:=hR.row hr hz;have hcs:c.size=1:=by rw[c2,<-c7 e3,e2]
   obtain⟨old,rfl⟩:∃old,c=#[old]:=by
    match c,hcs with
    | ⟨[y]⟩,_=>exact⟨y,rfl⟩
   rw[e1]at c1;refine(hA ⟨x.1,p.off,none⟩ z.1 old w hR.gl c1).mono ?_;rintro e w' ⟨rfl,w1,hb,rfl⟩;obtain⟨r1,r2⟩:=hR.grow hb;obtain⟨s',h1,h2,h3,h3m⟩:=putRowK_ok h;have c1':w1.heap[z.1]?=some (.cells #[old] r.elem):=by rw[hb.block _ (hR.lt _ _ hz),c1,e1]
   obtain⟨c',d1,d2,d3,d4,d5,d6,d7⟩:=setCells_heap [.pointer (some ⟨x.1,p.off,none⟩)] 0 w1 #[old] c1' (by simp);have hset:w1.setCells z.1 0 [.pointer (some ⟨x.1,p.off,none⟩)]=w1.setCell ⟨z.1,0,none⟩ (.pointer (some ⟨x.1,p.off,none⟩)):=rfl;rw[hset]at d1 d3 d4 d5 d6 d7;have hc':c'=#[.pointer (some ⟨x.1,p.off,none⟩)]:=by
    apply Array.toList_inj.1;rw[d2];rfl
   subst hc';have hp:VR ρ (.pointer (some p)) (.pointer (some ⟨x.1,p.off,none⟩)):=by rw[VR];exact⟨_,⟨x,hx,rfl⟩,rfl⟩
   obtain⟨q1,q2⟩:=r1.write (s':=s') (w':=w1.setCell ⟨z.1,0,none⟩ (.pointer (some ⟨x.1,p.off,none⟩))) (c:=#[.pointer (some ⟨x.1,p.off,none⟩)]) (cs:=[.pointer (some p)]) hr hz c6 h2 (fun m q hm=>by
     rcases h3 m q hm with⟨e,e'⟩|h4
     ·exact .inl ⟨e,(Option.some.inj e').symm⟩
     ·exact .inr h4) h3m d1 (by rw[d4];exact Nat.le_refl _) (fun j _ hj=>d3 j hj)
     ⟨rfl,fun j v hj=>by
      cases j with
      | zero=>obtain rfl:=Option.some.inj hj;exact⟨_,rfl,hp⟩
      | succ j=>simp at hj⟩
     (by simp) (by rw[<-c2];rfl) (fun v hv=>by
      obtain rfl:=List.mem_singleton.1 hv
      rfl) (fun _=>by rw[<-c2];rfl) d5 d6 d7 c1'
   exact⟨.bool true,_,ρ,s',rfl,by rw[VR],q1,r2.trans q2,h1⟩
theorem is_ok {P:Program} {f:FuncId} {te tn:TypeId} {i:Nat} (hf:(fnOfP P f).isSome=true)
  (hI:∀(b:Nat) (y:Int) (w:World),w.cell? ⟨b,i,none⟩=some (.int .i64 y) ->
   Calls P f #[.iface te (.pointer (some ⟨b,0,none⟩)),.iface tn (.int .i64 y)] w fun ev w'=>ev=.returned (.bool true)/\w=w') :
  CallOk P (fun f' args s k=>cond (Nat.beq f' f) (xIs te tn i args s k) false):=by
 refine ext_one hf fun args s k h ρ w us hR hl=>?_
 unfold xIs at h
 split at h
 case h_2=>cases h
 rename_i t1 b t2 y
 cases hq:(Nat.beq t1 te&&(Nat.beq t2 tn&&(Nat.beq b.off 0&&isCell i y (s.get b.block))))with
 | false=>rw[hq]at h;cases h
 | true=>
  rw[hq]at h;simp only[cond_true]at h;simp only[Bool.and_eq_true]at hq;obtain rfl:=Nat.eq_of_beq_eq_true hq.1;obtain rfl:=Nat.eq_of_beq_eq_true hq.2.1;have ho:b.off=0:=Nat.eq_of_beq_eq_true hq.2.2.1;have hc:=hq.2.2.2;unfold isCell at hc
  split at hc
  case h_2=>cases hc
  rename_i r hr
  split at hc
  case h_2=>cases hc
  rename_i z hz;obtain rfl:z=y:=of_decide_eq_true hc;obtain⟨u,l,rfl,hv,hl⟩:=hl.inv;obtain⟨u2,l2,rfl,hv2,hl⟩:=hl.inv;obtain rfl:l2=[]:=List.length_eq_zero_iff.1 hl.1;obtain⟨x,hx,rfl⟩:=ifc_ptr hv;obtain rfl:u2=.iface t2 (.int .i64 z):=by
   rw[VR]at hv2;obtain⟨y',rfl,h2⟩:=hv2;rw[VR]at h2;rw[h2]
  rw[ho];obtain⟨c,c1,c2,c3,c4,c5,c6,c7⟩:=hR.row hr hx;obtain⟨v,hv1,hv2⟩:=c4.2 i _ hz;rw[VR]at hv2;subst hv2;have hci:w.cell? ⟨x.1,i,none⟩=some (.int .i64 z):=by
   rw[cell_at_block c1,<-Array.getElem?_toList];rw[List.getElem?_take]at hv1
   split at hv1
   ·exact hv1
   ·cases hv1
  refine(hI x.1 z w hci).mono ?_;rintro e w' ⟨rfl,rfl⟩;exact⟨.bool true,_,ρ,s,rfl,by rw[VR],hR,Ext.refl _ _ _,h⟩
end Go.Proofs.YtdamlfkieecnjaaGreatDoor.Am
set_option linter.unusedSimpArgs false
namespace Go.Proofs.YtdamlfkieecnjaaGreatDoor.Am
open Go Go.RowKit Go.Shelf Go.Proofs
/- a function from a text to a new row of structs of sz cells (numbers,texts),and no error: lx says the row. -/
def selfVs:List Value->Bool
 | []=>true
 | .int _ _::r=>selfVs r
 | .string _::r=>selfVs r
 | _::_=>false
theorem selfVs_ok:∀(l:List Value),selfVs l=true->∀v∈l,one v=true/\∀ρ,VR ρ v v
 | [],_,v,hv=>by cases hv
 | .int k n::r,h,v,hv=>by
  rcases List.mem_cons.1 hv with rfl|hv
  ·exact⟨rfl,fun ρ=>by rw[VR]⟩
  ·exact selfVs_ok r (by simpa[selfVs]using h) v hv
 | .string s::r,h,v,hv=>by
  rcases List.mem_cons.1 hv with rfl|hv
  ·exact⟨rfl,fun ρ=>by rw[VR]⟩
  ·exact selfVs_ok r (by simpa[selfVs]using h) v hv
 | .bool _::_,h,_,_=>by simp[selfVs]at h
 | .float _ _::_,h,_,_=>by simp[selfVs]at h
 | .complex _ _ _::_,h,_,_=>by simp[selfVs]at h
 | .pointer _::_,h,_,_=>by simp[selfVs]at h
 | .slice _ _ _::_,h,_,_=>by simp[selfVs]at h
 | .map _::_,h,_,_=>by simp[selfVs]at h
 | .chan _::_,h,_,_=>by simp[selfVs]at h
 | .func _ _ _::_,h,_,_=>by simp[selfVs]at h
 | .nilFunc::_,h,_,_=>by simp[selfVs]at h
 | .iface _ _::_,h,_,_=>by simp[selfVs]at h
 | .nilIface::_,h,_,_=>by simp[selfVs]at h
 | .agg _::_,h,_,_=>by simp[selfVs]at h
 | .tuple _::_,h,_,_=>by simp[selfVs]at h
def xTok1 (e:TypeId) (sz:Nat) (s:St) (k:K2):Option (Nat×List Value)->Bool
 | some (n,cs)=>cond (Nat.beq n 0) (k (.tuple #[.slice none 0 0,.nilIface]) s) (cond (selfVs cs) (nSK (fun v s=>k (.tuple #[v,.nilIface]) s) s e sz n 0 (some cs)) false)
 | none=>false
def xTok (e:TypeId) (sz:Nat) (lx:List UInt8->Option (Nat×List Value)):List Value->St->K2->Bool
 | [.string b],s,k=>xTok1 e sz s k (lx b.data.toList)
 | _,_,_=>false
theorem tok_ok {P:Program} {f:FuncId} {e:TypeId} {sz:Nat} {lx:List UInt8->Option (Nat×List Value)} (hf:(fnOfP P f).isSome=true) (hsz:0<sz)
  (hT:∀(b:ByteArray) (n:Nat) (cs:List Value) (w:World),lx b.data.toList=some (n,cs)->Calls P f #[.string b] w fun ev w'=>Below w.heap.size w w'/\∃v,ev=.returned (.tuple #[v,.nilIface])/\w'.ownsRow w.heap.size e sz v n cs/\(n=0->v=.slice none 0 0)) :
  CallOk P (fun f' args s k=>cond (Nat.beq f' f) (xTok e sz lx args s k) false):=by
 refine ext_one hf fun args s k h ρ w us hR hl=>?_
 unfold xTok at h
 split at h
 case h_2=>cases h
 rename_i b;unfold xTok1 at h
 split at h
 case h_2=>cases h
 rename_i n cs hlx;obtain⟨u,r,rfl,hv,hr⟩:=hl.inv;obtain rfl:r=[]:=List.length_eq_zero_iff.1 hr.1;obtain rfl:u=.string b:=by rw[VR]at hv;exact hv
 cases hz:Nat.beq n 0 with
 | true=>
  rw[hz]at h;simp only[cond_true]at h;refine(hT b n cs w hlx).mono ?_;rintro ev w' ⟨hbel,v,rfl,_,hnil⟩;obtain rfl:=hnil (Nat.eq_of_beq_eq_true hz);obtain⟨r1,r2⟩:=hR.grow hbel;refine⟨.tuple #[.slice none 0 0,.nilIface],_,ρ,s,rfl,?_,r1,r2,h⟩;rw[VR];refine⟨_,rfl,rfl,fun i hi=>?_⟩
  match i,hi with
  | 0,_=>exact⟨.slice none 0 0,rfl,by show VR ρ (.slice none 0 0) _;rw[VR];exact⟨rfl,rfl⟩⟩
  | 1,_=>exact⟨.nilIface,rfl,by show VR ρ .nilIface _;rw[VR]⟩
 | false=>
 rw[hz]at h;simp only[cond_false]at h;have hn:0<n:=Nat.pos_of_ne_zero fun e=>by rw[e]at hz;exact absurd hz (by decide)
 cases hq:selfVs cs with
 | false=>rw[hq]at h;cases h
 | true=>
  rw[hq]at h;simp only[cond_true,nSK]at h;have hself:=selfVs_ok cs hq;refine(hT b n cs w hlx).mono ?_;rintro ev w' ⟨hbel,v,rfl,how,_⟩;obtain⟨v0,ρ',s',a1,a2,a3,a4⟩:=append_new (k:=fun v s=>k (.tuple #[v,.nilIface]) s) hR (s0:=s) rfl (fun _=>rfl) (fun _ _ h=>h) h how hn (by omega) ⟨hbel.os,hbel.tape,hbel.output,hbel.size,fun j hj _=>hbel.block j hj⟩
   ⟨rfl,fun i v hi=>⟨v,hi,(hself v (List.mem_of_getElem? hi)).2 _⟩⟩ (fun v hv=>(hself v hv).1)
  refine⟨.tuple #[v0,.nilIface],_,ρ',s',rfl,?_,a2,a3,a4⟩;rw[VR];refine⟨_,rfl,rfl,fun i hi=>?_⟩
  match i,hi with
  | 0,_=>exact⟨v,rfl,a1⟩
  | 1,_=>exact⟨.nilIface,rfl,by show VR ρ' .nilIface _;rw[VR]⟩
end Go.Proofs.YtdamlfkieecnjaaGreatDoor.Am
