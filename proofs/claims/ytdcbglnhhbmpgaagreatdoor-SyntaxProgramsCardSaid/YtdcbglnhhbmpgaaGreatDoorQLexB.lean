import Derived.Test.YtdcbglnhhbmpgaaGreatDoorQLexA
import Derived.Shelf.Strings.Builder1
import Derived.RangeFuncNested
import Derived.RangeFuncLeaves
import Derived.RangeFuncCalls
import Derived.RangeFuncBound
import Derived.Shelf.Abstract
import Derived.OwnWalkIn
import Derived.TacticsInMore
import Derived.LoopNIn
import Derived.LoopIn
import Derived.Maps.AppendAt
import Derived.Deep.QuietTactic
import Derived.BigQuiet
import Derived.Laws.StructEq
import Derived.RegionTactic
set_option maxHeartbeats 2000000
set_option maxRecDepth 100000
namespace Go.Proofs.YtdcbglnhhbmpgaaGreatDoor
open Go Go.RowKit Go.Shelf Go.Proofs
def ren:Ren where
 f:=fun
  | 240=>144
  | 276=>169
  | 167=>105
  | 166=>145
  | n=>n
 t:=fun
  | 0=>0
  | 3=>3
  | 4=>4
  | 5=>5
  | 9=>9
  | 20=>20
  | 37=>120
  | 70=>150
  | 72=>152
  | 75=>154
  | 80=>158
  | 164=>194
  | n=>n
 g:=fun n=>n
theorem lays167:Lays.n167 Tryz.prog ren where
 mixed:=by kernel_rfl
 f167:=by kernel_rfl
 f240:=by kernel_rfl
 f276:=by kernel_rfl
 t0:=Tryz.underlying0
 a0:=Tryz.isAgg0
 z0:=Tryz.sizeOf0
 v0:=Tryz.zeroValue0
 t4:=Tryz.underlying4
 a4:=Tryz.isAgg4
 z4:=Tryz.sizeOf4
 v4:=Tryz.zeroValue4
 t5:=Tryz.underlying5
 a5:=Tryz.isAgg5
 z5:=Tryz.sizeOf5
 v5:=Tryz.zeroValue5
 t9:=Tryz.underlying9
 a9:=Tryz.isAgg9
 z9:=Tryz.sizeOf9
 v9:=Tryz.zeroValue9
 t20:=Tryz.underlying20
 a20:=Tryz.isAgg20
 z20:=Tryz.sizeOf20
 v20:=Tryz.zeroValue20
 t37:=Tryz.underlying120
 a37:=Tryz.isAgg120
 z37:=Tryz.sizeOf120
 v37:=Tryz.zeroValue120
 t70:=Tryz.underlying150
 a70:=Tryz.isAgg150
 z70:=Tryz.sizeOf150
 v70:=Tryz.zeroValue150
 t72:=Tryz.underlying152
 a72:=Tryz.isAgg152
 z72:=Tryz.sizeOf152
 v72:=Tryz.zeroValue152
 t75:=Tryz.underlying154
 a75:=Tryz.isAgg154
 z75:=Tryz.sizeOf154
 v75:=Tryz.zeroValue154
 t164:=Tryz.underlying194
 a164:=Tryz.isAgg194
 z164:=Tryz.sizeOf194
 v164:=Tryz.zeroValue194
theorem lays166:Lays.n166 Tryz.prog ren where
 mixed:=by kernel_rfl
 f166:=by kernel_rfl
 f240:=by kernel_rfl
 f276:=by kernel_rfl
 t0:=Tryz.underlying0
 a0:=Tryz.isAgg0
 z0:=Tryz.sizeOf0
 v0:=Tryz.zeroValue0
 t3:=Tryz.underlying3
 a3:=Tryz.isAgg3
 z3:=Tryz.sizeOf3
 v3:=Tryz.zeroValue3
 t4:=Tryz.underlying4
 a4:=Tryz.isAgg4
 z4:=Tryz.sizeOf4
 v4:=Tryz.zeroValue4
 t9:=Tryz.underlying9
 a9:=Tryz.isAgg9
 z9:=Tryz.sizeOf9
 v9:=Tryz.zeroValue9
 t20:=Tryz.underlying20
 a20:=Tryz.isAgg20
 z20:=Tryz.sizeOf20
 v20:=Tryz.zeroValue20
 t37:=Tryz.underlying120
 a37:=Tryz.isAgg120
 z37:=Tryz.sizeOf120
 v37:=Tryz.zeroValue120
 t70:=Tryz.underlying150
 a70:=Tryz.isAgg150
 z70:=Tryz.sizeOf150
 v70:=Tryz.zeroValue150
 t72:=Tryz.underlying152
 a72:=Tryz.isAgg152
 z72:=Tryz.sizeOf152
 v72:=Tryz.zeroValue152
 t75:=Tryz.underlying154
 a75:=Tryz.isAgg154
 z75:=Tryz.sizeOf154
 v75:=Tryz.zeroValue154
 t164:=Tryz.underlying194
 a164:=Tryz.isAgg194
 z164:=Tryz.sizeOf194
 v164:=Tryz.zeroValue194
theorem extra:Builder.Extra Tryz.prog ren where
 sizeBuilder:=by kernel_rfl
 liesBuilder:=by kernel_rfl
 t5:=Tryz.underlying5
 a5:=Tryz.isAgg5
 z5:=Tryz.sizeOf5
 v5:=Tryz.zeroValue5
 infoByte:=by kernel_rfl
 cellsByte:=by kernel_rfl
 sizeByte:=by kernel_rfl
 neB5:=by decide
abbrev IsB (B b:Nat) (bs:List Value) (w:Zw):Prop:=Lib.IsBuilder 152 5 B b bs w
theorem ziu (B b:Nat) (bs:List Value) (c:Int) (w:Zw) (h:IsB B b bs w) (hlen:bs.length+1<=140737488355328) (g:B<=w.heap.size) :
  Zg 105 #[.pointer (Zs b 0),.int .u8 c] w fun e w'=>e=.returned .nilIface/\IsB B b (bs++[.int .u8 c]) w'/\Below B w w':=
 (Any.Builder_WriteByte lays167 extra B b bs c w h hlen g).mono fun _ _ h=>⟨h.1,.inr h.2.1,h.2.2⟩
open Go.RowKit Lx
theorem textF_nil (i:Nat) (acc:Bs):textF [] i acc=.inl i:=rfl
theorem zmr (r:Bs) (i:Nat) (acc:Bs):textF (34::r) i acc=.inr (acc,i+1):=by cases r <;> simp[textF]
theorem textF_end (i:Nat) (acc:Bs):textF [92] i acc=.inl (i+1):=by simp[textF]
theorem textF_esc (d:UInt8) (r:Bs) (i:Nat) (acc:Bs) (h:zfm (d.toNat:Int)=true):textF (92::d::r) i acc=textF r (i+2) (acc++[(escB (d.toNat:Int)).toNat.toUInt8]):=by simp[textF,h]
theorem zlj (d:UInt8) (r:Bs) (i:Nat) (acc:Bs) (h:zfm (d.toNat:Int)=false):textF (92::d::r) i acc=.inl (i+1):=by simp[textF,h]
theorem zl7 (c:UInt8) (r:Bs) (i:Nat) (acc:Bs) (g:c≠34) (j:c≠92) (h:zbf (c.toNat:Int)=true):textF (c::r) i acc=textF r (i+1) (acc++[c]):=by cases r <;> simp[textF,g,j,h]
theorem zif (c:UInt8) (r:Bs) (i:Nat) (acc:Bs) (g:c≠34) (j:c≠92) (h:zbf (c.toNat:Int)=false):textF (c::r) i acc=.inl i:=by cases r <;> simp[textF,g,j,h]
theorem zbm {c:UInt8} {n:Nat} (g:n<256) (h:(c.toNat:Int)=n):c=n.toUInt8:=by
 apply UInt8.toNat_inj.1;simp;omega
theorem escB_byte (d:Int):(((escB d).toNat.toUInt8).toNat:Int)=escB d:=by
 unfold escB;repeat' split
 all_goals rfl
theorem zc0 (acc:Bs) (c:UInt8):Lib.byteCells (acc++[c])=Lib.byteCells acc++[.int .u8 (c.toNat:Int)]:=by simp[Lib.byteCells]
theorem cells_esc (acc:Bs) (d:Int):Lib.byteCells (acc++[(escB d).toNat.toUInt8])=Lib.byteCells acc++[.int .u8 (escB d)]:=by rw[zc0,escB_byte]
theorem zgx {l:Bs} {o:Nat} (h:textF l.tail 1 []=.inl o):JX l=.inl (o,12):=by rw[JX,h]
theorem cutText_yes {l:Bs} {s:Bs} {n:Nat} (h:textF l.tail 1 []=.inr (s,n)):JX l=.inr (5,s,0,n):=by rw[JX,h]
theorem zhi (b:Int) (w:Zw):Zg 168 #[.int .u8 b] w fun e w'=>e=.returned (.bool (zbf b))/\w=w':=(plain_any b w).mono fun _ _ h=>⟨h.1,h.2.symm⟩
theorem escaped_w (b:Int) (w:Zw):Zg 188 #[.int .u8 b] w fun e w'=>e=.returned (.tuple #[.int .u8 (escB b),.bool (zfm b)])/\w=w':=(escaped_any b w).mono fun _ _ h=>⟨h.1,h.2.symm⟩
theorem size4 (wr:Zw) (b:Nat) (v0 v1 v2 v3:Value):((((wr.setCell ⟨b,0,none⟩ v0).setCell ⟨b,1,none⟩ v1).setCell ⟨b,2,none⟩ v2).setCell ⟨b,3,none⟩ v3).heap.size=wr.heap.size:=by simp
theorem zgq (wr:Zw) (b:Nat) (v0 v1 v2 v3:Value) (o:Obj):(((((wr.setCell ⟨b,0,none⟩ v0).setCell ⟨b,1,none⟩ v1).setCell ⟨b,2,none⟩ v2).setCell ⟨b,3,none⟩ v3).alloc o).heap[wr.heap.size]?=some o:=by
 have:=Jm ((((wr.setCell ⟨b,0,none⟩ v0).setCell ⟨b,1,none⟩ v1).setCell ⟨b,2,none⟩ v2).setCell ⟨b,3,none⟩ v3) o;rwa[size4]at this
theorem cutText_any (s:Zy) (a:Nat) (w:Zw) (h1:a<s.size) (hs:s.size<=140737488355328) :
  Zg 179 #[.string s,Zi a] w fun e w'=>zb5 w a (JX (s.data.toList.drop a)) e w':=by
 go_enter Tryz.func179,Tryz.ntmps179;go_wp2
 go_loopw [8] (fun i wr=>∃(k:Nat) (acc:Bs),a+1<=k/\k<=s.size/\i=Zi k/\acc.length<=k/\ZH (textF (s.data.toList.drop (a+1)) 1 []=textF (s.data.toList.drop k) (k-a) acc) /\
   IsB (w.heap.size+1) (w.heap.size+1) (Lib.byteCells acc) wr/\Below (w.heap.size+1) ((w.alloc (.cells #[Zi 0,Zi 0,.string ⟨#[]⟩,Zi 0] 112)).alloc (.cells #[.pointer none,Zz] 152)) wr) (fun i _=>s.size-(intOf i).toNat)
 case atStart=>
  refine⟨a+1,[],by omega,by omega,by go_num,by simp,by show _=_;congr 1;omega,?_,Zr⟩;have:=Lib.fresh_isBuilder 152 5 (w.alloc (.cells #[Zi 0,Zi 0,.string ⟨#[]⟩,Zi 0] 112));simpa[Lib.byteCells]using this
 case round=>
  obtain⟨k,acc,ak,al,rfl,am,c,HB,x⟩:=hrel;have ad:=x.size;simp only[World.size_alloc]at ad;have J:w.heap.size<wr.heap.size:=by omega
  have L:∀o,wr.cell? ⟨w.heap.size,o,none⟩=(w.alloc (.cells #[Zi 0,Zi 0,.string ⟨#[]⟩,Zi 0] 112)).cell? ⟨w.heap.size,o,none⟩:=fun o=>
   (x.cell (p:=⟨w.heap.size,o,none⟩) (XB _)).trans (Yl _ _ _ (by simp))
  have M:wr.cell? ⟨w.heap.size,0,none⟩=some (Zi 0):=(L 0).trans (by simp);have U:wr.cell? ⟨w.heap.size,1,none⟩=some (Zi 0):=(L 1).trans (by simp);have V:wr.cell? ⟨w.heap.size,2,none⟩=some (.string ⟨#[]⟩):=(L 2).trans (by simp);have Y:wr.cell? ⟨w.heap.size,3,none⟩=some (Zi 0):=(L 3).trans (by simp);have hf:∀o,wr.frozen? ⟨w.heap.size,o,none⟩=false:=fun o=>
   (x.frozen (p:=⟨w.heap.size,o,none⟩) (XB _)).trans (by simp)
  clear L;have Z:ZB w wr:=(zfx w _ _).trans (x.mono (by omega));by_cases ae:k<s.size
  ·have hd:=drop_cons s k ae;by_cases j:(s[k].toNat:Int)=34
   ·have r:ZH (JX (s.data.toList.drop a)=.inr (5,acc,0,k-a+1)):=by
     have e:=J0 c;rw[hd,zbm (by decide) j]at e;exact cutText_yes (by rw[tail_drop];exact e.trans (zmr _ _ _))
    have hq:((s[k].toNat:Int) != 34)=false:=by simp[j]
    have heq:((k:Int)==(s.size:Int))=false:=by simp;omega
    clear j hd c;have BS:ZH (∀hx,_):=fun hx=>Tryz.Builder_String_any (w.heap.size+1) (w.heap.size+1) acc wr HB hx
    go_wp2_with (first|(go_at_call 108;go_fit (BS (by omega));rintro e w1 ⟨rfl,g⟩;have an:w.heap.size<w1.heap.size:=Yz J g.size;have af:=(g.cell (p:=⟨w.heap.size,0,none⟩) (XB _)).trans M;have G:=(g.cell (p:=⟨w.heap.size,1,none⟩) (XB _)).trans U;have ag:=(g.cell (p:=⟨w.heap.size,2,none⟩) (XB _)).trans V;have ah:=(g.cell (p:=⟨w.heap.size,3,none⟩) (XB _)).trans Y;have ao:∀o,w1.frozen? ⟨w.heap.size,o,none⟩=false:=fun o=>(g.frozen (p:=⟨w.heap.size,o,none⟩) (XB _)).trans (hf o)));exact Yi (v:=.tuple #[.agg #[Zi a,Zi 5,.string ⟨acc.toArray⟩,Zi 0],Zi (k+1),.pointer none]) (by simp[results,Tryz.results179,go_sem,af,G,ag,ah]) rfl (zcr r (zcj (Z.trans (g.mono (by omega))) (Y5 _) _ _ _ _) rfl (by omega))
   ·have hq:((s[k].toNat:Int) != 34)=true:=by simpa using j
    have u:s[k]≠34:=fun h=>j (by rw[h];rfl)
    by_cases t:(s[k].toNat:Int)=92
    ·have hx:((s[k].toNat:Int)==92)=true:=by simp[t]
     have I:s[k]=92:=zbm (n:=92) (by decide) t;by_cases ai:k+1<s.size
     ·have aj:((k:Int)+1==(s.size:Int))=false:=by simp;omega
      have G:=drop_cons s (k+1) ai;by_cases aa:zfm (s[k+1].toNat:Int)=true
      ·have HT:ZH (textF (s.data.toList.drop (a+1)) 1 []=textF (s.data.toList.drop (k+1+1)) (k-a+2) (acc++[(escB (s[k+1].toNat:Int)).toNat.toUInt8])):=by
        have e:=J0 c;rw[hd,I,G]at e;exact e.trans (textF_esc _ _ _ _ aa)
       clear j t hd G I u c;go_wp2_with (first|(go_at_call 168;refine(zhi _ _).mono ?_;rintro e w' ⟨rfl,rfl⟩)|(go_at_call 188;refine(escaped_w _ _).mono ?_;rintro e w' ⟨rfl,rfl⟩)|(go_at_call 105;refine(ziu _ _ _ _ _ HB (by rw[XE];omega) (by omega)).mono ?_;rintro e w1 ⟨rfl,ac,g⟩));go_roundw
       case rel=>exact⟨k+1+1,acc++[(escB (s[k+1].toNat:Int)).toNat.toUInt8],by omega,by omega,by go_num,by simp;omega,by have e:=J0 HT;rw[show k-a+2=k+1+1-a from by omega]at e;exact e,by rw[cells_esc];exact ac,x.trans g⟩
       case measure=>simp[intOf];omega
      ·have aa:zfm (s[k+1].toNat:Int)=false:=(Yb _).mp aa;have r:ZH (JX (s.data.toList.drop a)=.inl (k-a+1,12)):=by
        have e:=J0 c;rw[hd,I,G]at e;exact zgx (by rw[tail_drop];exact e.trans (zlj _ _ _ _ aa))
       clear j t hd G I u c;go_wp2_with (first|(go_at_call 168;refine(zhi _ _).mono ?_;rintro e w' ⟨rfl,rfl⟩)|(go_at_call 188;refine(escaped_w _ _).mono ?_;rintro e w' ⟨rfl,rfl⟩)|(go_at_call 187;refine(zcf _ _ _).mono ?_;rintro e w' ⟨rfl,rfl⟩));exact Yi (v:=.tuple #[.agg #[Zi 0,Zi 0,.string ⟨#[]⟩,Zi 0],Zi 0,.pointer (Zs wr.heap.size 0)]) (by simp[results,Tryz.results179,go_sem,M,U,V,Y,J]) rfl (zdm r ((zcj Z (Y5 _) _ _ _ _).alloc (by rw[size4];omega) _) (by omega) ((zgq _ _ _ _ _ _ _).trans (by rw[show a+(k-a+1)=k+1 from by omega];rfl)))
     ·have aj:((k:Int)+1==(s.size:Int))=true:=by simp;omega
      have r:ZH (JX (s.data.toList.drop a)=.inl (k-a+1,12)):=by
       have e:=J0 c;rw[hd,I,Yg (i:=k+1) (by simp;omega)]at e;exact zgx (by rw[tail_drop];exact e.trans (textF_end _ _))
      clear j t hd I u c;go_wp2_with (first|(go_at_call 168;refine(zhi _ _).mono ?_;rintro e w' ⟨rfl,rfl⟩)|(go_at_call 187;refine(zcf _ _ _).mono ?_;rintro e w' ⟨rfl,rfl⟩));exact Yi (v:=.tuple #[.agg #[Zi 0,Zi 0,.string ⟨#[]⟩,Zi 0],Zi 0,.pointer (Zs wr.heap.size 0)]) (by simp[results,Tryz.results179,go_sem,M,U,V,Y,J]) rfl (zdm r ((zcj Z (Y5 _) _ _ _ _).alloc (by rw[size4];omega) _) (by omega) ((zgq _ _ _ _ _ _ _).trans (by rw[show a+(k-a+1)=k+1 from by omega];rfl)))
    ·have hx:((s[k].toNat:Int)==92)=false:=by simpa using t
     have ab:s[k]≠92:=fun h=>t (by rw[h];rfl)
     by_cases hp:zbf (s[k].toNat:Int)=true
     ·have HT:ZH (textF (s.data.toList.drop (a+1)) 1 []=textF (s.data.toList.drop (k+1)) (k-a+1) (acc++[s[k]])):=by
       have e:=J0 c;rw[hd]at e;exact e.trans (zl7 _ _ _ _ u ab hp)
      clear j t hd u ab c;go_wp2_with (first|(go_at_call 168;refine(zhi _ _).mono ?_;rintro e w' ⟨rfl,rfl⟩)|(go_at_call 105;refine(ziu _ _ _ _ _ HB (by rw[XE];omega) (by omega)).mono ?_;rintro e w1 ⟨rfl,ac,g⟩));go_roundw
      case rel=>exact⟨k+1,acc++[s[k]],by omega,by omega,by go_num,by simp;omega,by have e:=J0 HT;rw[show k-a+1=k+1-a from by omega]at e;exact e,by rw[zc0];exact ac,x.trans g⟩
      case measure=>simp[intOf];omega
     ·have hp:zbf (s[k].toNat:Int)=false:=(Yb _).mp hp;have r:ZH (JX (s.data.toList.drop a)=.inl (k-a,12)):=by
       have e:=J0 c;rw[hd]at e;exact zgx (by rw[tail_drop];exact e.trans (zif _ _ _ _ u ab hp))
      clear j t hd u ab c;go_wp2_with (first|(go_at_call 168;refine(zhi _ _).mono ?_;rintro e w' ⟨rfl,rfl⟩)|(go_at_call 187;refine(zcf _ _ _).mono ?_;rintro e w' ⟨rfl,rfl⟩));exact Yi (v:=.tuple #[.agg #[Zi 0,Zi 0,.string ⟨#[]⟩,Zi 0],Zi 0,.pointer (Zs wr.heap.size 0)]) (by simp[results,Tryz.results179,go_sem,M,U,V,Y,J]) rfl (zdm r ((zcj Z (Y5 _) _ _ _ _).alloc (by rw[size4];omega) _) (by omega) ((zgq _ _ _ _ _ _ _).trans (by rw[show a+(k-a)=k from by omega];rfl)))
  ·have r:ZH (JX (s.data.toList.drop a)=.inl (k-a,12)):=by
    have e:=J0 c;rw[Yg (i:=k) (by simp;omega),textF_nil]at e;exact zgx (by rw[tail_drop];exact e)
   have heq:((k:Int)==(s.size:Int))=true:=by simp;omega
   clear c;go_wp2_with (first|(go_at_call 187;refine(zcf _ _ _).mono ?_;rintro e w' ⟨rfl,rfl⟩));exact Yi (v:=.tuple #[.agg #[Zi 0,Zi 0,.string ⟨#[]⟩,Zi 0],Zi 0,.pointer (Zs wr.heap.size 0)]) (by simp[results,Tryz.results179,go_sem,M,U,V,Y,J]) rfl (zdm r ((zcj Z (Y5 _) _ _ _ _).alloc (by rw[size4];omega) _) (by omega) ((zgq _ _ _ _ _ _ _).trans (by rw[show a+(k-a)=k from by omega];rfl)))
theorem heap4 (wr:Zw) (b:Nat) (v0 v1 v2 v3:Value) (g:Nat) (h:g≠b):((((wr.setCell ⟨b,0,none⟩ v0).setCell ⟨b,1,none⟩ v1).setCell ⟨b,2,none⟩ v2).setCell ⟨b,3,none⟩ v3).heap[g]?=wr.heap[g]?:=by
 rw[XC _ _ _ _ h,XC _ _ _ _ h,XC _ _ _ _ h,XC _ _ _ _ h]
theorem byte_bd (c:UInt8):0<=(c.toNat:Int)/\(c.toNat:Int)<256:=⟨by omega,by have:=c.toNat_lt;omega⟩
theorem cut_any (s:Zy) (a:Nat) (w:Zw) (V:a<s.size) (Z:s.size<=140737488355328) :
  Zg 167 #[.string s,Zi a] w fun e w'=>zb5 w a (cut (s.data.toList.drop a)) e w':=by
 have u:=hd_at s a V;obtain⟨I,J⟩:=byte_bd s[a];by_cases L:Jl (s[a].toNat:Int)=true
 ·have g:cut (s.data.toList.drop a)=Jz (s.data.toList.drop a):=by rw[cut,u,Ye L]
  have h:ZH (∀W,Zg 178 #[.string s,Zi a] W fun e w'=>zb5 W a (Jz (s.data.toList.drop a)) e w'):=fun W=>cutNumber_any s a W V (by omega) L
  rcases hcut:Jz (s.data.toList.drop a)with⟨o,y⟩|⟨k,S,v,n⟩
  ·have j:=J3 (g.trans hcut);have r:ZH (∀W,Zg 178 #[.string s,Zi a] W fun e w'=>zb5 W a (.inl (o,y)) e w'):=by rw[<-hcut];exact h
   clear h hcut g u I J;go_enter Tryz.func167,Tryz.ntmps167;go_wp2_with (first|(go_at_call 176;refine(JY _ _).mono ?_;rintro e w' ⟨rfl,rfl⟩)|(go_at_call 178;go_fit (r _);rintro e w1 ⟨c,b,rfl,x,M⟩;obtain⟨t,U⟩:=zbz c));exact Yi (v:=.tuple #[.agg #[Zi 0,Zi 0,.string ⟨#[]⟩,Zi 0],Zi 0,.pointer (Zs b 0)]) (by simp[results,Tryz.results167,go_sem,t]) rfl (zdm j (zcj ((Za _ _).trans (c.mono (by simp))) (Y5 _) _ _ _ _) (by simp at x;omega) (by rw[heap4 _ _ _ _ _ _ _ (by simp at x;omega)];exact M))
  ·have j:=J3 (g.trans hcut);have r:ZH (∀W,Zg 178 #[.string s,Zi a] W fun e w'=>zb5 W a (.inr (k,S,v,n)) e w'):=by rw[<-hcut];exact h
   clear h hcut g u I J;go_enter Tryz.func167,Tryz.ntmps167;go_wp2_with (first|(go_at_call 176;refine(JY _ _).mono ?_;rintro e w' ⟨rfl,rfl⟩)|(go_at_call 178;go_fit (r _);rintro e w1 ⟨c,rfl⟩;obtain⟨t,U⟩:=zbz c));exact Yi (v:=.tuple #[.agg #[Zi a,Zi k,.string ⟨S.toArray⟩,Zi v],Zi ((a+n:Nat):Int),.pointer none]) (by simp[results,Tryz.results167,go_sem,t]) rfl (zcr j (zcj ((Za _ _).trans (c.mono (by simp))) (Y5 _) _ _ _ _) rfl rfl)
 ·have L:Jl (s[a].toNat:Int)=false:=(Yb _).mp L;by_cases G:(s[a].toNat:Int)=34
  ·have g:cut (s.data.toList.drop a)=JX (s.data.toList.drop a):=by rw[cut,u,L,Y7 (by decide),Ye G]
   have hq:((s[a].toNat:Int)==34)=true:=by simp[G]
   have h:ZH (∀W,Zg 179 #[.string s,Zi a] W fun e w'=>zb5 W a (JX (s.data.toList.drop a)) e w'):=fun W=>cutText_any s a W V Z
   rcases hcut:JX (s.data.toList.drop a)with⟨o,y⟩|⟨k,S,v,n⟩
   ·have j:=J3 (g.trans hcut);have r:ZH (∀W,Zg 179 #[.string s,Zi a] W fun e w'=>zb5 W a (.inl (o,y)) e w'):=by rw[<-hcut];exact h
    clear h hcut g u I J G;go_enter Tryz.func167,Tryz.ntmps167;go_wp2_with (first|(go_at_call 176;refine(JY _ _).mono ?_;rintro e w' ⟨rfl,rfl⟩)|(go_at_call 179;go_fit (r _);rintro e w1 ⟨c,b,rfl,x,M⟩;obtain⟨t,U⟩:=zbz c));exact Yi (v:=.tuple #[.agg #[Zi 0,Zi 0,.string ⟨#[]⟩,Zi 0],Zi 0,.pointer (Zs b 0)]) (by simp[results,Tryz.results167,go_sem,t]) rfl (zdm j (zcj ((Za _ _).trans (c.mono (by simp))) (Y5 _) _ _ _ _) (by simp at x;omega) (by rw[heap4 _ _ _ _ _ _ _ (by simp at x;omega)];exact M))
   ·have j:=J3 (g.trans hcut);have r:ZH (∀W,Zg 179 #[.string s,Zi a] W fun e w'=>zb5 W a (.inr (k,S,v,n)) e w'):=by rw[<-hcut];exact h
    clear h hcut g u I J G;go_enter Tryz.func167,Tryz.ntmps167;go_wp2_with (first|(go_at_call 176;refine(JY _ _).mono ?_;rintro e w' ⟨rfl,rfl⟩)|(go_at_call 179;go_fit (r _);rintro e w1 ⟨c,rfl⟩;obtain⟨t,U⟩:=zbz c));exact Yi (v:=.tuple #[.agg #[Zi a,Zi k,.string ⟨S.toArray⟩,Zi v],Zi ((a+n:Nat):Int),.pointer none]) (by simp[results,Tryz.results167,go_sem,t]) rfl (zcr j (zcj ((Za _ _).trans (c.mono (by simp))) (Y5 _) _ _ _ _) rfl rfl)
  ·have hq:((s[a].toNat:Int)==34)=false:=by simpa using G
   by_cases Y:zek (s[a].toNat:Int)=true
   ·have g:cut (s.data.toList.drop a)=zaw (s.data.toList.drop a):=by rw[cut,u,L,Y7 (by decide),Y7 G,Ye Y]
    have h:ZH (∀W,Zg 180 #[.string s,Zi a] W fun e w'=>zb5 W a (zaw (s.data.toList.drop a)) e w'):=fun W=>cutSign_any s a W V (by omega)
    rcases hcut:zaw (s.data.toList.drop a)with⟨o,y⟩|⟨k,S,v,n⟩
    ·have j:=J3 (g.trans hcut);have r:ZH (∀W,Zg 180 #[.string s,Zi a] W fun e w'=>zb5 W a (.inl (o,y)) e w'):=by rw[<-hcut];exact h
     clear h hcut g u G;go_enter Tryz.func167,Tryz.ntmps167;go_wp2_with (first|(go_at_call 176;refine(JY _ _).mono ?_;rintro e w' ⟨rfl,rfl⟩)|(go_at_call 177;refine(zf3 _ _ I J).mono ?_;rintro e w' ⟨rfl,rfl⟩)|(go_at_call 180;go_fit (r _);rintro e w1 ⟨c,b,rfl,x,M⟩;obtain⟨t,U⟩:=zbz c));exact Yi (v:=.tuple #[.agg #[Zi 0,Zi 0,.string ⟨#[]⟩,Zi 0],Zi 0,.pointer (Zs b 0)]) (by simp[results,Tryz.results167,go_sem,t]) rfl (zdm j (zcj ((Za _ _).trans (c.mono (by simp))) (Y5 _) _ _ _ _) (by simp at x;omega) (by rw[heap4 _ _ _ _ _ _ _ (by simp at x;omega)];exact M))
    ·have j:=J3 (g.trans hcut);have r:ZH (∀W,Zg 180 #[.string s,Zi a] W fun e w'=>zb5 W a (.inr (k,S,v,n)) e w'):=by rw[<-hcut];exact h
     clear h hcut g u G;go_enter Tryz.func167,Tryz.ntmps167;go_wp2_with (first|(go_at_call 176;refine(JY _ _).mono ?_;rintro e w' ⟨rfl,rfl⟩)|(go_at_call 177;refine(zf3 _ _ I J).mono ?_;rintro e w' ⟨rfl,rfl⟩)|(go_at_call 180;go_fit (r _);rintro e w1 ⟨c,rfl⟩;obtain⟨t,U⟩:=zbz c));exact Yi (v:=.tuple #[.agg #[Zi a,Zi k,.string ⟨S.toArray⟩,Zi v],Zi ((a+n:Nat):Int),.pointer none]) (by simp[results,Tryz.results167,go_sem,t]) rfl (zcr j (zcj ((Za _ _).trans (c.mono (by simp))) (Y5 _) _ _ _ _) rfl rfl)
   ·have Y:zek (s[a].toNat:Int)=false:=(Yb _).mp Y;have g:cut (s.data.toList.drop a)=zau (s.data.toList.drop a):=by rw[cut,u,L,Y7 (by decide),Y7 G,Y];rfl
    have h:ZH (∀W,Zg 181 #[.string s,Zi a] W fun e w'=>zb5 W a (zau (s.data.toList.drop a)) e w'):=fun W=>cutName_any s a W V (by omega)
    rcases hcut:zau (s.data.toList.drop a)with⟨o,y⟩|⟨k,S,v,n⟩
    ·have j:=J3 (g.trans hcut);have r:ZH (∀W,Zg 181 #[.string s,Zi a] W fun e w'=>zb5 W a (.inl (o,y)) e w'):=by rw[<-hcut];exact h
     clear h hcut g u G;go_enter Tryz.func167,Tryz.ntmps167;go_wp2_with (first|(go_at_call 176;refine(JY _ _).mono ?_;rintro e w' ⟨rfl,rfl⟩)|(go_at_call 177;refine(zf3 _ _ I J).mono ?_;rintro e w' ⟨rfl,rfl⟩)|(go_at_call 181;go_fit (r _);rintro e w1 ⟨c,b,rfl,x,M⟩;obtain⟨t,U⟩:=zbz c));exact Yi (v:=.tuple #[.agg #[Zi 0,Zi 0,.string ⟨#[]⟩,Zi 0],Zi 0,.pointer (Zs b 0)]) (by simp[results,Tryz.results167,go_sem,t]) rfl (zdm j (zcj ((Za _ _).trans (c.mono (by simp))) (Y5 _) _ _ _ _) (by simp at x;omega) (by rw[heap4 _ _ _ _ _ _ _ (by simp at x;omega)];exact M))
    ·have j:=J3 (g.trans hcut);have r:ZH (∀W,Zg 181 #[.string s,Zi a] W fun e w'=>zb5 W a (.inr (k,S,v,n)) e w'):=by rw[<-hcut];exact h
     clear h hcut g u G;go_enter Tryz.func167,Tryz.ntmps167;go_wp2_with (first|(go_at_call 176;refine(JY _ _).mono ?_;rintro e w' ⟨rfl,rfl⟩)|(go_at_call 177;refine(zf3 _ _ I J).mono ?_;rintro e w' ⟨rfl,rfl⟩)|(go_at_call 181;go_fit (r _);rintro e w1 ⟨c,rfl⟩;obtain⟨t,U⟩:=zbz c));exact Yi (v:=.tuple #[.agg #[Zi a,Zi k,.string ⟨S.toArray⟩,Zi v],Zi ((a+n:Nat):Int),.pointer none]) (by simp[results,Tryz.results167,go_sem,t]) rfl (zcr j (zcj ((Za _ _).trans (c.mono (by simp))) (Y5 _) _ _ _ _) rfl rfl)
namespace Lx
theorem zlm:∀(f:Nat) (l:Bs),l.length<=f->∀(i:Nat) (acc s:Bs) (n:Nat),textF l i acc=.inr (s,n)->i<n/\n<=i+l.length
 | _,[],_,i,acc,s,n,h=>by simp[textF]at h
 | 0,c::r,t,_,_,_,_,_=>by simp at t
 | f+1,c::r,t,i,acc,s,n,h=>by
  have g:r.length<=f:=by simpa using t
  by_cases u:c=34
  ·subst u;have e:textF (34::r) i acc=.inr (acc,i+1):=by cases r <;> simp[textF]
   rw[e]at h;simp at h;obtain⟨_,rfl⟩:=h;simp
  ·by_cases x:c=92
   ·subst x
    match r,g,h with
    | [],_,h=>simp[textF]at h
    | d::j,g,h=>
     by_cases hd:zfm (d.toNat:Int)=true
     ·have e:textF (92::d::j) i acc=textF j (i+2) (acc++[(escB (d.toNat:Int)).toNat.toUInt8]):=by simp[textF,hd]
      rw[e]at h;have:=zlm f j (by simp at g;omega) _ _ _ _ h;simp;omega
     ·have e:textF (92::d::j) i acc=.inl (i+1):=by simp[textF,hd]
      rw[e]at h;cases h
   ·by_cases hp:zbf (c.toNat:Int)=true
    ·have e:textF (c::r) i acc=textF r (i+1) (acc++[c]):=by cases r <;> simp[textF,u,x,hp]
     rw[e]at h;have:=zlm f r g _ _ _ _ h;simp;omega
    ·have e:textF (c::r) i acc=.inl i:=by cases r <;> simp[textF,u,x,hp]
     rw[e]at h;cases h
theorem cut_len {l:Bs} (g:l≠[]) {k:Int} {s:Bs} {v:Int} {m:Nat} (h:cut l=.inr (k,s,v,m)):1<=m/\m<=l.length:=by
 obtain⟨c,r,rfl⟩:=YX g;unfold cut at h
 split at h
 ·have j:=ze5 Jl r;unfold Jz at h
  split at h
  ·cases h
  ·split at h
   ·cases h
   ·simp at h;obtain⟨_,_,_,rfl⟩:=h;simp[zal];omega
 ·split at h
  ·unfold JX at h
   split at h
   ·cases h
   ·rename_i u x t;simp at h;obtain⟨_,_,_,rfl⟩:=h;have:=zlm r.length r (Y5 _) _ _ _ _ t;simp;omega
  ·split at h
   ·unfold zaw at h
    split at h
    ·rename_i hp;simp at h;obtain⟨_,_,_,rfl⟩:=h
     cases r with
     | nil=>simp[List.isPrefixOf]at hp
     | cons d r=>simp
    ·simp at h;obtain⟨_,_,_,rfl⟩:=h;simp
   ·have j:=ze5 JG r;unfold zau at h
    split at h
    ·cases h
    ·simp at h;obtain⟨_,_,_,rfl⟩:=h;simp;omega
theorem next_len {l:Bs} {n:Nat} (c:l≠[]) {k:Int} {s:Bs} {v:Int} {m:Nat} (h:next l n=.inr (k,s,v,m)):1<=m/\m<=l.length:=by
 unfold next at h
 split at h
 ·cases h
 ·split at h
  ·cases h
  ·exact cut_len c h
theorem next_few {l:Bs} {n:Nat} {k:Int} {s:Bs} {v:Int} {m:Nat} (h:next l n=.inr (k,s,v,m)):n<4096:=by
 unfold next at h
 split at h
 ·cases h
 ·split at h
  ·cases h
  ·omega
def zh4 (f:Nat) (l:Bs) (a n:Nat):List Tok×Option (Nat×Nat):=
 match f with
 | 0=>([],none)
 | f+1=>if l=[]then([],none)else
  match next l n with
  | .inl (o,y)=>([],some (a+o,y))
  | .inr (k,s,v,m)=>((a,k,s,v)::(lexF f (l.drop m) (a+m) (n+1)).1,(lexF f (l.drop m) (a+m) (n+1)).2)
theorem lexF_at (f:Nat) (l:Bs) (a n:Nat):lexF f l a n=zh4 f (l.drop (skip l)) (a+skip l) n:=by
 cases f with
 | zero=>rfl
 | succ f=>
  by_cases h:l.drop (skip l)=[]
  ·simp only[lexF,zh4,h,if_true]
  ·rcases hn:next (l.drop (skip l)) n with⟨o,y⟩|⟨k,s,v,m⟩
   ·simp only[lexF,zh4,h,if_false,hn]
   ·simp only[lexF,zh4,h,if_false,hn,List.drop_drop]
theorem lexAt_nil (f a n:Nat):zh4 f [] a n=([],none):=by cases f <;> simp[zh4]
theorem lexAt_no {f:Nat} {l:Bs} {a n o y:Nat} (c:l≠[]) (h:next l n=.inl (o,y)):zh4 (f+1) l a n=([],some (a+o,y)):=by simp[zh4,c,h]
theorem lexAt_yes {f:Nat} {l:Bs} {a n:Nat} {k:Int} {s:Bs} {v:Int} {m:Nat} (c:l≠[]) (h:next l n=.inr (k,s,v,m)) :
  zh4 (f+1) l a n=((a,k,s,v)::(zh4 f ((l.drop m).drop (skip (l.drop m))) (a+m+skip (l.drop m)) (n+1)).1,(zh4 f ((l.drop m).drop (skip (l.drop m))) (a+m+skip (l.drop m)) (n+1)).2):=by
 rw[<-lexF_at];simp only[zh4,c,if_false,h]
end Lx
open Go Go.RowKit Go.Shelf Lx
attribute [local go_sem] Oper.semAt_some
attribute [local go_sem] Oper.semAt_some
def za0 (t:Tok):List Value:=[Zi (t.1:Int),Zi t.2.1,.string ⟨t.2.2.1.toArray⟩,Zi t.2.2.2]
def zbt (c:List Tok):List Value:=c.flatMap za0
theorem zie (c:List Tok) (t:Tok):zbt (c++[t])=zbt c++za0 t:=by simp[zbt]
theorem info_tok:(Tryz.prog.info? 112).map (fun i=>(i.zero,i.size,i.bytes))=some (some (.agg #[Zi 0,Zi 0,.string ⟨#[]⟩,Zi 0]),4,40):=by kernel_rfl
theorem Je {W W':Zw} (h:ZB W W'):W.grownBy W' none:=⟨h.os,h.tape,h.output,h.size,fun k c _=>h.block k c⟩
structure Mid (w:Zw) (r:Loop) (pre:List Tok) (W:Zw):Prop where
 list:∃v,Boxed W (w.heap.size+1) 74 v/\W.ownsRow (w.heap.size+1) 112 4 v pre.length (zbt pre)
 defers:W.heap[w.heap.size+2]?=some (.deferred (some []))
 loop:W.heap[w.heap.size+3]?=some (.loop r)
 old:ZB w W
theorem heap_old2 {w:Zw} (o c:Obj) (k:Nat) (h:k<w.heap.size):((w.alloc o).alloc c).heap[k]?=w.heap[k]?:=
 (Below.heap_alloc _ _ _ (by simp;omega)).trans (Below.heap_alloc _ _ _ h)
open Go Go.RowKit Lx
def TokRow (W:Zw) (v:Value) (h:List Tok):Prop:=
 ∃(p:Zo) (c:Nat),v=.slice p h.length c/\∀j t,h[j]?=some t->∃g o,p=some ⟨g,o,none⟩ /\
  W.cell? ⟨g,o+j*4,none⟩=some (Zi (t.1:Int))/\W.cell? ⟨g,o+j*4+1,none⟩=some (Zi t.2.1) /\
  W.cell? ⟨g,o+j*4+2,none⟩=some (.string ⟨t.2.2.1.toArray⟩)/\W.cell? ⟨g,o+j*4+3,none⟩=some (Zi t.2.2.2)
def StrRow (W:Zw) (v:Value) (h:List Bs):Prop:=
 ∃(p:Zo) (c:Nat),v=.slice p h.length c/\∀j t,h[j]?=some t->∃g o,p=some ⟨g,o,none⟩/\W.cell? ⟨g,o+j,none⟩=some (.string ⟨t.toArray⟩)
theorem SameStr_any (v u:Value) (h:List Bs) (w:Zw) (G:h.length<=1000000) (s:StrRow w v h) (hu:StrRow w u h) :
  ZC 21 #[v,u] w (.bool true):=by
 obtain⟨p,c,rfl,hp⟩:=s;obtain⟨q,d,rfl,j⟩:=hu;have t:=J3 hp;have x:=J3 j;clear hp j;go_enter Tryz.func21,Tryz.ntmps21;go_wp2
 go_loopw [5] (fun i wr=>∃k nd:Nat,i=Zi k/\k<=h.length/\wr=w.drewN nd) (fun i _=>h.length-(intOf i).toNat)
 case atStart=>exact⟨0,0,rfl,by omega,rfl⟩
 case round=>
  obtain⟨k,nd,rfl,I,rfl⟩:=hrel;by_cases r:k<h.length
  ·obtain⟨g,o,rfl,a0⟩:=t k h[k] (by simp[r]);obtain⟨J,L,rfl,b0⟩:=x k h[k] (by simp[r]);have M:(k:Int)<(h.length:Int):=by omega
   go_wp2;go_quiet (fail);go_wp2;go_roundw
   case rel=>exact⟨k+1,nd+nq,by go_num,by omega,by simp[World.drewN]⟩
   case measure=>simp[intOf];omega
  ·go_wp2;go_ret;exact⟨rfl,Yw Zr _⟩
theorem refWords_any (w:Zw):Zg 183 #[] w fun e w'=>e=.returned (.slice (Zs w.heap.size 0) 25 25)/\w'=w.alloc (.cells zdb 9):=by
 go_enter Tryz.func183,Tryz.ntmps183;go_wp2;go_ret;exact⟨rfl,rfl⟩
end Go.Proofs.YtdcbglnhhbmpgaaGreatDoor
