import Derived.Test.YtdcbglnhhbmpgaaGreatDoorQLexB
import Derived.Shelf.Strings.BuilderK
import Derived.Lib.ItoaLen
import Derived.Lib.AppendIntMem
import Derived.WalkSmall
set_option maxHeartbeats 2000000
set_option maxRecDepth 100000
namespace Go.Proofs.YtdcbglnhhbmpgaaGreatDoor
namespace Lx
def sayB (c:UInt8):Bool:=c==10||zbf (c.toNat:Int)
def JS (l:Bs):Bool:=l.all sayB
def JQ (k:Int) (l:Bs):Bool:=
 match l with
 | []=>false
 | _=>zaa (hd l)&&(match cut l with
  | .inl _=>false
  | .inr (c,_,_,n)=>n==l.length&&c==k)
def sound (t:Tok):Bool:=
 if t.2.1=1∨t.2.1=2∨t.2.1=3∨t.2.1=6 then t.2.2.2==0&&JQ t.2.1 t.2.2.1
 else if t.2.1=4 then t.2.2.1.isEmpty&&decide (0<=t.2.2.2)
 else if t.2.1=5 then t.2.2.2==0&&JS t.2.2.1 else false
theorem zbc (c:UInt8) (r:Bs):JS (c::r)=(sayB c&&JS r):=by simp[JS]
end Lx
open Go Go.RowKit Lx
theorem sayable_any (s:Zy) (w:Zw) (t:s.size<=maxLen):Zg 143 #[.string s] w fun e w'=>e=.returned (.bool (JS s.data.toList))/\w=w':=by
 unfold maxLen at t;go_enter Tryz.func143,Tryz.ntmps143;go_wp2
 go_loop [6] (fun i=>∃k:Nat,k<=s.size/\i=Zi k/\ZH (JS s.data.toList=JS (s.data.toList.drop k))) (fun i=>s.size-(intOf i).toNat)
 case atStart=>exact⟨0,by omega,rfl,rfl⟩
 case round=>
  obtain⟨k,G,rfl,j⟩:=hrel;by_cases u:k<s.size
  ·have hd:=drop_cons s k u;by_cases c:(s[k].toNat:Int)=10
   ·have g:ZH (JS s.data.toList=JS (s.data.toList.drop (k+1))):=by
     have e:=J0 j;rw[hd,zbc,zbm (by decide) c]at e;show _=_;simpa[sayB]using e
    have x:((s[k].toNat:Int) != 10)=false:=by simp[c]
    clear c hd;go_wp2
    go_round
    case rel=>exact⟨k+1,by omega,by go_num,g⟩
    case measure=>simp[intOf];omega
   ·have x:((s[k].toNat:Int) != 10)=true:=by simpa using c
    have r:(s[k]==10)=false:=by
     rw[Y3];intro h;exact c (by rw[h];rfl)
    by_cases hp:zbf (s[k].toNat:Int)=true
    ·have g:ZH (JS s.data.toList=JS (s.data.toList.drop (k+1))):=by
      have e:=J0 j;rw[hd,zbc,sayB,hp]at e;show _=_;simpa using e
     clear c hd r;go_wp2_with (go_at_call 168;refine(zhi _ _).mono ?_;rintro e w' ⟨rfl,rfl⟩)
     go_round
     case rel=>exact⟨k+1,by omega,by go_num,g⟩
     case measure=>simp[intOf];omega
    ·have hp:zbf (s[k].toNat:Int)=false:=(Yb _).mp hp;have g:ZH (JS s.data.toList=false):=by
      have e:=J0 j;rw[hd,zbc,sayB,hp,r]at e;show _=_;simpa using e
     clear c hd r;go_wp2_with (go_at_call 168;refine(zhi _ _).mono ?_;rintro e w' ⟨rfl,rfl⟩);go_ret;exact⟨by rw[J0 g];rfl,rfl⟩
  ·have g:ZH (JS s.data.toList=true):=by
    have e:=J0 j;rw[Yg (by simp;omega)]at e;exact e
   go_wp2;go_ret;exact⟨by rw[J0 g];rfl,rfl⟩
theorem zb2 (s:Zy):s.data.toList.length=s.size:=by simp
theorem toList_data (s:Zy):s.toList=s.data.toList:=by
 have h:=Lib.extract_toList s 0 s.size;have e:s.extract 0 s.size=s:=by
  apply ByteArray.ext;apply Array.ext';simp
 rw[e,List.drop_zero,YS (by rw[zb2];omega)]at h;exact h
theorem nil_of {s:Zy} (h:s.size=0):s.data.toList=[]:=YB ((zb2 s).trans h)
theorem ne_nil_of {s:Zy} (h:¬s.size=0):s.data.toList≠[]:=fun e=>h (by rw[<-zb2,e];rfl)
theorem empty_of {s:Zy} (h:s.size=0):s.toList.isEmpty=true:=by
 rw[toList_data,nil_of h];rfl
theorem zjx {s:Zy} (h:¬s.size=0):s.toList.isEmpty=false:=by
 rw[toList_data]
 cases hd:s.data.toList with
 | nil=>exact absurd hd (ne_nil_of h)
 | cons c r=>rfl
theorem cutsItself_any (a k v:Int) (s:Zy) (w:Zw) (hs:s.size<=140737488355328) :
  ZC 142 #[.agg #[Zi a,Zi k,.string s,Zi v]] w (.bool (JQ k s.data.toList)):=by
 by_cases L:s.size=0
 ·have he:s.toList.isEmpty=true:=empty_of L;have j:ZH (JQ k s.data.toList=false):=by
   show _=_;rw[nil_of L];rfl
  go_enter Tryz.func142,Tryz.ntmps142;go_wp2;go_ret;exact⟨by rw[J0 j];rfl,Za _ _⟩
 ·have he:s.toList.isEmpty=false:=zjx L;have hp:0<s.size:=by omega
  obtain⟨G,I⟩:=byte_bd (s[0]'hp);have t:=hd_at s 0 hp;rw[List.drop_zero]at t;obtain⟨c,r,x⟩:=YX (ne_nil_of L);by_cases M:zaa ((s[0]'hp).toNat:Int)=true
  ·have h:=fun W=>cut_any s 0 W hp hs
   rw[List.drop_zero]at h;rcases hc:cut s.data.toList with⟨o,y⟩|⟨V,S,u,n⟩
   ·rw[hc]at h;have h:=J3 h;have j:ZH (JQ k s.data.toList=false):=by show _=_;unfold JQ;rw[x]at hc t ⊢;simp[hc]
    clear hc x t;go_enter Tryz.func142,Tryz.ntmps142;go_wp2_with (first|(go_at_call 166;refine(zez _ _ G I).mono ?_;rintro e w' ⟨rfl,rfl⟩)|(go_at_call 167;refine(h _).mono ?_;rintro e w1 ⟨g,b,rfl,ad,ae⟩;obtain⟨Y,Z⟩:=zbz g;have hz:=g.size));go_ret;exact⟨by rw[J0 j];rfl,(((Za _ _).trans (g.mono (by simp))).alloc (by simp at hz;omega) _)⟩
   ·rw[hc]at h;simp only[zb5]at h;have j:ZH (JQ k s.data.toList=(((n:Int)==(s.size:Int))&&(V==k))):=by
     have ac:s.data.toList.length=s.size:=by simp
     show _=_;rw[<-ac];unfold JQ;rw[x]at hc t ⊢;simp only[hc,t,M,XD]
     congr 1
     rw[Bool.eq_iff_iff];simp;omega
    clear hc x t;have aa:((0+n:Nat):Int)=(n:Int):=by omega
    simp only[aa]at h;clear aa;have h:=J3 h;by_cases J:((n:Int)==(s.size:Int))=true
    ·by_cases U:(V==k)=true
     ·rw[J,U]at j;go_enter Tryz.func142,Tryz.ntmps142;go_wp2_with (first|(go_at_call 166;refine(zez _ _ G I).mono ?_;rintro e w' ⟨rfl,rfl⟩)|(go_at_call 167;refine(h _).mono ?_;rintro e w1 ⟨g,rfl⟩;obtain⟨Y,Z⟩:=zbz g;have hz:=g.size;have ab:w.heap.size<w1.heap.size:=by simp at hz;omega));go_ret;exact⟨by rw[J0 j];rfl,(((Za _ _).trans (g.mono (by simp))).alloc (by simp at hz;omega) _)⟩
     ·have U:(V==k)=false:=(Yb _).mp U;rw[J,U]at j;go_enter Tryz.func142,Tryz.ntmps142;go_wp2_with (first|(go_at_call 166;refine(zez _ _ G I).mono ?_;rintro e w' ⟨rfl,rfl⟩)|(go_at_call 167;refine(h _).mono ?_;rintro e w1 ⟨g,rfl⟩;obtain⟨Y,Z⟩:=zbz g;have hz:=g.size;have ab:w.heap.size<w1.heap.size:=by simp at hz;omega));go_ret;exact⟨by rw[J0 j];rfl,(((Za _ _).trans (g.mono (by simp))).alloc (by simp at hz;omega) _)⟩
    ·have J:((n:Int)==(s.size:Int))=false:=(Yb _).mp J;rw[J]at j;go_enter Tryz.func142,Tryz.ntmps142;go_wp2_with (first|(go_at_call 166;refine(zez _ _ G I).mono ?_;rintro e w' ⟨rfl,rfl⟩)|(go_at_call 167;refine(h _).mono ?_;rintro e w1 ⟨g,rfl⟩;obtain⟨Y,Z⟩:=zbz g;have hz:=g.size;have ab:w.heap.size<w1.heap.size:=by simp at hz;omega));go_ret;exact⟨by rw[J0 j];rfl,(((Za _ _).trans (g.mono (by simp))).alloc (by simp at hz;omega) _)⟩
  ·have M:zaa ((s[0]'hp).toNat:Int)=false:=(Yb _).mp M;have j:ZH (JQ k s.data.toList=false):=by show _=_;unfold JQ;rw[x]at t ⊢;simp[t,M]
   clear x t;go_enter Tryz.func142,Tryz.ntmps142;go_wp2_with (first|(go_at_call 166;refine(zez _ _ G I).mono ?_;rintro e w' ⟨rfl,rfl⟩));go_ret;exact⟨by rw[J0 j];rfl,Za _ _⟩
theorem cutsItself_w (a k v:Int) (s:Zy) (w:Zw) (c:s.size<=140737488355328) (b:Bool) (g:JQ k s.data.toList=b) :
  ZC 142 #[.agg #[Zi a,Zi k,.string s,Zi v]] w (.bool b):=by
 subst g;exact cutsItself_any a k v s w c
theorem sayable_w (s:Zy) (w:Zw) (g:s.size<=140737488355328) (b:Bool) (c:JS s.data.toList=b):Zg 143 #[.string s] w fun e w'=>e=.returned (.bool b)/\w=w':=by
 subst c;exact sayable_any s w (by unfold maxLen;omega)
theorem zby {a b:Bool} (h:a=b):Ending.returned (.bool a)=.returned (.bool b):=by rw[h]
theorem sound_any (a k v:Int) (s:Zy) (w:Zw) (x:s.size<=140737488355328) (b:Bool) (h:sound (0,k,s.data.toList,v)=b) :
  ZC 104 #[.agg #[Zi a,Zi k,.string s,Zi v]] w (.bool b):=by
 by_cases j:k=1∨k=2∨k=3∨k=6
 ·have c:(v==0&&JQ k s.data.toList)=b:=by rw[<-h];simp only[sound];rw[Ye j]
  clear h;by_cases hz:(v==0)=true
  ·have G:ZH (∀W,_):=fun W=>cutsItself_w a k v s W x b (by rw[<-c,hz];rfl)
   clear c;rcases j with rfl|rfl|rfl|rfl
   all_goals
    go_enter Tryz.func104,Tryz.ntmps104;go_wp2_with (go_at_call 142;refine(G _).mono ?_;rintro e w1 ⟨rfl,I⟩);go_ret;exact⟨rfl,(Za _ _).trans (I.mono (by simp))⟩
  ·have hz:(v==0)=false:=(Yb _).mp hz;rw[hz]at c;have g:=J3 c;clear c;rcases j with rfl|rfl|rfl|rfl
   all_goals
    go_enter Tryz.func104,Tryz.ntmps104;go_wp2;go_ret;exact⟨zby g,Za _ _⟩
 ·by_cases t:k=4
  ·subst t;have c:(s.data.toList.isEmpty&&decide (0<=v))=b:=by rw[<-h];simp[sound]
   clear h j;by_cases r:s.size=0
   ·have he:=empty_of r;rw[nil_of r]at c;have g:ZH (decide (0<=v)=b):=by simpa[ZH]using c
    clear c r;go_enter Tryz.func104,Tryz.ntmps104;go_wp2;go_ret;exact⟨zby g,Za _ _⟩
   ·have he:=zjx r;have g:ZH (false=b):=by rw[<-toList_data,he]at c;exact c
    clear c r;go_enter Tryz.func104,Tryz.ntmps104;go_wp2;go_ret;exact⟨zby g,Za _ _⟩
  ·by_cases u:k=5
   ·subst u;have c:(v==0&&JS s.data.toList)=b:=by rw[<-h];simp[sound]
    clear h j t;by_cases hz:(v==0)=true
    ·have J:ZH (∀W,_):=fun W=>sayable_w s W x b (by rw[<-c,hz];rfl)
     clear c;go_enter Tryz.func104,Tryz.ntmps104;go_wp2_with (go_at_call 143;refine(J _).mono ?_;rintro e w1 ⟨rfl,rfl⟩);go_ret;exact⟨rfl,Za _ _⟩
    ·have hz:(v==0)=false:=(Yb _).mp hz;rw[hz]at c;have g:=J3 c;clear c;go_enter Tryz.func104,Tryz.ntmps104;go_wp2;go_ret;exact⟨zby g,Za _ _⟩
   ·have g:ZH (false=b):=by
     show _=_;rw[<-h];simp only[sound];rw[Y7 j,Y7 t,Y7 u]
    have L:(k==1)=false:=by rw[Y3];omega
    have M:(k==2)=false:=by rw[Y3];omega
    have U:(k==3)=false:=by rw[Y3];omega
    have V:(k==4)=false:=by rw[Y3];omega
    have Y:(k==5)=false:=by rw[Y3];omega
    have Z:(k==6)=false:=by rw[Y3];omega
    clear h j t u;go_enter Tryz.func104,Tryz.ntmps104;go_wp2;go_ret;exact⟨zby g,Za _ _⟩
open Go Go.RowKit Go.Shelf Go.Proofs
abbrev IsF (B b:Nat) (bs:List Value) (w:Zw):Prop:=Lib.IsBuilderF 152 5 B b bs w
abbrev Others (b:Nat) (w w':Zw):Prop:=Lib.OthersKept 5 (some b) w w'
theorem zlq (B b:Nat) (bs:List Value) (c:Int) (w:Zw) (h:IsF B b bs w) (hlen:bs.length+1<=140737488355328) (g:B<=w.heap.size) :
  Zg 105 #[.pointer (Zs b 0),.int .u8 c] w fun e w'=>e=.returned .nilIface/\IsF B b (bs++[.int .u8 c]) w'/\Below B w w'/\Others b w w':=
 (Any.Builder_WriteByte_k lays167 extra B b bs c w h hlen g).mono fun _ _ h=>⟨h.1,.inr h.2.1,h.2.2⟩
theorem WriteString_k (B b:Nat) (bs:List Value) (s:Zy) (w:Zw) (h:IsF B b bs w) (hlen:bs.length+s.size<=140737488355328) (c:B<=w.heap.size) :
  Zg 145 #[.pointer (Zs b 0),.string s] w fun e w'=>e=.returned (.tuple #[Zi s.size,.nilIface])/\IsF B b (bs++Lib.strCells s) w'/\Below B w w'/\Others b w w':=
 (Any.Builder_WriteString_k lays166 extra B b bs s w h hlen c).mono fun _ _ h=>⟨h.1,.inr h.2.1,h.2.2⟩
namespace Lx
def zm0 (c:UInt8):Bs:=if c=10 then[92,110]else if c=34 then[92,34]else if c=92 then[92,92]else[c]
def zh6 (l:Bs):Bs:=l.flatMap zm0
def quote (l:Bs):Bs:=34::(zh6 l++[34])
theorem zbn (c:UInt8) (r:Bs):zh6 (c::r)=zm0 c++zh6 r:=by simp[zh6]
theorem esc1_len (c:UInt8):(zm0 c).length<=2:=by
 unfold zm0;repeat' split
 all_goals simp
end Lx
theorem byteCells_append (a b:Bs):Lib.byteCells (a++b)=Lib.byteCells a++Lib.byteCells b:=by simp[Lib.byteCells]
abbrev zlf (B b:Nat) (l:Bs) (w:Zw):Prop:=IsF B b (Lib.byteCells l) w
theorem WByte (B b:Nat) (l:Bs) (c:UInt8) (x:Int) (g:x=(c.toNat:Int)) (w:Zw) (h:zlf B b l w) (hlen:l.length+1<=140737488355328) (j:B<=w.heap.size) :
  Zg 105 #[.pointer (Zs b 0),.int .u8 x] w fun e w'=>e=.returned .nilIface/\zlf B b (l++[c]) w'/\Below B w w':=by
 subst g;refine(zlq B b _ _ w h (by rw[XE];exact hlen) j).mono ?_;rintro e w' ⟨r,s,t,_⟩;exact⟨r,by rw[zlf,zc0];exact s,t⟩
theorem WString (B b:Nat) (l:Bs) (s:Zy) (w:Zw) (h:zlf B b l w) (hlen:l.length+s.size<=140737488355328) (c:B<=w.heap.size) :
  Zg 145 #[.pointer (Zs b 0),.string s] w fun e w'=>e=.returned (.tuple #[Zi s.size,.nilIface])/\zlf B b (l++s.data.toList) w'/\Below B w w':=by
 refine(WriteString_k B b _ _ w h (by rw[XE];exact hlen) c).mono ?_;rintro e w' ⟨g,j,r,_⟩;have t:Lib.strCells s=Lib.byteCells s.data.toList:=by
  simp[Lib.strCells,Lib.byteCells]
 exact⟨g,by rw[zlf,byteCells_append,<-t];exact j,r⟩
theorem writeText_any (B b:Nat) (l:Bs) (s:Zy) (w:Zw) (h:zlf B b l w) (hlen:l.length+2*s.size+2<=140737488355328) (aa:B<=w.heap.size) :
  Zg 147 #[.pointer (Zs b 0),.string s] w fun e w'=>e=.returned (.tuple #[])/\zlf B b (l++quote s.data.toList) w'/\Below B w w':=by
 go_enter Tryz.func147,Tryz.ntmps147;go_wp2_with (go_at_call 105;refine(WByte B b l 34 34 rfl _ h (by omega) aa).mono ?_;rintro e w1 ⟨rfl,h1,ae⟩)
 go_loopw [9] (fun i wr=>∃(k:Nat) (m:Bs),k<=s.size/\i=Zi k/\m.length<=l.length+1+2*k/\zlf B b m wr/\Below B w wr/\ZH (l++[34]++zh6 s.data.toList=m++zh6 (s.data.toList.drop k))) (fun i _=>s.size-(intOf i).toNat)
 case atStart=>exact⟨0,l++[34],by omega,rfl,by simp,h1,ae,rfl⟩
 case round=>
  obtain⟨k,m,hk,rfl,ag,hm,x,I⟩:=hrel;have r:B<=wr.heap.size:=Yh aa x.size;by_cases af:k<s.size
  ·have L:=J3 (drop_cons s k af);by_cases j:(s[k].toNat:Int)=10
   ·have q:((s[k].toNat:Int)==10)=true:=by simp[j]
    have t:ZH (zm0 s[k]=[92,110]):=by rw[zbm (n:=10) (by decide) j];exact rfl
    clear j;go_wp2_with (go_at_call 145;refine(WString B b m ⟨#[92,110]⟩ _ hm (by show m.length+2<=_;omega) r).mono ?_;rintro e M ⟨rfl,c,g⟩);go_roundw
    case rel=>exact⟨k+1,m++[92,110],by omega,by go_num,by simp;omega,c,x.trans g,by have e:=J0 I;rw[J0 L,zbn,J0 t]at e;show _=_;rw[e];simp⟩
    case measure=>simp[intOf];omega
   ·have q:((s[k].toNat:Int)==10)=false:=by simpa using j
    have U:s[k]≠10:=fun h=>j (by rw[h];rfl)
    by_cases u:(s[k].toNat:Int)=34
    ·have q2:((s[k].toNat:Int)==34)=true:=by simp[u]
     have ab:s[k]=34:=zbm (n:=34) (by decide) u;have t:ZH (zm0 s[k]=[92,s[k]]):=by rw[ab];exact rfl
     clear j u ab U;go_wp2_with (first|(go_at_call 105;refine(WByte B b m 92 92 rfl _ hm (by omega) r).mono ?_;clear hm;rintro e w2 ⟨rfl,V,J⟩)|(go_at_call 105;refine(WByte B b (m++[92]) s[k] _ rfl _ V (by simp;omega) (Yh r J.size)).mono ?_;rintro e M ⟨rfl,c,Y⟩;have g:=J.trans Y));go_roundw
     case rel=>exact⟨k+1,m++[92]++[s[k]],by omega,by go_num,by simp;omega,c,x.trans g,by have e:=J0 I;rw[J0 L,zbn,J0 t]at e;show _=_;rw[e];simp⟩
     case measure=>simp[intOf];omega
    ·have q2:((s[k].toNat:Int)==34)=false:=by simpa using u
     have Z:s[k]≠34:=fun h=>u (by rw[h];rfl)
     by_cases G:(s[k].toNat:Int)=92
     ·have q3:((s[k].toNat:Int)==92)=true:=by simp[G]
      have ac:s[k]=92:=zbm (n:=92) (by decide) G;have t:ZH (zm0 s[k]=[92,s[k]]):=by rw[ac];exact rfl
      clear j u G ac U Z;go_wp2_with (first|(go_at_call 105;refine(WByte B b m 92 92 rfl _ hm (by omega) r).mono ?_;clear hm;rintro e w2 ⟨rfl,V,J⟩)|(go_at_call 105;refine(WByte B b (m++[92]) s[k] _ rfl _ V (by simp;omega) (Yh r J.size)).mono ?_;rintro e M ⟨rfl,c,Y⟩;have g:=J.trans Y));go_roundw
      case rel=>exact⟨k+1,m++[92]++[s[k]],by omega,by go_num,by simp;omega,c,x.trans g,by have e:=J0 I;rw[J0 L,zbn,J0 t]at e;show _=_;rw[e];simp⟩
      case measure=>simp[intOf];omega
     ·have q3:((s[k].toNat:Int)==92)=false:=by simpa using G
      have ad:s[k]≠92:=fun h=>G (by rw[h];rfl)
      have t:ZH (zm0 s[k]=[s[k]]):=by show _=_;rw[zm0,Y7 U,Y7 Z,Y7 ad]
      clear j u G U Z ad;go_wp2_with (go_at_call 105;refine(WByte B b m s[k] _ rfl _ hm (by omega) r).mono ?_;rintro e M ⟨rfl,c,g⟩);go_roundw
      case rel=>exact⟨k+1,m++[s[k]],by omega,by go_num,by simp;omega,c,x.trans g,by have e:=J0 I;rw[J0 L,zbn,J0 t]at e;show _=_;rw[e];simp⟩
      case measure=>simp[intOf];omega
  ·have HQ:ZH (l++quote s.data.toList=m++[34]):=by
    have e:=J0 I;rw[Yg (by rw[zb2];omega)]at e;show _=_;rw[quote];simp[zh6]at e ⊢;simp[<-e]
   go_wp2_with (go_at_call 105;refine(WByte B b m 34 34 rfl _ hm (by omega) r).mono ?_;rintro e M ⟨rfl,c,g⟩)
   go_end0
   exact⟨rfl,by rw[J0 HQ];exact c,x.trans g⟩
namespace Lx
def J5 (t:Tok):Bs:=if t.2.1=4 then Lib.itoa t.2.2.2 else if t.2.1=5 then quote t.2.2.1 else t.2.2.1
end Lx
abbrev Tab (w:Zw):Prop:=Lib.TabIs Tryz.prog w "internal/strconv.uint64pow10" .u64 Lib.pow10Tab
theorem tab_global:Tryz.prog.globalNamed "internal/strconv.uint64pow10" = some 0:=by kernel_rfl
theorem Tab.below {B:Nat} {w w':Zw} (h:Tab w) (c:Below B w w') (g:4<=B):Tab w':=var?_below c tab_global (by omega) h
theorem Itoa_any (n:Int) (c:-9223372036854775808<=n) (g:n<=9223372036854775807) (w:Zw) (h:Tab w) :
  ZC 146 #[Zi n] w (.string ⟨(Lib.itoa n).toArray⟩):=by
 refine(Tryz.strconv_Itoa n c g w h).mono ?_;rintro e w' ⟨rfl,k,os,rfl⟩;exact⟨rfl,Lib.below_grow _ w (Y5 _) k os⟩
theorem zf2 {B b:Nat} {bs:List Value} {w w':Zw} (h:IsF B b bs w) (c:ZB w w'):IsF B b bs w':=by
 have at_:∀p,Lib.BuilderAtF 152 5 B b p bs w->Lib.BuilderAtF 152 5 B b p bs w':=by
  rintro p ⟨r,v,j,s,t⟩;refine⟨r,v,(c.block b (Y8.1 j).1).trans j,s.kept (Je c) ?_,t⟩
  cases ho:v.ownBlock with
  | none=>exact .inl rfl
  | some g=>exact .inr (by simp)
 rcases h with h|h
 ·exact .inl (at_ _ h)
 ·exact .inr (at_ _ h)
theorem zha (B b:Nat) (l:Bs) (a k v:Int) (s:Zy) (w:Zw) (h:zlf B b l w) (x:Tab w) (hlen:l.length+2*s.size+21<=140737488355328) (aa:4<=B) (Y:B<=w.heap.size) (v0:-9223372036854775808<=v) (v1:v<=9223372036854775807) :
  Zg 107 #[.pointer (Zs b 0),.agg #[Zi a,Zi k,.string s,Zi v]] w fun e w'=>e=.returned (.tuple #[])/\zlf B b (l++J5 (0,k,s.data.toList,v)) w'/\Below B w w':=by
 have g:ZB w (w.alloc (.cells #[Zi a,Zi k,.string s,Zi v] 112)):=Za _ _;have J:zlf B b l (w.alloc (.cells #[Zi a,Zi k,.string s,Zi v] 112)):=zf2 h g;have G:=x.below g (by omega);have I:B<=(w.alloc (.cells #[Zi a,Zi k,.string s,Zi v] 112)).heap.size:=by simp;omega
 have L:=g.mono Y;by_cases c:k=4
 ·have r:ZH (J5 (0,k,s.data.toList,v)=Lib.itoa v):=by show _=_;simp[J5,c]
  have U:=Lib.itoa_length_le v v0 v1;have Z:(k==4)=true:=by simp[c]
  have IT:=J3 (Itoa_any v v0 v1 _ G);have hz:ByteArray.size ⟨(Lib.itoa v).toArray⟩<=21:=by show(Lib.itoa v).toArray.size<=21;simpa using U
  have WS:=J3 (fun W hW hX=>WString B b l ⟨(Lib.itoa v).toArray⟩ W hW (by omega) hX);clear hz U;clear c x G h g;go_enter Tryz.func107,Tryz.ntmps107;go_wp2_with (first|(go_at_call 146;refine IT.mono ?_;rintro e w2 ⟨rfl,M⟩)|(go_at_call 145;refine(WS _ (zf2 J M) (Yh I M.size)).mono ?_;rintro e V ⟨rfl,t,u⟩))
  go_end0
  exact⟨rfl,by rw[J0 r];simpa using t,(L.trans (M.mono I)).trans u⟩
 ·have Z:(k==4)=false:=by rw[Y3];exact c
  by_cases j:k=5
  ·have r:ZH (J5 (0,k,s.data.toList,v)=quote s.data.toList):=by show _=_;simp[J5,j]
   have e5:(k==5)=true:=by simp[j]
   clear c j x G h g;go_enter Tryz.func107,Tryz.ntmps107;go_wp2_with (go_at_call 147;refine(writeText_any B b l s _ J (by omega) I).mono ?_;rintro e V ⟨rfl,t,u⟩)
   go_end0
   exact⟨rfl,by rw[J0 r];exact t,L.trans u⟩
  ·have e5:(k==5)=false:=by rw[Y3];exact j
   have r:ZH (J5 (0,k,s.data.toList,v)=s.data.toList):=by show _=_;simp[J5,c,j]
   clear c j x G h g;go_enter Tryz.func107,Tryz.ntmps107;go_wp2_with (go_at_call 145;refine(WString B b l s _ J (by omega) I).mono ?_;rintro e V ⟨rfl,t,u⟩)
   go_end0
   exact⟨rfl,by rw[J0 r];exact t,L.trans u⟩
namespace Lx
def zej:List Tok->Nat->Bs->Option Bs
 | [],_,acc=>some acc
 | t::r,i,acc=>
  if 65536<(acc++(if 0<i then[32]else[])).length+t.2.2.1.length then none
  else if 65536<((acc++(if 0<i then[32]else[]))++J5 t).length then none
  else zej r (i+1) ((acc++(if 0<i then[32]else[]))++J5 t)
def join (c:List Tok):Sum Nat Bs:=
 if c.all sound=false then .inl 1 else
 match zej c 0 []with
 | none=>.inl 2
 | some l=>if 4096<c.length then .inl 3 else .inr l
theorem zlz (a:Nat) (t:Int×Bs×Int):sound (a,t)=sound (0,t):=rfl
end Lx
def JI:Sum Nat Bs->Value
 | .inl y=>.tuple #[.string ⟨#[]⟩,Zi (y:Int)]
 | .inr l=>.tuple #[.string ⟨l.toArray⟩,Zi 0]
theorem cell_lt {w:Zw} {b o:Nat} {v:Value} (h:w.cell? ⟨b,o,none⟩=some v):b<w.heap.size:=by
 rcases YW b w.heap.size with c | c
 ·exact c
 ·simp[World.cell?,Array.getElem?_eq_none c]at h
theorem TokRow.below {w w':Zw} {v:Value} {s:List Tok} (h:TokRow w v s) (r:ZB w w'):TokRow w' v s:=by
 obtain⟨p,c,rfl,hp⟩:=h;refine⟨p,c,rfl,fun j t u=>?_⟩;obtain⟨g,o,rfl,a0,x,a2,a3⟩:=hp j t u;have G:=cell_lt a0;exact⟨g,o,rfl,Zq r a0,Zq r x,Zq r a2,Zq r a3⟩
def Fits (c:List Tok):Prop:=∀t∈c,t.2.2.1.length<=35184372088832/\-9223372036854775808<=t.2.2.2/\t.2.2.2<=9223372036854775807
theorem all_drop {c:List Tok} {k:Nat} (h:k<c.length):(c.drop k).all sound=(sound c[k]&&(c.drop (k+1)).all sound):=by
 rw[Yt h,YL]
theorem Len_w (B b:Nat) (l:Bs) (w:Zw) (h:zlf B b l w):Zg 106 #[.pointer (Zs b 0)] w fun e w'=>e=.returned (Zi (l.length:Nat))/\w'=w:=by
 refine(Tryz.Builder_Len_f B b _ w h).mono ?_;rintro e w' ⟨rfl,rfl⟩;exact⟨by rw[XE],rfl⟩
theorem Join_any (v:Value) (r:List Tok) (w:Zw) (hv:TokRow w v r) (hl:r.length<=1000000) (hF:Fits r) (ht:Tab w) (h5:4<=w.heap.size) :
  ZC 68 #[v] w (JI (join r)):=by
 have HF:=J3 hF;have HV:=J3 hv;obtain⟨p,c,rfl,hp⟩:=hv;have HP:=J3 hp;clear hp hF;go_enter Tryz.func68,Tryz.ntmps68;go_wp2
 go_loopw [11] (fun i wr=>∃k:Nat,i=Zi k/\k<=r.length/\ZB w wr/\ZH (r.all sound=(r.drop k).all sound)) (fun i _=>r.length-(intOf i).toNat)
 case atStart=>exact⟨0,rfl,by omega,Zr,rfl⟩
 case round=>
  obtain⟨k,rfl,hk,G,HA⟩:=hrel;by_cases ao:k<r.length
  ·obtain⟨g,o,rfl,a0,a1,a2,a3⟩:=HP k r[k] (by simp[ao]);have aB:(k:Int)<(r.length:Int):=by omega
   have hg:=cell_lt a0;have b0:=Zq G a0;have b1:=Zq G a1;have b2:=Zq G a2;have b3:=Zq G a3;have ah:=HF r[k] (by simp);have L:ByteArray.size ⟨r[k].2.2.1.toArray⟩<=140737488355328:=by show r[k].2.2.1.toArray.size<=_;simp;omega
   by_cases ag:sound r[k]=true
   ·have SD:=J3 (fun W=>sound_any (r[k].1:Int) r[k].2.1 r[k].2.2.2 ⟨r[k].2.2.1.toArray⟩ W L true (by rw[<-ag];simp[<-zlz r[k].1]));have HN:ZH (r.all sound=(r.drop (k+1)).all sound):=by have e:=J0 HA;rw[all_drop ao,ag]at e;exact e
    clear a0 a1 a2 a3 ah L ag;go_wp2_with (go_at_call 104;refine(SD _).mono ?_;rintro e w1 ⟨rfl,ap⟩);go_roundw
    case rel=>exact⟨k+1,by go_num,by omega,(G.alloc G.size _).trans (ap.mono (by have:=G.size;simp;omega)),HN⟩
    case measure=>simp[intOf];omega
   ·have ag:sound r[k]=false:=(Yb _).mp ag;have SD:=J3 (fun W=>sound_any (r[k].1:Int) r[k].2.1 r[k].2.2.2 ⟨r[k].2.2.1.toArray⟩ W L false (by rw[<-ag];simp[<-zlz r[k].1]));have HN:ZH (join r=.inl 1):=by
     have e:=J0 HA;rw[all_drop ao,ag]at e;show _=_;rw[join,Ye (by rw[e];rfl)]
    clear a0 a1 a2 a3 ah L ag;go_wp2_with (go_at_call 104;refine(SD _).mono ?_;rintro e w1 ⟨rfl,ap⟩);go_ret2;exact⟨by rw[J0 HN];rfl,(G.alloc G.size _).trans (ap.mono (by have:=G.size;simp;omega))⟩
  ·have HS:ZH (r.all sound=true):=by
    have e:=J0 HA;rw[Yg (by omega)]at e;exact e
   obtain⟨s,rfl⟩:∃x,x=wr:=⟨_,rfl⟩
   have aj:=G.size;have am:4<=s.heap.size:=by omega
   have aC:=J3 (HV.below G);have ax:=J3 (ht.below G (by omega));clear HP HA;go_wp2
   go_loopw [21] (fun i wr=>∃(j:Nat) (acc:Bs),i=Zi j/\j<=r.length/\acc.length<=65536/\zlf s.heap.size s.heap.size acc wr/\ZB s wr/\ZH (zej r 0 []=zej (r.drop j) j acc)) (fun i _=>r.length-(intOf i).toNat)
   case atStart=>exact⟨0,[],rfl,by omega,by simp,Lib.IsBuilderF.of (Lib.fresh_isBuilder 152 5 s),Za _ _,rfl⟩
   case round=>
    obtain⟨j,acc,rfl,hj,aK,HB,aa,HJ⟩:=hrel;have aq:=aa.size;have aL:s.heap.size<wr.heap.size:=by
     rcases HB with h|h
     ·obtain⟨_,v,hh,_⟩:=h;exact(Y8.1 hh).1
     ·obtain⟨_,v,hh,_⟩:=h;exact(Y8.1 hh).1
    by_cases ar:j<r.length
    ·obtain⟨p',c',ay,az⟩:=J0 aC;obtain⟨g,o,aD,a0,a1,a2,a3⟩:=az j r[j] (by simp[ar]);simp only[Value.slice.injEq]at ay;obtain⟨rfl,_,rfl⟩:=ay;subst aD;have hg:=cell_lt a0;have b0:=Zq aa a0;have b1:=Zq aa a1;have b2:=Zq aa a2;have b3:=Zq aa a3;have ah:=HF r[j] (by simp);have aB:(j:Int)<(r.length:Int):=by omega
     clear a0 a1 a2 a3 az;have ak:ZB wr (wr.alloc (.cells #[Zi (r[j].1:Int),Zi r[j].2.1,.string ⟨r[j].2.2.1.toArray⟩,Zi r[j].2.2.2] 112)):=Za _ _;by_cases aA:0<j
     ·have aE:0<(j:Int):=by omega
      go_wp2_with (go_at_call 105;refine(zlq s.heap.size s.heap.size _ 32 _ (zf2 HB ak) (by rw[XE];omega) (by simp;omega)).mono ?_;rintro e u ⟨rfl,aF,aG,aH⟩);have M:zlf s.heap.size s.heap.size (acc++[32]) u:=by rw[zlf,zc0];exact aF
      obtain⟨I,ab⟩:=Ze (acc++[32])
      have ac:I=acc++(if 0<j then[32]else[]):=by rw[ab,Ye aA]
      have aI:I.length<=65537:=by rw[ab];simp;omega
      rw[<-ab]at M;clear ab;have V:=aH wr.heap.size _ (Jm wr _) (by intro e;injection e with e;omega) (by intro c fz e;injection e with _ e _;exact absurd e (by decide));have U:ZB s u:=(aa.trans (ak.mono aq)).trans aG;have t0:u.cell? ⟨wr.heap.size,0,none⟩=some (Zi (r[j].1:Int)):=by rw[Y0 V];rfl
      have t1:u.cell? ⟨wr.heap.size,1,none⟩=some (Zi r[j].2.1):=by rw[Y0 V];rfl
      have t2:u.cell? ⟨wr.heap.size,2,none⟩=some (.string ⟨r[j].2.2.1.toArray⟩):=by rw[Y0 V];rfl
      have t3:u.cell? ⟨wr.heap.size,3,none⟩=some (Zi r[j].2.2.2):=by rw[Y0 V];rfl
      have hle:s.heap.size<=u.heap.size:=U.size;have L:ByteArray.size ⟨r[j].2.2.1.toArray⟩=r[j].2.2.1.length:=by show r[j].2.2.1.toArray.size=_;simp
      have t:=J0 HJ;rw[Yt ar,zej,<-ac]at t;have ad:=ax.below U am;have au:∃J,J=I++J5 r[j]:=⟨_,rfl⟩
      obtain⟨J,Y⟩:=au;rw[<-Y]at t;have ai:=J3 (fun W (h:zlf s.heap.size s.heap.size I W)=>Len_w s.heap.size s.heap.size I W h);by_cases Z:65536<I.length+r[j].2.2.1.length
      ·have av:65536<(I.length:Int)+(r[j].2.2.1.length:Int):=by omega
       rw[Ye Z]at t;have HR:ZH (JI (join r)=.tuple #[.string ⟨#[]⟩,Zi 2]):=by
        show _=_;rw[join,Y7 (by rw[J0 HS];decide),t];rfl
       clear HJ t Z ad Y ac L;go_quiet ((go_at_call 106;exact Calls.quiet_of_same (ai _ M)));go_wp2;go_ret2;exact⟨by rw[J0 HR];rfl,G.trans ((Yw U _).mono aj)⟩
      ·have av:(I.length:Int)+(r[j].2.2.1.length:Int)<=65536:=by omega
       rw[Y7 Z]at t;have WT:ZH (∀nq,Zg 107 #[.pointer (Zs s.heap.size 0),.agg #[Zi (r[j].1:Int),Zi r[j].2.1,.string ⟨r[j].2.2.1.toArray⟩,Zi r[j].2.2.2]] (u.drewN nq) fun e w'=>e=.returned (.tuple #[])/\zlf s.heap.size s.heap.size J w'/\Below s.heap.size (u.drewN nq) w'):=by
        intro nq;have:=zha s.heap.size s.heap.size I (r[j].1:Int) r[j].2.1 r[j].2.2.2 ⟨r[j].2.2.1.toArray⟩ (u.drewN nq) (zf2 M (Yw Zr nq)) (ad.below (Yw (Yu u.heap.size u) nq) (by omega)) (by rw[L];omega) am hle ah.2.1 ah.2.2;rw[Y];exact this
       have al:=J3 (fun W (h:zlf s.heap.size s.heap.size J W)=>Len_w s.heap.size s.heap.size J W h);by_cases ae:65536<J.length
       ·have aw:65536<(J.length:Int):=by omega
        rw[Ye ae]at t;have HR:ZH (JI (join r)=.tuple #[.string ⟨#[]⟩,Zi 2]):=by
         show _=_;rw[join,Y7 (by rw[J0 HS];decide),t];rfl
        clear HJ t Z ad Y ac L ae;go_quiet ((go_at_call 106;exact Calls.quiet_of_same (ai _ M)));go_wp2_with (first|(go_at_call 107;refine(WT nq).mono ?_;clear WT;rintro e w3 ⟨rfl,h3,af⟩)|(go_at_call 106;refine(al _ h3).mono ?_;rintro e w4 ⟨rfl,rfl⟩));go_ret2;exact⟨by rw[J0 HR];rfl,G.trans (((Yw U _).trans af).mono aj)⟩
       ·have aw:(J.length:Int)<=65536:=by omega
        rw[Y7 ae]at t;have HN:=J3 t;clear HJ t Z ad Y ac L ae;go_quiet ((go_at_call 106;exact Calls.quiet_of_same (ai _ M)));go_wp2_with (first|(go_at_call 107;refine(WT nq).mono ?_;clear WT;rintro e w3 ⟨rfl,h3,af⟩)|(go_at_call 106;refine(al _ h3).mono ?_;rintro e w4 ⟨rfl,rfl⟩));go_roundw
        case rel=>exact⟨j+1,J,by go_num,by omega,by omega,h3,(Yw U _).trans af,HN⟩
        case measure=>simp[intOf];omega
     ·have aE:(j:Int)<=0:=by omega
      go_wp2;have M:zlf s.heap.size s.heap.size acc (wr.alloc (.cells #[Zi (r[j].1:Int),Zi r[j].2.1,.string ⟨r[j].2.2.1.toArray⟩,Zi r[j].2.2.2] 112)):=zf2 HB ak;have V:=Jm wr (.cells #[Zi (r[j].1:Int),Zi r[j].2.1,.string ⟨r[j].2.2.1.toArray⟩,Zi r[j].2.2.2] 112);have U:ZB s (wr.alloc (.cells #[Zi (r[j].1:Int),Zi r[j].2.1,.string ⟨r[j].2.2.1.toArray⟩,Zi r[j].2.2.2] 112)):=aa.trans (ak.mono aq);clear ak
      revert M V U
      generalize wr.alloc (.cells #[Zi (r[j].1:Int),Zi r[j].2.1,.string ⟨r[j].2.2.1.toArray⟩,Zi r[j].2.2.2] 112)=u;intro M V U;obtain⟨I,ab⟩:=Ze acc
      have ac:I=acc++(if 0<j then[32]else[]):=by rw[ab,Y7 aA];simp
      have aI:I.length<=65537:=by rw[ab];omega
      rw[<-ab]at M;clear ab;have t0:u.cell? ⟨wr.heap.size,0,none⟩=some (Zi (r[j].1:Int)):=by rw[Y0 V];rfl
      have t1:u.cell? ⟨wr.heap.size,1,none⟩=some (Zi r[j].2.1):=by rw[Y0 V];rfl
      have t2:u.cell? ⟨wr.heap.size,2,none⟩=some (.string ⟨r[j].2.2.1.toArray⟩):=by rw[Y0 V];rfl
      have t3:u.cell? ⟨wr.heap.size,3,none⟩=some (Zi r[j].2.2.2):=by rw[Y0 V];rfl
      have hle:s.heap.size<=u.heap.size:=U.size;have L:ByteArray.size ⟨r[j].2.2.1.toArray⟩=r[j].2.2.1.length:=by show r[j].2.2.1.toArray.size=_;simp
      have t:=J0 HJ;rw[Yt ar,zej,<-ac]at t;have ad:=ax.below U am;have au:∃J,J=I++J5 r[j]:=⟨_,rfl⟩
      obtain⟨J,Y⟩:=au;rw[<-Y]at t;have ai:=J3 (fun W (h:zlf s.heap.size s.heap.size I W)=>Len_w s.heap.size s.heap.size I W h);by_cases Z:65536<I.length+r[j].2.2.1.length
      ·have av:65536<(I.length:Int)+(r[j].2.2.1.length:Int):=by omega
       rw[Ye Z]at t;have HR:ZH (JI (join r)=.tuple #[.string ⟨#[]⟩,Zi 2]):=by
        show _=_;rw[join,Y7 (by rw[J0 HS];decide),t];rfl
       clear HJ t Z ad Y ac L;go_quiet ((go_at_call 106;exact Calls.quiet_of_same (ai _ M)));go_wp2;go_ret2;exact⟨by rw[J0 HR];rfl,G.trans ((Yw U _).mono aj)⟩
      ·have av:(I.length:Int)+(r[j].2.2.1.length:Int)<=65536:=by omega
       rw[Y7 Z]at t;have WT:ZH (∀nq,Zg 107 #[.pointer (Zs s.heap.size 0),.agg #[Zi (r[j].1:Int),Zi r[j].2.1,.string ⟨r[j].2.2.1.toArray⟩,Zi r[j].2.2.2]] (u.drewN nq) fun e w'=>e=.returned (.tuple #[])/\zlf s.heap.size s.heap.size J w'/\Below s.heap.size (u.drewN nq) w'):=by
        intro nq;have:=zha s.heap.size s.heap.size I (r[j].1:Int) r[j].2.1 r[j].2.2.2 ⟨r[j].2.2.1.toArray⟩ (u.drewN nq) (zf2 M (Yw Zr nq)) (ad.below (Yw (Yu u.heap.size u) nq) (by omega)) (by rw[L];omega) am hle ah.2.1 ah.2.2;rw[Y];exact this
       have al:=J3 (fun W (h:zlf s.heap.size s.heap.size J W)=>Len_w s.heap.size s.heap.size J W h);by_cases ae:65536<J.length
       ·have aw:65536<(J.length:Int):=by omega
        rw[Ye ae]at t;have HR:ZH (JI (join r)=.tuple #[.string ⟨#[]⟩,Zi 2]):=by
         show _=_;rw[join,Y7 (by rw[J0 HS];decide),t];rfl
        clear HJ t Z ad Y ac L ae;go_quiet ((go_at_call 106;exact Calls.quiet_of_same (ai _ M)));go_wp2_with (first|(go_at_call 107;refine(WT nq).mono ?_;clear WT;rintro e w3 ⟨rfl,h3,af⟩)|(go_at_call 106;refine(al _ h3).mono ?_;rintro e w4 ⟨rfl,rfl⟩));go_ret2;exact⟨by rw[J0 HR];rfl,G.trans (((Yw U _).trans af).mono aj)⟩
       ·have aw:(J.length:Int)<=65536:=by omega
        rw[Y7 ae]at t;have HN:=J3 t;clear HJ t Z ad Y ac L ae;go_quiet ((go_at_call 106;exact Calls.quiet_of_same (ai _ M)));go_wp2_with (first|(go_at_call 107;refine(WT nq).mono ?_;clear WT;rintro e w3 ⟨rfl,h3,af⟩)|(go_at_call 106;refine(al _ h3).mono ?_;rintro e w4 ⟨rfl,rfl⟩));go_roundw
        case rel=>exact⟨j+1,J,by go_num,by omega,by omega,h3,(Yw U _).trans af,HN⟩
        case measure=>simp[intOf];omega
    ·have HR:ZH (zej r 0 []=some acc):=by
      have e:=J0 HJ;rw[Yg (by omega)]at e;exact e
     clear HJ;by_cases an:4096<r.length
     ·have aJ:4096<(r.length:Int):=by omega
      have HX:ZH (JI (join r)=.tuple #[.string ⟨#[]⟩,Zi 3]):=by
       show _=_;rw[join,Y7 (by rw[J0 HS];decide),J0 HR];simp[an,JI]
      clear an;go_wp2;go_ret2;exact⟨by rw[J0 HX];rfl,G.trans (aa.mono aj)⟩
     ·have aJ:(r.length:Int)<=4096:=by omega
      have HX:ZH (JI (join r)=.tuple #[.string ⟨acc.toArray⟩,Zi 0]):=by
       show _=_;rw[join,Y7 (by rw[J0 HS];decide),J0 HR];simp[an,JI]
      clear an;have BS:=J3 (Tryz.Builder_String_any_f s.heap.size s.heap.size acc wr HB aq);go_wp2_with (go_at_call 108;refine BS.mono ?_;rintro e w3 ⟨rfl,_,af⟩);go_ret2;exact⟨by rw[J0 HX];rfl,G.trans ((aa.trans af).mono aj)⟩
end Go.Proofs.YtdcbglnhhbmpgaaGreatDoor
namespace Go.Proofs.YtdcbglnhhbmpgaaGreatDoor
open Go Go.RowKit Lx
end Go.Proofs.YtdcbglnhhbmpgaaGreatDoor
