import Derived.Test.YtdcbglnhhbmpgaaGreatDoorQLaws9
set_option maxHeartbeats 4000000
set_option maxRecDepth 100000
namespace Go.Proofs.YtdcbglnhhbmpgaaGreatDoor
open Go Go.RowKit Lx
theorem zag (b:Int) (w:Zw):Zg 159 #[.int .u8 b] w fun e w'=>e=.returned (.bool (zdh b))/\w=w':=by
 go_enter Tryz.func159,Tryz.ntmps159;go_wp2
 all_goals
  go_ret
  simp_all [zdh]
  try omega
theorem JR (b:Int) (w:Zw):Zg 160 #[.int .u8 b] w fun e w'=>e=.returned (.bool (zbw b))/\w=w':=by
 go_enter Tryz.func160,Tryz.ntmps160;go_wp2
 all_goals
  go_ret
  simp_all [zbw]
  try omega
theorem za7 (b:Int) (w:Zw):Zg 161 #[.int .u8 b] w fun e w'=>e=.returned (.bool (Jl b))/\w=w':=by
 go_enter Tryz.func161,Tryz.ntmps161;go_wp2
 all_goals
  go_ret
  simp_all [Jl]
  try omega
theorem zf1 (b:Int) (w:Zw):Zg 171 #[.int .u8 b] w fun e w'=>e=.returned (.bool (JG b))/\w=w':=by
 go_enter Tryz.func171,Tryz.ntmps171;go_wp2_with (first|(go_at_call 159;refine(zag _ _).mono ?_;rintro e w' ⟨rfl,rfl⟩)|(go_at_call 160;refine(JR _ _).mono ?_;rintro e w' ⟨rfl,rfl⟩)|(go_at_call 161;refine(za7 _ _).mono ?_;rintro e w' ⟨rfl,rfl⟩))
 all_goals
  go_ret
  simp_all [JG]
def zft (b:Int):Bool:=zbf b&&b != 34&&b != 92
theorem zd4 (b:Int) (w:Zw):Zg 173 #[.int .u8 b] w fun e w'=>e=.returned (.bool (zft b))/\w=w':=by
 go_enter Tryz.func173,Tryz.ntmps173;go_wp2
 all_goals
  go_ret
  simp_all [zft,zbf]
  try omega
theorem zhu (b:Int) (w:Zw):Zg 100 #[.int .u8 b] w fun e w'=>e=.returned (.bool (b==10||zbf b))/\w=w':=by
 go_enter Tryz.func100,Tryz.ntmps100;go_wp2
 all_goals
  go_ret
  simp_all [zbf]
  try omega
def zdi (a k:Int) (s:Zy) (v z:Int):Value:=.agg #[Zi a,Zi k,.string s,Zi v,Zi z,Zi 0,Zi 0]
def zba (y p:Int):Value:=.agg #[Zi 0,Zi 0,.string ⟨#[]⟩,Zi 0,Zi 0,Zi y,Zi p]
theorem zay (y p:Int) (w:Zw):ZC 165 #[Zi y,Zi p] w (zba y p):=by
 go_enter Tryz.func165,Tryz.ntmps165;go_wp2;exact Yi (v:=zba y p) (by simp[results,Tryz.results165,go_sem,zba]) rfl ⟨rfl,Za _ _⟩
theorem rwords_any (w:Zw):Zg 183 #[] w fun e w'=>e=.returned (.slice (Zs w.heap.size 0) 25 25)/\w'=w.alloc (.cells zdb 9):=refWords_any w
theorem zi9 (s:Zy) (b:Bool) (x:words.contains s.data.toList=b) (w:Zw):ZC 172 #[.string s] w (.bool b):=by
 have G:=J3 x;clear x;go_enter Tryz.func172,Tryz.ntmps172;go_wp2_with (go_at_call 183;refine(rwords_any _).mono ?_;rintro e U ⟨rfl,rfl⟩);have g:=J3 (zmj w);have c:ZB w (w.alloc (.cells zdb 9)):=Za _ _
 revert g c
 generalize w.alloc (.cells zdb 9)=W1;intro g c
 go_loop [4] (fun i=>∃k:Nat,k<=25/\i=Zi k/\ZH (words.contains s.data.toList=(words.drop k).contains s.data.toList)) (fun i=>25-(intOf i).toNat)
 case atStart=>exact⟨0,by omega,rfl,rfl⟩
 case round=>
  obtain⟨k,V,rfl,j⟩:=hrel;by_cases I:k<25
  ·have r:=g k (by simpa[wordStrs,words]using I);rw[X3]at r;have Y:(k:Int)<25:=by omega
   have t:k<words.length:=by simpa[words]using I
   have J:words.drop k=words.getD k []::words.drop (k+1):=by
    rw[Yt t,Yo,Y6 t];rfl
   have L:(wordStrs.getD k ByteArray.empty).data.toList=words.getD k []:=by
    simp[wordStrs,Y6 t]
   have e:=J0 j;rw[J,<-L]at e;clear J L j
   revert r e
   generalize wordStrs.getD k ByteArray.empty=ws;intro r e;by_cases hw:ws=s
   ·subst hw;have u:ZH (true=b):=by show _=_;rw[<-J0 G,e];simp
    clear e;go_wp2;go_ret;exact⟨zby u,c⟩
   ·have q:(ws.toList==s.toList)=false:=by
     rw[Y3,toList_data,toList_data];intro h;apply hw;apply ByteArray.ext;apply Array.ext';exact h
    have M:ZH (words.contains s.data.toList=(words.drop (k+1)).contains s.data.toList):=by
     show _=_;rw[e,List.contains_cons,show(s.data.toList==ws.data.toList)=false from by
      rw[Y3];intro h;apply hw;apply ByteArray.ext;apply Array.ext';exact h.symm]
     rfl
    clear e;go_wp2
    go_round
    case rel=>exact⟨k+1,by omega,by go_num,M⟩
    case measure=>simp[intOf];omega
  ·have u:ZH (false=b):=by
    have e:=J0 j;rw[Yg (by simp[words];omega),J0 G]at e;exact e.symm
   go_wp2;go_ret;exact⟨zby u,c⟩
def signRows:List Bs:=[[61,61],[40],[41],[123],[125],[59],[58],[44],[46],[61],[60],[43],[45],[42]]
def zat:Array Value:=(signRows.map fun s=>Value.string ⟨s.toArray⟩).toArray
theorem zje (w:Zw):Zg 102 #[] w fun e w'=>e=.returned (.slice (Zs w.heap.size 0) 14 14)/\w'=w.alloc (.cells zat 9):=by
 go_enter Tryz.func102,Tryz.ntmps102;go_wp2;go_ret;exact⟨rfl,rfl⟩
theorem zm9 (w:Zw):∀j,j<14->(w.alloc (.cells zat 9)).cell? ⟨w.heap.size,j,none⟩=some (.string ⟨(signRows.getD j []).toArray⟩):=by
 intro j c;rw[Ya _ _ _ _ (by rfl)];have g:j<signRows.length:=c;simp[zat,Y6 g]
theorem sign_row:∀j,j<14->(signRows.getD j [])≠[]/\(signRows.getD j []).length<=2:=by decide
theorem signs_first:∀b:Nat,b<256->zek (b:Int)=(signRows.any fun r=>hd r==(b:Int)):=by decide +kernel
theorem zln (b:UInt8) (t:Bool) (g:zaa (b.toNat:Int)=t) (w:Zw):ZC 140 #[.int .u8 (b.toNat:Int)] w (.bool t):=by
 obtain⟨x,U⟩:∃x:Int,(b.toNat:Int)=x:=⟨_,rfl⟩
 have u:=signs_first b.toNat (UInt8.toNat_lt b);rw[U]at g u;rw[U];clear U;by_cases c:zdh x=true
 ·have h:ZH (true=t):=by show _=_;rw[<-g,zaa,c];rfl
  clear g u;go_enter Tryz.func140,Tryz.ntmps140;go_wp2_with (go_at_call 159;refine(zag _ _).mono ?_;rintro e w' ⟨rfl,rfl⟩;rw[c]);go_ret;exact⟨zby h,Zr⟩
 ·have c:=(Yb _).mp c;by_cases j:zbw x=true
  ·have h:ZH (true=t):=by show _=_;rw[<-g,zaa,c,j];rfl
   clear g u;go_enter Tryz.func140,Tryz.ntmps140;go_wp2_with (first|(go_at_call 159;refine(zag _ _).mono ?_;rintro e w' ⟨rfl,rfl⟩;rw[c])|(go_at_call 160;refine(JR _ _).mono ?_;rintro e w' ⟨rfl,rfl⟩;rw[j]));go_ret;exact⟨zby h,Zr⟩
  ·have j:=(Yb _).mp j;by_cases s:Jl x=true
   ·have h:ZH (true=t):=by show _=_;rw[<-g,zaa,c,j,s];rfl
    clear g u;go_enter Tryz.func140,Tryz.ntmps140;go_wp2_with (first|(go_at_call 159;refine(zag _ _).mono ?_;rintro e w' ⟨rfl,rfl⟩;rw[c])|(go_at_call 160;refine(JR _ _).mono ?_;rintro e w' ⟨rfl,rfl⟩;rw[j])|(go_at_call 161;refine(za7 _ _).mono ?_;rintro e w' ⟨rfl,rfl⟩;rw[s]));go_ret;exact⟨zby h,Zr⟩
   ·have s:=(Yb _).mp s;by_cases G:x=34
    ·have h:ZH (true=t):=by show _=_;rw[<-g,zaa,c,j,s,G];rfl
     have q:(x==34)=true:=by simp[G]
     clear g u G;go_enter Tryz.func140,Tryz.ntmps140;go_wp2_with (first|(go_at_call 159;refine(zag _ _).mono ?_;rintro e w' ⟨rfl,rfl⟩;rw[c])|(go_at_call 160;refine(JR _ _).mono ?_;rintro e w' ⟨rfl,rfl⟩;rw[j])|(go_at_call 161;refine(za7 _ _).mono ?_;rintro e w' ⟨rfl,rfl⟩;rw[s]));go_ret;exact⟨zby h,Zr⟩
    ·have q:(x==34)=false:=by simpa using G
     have h:ZH (t=signRows.any fun r=>hd r==x):=by show _=_;rw[<-g,zaa,c,j,s,q,u];rfl
     clear g u G;go_enter Tryz.func140,Tryz.ntmps140;go_wp2_with (first|(go_at_call 159;refine(zag _ _).mono ?_;rintro e w' ⟨rfl,rfl⟩;rw[c])|(go_at_call 160;refine(JR _ _).mono ?_;rintro e w' ⟨rfl,rfl⟩;rw[j])|(go_at_call 161;refine(za7 _ _).mono ?_;rintro e w' ⟨rfl,rfl⟩;rw[s])|(go_at_call 102;refine(zje _).mono ?_;rintro e wv ⟨rfl,rfl⟩));have V:=J3 (zm9 w);have J:ZB w (w.alloc (.cells zat 9)):=Za _ _
     revert V J
     generalize w.alloc (.cells zat 9)=W1;intro V J
     go_loop [4] (fun i=>∃k:Nat,k<=14/\i=Zi k/\ZH (t=(signRows.drop k).any fun r=>hd r==x)) (fun i=>14-(intOf i).toNat)
     case atStart=>exact⟨0,by omega,rfl,h⟩
     case round=>
      obtain⟨k,hk,rfl,Y⟩:=hrel;by_cases Z:k<14
      ·have c0:=V k Z;obtain⟨L,_⟩:=sign_row k Z;have ae:(k:Int)<14:=by omega
       have ab:signRows.drop k=signRows.getD k []::signRows.drop (k+1):=by
        have ac:k<signRows.length:=Z;rw[Yt ac,Yo,Y6 ac];rfl
       have e:=J0 Y;rw[ab,List.any_cons]at e;clear ab Y
       revert c0 e L
       generalize signRows.getD k []=row;intro c0 L e;obtain⟨f,r,rfl⟩:=YX L;obtain⟨F,M⟩:∃F:Zy,(⟨(f::r).toArray⟩:Zy)=F:=⟨_,rfl⟩
       have I:0<F.size:=by rw[<-M];show 0<(f::r).toArray.size;simp
       have ad:(F[0]'I)=f:=by subst M;rfl
       have hh:hd (f::r)=((F[0]'I).toNat:Int):=by rw[ad];rfl
       rw[M]at c0;rw[hh]at e;clear M ad hh L;by_cases hw:((F[0]'I).toNat:Int)=x
       ·have aa:ZH (true=t):=by show _=_;rw[e];simp[hw]
        have q2:(((F[0]'I).toNat:Int)==x)=true:=by simpa using hw
        clear e h hw;go_wp2;go_ret;exact⟨zby aa,J⟩
       ·have q2:(((F[0]'I).toNat:Int)==x)=false:=by simpa using hw
        have HN:ZH (t=(signRows.drop (k+1)).any fun r=>hd r==x):=by rw[q2]at e;exact e
        clear e h hw;go_wp2
        go_round
        case rel=>exact⟨k+1,by omega,by go_num,HN⟩
        case measure=>simp[intOf];omega
      ·have aa:ZH (false=t):=by
        have e:=J0 Y;rw[Yg (by show signRows.length<=k;simp[signRows];omega)]at e;exact e.symm
       go_wp2;go_ret;exact⟨zby aa,J⟩
theorem skipN_true_no (c:UInt8) (r:Bs) (h:c≠10):zd5 true (c::r)=1+zd5 true r:=by rw[zd5,Y7 h]
theorem skipN_true_nl (r:Bs):zd5 true (10::r)=skip (10::r):=by simp[zd5,skip,zfv]
theorem ret_nat {a b:Nat} (h:a=b):Ending.returned (Zi (a:Int))=.returned (Zi (b:Int)):=by rw[h]
theorem skip_slash (l:Bs) (h:[47,47].isPrefixOf l=true):skip l=zd5 true l:=by rw[skip_two l h,zg5]
theorem rskip_any (s:Zy) (a z:Nat) (w:Zw) (h0:a<=s.size) (hs:s.size<=140737488355328) (hz:z=a+skip (s.data.toList.drop a)) :
  Zg 139 #[.string s,Zi a] w fun e w'=>e=.returned (Zi (z:Int))/\w=w':=by
 have HZ:=J3 hz;clear hz;go_enter Tryz.func139,Tryz.ntmps139;go_wp2
 go_loop [1] (fun i=>∃k:Nat,k<=s.size/\i=Zi k/\ZH (z=k+skip (s.data.toList.drop k))) (fun i=>s.size-(intOf i).toNat)
 case atStart=>exact⟨a,h0,rfl,HZ⟩
 case round=>
  obtain⟨k,hk,rfl,t⟩:=hrel;by_cases ab:k<s.size
  ·have hd:=drop_cons s k ab;have ae:(k:Int)<(s.size:Int):=by omega
   by_cases c:zfv (s[k].toNat:Int)=true
   ·have g:ZH (z=(k+1)+skip (s.data.toList.drop (k+1))):=by
     have e:=J0 t;rw[hd,skip_blank _ _ c]at e;show _=_;omega
    have L:((s[k].toNat:Int)==9)=true∨(((s[k].toNat:Int)==9)=false/\((s[k].toNat:Int)==10)=true)∨(((s[k].toNat:Int)==9)=false/\((s[k].toNat:Int)==10)=false/\((s[k].toNat:Int)==13)=true) ∨
      (((s[k].toNat:Int)==9)=false/\((s[k].toNat:Int)==10)=false/\((s[k].toNat:Int)==13)=false/\((s[k].toNat:Int)==32)=true):=by
     simp only[zfv,Bool.or_eq_true,Xn,Y3]at c ⊢;omega
    clear c hd;rcases L with I|⟨I,M⟩|⟨I,M,Y⟩|⟨I,M,Y,q4⟩
    all_goals
     go_wp2
     go_round
     case rel=>exact⟨k+1,by omega,by go_num,g⟩
     case measure=>simp[intOf];omega
   ·have c:=(Yb _).mp c;have L:((s[k].toNat:Int)==9)=false/\((s[k].toNat:Int)==10)=false/\((s[k].toNat:Int)==13)=false/\((s[k].toNat:Int)==32)=false:=by
     simp only[zfv,Bool.or_eq_false_iff]at c;exact⟨c.1.1.1,c.1.1.2,c.1.2,c.2⟩
    obtain⟨I,M,Y,q4⟩:=L;by_cases hp:[47,47].isPrefixOf (s.data.toList.drop k)=true
    ·have Z:k+1<s.size:=by
      rcases YW (k+1) s.size with h|h
      ·exact h
      ·rw[hd,Yg (by simp;omega)]at hp;simp[List.isPrefixOf]at hp
     have aa:=drop_cons s (k+1) Z;have J:s[k]=47/\s[k+1]=47:=by
      rw[hd,aa]at hp;simp[List.isPrefixOf]at hp;exact⟨hp.1.symm,hp.2.symm⟩
     have u:((s[k].toNat:Int) != 47)=false:=by rw[J.1];rfl
     have n2:((s[k+1].toNat:Int) != 47)=false:=by rw[J.2];rfl
     have n3:((k:Int)+1==(s.size:Int))=false:=by rw[Y3];omega
     have HR:ZH (z=k+zd5 true (s.data.toList.drop k)):=by
      have e:=J0 t;rw[skip_slash _ hp]at e;exact e
     have ac:s[k]≠10:=by rw[J.1];decide
     clear hp hd aa J t c;go_wp2
     go_loop [1] (fun i=>∃j:Nat,k<=j/\j<=s.size/\i=Zi j/\ZH (z=j+zd5 true (s.data.toList.drop j))) (fun i=>s.size-(intOf i).toNat)
     case atStart=>exact⟨k,by omega,by omega,rfl,HR⟩
     case round=>
      obtain⟨j,af,ag,rfl,x⟩:=hrel;by_cases hj:j<s.size
      ·have G:=drop_cons s j hj;have ah:(j:Int)<(s.size:Int):=by omega
       by_cases r:s[j]=10
       ·have m1:((s[j].toNat:Int) != 10)=false:=by rw[r];rfl
        have g:ZH (z=j+skip (s.data.toList.drop j)):=by
         have e:=J0 x;rw[G,r,skipN_true_nl,<-r,<-G]at e;exact e
        have ai:k<j:=by
         rcases YW k j with h|h
         ·exact h
         ·have:j=k:=by omega
          subst this;exact absurd r ac
        clear G r x;go_wp2
        go_round
        case rel=>exact⟨j,by omega,rfl,g⟩
        case measure=>simp[intOf];omega
       ·have m1:((s[j].toNat:Int) != 10)=true:=by
         simp only[bne_iff_ne,ne_eq];intro h;exact r (zbm (n:=10) (by decide) h)
        have g:ZH (z=(j+1)+zd5 true (s.data.toList.drop (j+1))):=by
         have e:=J0 x;rw[G,skipN_true_no _ _ r]at e;show _=_;omega
        clear G r x;go_wp2
        go_round
        case rel=>exact⟨j+1,by omega,by omega,by go_num,g⟩
        case measure=>simp[intOf];omega
      ·have g:ZH (z=j+skip (s.data.toList.drop j)):=by
        have e:=J0 x;rw[Yg (i:=j) (by rw[zb2];omega)]at e ⊢;exact e
       go_wp2
       go_round
       case rel=>exact⟨j,by omega,rfl,g⟩
       case measure=>simp[intOf];omega
    ·have hp:=(Yb _).mp hp;have g:ZH (z=k):=by
      have e:=J0 t;rw[hd]at e hp;rw[skip_none _ _ c hp]at e;exact e
     have ad:((s[k].toNat:Int) != 47)=true∨(((s[k].toNat:Int) != 47)=false/\((k:Int)+1==(s.size:Int))=true)∨(∃h:k+1<s.size,((s[k].toNat:Int) != 47)=false/\((k:Int)+1==(s.size:Int))=false/\((s[k+1].toNat:Int) != 47)=true):=by
      by_cases U:s[k]=47
      ·have u:((s[k].toNat:Int) != 47)=false:=by rw[U];rfl
       rcases YW (k+1) s.size with h|h
       ·refine .inr (.inr ⟨h,u,by rw[Y3];omega,?_⟩);simp only[bne_iff_ne,ne_eq];intro V;have c2:s[k+1]=47:=zbm (n:=47) (by decide) V;rw[hd,drop_cons s (k+1) h,U,c2]at hp;simp[List.isPrefixOf]at hp
       ·exact .inr (.inl ⟨u,by rw[Xn];omega⟩)
      ·left
       simp only[bne_iff_ne,ne_eq];intro V;exact U (zbm (n:=47) (by decide) V)
     clear hd hp t c;rcases ad with u|⟨u,n2⟩|⟨Z,u,n2,n3⟩
     all_goals
      go_wp2;go_ret;exact⟨ret_nat g.symm,rfl⟩
  ·have g:ZH (z=k):=by
    have e:=J0 t;rw[Yg (i:=k) (by rw[zb2];omega)]at e;exact e
   go_wp2;go_ret;exact⟨ret_nat g.symm,rfl⟩
def RCut (a:Nat):Cut->Value
 | .inl (o,y)=>zba (y:Int) ((a+o:Nat):Int)
 | .inr (k,s,v,m)=>zdi (a:Int) k ⟨s.toArray⟩ v ((a+m:Nat):Int)
theorem zam {a b:Value} (h:a=b):Ending.returned a=.returned b:=by rw[h]
theorem zkt {s:Bs} (h:zbw (hd s)=true):kindOf s=2:=by rw[kindOf,Ye h]
theorem rwords_small:∀x∈words,zbw (hd x)=false:=by decide +kernel
theorem word_kind' {s:Bs} (h:words.contains s=true):kindOf s=3:=by
 have:=rwords_small s (by simpa using h);rw[kindOf,this,h];rfl
theorem name_kind' {s:Bs} (h:zbw (hd s)=false) (c:words.contains s=false):kindOf s=1:=by rw[kindOf,h,c];rfl
theorem zbg {B:Nat} {w w1:Zw} (h:Below B w w1) {b:Nat} (c:B<=b) (v0 v1 v2 v3 v4 v5 v6:Value) :
  Below B w (((((((w1.setCell ⟨b,0,none⟩ v0).setCell ⟨b,1,none⟩ v1).setCell ⟨b,2,none⟩ v2).setCell ⟨b,3,none⟩ v3).setCell ⟨b,4,none⟩ v4).setCell ⟨b,5,none⟩ v5).setCell ⟨b,6,none⟩ v6):=
 (((zcj h c v0 v1 v2 v3).setCell (p:=⟨b,4,none⟩) c v4).setCell (p:=⟨b,5,none⟩) c v5).setCell (p:=⟨b,6,none⟩) c v6
theorem rname_any (s:Zy) (a:Nat) (w:Zw) (h0:a<s.size) (hs:s.size<=140737488355328) (hn:JG (s[a].toNat:Int)=true) (R:Value) (hR:RCut a (zau (s.data.toList.drop a))=R) :
  ZC 162 #[.string s,Zi a] w R:=by
 obtain⟨n,ac⟩:=Ze (Jt JG (s.data.toList.drop a))
 have ae:1+Jt JG (s.data.toList.drop a).tail=n:=by
  rw[ac,drop_cons s a h0,zbs _ _ _ hn];rfl
 have hle:a+n<=s.size:=by
  have:=ze5 JG (s.data.toList.drop a);rw[<-ac,List.length_drop,zb2]at this;omega
 have af:R=if 32<n then zba 2 ((a+32:Nat):Int)else zdi (a:Int) (kindOf ((s.data.toList.drop a).take n)) ⟨((s.data.toList.drop a).take n).toArray⟩ 0 ((a+n:Nat):Int):=by
  rw[<-hR,zau,ae]
  split <;> rfl
 have HR:=J3 af;have ai:=J3 ac;have al:1<=n:=by omega
 clear hR af ae ac;go_enter Tryz.func162,Tryz.ntmps162;go_wp2
 go_loop [5] (fun i=>∃k:Nat,a<=k/\k<=s.size/\k<=a+32/\k<=a+n/\i=Zi k/\ZH (a+n=k+Jt JG (s.data.toList.drop k))) (fun i=>s.size-(intOf i).toNat)
 case atStart=>exact⟨a,by omega,by omega,by omega,by omega,rfl,by show _=_;rw[J0 ai]⟩
 case round=>
  obtain⟨k,am,ag,an,ao,rfl,HK⟩:=hrel;by_cases aj:k<s.size
  ·have hd:=drop_cons s k aj;have ap:(k:Int)<(s.size:Int):=by omega
   by_cases Z:JG (s[k].toNat:Int)=true
   ·have HN:ZH (a+n=(k+1)+Jt JG (s.data.toList.drop (k+1))):=by
     have e:=J0 HK;rw[hd,zbs _ _ _ Z]at e;show _=_;omega
    have r:k+1<=a+n:=by have:=J0 HN;omega
    by_cases ah:k=a+32
    ·have q:((k:Int)-(a:Int)==32)=true:=by rw[Xn];omega
     have HW:ZH (zba 2 (k:Int)=R):=by
      show _=_;rw[J0 HR,Ye (by omega),ah]
     clear hd HK HR HN ah;go_wp2_with (first|(go_at_call 171;refine(zf1 _ _).mono ?_;rintro e w' ⟨rfl,rfl⟩;rw[Z])|(go_at_call 165;refine(zay _ _ _).mono ?_;rintro e w1 ⟨rfl,g⟩;obtain⟨c,hf⟩:=zbz g;dsimp only[zba]));exact Yi (v:=zba 2 (k:Int)) (by simp[results,Tryz.results162,go_sem,c,zba]) rfl ⟨zam HW,zbg (Za _ _ |>.trans (g.mono (by simp))) (Y5 _) _ _ _ _ _ _ _⟩
    ·have q:((k:Int)-(a:Int)==32)=false:=by rw[Y3];omega
     clear hd HK;go_wp2_with (first|(go_at_call 171;refine(zf1 _ _).mono ?_;rintro e w' ⟨rfl,rfl⟩;rw[Z]))
     go_round
     case rel=>exact⟨k+1,by omega,by omega,by omega,r,by go_num,HN⟩
     case measure=>simp[intOf];omega
   ·have Z:=(Yb _).mp Z;have r:k=a+n:=by
     have e:=J0 HK;rw[hd,zea _ _ _ Z]at e;omega
    have ad:¬32<n:=by omega
    have ak:k<=s.size:=ag;have HS:ZH ((⟨((s.data.toList.drop a).take n).toArray⟩:Zy)=s.extract a k):=by
     show _=_;rw[r];exact(zbe s a n).symm
    have u:Lx.hd ((s.data.toList.drop a).take n)=(s[a].toNat:Int):=by
     obtain⟨m,rfl⟩:∃m,n=m+1:=⟨n-1,by omega⟩
     rw[drop_cons s a h0];rfl
    have x:(s.extract a k).data.toList=(s.data.toList.drop a).take n:=by rw[<-J0 HS]
    have t:ZH (R=zdi (a:Int) (kindOf ((s.data.toList.drop a).take n)) (s.extract a k) 0 (k:Int)):=by
     show _=_;rw[J0 HR,Y7 ad,J0 HS,<-r]
    clear HR HS HK;by_cases j:zbw (s[a].toNat:Int)=true
    ·have G:ZH (zdi (a:Int) 2 (s.extract a k) 0 (k:Int)=R):=by show _=_;rw[J0 t,zkt (by rw[u];exact j)]
     clear t x u r;go_wp2_with (first|(go_at_call 171;refine(zf1 _ _).mono ?_;rintro e w' ⟨rfl,rfl⟩;rw[Z])|(go_at_call 160;refine(JR _ _).mono ?_;rintro e w' ⟨rfl,rfl⟩;rw[j]));exact Yi (v:=zdi (a:Int) 2 (s.extract a k) 0 (k:Int)) (by simp[results,Tryz.results162,go_sem,zdi]) rfl ⟨zam G,zfx _ _ _⟩
    ·have j:=(Yb _).mp j;by_cases hw:words.contains (s.extract a k).data.toList=true
     ·have G:ZH (zdi (a:Int) 3 (s.extract a k) 0 (k:Int)=R):=by show _=_;rw[J0 t,word_kind' (by rw[<-x];exact hw)]
      have WD:=J3 (fun W=>zi9 (s.extract a k) true hw W);clear t x u r hw;go_wp2_with (first|(go_at_call 171;refine(zf1 _ _).mono ?_;rintro e w' ⟨rfl,rfl⟩;rw[Z])|(go_at_call 160;refine(JR _ _).mono ?_;rintro e w' ⟨rfl,rfl⟩;rw[j])|(go_at_call 172;refine(WD _).mono ?_;rintro e w1 ⟨rfl,g⟩;obtain⟨c,hf⟩:=zbz g;have hz:=g.size));have aa:ZB w w1:=((Za _ _).alloc (by simp) _).trans (g.mono (by simp;omega));have h:∀o,(w1.setCell ⟨w.heap.size+1,1,none⟩ (Zi 3)).cell? ⟨w.heap.size,o,none⟩=w1.cell? ⟨w.heap.size,o,none⟩:=fun o=>World.cell?_setCell_other _ _ _ _ (by simp)
      have I:(w1.setCell ⟨w.heap.size+1,1,none⟩ (Zi 3)).cell? ⟨w.heap.size,0,none⟩=some (Zi 0):=by rw[h,c _ _ (by simp;omega)];exact(Yl _ _ ⟨w.heap.size,_,none⟩ (by simp)).trans (by rw[Ya _ _ _ _ (by rfl)];rfl)
      have J:(w1.setCell ⟨w.heap.size+1,1,none⟩ (Zi 3)).cell? ⟨w.heap.size,1,none⟩=some (Zi 0):=by rw[h,c _ _ (by simp;omega)];exact(Yl _ _ ⟨w.heap.size,_,none⟩ (by simp)).trans (by rw[Ya _ _ _ _ (by rfl)];rfl)
      have L:(w1.setCell ⟨w.heap.size+1,1,none⟩ (Zi 3)).cell? ⟨w.heap.size,2,none⟩=some (.string ⟨#[]⟩):=by rw[h,c _ _ (by simp;omega)];exact(Yl _ _ ⟨w.heap.size,_,none⟩ (by simp)).trans (by rw[Ya _ _ _ _ (by rfl)];rfl)
      have M:(w1.setCell ⟨w.heap.size+1,1,none⟩ (Zi 3)).cell? ⟨w.heap.size,3,none⟩=some (Zi 0):=by rw[h,c _ _ (by simp;omega)];exact(Yl _ _ ⟨w.heap.size,_,none⟩ (by simp)).trans (by rw[Ya _ _ _ _ (by rfl)];rfl)
      have U:(w1.setCell ⟨w.heap.size+1,1,none⟩ (Zi 3)).cell? ⟨w.heap.size,4,none⟩=some (Zi 0):=by rw[h,c _ _ (by simp;omega)];exact(Yl _ _ ⟨w.heap.size,_,none⟩ (by simp)).trans (by rw[Ya _ _ _ _ (by rfl)];rfl)
      have V:(w1.setCell ⟨w.heap.size+1,1,none⟩ (Zi 3)).cell? ⟨w.heap.size,5,none⟩=some (Zi 0):=by rw[h,c _ _ (by simp;omega)];exact(Yl _ _ ⟨w.heap.size,_,none⟩ (by simp)).trans (by rw[Ya _ _ _ _ (by rfl)];rfl)
      have Y:(w1.setCell ⟨w.heap.size+1,1,none⟩ (Zi 3)).cell? ⟨w.heap.size,6,none⟩=some (Zi 0):=by rw[h,c _ _ (by simp;omega)];exact(Yl _ _ ⟨w.heap.size,_,none⟩ (by simp)).trans (by rw[Ya _ _ _ _ (by rfl)];rfl)
      have ab:=aa.setCell (p:=⟨w.heap.size+1,1,none⟩) (Nat.le_succ _) (Zi 3);clear h c hf hz aa g
      revert I J L M U V Y ab
      generalize w1.setCell ⟨w.heap.size+1,1,none⟩ (Zi 3)=W2;intro I J L M U V Y ab;exact Yi (v:=zdi (a:Int) 3 (s.extract a k) 0 (k:Int)) (by simp[results,Tryz.results162,go_sem,I,J,L,M,U,V,Y,zdi]) rfl ⟨zam G,zbg ab (Y5 _) _ _ _ _ _ _ _⟩
     ·have hw:=(Yb _).mp hw;have G:ZH (zdi (a:Int) 1 (s.extract a k) 0 (k:Int)=R):=by show _=_;rw[J0 t,name_kind' (by rw[u];exact j) (by rw[<-x];exact hw)]
      have WD:=J3 (fun W=>zi9 (s.extract a k) false hw W);clear t x u r hw;go_wp2_with (first|(go_at_call 171;refine(zf1 _ _).mono ?_;rintro e w' ⟨rfl,rfl⟩;rw[Z])|(go_at_call 160;refine(JR _ _).mono ?_;rintro e w' ⟨rfl,rfl⟩;rw[j])|(go_at_call 172;refine(WD _).mono ?_;rintro e w1 ⟨rfl,g⟩;obtain⟨c,hf⟩:=zbz g;have hz:=g.size));have aa:ZB w w1:=((Za _ _).alloc (by simp) _).trans (g.mono (by simp;omega));have I:w1.cell? ⟨w.heap.size,0,none⟩=some (Zi 0):=by rw[c _ _ (by simp;omega)];exact(Yl _ _ ⟨w.heap.size,_,none⟩ (by simp)).trans (by rw[Ya _ _ _ _ (by rfl)];rfl)
      have J:w1.cell? ⟨w.heap.size,1,none⟩=some (Zi 0):=by rw[c _ _ (by simp;omega)];exact(Yl _ _ ⟨w.heap.size,_,none⟩ (by simp)).trans (by rw[Ya _ _ _ _ (by rfl)];rfl)
      have L:w1.cell? ⟨w.heap.size,2,none⟩=some (.string ⟨#[]⟩):=by rw[c _ _ (by simp;omega)];exact(Yl _ _ ⟨w.heap.size,_,none⟩ (by simp)).trans (by rw[Ya _ _ _ _ (by rfl)];rfl)
      have M:w1.cell? ⟨w.heap.size,3,none⟩=some (Zi 0):=by rw[c _ _ (by simp;omega)];exact(Yl _ _ ⟨w.heap.size,_,none⟩ (by simp)).trans (by rw[Ya _ _ _ _ (by rfl)];rfl)
      have U:w1.cell? ⟨w.heap.size,4,none⟩=some (Zi 0):=by rw[c _ _ (by simp;omega)];exact(Yl _ _ ⟨w.heap.size,_,none⟩ (by simp)).trans (by rw[Ya _ _ _ _ (by rfl)];rfl)
      have V:w1.cell? ⟨w.heap.size,5,none⟩=some (Zi 0):=by rw[c _ _ (by simp;omega)];exact(Yl _ _ ⟨w.heap.size,_,none⟩ (by simp)).trans (by rw[Ya _ _ _ _ (by rfl)];rfl)
      have Y:w1.cell? ⟨w.heap.size,6,none⟩=some (Zi 0):=by rw[c _ _ (by simp;omega)];exact(Yl _ _ ⟨w.heap.size,_,none⟩ (by simp)).trans (by rw[Ya _ _ _ _ (by rfl)];rfl)
      clear c hf hz g;exact Yi (v:=zdi (a:Int) 1 (s.extract a k) 0 (k:Int)) (by simp[results,Tryz.results162,go_sem,I,J,L,M,U,V,Y,zdi]) rfl ⟨zam G,zbg aa (Y5 _) _ _ _ _ _ _ _⟩
  ·have r:k=a+n:=by
    have e:=J0 HK;rw[Yg (i:=k) (by rw[zb2];omega),runLen_nil]at e;omega
   have ad:¬32<n:=by omega
   have ak:k<=s.size:=ag;have HS:ZH ((⟨((s.data.toList.drop a).take n).toArray⟩:Zy)=s.extract a k):=by
    show _=_;rw[r];exact(zbe s a n).symm
   have u:Lx.hd ((s.data.toList.drop a).take n)=(s[a].toNat:Int):=by
    obtain⟨m,rfl⟩:∃m,n=m+1:=⟨n-1,by omega⟩
    rw[drop_cons s a h0];rfl
   have x:(s.extract a k).data.toList=(s.data.toList.drop a).take n:=by rw[<-J0 HS]
   have t:ZH (R=zdi (a:Int) (kindOf ((s.data.toList.drop a).take n)) (s.extract a k) 0 (k:Int)):=by
    show _=_;rw[J0 HR,Y7 ad,J0 HS,<-r]
   clear HR HS HK;by_cases j:zbw (s[a].toNat:Int)=true
   ·have G:ZH (zdi (a:Int) 2 (s.extract a k) 0 (k:Int)=R):=by show _=_;rw[J0 t,zkt (by rw[u];exact j)]
    clear t x u r;go_wp2_with (first|(go_at_call 171;fail)|(go_at_call 160;refine(JR _ _).mono ?_;rintro e w' ⟨rfl,rfl⟩;rw[j]));exact Yi (v:=zdi (a:Int) 2 (s.extract a k) 0 (k:Int)) (by simp[results,Tryz.results162,go_sem,zdi]) rfl ⟨zam G,zfx _ _ _⟩
   ·have j:=(Yb _).mp j;by_cases hw:words.contains (s.extract a k).data.toList=true
    ·have G:ZH (zdi (a:Int) 3 (s.extract a k) 0 (k:Int)=R):=by show _=_;rw[J0 t,word_kind' (by rw[<-x];exact hw)]
     have WD:=J3 (fun W=>zi9 (s.extract a k) true hw W);clear t x u r hw;go_wp2_with (first|(go_at_call 171;fail)|(go_at_call 160;refine(JR _ _).mono ?_;rintro e w' ⟨rfl,rfl⟩;rw[j])|(go_at_call 172;refine(WD _).mono ?_;rintro e w1 ⟨rfl,g⟩;obtain⟨c,hf⟩:=zbz g;have hz:=g.size));have aa:ZB w w1:=((Za _ _).alloc (by simp) _).trans (g.mono (by simp;omega));have h:∀o,(w1.setCell ⟨w.heap.size+1,1,none⟩ (Zi 3)).cell? ⟨w.heap.size,o,none⟩=w1.cell? ⟨w.heap.size,o,none⟩:=fun o=>World.cell?_setCell_other _ _ _ _ (by simp)
     have I:(w1.setCell ⟨w.heap.size+1,1,none⟩ (Zi 3)).cell? ⟨w.heap.size,0,none⟩=some (Zi 0):=by rw[h,c _ _ (by simp;omega)];exact(Yl _ _ ⟨w.heap.size,_,none⟩ (by simp)).trans (by rw[Ya _ _ _ _ (by rfl)];rfl)
     have J:(w1.setCell ⟨w.heap.size+1,1,none⟩ (Zi 3)).cell? ⟨w.heap.size,1,none⟩=some (Zi 0):=by rw[h,c _ _ (by simp;omega)];exact(Yl _ _ ⟨w.heap.size,_,none⟩ (by simp)).trans (by rw[Ya _ _ _ _ (by rfl)];rfl)
     have L:(w1.setCell ⟨w.heap.size+1,1,none⟩ (Zi 3)).cell? ⟨w.heap.size,2,none⟩=some (.string ⟨#[]⟩):=by rw[h,c _ _ (by simp;omega)];exact(Yl _ _ ⟨w.heap.size,_,none⟩ (by simp)).trans (by rw[Ya _ _ _ _ (by rfl)];rfl)
     have M:(w1.setCell ⟨w.heap.size+1,1,none⟩ (Zi 3)).cell? ⟨w.heap.size,3,none⟩=some (Zi 0):=by rw[h,c _ _ (by simp;omega)];exact(Yl _ _ ⟨w.heap.size,_,none⟩ (by simp)).trans (by rw[Ya _ _ _ _ (by rfl)];rfl)
     have U:(w1.setCell ⟨w.heap.size+1,1,none⟩ (Zi 3)).cell? ⟨w.heap.size,4,none⟩=some (Zi 0):=by rw[h,c _ _ (by simp;omega)];exact(Yl _ _ ⟨w.heap.size,_,none⟩ (by simp)).trans (by rw[Ya _ _ _ _ (by rfl)];rfl)
     have V:(w1.setCell ⟨w.heap.size+1,1,none⟩ (Zi 3)).cell? ⟨w.heap.size,5,none⟩=some (Zi 0):=by rw[h,c _ _ (by simp;omega)];exact(Yl _ _ ⟨w.heap.size,_,none⟩ (by simp)).trans (by rw[Ya _ _ _ _ (by rfl)];rfl)
     have Y:(w1.setCell ⟨w.heap.size+1,1,none⟩ (Zi 3)).cell? ⟨w.heap.size,6,none⟩=some (Zi 0):=by rw[h,c _ _ (by simp;omega)];exact(Yl _ _ ⟨w.heap.size,_,none⟩ (by simp)).trans (by rw[Ya _ _ _ _ (by rfl)];rfl)
     have ab:=aa.setCell (p:=⟨w.heap.size+1,1,none⟩) (Nat.le_succ _) (Zi 3);clear h c hf hz aa g
     revert I J L M U V Y ab
     generalize w1.setCell ⟨w.heap.size+1,1,none⟩ (Zi 3)=W2;intro I J L M U V Y ab;exact Yi (v:=zdi (a:Int) 3 (s.extract a k) 0 (k:Int)) (by simp[results,Tryz.results162,go_sem,I,J,L,M,U,V,Y,zdi]) rfl ⟨zam G,zbg ab (Y5 _) _ _ _ _ _ _ _⟩
    ·have hw:=(Yb _).mp hw;have G:ZH (zdi (a:Int) 1 (s.extract a k) 0 (k:Int)=R):=by show _=_;rw[J0 t,name_kind' (by rw[u];exact j) (by rw[<-x];exact hw)]
     have WD:=J3 (fun W=>zi9 (s.extract a k) false hw W);clear t x u r hw;go_wp2_with (first|(go_at_call 171;fail)|(go_at_call 160;refine(JR _ _).mono ?_;rintro e w' ⟨rfl,rfl⟩;rw[j])|(go_at_call 172;refine(WD _).mono ?_;rintro e w1 ⟨rfl,g⟩;obtain⟨c,hf⟩:=zbz g;have hz:=g.size));have aa:ZB w w1:=((Za _ _).alloc (by simp) _).trans (g.mono (by simp;omega));have I:w1.cell? ⟨w.heap.size,0,none⟩=some (Zi 0):=by rw[c _ _ (by simp;omega)];exact(Yl _ _ ⟨w.heap.size,_,none⟩ (by simp)).trans (by rw[Ya _ _ _ _ (by rfl)];rfl)
     have J:w1.cell? ⟨w.heap.size,1,none⟩=some (Zi 0):=by rw[c _ _ (by simp;omega)];exact(Yl _ _ ⟨w.heap.size,_,none⟩ (by simp)).trans (by rw[Ya _ _ _ _ (by rfl)];rfl)
     have L:w1.cell? ⟨w.heap.size,2,none⟩=some (.string ⟨#[]⟩):=by rw[c _ _ (by simp;omega)];exact(Yl _ _ ⟨w.heap.size,_,none⟩ (by simp)).trans (by rw[Ya _ _ _ _ (by rfl)];rfl)
     have M:w1.cell? ⟨w.heap.size,3,none⟩=some (Zi 0):=by rw[c _ _ (by simp;omega)];exact(Yl _ _ ⟨w.heap.size,_,none⟩ (by simp)).trans (by rw[Ya _ _ _ _ (by rfl)];rfl)
     have U:w1.cell? ⟨w.heap.size,4,none⟩=some (Zi 0):=by rw[c _ _ (by simp;omega)];exact(Yl _ _ ⟨w.heap.size,_,none⟩ (by simp)).trans (by rw[Ya _ _ _ _ (by rfl)];rfl)
     have V:w1.cell? ⟨w.heap.size,5,none⟩=some (Zi 0):=by rw[c _ _ (by simp;omega)];exact(Yl _ _ ⟨w.heap.size,_,none⟩ (by simp)).trans (by rw[Ya _ _ _ _ (by rfl)];rfl)
     have Y:w1.cell? ⟨w.heap.size,6,none⟩=some (Zi 0):=by rw[c _ _ (by simp;omega)];exact(Yl _ _ ⟨w.heap.size,_,none⟩ (by simp)).trans (by rw[Ya _ _ _ _ (by rfl)];rfl)
     clear c hf hz g;exact Yi (v:=zdi (a:Int) 1 (s.extract a k) 0 (k:Int)) (by simp[results,Tryz.results162,go_sem,I,J,L,M,U,V,Y,zdi]) rfl ⟨zam G,zbg aa (Y5 _) _ _ _ _ _ _ _⟩
namespace Lx
def zaq:Bs->Nat->Nat
 | [],u=>u
 | c::r,u=>zaq r (u*10+(c.toNat-48))
theorem digVal_ge:∀(l:Bs) (u:Nat),u<=zaq l u
 | [],_=>Y5 _
 | c::r,u=>by have:=digVal_ge r (u*10+(c.toNat-48));rw[zaq];omega
theorem digVal_app:∀(a b:Bs) (u:Nat),zaq (a++b) u=zaq b (zaq a u)
 | [],_,_=>rfl
 | _::a,b,_=>digVal_app a b _
theorem digVal_lt:∀(l:Bs) (u:Nat),(∀c∈l,Jl (c.toNat:Int)=true)->zaq l u<(u+1)*10 ^ l.length
 | [],u,_=>by simp[zaq]
 | c::r,u,h=>by
  have g:Jl (c.toNat:Int)=true:=h c (by simp);simp only[Jl,Yc,Xb]at g;have:=digVal_lt r (u*10+(c.toNat-48)) (fun x j=>h x (by simp[j]));rw[zaq,Yk,Nat.pow_succ,Nat.mul_comm (10 ^ r.length),<-Nat.mul_assoc];refine Yz this (Nat.mul_le_mul_right _ (by omega))
theorem fold_val:∀(l:Bs) (u:Nat),(∀c∈l,Jl (c.toNat:Int)=true)->za4 l (u:Int)=if zaq l u<=9223372036854775807∨l=[]then some (zaq l u:Int)else none
 | [],u,_=>by simp[za4,zaq]
 | c::r,u,h=>by
  have s:Jl (c.toNat:Int)=true:=h c (by simp);simp only[Jl,Yc,Xb]at s;have t:=fold_val r (u*10+(c.toNat-48)) (fun x G=>h x (by simp[G]));have e:((u:Int)*10+((c.toNat:Int)-48))=((u*10+(c.toNat-48):Nat):Int):=by omega
  rw[za4,zaq,e,t];have J:=digVal_ge r (u*10+(c.toNat-48));by_cases g:zaq r (u*10+(c.toNat-48))<=9223372036854775807
  ·rw[Y7 (by omega),Ye (.inl g),Ye (.inl g)]
  ·have I:(if zaq r (u*10+(c.toNat-48))<=9223372036854775807∨c::r=[]then some (zaq r (u*10+(c.toNat-48)):Int)else none)=none:=Y7 (by simp[g]);rw[I];by_cases j:(9223372036854775807-((c.toNat:Int)-48)) / 10<(u:Int)
   ·rw[Ye j]
   ·rw[Y7 j]
    cases r with
    | nil=>
     exfalso;apply g;show u*10+(c.toNat-48)<=_;omega
    | cons d r=>rw[Y7 (by simp[g])]
theorem number_val {g:Bs} (h:∀c∈g,Jl (c.toNat:Int)=true) (r:g≠[]):number g=if (hd g=48/\1<g.length)∨¬zaq g 0<=9223372036854775807 then none else some (zaq g 0:Int):=by
 unfold number;by_cases hz:hd g=48/\1<g.length
 ·rw[Ye hz,Ye (.inl hz)]
 ·rw[Y7 hz];have:=fold_val g 0 h;rw[show((0:Nat):Int)=0 from rfl]at this;rw[this];by_cases j:zaq g 0<=9223372036854775807
  ·rw[Ye (.inl j),Y7 (by simp[hz,j])]
  ·rw[Y7 (by simp[j,r]),Ye (.inr j)]
theorem digVal_big:∀(l:Bs) (u:Nat),(∀c∈l,Jl (c.toNat:Int)=true)->u*10 ^ l.length<=zaq l u
 | [],u,_=>by simp[zaq]
 | c::r,u,h=>by
  have:=digVal_big r (u*10+(c.toNat-48)) (fun x g=>h x (by simp[g]));rw[zaq,Yk,Nat.pow_succ,Nat.mul_comm (10 ^ r.length),<-Nat.mul_assoc];exact Yh (Nat.mul_le_mul_right _ (by omega)) this
theorem digVal_20 {l:Bs} (h:∀c∈l,Jl (c.toNat:Int)=true) (g:20<=l.length):(hd l=48/\1<l.length)∨¬zaq l 0<=9223372036854775807:=by
 cases l with
 | nil=>simp at g
 | cons c r=>
  have j:Jl (c.toNat:Int)=true:=h c (by simp);simp only[Jl,Yc,Xb]at j;rw[Yk]at g;by_cases hz:hd (c::r)=48
  ·exact .inl ⟨hz,by rw[Yk];omega⟩
  ·right
   have u:(c.toNat:Int)≠48:=hz;have G:=digVal_big r (0*10+(c.toNat-48)) (fun x s=>h x (by simp[s]));have t:10 ^ 19<=10 ^ r.length:=Nat.pow_le_pow_right (by omega) (by omega);rw[show(10:Nat) ^ 19=10000000000000000000 from by decide]at t;have I:1*10 ^ r.length<=(0*10+(c.toNat-48))*10 ^ r.length:=Nat.mul_le_mul_right _ (by omega);show ¬zaq r (0*10+(c.toNat-48))<=_;omega
end Lx
theorem rnumber_any (s:Zy) (a:Nat) (w:Zw) (h0:a<s.size) (hs:s.size<=140737488355328) (hn:Jl (s[a].toNat:Int)=true) (R:Value) (hR:RCut a (Jz (s.data.toList.drop a))=R) :
  ZC 163 #[.string s,Zi a] w R:=by
 obtain⟨n,ae⟩:=Ze (Jt Jl (s.data.toList.drop a))
 have ak:zal (s.data.toList.drop a)=n:=by
  rw[ae,zal,drop_cons s a h0,zbs _ _ _ hn];rfl
 have hle:a+n<=s.size:=by
  have:=ze5 Jl (s.data.toList.drop a);rw[<-ae,List.length_drop,zb2]at this;omega
 have aF:1<=n:=by rw[<-ak,zal];omega
 obtain⟨D,hD⟩:=Ze ((s.data.toList.drop a).take n:Bs)
 have ai:D.length=n:=by rw[hD,YE,List.length_drop,zb2];omega
 have af:∀c∈D,Jl (c.toNat:Int)=true:=by rw[hD,ae];exact run_all Jl _
 have al:Lx.hd D=(s[a].toNat:Int):=by
  obtain⟨m,rfl⟩:∃m,n=m+1:=⟨n-1,by omega⟩
  rw[hD,drop_cons s a h0];rfl
 have aq:D≠[]:=by intro e;rw[e]at ai;simp at ai;omega
 have ag:=number_val af aq;have am:(s.data.toList.drop a).drop n=s.data.toList.drop (a+n):=by rw[List.drop_drop]
 have aj:R=match number D with
   | none=>zba 11 (a:Int)
   | some v=>if s.data.toList.drop (a+n)≠[]/\JG (Lx.hd (s.data.toList.drop (a+n)))=true then zba 11 (a:Int)else zdi (a:Int) 4 ⟨#[]⟩ v ((a+n:Nat):Int):=by
  rw[<-hR,Jz,ak,<-hD,am]
  cases number D with
  | none=>rfl
  | some v=>
   simp only
   split <;> rfl
 have t:ZH (((Lx.hd D=48/\1<n)∨¬zaq D 0<=9223372036854775807->zba 11 (a:Int)=R)/\(¬((Lx.hd D=48/\1<n)∨¬zaq D 0<=9223372036854775807)->(s.data.toList.drop (a+n)≠[]/\JG (Lx.hd (s.data.toList.drop (a+n)))=true->zba 11 (a:Int)=R) /\
   (¬(s.data.toList.drop (a+n)≠[]/\JG (Lx.hd (s.data.toList.drop (a+n)))=true)->zdi (a:Int) 4 ⟨#[]⟩ (zaq D 0:Int) ((a+n:Nat):Int)=R))):=by
  rw[ai]at ag;refine⟨fun h=>?_,fun h=>⟨fun G=>?_,fun G=>?_⟩⟩
  ·rw[aj,ag,Ye h]
  ·rw[aj,ag,Y7 h];simp only;rw[Ye G]
  ·rw[aj,ag,Y7 h];simp only;rw[Y7 G]
 rw[al]at t;have HK:ZH (∀k,a<=k->k<a+n->∃h:k<s.size,Jl (s[k].toNat:Int)=true/\D.take (k+1-a)=D.take (k-a)++[s[k]]):=by
  intro k V G;have I:k<s.size:=by omega
  have he:D[k-a]?=some s[k]:=by
   rw[hD,List.getElem?_take_of_lt (by omega),List.getElem?_drop,show a+(k-a)=k from by omega,<-List.head?_drop,drop_cons s k I];rfl
  refine⟨I,af _ (YK he),?_⟩;rw[show k+1-a=(k-a)+1 from by omega,List.take_add_one,he];rfl
 have HE:ZH (a+n=s.size∨∃h:a+n<s.size,Jl (s[a+n].toNat:Int)=false):=by
  have:=run_rest Jl (s.data.toList.drop a);rw[<-ae,am]at this;rcases YW (a+n) s.size with h|h
  ·right
   refine⟨h,?_⟩;rw[drop_cons s (a+n) h]at this;exact this.resolve_left (by simp)
  ·left;omega
 have HV:ZH (∀k,a<=k->k<=a+n->k<=a+19->zaq (D.take (k-a)) 0<10 ^ (k-a)):=by
  intro k V G h3;have:=digVal_lt (D.take (k-a)) 0 (fun c x=>af c (List.mem_of_mem_take x));rw[YE,show min (k-a) D.length=k-a from by omega]at this;omega
 have hT:D.take n=D:=YS (by omega);have HT:=J3 hT;have ar:ZH (20<=n->((s[a].toNat:Int)=48/\1<n)∨¬zaq D 0<=9223372036854775807):=by
  intro h;have:=digVal_20 af (by omega);rw[al,ai]at this;exact this
 clear hR aj ag ak ae hD af al aq am hT hn;go_enter Tryz.func163,Tryz.ntmps163;go_wp2
 go_loop [5,6] (fun i u=>∃(k v:Nat),a<=k/\k<=a+n/\k<=a+19/\i=Zi k/\u=.int .u64 (v:Int)/\ZH (v=zaq (D.take (k-a)) 0)) (fun i _=>s.size-(intOf i).toNat)
 case atStart=>exact⟨a,0,by omega,by omega,by omega,rfl,rfl,by show _=_;rw[Nat.sub_self];rfl⟩
 case round=>
  obtain⟨k,v,an,au,av,rfl,rfl,Y⟩:=hrel;by_cases aA:k<a+n
  ·obtain⟨ao,J,ap⟩:=HK k an aA;have aG:(k:Int)<(s.size:Int):=by omega
   by_cases aw:k=a+19
   ·have q:18<(k:Int)-(a:Int):=by omega
    have r:ZH (zba 11 (a:Int)=R):=t.1 (ar (by omega));clear t Y HK HV HE aw ap;go_wp2_with (first|(go_at_call 161;refine(za7 _ _).mono ?_;rintro e w' ⟨rfl,rfl⟩;rw[J])|(go_at_call 165;refine(zay _ _ _).mono ?_;rintro e w1 ⟨rfl,g⟩;obtain⟨x,Z⟩:=zbz g;dsimp only[zba]));exact Yi (v:=zba 11 (a:Int)) (by simp[results,Tryz.results163,go_sem,x,zba]) rfl ⟨zam r,zbg (Za _ _ |>.trans (g.mono (by simp))) (Y5 _) _ _ _ _ _ _ _⟩
   ·have q:(k:Int)-(a:Int)<=18:=by omega
    have hv:v<1000000000000000000:=by
     have V:=HV k an au av;rw[<-J0 Y]at V;have G:10 ^ (k-a)<=10 ^ 18:=Nat.pow_le_pow_right (by omega) (by omega);rw[show(10:Nat) ^ 18=1000000000000000000 from by decide]at G;omega
    have aB:48<=(s[k].toNat:Int)/\(s[k].toNat:Int)<=57:=by simpa[Jl]using J
    obtain⟨d48,d57⟩:=aB;have HN:ZH (v*10+(s[k].toNat-48)=zaq (D.take (k+1-a)) 0):=by
     show _=_;rw[ap,digVal_app,<-J0 Y];rfl
    clear Y HK HV HE aw ap t;go_wp2_with (first|(go_at_call 161;refine(za7 _ _).mono ?_;rintro e w' ⟨rfl,rfl⟩;rw[J]))
    go_round
    case rel=>exact⟨k+1,v*10+(s[k].toNat-48),by omega,by omega,by omega,by go_num,by go_num,HN⟩
    case measure=>simp[intOf];omega
  ·have I:k=a+n:=by omega
   have hv:v=zaq D 0:=by
    rw[J0 Y,I,Nat.add_sub_cancel_left,J0 HT]
   have aC:v<10000000000000000000:=by
    have V:=HV _ an au av;rw[<-J0 Y,I,Nat.add_sub_cancel_left]at V;have G:10 ^ n<=10 ^ 19:=Nat.pow_le_pow_right (by omega) (by omega);rw[show(10:Nat) ^ 19=10000000000000000000 from by decide]at G;omega
   rw[<-hv,<-I]at t;have ax:=J0 HE;rw[<-I]at ax;clear Y HK HV HE HT ar hv;have ay:((s[a].toNat:Int)=48/\1<n)∨(((s[a].toNat:Int)==48)=true/\¬1<n)∨((s[a].toNat:Int)==48)=false:=by
    by_cases h:(s[a].toNat:Int)=48
    ·by_cases G:1<n
     ·exact .inl ⟨h,G⟩
     ·exact .inr (.inl ⟨by simp[h],G⟩)
    ·exact .inr (.inr (by simpa using h))
   have ad:((((s[a].toNat:Int)==48)=true/\¬1<n)∨((s[a].toNat:Int)==48)=false)->¬((s[a].toNat:Int)=48/\1<n):=by
    rintro(⟨_,h⟩|h) ⟨V,G⟩
    ·exact h G
    ·rw[V]at h;simp at h
   rcases ax with aH|⟨ao,J⟩
   ·have aI:(k:Int)=(s.size:Int):=by omega
    rcases ay with⟨j,z2⟩|aa
    ·have r:ZH (zba 11 (a:Int)=R):=t.1 (.inl ⟨j,z2⟩);have aD:((s[a].toNat:Int)==48)=true:=by simp[j]
     have aE:(a:Int)+1<(k:Int):=by omega
     clear t ad j z2 I;go_wp2_with (first|(go_at_call 161;fail)|(go_at_call 165;refine(zay _ _ _).mono ?_;rintro e w1 ⟨rfl,g⟩;obtain⟨x,Z⟩:=zbz g;dsimp only[zba]));exact Yi (v:=zba 11 (a:Int)) (by simp[results,Tryz.results163,go_sem,x,zba]) rfl ⟨zam r,zbg (Za _ _ |>.trans (g.mono (by simp))) (Y5 _) _ _ _ _ _ _ _⟩
    ·have ab:=ad aa;have U:(((s[a].toNat:Int)==48)=true/\(k:Int)<=(a:Int)+1)∨((s[a].toNat:Int)==48)=false:=or_map aa (fun h=>⟨h.1,by omega⟩) id;clear ad aa;by_cases L:v<=9223372036854775807
     ·have ah:¬9223372036854775808<=(v:Int):=by omega
      have r:ZH (zdi (a:Int) 4 ⟨#[]⟩ (v:Int) (k:Int)=R):=(t.2 (by rintro(h|h);exact ab h;exact h L)).2 (by rintro⟨h,_⟩;exact h (Yg (by rw[zb2];omega)));clear t ab L I;rcases U with⟨j,z2⟩|j
      all_goals
       go_wp2_with (first|(go_at_call 161;fail));exact Yi (v:=zdi (a:Int) 4 ⟨#[]⟩ (v:Int) (k:Int)) (by simp[results,Tryz.results163,go_sem,zdi];omega) rfl ⟨zam r,zfx _ _ _⟩
     ·have ah:9223372036854775808<=(v:Int):=by omega
      have r:ZH (zba 11 (a:Int)=R):=t.1 (.inr L);clear t ab L I;rcases U with⟨j,z2⟩|j
      all_goals
       go_wp2_with (first|(go_at_call 161;fail)|(go_at_call 165;refine(zay _ _ _).mono ?_;rintro e w1 ⟨rfl,g⟩;obtain⟨x,Z⟩:=zbz g;dsimp only[zba]));exact Yi (v:=zba 11 (a:Int)) (by simp[results,Tryz.results163,go_sem,x,zba]) rfl ⟨zam r,zbg (Za _ _ |>.trans (g.mono (by simp))) (Y5 _) _ _ _ _ _ _ _⟩
   ·have aJ:(k:Int)<(s.size:Int):=by omega
    rcases ay with⟨j,z2⟩|aa
    ·have r:ZH (zba 11 (a:Int)=R):=t.1 (.inl ⟨j,z2⟩);have aD:((s[a].toNat:Int)==48)=true:=by simp[j]
     have aE:(a:Int)+1<(k:Int):=by omega
     clear t ad j z2 I;go_wp2_with (first|(go_at_call 161;refine(za7 _ _).mono ?_;rintro e w' ⟨rfl,rfl⟩;rw[J])|(go_at_call 165;refine(zay _ _ _).mono ?_;rintro e w1 ⟨rfl,g⟩;obtain⟨x,Z⟩:=zbz g;dsimp only[zba]));exact Yi (v:=zba 11 (a:Int)) (by simp[results,Tryz.results163,go_sem,x,zba]) rfl ⟨zam r,zbg (Za _ _ |>.trans (g.mono (by simp))) (Y5 _) _ _ _ _ _ _ _⟩
    ·have ab:=ad aa;have U:(((s[a].toNat:Int)==48)=true/\(k:Int)<=(a:Int)+1)∨((s[a].toNat:Int)==48)=false:=or_map aa (fun h=>⟨h.1,by omega⟩) id;clear ad aa;by_cases L:v<=9223372036854775807
     ·have ah:¬9223372036854775808<=(v:Int):=by omega
      have az:JG (Lx.hd (s.data.toList.drop k))=(zdh (s[k].toNat:Int)||zbw (s[k].toNat:Int)||((s[k].toNat:Int)==95)):=by
       rw[hd_at s k ao,JG,J];simp
      have ac:s.data.toList.drop k≠[]:=by rw[drop_cons s k ao];simp
      have M:=t.2 (by rintro(h|h);exact ab h;exact h L);rw[az]at M;clear t ab az L I;by_cases f1:zdh (s[k].toNat:Int)=true
      ·have r:ZH (zba 11 (a:Int)=R):=M.1 ⟨ac,by rw[f1];rfl⟩;clear M ac;rcases U with⟨j,z2⟩|j
       all_goals
        go_wp2_with (first|(go_at_call 161;refine(za7 _ _).mono ?_;rintro e w' ⟨rfl,rfl⟩;rw[J])|(go_at_call 159;refine(zag _ _).mono ?_;rintro e w' ⟨rfl,rfl⟩;rw[f1])|(go_at_call 165;refine(zay _ _ _).mono ?_;rintro e w1 ⟨rfl,g⟩;obtain⟨x,Z⟩:=zbz g;dsimp only[zba]));exact Yi (v:=zba 11 (a:Int)) (by simp[results,Tryz.results163,go_sem,x,zba]) rfl ⟨zam r,zbg (Za _ _ |>.trans (g.mono (by simp))) (Y5 _) _ _ _ _ _ _ _⟩
      ·have f1:=(Yb _).mp f1;by_cases f2:zbw (s[k].toNat:Int)=true
       ·have r:ZH (zba 11 (a:Int)=R):=M.1 ⟨ac,by rw[f1,f2];rfl⟩;clear M ac;rcases U with⟨j,z2⟩|j
        all_goals
         go_wp2_with (first|(go_at_call 161;refine(za7 _ _).mono ?_;rintro e w' ⟨rfl,rfl⟩;rw[J])|(go_at_call 159;refine(zag _ _).mono ?_;rintro e w' ⟨rfl,rfl⟩;rw[f1])|(go_at_call 160;refine(JR _ _).mono ?_;rintro e w' ⟨rfl,rfl⟩;rw[f2])|(go_at_call 165;refine(zay _ _ _).mono ?_;rintro e w1 ⟨rfl,g⟩;obtain⟨x,Z⟩:=zbz g;dsimp only[zba]));exact Yi (v:=zba 11 (a:Int)) (by simp[results,Tryz.results163,go_sem,x,zba]) rfl ⟨zam r,zbg (Za _ _ |>.trans (g.mono (by simp))) (Y5 _) _ _ _ _ _ _ _⟩
       ·have f2:=(Yb _).mp f2;by_cases f3:((s[k].toNat:Int)==95)=true
        ·have r:ZH (zba 11 (a:Int)=R):=M.1 ⟨ac,by rw[f1,f2,f3];rfl⟩;clear M ac;rcases U with⟨j,z2⟩|j
         all_goals
          go_wp2_with (first|(go_at_call 161;refine(za7 _ _).mono ?_;rintro e w' ⟨rfl,rfl⟩;rw[J])|(go_at_call 159;refine(zag _ _).mono ?_;rintro e w' ⟨rfl,rfl⟩;rw[f1])|(go_at_call 160;refine(JR _ _).mono ?_;rintro e w' ⟨rfl,rfl⟩;rw[f2])|(go_at_call 165;refine(zay _ _ _).mono ?_;rintro e w1 ⟨rfl,g⟩;obtain⟨x,Z⟩:=zbz g;dsimp only[zba]));exact Yi (v:=zba 11 (a:Int)) (by simp[results,Tryz.results163,go_sem,x,zba]) rfl ⟨zam r,zbg (Za _ _ |>.trans (g.mono (by simp))) (Y5 _) _ _ _ _ _ _ _⟩
        ·have f3:=(Yb _).mp f3;have r:ZH (zdi (a:Int) 4 ⟨#[]⟩ (v:Int) (k:Int)=R):=M.2 (by rintro⟨_,h⟩;rw[f1,f2,f3]at h;cases h);have e4:IntKind.i64.wrap (v:Int)=(v:Int):=by rw[YJ];omega
         have q9:decide ((9223372036854775808:Int)<=(v:Int))=false:=Ym ah;clear M ac ah aC;rcases U with⟨j,z2⟩|j
         all_goals
          go_wp2_with (first|(go_at_call 161;refine(za7 _ _).mono ?_;rintro e w' ⟨rfl,rfl⟩;rw[J])|(go_at_call 159;refine(zag _ _).mono ?_;rintro e w' ⟨rfl,rfl⟩;rw[f1])|(go_at_call 160;refine(JR _ _).mono ?_;rintro e w' ⟨rfl,rfl⟩;rw[f2]));exact Yi (v:=zdi (a:Int) 4 ⟨#[]⟩ (v:Int) (k:Int)) (by simp[results,Tryz.results163,go_sem,zdi]) rfl ⟨zam r,zfx _ _ _⟩
     ·have ah:9223372036854775808<=(v:Int):=by omega
      have r:ZH (zba 11 (a:Int)=R):=t.1 (.inr L);clear t ab L I;rcases U with⟨j,z2⟩|j
      all_goals
       go_wp2_with (first|(go_at_call 161;refine(za7 _ _).mono ?_;rintro e w' ⟨rfl,rfl⟩;rw[J])|(go_at_call 165;refine(zay _ _ _).mono ?_;rintro e w1 ⟨rfl,g⟩;obtain⟨x,Z⟩:=zbz g;dsimp only[zba]));exact Yi (v:=zba 11 (a:Int)) (by simp[results,Tryz.results163,go_sem,x,zba]) rfl ⟨zam r,zbg (Za _ _ |>.trans (g.mono (by simp))) (Y5 _) _ _ _ _ _ _ _⟩
end Go.Proofs.YtdcbglnhhbmpgaaGreatDoor
