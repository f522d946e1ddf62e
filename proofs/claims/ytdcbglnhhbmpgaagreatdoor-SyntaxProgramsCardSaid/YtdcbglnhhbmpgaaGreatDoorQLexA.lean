import Derived.Test.YtdcbglnhhbmpgaaGreatDoorQZ
import Derived.Test.YtdcbglnhhbmpgaaGreatDoorProg
import Derived.Test.YtdcbglnhhbmpgaaGreatDoorQShelf
import Derived.WalkKit
import Derived.WalkLawsBesides
import Derived.Outline
import Derived.Handy
import Derived.Deep.DeepFit
set_option maxHeartbeats 1000000
set_option maxRecDepth 100000
namespace Go.Proofs.YtdcbglnhhbmpgaaGreatDoor
namespace Lx
def zfv (b:Int):Bool:=b==9||b==10||b==13||b==32
def zdh (b:Int):Bool:=decide (97<=b)&&decide (b<=122)
def zbw (b:Int):Bool:=decide (65<=b)&&decide (b<=90)
def Jl (b:Int):Bool:=decide (48<=b)&&decide (b<=57)
def signs:List Int:=[40,41,123,125,59,58,44,46,61,60,43,45,42]
def zek (b:Int):Bool:=signs.contains b
def JG (b:Int):Bool:=zdh b||zbw b||Jl b||b==95
def zaa (b:Int):Bool:=zdh b||zbw b||Jl b||b==34||zek b
def zbf (b:Int):Bool:=decide (32<=b)&&decide (b<=126)
def escB (b:Int):Int:=if b=110 then 10 else if b=34 then 34 else if b=92 then 92 else 0
def zfm (b:Int):Bool:=b==110||b==34||b==92
abbrev Bs:=List UInt8
def zd5:Bool->Bs->Nat
 | _,[]=>0
 | true,c::r=>if c=10 then 1+zd5 false r else 1+zd5 true r
 | false,c::r=>if zfv (c.toNat:Int)=true then 1+zd5 false r else if c=47/\r.head?=some 47 then 1+zd5 true r else 0
def skip (l:Bs):Nat:=zd5 false l
theorem ziv:∀(l:Bs) (b:Bool),zd5 b l<=l.length
 | [],b=>by cases b <;> simp[zd5]
 | c::r,true=>by
  have g:=ziv r true;have h:=ziv r false;simp only[zd5,Yk];split <;> omega
 | c::r,false=>by
  have g:=ziv r true;have h:=ziv r false;simp only[zd5,Yk];split
  ·omega
  ·split <;> omega
theorem skip_le (l:Bs):skip l<=l.length:=ziv l false
theorem zg5:∀(l:Bs),zd5 true l=l.findIdx (· == 10)+skip (l.drop (l.findIdx (· == 10)))
 | []=>by simp[zd5,skip]
 | c::r=>by
  have g:=zg5 r;by_cases h:c=10
  ·subst h;simp[zd5,skip,List.findIdx_cons,zfv]
  ·have j:(c==10)=false:=by simpa using h
   simp only[zd5,h,if_false,List.findIdx_cons,j,cond_false,List.drop_succ_cons,g];omega
theorem skip_blank (c:UInt8) (r:Bs) (h:zfv (c.toNat:Int)=true):skip (c::r)=1+skip r:=by simp[skip,zd5,h]
theorem skip_two (l:Bs) (h:[47,47].isPrefixOf l=true):skip l=l.findIdx (· == 10)+skip (l.drop (l.findIdx (· == 10))):=by
 match l,h with
 | [],h=>simp[List.isPrefixOf]at h
 | [c],h=>simp[List.isPrefixOf]at h
 | c::d::r,h=>
  simp[List.isPrefixOf]at h;obtain⟨rfl,rfl⟩:=h;have e:skip (47::47::r)=zd5 true (47::47::r):=by simp[skip,zd5,zfv]
  rw[e,zg5]
theorem skip_none (c:UInt8) (r:Bs) (h:zfv (c.toNat:Int)=false) (j:[47,47].isPrefixOf (c::r)=false):skip (c::r)=0:=by
 have:¬(c=47/\r.head?=some 47):=by
  rintro⟨rfl,g⟩
  cases r with
  | nil=>simp at g
  | cons d r=>simp at g;subst g;simp[List.isPrefixOf]at j
 simp only[skip,zd5,h,Bool.false_eq_true,if_false,this]
abbrev Cut:=Sum (Nat×Nat) (Int×Bs×Int×Nat)
def hd (l:Bs):Int:=((l.headD 0).toNat:Int)
def words:List Bs:=[[116,121,112,101],[109,101,116,104,111,100],[102,117,110,99],[109,97,105,110],[105,110,116,101,114,102,97,99,101],[101,109,98,101,100],[105,110,116],[98,111,111,108],[116,101,120,116],[102,110],[108,101,116],[112,114,105,110,116],[105,102],[101,108,115,101],[119,104,105,108,101],[114,101,116,117,114,110],[110,105,108],[110,101,119],[116,111],[97,110,100],[111,114],[110,111,116],[116,114,117,101],[102,97,108,115,101],[115,101,108,102]]
def kindOf (s:Bs):Int:=if zbw (hd s)=true then 2 else if words.contains s=true then 3 else 1
def Jt (p:Int->Bool) (l:Bs):Nat:=(l.takeWhile fun c=>p (c.toNat:Int)).length
theorem runLen_nil (p:Int->Bool):Jt p []=0:=rfl
theorem zbs (p:Int->Bool) (c:UInt8) (r:Bs) (h:p (c.toNat:Int)=true):Jt p (c::r)=1+Jt p r:=by simp[Jt,h];omega
theorem zea (p:Int->Bool) (c:UInt8) (r:Bs) (h:p (c.toNat:Int)=false):Jt p (c::r)=0:=by simp[Jt,h]
theorem ze5 (p:Int->Bool) (l:Bs):Jt p l<=l.length:=by unfold Jt;exact List.Sublist.length_le (List.takeWhile_sublist _)
def zau (l:Bs):Cut:=
 if 32<1+Jt JG l.tail then .inl (32,2)else .inr (kindOf (l.take (1+Jt JG l.tail)),l.take (1+Jt JG l.tail),0,1+Jt JG l.tail)
def zaw (l:Bs):Cut:=if [61,61].isPrefixOf l=true then .inr (6,l.take 2,0,2)else .inr (6,l.take 1,0,1)
def za4:Bs->Int->Option Int
 | [],n=>some n
 | c::r,n=>if (9223372036854775807-((c.toNat:Int)-48)) / 10<n then none else za4 r (n*10+((c.toNat:Int)-48))
def number (c:Bs):Option Int:=if hd c=48/\1<c.length then none else za4 c 0
def zal (l:Bs):Nat:=1+Jt Jl l.tail
def Jz (l:Bs):Cut:=
 match number (l.take (zal l))with
 | none=>.inl (0,11)
 | some v=>if l.drop (zal l)≠[]/\JG (hd (l.drop (zal l)))=true then .inl (0,11)else .inr (4,[],v,zal l)
def textF:Bs->Nat->Bs->Sum Nat (Bs×Nat)
 | [],i,_=>.inl i
 | c::r,i,acc=>
  if c=34 then .inr (acc,i+1)else if c=92 then
   match r with
   | []=>.inl (i+1)
   | d::g=>if zfm (d.toNat:Int)=true then textF g (i+2) (acc++[(escB (d.toNat:Int)).toNat.toUInt8])else .inl (i+1)
  else if zbf (c.toNat:Int)=true then textF r (i+1) (acc++[c])else .inl i
def JX (l:Bs):Cut:=
 match textF l.tail 1 []with
 | .inl o=>.inl (o,12)
 | .inr (s,n)=>.inr (5,s,0,n)
def cut (l:Bs):Cut:=if Jl (hd l)=true then Jz l else if hd l=34 then JX l else if zek (hd l)=true then zaw l else zau l
def next (l:Bs) (n:Nat):Cut:=if zaa (hd l)=false then .inl (0,10)else if 4096<=n then .inl (0,3)else cut l
abbrev Tok:=Nat×Int×Bs×Int
def lexF:Nat->Bs->Nat->Nat->List Tok×Option (Nat×Nat)
 | 0,_,_,_=>([],none)
 | f+1,l,a,n=>
  if l.drop (skip l)=[]then([],none)else
   match next (l.drop (skip l)) n with
   | .inl (o,y)=>([],some (a+skip l+o,y))
   | .inr (k,s,v,m)=>((a+skip l,k,s,v)::(lexF f (l.drop (skip l+m)) (a+skip l+m) (n+1)).1,(lexF f (l.drop (skip l+m)) (a+skip l+m) (n+1)).2)
def lex (l:Bs):List Tok×Option (Nat×Nat):=if 65536<l.length then([],some (0,2))else lexF (l.length+1) l 0 0
end Lx
open Go.RowKit Lx
def ZH (p:Prop):Prop:=p
theorem J3 {p:Prop} (h:p):ZH p:=h
theorem J0 {p:Prop} (h:ZH p):p:=h
theorem zmu (b:Int) (w:Zw):Zg 174 #[.int .u8 b] w fun e w'=>e=.returned (.bool (zdh b))/\w'=w:=by
 go_enter Tryz.func174,Tryz.ntmps174;go_wp2
 all_goals
  go_ret
  simp_all [zdh]
  try omega
theorem zeb (b:Int) (w:Zw):Zg 175 #[.int .u8 b] w fun e w'=>e=.returned (.bool (zbw b))/\w'=w:=by
 go_enter Tryz.func175,Tryz.ntmps175;go_wp2
 all_goals
  go_ret
  simp_all [zbw]
  try omega
theorem JY (b:Int) (w:Zw):Zg 176 #[.int .u8 b] w fun e w'=>e=.returned (.bool (Jl b))/\w'=w:=by
 go_enter Tryz.func176,Tryz.ntmps176;go_wp2
 all_goals
  go_ret
  simp_all [Jl]
  try omega
theorem plain_any (b:Int) (w:Zw):Zg 168 #[.int .u8 b] w fun e w'=>e=.returned (.bool (zbf b))/\w'=w:=by
 go_enter Tryz.func168,Tryz.ntmps168;go_wp2
 all_goals
  go_ret
  simp_all [zbf]
  try omega
theorem sign_index:∀n:Nat,n<256->decide (0<=Lib.indexByte [40,41,123,125,59,58,44,46,61,60,43,45,42] n.toUInt8)=zek (n:Int):=by decide +kernel
theorem zf3 (b:Int) (w:Zw) (g:0<=b) (j:b<256):Zg 177 #[.int .u8 b] w fun e w'=>e=.returned (.bool (zek b))/\w'=w:=by
 have c:=sign_index b.toNat (by omega);rw[Int.toNat_of_nonneg g]at c;have h:=J3 c;clear c;go_enter Tryz.func177,Tryz.ntmps177;go_wp2_with (go_at_call 184;refine(Tryz.strings_IndexByte _ _ _).mono ?_;rintro e w' ⟨rfl,rfl⟩);go_ret;exact⟨congrArg (fun b=>Ending.returned (Value.bool b)) h,rfl⟩
theorem zf0 (b:Int) (w:Zw):Zg 186 #[.int .u8 b] w fun e w'=>e=.returned (.bool (JG b))/\w'=w:=by
 go_enter Tryz.func186,Tryz.ntmps186;go_wp2_with (first|(go_at_call 174;refine(zmu _ _).mono ?_;rintro e w' ⟨rfl,rfl⟩)|(go_at_call 175;refine(zeb _ _).mono ?_;rintro e w' ⟨rfl,rfl⟩)|(go_at_call 176;refine(JY _ _).mono ?_;rintro e w' ⟨rfl,rfl⟩))
 all_goals
  go_ret
  simp_all [JG]
theorem zez (b:Int) (w:Zw) (c:0<=b) (g:b<256):Zg 166 #[.int .u8 b] w fun e w'=>e=.returned (.bool (zaa b))/\w'=w:=by
 go_enter Tryz.func166,Tryz.ntmps166;go_wp2_with (first|(go_at_call 174;refine(zmu _ _).mono ?_;rintro e w' ⟨rfl,rfl⟩)|(go_at_call 175;refine(zeb _ _).mono ?_;rintro e w' ⟨rfl,rfl⟩)|(go_at_call 176;refine(JY _ _).mono ?_;rintro e w' ⟨rfl,rfl⟩)|(go_at_call 177;refine(zf3 _ _ c g).mono ?_;rintro e w' ⟨rfl,rfl⟩))
 all_goals
  go_ret
  simp_all [zaa]
theorem escaped_any (b:Int) (w:Zw):Zg 188 #[.int .u8 b] w fun e w'=>e=.returned (.tuple #[.int .u8 (escB b),.bool (zfm b)])/\w'=w:=by
 go_enter Tryz.func188,Tryz.ntmps188;go_wp2
 all_goals
  go_ret2
  simp_all [escB,zfm]
theorem extract_list (s:Zy) (a:Nat):(s.extract a s.size).data.toList=s.data.toList.drop a:=by
 have h:s.data.toList.length=s.size:=by simp
 simp[ByteArray.data_extract,YS,List.length_drop,h]
theorem ret_int {k:IntKind} {a b:Int} (h:a=b):Ending.returned (.int k a)=.returned (.int k b):=by rw[h]
theorem pre_two (s:Zy) (a:Nat) (p:Bs) (w:Zw):Zg 189 #[.string (s.extract a s.size),.string ⟨p.toArray⟩] w fun e w'=>e=.returned (.bool (p.isPrefixOf (s.data.toList.drop a)))/\w'=w:=by
 refine(Tryz.strings_HasPrefix _ _ _).mono ?_;rintro e w' ⟨rfl,rfl⟩;rw[extract_list];exact⟨rfl,rfl⟩
theorem drop_cons (s:Zy) (k:Nat) (h:k<s.size):s.data.toList.drop k=s[k]::s.data.toList.drop (k+1):=by
 rw[Yt (by simpa using h)];rfl
theorem zcf (a y:Int) (w:Zw):Zg 187 #[Zi a,Zi y] w fun e w'=>e=.returned (.pointer (Zs w.heap.size 0))/\w'=w.alloc (.cells #[Zi a,Zi y] 213):=by
 go_enter Tryz.func187,Tryz.ntmps187;go_wp2;go_ret;exact⟨rfl,rfl⟩
def zdb:Array Value:=(words.map fun s=>Value.string ⟨s.toArray⟩).toArray
theorem Words_any (w:Zw):Zg 199 #[] w fun e w'=>e=.returned (.slice (Zs w.heap.size 0) 25 25)/\w'=w.alloc (.cells zdb 9):=by
 go_enter Tryz.func199,Tryz.ntmps199;go_wp2;go_ret;exact⟨rfl,rfl⟩
def wordStrs:List Zy:=words.map fun s=>⟨s.toArray⟩
theorem zmj (w:Zw):∀j,j<wordStrs.length->(w.alloc (.cells zdb 9)).cell? ⟨w.heap.size,0+j,none⟩=some (.string (wordStrs.getD j ByteArray.empty)):=by
 intro j c;rw[Ya _ _ _ _ (by rfl)];have g:j<words.length:=by simpa[wordStrs]using c
 have e:zdb[j]?=some (.string (wordStrs.getD j ByteArray.empty)):=by
  simp only[zdb,wordStrs,List.getElem?_toArray,Xd,Yo,Y6 g,X5,YY]
 simpa using e
theorem contains_word (x:Zy):Lib.containsS (wordStrs.take 25) x=words.contains x.data.toList:=by
 rw[Bool.eq_iff_iff,Lib.containsS_iff];have e:wordStrs.take 25=wordStrs:=by rfl
 rw[e];simp only[wordStrs,YF,List.contains_iff_mem]
 constructor
 ·rintro⟨s,c,rfl⟩;simpa using c
 ·intro h;exact⟨_,h,by cases x;simp⟩
theorem nameKind_any (s:Zy) (w:Zw) (r:0<s.size) (_hs:s.size<=maxLen) :
  ZC 191 #[.string s] w (Zi (kindOf s.data.toList)):=by
 unfold maxLen at _hs;have c:hd s.data.toList=((s[0]'r).toNat:Int):=by
  have:=drop_cons s 0 r;simp at this;rw[hd,this];rfl
 by_cases h:zbw ((s[0]'r).toNat:Int)=true
 ·have j:ZH (kindOf s.data.toList=2):=by show _=_;rw[kindOf,c,Ye h]
  clear c;go_enter Tryz.func191,Tryz.ntmps191;go_wp2_with (go_at_call 175;refine(zeb _ _).mono ?_;rintro e w' ⟨rfl,rfl⟩);go_ret;exact⟨ret_int j.symm,Zr⟩
 ·have h:zbw ((s[0]'r).toNat:Int)=false:=(Yb _).mp h;have g:=contains_word s;by_cases hw:words.contains s.data.toList=true
  ·have j:ZH (kindOf s.data.toList=3):=by show _=_;rw[kindOf,c,h,hw];rfl
   rw[hw]at g;have t:=J3 g;clear c hw g;go_enter Tryz.func191,Tryz.ntmps191;go_wp2_with (first|(go_at_call 175;refine(zeb _ _).mono ?_;rintro e w' ⟨rfl,rfl⟩)|(go_at_call 199;refine(Words_any _).mono ?_;rintro e w' ⟨rfl,rfl⟩)|(go_at_call 198;refine(Tryz.slices_Contains_string _ 0 25 25 wordStrs _ _ (by decide) (by decide) (zmj _)).mono ?_;rintro e w' ⟨rfl,rfl⟩;rw[J0 t]));go_ret;exact⟨ret_int j.symm,Za _ _⟩
  ·have hw:words.contains s.data.toList=false:=(Yb _).mp hw;have j:ZH (kindOf s.data.toList=1):=by show _=_;rw[kindOf,c,h,hw];rfl
   rw[hw]at g;have t:=J3 g;clear c hw g;go_enter Tryz.func191,Tryz.ntmps191;go_wp2_with (first|(go_at_call 175;refine(zeb _ _).mono ?_;rintro e w' ⟨rfl,rfl⟩)|(go_at_call 199;refine(Words_any _).mono ?_;rintro e w' ⟨rfl,rfl⟩)|(go_at_call 198;refine(Tryz.slices_Contains_string _ 0 25 25 wordStrs _ _ (by decide) (by decide) (zmj _)).mono ?_;rintro e w' ⟨rfl,rfl⟩;rw[J0 t]));go_ret;exact⟨ret_int j.symm,Za _ _⟩
theorem Clone_any (s:Zy) (w:Zw) (c:s.size<=281474976710656):ZC 125 #[.string s] w (.string s):=by
 go_enter Tryz.func125,Tryz.ntmps125;go_wp2_with (go_at_call 153;refine(Tryz.stringslite_Clone _ _ c).mono ?_;rintro e w' ⟨rfl,g⟩);go_ret;exact⟨rfl,g⟩
theorem zbz {W w1:Zw} (c:ZB W w1):(∀b o,b<W.heap.size->w1.cell? ⟨b,o,none⟩=W.cell? ⟨b,o,none⟩)/\(∀b o,b<W.heap.size->w1.frozen? ⟨b,o,none⟩=W.frozen? ⟨b,o,none⟩):=
 ⟨fun b o h=>c.cell (p:=⟨b,o,none⟩) h,fun b o h=>c.frozen (p:=⟨b,o,none⟩) h⟩
theorem zcj {B:Nat} {w w1:Zw} (h:Below B w w1) {b:Nat} (c:B<=b) (v0 v1 v2 v3:Value) :
  Below B w ((((w1.setCell ⟨b,0,none⟩ v0).setCell ⟨b,1,none⟩ v1).setCell ⟨b,2,none⟩ v2).setCell ⟨b,3,none⟩ v3):=
 (((h.setCell (p:=⟨b,0,none⟩) c v0).setCell (p:=⟨b,1,none⟩) c v1).setCell (p:=⟨b,2,none⟩) c v2).setCell (p:=⟨b,3,none⟩) c v3
theorem zhf (k:Int) (s:Zy) (a z:Nat) (w:Zw) (h:a<=z) (j:z<=s.size) (r:s.size<=281474976710656) :
  ZC 190 #[Zi k,.string s,Zi a,Zi z] w (.agg #[Zi a,Zi k,.string (s.extract a z),Zi 0]):=by
 have hz:(s.extract a z).size<=281474976710656:=by simp;omega
 go_enter Tryz.func190,Tryz.ntmps190;go_wp2_with (go_at_call 125;refine(Clone_any _ _ hz).mono ?_;rintro e w1 ⟨rfl,c⟩;obtain⟨g,t⟩:=zbz c);exact Yi (v:=.agg #[Zi a,Zi k,.string (s.extract a z),Zi 0]) (by simp[results,Tryz.results190,go_sem,g]) rfl ⟨rfl,zcj ((Za _ _).trans (c.mono (by simp))) (Y5 _) _ _ _ _⟩
def zb5 (w:Zw) (a:Nat) (c:Cut) (e:Ending) (w':Zw):Prop:=
 ZB w w' /\
 match c with
 | .inl (o,y)=>∃b,e=.returned (.tuple #[.agg #[Zi 0,Zi 0,.string ⟨#[]⟩,Zi 0],Zi 0,.pointer (Zs b 0)])/\w.heap.size<=b/\w'.heap[b]?=some (.cells #[Zi ((a+o:Nat):Int),Zi (y:Int)] 213)
 | .inr (k,s,v,n)=>e=.returned (.tuple #[.agg #[Zi a,Zi k,.string ⟨s.toArray⟩,Zi v],Zi ((a+n:Nat):Int),.pointer none])
theorem zbe (s:Zy) (a n:Nat):(s.extract a (a+n))=⟨((s.data.toList.drop a).take n).toArray⟩:=by
 apply ByteArray.ext;apply Array.ext';simp[ByteArray.data_extract,Nat.add_sub_cancel_left]
theorem zcr {w w':Zw} {a:Nat} {c:Cut} {k:Int} {s:Bs} {v:Int} {n:Nat} {S:Zy} {z:Int} (g:c=.inr (k,s,v,n)) (h:ZB w w') (j:S=⟨s.toArray⟩) (hz:z=((a+n:Nat):Int)) :
  zb5 w a c (.returned (.tuple #[.agg #[Zi a,Zi k,.string S,Zi v],Zi z,.pointer none])) w':=by
 subst g j hz;exact⟨h,rfl⟩
theorem zdm {w w':Zw} {a:Nat} {c:Cut} {o y:Nat} {b:Nat} (g:c=.inl (o,y)) (h:ZB w w') (j:w.heap.size<=b) (r:w'.heap[b]?=some (.cells #[Zi ((a+o:Nat):Int),Zi (y:Int)] 213)) :
  zb5 w a c (.returned (.tuple #[.agg #[Zi 0,Zi 0,.string ⟨#[]⟩,Zi 0],Zi 0,.pointer (Zs b 0)])) w':=by
 subst g;exact⟨h,b,rfl,j,r⟩
theorem cutSign_any (s:Zy) (a:Nat) (w:Zw) (t:a<s.size) (u:s.size<=281474976710656) :
  Zg 180 #[.string s,Zi a] w fun e w'=>zb5 w a (zaw (s.data.toList.drop a)) e w':=by
 by_cases hp:[61,61].isPrefixOf (s.data.toList.drop a)=true
 ·have x:a+2<=s.size:=by
   rcases YW (a+1) s.size with h|h
   ·omega
   ·rw[drop_cons s a t,Yg (by simp;omega)]at hp;simp[List.isPrefixOf]at hp
  have g:ZH (zaw (s.data.toList.drop a)=.inr (6,(s.data.toList.drop a).take 2,0,2)):=by show _=_;rw[zaw,Ye hp]
  have j:ZH (∀w,_):=fun w=>zhf 6 s a (a+2) w (by omega) x u
  go_enter Tryz.func180,Tryz.ntmps180;go_wp2_with (first|(go_at_call 189;refine(pre_two _ _ _ _).mono ?_;rintro e w' ⟨rfl,rfl⟩)|(go_at_call 190;go_fit (j _);rintro e w1 ⟨rfl,c⟩;obtain⟨r,G⟩:=zbz c));exact Yi (v:=.tuple #[.agg #[Zi a,Zi 6,.string (s.extract a (a+2)),Zi 0],Zi (a+1+1),.pointer none]) (by simp[results,Tryz.results180,go_sem,r]) rfl
   (zcr g (zcj ((Za _ _).trans (c.mono (by simp))) (Y5 _) _ _ _ _) (zbe _ _ _) (by omega))
 ·have hp:[61,61].isPrefixOf (s.data.toList.drop a)=false:=(Yb _).mp hp;have g:ZH (zaw (s.data.toList.drop a)=.inr (6,(s.data.toList.drop a).take 1,0,1)):=by show _=_;rw[zaw,hp];rfl
  have j:ZH (∀w,_):=fun w=>zhf 6 s a (a+1) w (by omega) t u
  go_enter Tryz.func180,Tryz.ntmps180;go_wp2_with (first|(go_at_call 189;refine(pre_two _ _ _ _).mono ?_;rintro e w' ⟨rfl,rfl⟩)|(go_at_call 190;go_fit (j _);rintro e w1 ⟨rfl,c⟩;obtain⟨r,G⟩:=zbz c));exact Yi (v:=.tuple #[.agg #[Zi a,Zi 6,.string (s.extract a (a+1)),Zi 0],Zi (a+1),.pointer none]) (by simp[results,Tryz.results180,go_sem,r]) rfl
   (zcr g (zcj ((Za _ _).trans (c.mono (by simp))) (Y5 _) _ _ _ _) (zbe _ _ _) (by omega))
theorem runLen_at (p:Int->Bool) (s:Zy) (k:Nat) (h:k<s.size) (hp:p (s[k].toNat:Int)=true):Jt p (s.data.toList.drop k)=1+Jt p (s.data.toList.drop (k+1)):=by
 rw[drop_cons s k h,zbs _ _ _ hp]
theorem zl3 (p:Int->Bool) (s:Zy) (k:Nat) (h:k<s.size) (hp:p (s[k].toNat:Int)=false):Jt p (s.data.toList.drop k)=0:=by
 rw[drop_cons s k h,zea _ _ _ hp]
theorem runLen_end (p:Int->Bool) (s:Zy) (k:Nat) (h:s.size<=k):Jt p (s.data.toList.drop k)=0:=by
 rw[Yg (by simpa using h)];rfl
theorem tail_drop (s:Zy) (a:Nat):(s.data.toList.drop a).tail=s.data.toList.drop (a+1):=by simp
theorem Jm (w:Zw) (o:Obj):(w.alloc o).heap[w.heap.size]?=some o:=by
 show(w.heap.push o)[w.heap.size]?=_;simp
theorem zgs (w:Zw) (o c:Obj):((w.alloc o).alloc c).heap[w.heap.size+1]?=some c:=by
 have:=Jm (w.alloc o) c;simpa using this
theorem zfx (w:Zw) (o c:Obj):ZB w ((w.alloc o).alloc c):=(Za _ _).alloc (by simp) _
theorem cutName_any (s:Zy) (a:Nat) (w:Zw) (h1:a<s.size) (hs:s.size<=281474976710656) :
  Zg 181 #[.string s,Zi a] w fun e w'=>zb5 w a (zau (s.data.toList.drop a)) e w':=by
 go_enter Tryz.func181,Tryz.ntmps181;go_wp2
 go_loop [7] (fun i=>∃k:Nat,a+1<=k/\k<=s.size/\k<=a+32/\i=Zi k/\ZH (1+Jt JG (s.data.toList.drop (a+1))=(k-a)+Jt JG (s.data.toList.drop k))) (fun i=>s.size-(intOf i).toNat)
 case atStart=>exact⟨a+1,by omega,by omega,by omega,by go_num,by show _=_;omega⟩
 case round=>
  obtain⟨k,ae,aa,af,rfl,j⟩:=hrel;by_cases r:∃h:k<s.size,JG (s[k].toNat:Int)=true
  ·obtain⟨c,L⟩:=r;have g:=J3 (runLen_at JG s k c L);by_cases x:k=a+32
   ·have u:ZH (zau (s.data.toList.drop a)=.inl (32,2)):=by
     show _=_;have M:=J0 j;have U:=J0 g;rw[zau,tail_drop,Ye (by omega)]
    have ab:((k:Int)-(a:Int)==32)=true:=by simp;omega
    clear j g;have ac:=J3 x;clear x;go_wp2_with (first|(go_at_call 186;refine(zf0 _ _).mono ?_;rintro e w' ⟨rfl,rfl⟩)|(go_at_call 187;refine(zcf _ _ _).mono ?_;rintro e w' ⟨rfl,rfl⟩));exact Yi (v:=.tuple #[.agg #[Zi 0,Zi 0,.string ⟨#[]⟩,Zi 0],Zi 0,.pointer (Zs (w.heap.size+1) 0)]) (by simp[results,Tryz.results181,go_sem]) rfl
     (zdm u (zfx _ _ _) (by omega) (by rw[zgs,J0 ac];rfl))
   ·have ab:((k:Int)-(a:Int)==32)=false:=by simp;omega
    have x:k<a+32:=by omega
    go_wp2_with (first|(go_at_call 186;refine(zf0 _ _).mono ?_;rintro e w' ⟨rfl,rfl⟩))
    go_round
    case rel=>exact⟨k+1,by omega,by omega,by omega,by go_num,by have M:=J0 j;have U:=J0 g;show _=_;omega⟩
    case measure=>simp[intOf];omega
  ·have g:ZH (Jt JG (s.data.toList.drop k)=0):=by
    show _=_;by_cases c:k<s.size
    ·exact zl3 JG s k c ((Yb _).mp fun h=>r ⟨c,h⟩)
    ·exact runLen_end JG s k (by omega)
   have u:ZH (zau (s.data.toList.drop a)=.inr (kindOf ((s.data.toList.drop a).take (k-a)),(s.data.toList.drop a).take (k-a),0,k-a)):=by
    show _=_;have M:=J0 j;have U:=J0 g;rw[zau,tail_drop,Y7 (by omega),show 1+Jt JG (s.data.toList.drop (a+1))=k-a from by omega]
   have V:ZH (s.extract a k=⟨((s.data.toList.drop a).take (k-a)).toArray⟩):=by
    have:=zbe s a (k-a);rwa[show a+(k-a)=k from by omega]at this
   have hz:0<(s.extract a k).size:=by simp;omega
   have Y:(s.extract a k).size<=maxLen:=by unfold maxLen;simp;omega
   have Z:ZH (∀w,_):=fun w=>nameKind_any (s.extract a k) w hz Y
   have WR:ZH (∀w kd,_):=fun w kd=>zhf kd s a k w (by omega) aa hs
   clear hz Y;have ag:a<=k:=by omega
   clear j g;by_cases c:k<s.size
   ·have L:JG (s[k].toNat:Int)=false:=(Yb _).mp fun h=>r ⟨c,h⟩
    clear r;go_wp2_with (first|(go_at_call 186;refine(zf0 _ _).mono ?_;rintro e w' ⟨rfl,rfl⟩)|(go_at_call 191;go_fit (Z _);rintro e w1 ⟨rfl,G⟩)|(go_at_call 190;go_fit (WR _ _);rintro e w2 ⟨rfl,I⟩;have t:=Zn G I;obtain⟨J,ad⟩:=zbz t));exact Yi (v:=.tuple #[.agg #[Zi a,Zi (kindOf ((s.data.toList.drop a).take (k-a))),.string (s.extract a k),Zi 0],Zi k,.pointer none]) (by simp[results,Tryz.results181,go_sem,J]) rfl
     (zcr u (zcj ((Za _ _).trans (t.mono (by simp))) (Y5 _) _ _ _ _) V (by omega))
   ·clear r;go_wp2_with (first|(go_at_call 191;go_fit (Z _);rintro e w1 ⟨rfl,G⟩)|(go_at_call 190;go_fit (WR _ _);rintro e w2 ⟨rfl,I⟩;have t:=Zn G I;obtain⟨J,ad⟩:=zbz t));exact Yi (v:=.tuple #[.agg #[Zi a,Zi (kindOf ((s.data.toList.drop a).take (k-a))),.string (s.extract a k),Zi 0],Zi k,.pointer none]) (by simp[results,Tryz.results181,go_sem,J]) rfl
     (zcr u (zcj ((Za _ _).trans (t.mono (by simp))) (Y5 _) _ _ _ _) V (by omega))
def numAns (o:Option Int):Ending:=.returned (.tuple #[Zi (o.getD 0),.bool o.isSome])
theorem zk6 {x:Int} (h:Jl x=true):48<=x/\x<=57:=by simpa[Jl]using h
theorem hd_at (s:Zy) (a:Nat) (h:a<s.size):hd (s.data.toList.drop a)=(s[a].toNat:Int):=by rw[drop_cons s a h];rfl
theorem number_any (s:Zy) (w:Zw) (M:0<s.size) (U:s.size<=maxLen) (G:∀k (h:k<s.size),Jl (s[k].toNat:Int)=true) :
  Zg 185 #[.string s] w fun e w'=>e=numAns (number s.data.toList)/\w'=w:=by
 unfold maxLen at U;have V:=J3 G;have g:=hd_at s 0 M;rw[List.drop_zero]at g;clear G;by_cases hz:(s[0].toNat:Int)=48/\1<s.size
 ·obtain⟨t,z2⟩:=hz;have r:ZH (number s.data.toList=none):=by show _=_;rw[number,Ye ⟨by rw[g,t],by simpa using z2⟩]
  have ab:((s[0].toNat:Int)==48)=true:=by simp[t]
  clear t g;go_enter Tryz.func185,Tryz.ntmps185;go_wp2;go_ret2;exact⟨by rw[J0 r];rfl,rfl⟩
 ·have r:ZH (number s.data.toList=za4 s.data.toList 0):=by show _=_;rw[number,Y7 (by rw[g];simpa using hz)]
  have Y:((s[0].toNat:Int)==48)=false∨(((s[0].toNat:Int)==48)=true/\s.size<=1):=by
   by_cases h:(s[0].toNat:Int)=48
   ·exact .inr ⟨by simp[h],by omega⟩
   ·exact .inl (by simpa using h)
  clear hz g;rcases Y with Z|⟨Z,hB⟩
  all_goals
   go_enter Tryz.func185,Tryz.ntmps185;go_wp2
   go_loop [4,17] (fun n i=>∃(k:Nat) (v:Int),k<=s.size/\i=Zi k/\n=Zi v/\0<=v/\v<=9223372036854775807/\ZH (za4 s.data.toList 0=za4 (s.data.toList.drop k) v)) (fun _ i=>s.size-(intOf i).toNat)
   case atStart=>exact⟨0,0,by omega,rfl,rfl,by omega,by omega,rfl⟩
   case round=>
    obtain⟨k,v,hk,rfl,rfl,ac,ad,u⟩:=hrel;by_cases I:k<s.size
    ·have ae:=zk6 (V k I);have J:=J3 (drop_cons s k I);by_cases L:(9223372036854775807-((s[k].toNat:Int)-48)) / 10<v
     ·have j:ZH (number s.data.toList=none):=by
       have x:=J0 r;have c:=J0 u;rw[J0 J,za4,Ye L]at c;show _=_;rw[x,c]
      go_wp2;go_ret2;exact⟨by rw[J0 j];rfl,rfl⟩
     ·have j:ZH (za4 s.data.toList 0=za4 (s.data.toList.drop (k+1)) (v*10+((s[k].toNat:Int)-48))):=by
       have c:=J0 u;rw[J0 J,za4,Y7 L]at c;exact c
      have aa:v*10+((s[k].toNat:Int)-48)<=9223372036854775807:=by omega
      go_wp2
      go_round
      case rel=>exact⟨k+1,v*10+((s[k].toNat:Int)-48),by omega,by go_num,rfl,by omega,aa,j⟩
      case measure=>simp[intOf];omega
    ·have j:ZH (number s.data.toList=some v):=by
      have x:=J0 r;have c:=J0 u;rw[Yg (by simp;omega)]at c;show _=_;rw[x,c];rfl
     go_wp2;go_ret2;exact⟨by rw[J0 j];rfl,rfl⟩
theorem runLen_all (p:Int->Bool):∀(l:Bs) (k:Nat),k<Jt p l->∃h:k<l.length,p ((l[k]).toNat:Int)=true
 | [],k,h=>by simp[Jt]at h
 | c::r,k,h=>by
  by_cases g:p (c.toNat:Int)=true
  ·rw[zbs p c r g]at h;rcases k with _|k
   ·exact⟨by simp,by simpa using g⟩
   ·obtain⟨s,j⟩:=runLen_all p r k (by omega);exact⟨by simp;omega,by simpa using j⟩
  ·rw[zea p c r ((Yb _).mp g)]at h;omega
theorem run_digits (s:Zy) (a n:Nat) (u:a<s.size) (c:Jl (s[a].toNat:Int)=true) (g:n=zal (s.data.toList.drop a)) (hz:a+n<=s.size) :
  ∀k (h:k<(s.extract a (a+n)).size),Jl (((s.extract a (a+n))[k]).toNat:Int)=true:=by
 intro k h;have x:k<n:=by simp at h;omega
 have e:(s.extract a (a+n))[k]=s[a+k]'(by omega):=by
  simp[ByteArray.getElem_extract]
 rw[e];rcases k with _|k
 ·simpa using c
 ·have j:k<Jt Jl (s.data.toList.drop (a+1)):=by
   rw[zal,tail_drop]at g;omega
  obtain⟨G,this⟩:=runLen_all Jl _ k j;rw[List.getElem_drop]at this;have r:s.data.toList[a+1+k]'(by simp;omega)=s[a+(k+1)]'(by omega):=by
   rw[Array.getElem_toList];have t:a+1+k=a+(k+1):=by omega
   simp only[t];rfl
  rw[r]at this;exact this
theorem cutNumber_no1 {l:Bs} (h:number (l.take (zal l))=none):Jz l=.inl (0,11):=by rw[Jz,h]
theorem cutNumber_no2 {l:Bs} {v:Int} (h:number (l.take (zal l))=some v) (c:l.drop (zal l)≠[]) (g:JG (hd (l.drop (zal l)))=true):Jz l=.inl (0,11):=by
 rw[Jz,h];exact Ye ⟨c,g⟩
theorem zib {l:Bs} {v:Int} (h:number (l.take (zal l))=some v) (c:l.drop (zal l)=[]∨JG (hd (l.drop (zal l)))=false):Jz l=.inr (4,[],v,zal l):=by
 rw[Jz,h];exact Y7 (by rintro⟨a,b⟩;rcases c with c|c <;> simp_all)
theorem cutNumber_any (s:Zy) (a:Nat) (w:Zw) (U:a<s.size) (hs:s.size<=281474976710656) (L:Jl (s[a].toNat:Int)=true) :
  Zg 178 #[.string s,Zi a] w fun e w'=>zb5 w a (Jz (s.data.toList.drop a)) e w':=by
 have V:=J3 L;clear L;go_enter Tryz.func178,Tryz.ntmps178;go_wp2
 go_loop [7] (fun i=>∃k:Nat,a+1<=k/\k<=s.size/\i=Zi k/\ZH (zal (s.data.toList.drop a)=(k-a)+Jt Jl (s.data.toList.drop k))) (fun i=>s.size-(intOf i).toNat)
 case atStart=>exact⟨a+1,by omega,by omega,by go_num,by show _=_;rw[zal,tail_drop];omega⟩
 case round=>
  obtain⟨k,aa,ab,rfl,x⟩:=hrel;by_cases g:∃h:k<s.size,Jl (s[k].toNat:Int)=true
  ·obtain⟨c,J⟩:=g;have Y:=J3 (runLen_at Jl s k c J);go_wp2_with (first|(go_at_call 176;refine(JY _ _).mono ?_;rintro e w' ⟨rfl,rfl⟩))
   go_round
   case rel=>exact⟨k+1,by omega,by omega,by go_num,by have Z:=J0 x;have e2:=J0 Y;show _=_;omega⟩
   case measure=>simp[intOf];omega
  ·have G:Jt Jl (s.data.toList.drop k)=0:=by
    by_cases c:k<s.size
    ·exact zl3 Jl s k c ((Yb _).mp fun h=>g ⟨c,h⟩)
    ·exact runLen_end Jl s k (by omega)
   have r:zal (s.data.toList.drop a)=k-a:=by have Z:=J0 x;omega
   have ac:a<=k:=by omega
   have hex:s.extract a k=⟨((s.data.toList.drop a).take (zal (s.data.toList.drop a))).toArray⟩:=by
    have:=zbe s a (k-a);rw[r];rwa[show a+(k-a)=k from by omega]at this
   have j:ZH (∀w,Zg 185 #[.string (s.extract a k)] w fun e w'=>e=numAns (number ((s.data.toList.drop a).take (zal (s.data.toList.drop a))))/\w'=w):=by
    intro w;have:=number_any (s.extract a k) w (by simp;omega) (by unfold maxLen;simp;omega) (by
     have:=run_digits s a (k-a) U V r.symm (by omega);rw[show a+(k-a)=k from by omega]at this;exact this)
    rw[hex]at this ⊢;simpa using this
   have t:(s.data.toList.drop a).drop (zal (s.data.toList.drop a))=s.data.toList.drop k:=by
    rw[r,List.drop_drop];congr 1;omega
   have M:=J3 r;rcases hnum:number ((s.data.toList.drop a).take (zal (s.data.toList.drop a)))with _|v
   ·have j:ZH (∀w,Zg 185 #[.string (s.extract a k)] w fun e w'=>e=.returned (.tuple #[Zi 0,.bool false])/\w'=w):=by
     intro w;have:=j w;rw[hnum]at this;exact this
    have u:=J3 (cutNumber_no1 hnum);clear hnum t hex r G x;by_cases c:k<s.size
    ·have J:Jl (s[k].toNat:Int)=false:=(Yb _).mp fun h=>g ⟨c,h⟩
     clear g;go_wp2_with (first|(go_at_call 176;refine(JY _ _).mono ?_;rintro e w' ⟨rfl,rfl⟩)|(go_at_call 185;go_fit (j _);rintro e w' ⟨rfl,rfl⟩)|(go_at_call 187;refine(zcf _ _ _).mono ?_;rintro e w' ⟨rfl,rfl⟩));exact Yi (v:=.tuple #[.agg #[Zi 0,Zi 0,.string ⟨#[]⟩,Zi 0],Zi 0,.pointer (Zs (w.heap.size+1) 0)]) (by simp[results,Tryz.results178,go_sem]) rfl (zdm u (zfx _ _ _) (by omega) (zgs _ _ _))
    ·clear g;go_wp2_with (first|(go_at_call 185;go_fit (j _);rintro e w' ⟨rfl,rfl⟩)|(go_at_call 187;refine(zcf _ _ _).mono ?_;rintro e w' ⟨rfl,rfl⟩));exact Yi (v:=.tuple #[.agg #[Zi 0,Zi 0,.string ⟨#[]⟩,Zi 0],Zi 0,.pointer (Zs (w.heap.size+1) 0)]) (by simp[results,Tryz.results178,go_sem]) rfl (zdm u (zfx _ _ _) (by omega) (zgs _ _ _))
   ·have j:ZH (∀w,Zg 185 #[.string (s.extract a k)] w fun e w'=>e=.returned (.tuple #[Zi v,.bool true])/\w'=w):=by
     intro w;have:=j w;rw[hnum]at this;exact this
    by_cases c:k<s.size
    ·have J:Jl (s[k].toNat:Int)=false:=(Yb _).mp fun h=>g ⟨c,h⟩
     by_cases I:JG (s[k].toNat:Int)=true
     ·have u:=J3 (cutNumber_no2 hnum (by rw[t,drop_cons s k c];simp) (by rw[t,hd_at s k c];exact I));clear hnum t hex r G x g;go_wp2_with (first|(go_at_call 176;refine(JY _ _).mono ?_;rintro e w' ⟨rfl,rfl⟩)|(go_at_call 185;go_fit (j _);rintro e w' ⟨rfl,rfl⟩)|(go_at_call 187;refine(zcf _ _ _).mono ?_;rintro e w' ⟨rfl,rfl⟩)|(go_at_call 186;refine(zf0 _ _).mono ?_;rintro e w' ⟨rfl,rfl⟩));exact Yi (v:=.tuple #[.agg #[Zi 0,Zi 0,.string ⟨#[]⟩,Zi 0],Zi 0,.pointer (Zs (w.heap.size+1) 0)]) (by simp[results,Tryz.results178,go_sem]) rfl (zdm u (zfx _ _ _) (by omega) (zgs _ _ _))
     ·have I:JG (s[k].toNat:Int)=false:=(Yb _).mp I;have u:=J3 (zib hnum (.inr (by rw[t,hd_at s k c];exact I)));clear hnum t hex r G x g;go_wp2_with (first|(go_at_call 176;refine(JY _ _).mono ?_;rintro e w' ⟨rfl,rfl⟩)|(go_at_call 185;go_fit (j _);rintro e w' ⟨rfl,rfl⟩)|(go_at_call 186;refine(zf0 _ _).mono ?_;rintro e w' ⟨rfl,rfl⟩));exact Yi (v:=.tuple #[.agg #[Zi a,Zi 4,.string ⟨#[]⟩,Zi v],Zi k,.pointer none]) (by simp[results,Tryz.results178,go_sem]) rfl (zcr u (Za _ _) rfl (by have:=J0 M;omega))
    ·have u:=J3 (zib hnum (.inl (by rw[t];exact Yg (by simp;omega))));clear hnum t hex r G x g;go_wp2_with (first|(go_at_call 185;go_fit (j _);rintro e w' ⟨rfl,rfl⟩));exact Yi (v:=.tuple #[.agg #[Zi a,Zi 4,.string ⟨#[]⟩,Zi v],Zi k,.pointer none]) (by simp[results,Tryz.results178,go_sem]) rfl (zcr u (Za _ _) rfl (by have:=J0 M;omega))
end Go.Proofs.YtdcbglnhhbmpgaaGreatDoor
