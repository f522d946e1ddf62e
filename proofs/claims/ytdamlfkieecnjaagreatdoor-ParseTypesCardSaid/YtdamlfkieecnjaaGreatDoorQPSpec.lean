import Derived.Test.YtdamlfkieecnjaaGreatDoorProg
import Derived.Test.YtdamlfkieecnjaaGreatDoorShelf
import Derived.WalkKit
import Derived.WalkLawsBesides
import Derived.Outline
import Derived.Handy
import Derived.Deep.DeepFit
set_option maxHeartbeats 1000000
set_option maxRecDepth 100000
namespace Go.Proofs.YtdamlfkieecnjaaGreatDoor
namespace Lx
def zaq (b:Int):Bool:=b==9||b==10||b==13||b==32
def zan (b:Int):Bool:=decide (97<=b)&&decide (b<=122)
def JQ (b:Int):Bool:=decide (65<=b)&&decide (b<=90)
def Jd (b:Int):Bool:=decide (48<=b)&&decide (b<=57)
def signs:List Int:=[40,41,123,125,59,58,44,46,61,60,43,45,42]
def zba (b:Int):Bool:=signs.contains b
def Ji (b:Int):Bool:=zan b||JQ b||Jd b||b==95
def Jq (b:Int):Bool:=zan b||JQ b||Jd b||b==34||zba b
def zae (b:Int):Bool:=decide (32<=b)&&decide (b<=126)
def escB (b:Int):Int:=if b=110 then 10 else if b=34 then 34 else if b=92 then 92 else 0
def zbu (b:Int):Bool:=b==110||b==34||b==92
abbrev Bs:=List UInt8
def JI:Bool->Bs->Nat
 | _,[]=>0
 | true,c::r=>if c=10 then 1+JI false r else 1+JI true r
 | false,c::r=>if zaq (c.toNat:Int)=true then 1+JI false r else if c=47/\r.head?=some 47 then 1+JI true r else 0
def skip (l:Bs):Nat:=JI false l
theorem zd7:∀(l:Bs) (b:Bool),JI b l<=l.length
 | [],b=>by cases b <;> simp[JI]
 | c::r,true=>by
  have h1:=zd7 r true;have h2:=zd7 r false;simp only[JI,List.length_cons];split <;> omega
 | c::r,false=>by
  have h1:=zd7 r true;have h2:=zd7 r false;simp only[JI,List.length_cons];split
  ·omega
  ·split <;> omega
theorem zck (l:Bs):skip l<=l.length:=zd7 l false
theorem zc1:∀(l:Bs),JI true l=l.findIdx (· == 10)+skip (l.drop (l.findIdx (· == 10)))
 | []=>by simp[JI,skip]
 | c::r=>by
  have ih:=zc1 r;by_cases h:c=10
  ·subst h;simp[JI,skip,List.findIdx_cons,zaq]
  ·have hb:(c==10)=false:=by simpa using h
   simp only[JI,h,if_false,List.findIdx_cons,hb,cond_false,List.drop_succ_cons,ih];omega
theorem skip_blank (c:UInt8) (r:Bs) (h:zaq (c.toNat:Int)=true):skip (c::r)=1+skip r:=by simp[skip,JI,h]
theorem skip_two (l:Bs) (h:[47,47].isPrefixOf l=true):skip l=l.findIdx (· == 10)+skip (l.drop (l.findIdx (· == 10))):=by
 match l,h with
 | [],h=>simp[List.isPrefixOf]at h
 | [c],h=>simp[List.isPrefixOf]at h
 | c::d::r,h=>
  simp[List.isPrefixOf]at h;obtain⟨rfl,rfl⟩:=h;have e:skip (47::47::r)=JI true (47::47::r):=by simp[skip,JI,zaq]
  rw[e,zc1]
theorem skip_none (c:UInt8) (r:Bs) (h:zaq (c.toNat:Int)=false) (h2:[47,47].isPrefixOf (c::r)=false):skip (c::r)=0:=by
 have:¬(c=47/\r.head?=some 47):=by
  rintro⟨rfl,hr⟩
  cases r with
  | nil=>simp at hr
  | cons d r=>simp at hr;subst hr;simp[List.isPrefixOf]at h2
 simp only[skip,JI,h,Bool.false_eq_true,if_false,this]
abbrev Cut:=Sum (Nat×Nat) (Int×Bs×Int×Nat)
def hd (l:Bs):Int:=((l.headD 0).toNat:Int)
def words:List Bs:=[[116,121,112,101],[109,101,116,104,111,100],[102,117,110,99],[109,97,105,110],[105,110,116,101,114,102,97,99,101],[101,109,98,101,100],[105,110,116],[98,111,111,108],[116,101,120,116],[102,110],[108,101,116],[112,114,105,110,116],[105,102],[101,108,115,101],[119,104,105,108,101],[114,101,116,117,114,110],[110,105,108],[110,101,119],[116,111],[97,110,100],[111,114],[110,111,116],[116,114,117,101],[102,97,108,115,101],[115,101,108,102]]
def kindOf (s:Bs):Int:=if JQ (hd s)=true then 2 else if words.contains s=true then 3 else 1
def Jf (p:Int->Bool) (l:Bs):Nat:=(l.takeWhile fun c=>p (c.toNat:Int)).length
theorem runLen_nil (p:Int->Bool):Jf p []=0:=rfl
theorem JT (p:Int->Bool) (c:UInt8) (r:Bs) (h:p (c.toNat:Int)=true):Jf p (c::r)=1+Jf p r:=by simp[Jf,h];omega
theorem zb1 (p:Int->Bool) (c:UInt8) (r:Bs) (h:p (c.toNat:Int)=false):Jf p (c::r)=0:=by simp[Jf,h]
theorem zam (p:Int->Bool) (l:Bs):Jf p l<=l.length:=by unfold Jf;exact List.Sublist.length_le (List.takeWhile_sublist _)
def Jv (l:Bs):Cut:=
 if 32<1+Jf Ji l.tail then .inl (32,2)else .inr (kindOf (l.take (1+Jf Ji l.tail)),l.take (1+Jf Ji l.tail),0,1+Jf Ji l.tail)
def JC (l:Bs):Cut:=if [61,61].isPrefixOf l=true then .inr (6,l.take 2,0,2)else .inr (6,l.take 1,0,1)
def JY:Bs->Int->Option Int
 | [],n=>some n
 | c::r,n=>if (9223372036854775807-((c.toNat:Int)-48)) / 10<n then none else JY r (n*10+((c.toNat:Int)-48))
def number (ds:Bs):Option Int:=if hd ds=48/\1<ds.length then none else JY ds 0
def Jz (l:Bs):Nat:=1+Jf Jd l.tail
def Jh (l:Bs):Cut:=
 match number (l.take (Jz l))with
 | none=>.inl (0,11)
 | some v=>if l.drop (Jz l)≠[]/\Ji (hd (l.drop (Jz l)))=true then .inl (0,11)else .inr (4,[],v,Jz l)
def textF:Bs->Nat->Bs->Sum Nat (Bs×Nat)
 | [],i,_=>.inl i
 | c::r,i,acc=>
  if c=34 then .inr (acc,i+1)else if c=92 then
   match r with
   | []=>.inl (i+1)
   | d::r'=>if zbu (d.toNat:Int)=true then textF r' (i+2) (acc++[(escB (d.toNat:Int)).toNat.toUInt8])else .inl (i+1)
  else if zae (c.toNat:Int)=true then textF r (i+1) (acc++[c])else .inl i
def Jn (l:Bs):Cut:=
 match textF l.tail 1 []with
 | .inl o=>.inl (o,12)
 | .inr (s,n)=>.inr (5,s,0,n)
def cut (l:Bs):Cut:=if Jd (hd l)=true then Jh l else if hd l=34 then Jn l else if zba (hd l)=true then JC l else Jv l
def next (l:Bs) (n:Nat):Cut:=if Jq (hd l)=false then .inl (0,10)else if 4096<=n then .inl (0,3)else cut l
abbrev Tok:=Nat×Int×Bs×Int
def zdq:Nat->Bs->Nat->Nat->List Tok×Option (Nat×Nat)
 | 0,_,_,_=>([],none)
 | f+1,l,a,n=>
  if l.drop (skip l)=[]then([],none)else
   match next (l.drop (skip l)) n with
   | .inl (o,y)=>([],some (a+skip l+o,y))
   | .inr (k,s,v,m)=>((a+skip l,k,s,v)::(zdq f (l.drop (skip l+m)) (a+skip l+m) (n+1)).1,(zdq f (l.drop (skip l+m)) (a+skip l+m) (n+1)).2)
def lex (l:Bs):List Tok×Option (Nat×Nat):=if 65536<l.length then([],some (0,2))else zdq (l.length+1) l 0 0
end Lx
open Go.RowKit Lx
def Hid (p:Prop):Prop:=p
theorem J4 {p:Prop} (h:p):Hid p:=h
theorem J0 {p:Prop} (h:Hid p):p:=h
theorem zcs (b:Int) (w:World):Calls Tryz.prog 239 #[.int .u8 b] w fun e w'=>e=.returned (.bool (zaq b))/\w'=w:=by
 go_enter Tryz.func239,Tryz.ntmps239;go_wp2
 all_goals
  go_ret
  simp_all [zaq]
theorem ze5 (b:Int) (w:World):Calls Tryz.prog 258 #[.int .u8 b] w fun e w'=>e=.returned (.bool (zan b))/\w'=w:=by
 go_enter Tryz.func258,Tryz.ntmps258;go_wp2
 all_goals
  go_ret
  simp_all [zan]
  try omega
theorem zax (b:Int) (w:World):Calls Tryz.prog 259 #[.int .u8 b] w fun e w'=>e=.returned (.bool (JQ b))/\w'=w:=by
 go_enter Tryz.func259,Tryz.ntmps259;go_wp2
 all_goals
  go_ret
  simp_all [JQ]
  try omega
theorem Jo (b:Int) (w:World):Calls Tryz.prog 260 #[.int .u8 b] w fun e w'=>e=.returned (.bool (Jd b))/\w'=w:=by
 go_enter Tryz.func260,Tryz.ntmps260;go_wp2
 all_goals
  go_ret
  simp_all [Jd]
  try omega
theorem plain_any (b:Int) (w:World):Calls Tryz.prog 254 #[.int .u8 b] w fun e w'=>e=.returned (.bool (zae b))/\w'=w:=by
 go_enter Tryz.func254,Tryz.ntmps254;go_wp2
 all_goals
  go_ret
  simp_all [zae]
  try omega
theorem sign_index:∀n:Nat,n<256->decide (0<=Lib.indexByte [40,41,123,125,59,58,44,46,61,60,43,45,42] n.toUInt8)=zba (n:Int):=by decide +kernel
theorem zbc (b:Int) (w:World) (h0:0<=b) (h1:b<256):Calls Tryz.prog 261 #[.int .u8 b] w fun e w'=>e=.returned (.bool (zba b))/\w'=w:=by
 have hs:=sign_index b.toNat (by omega);rw[Int.toNat_of_nonneg h0]at hs;have HS:=J4 hs;clear hs;go_enter Tryz.func261,Tryz.ntmps261;go_wp2_with (go_at_call 257;refine(Tryz.strings_IndexByte _ _ _).mono ?_;rintro e w' ⟨rfl,rfl⟩);go_ret;exact⟨congrArg (fun b=>Ending.returned (Value.bool b)) (J0 HS),rfl⟩
theorem zbb (b:Int) (w:World):Calls Tryz.prog 277 #[.int .u8 b] w fun e w'=>e=.returned (.bool (Ji b))/\w'=w:=by
 go_enter Tryz.func277,Tryz.ntmps277;go_wp2_with (first|(go_at_call 258;refine(ze5 _ _).mono ?_;rintro e w' ⟨rfl,rfl⟩)|(go_at_call 259;refine(zax _ _).mono ?_;rintro e w' ⟨rfl,rfl⟩)|(go_at_call 260;refine(Jo _ _).mono ?_;rintro e w' ⟨rfl,rfl⟩))
 all_goals
  go_ret
  simp_all [Ji]
theorem zc9 (b:Int) (w:World) (h0:0<=b) (h1:b<256):Calls Tryz.prog 242 #[.int .u8 b] w fun e w'=>e=.returned (.bool (Jq b))/\w'=w:=by
 go_enter Tryz.func242,Tryz.ntmps242;go_wp2_with (first|(go_at_call 258;refine(ze5 _ _).mono ?_;rintro e w' ⟨rfl,rfl⟩)|(go_at_call 259;refine(zax _ _).mono ?_;rintro e w' ⟨rfl,rfl⟩)|(go_at_call 260;refine(Jo _ _).mono ?_;rintro e w' ⟨rfl,rfl⟩)|(go_at_call 261;refine(zbc _ _ h0 h1).mono ?_;rintro e w' ⟨rfl,rfl⟩))
 all_goals
  go_ret
  simp_all [Jq]
theorem escaped_any (b:Int) (w:World):Calls Tryz.prog 278 #[.int .u8 b] w fun e w'=>e=.returned (.tuple #[.int .u8 (escB b),.bool (zbu b)])/\w'=w:=by
 go_enter Tryz.func278,Tryz.ntmps278;go_wp2
 all_goals
  go_ret2
  simp_all [escB,zbu]
theorem zcg:∀(l:Bs) (c:UInt8),Lib.indexByte l c=if l.findIdx (· == c)<l.length then((l.findIdx (· == c):Nat):Int)else -1
 | [],c=>by simp[Lib.indexByte]
 | b::r,c=>by
  have ih:=zcg r c;have hle:=List.findIdx_le_length (xs:=r) (p:=(· == c));by_cases h:b=c
  ·subst h;simp[Lib.indexByte,List.findIdx_cons]
  ·have hb:(b==c)=false:=by simpa using h
   simp only[Lib.indexByte,hb,Bool.false_eq_true,if_false,List.findIdx_cons,cond_false,List.length_cons,ih];by_cases h2:r.findIdx (· == c)<r.length
   ·have:¬((r.findIdx (· == c):Nat):Int) = -1:=by omega
    simp[h2,this]
   ·simp[h2]
theorem zdt (s:ByteArray) (a:Nat):(s.extract a s.size).data.toList=s.data.toList.drop a:=by
 have h:s.data.toList.length=s.size:=by simp
 simp[ByteArray.data_extract,List.take_of_length_le,List.length_drop,h]
theorem idx_nl (s:ByteArray) (a:Nat) (w:World):Calls Tryz.prog 257 #[.string (s.extract a s.size),.int .u8 10] w fun e w'=>e=.returned (.int .i64 (Lib.indexByte (s.data.toList.drop a) 10))/\w'=w:=by
 refine(Tryz.strings_IndexByte _ _ _).mono ?_;rintro e w' ⟨rfl,rfl⟩;rw[zdt];exact⟨rfl,rfl⟩
theorem zcv {k:IntKind} {a b:Int} (h:a=b):Ending.returned (.int k a)=.returned (.int k b):=by rw[h]
theorem remarkEnd_any (s:ByteArray) (a:Nat) (w:World) (ha:a<=s.size) (hs:s.size<=maxLen) :
  Calls Tryz.prog 241 #[.string s,.int .i64 a] w fun e w'=>e=.returned (.int .i64 ((a+(s.data.toList.drop a).findIdx (· == 10):Nat):Int))/\w'=w:=by
 unfold maxLen at hs;have hle:=List.findIdx_le_length (xs:=s.data.toList.drop a) (p:=(· == 10));have hl:(s.data.toList.drop a).length=s.size-a:=by simp
 have hx:=zcg (s.data.toList.drop a) 10;generalize hk:(s.data.toList.drop a).findIdx (· == 10)=k at *;clear hk;by_cases h:k<(s.data.toList.drop a).length
 ·rw[if_pos h]at hx;go_enter Tryz.func241,Tryz.ntmps241;go_wp2_with (go_at_call 257;refine(idx_nl _ _ _).mono ?_;rintro e w' ⟨rfl,rfl⟩);go_ret;exact⟨zcv (by omega),rfl⟩
 ·rw[if_neg h]at hx;go_enter Tryz.func241,Tryz.ntmps241;go_wp2_with (go_at_call 257;refine(idx_nl _ _ _).mono ?_;rintro e w' ⟨rfl,rfl⟩);go_ret;exact⟨zcv (by omega),rfl⟩
theorem pre_two (s:ByteArray) (a:Nat) (p:Bs) (w:World):Calls Tryz.prog 240 #[.string (s.extract a s.size),.string ⟨p.toArray⟩] w fun e w'=>e=.returned (.bool (p.isPrefixOf (s.data.toList.drop a)))/\w'=w:=by
 refine(Tryz.strings_HasPrefix _ _ _).mono ?_;rintro e w' ⟨rfl,rfl⟩;rw[zdt];exact⟨rfl,rfl⟩
theorem drop_cons (s:ByteArray) (k:Nat) (h:k<s.size):s.data.toList.drop k=s[k]::s.data.toList.drop (k+1):=by
 rw[List.drop_eq_getElem_cons (by simpa using h)];rfl
theorem skip_any (s:ByteArray) (a:Nat) (w:World) (ha:a<=s.size) (hs:s.size<=maxLen) :
  Calls Tryz.prog 207 #[.string s,.int .i64 a] w fun e w'=>e=.returned (.int .i64 ((a+skip (s.data.toList.drop a):Nat):Int))/\w'=w:=by
 have hs':=hs;unfold maxLen at hs;go_enter Tryz.func207,Tryz.ntmps207;go_wp2
 go_loop [1] (fun i=>∃k:Nat,k<=s.size/\i=.int .i64 k/\Hid (a+skip (s.data.toList.drop a)=k+skip (s.data.toList.drop k))) (fun i=>s.size-(intOf i).toNat)
 case atStart=>exact⟨a,ha,rfl,rfl⟩
 case round=>
  obtain⟨k,hk,rfl,HK⟩:=hrel;by_cases hlt:k<s.size
  ·have hd:=drop_cons s k hlt;by_cases hb:zaq (s[k].toNat:Int)=true
   ·have HN:=J4 (skip_blank s[k] (s.data.toList.drop (k+1)) hb);rw[<-hd]at HN;clear hd;go_wp2_with (go_at_call 239;refine(zcs _ _).mono ?_;rintro e w' ⟨rfl,rfl⟩)
    go_round
    case rel=>exact⟨k+1,by omega,by go_num,by have h1:=J0 HK;have h2:=J0 HN;show _=_;omega⟩
    case measure=>simp[intOf];omega
   ·have hb:zaq (s[k].toNat:Int)=false:=by simpa using hb
    by_cases hp:[47,47].isPrefixOf (s.data.toList.drop k)=true
    ·have HN:=J4 (skip_two _ hp);have hle:=List.findIdx_le_length (xs:=s.data.toList.drop k) (p:=(· == 10));have hl:(s.data.toList.drop k).length=s.size-k:=by simp
     rw[hl]at hle;clear hd hl;have hne:0<(s.data.toList.drop k).findIdx (· == 10):=by
      have hc:s[k]=47:=by
       have:=hp;rw[drop_cons s k hlt]at this;simp[List.isPrefixOf]at this;exact this.1.symm
      rw[drop_cons s k hlt,hc];simp[List.findIdx_cons]
     go_wp2_with (first|(go_at_call 239;refine(zcs _ _).mono ?_;rintro e w' ⟨rfl,rfl⟩)|(go_at_call 240;refine(pre_two _ _ _ _).mono ?_;rintro e w' ⟨rfl,rfl⟩)|(go_at_call 241;refine(remarkEnd_any _ _ _ hk hs').mono ?_;rintro e w' ⟨rfl,rfl⟩))
     go_round
     case rel=>exact⟨k+(s.data.toList.drop k).findIdx (· == 10),by omega,by go_num,by have h1:=J0 HK;have h2:=J0 HN;rw[List.drop_drop]at h2;show _=_;omega⟩
     case measure=>simp[intOf];omega
    ·have hp:[47,47].isPrefixOf (s.data.toList.drop k)=false:=(Bool.not_eq_true _).mp hp;have HN:Hid (skip (s.data.toList.drop k)=0):=by
      have hp':=hp;rw[hd]at hp' ⊢;exact skip_none _ _ hb hp'
     clear hd;go_wp2_with (first|(go_at_call 239;refine(zcs _ _).mono ?_;rintro e w' ⟨rfl,rfl⟩)|(go_at_call 240;refine(pre_two _ _ _ _).mono ?_;rintro e w' ⟨rfl,rfl⟩));go_ret;exact⟨zcv (by have h1:=J0 HK;have h2:=J0 HN;omega),rfl⟩
  ·have HN:Hid (skip (s.data.toList.drop k)=0):=by
    rw[List.drop_of_length_le (by simp;omega)];rfl
   go_wp2;go_ret;exact⟨zcv (by have h1:=J0 HK;have h2:=J0 HN;omega),rfl⟩
theorem JL (a y:Int) (w:World):Calls Tryz.prog 206 #[.int .i64 a,.int .i64 y] w fun e w'=>e=.returned (.pointer (some ⟨w.heap.size,0,none⟩))/\w'=w.alloc (.cells #[.int .i64 a,.int .i64 y] 114):=by
 go_enter Tryz.func206,Tryz.ntmps206;go_wp2;go_ret;exact⟨rfl,rfl⟩
def zal:Array Value:=(words.map fun s=>Value.string ⟨s.toArray⟩).toArray
theorem Words_any (w:World):Calls Tryz.prog 287 #[] w fun e w'=>e=.returned (.slice (some ⟨w.heap.size,0,none⟩) 25 25)/\w'=w.alloc (.cells zal 9):=by
 go_enter Tryz.func287,Tryz.ntmps287;go_wp2;go_ret;exact⟨rfl,rfl⟩
def wordStrs:List ByteArray:=words.map fun s=>⟨s.toArray⟩
theorem zeh (w:World):∀j,j<wordStrs.length->(w.alloc (.cells zal 9)).cell? ⟨w.heap.size,0+j,none⟩=some (.string (wordStrs.getD j ByteArray.empty)):=by
 intro j hj;rw[World.cell?_alloc_at _ _ _ _ (by rfl)];have hj':j<words.length:=by simpa[wordStrs]using hj
 have e:zal[j]?=some (.string (wordStrs.getD j ByteArray.empty)):=by
  simp only[zal,wordStrs,List.getElem?_toArray,List.getElem?_map,List.getD_eq_getElem?_getD,List.getElem?_eq_getElem hj',Option.map_some,Option.getD_some]
 simpa using e
theorem contains_word (x:ByteArray):Lib.containsS (wordStrs.take 25) x=words.contains x.data.toList:=by
 rw[Bool.eq_iff_iff,Lib.containsS_iff];have e:wordStrs.take 25=wordStrs:=by rfl
 rw[e];simp only[wordStrs,List.mem_map,List.contains_iff_mem]
 constructor
 ·rintro⟨s,hs,rfl⟩;simpa using hs
 ·intro h;exact⟨_,h,by cases x;simp⟩
theorem nameKind_any (s:ByteArray) (w:World) (h0:0<s.size) (_hs:s.size<=maxLen) :
  Calls Tryz.prog 280 #[.string s] w fun e w'=>e=.returned (.int .i64 (kindOf s.data.toList))/\Below w.heap.size w w':=by
 unfold maxLen at _hs;have hh:hd s.data.toList=((s[0]'h0).toNat:Int):=by
  have:=drop_cons s 0 h0;simp at this;rw[hd,this];rfl
 by_cases hg:JQ ((s[0]'h0).toNat:Int)=true
 ·have HK:Hid (kindOf s.data.toList=2):=by show _=_;rw[kindOf,hh,if_pos hg]
  clear hh;go_enter Tryz.func280,Tryz.ntmps280;go_wp2_with (go_at_call 259;refine(zax _ _).mono ?_;rintro e w' ⟨rfl,rfl⟩);go_ret;exact⟨zcv (J0 HK).symm,Below.refl _ _⟩
 ·have hg:JQ ((s[0]'h0).toNat:Int)=false:=(Bool.not_eq_true _).mp hg;have hc:=contains_word s;by_cases hw:words.contains s.data.toList=true
  ·have HK:Hid (kindOf s.data.toList=3):=by show _=_;rw[kindOf,hh,hg,hw];rfl
   rw[hw]at hc;have HC:=J4 hc;clear hh hw hc;go_enter Tryz.func280,Tryz.ntmps280;go_wp2_with (first|(go_at_call 259;refine(zax _ _).mono ?_;rintro e w' ⟨rfl,rfl⟩)|(go_at_call 287;refine(Words_any _).mono ?_;rintro e w' ⟨rfl,rfl⟩)|(go_at_call 173;refine(Tryz.slices_Contains_string _ 0 25 25 wordStrs _ _ (by decide) (by decide) (zeh _)).mono ?_;rintro e w' ⟨rfl,rfl⟩;rw[J0 HC]));go_ret;exact⟨zcv (J0 HK).symm,(Below.refl _ _).alloc (Nat.le_refl _) _⟩
  ·have hw:words.contains s.data.toList=false:=(Bool.not_eq_true _).mp hw;have HK:Hid (kindOf s.data.toList=1):=by show _=_;rw[kindOf,hh,hg,hw];rfl
   rw[hw]at hc;have HC:=J4 hc;clear hh hw hc;go_enter Tryz.func280,Tryz.ntmps280;go_wp2_with (first|(go_at_call 259;refine(zax _ _).mono ?_;rintro e w' ⟨rfl,rfl⟩)|(go_at_call 287;refine(Words_any _).mono ?_;rintro e w' ⟨rfl,rfl⟩)|(go_at_call 173;refine(Tryz.slices_Contains_string _ 0 25 25 wordStrs _ _ (by decide) (by decide) (zeh _)).mono ?_;rintro e w' ⟨rfl,rfl⟩;rw[J0 HC]));go_ret;exact⟨zcv (J0 HK).symm,(Below.refl _ _).alloc (Nat.le_refl _) _⟩
theorem Clone_any (s:ByteArray) (w:World) (hs:s.size<=281474976710656):Calls Tryz.prog 286 #[.string s] w fun e w'=>e=.returned (.string s)/\Below w.heap.size w w':=by
 go_enter Tryz.func286,Tryz.ntmps286;go_wp2_with (go_at_call 288;refine(Tryz.stringslite_Clone _ _ hs).mono ?_;rintro e w' ⟨rfl,hb⟩);go_ret;exact⟨rfl,hb⟩
theorem JS {W w1:World} (hb:Below W.heap.size W w1):(∀b o,b<W.heap.size->w1.cell? ⟨b,o,none⟩=W.cell? ⟨b,o,none⟩)/\(∀b o,b<W.heap.size->w1.frozen? ⟨b,o,none⟩=W.frozen? ⟨b,o,none⟩):=
 ⟨fun b o h=>hb.cell (p:=⟨b,o,none⟩) h,fun b o h=>hb.frozen (p:=⟨b,o,none⟩) h⟩
theorem JZ {B:Nat} {w w1:World} (h:Below B w w1) {b:Nat} (hb:B<=b) (v0 v1 v2 v3:Value) :
  Below B w ((((w1.setCell ⟨b,0,none⟩ v0).setCell ⟨b,1,none⟩ v1).setCell ⟨b,2,none⟩ v2).setCell ⟨b,3,none⟩ v3):=
 (((h.setCell (p:=⟨b,0,none⟩) hb v0).setCell (p:=⟨b,1,none⟩) hb v1).setCell (p:=⟨b,2,none⟩) hb v2).setCell (p:=⟨b,3,none⟩) hb v3
theorem zct (k:Int) (s:ByteArray) (a z:Nat) (w:World) (h1:a<=z) (h2:z<=s.size) (hs:s.size<=281474976710656) :
  Calls Tryz.prog 279 #[.int .i64 k,.string s,.int .i64 a,.int .i64 z] w fun e w'=>e=.returned (.agg #[.int .i64 a,.int .i64 k,.string (s.extract a z),.int .i64 0])/\Below w.heap.size w w':=by
 have hz:(s.extract a z).size<=281474976710656:=by simp;omega
 go_enter Tryz.func279,Tryz.ntmps279;go_wp2_with (go_at_call 286;refine(Clone_any _ _ hz).mono ?_;rintro e w1 ⟨rfl,hb⟩;obtain⟨hc,hf⟩:=JS hb);exact bodyPost_ret (v:=.agg #[.int .i64 a,.int .i64 k,.string (s.extract a z),.int .i64 0]) (by simp[results,Tryz.results279,go_sem,hc]) rfl ⟨rfl,JZ (((Below.refl _ _).alloc (Nat.le_refl _) _).trans (hb.mono (by simp))) (Nat.le_refl _) _ _ _ _⟩
def Jw (w:World) (a:Nat) (c:Cut) (e:Ending) (w':World):Prop:=
 Below w.heap.size w w' /\
 match c with
 | .inl (o,y)=>∃b,e=.returned (.tuple #[.agg #[.int .i64 0,.int .i64 0,.string ⟨#[]⟩,.int .i64 0],.int .i64 0,.pointer (some ⟨b,0,none⟩)])/\w.heap.size<=b/\w'.heap[b]?=some (.cells #[.int .i64 ((a+o:Nat):Int),.int .i64 (y:Int)] 114)
 | .inr (k,s,v,n)=>e=.returned (.tuple #[.agg #[.int .i64 a,.int .i64 k,.string ⟨s.toArray⟩,.int .i64 v],.int .i64 ((a+n:Nat):Int),.pointer none])
theorem JR (s:ByteArray) (a n:Nat):(s.extract a (a+n))=⟨((s.data.toList.drop a).take n).toArray⟩:=by
 apply ByteArray.ext;apply Array.ext';simp[ByteArray.data_extract,Nat.add_sub_cancel_left]
theorem za3 {w w':World} {a:Nat} {c:Cut} {k:Int} {s:Bs} {v:Int} {n:Nat} {S:ByteArray} {z:Int} (hc:c=.inr (k,s,v,n)) (hb:Below w.heap.size w w') (hS:S=⟨s.toArray⟩) (hz:z=((a+n:Nat):Int)) :
  Jw w a c (.returned (.tuple #[.agg #[.int .i64 a,.int .i64 k,.string S,.int .i64 v],.int .i64 z,.pointer none])) w':=by
 subst hc hS hz;exact⟨hb,rfl⟩
theorem za5 {w w':World} {a:Nat} {c:Cut} {o y:Nat} {b:Nat} (hc:c=.inl (o,y)) (hb:Below w.heap.size w w') (h1:w.heap.size<=b) (h2:w'.heap[b]?=some (.cells #[.int .i64 ((a+o:Nat):Int),.int .i64 (y:Int)] 114)) :
  Jw w a c (.returned (.tuple #[.agg #[.int .i64 0,.int .i64 0,.string ⟨#[]⟩,.int .i64 0],.int .i64 0,.pointer (some ⟨b,0,none⟩)])) w':=by
 subst hc;exact⟨hb,b,rfl,h1,h2⟩
theorem cutSign_any (s:ByteArray) (a:Nat) (w:World) (h1:a<s.size) (hs:s.size<=281474976710656) :
  Calls Tryz.prog 264 #[.string s,.int .i64 a] w fun e w'=>Jw w a (JC (s.data.toList.drop a)) e w':=by
 by_cases hp:[61,61].isPrefixOf (s.data.toList.drop a)=true
 ·have hl:a+2<=s.size:=by
   rcases Nat.lt_or_ge (a+1) s.size with h|h
   ·omega
   ·rw[drop_cons s a h1,List.drop_of_length_le (by simp;omega)]at hp;simp[List.isPrefixOf]at hp
  have HC:Hid (JC (s.data.toList.drop a)=.inr (6,(s.data.toList.drop a).take 2,0,2)):=by show _=_;rw[JC,if_pos hp]
  have WR:Hid (∀w,_):=fun w=>zct 6 s a (a+2) w (by omega) hl hs
  go_enter Tryz.func264,Tryz.ntmps264;go_wp2_with (first|(go_at_call 240;refine(pre_two _ _ _ _).mono ?_;rintro e w' ⟨rfl,rfl⟩)|(go_at_call 279;go_fit (J0 WR _);rintro e w1 ⟨rfl,hb⟩;obtain⟨hc,hf⟩:=JS hb));exact bodyPost_ret (v:=.tuple #[.agg #[.int .i64 a,.int .i64 6,.string (s.extract a (a+2)),.int .i64 0],.int .i64 (a+1+1),.pointer none]) (by simp[results,Tryz.results264,go_sem,hc]) rfl
   (za3 (J0 HC) (JZ (((Below.refl _ _).alloc (Nat.le_refl _) _).trans (hb.mono (by simp))) (Nat.le_refl _) _ _ _ _) (JR _ _ _) (by omega))
 ·have hp:[61,61].isPrefixOf (s.data.toList.drop a)=false:=(Bool.not_eq_true _).mp hp;have HC:Hid (JC (s.data.toList.drop a)=.inr (6,(s.data.toList.drop a).take 1,0,1)):=by show _=_;rw[JC,hp];rfl
  have WR:Hid (∀w,_):=fun w=>zct 6 s a (a+1) w (by omega) h1 hs
  go_enter Tryz.func264,Tryz.ntmps264;go_wp2_with (first|(go_at_call 240;refine(pre_two _ _ _ _).mono ?_;rintro e w' ⟨rfl,rfl⟩)|(go_at_call 279;go_fit (J0 WR _);rintro e w1 ⟨rfl,hb⟩;obtain⟨hc,hf⟩:=JS hb));exact bodyPost_ret (v:=.tuple #[.agg #[.int .i64 a,.int .i64 6,.string (s.extract a (a+1)),.int .i64 0],.int .i64 (a+1),.pointer none]) (by simp[results,Tryz.results264,go_sem,hc]) rfl
   (za3 (J0 HC) (JZ (((Below.refl _ _).alloc (Nat.le_refl _) _).trans (hb.mono (by simp))) (Nat.le_refl _) _ _ _ _) (JR _ _ _) (by omega))
theorem runLen_at (p:Int->Bool) (s:ByteArray) (k:Nat) (h:k<s.size) (hp:p (s[k].toNat:Int)=true):Jf p (s.data.toList.drop k)=1+Jf p (s.data.toList.drop (k+1)):=by
 rw[drop_cons s k h,JT _ _ _ hp]
theorem zf0 (p:Int->Bool) (s:ByteArray) (k:Nat) (h:k<s.size) (hp:p (s[k].toNat:Int)=false):Jf p (s.data.toList.drop k)=0:=by
 rw[drop_cons s k h,zb1 _ _ _ hp]
theorem runLen_end (p:Int->Bool) (s:ByteArray) (k:Nat) (h:s.size<=k):Jf p (s.data.toList.drop k)=0:=by
 rw[List.drop_of_length_le (by simpa using h)];rfl
theorem tail_drop (s:ByteArray) (a:Nat):(s.data.toList.drop a).tail=s.data.toList.drop (a+1):=by simp
theorem J6 (w:World) (o:Obj):(w.alloc o).heap[w.heap.size]?=some o:=by
 show(w.heap.push o)[w.heap.size]?=_;simp
theorem JA (w:World) (o o':Obj):((w.alloc o).alloc o').heap[w.heap.size+1]?=some o':=by
 have:=J6 (w.alloc o) o';simpa using this
theorem za7 (w:World) (o o':Obj):Below w.heap.size w ((w.alloc o).alloc o'):=((Below.refl _ _).alloc (Nat.le_refl _) _).alloc (by simp) _
theorem cutName_any (s:ByteArray) (a:Nat) (w:World) (h1:a<s.size) (hs:s.size<=281474976710656) :
  Calls Tryz.prog 265 #[.string s,.int .i64 a] w fun e w'=>Jw w a (Jv (s.data.toList.drop a)) e w':=by
 go_enter Tryz.func265,Tryz.ntmps265;go_wp2
 go_loop [7] (fun i=>∃k:Nat,a+1<=k/\k<=s.size/\k<=a+32/\i=.int .i64 k/\Hid (1+Jf Ji (s.data.toList.drop (a+1))=(k-a)+Jf Ji (s.data.toList.drop k))) (fun i=>s.size-(intOf i).toNat)
 case atStart=>exact⟨a+1,by omega,by omega,by omega,by go_num,by show _=_;omega⟩
 case round=>
  obtain⟨k,hk1,hk2,hk3,rfl,HK⟩:=hrel;by_cases hc:∃h:k<s.size,Ji (s[k].toNat:Int)=true
  ·obtain⟨hlt,hn⟩:=hc;have HR:=J4 (runLen_at Ji s k hlt hn);by_cases h32:k=a+32
   ·have HC:Hid (Jv (s.data.toList.drop a)=.inl (32,2)):=by
     show _=_;have e1:=J0 HK;have e2:=J0 HR;rw[Jv,tail_drop,if_pos (by omega)]
    have h32':((k:Int)-(a:Int)==32)=true:=by simp;omega
    clear HK HR;have H32:=J4 h32;clear h32;go_wp2_with (first|(go_at_call 277;refine(zbb _ _).mono ?_;rintro e w' ⟨rfl,rfl⟩)|(go_at_call 206;refine(JL _ _ _).mono ?_;rintro e w' ⟨rfl,rfl⟩));exact bodyPost_ret (v:=.tuple #[.agg #[.int .i64 0,.int .i64 0,.string ⟨#[]⟩,.int .i64 0],.int .i64 0,.pointer (some ⟨w.heap.size+1,0,none⟩)]) (by simp[results,Tryz.results265,go_sem]) rfl
     (za5 (J0 HC) (za7 _ _ _) (by omega) (by rw[JA,J0 H32];rfl))
   ·have h32':((k:Int)-(a:Int)==32)=false:=by simp;omega
    have h32:k<a+32:=by omega
    go_wp2_with (first|(go_at_call 277;refine(zbb _ _).mono ?_;rintro e w' ⟨rfl,rfl⟩))
    go_round
    case rel=>exact⟨k+1,by omega,by omega,by omega,by go_num,by have e1:=J0 HK;have e2:=J0 HR;show _=_;omega⟩
    case measure=>simp[intOf];omega
  ·have HR:Hid (Jf Ji (s.data.toList.drop k)=0):=by
    show _=_;by_cases hlt:k<s.size
    ·exact zf0 Ji s k hlt ((Bool.not_eq_true _).mp fun h=>hc ⟨hlt,h⟩)
    ·exact runLen_end Ji s k (by omega)
   have HC:Hid (Jv (s.data.toList.drop a)=.inr (kindOf ((s.data.toList.drop a).take (k-a)),(s.data.toList.drop a).take (k-a),0,k-a)):=by
    show _=_;have e1:=J0 HK;have e2:=J0 HR;rw[Jv,tail_drop,if_neg (by omega),show 1+Jf Ji (s.data.toList.drop (a+1))=k-a from by omega]
   have HE:Hid (s.extract a k=⟨((s.data.toList.drop a).take (k-a)).toArray⟩):=by
    have:=JR s a (k-a);rwa[show a+(k-a)=k from by omega]at this
   have hz:0<(s.extract a k).size:=by simp;omega
   have hz2:(s.extract a k).size<=maxLen:=by unfold maxLen;simp;omega
   have NK:Hid (∀w,_):=fun w=>nameKind_any (s.extract a k) w hz hz2
   have WR:Hid (∀w kd,_):=fun w kd=>zct kd s a k w (by omega) hk2 hs
   clear hz hz2;have hak:a<=k:=by omega
   clear HK HR;by_cases hlt:k<s.size
   ·have hn:Ji (s[k].toNat:Int)=false:=(Bool.not_eq_true _).mp fun h=>hc ⟨hlt,h⟩
    clear hc;go_wp2_with (first|(go_at_call 277;refine(zbb _ _).mono ?_;rintro e w' ⟨rfl,rfl⟩)|(go_at_call 280;go_fit (J0 NK _);rintro e w1 ⟨rfl,hb1⟩)|(go_at_call 279;go_fit (J0 WR _ _);rintro e w2 ⟨rfl,hb2⟩;have hb:=hb1.trans (hb2.mono hb1.size);obtain⟨hc',hf'⟩:=JS hb));exact bodyPost_ret (v:=.tuple #[.agg #[.int .i64 a,.int .i64 (kindOf ((s.data.toList.drop a).take (k-a))),.string (s.extract a k),.int .i64 0],.int .i64 k,.pointer none]) (by simp[results,Tryz.results265,go_sem,hc']) rfl
     (za3 (J0 HC) (JZ (((Below.refl _ _).alloc (Nat.le_refl _) _).trans (hb.mono (by simp))) (Nat.le_refl _) _ _ _ _) (J0 HE) (by omega))
   ·clear hc;go_wp2_with (first|(go_at_call 280;go_fit (J0 NK _);rintro e w1 ⟨rfl,hb1⟩)|(go_at_call 279;go_fit (J0 WR _ _);rintro e w2 ⟨rfl,hb2⟩;have hb:=hb1.trans (hb2.mono hb1.size);obtain⟨hc',hf'⟩:=JS hb));exact bodyPost_ret (v:=.tuple #[.agg #[.int .i64 a,.int .i64 (kindOf ((s.data.toList.drop a).take (k-a))),.string (s.extract a k),.int .i64 0],.int .i64 k,.pointer none]) (by simp[results,Tryz.results265,go_sem,hc']) rfl
     (za3 (J0 HC) (JZ (((Below.refl _ _).alloc (Nat.le_refl _) _).trans (hb.mono (by simp))) (Nat.le_refl _) _ _ _ _) (J0 HE) (by omega))
def numAns (o:Option Int):Ending:=.returned (.tuple #[.int .i64 (o.getD 0),.bool o.isSome])
theorem ze2 {x:Int} (h:Jd x=true):48<=x/\x<=57:=by simpa[Jd]using h
theorem hd_at (s:ByteArray) (a:Nat) (h:a<s.size):hd (s.data.toList.drop a)=(s[a].toNat:Int):=by rw[drop_cons s a h];rfl
theorem number_any (s:ByteArray) (w:World) (h0:0<s.size) (hs:s.size<=maxLen) (hd0:∀k (h:k<s.size),Jd (s[k].toNat:Int)=true) :
  Calls Tryz.prog 276 #[.string s] w fun e w'=>e=numAns (number s.data.toList)/\w'=w:=by
 unfold maxLen at hs;have HD:=J4 hd0;have hh:=hd_at s 0 h0;rw[List.drop_zero]at hh;clear hd0;by_cases hz:(s[0].toNat:Int)=48/\1<s.size
 ·obtain⟨z1,z2⟩:=hz;have HN:Hid (number s.data.toList=none):=by show _=_;rw[number,if_pos ⟨by rw[hh,z1],by simpa using z2⟩]
  have z1':((s[0].toNat:Int)==48)=true:=by simp[z1]
  clear z1 hh;go_enter Tryz.func276,Tryz.ntmps276;go_wp2;go_ret2;exact⟨by rw[J0 HN];rfl,rfl⟩
 ·have HN:Hid (number s.data.toList=JY s.data.toList 0):=by show _=_;rw[number,if_neg (by rw[hh];simpa using hz)]
  have hz':((s[0].toNat:Int)==48)=false∨(((s[0].toNat:Int)==48)=true/\s.size<=1):=by
   by_cases h:(s[0].toNat:Int)=48
   ·exact .inr ⟨by simp[h],by omega⟩
   ·exact .inl (by simpa using h)
  clear hz hh;rcases hz' with hA|⟨hA,hB⟩
  all_goals
   go_enter Tryz.func276,Tryz.ntmps276;go_wp2
   go_loop [4,17] (fun n i=>∃(k:Nat) (v:Int),k<=s.size/\i=.int .i64 k/\n=.int .i64 v/\0<=v/\v<=9223372036854775807/\Hid (JY s.data.toList 0=JY (s.data.toList.drop k) v)) (fun _ i=>s.size-(intOf i).toNat)
   case atStart=>exact⟨0,0,by omega,rfl,rfl,by omega,by omega,rfl⟩
   case round=>
    obtain⟨k,v,hk,rfl,rfl,hv0,hv1,HK⟩:=hrel;by_cases hlt:k<s.size
    ·have hdg:=ze2 (J0 HD k hlt);have HS:=J4 (drop_cons s k hlt);by_cases ho:(9223372036854775807-((s[k].toNat:Int)-48)) / 10<v
     ·have HF:Hid (number s.data.toList=none):=by
       have e1:=J0 HN;have e2:=J0 HK;rw[J0 HS,JY,if_pos ho]at e2;show _=_;rw[e1,e2]
      go_wp2;go_ret2;exact⟨by rw[J0 HF];rfl,rfl⟩
     ·have HF:Hid (JY s.data.toList 0=JY (s.data.toList.drop (k+1)) (v*10+((s[k].toNat:Int)-48))):=by
       have e2:=J0 HK;rw[J0 HS,JY,if_neg ho]at e2;exact e2
      have ho':v*10+((s[k].toNat:Int)-48)<=9223372036854775807:=by omega
      go_wp2
      go_round
      case rel=>exact⟨k+1,v*10+((s[k].toNat:Int)-48),by omega,by go_num,rfl,by omega,ho',J0 HF⟩
      case measure=>simp[intOf];omega
    ·have HF:Hid (number s.data.toList=some v):=by
      have e1:=J0 HN;have e2:=J0 HK;rw[List.drop_of_length_le (by simp;omega)]at e2;show _=_;rw[e1,e2];rfl
     go_wp2;go_ret2;exact⟨by rw[J0 HF];rfl,rfl⟩
theorem runLen_all (p:Int->Bool):∀(l:Bs) (k:Nat),k<Jf p l->∃h:k<l.length,p ((l[k]).toNat:Int)=true
 | [],k,h=>by simp[Jf]at h
 | c::r,k,h=>by
  by_cases hc:p (c.toNat:Int)=true
  ·rw[JT p c r hc]at h;rcases k with _|k
   ·exact⟨by simp,by simpa using hc⟩
   ·obtain⟨h1,h2⟩:=runLen_all p r k (by omega);exact⟨by simp;omega,by simpa using h2⟩
  ·rw[zb1 p c r ((Bool.not_eq_true _).mp hc)]at h;omega
theorem run_digits (s:ByteArray) (a n:Nat) (h1:a<s.size) (h0:Jd (s[a].toNat:Int)=true) (hn:n=Jz (s.data.toList.drop a)) (hz:a+n<=s.size) :
  ∀k (h:k<(s.extract a (a+n)).size),Jd (((s.extract a (a+n))[k]).toNat:Int)=true:=by
 intro k h;have hk:k<n:=by simp at h;omega
 have e:(s.extract a (a+n))[k]=s[a+k]'(by omega):=by
  simp[ByteArray.getElem_extract]
 rw[e];rcases k with _|k
 ·simpa using h0
 ·have hr:k<Jf Jd (s.data.toList.drop (a+1)):=by
   rw[Jz,tail_drop]at hn;omega
  obtain⟨hl,this⟩:=runLen_all Jd _ k hr;rw[List.getElem_drop]at this;have e2:s.data.toList[a+1+k]'(by simp;omega)=s[a+(k+1)]'(by omega):=by
   rw[Array.getElem_toList];have h':a+1+k=a+(k+1):=by omega
   simp only[h'];rfl
  rw[e2]at this;exact this
theorem cutNumber_no1 {l:Bs} (h:number (l.take (Jz l))=none):Jh l=.inl (0,11):=by rw[Jh,h]
theorem cutNumber_no2 {l:Bs} {v:Int} (h:number (l.take (Jz l))=some v) (h1:l.drop (Jz l)≠[]) (h2:Ji (hd (l.drop (Jz l)))=true):Jh l=.inl (0,11):=by
 rw[Jh,h];exact if_pos ⟨h1,h2⟩
theorem zdi {l:Bs} {v:Int} (h:number (l.take (Jz l))=some v) (h1:l.drop (Jz l)=[]∨Ji (hd (l.drop (Jz l)))=false):Jh l=.inr (4,[],v,Jz l):=by
 rw[Jh,h];exact if_neg (by rintro⟨a,b⟩;rcases h1 with h1|h1 <;> simp_all)
theorem cutNumber_any (s:ByteArray) (a:Nat) (w:World) (h1:a<s.size) (hs:s.size<=281474976710656) (hdg:Jd (s[a].toNat:Int)=true) :
  Calls Tryz.prog 262 #[.string s,.int .i64 a] w fun e w'=>Jw w a (Jh (s.data.toList.drop a)) e w':=by
 have HD:=J4 hdg;clear hdg;go_enter Tryz.func262,Tryz.ntmps262;go_wp2
 go_loop [7] (fun i=>∃k:Nat,a+1<=k/\k<=s.size/\i=.int .i64 k/\Hid (Jz (s.data.toList.drop a)=(k-a)+Jf Jd (s.data.toList.drop k))) (fun i=>s.size-(intOf i).toNat)
 case atStart=>exact⟨a+1,by omega,by omega,by go_num,by show _=_;rw[Jz,tail_drop];omega⟩
 case round=>
  obtain⟨k,hk1,hk2,rfl,HK⟩:=hrel;by_cases hc:∃h:k<s.size,Jd (s[k].toNat:Int)=true
  ·obtain⟨hlt,hn⟩:=hc;have HR:=J4 (runLen_at Jd s k hlt hn);go_wp2_with (first|(go_at_call 260;refine(Jo _ _).mono ?_;rintro e w' ⟨rfl,rfl⟩))
   go_round
   case rel=>exact⟨k+1,by omega,by omega,by go_num,by have e1:=J0 HK;have e2:=J0 HR;show _=_;omega⟩
   case measure=>simp[intOf];omega
  ·have hstop:Jf Jd (s.data.toList.drop k)=0:=by
    by_cases hlt:k<s.size
    ·exact zf0 Jd s k hlt ((Bool.not_eq_true _).mp fun h=>hc ⟨hlt,h⟩)
    ·exact runLen_end Jd s k (by omega)
   have hdl:Jz (s.data.toList.drop a)=k-a:=by have e1:=J0 HK;omega
   have hak:a<=k:=by omega
   have hex:s.extract a k=⟨((s.data.toList.drop a).take (Jz (s.data.toList.drop a))).toArray⟩:=by
    have:=JR s a (k-a);rw[hdl];rwa[show a+(k-a)=k from by omega]at this
   have NB:Hid (∀w,Calls Tryz.prog 276 #[.string (s.extract a k)] w fun e w'=>e=numAns (number ((s.data.toList.drop a).take (Jz (s.data.toList.drop a))))/\w'=w):=by
    intro w;have:=number_any (s.extract a k) w (by simp;omega) (by unfold maxLen;simp;omega) (by
     have:=run_digits s a (k-a) h1 (J0 HD) hdl.symm (by omega);rw[show a+(k-a)=k from by omega]at this;exact this)
    rw[hex]at this ⊢;simpa using this
   have hdr:(s.data.toList.drop a).drop (Jz (s.data.toList.drop a))=s.data.toList.drop k:=by
    rw[hdl,List.drop_drop];congr 1;omega
   have HL:=J4 hdl;rcases hnum:number ((s.data.toList.drop a).take (Jz (s.data.toList.drop a)))with _|v
   ·have NB:Hid (∀w,Calls Tryz.prog 276 #[.string (s.extract a k)] w fun e w'=>e=.returned (.tuple #[.int .i64 0,.bool false])/\w'=w):=by
     intro w;have:=J0 NB w;rw[hnum]at this;exact this
    have HC:=J4 (cutNumber_no1 hnum);clear hnum hdr hex hdl hstop HK;by_cases hlt:k<s.size
    ·have hn:Jd (s[k].toNat:Int)=false:=(Bool.not_eq_true _).mp fun h=>hc ⟨hlt,h⟩
     clear hc;go_wp2_with (first|(go_at_call 260;refine(Jo _ _).mono ?_;rintro e w' ⟨rfl,rfl⟩)|(go_at_call 276;go_fit (J0 NB _);rintro e w' ⟨rfl,rfl⟩)|(go_at_call 206;refine(JL _ _ _).mono ?_;rintro e w' ⟨rfl,rfl⟩));exact bodyPost_ret (v:=.tuple #[.agg #[.int .i64 0,.int .i64 0,.string ⟨#[]⟩,.int .i64 0],.int .i64 0,.pointer (some ⟨w.heap.size+1,0,none⟩)]) (by simp[results,Tryz.results262,go_sem]) rfl (za5 (J0 HC) (za7 _ _ _) (by omega) (JA _ _ _))
    ·clear hc;go_wp2_with (first|(go_at_call 276;go_fit (J0 NB _);rintro e w' ⟨rfl,rfl⟩)|(go_at_call 206;refine(JL _ _ _).mono ?_;rintro e w' ⟨rfl,rfl⟩));exact bodyPost_ret (v:=.tuple #[.agg #[.int .i64 0,.int .i64 0,.string ⟨#[]⟩,.int .i64 0],.int .i64 0,.pointer (some ⟨w.heap.size+1,0,none⟩)]) (by simp[results,Tryz.results262,go_sem]) rfl (za5 (J0 HC) (za7 _ _ _) (by omega) (JA _ _ _))
   ·have NB:Hid (∀w,Calls Tryz.prog 276 #[.string (s.extract a k)] w fun e w'=>e=.returned (.tuple #[.int .i64 v,.bool true])/\w'=w):=by
     intro w;have:=J0 NB w;rw[hnum]at this;exact this
    by_cases hlt:k<s.size
    ·have hn:Jd (s[k].toNat:Int)=false:=(Bool.not_eq_true _).mp fun h=>hc ⟨hlt,h⟩
     by_cases hnm:Ji (s[k].toNat:Int)=true
     ·have HC:=J4 (cutNumber_no2 hnum (by rw[hdr,drop_cons s k hlt];simp) (by rw[hdr,hd_at s k hlt];exact hnm));clear hnum hdr hex hdl hstop HK hc;go_wp2_with (first|(go_at_call 260;refine(Jo _ _).mono ?_;rintro e w' ⟨rfl,rfl⟩)|(go_at_call 276;go_fit (J0 NB _);rintro e w' ⟨rfl,rfl⟩)|(go_at_call 206;refine(JL _ _ _).mono ?_;rintro e w' ⟨rfl,rfl⟩)|(go_at_call 277;refine(zbb _ _).mono ?_;rintro e w' ⟨rfl,rfl⟩));exact bodyPost_ret (v:=.tuple #[.agg #[.int .i64 0,.int .i64 0,.string ⟨#[]⟩,.int .i64 0],.int .i64 0,.pointer (some ⟨w.heap.size+1,0,none⟩)]) (by simp[results,Tryz.results262,go_sem]) rfl (za5 (J0 HC) (za7 _ _ _) (by omega) (JA _ _ _))
     ·have hnm:Ji (s[k].toNat:Int)=false:=(Bool.not_eq_true _).mp hnm;have HC:=J4 (zdi hnum (.inr (by rw[hdr,hd_at s k hlt];exact hnm)));clear hnum hdr hex hdl hstop HK hc;go_wp2_with (first|(go_at_call 260;refine(Jo _ _).mono ?_;rintro e w' ⟨rfl,rfl⟩)|(go_at_call 276;go_fit (J0 NB _);rintro e w' ⟨rfl,rfl⟩)|(go_at_call 277;refine(zbb _ _).mono ?_;rintro e w' ⟨rfl,rfl⟩));exact bodyPost_ret (v:=.tuple #[.agg #[.int .i64 a,.int .i64 4,.string ⟨#[]⟩,.int .i64 v],.int .i64 k,.pointer none]) (by simp[results,Tryz.results262,go_sem]) rfl (za3 (J0 HC) ((Below.refl _ _).alloc (Nat.le_refl _) _) rfl (by have:=J0 HL;omega))
    ·have HC:=J4 (zdi hnum (.inl (by rw[hdr];exact List.drop_of_length_le (by simp;omega))));clear hnum hdr hex hdl hstop HK hc;go_wp2_with (first|(go_at_call 276;go_fit (J0 NB _);rintro e w' ⟨rfl,rfl⟩));exact bodyPost_ret (v:=.tuple #[.agg #[.int .i64 a,.int .i64 4,.string ⟨#[]⟩,.int .i64 v],.int .i64 k,.pointer none]) (by simp[results,Tryz.results262,go_sem]) rfl (za3 (J0 HC) ((Below.refl _ _).alloc (Nat.le_refl _) _) rfl (by have:=J0 HL;omega))
end Go.Proofs.YtdamlfkieecnjaaGreatDoor
namespace Go.Proofs.YtdamlfkieecnjaaGreatDoor
open Go Go.RowKit Lx
theorem Within_any (n lo hi:Int) (w:World) (_h0:-9223372036854775808<=n) (_h1:n<=9223372036854775807) (h2:-1000000<=lo) (h3:lo<=hi) (h4:hi<=1000000) :
  Calls Tryz.prog 40 #[.int .i64 n,.int .i64 lo,.int .i64 hi] w fun e w'=>(∃r:Int,e=.returned (.int .i64 r)/\lo<=r/\r<=hi)/\w=w':=by
 obtain⟨q,hq⟩:∃q,n.tmod (hi-lo+1)=q:=⟨_,rfl⟩
 have b1:q<hi-lo+1:=by rw[<-hq];exact Int.tmod_lt_of_pos _ (by omega)
 have b2:-(hi-lo+1)<q:=by
  have:=Int.tmod_lt_of_pos (-n) (b:=hi-lo+1) (by omega);rw[Int.neg_tmod,hq]at this;omega
 by_cases hn:q<0
 ·go_enter Tryz.func40,Tryz.ntmps40;go_wp2;go_ret;exact⟨⟨_,rfl,by omega,by omega⟩,rfl⟩
 ·go_enter Tryz.func40,Tryz.ntmps40;go_wp2;go_ret;exact⟨⟨_,rfl,by omega,by omega⟩,rfl⟩
end Go.Proofs.YtdamlfkieecnjaaGreatDoor
namespace Go.Proofs.YtdamlfkieecnjaaGreatDoor
open Lx
abbrev RS:=List Tok×Option (Int×Int)
def J5 (s:RS):Tok:=s.1.headD (0,0,[],0)
def J7 (s:RS):RS:=(s.1.tail,s.2)
def zbv (s:RS) (a y:Int):RS:=([],some (s.2.getD (a,y)))
def Jb (en:Int) (s:RS):RS:=match s.1 with| []=>zbv s en 14|t::_=>zbv s t.1 13
def zcr (t:Tok):Bool:=t.2.1==6||t.2.1==3
def isM (t:Tok) (ms:List Bs):Bool:=zcr t&&ms.contains t.2.2.1
def JB (s:RS) (m:Bs):Bool:=isM (J5 s) [m]
def zb4 (s:RS) (m:Bs):RS:=if JB s m=true then J7 s else s
def Je (en:Int) (s:RS) (m:Bs):RS:=if JB s m=true then J7 s else Jb en s
def JF (s:RS) (k:Int):Tok:=if (J5 s).2.1=k then J5 s else(0,0,[],0)
def JX (en:Int) (s:RS) (k:Int):RS:=if (J5 s).2.1=k then J7 s else Jb en s
def newS (en:Int) (s:RS) (known:List Bs):RS:=if known.contains (JF s 1).2.2.1=true then zbv (JX en s 1) (JF s 1).1 20 else JX en s 1
def zb5 (en:Int) (s:RS):RS:=if s.1=[]then Jb en s else s
def zab (en:Int) (s:RS) (m:Bs):Bool:=JB (zb5 en s) m||(zb4 (zb5 en s) m).1.isEmpty
def Ju (en:Int) (s:RS) (m:Bs):RS:=zb4 (zb5 en s) m
def zd4 (b:Tok->Bool) (s:RS) (depth:Int):Bool:=b (J5 s)&&decide (depth<=64)
def zbq (b:Tok->Bool) (en:Int) (s:RS) (depth:Int):RS:=if b (J5 s)=false then Jb en s else if 64<depth then zbv s (J5 s).1 15 else s
theorem rRef_len (s:RS) (a y:Int):(zbv s a y).1=[]:=rfl
theorem za6 (en:Int) (s:RS):(Jb en s).1=[]:=by unfold Jb;split <;> rfl
theorem Jt (s:RS):(J7 s).1.length=s.1.length-1:=by simp[J7]
theorem zdk (s:RS) (m:Bs):(zb4 s m).1.length<=s.1.length:=by unfold zb4;split <;> simp[Jt]
theorem JK (en:Int) (s:RS) (m:Bs):(Je en s m).1.length<=s.1.length:=by unfold Je;split <;> simp[Jt,za6]
theorem kindS_len (en:Int) (s:RS) (k:Int):(JX en s k).1.length<=s.1.length-1:=by unfold JX;split <;> simp[Jt,za6]
theorem zc6 (en:Int) (s:RS) (k:List Bs):(newS en s k).1.length<=s.1.length-1:=by
 unfold newS;split
 ·simp[rRef_len]
 ·exact kindS_len _ _ _
theorem openS_len (en:Int) (s:RS):(zb5 en s).1.length<=s.1.length:=by unfold zb5;split <;> simp[za6]
theorem zau (en:Int) (s:RS) (m:Bs):(Ju en s m).1.length<=s.1.length:=Nat.le_trans (zdk _ _) (openS_len _ _)
def Jl {α:Type} (thing:α->RS->α×RS):Nat->α->RS->α×RS
 | 0,a,s=>(a,s)
 | f+1,a,s=>if JB s [44]=true then Jl thing f (thing a (J7 s)).1 (thing a (J7 s)).2 else(a,s)
def Jj {α:Type} (en:Int) (e:Bs) (thing:α->RS->α×RS) (a:α) (s:RS):α×RS:=
 if JB s e=true then(a,J7 s)else
  ((Jl thing ((thing a s).2.1.length+1) (thing a s).1 (thing a s).2).1,Je en (Jl thing ((thing a s).2.1.length+1) (thing a s).1 (thing a s).2).2 e)
end Go.Proofs.YtdamlfkieecnjaaGreatDoor
