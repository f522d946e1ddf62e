import Derived.Test.YtdcbglnhhbmpgaaGreatDoorQRefA
import Derived.Test.YtdcbglnhhbmpgaaGreatDoorQNamesG
import Derived.OwnWalk
import Derived.Laws.IdiomStrings
import Derived.Laws.OwnMore
import Derived.Lib.BufferRead
import Derived.Deep.Cut
import Derived.BigRegion
set_option maxHeartbeats 4000000
set_option maxRecDepth 100000
namespace Go.Proofs.YtdcbglnhhbmpgaaGreatDoor
open Go Go.RowKit Lx
theorem rinfo_u8:(Tryz.prog.info? 5).map (fun i=>(i.zero,i.size,i.bytes))=some (some (.int .u8 0),1,1):=by kernel_rfl
theorem zg4 {W:Zw} {B:Nat} {v:Value} {n:Nat} {l:Bs} (h:W.ownsRow B 5 1 v n (Lib.byteCells l)) :
  (convert 120 9 v).run Tryz.prog W=.ok (.string ⟨l.toArray⟩) W:=by
 have c:l.length=n:=by have:=h.1;rw[XE]at this;omega
 rcases h.2 with⟨rfl,s⟩|⟨g,cap,cur,rfl,_⟩
 ·have:l=[]:=YB (by omega);subst this;exact Lib.run_convert_nil_bytes (P:=Tryz.prog) W 120 9 5 0 Tryz.underlying120 Tryz.underlying5 Tryz.underlying9
 ·have:=run_convert_bytes_back (P:=Tryz.prog) W 120 9 5 ⟨g,0,none⟩ cap l Tryz.underlying120 Tryz.underlying5 Tryz.underlying9 (fun j r=>by
   rw[addr_add,h.cellAt j (by omega)];simp[Lib.byteCells,r])
  rw[c]at this;exact this
abbrev cut0:Obj:=.cells #[Zi 0,Zi 0,.string ⟨#[]⟩,Zi 0,Zi 0,Zi 0,Zi 0] 181
theorem rcut_no {a o:Nat} {l:Bs} (h:textF l.tail 1 []=.inl o):RCut a (JX l)=zba 12 ((a+o:Nat):Int):=by rw[JX,h];rfl
theorem rcut_yes {a n:Nat} {t l:Bs} (h:textF l.tail 1 []=.inr (t,n)):RCut a (JX l)=zdi (a:Int) 5 ⟨t.toArray⟩ 0 ((a+n:Nat):Int):=by rw[JX,h];rfl
theorem rquoted_any (s:Zy) (a:Nat) (w:Zw) (h0:a<s.size) (hs:s.size<=140737488355328) (R:Value) (hR:RCut a (JX (s.data.toList.drop a))=R) :
  ZC 164 #[.string s,Zi a] w R:=by
 have G:=J3 hR;clear hR;obtain⟨i0,Y,Z,aa,ab⟩:=Xx rinfo_u8;go_enter Tryz.func164,Tryz.ntmps164;go_wp2_with (at_make;refine wpList_make_own _ rfl _ _ 120 rfl (w.heap.size+1) 5 i0 (.int .u8 0) 1 Tryz.underlying120 Y Z aa .i64 .i64 _ 0 rfl rfl rfl (by rw[ab];omega) (by unfold maxLen;omega) (by simp) ?_;intro w0 az aA);have aB:Below (w.heap.size+1) (w.alloc cut0) w0:=(Yu _ _).grown aA (by simp) (by simp);clear aA
 go_loopw [5,6] (fun v i wr=>∃(k:Nat) (acc:Bs),a+1<=k/\k<=s.size/\i=Zi k/\acc.length<=k/\ZH (textF (s.data.toList.drop (a+1)) 1 []=textF (s.data.toList.drop k) (k-a) acc) /\
   wr.ownsRow (w.heap.size+1) 5 1 v acc.length (Lib.byteCells acc)/\Below (w.heap.size+1) (w.alloc cut0) wr) (fun _ i _=>s.size-(intOf i).toNat)
 case atStart=>
  exact⟨a+1,[],by omega,by omega,by go_num,by simp,by show _=_;congr 1;omega,by simpa[Lib.byteCells]using az,aB⟩
 case round=>
  clear az aB;obtain⟨k,acc,aI,aJ,rfl,aK,t,x,hb⟩:=hrel;have aC:=hb.size;simp only[World.size_alloc]at aC;have g:w.heap.size<wr.heap.size:=by omega
  have ad:∀o,wr.cell? ⟨w.heap.size,o,none⟩=(w.alloc cut0).cell? ⟨w.heap.size,o,none⟩:=fun o=>
   hb.cell (p:=⟨w.heap.size,o,none⟩) (XB _)
  have aj:wr.cell? ⟨w.heap.size,0,none⟩=some (Zi 0):=(ad 0).trans (by simp);have ak:wr.cell? ⟨w.heap.size,1,none⟩=some (Zi 0):=(ad 1).trans (by simp);have al:wr.cell? ⟨w.heap.size,2,none⟩=some (.string ⟨#[]⟩):=(ad 2).trans (by simp);have am:wr.cell? ⟨w.heap.size,3,none⟩=some (Zi 0):=(ad 3).trans (by simp);have an:wr.cell? ⟨w.heap.size,4,none⟩=some (Zi 0):=(ad 4).trans (by simp);have ao:wr.cell? ⟨w.heap.size,5,none⟩=some (Zi 0):=(ad 5).trans (by simp);have ap:wr.cell? ⟨w.heap.size,6,none⟩=some (Zi 0):=(ad 6).trans (by simp);have hf:∀o,wr.frozen? ⟨w.heap.size,o,none⟩=false:=fun o=>
   (hb.frozen (p:=⟨w.heap.size,o,none⟩) (XB _)).trans (by simp)
  clear ad;have aq:ZB w wr:=(Za _ _).trans (hb.mono (by omega));by_cases aD:k<s.size
  ·have hd:=drop_cons s k aD;by_cases J:(s[k].toNat:Int)=34
   ·have HC:ZH (zdi (a:Int) 5 ⟨acc.toArray⟩ 0 ((k:Int)+1)=R):=by
     have e:=J0 t;rw[hd,zbm (by decide) J]at e;have:=rcut_yes (a:=a) (l:=s.data.toList.drop a) (by rw[tail_drop];exact e.trans (zmr _ _ _));show _=_;rw[<-J0 G,this]
     congr 1
     omega
    have hq:((s[k].toNat:Int) != 34)=false:=by simp[J]
    have heq:((k:Int)==(s.size:Int))=false:=by simp;omega
    have kc:=zg4 x;clear J hd t G x Y Z aa ab;go_upto_region 24 with fail
    have L:∀o,(wr.alloc (.cells #[Zi a,Zi 5,.string ⟨acc.toArray⟩,Zi 0] 112)).cell? ⟨w.heap.size,o,none⟩=wr.cell? ⟨w.heap.size,o,none⟩:=fun o=>Yl _ _ _ g
    have hy:∀o,(wr.alloc (.cells #[Zi a,Zi 5,.string ⟨acc.toArray⟩,Zi 0] 112)).cell? ⟨wr.heap.size,o,none⟩=#[Zi a,Zi 5,.string ⟨acc.toArray⟩,Zi 0][o]?:=fun o=>by rw[Ya _ _ _ _ (by rfl)]
    have g0:=(L 0).trans aj;have g1:=(L 1).trans ak;have g2:=(L 2).trans al;have g3:=(L 3).trans am;have g4:=(L 4).trans an;have g5:=(L 5).trans ao;have g6:=(L 6).trans ap;have y0:=hy 0;have y1:=hy 1;have y2:=hy 2;have y3:=hy 3;have gf:∀o,(wr.alloc (.cells #[Zi a,Zi 5,.string ⟨acc.toArray⟩,Zi 0] 112)).frozen? ⟨w.heap.size,o,none⟩=false:=fun o=>(((Yu wr.heap.size wr).alloc (Y5 _) _).frozen (p:=⟨w.heap.size,o,none⟩) g).trans (hf o)
    have ax:ZB w (wr.alloc (.cells #[Zi a,Zi 5,.string ⟨acc.toArray⟩,Zi 0] 112)):=aq.alloc (by omega) _;clear L hy aj ak al am an ao ap hf aq hb kc
    revert g0 g1 g2 g3 g4 g5 g6 y0 y1 y2 y3 gf ax
    generalize wr.alloc (.cells #[Zi a,Zi 5,.string ⟨acc.toArray⟩,Zi 0] 112)=W2;clear aC g;generalize wr.heap.size=B;generalize hA:(⟨acc.toArray⟩:Zy)=A;intro g0 g1 g2 g3 g4 g5 g6 y0 y1 y2 y3 gf ax;simp at y0 y1 y2 y3;go_wp2;exact Yi (v:=zdi (a:Int) 5 A 0 ((k:Int)+1)) (by simp[results,Tryz.results164,go_sem,g0,g1,g2,g3,g4,g5,g6,zdi]) rfl ⟨zam (by rw[<-hA];exact HC),zbg ax (Y5 _) _ _ _ _ _ _ _⟩
   ·have hq:((s[k].toNat:Int) != 34)=true:=by simpa using J
    have ae:s[k]≠34:=fun h=>J (by rw[h];rfl)
    have aL:(k:Int)<(s.size:Int):=by omega
    by_cases M:(s[k].toNat:Int)=92
    ·have L:((s[k].toNat:Int) != 92)=false:=by simp[M]
     have ac:zft (s[k].toNat:Int)=false:=by simp[zft,M]
     have af:s[k]=92:=zbm (n:=92) (by decide) M;by_cases aE:k+1<s.size
     ·have aF:((k:Int)+1==(s.size:Int))=false:=by simp;omega
      have ar:=drop_cons s (k+1) aE;have aM:(k:Int)+1<(s.size:Int):=by omega
      by_cases I:zfm (s[k+1].toNat:Int)=true
      ·have av:textF (s.data.toList.drop (a+1)) 1 []=textF (s.data.toList.drop (k+1+1)) (k+1+1-a) (acc++[(escB (s[k+1].toNat:Int)).toNat.toUInt8]):=by
        have e:=J0 t;rw[hd,af,ar]at e;rw[show k+1+1-a=k-a+2 from by omega];exact e.trans (textF_esc _ _ _ _ I)
       by_cases au:(s[k+1].toNat:Int)=110
       ·have q1:((s[k+1].toNat:Int)==110)=true:=by simp[au]
        have HT:ZH (textF (s.data.toList.drop (a+1)) 1 []=textF (s.data.toList.drop (k+1+1)) (k+1+1-a) (acc++[10])):=by
         show _=_;rw[av,au];rfl
        clear J M hd ar af ae t G av au I;go_wp2_with (first|(go_at_call 173;refine(zd4 _ _).mono ?_;rintro e w' ⟨rfl,rfl⟩;rw[ac])|(at_builtin;refine wpList_append_own _ rfl _ _ 120 rfl (w.heap.size+1) 5 i0 (.int .u8 0) 1 1 Tryz.underlying120 Y Z aa ab rfl (by decide) _ acc.length (Lib.byteCells acc) rfl ?ownA ⟨_,0,none⟩ 1 1 [.int .u8 10] rfl rfl ?newsA ?oneA ?c3A ?c4A ?c5A ?_))
        case ownA=>exact x.alloc _
        case newsA=>
         intro j u r
         match j,r with
         | 0,r=>simp at r;subst r;simp[Addr.add]
         | j+1,r=>simp at r
        case oneA=>intro u hu;simp at hu;subst hu;rfl
        case c3A=>unfold maxLen;omega
        case c4A=>omega
        case c5A=>simp;omega
        intro v' w1 U V _;have ag:Below (w.heap.size+1) (w.alloc cut0) w1:=(hb.alloc (by omega) _).grown V (by simp;omega) (fun q e=>(x.lt q e).1);have ah:(acc++[(10:UInt8)]).length=acc.length+1:=by simp
        have ai:w1.ownsRow (w.heap.size+1) 5 1 v' (acc++[(10:UInt8)]).length (Lib.byteCells (acc++[(10:UInt8)])):=by rw[zc0,ah];exact U
        clear V U;go_wp2;go_roundw
        case rel=>exact⟨k+1+1,acc++[(10:UInt8)],by omega,by omega,by go_num,by omega,HT,ai,ag⟩
        case measure=>simp[intOf];omega
       ·have q1:((s[k+1].toNat:Int)==110)=false:=by simpa using au
        have ay:(s[k+1].toNat:Int)=34∨(s[k+1].toNat:Int)=92:=by
         simp only[zfm,Bool.or_eq_true,Xn]at I;omega
        have HT:ZH (textF (s.data.toList.drop (a+1)) 1 []=textF (s.data.toList.drop (k+1+1)) (k+1+1-a) (acc++[s[k+1]])):=by
         show _=_;rw[av];have:(escB (s[k+1].toNat:Int)).toNat.toUInt8=s[k+1]:=by
          rcases ay with h|h
          ·rw[h,zbm (n:=34) (by decide) h];rfl
          ·rw[h,zbm (n:=92) (by decide) h];rfl
         rw[this]
        have aG:((s[k+1].toNat:Int)==34)=true∨(((s[k+1].toNat:Int)==34)=false/\((s[k+1].toNat:Int)==92)=true):=by
         rcases ay with h|h
         ·left;simp[h]
         ·right;constructor <;> simp[h]
        clear J M hd ar af ae t G av au I ay;rcases aG with q2|⟨q2,q3⟩
        ·skip
         go_wp2_with (first|(go_at_call 173;refine(zd4 _ _).mono ?_;rintro e w' ⟨rfl,rfl⟩;rw[ac])|(at_builtin;refine wpList_append_own _ rfl _ _ 120 rfl (w.heap.size+1) 5 i0 (.int .u8 0) 1 1 Tryz.underlying120 Y Z aa ab rfl (by decide) _ acc.length (Lib.byteCells acc) rfl ?ownB ⟨_,0,none⟩ 1 1 [.int .u8 (s[k+1].toNat:Int)] rfl rfl ?newsB ?oneB ?c3B ?c4B ?c5B ?_))
         case ownB=>exact x.alloc _
         case newsB=>
          intro j u r
          match j,r with
          | 0,r=>simp at r;subst r;simp[Addr.add]
          | j+1,r=>simp at r
         case oneB=>intro u hu;simp at hu;subst hu;rfl
         case c3B=>unfold maxLen;omega
         case c4B=>omega
         case c5B=>simp;omega
         intro v' w1 U V _;have ag:Below (w.heap.size+1) (w.alloc cut0) w1:=(hb.alloc (by omega) _).grown V (by simp;omega) (fun q e=>(x.lt q e).1);have ah:(acc++[s[k+1]]).length=acc.length+1:=by simp
         have ai:w1.ownsRow (w.heap.size+1) 5 1 v' (acc++[s[k+1]]).length (Lib.byteCells (acc++[s[k+1]])):=by rw[zc0,ah];exact U
         clear V U;go_wp2;go_roundw
         case rel=>exact⟨k+1+1,acc++[s[k+1]],by omega,by omega,by go_num,by omega,HT,ai,ag⟩
         case measure=>simp[intOf];omega
        ·skip
         go_wp2_with (first|(go_at_call 173;refine(zd4 _ _).mono ?_;rintro e w' ⟨rfl,rfl⟩;rw[ac])|(at_builtin;refine wpList_append_own _ rfl _ _ 120 rfl (w.heap.size+1) 5 i0 (.int .u8 0) 1 1 Tryz.underlying120 Y Z aa ab rfl (by decide) _ acc.length (Lib.byteCells acc) rfl ?ownC ⟨_,0,none⟩ 1 1 [.int .u8 (s[k+1].toNat:Int)] rfl rfl ?newsC ?oneC ?c3C ?c4C ?c5C ?_))
         case ownC=>exact x.alloc _
         case newsC=>
          intro j u r
          match j,r with
          | 0,r=>simp at r;subst r;simp[Addr.add]
          | j+1,r=>simp at r
         case oneC=>intro u hu;simp at hu;subst hu;rfl
         case c3C=>unfold maxLen;omega
         case c4C=>omega
         case c5C=>simp;omega
         intro v' w1 U V _;have ag:Below (w.heap.size+1) (w.alloc cut0) w1:=(hb.alloc (by omega) _).grown V (by simp;omega) (fun q e=>(x.lt q e).1);have ah:(acc++[s[k+1]]).length=acc.length+1:=by simp
         have ai:w1.ownsRow (w.heap.size+1) 5 1 v' (acc++[s[k+1]]).length (Lib.byteCells (acc++[s[k+1]])):=by rw[zc0,ah];exact U
         clear V U;go_wp2;go_roundw
         case rel=>exact⟨k+1+1,acc++[s[k+1]],by omega,by omega,by go_num,by omega,HT,ai,ag⟩
         case measure=>simp[intOf];omega
      ·have I:zfm (s[k+1].toNat:Int)=false:=(Yb _).mp I;have HW:ZH (zba 12 ((k:Int)+1)=R):=by
        have e:=J0 t;rw[hd,af,ar]at e;have:=rcut_no (a:=a) (l:=s.data.toList.drop a) (by rw[tail_drop];exact e.trans (zlj _ _ _ _ I));show _=_;rw[<-J0 G,this]
        congr 1
        omega
       have aH:((s[k+1].toNat:Int)==110)=false/\((s[k+1].toNat:Int)==34)=false/\((s[k+1].toNat:Int)==92)=false:=by
        simp only[zfm,Bool.or_eq_false_iff]at I;exact⟨I.1.1,I.1.2,I.2⟩
       obtain⟨q1,q2,q3⟩:=aH;clear J M hd ar af ae t G I x Y Z aa ab;go_wp2_with (first|(go_at_call 173;refine(zd4 _ _).mono ?_;rintro e w' ⟨rfl,rfl⟩;rw[ac])|(go_at_call 165;refine(zay _ _ _).mono ?_;rintro e w1 ⟨rfl,c⟩;have d0:=(c.cell (p:=⟨w.heap.size,0,none⟩) g).trans aj;have d1:=(c.cell (p:=⟨w.heap.size,1,none⟩) g).trans ak;have d2:=(c.cell (p:=⟨w.heap.size,2,none⟩) g).trans al;have d3:=(c.cell (p:=⟨w.heap.size,3,none⟩) g).trans am;have d4:=(c.cell (p:=⟨w.heap.size,4,none⟩) g).trans an;have d5:=(c.cell (p:=⟨w.heap.size,5,none⟩) g).trans ao;have d6:=(c.cell (p:=⟨w.heap.size,6,none⟩) g).trans ap;have df:∀o,w1.frozen? ⟨w.heap.size,o,none⟩=false:=fun o=>(c.frozen (p:=⟨w.heap.size,o,none⟩) g).trans (hf o);dsimp only[zba]));exact Yi (v:=zba 12 ((k:Int)+1)) (by simp[results,Tryz.results164,go_sem,d0,d1,d2,d3,d4,d5,d6,zba]) rfl ⟨zam HW,zbg (aq.trans (c.mono (by omega))) (Y5 _) _ _ _ _ _ _ _⟩
     ·have aF:((k:Int)+1==(s.size:Int))=true:=by simp;omega
      have HW:ZH (zba 12 ((k:Int)+1)=R):=by
       have e:=J0 t;rw[hd,af,Yg (i:=k+1) (by simp;omega)]at e;have:=rcut_no (a:=a) (l:=s.data.toList.drop a) (by rw[tail_drop];exact e.trans (textF_end _ _));show _=_;rw[<-J0 G,this]
       congr 1
       omega
      clear J M hd af ae t G x Y Z aa ab;go_wp2_with (first|(go_at_call 173;refine(zd4 _ _).mono ?_;rintro e w' ⟨rfl,rfl⟩;rw[ac])|(go_at_call 165;refine(zay _ _ _).mono ?_;rintro e w1 ⟨rfl,c⟩;have d0:=(c.cell (p:=⟨w.heap.size,0,none⟩) g).trans aj;have d1:=(c.cell (p:=⟨w.heap.size,1,none⟩) g).trans ak;have d2:=(c.cell (p:=⟨w.heap.size,2,none⟩) g).trans al;have d3:=(c.cell (p:=⟨w.heap.size,3,none⟩) g).trans am;have d4:=(c.cell (p:=⟨w.heap.size,4,none⟩) g).trans an;have d5:=(c.cell (p:=⟨w.heap.size,5,none⟩) g).trans ao;have d6:=(c.cell (p:=⟨w.heap.size,6,none⟩) g).trans ap;have df:∀o,w1.frozen? ⟨w.heap.size,o,none⟩=false:=fun o=>(c.frozen (p:=⟨w.heap.size,o,none⟩) g).trans (hf o);dsimp only[zba]));exact Yi (v:=zba 12 ((k:Int)+1)) (by simp[results,Tryz.results164,go_sem,d0,d1,d2,d3,d4,d5,d6,zba]) rfl ⟨zam HW,zbg (aq.trans (c.mono (by omega))) (Y5 _) _ _ _ _ _ _ _⟩
    ·have L:((s[k].toNat:Int) != 92)=true:=by simpa using M
     have aw:s[k]≠92:=fun h=>M (by rw[h];rfl)
     by_cases hp:zbf (s[k].toNat:Int)=true
     ·have ac:zft (s[k].toNat:Int)=true:=by rw[zft,hp,hq,L];rfl
      have HT:ZH (textF (s.data.toList.drop (a+1)) 1 []=textF (s.data.toList.drop (k+1)) (k+1-a) (acc++[s[k]])):=by
       have e:=J0 t;rw[hd]at e;show _=_;rw[show k+1-a=k-a+1 from by omega];exact e.trans (zl7 _ _ _ _ ae aw hp)
      clear J M hd ae aw t G hp;go_wp2_with (first|(go_at_call 173;refine(zd4 _ _).mono ?_;rintro e w' ⟨rfl,rfl⟩;rw[ac])|(at_builtin;refine wpList_append_own _ rfl _ _ 120 rfl (w.heap.size+1) 5 i0 (.int .u8 0) 1 1 Tryz.underlying120 Y Z aa ab rfl (by decide) _ acc.length (Lib.byteCells acc) rfl ?ownD ⟨_,0,none⟩ 1 1 [.int .u8 (s[k].toNat:Int)] rfl rfl ?newsD ?oneD ?c3D ?c4D ?c5D ?_))
      case ownD=>exact x.alloc _
      case newsD=>
       intro j u r
       match j,r with
       | 0,r=>simp at r;subst r;simp[Addr.add]
       | j+1,r=>simp at r
      case oneD=>intro u hu;simp at hu;subst hu;rfl
      case c3D=>unfold maxLen;omega
      case c4D=>omega
      case c5D=>simp;omega
      intro v' w1 U V _;have ag:Below (w.heap.size+1) (w.alloc cut0) w1:=(hb.alloc (by omega) _).grown V (by simp;omega) (fun q e=>(x.lt q e).1);have ah:(acc++[s[k]]).length=acc.length+1:=by simp
      have ai:w1.ownsRow (w.heap.size+1) 5 1 v' (acc++[s[k]]).length (Lib.byteCells (acc++[s[k]])):=by rw[zc0,ah];exact U
      clear V U;go_wp2;go_roundw
      case rel=>exact⟨k+1,acc++[s[k]],by omega,by omega,by go_num,by omega,HT,ai,ag⟩
      case measure=>simp[intOf];omega
     ·have hp:zbf (s[k].toNat:Int)=false:=(Yb _).mp hp;have ac:zft (s[k].toNat:Int)=false:=by rw[zft,hp];rfl
      have HW:ZH (zba 12 (k:Int)=R):=by
       have e:=J0 t;rw[hd]at e;have:=rcut_no (a:=a) (l:=s.data.toList.drop a) (by rw[tail_drop];exact e.trans (zif _ _ _ _ ae aw hp));show _=_;rw[<-J0 G,this]
       congr 1
       omega
      clear J M hd ae aw t G hp x Y Z aa ab;go_wp2_with (first|(go_at_call 173;refine(zd4 _ _).mono ?_;rintro e w' ⟨rfl,rfl⟩;rw[ac])|(go_at_call 165;refine(zay _ _ _).mono ?_;rintro e w1 ⟨rfl,c⟩;have d0:=(c.cell (p:=⟨w.heap.size,0,none⟩) g).trans aj;have d1:=(c.cell (p:=⟨w.heap.size,1,none⟩) g).trans ak;have d2:=(c.cell (p:=⟨w.heap.size,2,none⟩) g).trans al;have d3:=(c.cell (p:=⟨w.heap.size,3,none⟩) g).trans am;have d4:=(c.cell (p:=⟨w.heap.size,4,none⟩) g).trans an;have d5:=(c.cell (p:=⟨w.heap.size,5,none⟩) g).trans ao;have d6:=(c.cell (p:=⟨w.heap.size,6,none⟩) g).trans ap;have df:∀o,w1.frozen? ⟨w.heap.size,o,none⟩=false:=fun o=>(c.frozen (p:=⟨w.heap.size,o,none⟩) g).trans (hf o);dsimp only[zba]));exact Yi (v:=zba 12 ((k:Int))) (by simp[results,Tryz.results164,go_sem,d0,d1,d2,d3,d4,d5,d6,zba]) rfl ⟨zam HW,zbg (aq.trans (c.mono (by omega))) (Y5 _) _ _ _ _ _ _ _⟩
  ·have HW:ZH (zba 12 (k:Int)=R):=by
    have e:=J0 t;rw[Yg (i:=k) (by simp;omega),textF_nil]at e;have:=rcut_no (a:=a) (l:=s.data.toList.drop a) (by rw[tail_drop];exact e);show _=_;rw[<-J0 G,this]
    congr 1
    omega
   have heq:((k:Int)==(s.size:Int))=true:=by simp;omega
   clear t G x Y Z aa ab;go_wp2_with (first|(go_at_call 165;refine(zay _ _ _).mono ?_;rintro e w1 ⟨rfl,c⟩;have d0:=(c.cell (p:=⟨w.heap.size,0,none⟩) g).trans aj;have d1:=(c.cell (p:=⟨w.heap.size,1,none⟩) g).trans ak;have d2:=(c.cell (p:=⟨w.heap.size,2,none⟩) g).trans al;have d3:=(c.cell (p:=⟨w.heap.size,3,none⟩) g).trans am;have d4:=(c.cell (p:=⟨w.heap.size,4,none⟩) g).trans an;have d5:=(c.cell (p:=⟨w.heap.size,5,none⟩) g).trans ao;have d6:=(c.cell (p:=⟨w.heap.size,6,none⟩) g).trans ap;have df:∀o,w1.frozen? ⟨w.heap.size,o,none⟩=false:=fun o=>(c.frozen (p:=⟨w.heap.size,o,none⟩) g).trans (hf o);dsimp only[zba]));exact Yi (v:=zba 12 ((k:Int))) (by simp[results,Tryz.results164,go_sem,d0,d1,d2,d3,d4,d5,d6,zba]) rfl ⟨zam HW,zbg (aq.trans (c.mono (by omega))) (Y5 _) _ _ _ _ _ _ _⟩
theorem next_name {l:Bs} (h:zdh (hd l)=true∨zbw (hd l)=true):next l 0=zau l:=by
 have c:zaa (hd l)=true:=by rcases h with h|h <;> simp[zaa,h]
 have r:65<=hd l/\hd l<=122/\¬(91<=hd l/\hd l<=96):=by
  rcases h with h|h
  ·simp[zdh]at h;omega
  ·simp[zbw]at h;omega
 have g:Jl (hd l)=false:=by simp[Jl];omega
 have j:zek (hd l)=false:=by
  simp only[zek,signs,List.contains_cons,List.contains_nil,Bool.or_eq_false_iff,Y3];refine⟨?_,?_,?_,?_,?_,?_,?_,?_,?_,?_,?_,?_,?_,trivial⟩ <;> omega
 rw[next,Y7 (by rw[c];decide),Y7 (by omega),cut,Y7 (by rw[g];decide),Y7 (by omega),Y7 (by rw[j];decide)]
theorem next_number {l:Bs} (h:Jl (hd l)=true):next l 0=Jz l:=by
 have c:zaa (hd l)=true:=by simp[zaa,h]
 rw[next,Y7 (by rw[c];decide),Y7 (by omega),cut,Ye h]
theorem next_text {l:Bs} (h:hd l=34):next l 0=JX l:=by
 have c:zaa (hd l)=true:=by simp[zaa,h]
 rw[next,Y7 (by rw[c];decide),Y7 (by omega),cut,Y7 (by rw[h];decide),Ye h]
theorem sign_two (l:Bs) (h:zek (hd l)=true) (s:l≠[]):signRows.find? (fun r=>r.isPrefixOf l)=some (if [61,61].isPrefixOf l=true then[61,61]else l.take 1):=by
 obtain⟨c,t,rfl⟩:=YX s;have g:∀n:Nat,n<256->(c.toNat:Int)=n->c=n.toUInt8:=fun n x h=>zbm x h
 have j:zek (c.toNat:Int)=true:=h;simp only[zek,signs,List.contains_cons,List.contains_nil,Bool.or_eq_true,Xn,Bool.false_eq_true,or_false]at j;rcases j with h|h|h|h|h|h|h|h|h|h|h|h|h
 ·obtain rfl:=g 40 (by decide) h;rfl
 ·obtain rfl:=g 41 (by decide) h;rfl
 ·obtain rfl:=g 123 (by decide) h;rfl
 ·obtain rfl:=g 125 (by decide) h;rfl
 ·obtain rfl:=g 59 (by decide) h;rfl
 ·obtain rfl:=g 58 (by decide) h;rfl
 ·obtain rfl:=g 44 (by decide) h;rfl
 ·obtain rfl:=g 46 (by decide) h;rfl
 ·obtain rfl:=g 61 (by decide) h
  cases t with
  | nil=>rfl
  | cons d u=>
   by_cases e:d=61
   ·subst e;simp[signRows,List.isPrefixOf]
   ·have G:((61:UInt8)==d)=false:=by simpa using fun h=>e h.symm
    simp[signRows,List.find?,List.isPrefixOf,G]
 ·obtain rfl:=g 60 (by decide) h;rfl
 ·obtain rfl:=g 43 (by decide) h;rfl
 ·obtain rfl:=g 45 (by decide) h;rfl
 ·obtain rfl:=g 42 (by decide) h;rfl
theorem sign_none (l:Bs) (h:zek (hd l)=false) (j:l≠[]):signRows.find? (fun r=>r.isPrefixOf l)=none:=by
 obtain⟨c,t,rfl⟩:=YX j;have s:∀r∈signRows,zek (hd r)=true/\r≠[]:=by decide
 rw[List.find?_eq_none];intro r x hp;obtain⟨g,G⟩:=s r x;obtain⟨d,u,rfl⟩:=YX G;simp[List.isPrefixOf]at hp;rw[hp.1]at g;exact absurd g (by rw[show hd (c::u)=hd (c::t)from rfl,h];decide)
theorem next_sign {l:Bs} (h:l≠[]) (G:zdh (hd l)=false) (I:zbw (hd l)=false) (j:Jl (hd l)=false) (s:hd l≠34) :
  next l 0=match signRows.find? (fun r=>r.isPrefixOf l)with
   | some r=>.inr (6,r,0,r.length)
   | none=>.inl (0,10):=by
 have q:(hd l==34)=false:=by simpa using s
 have x:zaa (hd l)=zek (hd l):=by rw[zaa,G,I,j,q];simp
 by_cases g:zek (hd l)=true
 ·rw[sign_two l g h,next,Y7 (by rw[x,g];decide),Y7 (by omega),cut,Y7 (by rw[j];decide),Y7 s,Ye g,zaw];obtain⟨c,t,rfl⟩:=YX h;by_cases hp:[61,61].isPrefixOf (c::t)=true
  ·rw[Ye hp];simp only[hp,if_true]
   cases t with
   | nil=>simp[List.isPrefixOf]at hp
   | cons d u=>
    simp[List.isPrefixOf]at hp;obtain⟨rfl,rfl⟩:=hp
    rfl
  ·rw[Y7 hp];simp only[hp]
   rfl
 ·have g:=(Yb _).mp g;rw[sign_none l g h,next,Ye (by rw[x,g])]
theorem prefix_extract (s:Zy) (a z:Nat) (F:Zy) (r:Bs) (c:(⟨r.toArray⟩:Zy)=F) (hz:z=a+F.size):((s.extract a z).toList==F.toList)=r.isPrefixOf (s.data.toList.drop a):=by
 have g:F.size=r.length:=by rw[<-c];show r.toArray.size=_;simp
 rw[hz,g,zbe,toList_data,toList_data,<-c];simp only;rw[Bool.eq_iff_iff,Xn,List.isPrefixOf_iff_prefix,List.prefix_iff_eq_take];exact⟨fun h=>h.symm,fun h=>h.symm⟩
theorem prefix_le (s:Zy) (a:Nat) (r:Bs) (c:a<=s.size) (h:r.isPrefixOf (s.data.toList.drop a)=true):a+r.length<=s.size:=by
 have:=(List.isPrefixOf_iff_prefix.1 h).length_le;rw[List.length_drop,zb2]at this;omega
theorem rcut_any (s:Zy) (a:Nat) (w:Zw) (h0:a<s.size) (hs:s.size<=140737488355328) (R:Value) (G:RCut a (next (s.data.toList.drop a) 0)=R) :
  ZC 141 #[.string s,Zi a] w R:=by
 have J:Lx.hd (s.data.toList.drop a)=(s[a].toNat:Int):=by rw[drop_cons s a h0];rfl
 have ac:s.data.toList.drop a≠[]:=by rw[drop_cons s a h0];simp
 have aw:(a:Int)<(s.size:Int):=by omega
 by_cases hn:zdh (s[a].toNat:Int)=true∨zbw (s[a].toNat:Int)=true
 ·have ai:JG (s[a].toNat:Int)=true:=by rcases hn with h|h <;> simp[JG,h]
  rw[next_name (by rw[J];exact hn)]at G;have NM:=J3 (fun W=>rname_any s a W h0 hs ai R G);have ap:zdh (s[a].toNat:Int)=true∨(zdh (s[a].toNat:Int)=false/\zbw (s[a].toNat:Int)=true):=by
   by_cases h:zdh (s[a].toNat:Int)=true
   ·exact .inl h
   ·exact .inr ⟨(Yb _).mp h,hn.resolve_left h⟩
  obtain⟨o,y,L⟩|⟨k,t,v,n,L⟩:(∃o y,RCut a (zau (s.data.toList.drop a))=zba y o)∨(∃k t v n,RCut a (zau (s.data.toList.drop a))=zdi a k t v n):=by
   cases zau (s.data.toList.drop a)with
   | inl x=>exact .inl ⟨_,_,rfl⟩
   | inr x=>exact .inr ⟨_,_,_,_,rfl⟩
  all_goals
   rw[L]at G;subst G;clear L ai hn J ac;rcases ap with g1|⟨g1,g2⟩
   all_goals
    go_enter Tryz.func141,Tryz.ntmps141;go_wp2_with (first|(go_at_call 159;refine(zag _ _).mono ?_;rintro e w' ⟨rfl,rfl⟩;rw[g1])|(go_at_call 160;refine(JR _ _).mono ?_;rintro e w' ⟨rfl,rfl⟩;rw[g2])|(go_at_call 162;refine(NM _).mono ?_;rintro e w1 ⟨rfl,c⟩;obtain⟨U,hf⟩:=zbz c;dsimp only[zba,zdi]))
    first
    | exact Yi (v:=zba y o) (by simp[results,Tryz.results141,go_sem,U,zba]) rfl ⟨rfl,zbg (Za _ _ |>.trans (c.mono (by simp))) (Y5 _) _ _ _ _ _ _ _⟩
    | exact Yi (v:=zdi a k t v n) (by simp[results,Tryz.results141,go_sem,U,zdi]) rfl ⟨rfl,zbg (Za _ _ |>.trans (c.mono (by simp))) (Y5 _) _ _ _ _ _ _ _⟩
 ·have g1:zdh (s[a].toNat:Int)=false:=(Yb _).mp fun h=>hn (.inl h)
  have g2:zbw (s[a].toNat:Int)=false:=(Yb _).mp fun h=>hn (.inr h)
  clear hn;by_cases g3:Jl (s[a].toNat:Int)=true
  ·rw[next_number (by rw[J];exact g3)]at G;have NM:=J3 (fun W=>rnumber_any s a W h0 hs g3 R G);obtain⟨o,y,L⟩|⟨k,t,v,n,L⟩:(∃o y,RCut a (Jz (s.data.toList.drop a))=zba y o)∨(∃k t v n,RCut a (Jz (s.data.toList.drop a))=zdi a k t v n):=by
    cases Jz (s.data.toList.drop a)with
    | inl x=>exact .inl ⟨_,_,rfl⟩
    | inr x=>exact .inr ⟨_,_,_,_,rfl⟩
   all_goals
    rw[L]at G;subst G;clear L J ac;go_enter Tryz.func141,Tryz.ntmps141;go_wp2_with (first|(go_at_call 159;refine(zag _ _).mono ?_;rintro e w' ⟨rfl,rfl⟩;rw[g1])|(go_at_call 160;refine(JR _ _).mono ?_;rintro e w' ⟨rfl,rfl⟩;rw[g2])|(go_at_call 161;refine(za7 _ _).mono ?_;rintro e w' ⟨rfl,rfl⟩;rw[g3])|(go_at_call 163;refine(NM _).mono ?_;rintro e w1 ⟨rfl,c⟩;obtain⟨U,hf⟩:=zbz c;dsimp only[zba,zdi]))
    first
    | exact Yi (v:=zba y o) (by simp[results,Tryz.results141,go_sem,U,zba]) rfl ⟨rfl,zbg (Za _ _ |>.trans (c.mono (by simp))) (Y5 _) _ _ _ _ _ _ _⟩
    | exact Yi (v:=zdi a k t v n) (by simp[results,Tryz.results141,go_sem,U,zdi]) rfl ⟨rfl,zbg (Za _ _ |>.trans (c.mono (by simp))) (Y5 _) _ _ _ _ _ _ _⟩
  ·have g3:=(Yb _).mp g3;by_cases g4:(s[a].toNat:Int)=34
   ·rw[next_text (by rw[J];exact g4)]at G;have NM:=J3 (fun W=>rquoted_any s a W h0 hs R G);have q4:((s[a].toNat:Int)==34)=true:=by simp[g4]
    clear g4;obtain⟨o,y,L⟩|⟨k,t,v,n,L⟩:(∃o y,RCut a (JX (s.data.toList.drop a))=zba y o)∨(∃k t v n,RCut a (JX (s.data.toList.drop a))=zdi a k t v n):=by
     cases JX (s.data.toList.drop a)with
     | inl x=>exact .inl ⟨_,_,rfl⟩
     | inr x=>exact .inr ⟨_,_,_,_,rfl⟩
    all_goals
     rw[L]at G;subst G;clear L J ac;go_enter Tryz.func141,Tryz.ntmps141;go_wp2_with (first|(go_at_call 159;refine(zag _ _).mono ?_;rintro e w' ⟨rfl,rfl⟩;rw[g1])|(go_at_call 160;refine(JR _ _).mono ?_;rintro e w' ⟨rfl,rfl⟩;rw[g2])|(go_at_call 161;refine(za7 _ _).mono ?_;rintro e w' ⟨rfl,rfl⟩;rw[g3])|(go_at_call 164;refine(NM _).mono ?_;rintro e w1 ⟨rfl,c⟩;obtain⟨U,hf⟩:=zbz c;dsimp only[zba,zdi]))
     first
     | exact Yi (v:=zba y o) (by simp[results,Tryz.results141,go_sem,U,zba]) rfl ⟨rfl,zbg (Za _ _ |>.trans (c.mono (by simp))) (Y5 _) _ _ _ _ _ _ _⟩
     | exact Yi (v:=zdi a k t v n) (by simp[results,Tryz.results141,go_sem,U,zdi]) rfl ⟨rfl,zbg (Za _ _ |>.trans (c.mono (by simp))) (Y5 _) _ _ _ _ _ _ _⟩
   ·have q4:((s[a].toNat:Int)==34)=false:=by simpa using g4
    rw[next_sign ac (by rw[J];exact g1) (by rw[J];exact g2) (by rw[J];exact g3) (by rw[J];exact g4)]at G;have HR:=J3 G;clear G J ac g4;go_enter Tryz.func141,Tryz.ntmps141;go_wp2_with (first|(go_at_call 159;refine(zag _ _).mono ?_;rintro e w' ⟨rfl,rfl⟩;rw[g1])|(go_at_call 160;refine(JR _ _).mono ?_;rintro e w' ⟨rfl,rfl⟩;rw[g2])|(go_at_call 161;refine(za7 _ _).mono ?_;rintro e w' ⟨rfl,rfl⟩;rw[g3])|(go_at_call 102;refine(zje _).mono ?_;rintro e wv ⟨rfl,rfl⟩));have V:=J3 (zm9 (w.alloc cut0));simp only[World.size_alloc]at V;have g:ZH (∀j,j<7->((w.alloc cut0).alloc (.cells zat 9)).cell? ⟨w.heap.size,j,none⟩=some (#[Zi 0,Zi 0,.string ⟨#[]⟩,Zi 0,Zi 0,Zi 0,Zi 0].getD j (Zi 0))):=fun j hj=>by
     rw[Yl _ _ _ (by simp),Ya _ _ _ _ (by rfl)];rcases j with _|_|_|_|_|_|_|j
     all_goals first|rfl|omega
    have Y:ZH (∀o,((w.alloc cut0).alloc (.cells zat 9)).frozen? ⟨w.heap.size,o,none⟩=false):=fun o=>by simp
    have ab:ZB w ((w.alloc cut0).alloc (.cells zat 9)):=zfx _ _ _;have af:((w.alloc cut0).alloc (.cells zat 9)).heap.size=w.heap.size+2:=by simp
    revert V ab g Y af
    generalize (w.alloc cut0).alloc (.cells zat 9)=W1;intro V g Y ab af
    go_loopw [7] (fun i wr=>∃k:Nat,k<=14/\i=Zi k/\ZB W1 wr/\ZH (signRows.find? (fun r=>r.isPrefixOf (s.data.toList.drop a))=(signRows.drop k).find? (fun r=>r.isPrefixOf (s.data.toList.drop a)))) (fun i _=>14-(intOf i).toNat)
    case atStart=>exact⟨0,by omega,rfl,Zr,rfl⟩
    case round=>
     obtain⟨k,hk,rfl,M,HK⟩:=hrel;have aq:=M.size;by_cases ag:k<14
     ·have Z:=(M.cell (p:=⟨w.heap.size+1,k,none⟩) (by show w.heap.size+1<W1.heap.size;omega)).trans (V k ag);have ax:(k:Int)<14:=by omega
      obtain⟨_,ad⟩:=sign_row k ag;have aj:signRows.drop k=signRows.getD k []::signRows.drop (k+1):=by
       have ak:k<signRows.length:=ag;rw[Yt ak,Yo,Y6 ak];rfl
      have e:=J0 HK;rw[aj,List.find?_cons]at e;clear aj HK
      revert Z e ad
      generalize signRows.getD k []=row;intro Z ad e;obtain⟨F,hF⟩:∃F:Zy,(⟨row.toArray⟩:Zy)=F:=⟨_,rfl⟩
      have ae:F.size=row.length:=by rw[<-hF];show row.toArray.size=_;simp
      rw[hF]at Z;obtain⟨z,hz⟩:=Ze (a+F.size)
      have al:=prefix_extract s a z F row hF hz;have ay:(a:Int)+(F.size:Int)=(z:Int):=by omega
      have az:F.size<=2:=by omega
      have aA:a<=z:=by omega
      by_cases hp:row.isPrefixOf (s.data.toList.drop a)=true
      ·have am:z<=s.size:=by have:=prefix_le s a row (by omega) hp;omega
       have HV:ZH (zdi (a:Int) 6 F 0 (z:Int)=R):=by
        rw[hp]at e;show _=_;rw[<-J0 HR,e,<-hF];show _=zdi (a:Int) 6 ⟨row.toArray⟩ 0 ((a+row.length:Nat):Int);rw[hz,ae]
       rw[hp]at al;have an:(z:Int)<=(s.size:Int):=by omega
       clear hp e HR hF ae hz ad;go_wp2;go_quiet (fail);have aa:ZB W1 (wr.drewN nq):=Yw M nq;have ar:(wr.drewN nq).cell? ⟨w.heap.size+1,k,none⟩=some (.string F):=Z;clear M Z aq
       revert aa ar
       generalize wr.drewN nq=wd;intro aa Z;have au:=aa.size;have ao:w.heap.size+1<wd.heap.size:=by omega
       have I:w.heap.size<wd.heap.size:=by omega
       go_upto_region 15 with fail
       have u:∀o,(wd.alloc (.cells #[Zi a,Zi 6,.string F,Zi 0] 112)).cell? ⟨w.heap.size,o,none⟩=W1.cell? ⟨w.heap.size,o,none⟩:=fun o=>(Yl _ _ _ I).trans (aa.cell (p:=⟨w.heap.size,o,none⟩) (by show w.heap.size<W1.heap.size;omega))
       have x0:=(u 0).trans (g 0 (by omega));have x1:=(u 1).trans (g 1 (by omega));have x2:=(u 2).trans (g 2 (by omega));have x3:=(u 3).trans (g 3 (by omega));have x4:=(u 4).trans (g 4 (by omega));have x5:=(u 5).trans (g 5 (by omega));have x6:=(u 6).trans (g 6 (by omega));have xf:∀o,(wd.alloc (.cells #[Zi a,Zi 6,.string F,Zi 0] 112)).frozen? ⟨w.heap.size,o,none⟩=false:=fun o=>(((Yu wd.heap.size wd).alloc (Y5 _) _).frozen (p:=⟨w.heap.size,o,none⟩) I).trans ((aa.frozen (p:=⟨w.heap.size,o,none⟩) (by show w.heap.size<W1.heap.size;omega)).trans (Y o))
       have hy:∀o,(wd.alloc (.cells #[Zi a,Zi 6,.string F,Zi 0] 112)).cell? ⟨wd.heap.size,o,none⟩=#[Zi a,Zi 6,.string F,Zi 0][o]?:=fun o=>by rw[Ya _ _ _ _ (by rfl)]
       have y0:=hy 0;have y1:=hy 1;have y2:=hy 2;have y3:=hy 3;have c1:(wd.alloc (.cells #[Zi a,Zi 6,.string F,Zi 0] 112)).cell? ⟨w.heap.size+1,k,none⟩=some (.string F):=(Yl _ _ _ ao).trans Z;have ah:ZB w (wd.alloc (.cells #[Zi a,Zi 6,.string F,Zi 0] 112)):=(ab.trans (aa.mono (by omega))).alloc (by omega) _;clear u hy Z aa ab V g Y
       revert x0 x1 x2 x3 x4 x5 x6 xf y0 y1 y2 y3 c1 ah
       generalize wd.alloc (.cells #[Zi a,Zi 6,.string F,Zi 0] 112)=W2;clear af au ao I;generalize wd.heap.size=B;intro x0 x1 x2 x3 x4 x5 x6 xf y0 y1 y2 y3 c1 ah;simp at y0 y1 y2 y3 x0 x1 x2 x3 x4 x5 x6;go_wp2
       go_region
       go_wp2;exact Yi (v:=zdi (a:Int) 6 F 0 (z:Int)) (by simp[results,Tryz.results141,go_sem,x0,x1,x2,x3,x4,x5,x6,zdi]) rfl ⟨zam HV,(zbg ah (Y5 _) _ _ _ _ _ _ _).drew⟩
      ·have hp:=(Yb _).mp hp;rw[hp]at al e;have HN:=J3 e;by_cases am:z<=s.size
       ·have an:(z:Int)<=(s.size:Int):=by omega
        clear hp e HR hF ae hz ad V g Y;go_wp2;go_quiet (fail);go_wp2;go_roundw
        case rel=>exact⟨k+1,by omega,by go_num,Yw M _,HN⟩
        case measure=>simp[intOf];omega
       ·have an:decide (z<=s.size)=false:=by simp;omega
        have aB:IntKind.i64.wrap (z:Int)=(z:Int):=by rw[YJ];omega
        clear hp e HR hF ae hz ad am V g Y;go_wp2;go_quiet (fail);go_wp2;go_roundw
        case rel=>exact⟨k+1,by omega,by go_num,Yw M _,HN⟩
        case measure=>simp[intOf];omega
     ·have HV:ZH (zba 10 (a:Int)=R):=by
       have e:=J0 HK;rw[show signRows.drop k=[]from Yg (by simp[signRows];omega)]at e;show _=_;rw[<-J0 HR,e]
       rfl
      have I:w.heap.size<wr.heap.size:=by omega
      have u:∀o,wr.cell? ⟨w.heap.size,o,none⟩=W1.cell? ⟨w.heap.size,o,none⟩:=fun o=>M.cell (p:=⟨w.heap.size,o,none⟩) (by show w.heap.size<W1.heap.size;omega)
      have x0:=(u 0).trans (g 0 (by omega));have x1:=(u 1).trans (g 1 (by omega));have x2:=(u 2).trans (g 2 (by omega));have x3:=(u 3).trans (g 3 (by omega));have x4:=(u 4).trans (g 4 (by omega));have x5:=(u 5).trans (g 5 (by omega));have x6:=(u 6).trans (g 6 (by omega));have xf:∀o,wr.frozen? ⟨w.heap.size,o,none⟩=false:=fun o=>(M.frozen (p:=⟨w.heap.size,o,none⟩) (by show w.heap.size<W1.heap.size;omega)).trans (Y o)
      simp at x0 x1 x2 x3 x4 x5 x6;have av:ZB w wr:=ab.trans (M.mono (by omega));clear u V g Y HK HR M ab;go_wp2_with (go_at_call 165;refine(zay _ _ _).mono ?_;rintro e w1 ⟨rfl,c⟩;have d0:=(c.cell (p:=⟨w.heap.size,0,none⟩) I).trans x0;have d1:=(c.cell (p:=⟨w.heap.size,1,none⟩) I).trans x1;have d2:=(c.cell (p:=⟨w.heap.size,2,none⟩) I).trans x2;have d3:=(c.cell (p:=⟨w.heap.size,3,none⟩) I).trans x3;have d4:=(c.cell (p:=⟨w.heap.size,4,none⟩) I).trans x4;have d5:=(c.cell (p:=⟨w.heap.size,5,none⟩) I).trans x5;have d6:=(c.cell (p:=⟨w.heap.size,6,none⟩) I).trans x6;have df:∀o,w1.frozen? ⟨w.heap.size,o,none⟩=false:=fun o=>(c.frozen (p:=⟨w.heap.size,o,none⟩) I).trans (xf o);dsimp only[zba]);exact Yi (v:=zba 10 (a:Int)) (by simp[results,Tryz.results141,go_sem,d0,d1,d2,d3,d4,d5,d6,zba]) rfl ⟨zam HV,zbg (av.trans (c.mono (by omega))) (Y5 _) _ _ _ _ _ _ _⟩
theorem zbq {W W':Zw} {B e size n:Nat} {v:Value} {xs:List Value} (h:W.ownsRow B e size v n xs) (c:ZB W W'):W'.ownsRow B e size v n xs:=h.kept (Je c) (by cases v.ownBlock <;> simp)
theorem next_at {l:Bs} {n:Nat} (h:n<4096):next l n=next l 0:=by
 rw[next,next]
 split
 ·rfl
 ·rw[Y7 (by omega),Y7 (by omega)]
theorem next_full {l:Bs} (h:zaa (hd l)=true):next l 4096=.inl (0,3):=by rw[next,Y7 (by rw[h];decide),Ye (by omega)]
theorem next_byte {l:Bs} {n:Nat} (h:zaa (hd l)=false):next l n=.inl (0,10):=by rw[next,Ye h]
theorem next_why {l:Bs} {n o y:Nat} (h:next l n=.inl (o,y)):2<=y/\y<=12:=by
 unfold next at h
 split at h
 ·cases h;omega
 ·split at h
  ·cases h;omega
  ·unfold cut at h
   split at h
   ·unfold Jz at h
    split at h
    ·cases h;omega
    ·split at h
     ·cases h;omega
     ·cases h
   ·split at h
    ·unfold JX at h
     split at h
     ·cases h;omega
     ·cases h
    ·split at h
     ·unfold zaw at h
      split at h <;> cases h
     ·unfold zau at h
      split at h
      ·cases h;omega
      ·cases h
def rplace:Option (Nat×Nat)->Nat
 | none=>0
 | some (p,_)=>p
def rwhy:Option (Nat×Nat)->Nat
 | none=>0
 | some (_,y)=>y
def RTokens (w:Zw) (s:Zy) (e:Ending) (W':Zw):Prop:=
 ZB w W'/\∃v,e=.returned (.tuple #[v,Zi (rplace (lex s.data.toList).2:Int),Zi (rwhy (lex s.data.toList).2:Int)])/\W'.ownsRow w.heap.size 112 4 v (lex s.data.toList).1.length (zbt (lex s.data.toList).1)
theorem RTokens.mk {w W':Zw} {s:Zy} {c:List Tok} {r:Option (Nat×Nat)} {v:Value} {p y:Int} (h:lex s.data.toList=(c,r)) (hp:p=(rplace r:Int)) (g:y=(rwhy r:Int)) (j:ZB w W') (t:W'.ownsRow w.heap.size 112 4 v c.length (zbt c)) :
  RTokens w s (.returned (.tuple #[v,Zi p,Zi y])) W':=by
 subst hp;subst g;refine⟨j,v,?_,?_⟩
 ·rw[h]
 ·rw[h];exact t
theorem rTokens_any (s:Zy) (hs:s.size<=140737488355328) (w:Zw):Zg 98 #[.string s] w fun e W'=>RTokens w s e W':=by
 have ab:s.data.toList.length=s.size:=by simp
 by_cases aj:65536<s.size
 ·have ak:65536<(s.size:Int):=by omega
  have r:ZH (lex s.data.toList=([],some (0,2))):=by show _=_;rw[lex,ab,Ye aj]
  clear ab;go_enter Tryz.func98,Tryz.ntmps98;go_wp2;exact Yi (v:=.tuple #[Zz,Zi 0,Zi 2]) (by simp[results,Tryz.results98,go_sem]) rfl (RTokens.mk r rfl rfl Zr (YU _ _ _ _))
 ·have ak:(s.size:Int)<=65536:=by omega
  have al:=skip_le s.data.toList;obtain⟨i0,hi,am,an,ao⟩:=Xx info_tok;have M:=J3 (fun k (hk:k<=s.size) W=>rskip_any s k (k+skip (s.data.toList.drop k)) W hk hs rfl);have HS:=J3 ab;rw[ab]at al;clear ab;go_enter Tryz.func98,Tryz.ntmps98;go_wp2_with (go_at_call 139;refine(M 0 (by omega) _).mono ?_;rintro e w' ⟨rfl,rfl⟩)
  go_loopw [5,6] (fun v i wr=>∃(k f:Nat) (pre:List Tok),i=Zi k/\k<=s.size/\pre.length<=4096/\s.size-k<f/\wr.ownsRow w.heap.size 112 4 v pre.length (zbt pre)/\ZB w wr /\
    ZH (lex s.data.toList=(pre++(zh4 f (s.data.toList.drop k) k pre.length).1,(zh4 f (s.data.toList.drop k) k pre.length).2))) (fun _ i _=>s.size-(intOf i).toNat)
  case atStart=>
   refine⟨skip s.data.toList,s.size+1,[],by simp,by omega,by simp,by omega,YU _ _ _ _,Zr,?_⟩;show _=_;rw[lex,Y7 (by rw[J0 HS];omega),lexF_at,J0 HS];simp
  case round=>
   obtain⟨k,f,pre,rfl,hk,aw,hf,I,Z,J⟩:=hrel;have ad:=Z.size;have hv:∃p c,u5=.slice p pre.length c:=by
    rcases I.2 with⟨rfl,h0⟩|⟨g,cap,cur,rfl,_⟩
    ·exact⟨none,0,by rw[h0]⟩
    ·exact⟨_,_,rfl⟩
   obtain⟨p,c,rfl⟩:=hv;by_cases ac:k<s.size
   ·have U:s.data.toList.drop k≠[]:=by rw[drop_cons s k ac];simp
    have aa:Lx.hd (s.data.toList.drop k)=(s[k].toNat:Int):=by rw[drop_cons s k ac];rfl
    obtain⟨f',rfl⟩:∃f',f=f'+1:=⟨f-1,by omega⟩
    have ax:(k:Int)<(s.size:Int):=by omega
    rcases hnx:next (s.data.toList.drop k) pre.length with⟨o,y⟩|⟨V,S,v,m⟩
    ·have r:ZH (lex s.data.toList=(pre,some (k+o,y))):=by
      have e:=J0 J;rw[lexAt_no U hnx]at e;show _=_;simpa using e
     have ay:=next_why hnx;have az:((y:Int) != 0)=true:=by simp;omega
     by_cases h4:pre.length=4096
     ·have q4:((pre.length:Int)==4096)=true:=by simp[h4]
      by_cases L:zaa (s[k].toNat:Int)=true
      ·have h3:next (s.data.toList.drop k) pre.length=.inl (0,3):=by rw[h4];exact next_full (by rw[aa];exact L)
       rw[h3]at hnx
       cases hnx
       have BG:=J3 (fun W=>zln s[k] true L W);clear J U M aa h3 h4 L;go_wp2_with (go_at_call 140;refine(BG _).mono ?_;clear BG;rintro e w1 ⟨rfl,t⟩);exact Yi (v:=.tuple #[.slice p pre.length c,Zi k,Zi 3]) (by simp[results,Tryz.results98,go_sem]) rfl (RTokens.mk r rfl rfl (Z.trans (t.mono ad)) (zbq I t))
      ·have L:=(Yb _).mp L;have h3:∀n,next (s.data.toList.drop k) n=.inl (0,10):=fun n=>next_byte (by rw[aa];exact L)
       rw[h3]at hnx
       cases hnx
       have BG:=J3 (fun W=>zln s[k] false L W);have G:=J3 (fun W=>rcut_any s k W ac hs (zba 10 (k:Int)) (by rw[h3];rfl));clear J U M aa h3 h4 L;go_wp2_with (first|(go_at_call 140;refine(BG _).mono ?_;clear BG;rintro e w1 ⟨rfl,t⟩;have ap:=t.size)|(go_at_call 141;refine(G _).mono ?_;clear G;rintro e w2 ⟨rfl,Y⟩;have aq:=Y.size;dsimp only[zba]));go_quiet (fail);go_wp2;exact Yi (v:=.tuple #[.slice p pre.length c,Zi k,Zi 10]) (by simp[results,Tryz.results98,go_sem]) rfl (RTokens.mk r rfl rfl (Yw (((Z.trans (t.mono ad)).trans (Y.mono (by omega))).alloc (by omega) _) _) (zbq (zbq (zbq I t) Y) (Yw (Za _ _) _)))
     ·have q4:((pre.length:Int)==4096)=false:=by simp;omega
      have G:=J3 (fun W=>rcut_any s k W ac hs (zba (y:Int) ((k+o:Nat):Int)) (by rw[<-next_at (n:=pre.length) (by omega),hnx];rfl));obtain⟨z,hz⟩:=Ze (k+o)
      rw[<-hz]at G r;clear J U M aa hnx hz h4;go_wp2_with (go_at_call 141;refine(G _).mono ?_;clear G;rintro e w2 ⟨rfl,Y⟩;have aq:=Y.size;dsimp only[zba]);go_quiet (fail);go_wp2;exact Yi (v:=.tuple #[.slice p pre.length c,Zi z,Zi y]) (by simp[results,Tryz.results98,go_sem]) rfl (RTokens.mk r rfl rfl (Yw ((Z.trans (Y.mono ad)).alloc (by omega) _) _) (zbq (zbq I Y) (Yw (Za _ _) _)))
    ·have hm:=next_len U hnx;have ar:=next_few hnx;have ah:(s.data.toList.drop k).length=s.size-k:=by simp
     rw[ah]at hm;have af:=skip_le (s.data.toList.drop (k+m));rw[show(s.data.toList.drop (k+m)).length=s.size-(k+m)from by simp]at af;have r:ZH (lex s.data.toList=((pre++[(k,V,S,v)])++(zh4 f' (s.data.toList.drop (k+m+skip (s.data.toList.drop (k+m)))) (k+m+skip (s.data.toList.drop (k+m))) (pre++[(k,V,S,v)]).length).1,(zh4 f' (s.data.toList.drop (k+m+skip (s.data.toList.drop (k+m)))) (k+m+skip (s.data.toList.drop (k+m))) (pre++[(k,V,S,v)]).length).2)):=by
      have e:=J0 J;rw[lexAt_yes U hnx]at e;simp only[List.drop_drop]at e;show _=_;rw[e];simp
     have G:=J3 (fun W=>rcut_any s k W ac hs (zdi (k:Int) V ⟨S.toArray⟩ v ((k+m:Nat):Int)) (by rw[<-next_at ar,hnx];rfl));have ae:=J3 (fun W=>J0 M (k+m) (by omega) W);obtain⟨z,hz⟩:=Ze (k+m)
     obtain⟨x,hx⟩:=Ze (z+skip (s.data.toList.drop z))
     rw[<-hz]at G ae r af;rw[<-hx]at ae r;have q4:((pre.length:Int)==4096)=false:=by simp;omega
     have aA:k+1<=z/\z<=s.size:=by omega
     have aB:z<=x/\x<=s.size:=by omega
     clear J hnx U ah M aa hz hx af hm;go_wp2_with (first|(go_at_call 141;refine(G _).mono ?_;clear G;rintro e w1 ⟨rfl,t⟩;have ap:=t.size;dsimp only[zdi])|(at_builtin;refine wpList_append_own _ rfl _ _ 74 rfl w.heap.size 112 i0 (.agg #[Zi 0,Zi 0,.string ⟨#[]⟩,Zi 0]) 4 40 Tryz.underlying74 hi am an ao rfl (by decide) _ pre.length (zbt pre) rfl ?own ⟨_,0,none⟩ 1 1 (za0 (k,V,S,v)) rfl rfl ?news ?one ?c3 ?c4 ?c5 ?_))
     case own=>exact((zbq I t).alloc _).alloc _
     case news=>
      intro j u h
      match j,h with
      | 0,h=>simp[za0]at h;subst h;simp[Addr.add]
      | 1,h=>simp[za0]at h;subst h;simp[Addr.add]
      | 2,h=>simp[za0]at h;subst h;simp[Addr.add]
      | 3,h=>simp[za0]at h;subst h;simp[Addr.add]
      | j+4,h=>simp[za0]at h
     case one=>intro u hu;simp[za0]at hu;rcases hu with rfl|rfl|rfl|rfl <;> rfl
     case c3=>unfold maxLen;omega
     case c4=>omega
     case c5=>simp;omega
     intro v' w2 ai ag _;have c4:w2.cell? ⟨w1.heap.size,4,none⟩=some (Zi (z:Int)):=by
      refine(World.cell?_of_block (a:=⟨w1.heap.size,4,none⟩) (ag.block w1.heap.size (by simp;omega) (fun e=>?_))).trans (by simp);have:=(I.lt _ e.symm).2;omega
     have au:ZB w w2:=(((Z.trans (t.mono ad)).alloc (by omega) _).alloc (by simp;omega) _).grown ag (by simp;omega) (fun q e=>(I.lt q e).1);have av:(pre++[(k,V,S,v)]).length=pre.length+1:=by simp
     rw[<-zie,<-av]at ai;clear ag;go_wp2_with (go_at_call 139;refine(ae _).mono ?_;clear ae;rintro e w' ⟨rfl,rfl⟩);go_roundw
     case rel=>exact⟨x,f',pre++[(k,V,S,v)],rfl,by omega,by omega,by omega,ai,au,r⟩
     case measure=>simp[intOf];omega
   ·have r:ZH (lex s.data.toList=(pre,none)):=by
     have e:=J0 J;rw[Yg (by simp;omega),lexAt_nil]at e;show _=_;simpa using e
    clear J M;go_wp2;exact Yi (v:=.tuple #[.slice p pre.length c,Zi 0,Zi 0]) (by simp[results,Tryz.results98,go_sem]) rfl (RTokens.mk r rfl rfl Z I)
end Go.Proofs.YtdcbglnhhbmpgaaGreatDoor
