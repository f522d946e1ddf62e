import Derived.Test.YtdamlfkieecnjaaGreatDoorQSynD
import Derived.OwnWalk
import Derived.Laws.IdiomStrings
import Derived.Laws.OwnMore
import Derived.Lib.BufferRead
import Derived.Deep.Cut
import Derived.BigRegion
set_option maxHeartbeats 4000000
set_option maxRecDepth 100000
namespace Go.Proofs.YtdamlfkieecnjaaGreatDoor
open Go Go.RowKit Lx
theorem rinfo_u8:(Tryz.prog.info? 5).map (fun i=>(i.zero,i.size,i.bytes))=some (some (.int .u8 0),1,1):=by kernel_rfl
theorem zel {W:World} {B:Nat} {v:Value} {n:Nat} {l:Bs} (h:W.ownsRow B 5 1 v n (Lib.byteCells l)) :
  (convert 245 9 v).run Tryz.prog W=.ok (.string ⟨l.toArray⟩) W:=by
 have hn:l.length=n:=by have:=h.1;rw[Lib.byteCells_length]at this;omega
 rcases h.2 with⟨rfl,h0⟩|⟨g,cap,cur,rfl,_⟩
 ·have:l=[]:=List.eq_nil_of_length_eq_zero (by omega);subst this;exact Lib.run_convert_nil_bytes (P:=Tryz.prog) W 245 9 5 0 Tryz.underlying245 Tryz.underlying5 Tryz.underlying9
 ·have:=run_convert_bytes_back (P:=Tryz.prog) W 245 9 5 ⟨g,0,none⟩ cap l Tryz.underlying245 Tryz.underlying5 Tryz.underlying9 (fun j hj=>by
   rw[addr_add,h.cellAt j (by omega)];simp[Lib.byteCells,hj])
  rw[hn]at this;exact this
abbrev cut0:Obj:=.cells #[.int .i64 0,.int .i64 0,.string ⟨#[]⟩,.int .i64 0,.int .i64 0,.int .i64 0,.int .i64 0] 230
theorem rcut_no {a o:Nat} {l:Bs} (h:textF l.tail 1 []=.inl o):RCut a (Jn l)=JM 12 ((a+o:Nat):Int):=by rw[Jn,h];rfl
theorem rcut_yes {a n:Nat} {t l:Bs} (h:textF l.tail 1 []=.inr (t,n)):RCut a (Jn l)=zao (a:Int) 5 ⟨t.toArray⟩ 0 ((a+n:Nat):Int):=by rw[Jn,h];rfl
theorem rquoted_any (s:ByteArray) (a:Nat) (w:World) (h0:a<s.size) (hs:s.size<=140737488355328) (R:Value) (hR:RCut a (Jn (s.data.toList.drop a))=R) :
  Calls Tryz.prog 216 #[.string s,.int .i64 a] w fun e w'=>e=.returned R/\Below w.heap.size w w':=by
 have HR:=J4 hR;clear hR;obtain⟨i0,hi,hz0,hz1,hz2⟩:=info_parts rinfo_u8;go_enter Tryz.func216,Tryz.ntmps216;go_wp2_with (at_make;refine wpList_make_own _ rfl _ _ 245 rfl (w.heap.size+1) 5 i0 (.int .u8 0) 1 Tryz.underlying245 hi hz0 hz1 .i64 .i64 _ 0 rfl rfl rfl (by rw[hz2];omega) (by unfold maxLen;omega) (by simp) ?_;intro w0 hown0 hgrow0);have hb0:Below (w.heap.size+1) (w.alloc cut0) w0:=(Below.refl _ _).grown hgrow0 (by simp) (by simp);clear hgrow0
 go_loopw [5,6] (fun v i wr=>∃(k:Nat) (acc:Bs),a+1<=k/\k<=s.size/\i=.int .i64 k/\acc.length<=k/\Hid (textF (s.data.toList.drop (a+1)) 1 []=textF (s.data.toList.drop k) (k-a) acc) /\
   wr.ownsRow (w.heap.size+1) 5 1 v acc.length (Lib.byteCells acc)/\Below (w.heap.size+1) (w.alloc cut0) wr) (fun _ i _=>s.size-(intOf i).toNat)
 case atStart=>
  exact⟨a+1,[],by omega,by omega,by go_num,by simp,by show _=_;congr 1;omega,by simpa[Lib.byteCells]using hown0,hb0⟩
 case round=>
  clear hown0 hb0;obtain⟨k,acc,hk1,hk2,rfl,hal,HK,hown,hb⟩:=hrel;have hsz:=hb.size;simp only[World.size_alloc]at hsz;have hlt2:w.heap.size<wr.heap.size:=by omega
  have hcx:∀o,wr.cell? ⟨w.heap.size,o,none⟩=(w.alloc cut0).cell? ⟨w.heap.size,o,none⟩:=fun o=>
   hb.cell (p:=⟨w.heap.size,o,none⟩) (Nat.lt_succ_self _)
  have hc0:wr.cell? ⟨w.heap.size,0,none⟩=some (.int .i64 0):=(hcx 0).trans (by simp);have hc1:wr.cell? ⟨w.heap.size,1,none⟩=some (.int .i64 0):=(hcx 1).trans (by simp);have hc2:wr.cell? ⟨w.heap.size,2,none⟩=some (.string ⟨#[]⟩):=(hcx 2).trans (by simp);have hc3:wr.cell? ⟨w.heap.size,3,none⟩=some (.int .i64 0):=(hcx 3).trans (by simp);have hc4:wr.cell? ⟨w.heap.size,4,none⟩=some (.int .i64 0):=(hcx 4).trans (by simp);have hc5:wr.cell? ⟨w.heap.size,5,none⟩=some (.int .i64 0):=(hcx 5).trans (by simp);have hc6:wr.cell? ⟨w.heap.size,6,none⟩=some (.int .i64 0):=(hcx 6).trans (by simp);have hf:∀o,wr.frozen? ⟨w.heap.size,o,none⟩=false:=fun o=>
   (hb.frozen (p:=⟨w.heap.size,o,none⟩) (Nat.lt_succ_self _)).trans (by simp)
  clear hcx;have hbw:Below w.heap.size w wr:=((Below.refl _ _).alloc (Nat.le_refl _) _).trans (hb.mono (by omega));by_cases hlt:k<s.size
  ·have hd:=drop_cons s k hlt;by_cases h34:(s[k].toNat:Int)=34
   ·have HC:Hid (zao (a:Int) 5 ⟨acc.toArray⟩ 0 ((k:Int)+1)=R):=by
     have e:=J0 HK;rw[hd,zb6 (by decide) h34]at e;have:=rcut_yes (a:=a) (l:=s.data.toList.drop a) (by rw[tail_drop];exact e.trans (zcq _ _ _));show _=_;rw[<-J0 HR,this]
     congr 1
     omega
    have hq:((s[k].toNat:Int) != 34)=false:=by simp[h34]
    have heq:((k:Int)==(s.size:Int))=false:=by simp;omega
    have kc:=zel hown;clear h34 hd HK HR hown hi hz0 hz1 hz2;go_upto_region 24 with fail
    have hx:∀o,(wr.alloc (.cells #[.int .i64 a,.int .i64 5,.string ⟨acc.toArray⟩,.int .i64 0] 174)).cell? ⟨w.heap.size,o,none⟩=wr.cell? ⟨w.heap.size,o,none⟩:=fun o=>World.cell?_alloc_lt _ _ _ hlt2
    have hy:∀o,(wr.alloc (.cells #[.int .i64 a,.int .i64 5,.string ⟨acc.toArray⟩,.int .i64 0] 174)).cell? ⟨wr.heap.size,o,none⟩=#[Value.int .i64 a,.int .i64 5,.string ⟨acc.toArray⟩,.int .i64 0][o]?:=fun o=>by rw[World.cell?_alloc_at _ _ _ _ (by rfl)]
    have g0:=(hx 0).trans hc0;have g1:=(hx 1).trans hc1;have g2:=(hx 2).trans hc2;have g3:=(hx 3).trans hc3;have g4:=(hx 4).trans hc4;have g5:=(hx 5).trans hc5;have g6:=(hx 6).trans hc6;have y0:=hy 0;have y1:=hy 1;have y2:=hy 2;have y3:=hy 3;have gf:∀o,(wr.alloc (.cells #[.int .i64 a,.int .i64 5,.string ⟨acc.toArray⟩,.int .i64 0] 174)).frozen? ⟨w.heap.size,o,none⟩=false:=fun o=>(((Below.refl wr.heap.size wr).alloc (Nat.le_refl _) _).frozen (p:=⟨w.heap.size,o,none⟩) hlt2).trans (hf o)
    have hB2:Below w.heap.size w (wr.alloc (.cells #[.int .i64 a,.int .i64 5,.string ⟨acc.toArray⟩,.int .i64 0] 174)):=hbw.alloc (by omega) _;clear hx hy hc0 hc1 hc2 hc3 hc4 hc5 hc6 hf hbw hb kc
    revert g0 g1 g2 g3 g4 g5 g6 y0 y1 y2 y3 gf hB2
    generalize wr.alloc (.cells #[.int .i64 a,.int .i64 5,.string ⟨acc.toArray⟩,.int .i64 0] 174)=W2;clear hsz hlt2;generalize wr.heap.size=B;generalize hA:(⟨acc.toArray⟩:ByteArray)=A;intro g0 g1 g2 g3 g4 g5 g6 y0 y1 y2 y3 gf hB2;simp at y0 y1 y2 y3;go_wp2;exact bodyPost_ret (v:=zao (a:Int) 5 A 0 ((k:Int)+1)) (by simp[results,Tryz.results216,go_sem,g0,g1,g2,g3,g4,g5,g6,zao]) rfl ⟨Jx (by rw[<-hA];exact J0 HC),JN hB2 (Nat.le_refl _) _ _ _ _ _ _ _⟩
   ·have hq:((s[k].toNat:Int) != 34)=true:=by simpa using h34
    have hn34:s[k]≠34:=fun h=>h34 (by rw[h];rfl)
    have hlt':(k:Int)<(s.size:Int):=by omega
    by_cases h92:(s[k].toNat:Int)=92
    ·have hx:((s[k].toNat:Int) != 92)=false:=by simp[h92]
     have hpl:zbw (s[k].toNat:Int)=false:=by simp[zbw,h92]
     have hs92:s[k]=92:=zb6 (n:=92) (by decide) h92;by_cases hlt1:k+1<s.size
     ·have hne:((k:Int)+1==(s.size:Int))=false:=by simp;omega
      have hd1:=drop_cons s (k+1) hlt1;have hkk:(k:Int)+1<(s.size:Int):=by omega
      by_cases hes:zbu (s[k+1].toNat:Int)=true
      ·have HT0:textF (s.data.toList.drop (a+1)) 1 []=textF (s.data.toList.drop (k+1+1)) (k+1+1-a) (acc++[(escB (s[k+1].toNat:Int)).toNat.toUInt8]):=by
        have e:=J0 HK;rw[hd,hs92,hd1]at e;rw[show k+1+1-a=k-a+2 from by omega];exact e.trans (ze7 _ _ _ _ hes)
       by_cases e110:(s[k+1].toNat:Int)=110
       ·have q1:((s[k+1].toNat:Int)==110)=true:=by simp[e110]
        have HT:Hid (textF (s.data.toList.drop (a+1)) 1 []=textF (s.data.toList.drop (k+1+1)) (k+1+1-a) (acc++[10])):=by
         show _=_;rw[HT0,e110];rfl
        clear h34 h92 hd hd1 hs92 hn34 HK HR HT0 e110 hes;go_wp2_with (first|(go_at_call 246;refine(zag _ _).mono ?_;rintro e w' ⟨rfl,rfl⟩;rw[hpl])|(at_builtin;refine wpList_append_own _ rfl _ _ 245 rfl (w.heap.size+1) 5 i0 (.int .u8 0) 1 1 Tryz.underlying245 hi hz0 hz1 hz2 rfl (by decide) _ acc.length (Lib.byteCells acc) rfl ?ownA ⟨_,0,none⟩ 1 1 [.int .u8 10] rfl rfl ?newsA ?oneA ?c3A ?c4A ?c5A ?_))
        case ownA=>exact hown.alloc _
        case newsA=>
         intro j u hj
         match j,hj with
         | 0,hj=>simp at hj;subst hj;simp[Addr.add]
         | j+1,hj=>simp at hj
        case oneA=>intro u hu;simp at hu;subst hu;rfl
        case c3A=>unfold maxLen;omega
        case c4A=>omega
        case c5A=>simp;omega
        intro v' w1 hown' hgrow _;have hb':Below (w.heap.size+1) (w.alloc cut0) w1:=(hb.alloc (by omega) _).grown hgrow (by simp;omega) (fun q e=>(hown.lt q e).1);have hl':(acc++[(10:UInt8)]).length=acc.length+1:=by simp
        have hown2:w1.ownsRow (w.heap.size+1) 5 1 v' (acc++[(10:UInt8)]).length (Lib.byteCells (acc++[(10:UInt8)])):=by rw[zav,hl'];exact hown'
        clear hgrow hown';go_wp2;go_roundw
        case rel=>exact⟨k+1+1,acc++[(10:UInt8)],by omega,by omega,by go_num,by omega,HT,hown2,hb'⟩
        case measure=>simp[intOf];omega
       ·have q1:((s[k+1].toNat:Int)==110)=false:=by simpa using e110
        have hor:(s[k+1].toNat:Int)=34∨(s[k+1].toNat:Int)=92:=by
         simp only[zbu,Bool.or_eq_true,beq_iff_eq]at hes;omega
        have HT:Hid (textF (s.data.toList.drop (a+1)) 1 []=textF (s.data.toList.drop (k+1+1)) (k+1+1-a) (acc++[s[k+1]])):=by
         show _=_;rw[HT0];have:(escB (s[k+1].toNat:Int)).toNat.toUInt8=s[k+1]:=by
          rcases hor with h|h
          ·rw[h,zb6 (n:=34) (by decide) h];rfl
          ·rw[h,zb6 (n:=92) (by decide) h];rfl
         rw[this]
        have q23:((s[k+1].toNat:Int)==34)=true∨(((s[k+1].toNat:Int)==34)=false/\((s[k+1].toNat:Int)==92)=true):=by
         rcases hor with h|h
         ·left;simp[h]
         ·right;constructor <;> simp[h]
        clear h34 h92 hd hd1 hs92 hn34 HK HR HT0 e110 hes hor;rcases q23 with q2|⟨q2,q3⟩
        ·skip
         go_wp2_with (first|(go_at_call 246;refine(zag _ _).mono ?_;rintro e w' ⟨rfl,rfl⟩;rw[hpl])|(at_builtin;refine wpList_append_own _ rfl _ _ 245 rfl (w.heap.size+1) 5 i0 (.int .u8 0) 1 1 Tryz.underlying245 hi hz0 hz1 hz2 rfl (by decide) _ acc.length (Lib.byteCells acc) rfl ?ownB ⟨_,0,none⟩ 1 1 [.int .u8 (s[k+1].toNat:Int)] rfl rfl ?newsB ?oneB ?c3B ?c4B ?c5B ?_))
         case ownB=>exact hown.alloc _
         case newsB=>
          intro j u hj
          match j,hj with
          | 0,hj=>simp at hj;subst hj;simp[Addr.add]
          | j+1,hj=>simp at hj
         case oneB=>intro u hu;simp at hu;subst hu;rfl
         case c3B=>unfold maxLen;omega
         case c4B=>omega
         case c5B=>simp;omega
         intro v' w1 hown' hgrow _;have hb':Below (w.heap.size+1) (w.alloc cut0) w1:=(hb.alloc (by omega) _).grown hgrow (by simp;omega) (fun q e=>(hown.lt q e).1);have hl':(acc++[s[k+1]]).length=acc.length+1:=by simp
         have hown2:w1.ownsRow (w.heap.size+1) 5 1 v' (acc++[s[k+1]]).length (Lib.byteCells (acc++[s[k+1]])):=by rw[zav,hl'];exact hown'
         clear hgrow hown';go_wp2;go_roundw
         case rel=>exact⟨k+1+1,acc++[s[k+1]],by omega,by omega,by go_num,by omega,HT,hown2,hb'⟩
         case measure=>simp[intOf];omega
        ·skip
         go_wp2_with (first|(go_at_call 246;refine(zag _ _).mono ?_;rintro e w' ⟨rfl,rfl⟩;rw[hpl])|(at_builtin;refine wpList_append_own _ rfl _ _ 245 rfl (w.heap.size+1) 5 i0 (.int .u8 0) 1 1 Tryz.underlying245 hi hz0 hz1 hz2 rfl (by decide) _ acc.length (Lib.byteCells acc) rfl ?ownC ⟨_,0,none⟩ 1 1 [.int .u8 (s[k+1].toNat:Int)] rfl rfl ?newsC ?oneC ?c3C ?c4C ?c5C ?_))
         case ownC=>exact hown.alloc _
         case newsC=>
          intro j u hj
          match j,hj with
          | 0,hj=>simp at hj;subst hj;simp[Addr.add]
          | j+1,hj=>simp at hj
         case oneC=>intro u hu;simp at hu;subst hu;rfl
         case c3C=>unfold maxLen;omega
         case c4C=>omega
         case c5C=>simp;omega
         intro v' w1 hown' hgrow _;have hb':Below (w.heap.size+1) (w.alloc cut0) w1:=(hb.alloc (by omega) _).grown hgrow (by simp;omega) (fun q e=>(hown.lt q e).1);have hl':(acc++[s[k+1]]).length=acc.length+1:=by simp
         have hown2:w1.ownsRow (w.heap.size+1) 5 1 v' (acc++[s[k+1]]).length (Lib.byteCells (acc++[s[k+1]])):=by rw[zav,hl'];exact hown'
         clear hgrow hown';go_wp2;go_roundw
         case rel=>exact⟨k+1+1,acc++[s[k+1]],by omega,by omega,by go_num,by omega,HT,hown2,hb'⟩
         case measure=>simp[intOf];omega
      ·have hes:zbu (s[k+1].toNat:Int)=false:=(Bool.not_eq_true _).mp hes;have HW:Hid (JM 12 ((k:Int)+1)=R):=by
        have e:=J0 HK;rw[hd,hs92,hd1]at e;have:=rcut_no (a:=a) (l:=s.data.toList.drop a) (by rw[tail_drop];exact e.trans (zcw _ _ _ _ hes));show _=_;rw[<-J0 HR,this]
        congr 1
        omega
       have q123:((s[k+1].toNat:Int)==110)=false/\((s[k+1].toNat:Int)==34)=false/\((s[k+1].toNat:Int)==92)=false:=by
        simp only[zbu,Bool.or_eq_false_iff]at hes;exact⟨hes.1.1,hes.1.2,hes.2⟩
       obtain⟨q1,q2,q3⟩:=q123;clear h34 h92 hd hd1 hs92 hn34 HK HR hes hown hi hz0 hz1 hz2;go_wp2_with (first|(go_at_call 246;refine(zag _ _).mono ?_;rintro e w' ⟨rfl,rfl⟩;rw[hpl])|(go_at_call 217;refine(JG _ _ _).mono ?_;rintro e w1 ⟨rfl,hb1⟩;have d0:=(hb1.cell (p:=⟨w.heap.size,0,none⟩) hlt2).trans hc0;have d1:=(hb1.cell (p:=⟨w.heap.size,1,none⟩) hlt2).trans hc1;have d2:=(hb1.cell (p:=⟨w.heap.size,2,none⟩) hlt2).trans hc2;have d3:=(hb1.cell (p:=⟨w.heap.size,3,none⟩) hlt2).trans hc3;have d4:=(hb1.cell (p:=⟨w.heap.size,4,none⟩) hlt2).trans hc4;have d5:=(hb1.cell (p:=⟨w.heap.size,5,none⟩) hlt2).trans hc5;have d6:=(hb1.cell (p:=⟨w.heap.size,6,none⟩) hlt2).trans hc6;have df:∀o,w1.frozen? ⟨w.heap.size,o,none⟩=false:=fun o=>(hb1.frozen (p:=⟨w.heap.size,o,none⟩) hlt2).trans (hf o);dsimp only[JM]));exact bodyPost_ret (v:=JM 12 ((k:Int)+1)) (by simp[results,Tryz.results216,go_sem,d0,d1,d2,d3,d4,d5,d6,JM]) rfl ⟨Jx (J0 HW),JN (hbw.trans (hb1.mono (by omega))) (Nat.le_refl _) _ _ _ _ _ _ _⟩
     ·have hne:((k:Int)+1==(s.size:Int))=true:=by simp;omega
      have HW:Hid (JM 12 ((k:Int)+1)=R):=by
       have e:=J0 HK;rw[hd,hs92,List.drop_of_length_le (i:=k+1) (by simp;omega)]at e;have:=rcut_no (a:=a) (l:=s.data.toList.drop a) (by rw[tail_drop];exact e.trans (zef _ _));show _=_;rw[<-J0 HR,this]
       congr 1
       omega
      clear h34 h92 hd hs92 hn34 HK HR hown hi hz0 hz1 hz2;go_wp2_with (first|(go_at_call 246;refine(zag _ _).mono ?_;rintro e w' ⟨rfl,rfl⟩;rw[hpl])|(go_at_call 217;refine(JG _ _ _).mono ?_;rintro e w1 ⟨rfl,hb1⟩;have d0:=(hb1.cell (p:=⟨w.heap.size,0,none⟩) hlt2).trans hc0;have d1:=(hb1.cell (p:=⟨w.heap.size,1,none⟩) hlt2).trans hc1;have d2:=(hb1.cell (p:=⟨w.heap.size,2,none⟩) hlt2).trans hc2;have d3:=(hb1.cell (p:=⟨w.heap.size,3,none⟩) hlt2).trans hc3;have d4:=(hb1.cell (p:=⟨w.heap.size,4,none⟩) hlt2).trans hc4;have d5:=(hb1.cell (p:=⟨w.heap.size,5,none⟩) hlt2).trans hc5;have d6:=(hb1.cell (p:=⟨w.heap.size,6,none⟩) hlt2).trans hc6;have df:∀o,w1.frozen? ⟨w.heap.size,o,none⟩=false:=fun o=>(hb1.frozen (p:=⟨w.heap.size,o,none⟩) hlt2).trans (hf o);dsimp only[JM]));exact bodyPost_ret (v:=JM 12 ((k:Int)+1)) (by simp[results,Tryz.results216,go_sem,d0,d1,d2,d3,d4,d5,d6,JM]) rfl ⟨Jx (J0 HW),JN (hbw.trans (hb1.mono (by omega))) (Nat.le_refl _) _ _ _ _ _ _ _⟩
    ·have hx:((s[k].toNat:Int) != 92)=true:=by simpa using h92
     have hn92:s[k]≠92:=fun h=>h92 (by rw[h];rfl)
     by_cases hp:zae (s[k].toNat:Int)=true
     ·have hpl:zbw (s[k].toNat:Int)=true:=by rw[zbw,hp,hq,hx];rfl
      have HT:Hid (textF (s.data.toList.drop (a+1)) 1 []=textF (s.data.toList.drop (k+1)) (k+1-a) (acc++[s[k]])):=by
       have e:=J0 HK;rw[hd]at e;show _=_;rw[show k+1-a=k-a+1 from by omega];exact e.trans (zcm _ _ _ _ hn34 hn92 hp)
      clear h34 h92 hd hn34 hn92 HK HR hp;go_wp2_with (first|(go_at_call 246;refine(zag _ _).mono ?_;rintro e w' ⟨rfl,rfl⟩;rw[hpl])|(at_builtin;refine wpList_append_own _ rfl _ _ 245 rfl (w.heap.size+1) 5 i0 (.int .u8 0) 1 1 Tryz.underlying245 hi hz0 hz1 hz2 rfl (by decide) _ acc.length (Lib.byteCells acc) rfl ?ownD ⟨_,0,none⟩ 1 1 [.int .u8 (s[k].toNat:Int)] rfl rfl ?newsD ?oneD ?c3D ?c4D ?c5D ?_))
      case ownD=>exact hown.alloc _
      case newsD=>
       intro j u hj
       match j,hj with
       | 0,hj=>simp at hj;subst hj;simp[Addr.add]
       | j+1,hj=>simp at hj
      case oneD=>intro u hu;simp at hu;subst hu;rfl
      case c3D=>unfold maxLen;omega
      case c4D=>omega
      case c5D=>simp;omega
      intro v' w1 hown' hgrow _;have hb':Below (w.heap.size+1) (w.alloc cut0) w1:=(hb.alloc (by omega) _).grown hgrow (by simp;omega) (fun q e=>(hown.lt q e).1);have hl':(acc++[s[k]]).length=acc.length+1:=by simp
      have hown2:w1.ownsRow (w.heap.size+1) 5 1 v' (acc++[s[k]]).length (Lib.byteCells (acc++[s[k]])):=by rw[zav,hl'];exact hown'
      clear hgrow hown';go_wp2;go_roundw
      case rel=>exact⟨k+1,acc++[s[k]],by omega,by omega,by go_num,by omega,HT,hown2,hb'⟩
      case measure=>simp[intOf];omega
     ·have hp:zae (s[k].toNat:Int)=false:=(Bool.not_eq_true _).mp hp;have hpl:zbw (s[k].toNat:Int)=false:=by rw[zbw,hp];rfl
      have HW:Hid (JM 12 (k:Int)=R):=by
       have e:=J0 HK;rw[hd]at e;have:=rcut_no (a:=a) (l:=s.data.toList.drop a) (by rw[tail_drop];exact e.trans (zbn _ _ _ _ hn34 hn92 hp));show _=_;rw[<-J0 HR,this]
       congr 1
       omega
      clear h34 h92 hd hn34 hn92 HK HR hp hown hi hz0 hz1 hz2;go_wp2_with (first|(go_at_call 246;refine(zag _ _).mono ?_;rintro e w' ⟨rfl,rfl⟩;rw[hpl])|(go_at_call 217;refine(JG _ _ _).mono ?_;rintro e w1 ⟨rfl,hb1⟩;have d0:=(hb1.cell (p:=⟨w.heap.size,0,none⟩) hlt2).trans hc0;have d1:=(hb1.cell (p:=⟨w.heap.size,1,none⟩) hlt2).trans hc1;have d2:=(hb1.cell (p:=⟨w.heap.size,2,none⟩) hlt2).trans hc2;have d3:=(hb1.cell (p:=⟨w.heap.size,3,none⟩) hlt2).trans hc3;have d4:=(hb1.cell (p:=⟨w.heap.size,4,none⟩) hlt2).trans hc4;have d5:=(hb1.cell (p:=⟨w.heap.size,5,none⟩) hlt2).trans hc5;have d6:=(hb1.cell (p:=⟨w.heap.size,6,none⟩) hlt2).trans hc6;have df:∀o,w1.frozen? ⟨w.heap.size,o,none⟩=false:=fun o=>(hb1.frozen (p:=⟨w.heap.size,o,none⟩) hlt2).trans (hf o);dsimp only[JM]));exact bodyPost_ret (v:=JM 12 ((k:Int))) (by simp[results,Tryz.results216,go_sem,d0,d1,d2,d3,d4,d5,d6,JM]) rfl ⟨Jx (J0 HW),JN (hbw.trans (hb1.mono (by omega))) (Nat.le_refl _) _ _ _ _ _ _ _⟩
  ·have HW:Hid (JM 12 (k:Int)=R):=by
    have e:=J0 HK;rw[List.drop_of_length_le (i:=k) (by simp;omega),zey]at e;have:=rcut_no (a:=a) (l:=s.data.toList.drop a) (by rw[tail_drop];exact e);show _=_;rw[<-J0 HR,this]
    congr 1
    omega
   have heq:((k:Int)==(s.size:Int))=true:=by simp;omega
   clear HK HR hown hi hz0 hz1 hz2;go_wp2_with (first|(go_at_call 217;refine(JG _ _ _).mono ?_;rintro e w1 ⟨rfl,hb1⟩;have d0:=(hb1.cell (p:=⟨w.heap.size,0,none⟩) hlt2).trans hc0;have d1:=(hb1.cell (p:=⟨w.heap.size,1,none⟩) hlt2).trans hc1;have d2:=(hb1.cell (p:=⟨w.heap.size,2,none⟩) hlt2).trans hc2;have d3:=(hb1.cell (p:=⟨w.heap.size,3,none⟩) hlt2).trans hc3;have d4:=(hb1.cell (p:=⟨w.heap.size,4,none⟩) hlt2).trans hc4;have d5:=(hb1.cell (p:=⟨w.heap.size,5,none⟩) hlt2).trans hc5;have d6:=(hb1.cell (p:=⟨w.heap.size,6,none⟩) hlt2).trans hc6;have df:∀o,w1.frozen? ⟨w.heap.size,o,none⟩=false:=fun o=>(hb1.frozen (p:=⟨w.heap.size,o,none⟩) hlt2).trans (hf o);dsimp only[JM]));exact bodyPost_ret (v:=JM 12 ((k:Int))) (by simp[results,Tryz.results216,go_sem,d0,d1,d2,d3,d4,d5,d6,JM]) rfl ⟨Jx (J0 HW),JN (hbw.trans (hb1.mono (by omega))) (Nat.le_refl _) _ _ _ _ _ _ _⟩
theorem next_name {l:Bs} (h:zan (hd l)=true∨JQ (hd l)=true):next l 0=Jv l:=by
 have hb:Jq (hd l)=true:=by rcases h with h|h <;> simp[Jq,h]
 have hx:65<=hd l/\hd l<=122/\¬(91<=hd l/\hd l<=96):=by
  rcases h with h|h
  ·simp[zan]at h;omega
  ·simp[JQ]at h;omega
 have hdg:Jd (hd l)=false:=by simp[Jd];omega
 have hsg:zba (hd l)=false:=by
  simp only[zba,signs,List.contains_cons,List.contains_nil,Bool.or_eq_false_iff,beq_eq_false_iff_ne];refine⟨?_,?_,?_,?_,?_,?_,?_,?_,?_,?_,?_,?_,?_,trivial⟩ <;> omega
 rw[next,if_neg (by rw[hb];decide),if_neg (by omega),cut,if_neg (by rw[hdg];decide),if_neg (by omega),if_neg (by rw[hsg];decide)]
theorem next_number {l:Bs} (h:Jd (hd l)=true):next l 0=Jh l:=by
 have hb:Jq (hd l)=true:=by simp[Jq,h]
 rw[next,if_neg (by rw[hb];decide),if_neg (by omega),cut,if_pos h]
theorem next_text {l:Bs} (h:hd l=34):next l 0=Jn l:=by
 have hb:Jq (hd l)=true:=by simp[Jq,h]
 rw[next,if_neg (by rw[hb];decide),if_neg (by omega),cut,if_neg (by rw[h];decide),if_pos h]
theorem sign_two (l:Bs) (h:zba (hd l)=true) (hne:l≠[]):signRows.find? (fun r=>r.isPrefixOf l)=some (if [61,61].isPrefixOf l=true then[61,61]else l.take 1):=by
 obtain⟨c,t,rfl⟩:=List.exists_cons_of_ne_nil hne;have hc:∀n:Nat,n<256->(c.toNat:Int)=n->c=n.toUInt8:=fun n hn h=>zb6 hn h
 have h':zba (c.toNat:Int)=true:=h;simp only[zba,signs,List.contains_cons,List.contains_nil,Bool.or_eq_true,beq_iff_eq,Bool.false_eq_true,or_false]at h';rcases h' with h|h|h|h|h|h|h|h|h|h|h|h|h
 ·obtain rfl:=hc 40 (by decide) h;rfl
 ·obtain rfl:=hc 41 (by decide) h;rfl
 ·obtain rfl:=hc 123 (by decide) h;rfl
 ·obtain rfl:=hc 125 (by decide) h;rfl
 ·obtain rfl:=hc 59 (by decide) h;rfl
 ·obtain rfl:=hc 58 (by decide) h;rfl
 ·obtain rfl:=hc 44 (by decide) h;rfl
 ·obtain rfl:=hc 46 (by decide) h;rfl
 ·obtain rfl:=hc 61 (by decide) h
  cases t with
  | nil=>rfl
  | cons d u=>
   by_cases e:d=61
   ·subst e;simp[signRows,List.isPrefixOf]
   ·have e':((61:UInt8)==d)=false:=by simpa using fun h=>e h.symm
    simp[signRows,List.find?,List.isPrefixOf,e']
 ·obtain rfl:=hc 60 (by decide) h;rfl
 ·obtain rfl:=hc 43 (by decide) h;rfl
 ·obtain rfl:=hc 45 (by decide) h;rfl
 ·obtain rfl:=hc 42 (by decide) h;rfl
theorem sign_none (l:Bs) (h:zba (hd l)=false) (hne:l≠[]):signRows.find? (fun r=>r.isPrefixOf l)=none:=by
 obtain⟨c,t,rfl⟩:=List.exists_cons_of_ne_nil hne;have hh:∀r∈signRows,zba (hd r)=true/\r≠[]:=by decide
 rw[List.find?_eq_none];intro r hr hp;obtain⟨h1,h2⟩:=hh r hr;obtain⟨d,u,rfl⟩:=List.exists_cons_of_ne_nil h2;simp[List.isPrefixOf]at hp;rw[hp.1]at h1;exact absurd h1 (by rw[show hd (c::u)=hd (c::t)from rfl,h];decide)
theorem next_sign {l:Bs} (hne:l≠[]) (h1:zan (hd l)=false) (h2:JQ (hd l)=false) (h3:Jd (hd l)=false) (h4:hd l≠34) :
  next l 0=match signRows.find? (fun r=>r.isPrefixOf l)with
   | some r=>.inr (6,r,0,r.length)
   | none=>.inl (0,10):=by
 have q:(hd l==34)=false:=by simpa using h4
 have hb:Jq (hd l)=zba (hd l):=by rw[Jq,h1,h2,h3,q];simp
 by_cases hs:zba (hd l)=true
 ·rw[sign_two l hs hne,next,if_neg (by rw[hb,hs];decide),if_neg (by omega),cut,if_neg (by rw[h3];decide),if_neg h4,if_pos hs,JC];obtain⟨c,t,rfl⟩:=List.exists_cons_of_ne_nil hne;by_cases hp:[61,61].isPrefixOf (c::t)=true
  ·rw[if_pos hp];simp only[hp,if_true]
   cases t with
   | nil=>simp[List.isPrefixOf]at hp
   | cons d u=>
    simp[List.isPrefixOf]at hp;obtain⟨rfl,rfl⟩:=hp
    rfl
  ·rw[if_neg hp];simp only[hp]
   rfl
 ·have hs:=(Bool.not_eq_true _).mp hs;rw[sign_none l hs hne,next,if_pos (by rw[hb,hs])]
theorem prefix_extract (s:ByteArray) (a z:Nat) (F:ByteArray) (r:Bs) (hF:(⟨r.toArray⟩:ByteArray)=F) (hz:z=a+F.size):((s.extract a z).toList==F.toList)=r.isPrefixOf (s.data.toList.drop a):=by
 have hl:F.size=r.length:=by rw[<-hF];show r.toArray.size=_;simp
 rw[hz,hl,JR,toList_data,toList_data,<-hF];simp only;rw[Bool.eq_iff_iff,beq_iff_eq,List.isPrefixOf_iff_prefix,List.prefix_iff_eq_take];exact⟨fun h=>h.symm,fun h=>h.symm⟩
theorem prefix_le (s:ByteArray) (a:Nat) (r:Bs) (ha:a<=s.size) (h:r.isPrefixOf (s.data.toList.drop a)=true):a+r.length<=s.size:=by
 have:=(List.isPrefixOf_iff_prefix.1 h).length_le;rw[List.length_drop,zak]at this;omega
theorem rcut_any (s:ByteArray) (a:Nat) (w:World) (h0:a<s.size) (hs:s.size<=140737488355328) (R:Value) (hR:RCut a (next (s.data.toList.drop a) 0)=R) :
  Calls Tryz.prog 159 #[.string s,.int .i64 a] w fun e w'=>e=.returned R/\Below w.heap.size w w':=by
 have hd0:Lx.hd (s.data.toList.drop a)=(s[a].toNat:Int):=by rw[drop_cons s a h0];rfl
 have hne:s.data.toList.drop a≠[]:=by rw[drop_cons s a h0];simp
 have h0':(a:Int)<(s.size:Int):=by omega
 by_cases hn:zan (s[a].toNat:Int)=true∨JQ (s[a].toNat:Int)=true
 ·have hnb:Ji (s[a].toNat:Int)=true:=by rcases hn with h|h <;> simp[Ji,h]
  rw[next_name (by rw[hd0];exact hn)]at hR;have NM:=J4 (fun W=>rname_any s a W h0 hs hnb R hR);have hn':zan (s[a].toNat:Int)=true∨(zan (s[a].toNat:Int)=false/\JQ (s[a].toNat:Int)=true):=by
   by_cases h:zan (s[a].toNat:Int)=true
   ·exact .inl h
   ·exact .inr ⟨(Bool.not_eq_true _).mp h,hn.resolve_left h⟩
  obtain⟨o,y,hRR⟩|⟨k,t,v,n,hRR⟩:(∃o y,RCut a (Jv (s.data.toList.drop a))=JM y o)∨(∃k t v n,RCut a (Jv (s.data.toList.drop a))=zao a k t v n):=by
   cases Jv (s.data.toList.drop a)with
   | inl x=>exact .inl ⟨_,_,rfl⟩
   | inr x=>exact .inr ⟨_,_,_,_,rfl⟩
  all_goals
   rw[hRR]at hR;subst hR;clear hRR hnb hn hd0 hne;rcases hn' with g1|⟨g1,g2⟩
   all_goals
    go_enter Tryz.func159,Tryz.ntmps159;go_wp2_with (first|(go_at_call 210;refine(Jr _ _).mono ?_;rintro e w' ⟨rfl,rfl⟩;rw[g1])|(go_at_call 211;refine(Jk _ _).mono ?_;rintro e w' ⟨rfl,rfl⟩;rw[g2])|(go_at_call 214;refine(J0 NM _).mono ?_;rintro e w1 ⟨rfl,hb1⟩;obtain⟨hc,hf⟩:=JS hb1;dsimp only[JM,zao]))
    first
    | exact bodyPost_ret (v:=JM y o) (by simp[results,Tryz.results159,go_sem,hc,JM]) rfl ⟨rfl,JN ((Below.refl _ _).alloc (Nat.le_refl _) _ |>.trans (hb1.mono (by simp))) (Nat.le_refl _) _ _ _ _ _ _ _⟩
    | exact bodyPost_ret (v:=zao a k t v n) (by simp[results,Tryz.results159,go_sem,hc,zao]) rfl ⟨rfl,JN ((Below.refl _ _).alloc (Nat.le_refl _) _ |>.trans (hb1.mono (by simp))) (Nat.le_refl _) _ _ _ _ _ _ _⟩
 ·have g1:zan (s[a].toNat:Int)=false:=(Bool.not_eq_true _).mp fun h=>hn (.inl h)
  have g2:JQ (s[a].toNat:Int)=false:=(Bool.not_eq_true _).mp fun h=>hn (.inr h)
  clear hn;by_cases g3:Jd (s[a].toNat:Int)=true
  ·rw[next_number (by rw[hd0];exact g3)]at hR;have NM:=J4 (fun W=>rnumber_any s a W h0 hs g3 R hR);obtain⟨o,y,hRR⟩|⟨k,t,v,n,hRR⟩:(∃o y,RCut a (Jh (s.data.toList.drop a))=JM y o)∨(∃k t v n,RCut a (Jh (s.data.toList.drop a))=zao a k t v n):=by
    cases Jh (s.data.toList.drop a)with
    | inl x=>exact .inl ⟨_,_,rfl⟩
    | inr x=>exact .inr ⟨_,_,_,_,rfl⟩
   all_goals
    rw[hRR]at hR;subst hR;clear hRR hd0 hne;go_enter Tryz.func159,Tryz.ntmps159;go_wp2_with (first|(go_at_call 210;refine(Jr _ _).mono ?_;rintro e w' ⟨rfl,rfl⟩;rw[g1])|(go_at_call 211;refine(Jk _ _).mono ?_;rintro e w' ⟨rfl,rfl⟩;rw[g2])|(go_at_call 212;refine(Jp _ _).mono ?_;rintro e w' ⟨rfl,rfl⟩;rw[g3])|(go_at_call 215;refine(J0 NM _).mono ?_;rintro e w1 ⟨rfl,hb1⟩;obtain⟨hc,hf⟩:=JS hb1;dsimp only[JM,zao]))
    first
    | exact bodyPost_ret (v:=JM y o) (by simp[results,Tryz.results159,go_sem,hc,JM]) rfl ⟨rfl,JN ((Below.refl _ _).alloc (Nat.le_refl _) _ |>.trans (hb1.mono (by simp))) (Nat.le_refl _) _ _ _ _ _ _ _⟩
    | exact bodyPost_ret (v:=zao a k t v n) (by simp[results,Tryz.results159,go_sem,hc,zao]) rfl ⟨rfl,JN ((Below.refl _ _).alloc (Nat.le_refl _) _ |>.trans (hb1.mono (by simp))) (Nat.le_refl _) _ _ _ _ _ _ _⟩
  ·have g3:=(Bool.not_eq_true _).mp g3;by_cases g4:(s[a].toNat:Int)=34
   ·rw[next_text (by rw[hd0];exact g4)]at hR;have NM:=J4 (fun W=>rquoted_any s a W h0 hs R hR);have q4:((s[a].toNat:Int)==34)=true:=by simp[g4]
    clear g4;obtain⟨o,y,hRR⟩|⟨k,t,v,n,hRR⟩:(∃o y,RCut a (Jn (s.data.toList.drop a))=JM y o)∨(∃k t v n,RCut a (Jn (s.data.toList.drop a))=zao a k t v n):=by
     cases Jn (s.data.toList.drop a)with
     | inl x=>exact .inl ⟨_,_,rfl⟩
     | inr x=>exact .inr ⟨_,_,_,_,rfl⟩
    all_goals
     rw[hRR]at hR;subst hR;clear hRR hd0 hne;go_enter Tryz.func159,Tryz.ntmps159;go_wp2_with (first|(go_at_call 210;refine(Jr _ _).mono ?_;rintro e w' ⟨rfl,rfl⟩;rw[g1])|(go_at_call 211;refine(Jk _ _).mono ?_;rintro e w' ⟨rfl,rfl⟩;rw[g2])|(go_at_call 212;refine(Jp _ _).mono ?_;rintro e w' ⟨rfl,rfl⟩;rw[g3])|(go_at_call 216;refine(J0 NM _).mono ?_;rintro e w1 ⟨rfl,hb1⟩;obtain⟨hc,hf⟩:=JS hb1;dsimp only[JM,zao]))
     first
     | exact bodyPost_ret (v:=JM y o) (by simp[results,Tryz.results159,go_sem,hc,JM]) rfl ⟨rfl,JN ((Below.refl _ _).alloc (Nat.le_refl _) _ |>.trans (hb1.mono (by simp))) (Nat.le_refl _) _ _ _ _ _ _ _⟩
     | exact bodyPost_ret (v:=zao a k t v n) (by simp[results,Tryz.results159,go_sem,hc,zao]) rfl ⟨rfl,JN ((Below.refl _ _).alloc (Nat.le_refl _) _ |>.trans (hb1.mono (by simp))) (Nat.le_refl _) _ _ _ _ _ _ _⟩
   ·have q4:((s[a].toNat:Int)==34)=false:=by simpa using g4
    rw[next_sign hne (by rw[hd0];exact g1) (by rw[hd0];exact g2) (by rw[hd0];exact g3) (by rw[hd0];exact g4)]at hR;have HR:=J4 hR;clear hR hd0 hne g4;go_enter Tryz.func159,Tryz.ntmps159;go_wp2_with (first|(go_at_call 210;refine(Jr _ _).mono ?_;rintro e w' ⟨rfl,rfl⟩;rw[g1])|(go_at_call 211;refine(Jk _ _).mono ?_;rintro e w' ⟨rfl,rfl⟩;rw[g2])|(go_at_call 212;refine(Jp _ _).mono ?_;rintro e w' ⟨rfl,rfl⟩;rw[g3])|(go_at_call 213;refine(rsigns_any _).mono ?_;rintro e wv ⟨rfl,rfl⟩));have HW:=J4 (sign_cell (w.alloc cut0));simp only[World.size_alloc]at HW;have HC:Hid (∀j,j<7->((w.alloc cut0).alloc (.cells za0 9)).cell? ⟨w.heap.size,j,none⟩=some (#[Value.int .i64 0,.int .i64 0,.string ⟨#[]⟩,.int .i64 0,.int .i64 0,.int .i64 0,.int .i64 0].getD j (.int .i64 0))):=fun j hj=>by
     rw[World.cell?_alloc_lt _ _ _ (by simp),World.cell?_alloc_at _ _ _ _ (by rfl)];rcases j with _|_|_|_|_|_|_|j
     all_goals first|rfl|omega
    have HF:Hid (∀o,((w.alloc cut0).alloc (.cells za0 9)).frozen? ⟨w.heap.size,o,none⟩=false):=fun o=>by simp
    have HB1:Below w.heap.size w ((w.alloc cut0).alloc (.cells za0 9)):=za7 _ _ _;have HS1:((w.alloc cut0).alloc (.cells za0 9)).heap.size=w.heap.size+2:=by simp
    revert HW HB1 HC HF HS1
    generalize (w.alloc cut0).alloc (.cells za0 9)=W1;intro HW HC HF HB1 HS1
    go_loopw [7] (fun i wr=>∃k:Nat,k<=14/\i=.int .i64 k/\Below W1.heap.size W1 wr/\Hid (signRows.find? (fun r=>r.isPrefixOf (s.data.toList.drop a))=(signRows.drop k).find? (fun r=>r.isPrefixOf (s.data.toList.drop a)))) (fun i _=>14-(intOf i).toNat)
    case atStart=>exact⟨0,by omega,rfl,Below.refl _ _,rfl⟩
    case round=>
     obtain⟨k,hk,rfl,hb,HK⟩:=hrel;have hbs:=hb.size;by_cases hlt:k<14
     ·have c0:=(hb.cell (p:=⟨w.heap.size+1,k,none⟩) (by show w.heap.size+1<W1.heap.size;omega)).trans (J0 HW k hlt);have hlt':(k:Int)<14:=by omega
      obtain⟨_,hrl⟩:=sign_row k hlt;have hdr:signRows.drop k=signRows.getD k []::signRows.drop (k+1):=by
       have hwl:k<signRows.length:=hlt;rw[List.drop_eq_getElem_cons hwl,List.getD_eq_getElem?_getD,List.getElem?_eq_getElem hwl];rfl
      have e:=J0 HK;rw[hdr,List.find?_cons]at e;clear hdr HK
      revert c0 e hrl
      generalize signRows.getD k []=row;intro c0 hrl e;obtain⟨F,hF⟩:∃F:ByteArray,(⟨row.toArray⟩:ByteArray)=F:=⟨_,rfl⟩
      have hFl:F.size=row.length:=by rw[<-hF];show row.toArray.size=_;simp
      rw[hF]at c0;obtain⟨z,hz⟩:∃z,z=a+F.size:=⟨_,rfl⟩
      have hpx:=prefix_extract s a z F row hF hz;have hzi:(a:Int)+(F.size:Int)=(z:Int):=by omega
      have hF2:F.size<=2:=by omega
      have haz:a<=z:=by omega
      by_cases hp:row.isPrefixOf (s.data.toList.drop a)=true
      ·have hzs:z<=s.size:=by have:=prefix_le s a row (by omega) hp;omega
       have HV:Hid (zao (a:Int) 6 F 0 (z:Int)=R):=by
        rw[hp]at e;show _=_;rw[<-J0 HR,e,<-hF];show _=zao (a:Int) 6 ⟨row.toArray⟩ 0 ((a+row.length:Nat):Int);rw[hz,hFl]
       rw[hp]at hpx;have hzs':(z:Int)<=(s.size:Int):=by omega
       clear hp e HR hF hFl hz hrl;go_wp2;go_quiet (fail);have hb2:Below W1.heap.size W1 (wr.drewN nq):=below_drewN hb nq;have c0':(wr.drewN nq).cell? ⟨w.heap.size+1,k,none⟩=some (.string F):=c0;clear hb c0 hbs
       revert hb2 c0'
       generalize wr.drewN nq=wd;intro hb2 c0;have hsd:=hb2.size;have hq2:w.heap.size+1<wd.heap.size:=by omega
       have hq1:w.heap.size<wd.heap.size:=by omega
       go_upto_region 15 with fail
       have HX:∀o,(wd.alloc (.cells #[.int .i64 a,.int .i64 6,.string F,.int .i64 0] 174)).cell? ⟨w.heap.size,o,none⟩=W1.cell? ⟨w.heap.size,o,none⟩:=fun o=>(World.cell?_alloc_lt _ _ _ hq1).trans (hb2.cell (p:=⟨w.heap.size,o,none⟩) (by show w.heap.size<W1.heap.size;omega))
       have x0:=(HX 0).trans (J0 HC 0 (by omega));have x1:=(HX 1).trans (J0 HC 1 (by omega));have x2:=(HX 2).trans (J0 HC 2 (by omega));have x3:=(HX 3).trans (J0 HC 3 (by omega));have x4:=(HX 4).trans (J0 HC 4 (by omega));have x5:=(HX 5).trans (J0 HC 5 (by omega));have x6:=(HX 6).trans (J0 HC 6 (by omega));have xf:∀o,(wd.alloc (.cells #[.int .i64 a,.int .i64 6,.string F,.int .i64 0] 174)).frozen? ⟨w.heap.size,o,none⟩=false:=fun o=>(((Below.refl wd.heap.size wd).alloc (Nat.le_refl _) _).frozen (p:=⟨w.heap.size,o,none⟩) hq1).trans ((hb2.frozen (p:=⟨w.heap.size,o,none⟩) (by show w.heap.size<W1.heap.size;omega)).trans (J0 HF o))
       have hy:∀o,(wd.alloc (.cells #[.int .i64 a,.int .i64 6,.string F,.int .i64 0] 174)).cell? ⟨wd.heap.size,o,none⟩=#[Value.int .i64 a,.int .i64 6,.string F,.int .i64 0][o]?:=fun o=>by rw[World.cell?_alloc_at _ _ _ _ (by rfl)]
       have y0:=hy 0;have y1:=hy 1;have y2:=hy 2;have y3:=hy 3;have c1:(wd.alloc (.cells #[.int .i64 a,.int .i64 6,.string F,.int .i64 0] 174)).cell? ⟨w.heap.size+1,k,none⟩=some (.string F):=(World.cell?_alloc_lt _ _ _ hq2).trans c0;have hB2:Below w.heap.size w (wd.alloc (.cells #[.int .i64 a,.int .i64 6,.string F,.int .i64 0] 174)):=(HB1.trans (hb2.mono (by omega))).alloc (by omega) _;clear HX hy c0 hb2 HB1 HW HC HF
       revert x0 x1 x2 x3 x4 x5 x6 xf y0 y1 y2 y3 c1 hB2
       generalize wd.alloc (.cells #[.int .i64 a,.int .i64 6,.string F,.int .i64 0] 174)=W2;clear HS1 hsd hq2 hq1;generalize wd.heap.size=B;intro x0 x1 x2 x3 x4 x5 x6 xf y0 y1 y2 y3 c1 hB2;simp at y0 y1 y2 y3 x0 x1 x2 x3 x4 x5 x6;go_wp2
       go_region
       go_wp2;exact bodyPost_ret (v:=zao (a:Int) 6 F 0 (z:Int)) (by simp[results,Tryz.results159,go_sem,x0,x1,x2,x3,x4,x5,x6,zao]) rfl ⟨Jx (J0 HV),(JN hB2 (Nat.le_refl _) _ _ _ _ _ _ _).drew⟩
      ·have hp:=(Bool.not_eq_true _).mp hp;rw[hp]at hpx e;have HN:=J4 e;by_cases hzs:z<=s.size
       ·have hzs':(z:Int)<=(s.size:Int):=by omega
        clear hp e HR hF hFl hz hrl HW HC HF;go_wp2;go_quiet (fail);go_wp2;go_roundw
        case rel=>exact⟨k+1,by omega,by go_num,below_drewN hb _,HN⟩
        case measure=>simp[intOf];omega
       ·have hzs':decide (z<=s.size)=false:=by simp;omega
        have hzb:IntKind.i64.wrap (z:Int)=(z:Int):=by rw[IntKind.wrap_i64];omega
        clear hp e HR hF hFl hz hrl hzs HW HC HF;go_wp2;go_quiet (fail);go_wp2;go_roundw
        case rel=>exact⟨k+1,by omega,by go_num,below_drewN hb _,HN⟩
        case measure=>simp[intOf];omega
     ·have HV:Hid (JM 10 (a:Int)=R):=by
       have e:=J0 HK;rw[show signRows.drop k=[]from List.drop_of_length_le (by simp[signRows];omega)]at e;show _=_;rw[<-J0 HR,e]
       rfl
      have hq1:w.heap.size<wr.heap.size:=by omega
      have HX:∀o,wr.cell? ⟨w.heap.size,o,none⟩=W1.cell? ⟨w.heap.size,o,none⟩:=fun o=>hb.cell (p:=⟨w.heap.size,o,none⟩) (by show w.heap.size<W1.heap.size;omega)
      have x0:=(HX 0).trans (J0 HC 0 (by omega));have x1:=(HX 1).trans (J0 HC 1 (by omega));have x2:=(HX 2).trans (J0 HC 2 (by omega));have x3:=(HX 3).trans (J0 HC 3 (by omega));have x4:=(HX 4).trans (J0 HC 4 (by omega));have x5:=(HX 5).trans (J0 HC 5 (by omega));have x6:=(HX 6).trans (J0 HC 6 (by omega));have xf:∀o,wr.frozen? ⟨w.heap.size,o,none⟩=false:=fun o=>(hb.frozen (p:=⟨w.heap.size,o,none⟩) (by show w.heap.size<W1.heap.size;omega)).trans (J0 HF o)
      simp at x0 x1 x2 x3 x4 x5 x6;have hbw:Below w.heap.size w wr:=HB1.trans (hb.mono (by omega));clear HX HW HC HF HK HR hb HB1;go_wp2_with (go_at_call 217;refine(JG _ _ _).mono ?_;rintro e w1 ⟨rfl,hb1⟩;have d0:=(hb1.cell (p:=⟨w.heap.size,0,none⟩) hq1).trans x0;have d1:=(hb1.cell (p:=⟨w.heap.size,1,none⟩) hq1).trans x1;have d2:=(hb1.cell (p:=⟨w.heap.size,2,none⟩) hq1).trans x2;have d3:=(hb1.cell (p:=⟨w.heap.size,3,none⟩) hq1).trans x3;have d4:=(hb1.cell (p:=⟨w.heap.size,4,none⟩) hq1).trans x4;have d5:=(hb1.cell (p:=⟨w.heap.size,5,none⟩) hq1).trans x5;have d6:=(hb1.cell (p:=⟨w.heap.size,6,none⟩) hq1).trans x6;have df:∀o,w1.frozen? ⟨w.heap.size,o,none⟩=false:=fun o=>(hb1.frozen (p:=⟨w.heap.size,o,none⟩) hq1).trans (xf o);dsimp only[JM]);exact bodyPost_ret (v:=JM 10 (a:Int)) (by simp[results,Tryz.results159,go_sem,d0,d1,d2,d3,d4,d5,d6,JM]) rfl ⟨Jx (J0 HV),JN (hbw.trans (hb1.mono (by omega))) (Nat.le_refl _) _ _ _ _ _ _ _⟩
theorem zai {W W':World} {B e size n:Nat} {v:Value} {xs:List Value} (h:W.ownsRow B e size v n xs) (hb:Below W.heap.size W W'):W'.ownsRow B e size v n xs:=h.kept (zce hb) (by cases v.ownBlock <;> simp)
theorem next_at {l:Bs} {n:Nat} (h:n<4096):next l n=next l 0:=by
 rw[next,next]
 split
 ·rfl
 ·rw[if_neg (by omega),if_neg (by omega)]
theorem next_full {l:Bs} (h:Jq (hd l)=true):next l 4096=.inl (0,3):=by rw[next,if_neg (by rw[h];decide),if_pos (by omega)]
theorem next_byte {l:Bs} {n:Nat} (h:Jq (hd l)=false):next l n=.inl (0,10):=by rw[next,if_pos h]
theorem next_why {l:Bs} {n o y:Nat} (h:next l n=.inl (o,y)):2<=y/\y<=12:=by
 unfold next at h
 split at h
 ·cases h;omega
 ·split at h
  ·cases h;omega
  ·unfold cut at h
   split at h
   ·unfold Jh at h
    split at h
    ·cases h;omega
    ·split at h
     ·cases h;omega
     ·cases h
   ·split at h
    ·unfold Jn at h
     split at h
     ·cases h;omega
     ·cases h
    ·split at h
     ·unfold JC at h
      split at h <;> cases h
     ·unfold Jv at h
      split at h
      ·cases h;omega
      ·cases h
def rplace:Option (Nat×Nat)->Nat
 | none=>0
 | some (p,_)=>p
def rwhy:Option (Nat×Nat)->Nat
 | none=>0
 | some (_,y)=>y
def RTokens (w:World) (s:ByteArray) (e:Ending) (W':World):Prop:=
 Below w.heap.size w W'/\∃v,e=.returned (.tuple #[v,.int .i64 (rplace (lex s.data.toList).2:Int),.int .i64 (rwhy (lex s.data.toList).2:Int)])/\W'.ownsRow w.heap.size 174 4 v (lex s.data.toList).1.length (Jg (lex s.data.toList).1)
theorem RTokens.mk {w W':World} {s:ByteArray} {ts:List Tok} {r:Option (Nat×Nat)} {v:Value} {p y:Int} (h:lex s.data.toList=(ts,r)) (hp:p=(rplace r:Int)) (hy:y=(rwhy r:Int)) (hb:Below w.heap.size w W') (ho:W'.ownsRow w.heap.size 174 4 v ts.length (Jg ts)) :
  RTokens w s (.returned (.tuple #[v,.int .i64 p,.int .i64 y])) W':=by
 subst hp;subst hy;refine⟨hb,v,?_,?_⟩
 ·rw[h]
 ·rw[h];exact ho
theorem rTokens_any (s:ByteArray) (hs:s.size<=140737488355328) (w:World):Calls Tryz.prog 92 #[.string s] w fun e W'=>RTokens w s e W':=by
 have hsz:s.data.toList.length=s.size:=by simp
 by_cases hbig:65536<s.size
 ·have hbig':65536<(s.size:Int):=by omega
  have HE:Hid (lex s.data.toList=([],some (0,2))):=by show _=_;rw[lex,hsz,if_pos hbig]
  clear hsz;go_enter Tryz.func92,Tryz.ntmps92;go_wp2;exact bodyPost_ret (v:=.tuple #[.slice none 0 0,.int .i64 0,.int .i64 2]) (by simp[results,Tryz.results92,go_sem]) rfl (RTokens.mk (J0 HE) rfl rfl (Below.refl _ _) (World.ownsRow_nil _ _ _ _))
 ·have hbig':(s.size:Int)<=65536:=by omega
  have hk0:=zck s.data.toList;obtain⟨i0,hi,hz0,hz1,hz2⟩:=info_parts info_tok;have SK:=J4 (fun k (hk:k<=s.size) W=>rskip_any s k (k+skip (s.data.toList.drop k)) W hk hs rfl);have HS:=J4 hsz;rw[hsz]at hk0;clear hsz;go_enter Tryz.func92,Tryz.ntmps92;go_wp2_with (go_at_call 157;refine(J0 SK 0 (by omega) _).mono ?_;rintro e w' ⟨rfl,rfl⟩)
  go_loopw [5,6] (fun v i wr=>∃(k f:Nat) (pre:List Tok),i=.int .i64 k/\k<=s.size/\pre.length<=4096/\s.size-k<f/\wr.ownsRow w.heap.size 174 4 v pre.length (Jg pre)/\Below w.heap.size w wr /\
    Hid (lex s.data.toList=(pre++(zbi f (s.data.toList.drop k) k pre.length).1,(zbi f (s.data.toList.drop k) k pre.length).2))) (fun _ i _=>s.size-(intOf i).toNat)
  case atStart=>
   refine⟨skip s.data.toList,s.size+1,[],by simp,by omega,by simp,by omega,World.ownsRow_nil _ _ _ _,Below.refl _ _,?_⟩;show _=_;rw[lex,if_neg (by rw[J0 HS];omega),lexF_at,J0 HS];simp
  case round=>
   obtain⟨k,f,pre,rfl,hk,hpl,hf,hown,hb,HL⟩:=hrel;have hbs:=hb.size;have hv:∃p c,u5=.slice p pre.length c:=by
    rcases hown.2 with⟨rfl,h0⟩|⟨g,cap,cur,rfl,_⟩
    ·exact⟨none,0,by rw[h0]⟩
    ·exact⟨_,_,rfl⟩
   obtain⟨p,c,rfl⟩:=hv;by_cases hlt:k<s.size
   ·have hne:s.data.toList.drop k≠[]:=by rw[drop_cons s k hlt];simp
    have hdd:Lx.hd (s.data.toList.drop k)=(s[k].toNat:Int):=by rw[drop_cons s k hlt];rfl
    obtain⟨f',rfl⟩:∃f',f=f'+1:=⟨f-1,by omega⟩
    have hlt':(k:Int)<(s.size:Int):=by omega
    rcases hnx:next (s.data.toList.drop k) pre.length with⟨o,y⟩|⟨kd,S,v,m⟩
    ·have HE:Hid (lex s.data.toList=(pre,some (k+o,y))):=by
      have e:=J0 HL;rw[lexAt_no hne hnx]at e;show _=_;simpa using e
     have hyy:=next_why hnx;have hyn:((y:Int) != 0)=true:=by simp;omega
     by_cases h4:pre.length=4096
     ·have q4:((pre.length:Int)==4096)=true:=by simp[h4]
      by_cases hbg:Jq (s[k].toNat:Int)=true
      ·have h3:next (s.data.toList.drop k) pre.length=.inl (0,3):=by rw[h4];exact next_full (by rw[hdd];exact hbg)
       rw[h3]at hnx
       cases hnx
       have BG:=J4 (fun W=>zed s[k] true hbg W);clear HL hne SK hdd h3 h4 hbg;go_wp2_with (go_at_call 158;refine(J0 BG _).mono ?_;clear BG;rintro e w1 ⟨rfl,hb1⟩);exact bodyPost_ret (v:=.tuple #[.slice p pre.length c,.int .i64 k,.int .i64 3]) (by simp[results,Tryz.results92,go_sem]) rfl (RTokens.mk (J0 HE) rfl rfl (hb.trans (hb1.mono hbs)) (zai hown hb1))
      ·have hbg:=(Bool.not_eq_true _).mp hbg;have h3:∀n,next (s.data.toList.drop k) n=.inl (0,10):=fun n=>next_byte (by rw[hdd];exact hbg)
       rw[h3]at hnx
       cases hnx
       have BG:=J4 (fun W=>zed s[k] false hbg W);have CT:=J4 (fun W=>rcut_any s k W hlt hs (JM 10 (k:Int)) (by rw[h3];rfl));clear HL hne SK hdd h3 h4 hbg;go_wp2_with (first|(go_at_call 158;refine(J0 BG _).mono ?_;clear BG;rintro e w1 ⟨rfl,hb1⟩;have hz1':=hb1.size)|(go_at_call 159;refine(J0 CT _).mono ?_;clear CT;rintro e w2 ⟨rfl,hb2⟩;have hz2':=hb2.size;dsimp only[JM]));go_quiet (fail);go_wp2;exact bodyPost_ret (v:=.tuple #[.slice p pre.length c,.int .i64 k,.int .i64 10]) (by simp[results,Tryz.results92,go_sem]) rfl (RTokens.mk (J0 HE) rfl rfl (below_drewN (((hb.trans (hb1.mono hbs)).trans (hb2.mono (by omega))).alloc (by omega) _) _) (zai (zai (zai hown hb1) hb2) (below_drewN ((Below.refl _ _).alloc (Nat.le_refl _) _) _)))
     ·have q4:((pre.length:Int)==4096)=false:=by simp;omega
      have CT:=J4 (fun W=>rcut_any s k W hlt hs (JM (y:Int) ((k+o:Nat):Int)) (by rw[<-next_at (n:=pre.length) (by omega),hnx];rfl));obtain⟨z,hz⟩:∃z,z=k+o:=⟨_,rfl⟩
      rw[<-hz]at CT HE;clear HL hne SK hdd hnx hz h4;go_wp2_with (go_at_call 159;refine(J0 CT _).mono ?_;clear CT;rintro e w2 ⟨rfl,hb2⟩;have hz2':=hb2.size;dsimp only[JM]);go_quiet (fail);go_wp2;exact bodyPost_ret (v:=.tuple #[.slice p pre.length c,.int .i64 z,.int .i64 y]) (by simp[results,Tryz.results92,go_sem]) rfl (RTokens.mk (J0 HE) rfl rfl (below_drewN ((hb.trans (hb2.mono hbs)).alloc (by omega) _) _) (zai (zai hown hb2) (below_drewN ((Below.refl _ _).alloc (Nat.le_refl _) _) _)))
    ·have hm:=ze4 hne hnx;have hfew:=next_few hnx;have hdl:(s.data.toList.drop k).length=s.size-k:=by simp
     rw[hdl]at hm;have hsk:=zck (s.data.toList.drop (k+m));rw[show(s.data.toList.drop (k+m)).length=s.size-(k+m)from by simp]at hsk;have HE:Hid (lex s.data.toList=((pre++[(k,kd,S,v)])++(zbi f' (s.data.toList.drop (k+m+skip (s.data.toList.drop (k+m)))) (k+m+skip (s.data.toList.drop (k+m))) (pre++[(k,kd,S,v)]).length).1,(zbi f' (s.data.toList.drop (k+m+skip (s.data.toList.drop (k+m)))) (k+m+skip (s.data.toList.drop (k+m))) (pre++[(k,kd,S,v)]).length).2)):=by
      have e:=J0 HL;rw[lexAt_yes hne hnx]at e;simp only[List.drop_drop]at e;show _=_;rw[e];simp
     have CT:=J4 (fun W=>rcut_any s k W hlt hs (zao (k:Int) kd ⟨S.toArray⟩ v ((k+m:Nat):Int)) (by rw[<-next_at hfew,hnx];rfl));have SK2:=J4 (fun W=>J0 SK (k+m) (by omega) W);obtain⟨z,hz⟩:∃z,z=k+m:=⟨_,rfl⟩
     obtain⟨x,hx⟩:∃x,x=z+skip (s.data.toList.drop z):=⟨_,rfl⟩
     rw[<-hz]at CT SK2 HE hsk;rw[<-hx]at SK2 HE;have q4:((pre.length:Int)==4096)=false:=by simp;omega
     have hz9:k+1<=z/\z<=s.size:=by omega
     have hx9:z<=x/\x<=s.size:=by omega
     clear HL hnx hne hdl SK hdd hz hx hsk hm;go_wp2_with (first|(go_at_call 159;refine(J0 CT _).mono ?_;clear CT;rintro e w1 ⟨rfl,hb1⟩;have hz1':=hb1.size;dsimp only[zao])|(at_builtin;refine wpList_append_own _ rfl _ _ 93 rfl w.heap.size 174 i0 (.agg #[.int .i64 0,.int .i64 0,.string ⟨#[]⟩,.int .i64 0]) 4 40 Tryz.underlying93 hi hz0 hz1 hz2 rfl (by decide) _ pre.length (Jg pre) rfl ?own ⟨_,0,none⟩ 1 1 (Jm (k,kd,S,v)) rfl rfl ?news ?one ?c3 ?c4 ?c5 ?_))
     case own=>exact((zai hown hb1).alloc _).alloc _
     case news=>
      intro j u hj
      match j,hj with
      | 0,hj=>simp[Jm]at hj;subst hj;simp[Addr.add]
      | 1,hj=>simp[Jm]at hj;subst hj;simp[Addr.add]
      | 2,hj=>simp[Jm]at hj;subst hj;simp[Addr.add]
      | 3,hj=>simp[Jm]at hj;subst hj;simp[Addr.add]
      | j+4,hj=>simp[Jm]at hj
     case one=>intro u hu;simp[Jm]at hu;rcases hu with rfl|rfl|rfl|rfl <;> rfl
     case c3=>unfold maxLen;omega
     case c4=>omega
     case c5=>simp;omega
     intro v' w2 hown' hgrow _;have c4:w2.cell? ⟨w1.heap.size,4,none⟩=some (.int .i64 (z:Int)):=by
      refine(World.cell?_of_block (a:=⟨w1.heap.size,4,none⟩) (hgrow.block w1.heap.size (by simp;omega) (fun e=>?_))).trans (by simp);have:=(hown.lt _ e.symm).2;omega
     have hb':Below w.heap.size w w2:=(((hb.trans (hb1.mono hbs)).alloc (by omega) _).alloc (by simp;omega) _).grown hgrow (by simp;omega) (fun q e=>(hown.lt q e).1);have hl':(pre++[(k,kd,S,v)]).length=pre.length+1:=by simp
     rw[<-zd3,<-hl']at hown';clear hgrow;go_wp2_with (go_at_call 157;refine(J0 SK2 _).mono ?_;clear SK2;rintro e w' ⟨rfl,rfl⟩);go_roundw
     case rel=>exact⟨x,f',pre++[(k,kd,S,v)],rfl,by omega,by omega,by omega,hown',hb',HE⟩
     case measure=>simp[intOf];omega
   ·have HE:Hid (lex s.data.toList=(pre,none)):=by
     have e:=J0 HL;rw[List.drop_of_length_le (by simp;omega),lexAt_nil]at e;show _=_;simpa using e
    clear HL SK;go_wp2;exact bodyPost_ret (v:=.tuple #[.slice p pre.length c,.int .i64 0,.int .i64 0]) (by simp[results,Tryz.results92,go_sem]) rfl (RTokens.mk (J0 HE) rfl rfl hb hown)
end Go.Proofs.YtdamlfkieecnjaaGreatDoor
