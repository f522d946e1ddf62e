import Derived.Test.YtdamlfkieecnjaaGreatDoorQPTyC
import Derived.Deep.RegionHeld3
set_option maxHeartbeats 1000000
set_option maxRecDepth 100000
namespace Go.Proofs.YtdamlfkieecnjaaGreatDoor
open Go Go.RowKit Lx
def finS (en:Int) (s:RS):RS:=if zap s=true then Jb en s else s
abbrev rdO:Obj:=.cells #[.slice none 0 0,.int .i64 0,.pointer none] 104
theorem RdAt.begins {w2:World} {src:ByteArray} {ts:List Tok} {p:Option Addr} {c:Nat} (h:TkAt w2.heap.size w2 (.slice p ts.length c) ts) (W:World) (hW:W=((w2.alloc rdO).setCell ⟨w2.heap.size,0,none⟩ (.slice p ts.length c)).setCell ⟨w2.heap.size,1,none⟩ (.int .i64 (src.size:Int))) :
  RdAt w2.heap.size 104 (src.size:Int) (ts,none) W/\Below w2.heap.size w2 W/\w2.heap.size<W.heap.size:=by
 have hb:Below w2.heap.size w2 W:=by
  rw[hW];exact((zb2 rdO).setCell (p:=⟨w2.heap.size,0,none⟩) (Nat.le_refl _) _).setCell (p:=⟨w2.heap.size,1,none⟩) (Nat.le_refl _) _
 refine⟨⟨_,_,?_,h.keep hb,rfl⟩,hb,by rw[hW];simp⟩;rw[hW];exact Ja (i:=1) (Ja (i:=0) (J6 w2 rdO) (.slice p ts.length c)) (.int .i64 (src.size:Int))
theorem zc7 {k:Nat} {W:World} {a0 a1 a2 a3 a4 b0 b1 b2 b3 b4:Value} (h:W.heap[k]?=some (.cells #[a0,a1,a2,a3,a4] 27)) (Wf:World) (e:Wf=((((W.setCell ⟨k,0,none⟩ b0).setCell ⟨k,1,none⟩ b1).setCell ⟨k,2,none⟩ b2).setCell ⟨k,3,none⟩ b3).setCell ⟨k,4,none⟩ b4) :
  Wf.heap[k]?=some (.cells #[b0,b1,b2,b3,b4] 27)/\(∀j,j≠k->Wf.heap[j]?=W.heap[j]?)/\Below k W Wf:=by
 subst e;refine⟨?_,fun j hj=>?_,?_⟩
 ·exact Ja (i:=4) (Ja (i:=3) (Ja (i:=2) (Ja (i:=1) (Ja (i:=0) h b0) b1) b2) b3) b4
 ·rw[Below.heap_setCell _ _ _ _ hj,Below.heap_setCell _ _ _ _ hj,Below.heap_setCell _ _ _ _ hj,Below.heap_setCell _ _ _ _ hj,Below.heap_setCell _ _ _ _ hj]
 ·refine((((((Below.refl _ _).setCell ?_ _).setCell ?_ _).setCell ?_ _).setCell ?_ _).setCell ?_ _) <;> exact Nat.le_refl _
theorem JO {W:World} {k i:Nat} {c:Array Value} {t:TypeId} {fz:Nat×Nat} {v:Value} (h:W.heap[k]?=some (.cells c t fz)) (hv:c[i]?=some v):W.setCell ⟨k,i,none⟩ v=W:=by
 have hk:=(Array.getElem?_eq_some_iff.1 h).1;have hc:c.setIfInBounds i v=c:=by
  apply Array.ext_getElem?;intro j;by_cases e:i=j
  ·subst e;have:=(Array.getElem?_eq_some_iff.1 hv).1;rw[Array.getElem?_setIfInBounds_self_of_lt this,hv]
  ·rw[Array.getElem?_setIfInBounds_ne e]
 have h2:=Ja (i:=i) h v;rw[hc]at h2;have hs:(W.setCell ⟨k,i,none⟩ v).heap=W.heap:=by
  apply Array.ext_getElem?;intro j;by_cases e:j=k
  ·rw[e,h2,h]
  ·exact Below.heap_setCell _ _ _ _ e
 unfold World.setCell at hs ⊢;simp only at hs;rw[hs]
theorem readT_rest (F:FuncId) (hF:∀args w,Sem.run Tryz.prog (callFunc F args) w=.ok (.enter F args) w) (d:Nat) (p:RS->Ty (d+1)×RS) (src:ByteArray) (hs:src.size<=140737488355328) (hx:(lex src.data.toList).2=none) (hP:∀b,za1 b 104 (src.size:Int) F #[rp b] d p) (w:World) :
  Calls Tryz.prog 41 #[.string src,.func (.func F) #[] #[]] w fun e w'=>Below w.heap.size w w'/\match (finS (src.size:Int) (p ((lex src.data.toList).1,none)).2).2 with
   | some r=>∃k,e=.returned (.tuple #[tyZ,refI k])/\w'.heap[k]?=some (refO r.1 r.2)
   | none=>∃(K:Int) (S:ByteArray) (pn pe pp:Option Addr) (nn cn ne ce np cp:Nat),e=.returned (.tuple #[Jc K S pn pe pp nn cn ne ce np cp,.nilIface])/\∀V:World,(∀j,w.heap.size<=j->j<w'.heap.size->V.heap[j]?=w'.heap[j]?)->TyV V d (Jc K S pn pe pp nn cn ne ce np cp) (p ((lex src.data.toList).1,none)).1:=by
 have TK:=J4 (fun W=>toks_yes src hs hx W);obtain⟨ts,hts⟩:∃ts,ts=(lex src.data.toList).1:=⟨_,rfl⟩
 rw[<-hts]at TK ⊢;clear hx hts;have HP:=fun b=>hP b (ts,none)
 obtain⟨q,hq⟩:∃q,q=p (ts,none):=⟨_,rfl⟩
 rw[<-hq]at HP ⊢;replace HP:=J4 HP;obtain⟨s3,hs3⟩:∃s3,s3=finS (src.size:Int) q.2:=⟨_,rfl⟩
 obtain⟨o,ho⟩:∃o,o=s3.2:=⟨_,rfl⟩
 rw[<-hs3,<-ho];have HS:=J4 hs3;have HO:=J4 ho;clear hP hq hs3 ho;go_enter Tryz.func41,Tryz.ntmps41;go_upto_region 6 with(go_at_call 83;refine(J0 TK _).mono ?_;clear TK;rintro e w2 ⟨tp,tc,rfl,r1,r2⟩;have i1:w2.heap[w.heap.size]?=some tyO:=(r2.block _ (by simp <;> omega)).trans ((J9 _ _ (by simp)).trans (J6 w tyO));have i2:w2.heap[w.heap.size+1]?=some tyO:=(r2.block _ (by simp)).trans (zar _ _ (by simp));have R1:=J4 (r1 _ (Nat.le_refl _));have R2:=J4 r2;have I1:=J4 i1;have I2:=J4 i2;clear r1 r2 i1 i2)
 obtain⟨b,hb⟩:∃b,b=w2.heap.size:=⟨_,rfl⟩
 have hlt:w.heap.size+2<=b:=by have:=(J0 R2).size;simp at this;omega
 have n3:(w2.alloc rdO).heap[b]?=some rdO:=by rw[hb];exact J6 w2 rdO
 obtain⟨⟨a0,a1,a2⟩,af⟩:=box3 n3;rw[<-hb];have N3:=J4 n3;have HB:=J4 hb;clear n3;obtain⟨W1,hW1⟩:∃W1:World,W1=w2.alloc rdO:=⟨_,rfl⟩
 rw[<-hW1]at a0 a1 a2 af ⊢;have HW1:=J4 hW1;clear hW1 hb;go_upto_region 7 with fail
 obtain⟨W2,hW2⟩:∃W2:World,W2=(W1.setCell ⟨b,0,none⟩ (.slice tp ts.length tc)).setCell ⟨b,1,none⟩ (.int .i64 (src.size:Int)):=⟨_,rfl⟩
 rw[<-hW2];obtain⟨q1,q2,q3⟩:RdAt b 104 (src.size:Int) (ts,none) W2/\Below b w2 W2/\b<W2.heap.size:=by
  have hb:=J0 HB;subst hb;exact RdAt.begins (J0 R1) W2 (by rw[hW2,J0 HW1])
 have J1:Hid (W2.heap[w.heap.size]?=some tyO):=(q2.block _ (by omega)).trans (J0 I1);have J2:Hid (W2.heap[w.heap.size+1]?=some tyO):=(q2.block _ (by omega)).trans (J0 I2);have J3:Hid (Below w.heap.size w W2):=(((zb2 tyO).trans ((zb2 tyO).mono (by simp))).trans ((J0 R2).mono (by simp <;> omega))).trans (q2.mono (by omega));have HC:=J4 (J0 HP b W2 q1);clear hW2 q1 q2 a0 a1 a2 af N3 HW1 HB R1 R2 I1 I2 HP;go_wp2;refine(J0 HC).mono ?_;clear HC;rintro e w4 ⟨K,S,pn,pe,pp,nn,cn,ne,ce,np,cp,rfl,r1,r2,r3⟩;have hb4:b<w4.heap.size:=r1.lt;have C4:Hid (Kl b (b+1) W2 w4):=r2.mono (by omega);have k1:Hid (w4.heap[w.heap.size]?=some tyO):=(r2.2 _ (by omega) (by omega)).trans (J0 J1);have k2:Hid (w4.heap[w.heap.size+1]?=some tyO):=(r2.2 _ (by omega) (by omega)).trans (J0 J2);have K3:Hid (Below w.heap.size w w4):=(J0 J3).trans (r2.1.mono (by omega));have hz4:=r2.size;have R4:=J4 r1;have T4:=J4 r3;clear r1 r2 r3 C4 J1 J2 J3;go_upto_region 8 with fail
 obtain⟨W5,hW5⟩:∃W5:World,W5=w4.alloc (.cells #[.int .i64 K,.string S,.slice pn nn cn,.slice pe ne ce,.slice pp np cp] 27):=⟨_,rfl⟩
 obtain⟨c5,hc5⟩:∃c5,c5=w4.heap.size:=⟨_,rfl⟩
 have R5:Hid (RdAt b 104 (src.size:Int) q.2 W5):=by rw[hW5];exact(J0 R4).alloc _
 have m1:Hid (W5.heap[w.heap.size]?=some tyO):=by rw[hW5];exact(J9 _ _ (by omega)).trans (J0 k1)
 have m2:Hid (W5.heap[w.heap.size+1]?=some tyO):=by rw[hW5];exact(J9 _ _ (by omega)).trans (J0 k2)
 have m5:Hid (W5.heap[c5]?=some (.cells #[.int .i64 K,.string S,.slice pn nn cn,.slice pe ne ce,.slice pp np cp] 27)):=by rw[hW5,hc5];exact J6 _ _
 have m6:Hid (∀j,j<c5->W5.heap[j]?=w4.heap[j]?):=by rw[hW5,hc5];exact fun j hj=>J9 _ _ hj
 have m7:Hid (Below w.heap.size w W5):=by rw[hW5];exact(J0 K3).alloc (by have:=(J0 K3).size;omega) _
 have hz5:c5+1=W5.heap.size:=by rw[hW5,hc5];simp
 have hbc:b<c5:=by omega
 rw[<-hW5,<-hc5];rw[<-hc5]at hz4;have LF:=J4 (zcd b _ _ _ _ (J0 R5));have WR:=J4 (zbg b _ _ _ _ (J0 R5));have T5:Hid (∀V:World,(∀j,W2.heap.size<=j->j<c5->V.heap[j]?=w4.heap[j]?)->TyV V d (Jc K S pn pe pp nn cn ne ce np cp) q.1):=by rw[hc5];exact J0 T4
 clear hW5 hc5 R4 k1 k2 K3 T4 hb4;obtain⟨x,hx⟩:∃x,x=zap q.2:=⟨_,rfl⟩
 rw[<-hx]at LF;have HX:=J4 hx;clear hx
 cases x
 ·go_upto_region 10 with(go_at_call 84;refine(J0 LF).mono ?_;clear LF;rintro e w6 ⟨rfl,rfl⟩)
  obtain⟨W6,hW6⟩:∃W6,W6=W5:=⟨_,rfl⟩
  have h3:s3=q.2:=by rw[J0 HS,finS,<-J0 HX];rfl
  have R6:Hid (RdAt b 104 (src.size:Int) s3 W6):=by rw[h3,hW6];exact J0 R5
  have X6:Hid (Kx b W5 W6):=by rw[hW6];exact Kl.refl _ _ _
  rw[<-hW6];clear hW6 h3 HS HX WR;have n1:W6.heap[w.heap.size]?=some tyO:=((J0 X6).2 _ (by omega) (by omega)).trans (J0 m1);have n2:W6.heap[w.heap.size+1]?=some tyO:=((J0 X6).2 _ (by omega) (by omega)).trans (J0 m2);have n5:W6.heap[c5]?=some (.cells #[.int .i64 K,.string S,.slice pn nn cn,.slice pe ne ce,.slice pp np cp] 27):=((J0 X6).2 _ (by omega) (by omega)).trans (J0 m5);have N6:Hid (∀j,j<c5->j≠b->W6.heap[j]?=w4.heap[j]?):=fun j j1 j2=>((J0 X6).2 j (by omega) j2).trans (J0 m6 j j1)
  have N7:Hid (Below w.heap.size w W6):=(J0 m7).trans ((J0 X6).1.mono (by omega));have hz6:=(J0 X6).size;obtain⟨gp,gc,gq,g1,-,-,-,-,g6⟩:=RdAt.open (J0 R6);rw[<-J0 HO]at g6;obtain⟨⟨-,-,b2⟩,-⟩:=box3 g1;obtain⟨⟨z0,z1,z2,z3,z4⟩,zf⟩:=J8 n1;obtain⟨⟨y0,y1,y2,y3,y4⟩,-⟩:=J8 n2;obtain⟨⟨x0,x1,x2,x3,x4⟩,-⟩:=J8 n5;have n1':=J4 n1;clear n1 n2 n5 g1 R6 X6 m1 m2 m5 m6 m7 R5
  cases o with
  | none=>
   have g6:gq=.pointer none:=g6;subst g6;go_wp2;obtain⟨Wf,hWf⟩:∃Wf:World,Wf=((((W6.setCell ⟨w.heap.size,0,none⟩ (.int .i64 K)).setCell ⟨w.heap.size,1,none⟩ (.string S)).setCell ⟨w.heap.size,2,none⟩ (.slice pn nn cn)).setCell ⟨w.heap.size,3,none⟩ (.slice pe ne ce)).setCell ⟨w.heap.size,4,none⟩ (.slice pp np cp):=⟨_,rfl⟩
   rw[<-hWf];obtain⟨d1,d2,d3⟩:=zc7 (J0 n1') Wf hWf;obtain⟨⟨v0,v1,v2,v3,v4⟩,-⟩:=J8 d1;refine bodyPost_ret (v:=.tuple #[Jc K S pn pe pp nn cn ne ce np cp,.nilIface]) (by simp[results,Tryz.results41,go_sem,v0,v1,v2,v3,v4]) rfl ⟨(J0 N7).trans (d3.mono (Nat.le_refl _)),?_⟩;refine⟨_,_,_,_,_,_,_,_,_,_,_,rfl,fun V hV=>J0 T5 V fun j j1 j2=>?_⟩;have hs:Wf.heap.size=W6.heap.size:=by rw[hWf];simp
   exact(hV j (by omega) (by omega)).trans ((d2 j (by omega)).trans (J0 N6 j j2 (by omega)))
  | some r=>
   obtain⟨k,rfl,hkb,hkl,hkr⟩:∃k,gq=.pointer (some ⟨k,0,none⟩)/\k≠b/\k<W6.heap.size/\W6.heap[k]?=some (refO r.1 r.2):=g6
   have hk1:k≠w.heap.size:=fun e=>by
    subst e;rw[J0 n1']at hkr;simp at hkr
   have HKR:=J4 hkr;clear hkr;have s0:∀m,(W6.drewN m).setCell ⟨w.heap.size,0,none⟩ (.int .i64 0)=W6.drewN m:=fun m=>JO (W:=W6.drewN m) (J0 n1') rfl
   have s1:∀m,(W6.drewN m).setCell ⟨w.heap.size,1,none⟩ (.string ⟨#[]⟩)=W6.drewN m:=fun m=>JO (W:=W6.drewN m) (J0 n1') rfl
   have s2:∀m,(W6.drewN m).setCell ⟨w.heap.size,2,none⟩ (.slice none 0 0)=W6.drewN m:=fun m=>JO (W:=W6.drewN m) (J0 n1') rfl
   have s3:∀m,(W6.drewN m).setCell ⟨w.heap.size,3,none⟩ (.slice none 0 0)=W6.drewN m:=fun m=>JO (W:=W6.drewN m) (J0 n1') rfl
   have s4:∀m,(W6.drewN m).setCell ⟨w.heap.size,4,none⟩ (.slice none 0 0)=W6.drewN m:=fun m=>JO (W:=W6.drewN m) (J0 n1') rfl
   go_upto_region 11 with fail
   go_quiet (fail);go_wp2;have u0:(W6.drewN nq).cell? ⟨w.heap.size,0,none⟩=some (.int .i64 0):=z0;have u1:(W6.drewN nq).cell? ⟨w.heap.size,1,none⟩=some (.string ⟨#[]⟩):=z1;have u2:(W6.drewN nq).cell? ⟨w.heap.size,2,none⟩=some (.slice none 0 0):=z2;have u3:(W6.drewN nq).cell? ⟨w.heap.size,3,none⟩=some (.slice none 0 0):=z3;have u4:(W6.drewN nq).cell? ⟨w.heap.size,4,none⟩=some (.slice none 0 0):=z4;exact bodyPost_ret (v:=.tuple #[tyZ,refI k]) (by simp[results,Tryz.results41,go_sem,u0,u1,u2,u3,u4]) rfl ⟨below_drewN (J0 N7) nq,k,rfl,J0 HKR⟩
 ·go_upto_region 10 with(first|(go_at_call 84;refine(J0 LF).mono ?_;clear LF;rintro e w6 ⟨rfl,rfl⟩)|(go_at_call 85;refine(J0 WR).mono ?_;clear WR;rintro e W6 ⟨rfl,r1,r2⟩;have R1:=J4 r1;have X6:=J4 r2;clear r1 r2))
  have h3:s3=Jb (src.size:Int) q.2:=by rw[J0 HS,finS,<-J0 HX];rfl
  have R6:Hid (RdAt b 104 (src.size:Int) s3 W6):=by rw[h3];exact J0 R1
  clear h3 HS HX R1;have n1:W6.heap[w.heap.size]?=some tyO:=((J0 X6).2 _ (by omega) (by omega)).trans (J0 m1);have n2:W6.heap[w.heap.size+1]?=some tyO:=((J0 X6).2 _ (by omega) (by omega)).trans (J0 m2);have n5:W6.heap[c5]?=some (.cells #[.int .i64 K,.string S,.slice pn nn cn,.slice pe ne ce,.slice pp np cp] 27):=((J0 X6).2 _ (by omega) (by omega)).trans (J0 m5);have N6:Hid (∀j,j<c5->j≠b->W6.heap[j]?=w4.heap[j]?):=fun j j1 j2=>((J0 X6).2 j (by omega) j2).trans (J0 m6 j j1)
  have N7:Hid (Below w.heap.size w W6):=(J0 m7).trans ((J0 X6).1.mono (by omega));have hz6:=(J0 X6).size;obtain⟨gp,gc,gq,g1,-,-,-,-,g6⟩:=RdAt.open (J0 R6);rw[<-J0 HO]at g6;obtain⟨⟨-,-,b2⟩,-⟩:=box3 g1;obtain⟨⟨z0,z1,z2,z3,z4⟩,zf⟩:=J8 n1;obtain⟨⟨y0,y1,y2,y3,y4⟩,-⟩:=J8 n2;obtain⟨⟨x0,x1,x2,x3,x4⟩,-⟩:=J8 n5;have n1':=J4 n1;clear n1 n2 n5 g1 R6 X6 m1 m2 m5 m6 m7 R5
  cases o with
  | none=>
   have g6:gq=.pointer none:=g6;subst g6;go_wp2;obtain⟨Wf,hWf⟩:∃Wf:World,Wf=((((W6.setCell ⟨w.heap.size,0,none⟩ (.int .i64 K)).setCell ⟨w.heap.size,1,none⟩ (.string S)).setCell ⟨w.heap.size,2,none⟩ (.slice pn nn cn)).setCell ⟨w.heap.size,3,none⟩ (.slice pe ne ce)).setCell ⟨w.heap.size,4,none⟩ (.slice pp np cp):=⟨_,rfl⟩
   rw[<-hWf];obtain⟨d1,d2,d3⟩:=zc7 (J0 n1') Wf hWf;obtain⟨⟨v0,v1,v2,v3,v4⟩,-⟩:=J8 d1;refine bodyPost_ret (v:=.tuple #[Jc K S pn pe pp nn cn ne ce np cp,.nilIface]) (by simp[results,Tryz.results41,go_sem,v0,v1,v2,v3,v4]) rfl ⟨(J0 N7).trans (d3.mono (Nat.le_refl _)),?_⟩;refine⟨_,_,_,_,_,_,_,_,_,_,_,rfl,fun V hV=>J0 T5 V fun j j1 j2=>?_⟩;have hs:Wf.heap.size=W6.heap.size:=by rw[hWf];simp
   exact(hV j (by omega) (by omega)).trans ((d2 j (by omega)).trans (J0 N6 j j2 (by omega)))
  | some r=>
   obtain⟨k,rfl,hkb,hkl,hkr⟩:∃k,gq=.pointer (some ⟨k,0,none⟩)/\k≠b/\k<W6.heap.size/\W6.heap[k]?=some (refO r.1 r.2):=g6
   have hk1:k≠w.heap.size:=fun e=>by
    subst e;rw[J0 n1']at hkr;simp at hkr
   have HKR:=J4 hkr;clear hkr;have s0:∀m,(W6.drewN m).setCell ⟨w.heap.size,0,none⟩ (.int .i64 0)=W6.drewN m:=fun m=>JO (W:=W6.drewN m) (J0 n1') rfl
   have s1:∀m,(W6.drewN m).setCell ⟨w.heap.size,1,none⟩ (.string ⟨#[]⟩)=W6.drewN m:=fun m=>JO (W:=W6.drewN m) (J0 n1') rfl
   have s2:∀m,(W6.drewN m).setCell ⟨w.heap.size,2,none⟩ (.slice none 0 0)=W6.drewN m:=fun m=>JO (W:=W6.drewN m) (J0 n1') rfl
   have s3:∀m,(W6.drewN m).setCell ⟨w.heap.size,3,none⟩ (.slice none 0 0)=W6.drewN m:=fun m=>JO (W:=W6.drewN m) (J0 n1') rfl
   have s4:∀m,(W6.drewN m).setCell ⟨w.heap.size,4,none⟩ (.slice none 0 0)=W6.drewN m:=fun m=>JO (W:=W6.drewN m) (J0 n1') rfl
   go_upto_region 11 with fail
   go_quiet (fail);go_wp2;have u0:(W6.drewN nq).cell? ⟨w.heap.size,0,none⟩=some (.int .i64 0):=z0;have u1:(W6.drewN nq).cell? ⟨w.heap.size,1,none⟩=some (.string ⟨#[]⟩):=z1;have u2:(W6.drewN nq).cell? ⟨w.heap.size,2,none⟩=some (.slice none 0 0):=z2;have u3:(W6.drewN nq).cell? ⟨w.heap.size,3,none⟩=some (.slice none 0 0):=z3;have u4:(W6.drewN nq).cell? ⟨w.heap.size,4,none⟩=some (.slice none 0 0):=z4;exact bodyPost_ret (v:=.tuple #[tyZ,refI k]) (by simp[results,Tryz.results41,go_sem,u0,u1,u2,u3,u4]) rfl ⟨below_drewN (J0 N7) nq,k,rfl,J0 HKR⟩
end Go.Proofs.YtdamlfkieecnjaaGreatDoor
