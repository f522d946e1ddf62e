import Derived.Test.YtdamlfkieecnjaaGreatDoorQPType
import Derived.Test.YtdamlfkieecnjaaGreatDoorQPReadC
set_option maxHeartbeats 1000000
set_option maxRecDepth 100000
namespace Go.Proofs.YtdamlfkieecnjaaGreatDoor
open Go Go.RowKit Lx
def zby (l:Bs):Option (Int×Int)×Ty 65:=
 match (lex l).2 with
 | some (a,y)=>(some ((a:Int),(y:Int)),zTy 64)
 | none=>((finS (l.length:Int) ((pTS (l.length:Int) 64).1 ((lex l).1,none)).2).2,((pTS (l.length:Int) 64).1 ((lex l).1,none)).1)
theorem tyOne (b:Nat) (T:TypeId) (en:Int):za1 b T en 42 #[rp b] 64 (pTS en 64).1:=by
 have h:=(readTS b T en 64 (by decide)).1;rw[show(65-((64:Nat):Int))=1 by decide]at h;exact type1_any b T en 64 _ h
def AnsT (w:World) (src:ByteArray) (e:Ending) (w':World):Prop:=
 Below w.heap.size w w'/\match (zby src.data.toList).1 with
  | some r=>∃k,e=.returned (.tuple #[tyZ,refI k])/\w'.heap[k]?=some (refO r.1 r.2)
  | none=>∃(K:Int) (S:ByteArray) (pn pe pp:Option Addr) (nn cn ne ce np cp:Nat),e=.returned (.tuple #[Jc K S pn pe pp nn cn ne ce np cp,.nilIface])/\∀V:World,(∀j,w.heap.size<=j->j<w'.heap.size->V.heap[j]?=w'.heap[j]?)->TyV V 64 (Jc K S pn pe pp nn cn ne ce np cp) (zby src.data.toList).2
theorem readT_any (src:ByteArray) (hs:src.size<=140737488355328) (w:World):Calls Tryz.prog 41 #[.string src,.func (.func 42) #[] #[]] w fun e w'=>AnsT w src e w':=by
 have hz:src.data.toList.length=src.size:=by rw[Array.length_toList];rfl
 cases hx:(lex src.data.toList).2 with
 | some r=>
  obtain⟨a,y⟩:=r;refine(readT_lex _ src a y hs hx w).mono fun e w' ⟨k,h1,h2,h3⟩=>⟨h3,?_⟩
  simp only[zby,hx];exact⟨k,h1,h2⟩
 | none=>
  refine(readT_rest 42 (fun _ _=>by kernel_rfl) 64 (pTS (src.size:Int) 64).1 src hs hx (fun b=>tyOne b _ _) w).mono fun e w' ⟨h1,h2⟩=>⟨h1,?_⟩
  simp only[zby,hx,hz];exact h2
theorem Type_any (src:ByteArray) (hs:src.size<=140737488355328) (w:World):Calls Tryz.prog 10 #[.string src] w fun e w'=>AnsT w src e w':=by
 have RD:=J4 (readT_any src hs (w.alloc tyO));unfold AnsT at RD ⊢;obtain⟨q,hq⟩:∃q,q=zby src.data.toList:=⟨_,rfl⟩
 rw[<-hq]at RD ⊢;obtain⟨o,t⟩:=q;clear hq
 cases o with
 | none=>
  go_enter Tryz.func10,Tryz.ntmps10;go_wp2_with (go_at_call 41;refine(J0 RD).mono ?_;clear RD;rintro e w1 ⟨r1,K,S,pn,pe,pp,nn,cn,ne,ce,np,cp,rfl,r2⟩;have k3:w1.heap[w.heap.size]?=some tyO:=(r1.block _ (by simp)).trans (J6 w tyO);obtain⟨⟨z0,z1,z2,z3,z4⟩,zf⟩:=J8 k3;have R1:=J4 r1;have R2:=J4 r2;have K3:=J4 k3;clear r1 r2 k3);obtain⟨Wf,hWf⟩:∃Wf:World,Wf=((((w1.setCell ⟨w.heap.size,0,none⟩ (.int .i64 K)).setCell ⟨w.heap.size,1,none⟩ (.string S)).setCell ⟨w.heap.size,2,none⟩ (.slice pn nn cn)).setCell ⟨w.heap.size,3,none⟩ (.slice pe ne ce)).setCell ⟨w.heap.size,4,none⟩ (.slice pp np cp):=⟨_,rfl⟩
  rw[<-hWf];obtain⟨d1,d2,d3⟩:=zc7 (J0 K3) Wf hWf;obtain⟨⟨v0,v1,v2,v3,v4⟩,-⟩:=J8 d1;have hs1:Wf.heap.size=w1.heap.size:=by rw[hWf];simp
  refine bodyPost_ret (v:=.tuple #[Jc K S pn pe pp nn cn ne ce np cp,.nilIface]) (by simp[results,Tryz.results10,go_sem,v0,v1,v2,v3,v4]) rfl ⟨((zb2 tyO).trans ((J0 R1).mono (by simp))).trans (d3.mono (Nat.le_refl _)),?_⟩;refine⟨_,_,_,_,_,_,_,_,_,_,_,rfl,fun V hV=>J0 R2 V fun j j1 j2=>?_⟩;have j3:w.heap.size+1<=j:=by simpa using j1
  exact(hV j (by omega) (by omega)).trans (d2 j (by omega))
 | some r=>
  go_enter Tryz.func10,Tryz.ntmps10;go_wp2_with (go_at_call 41;refine(J0 RD).mono ?_;clear RD;rintro e w1 ⟨r1,k,rfl,r2⟩;have k3:w1.heap[w.heap.size]?=some tyO:=(r1.block _ (by simp)).trans (J6 w tyO);obtain⟨⟨z0,z1,z2,z3,z4⟩,zf⟩:=J8 k3;have R1:=J4 r1;have R2:=J4 r2;have K3:=J4 k3;clear r1 r2 k3);obtain⟨Wf,hWf⟩:∃Wf:World,Wf=((((w1.setCell ⟨w.heap.size,0,none⟩ (.int .i64 0)).setCell ⟨w.heap.size,1,none⟩ (.string ⟨#[]⟩)).setCell ⟨w.heap.size,2,none⟩ (.slice none 0 0)).setCell ⟨w.heap.size,3,none⟩ (.slice none 0 0)).setCell ⟨w.heap.size,4,none⟩ (.slice none 0 0):=⟨_,rfl⟩
  rw[<-hWf];obtain⟨d1,d2,d3⟩:=zc7 (J0 K3) Wf hWf;obtain⟨⟨v0,v1,v2,v3,v4⟩,-⟩:=J8 d1;have hk:k≠w.heap.size:=fun e=>by
   have h:=J0 R2;rw[e,J0 K3]at h;simp at h
  exact bodyPost_ret (v:=.tuple #[tyZ,refI k]) (by simp[results,Tryz.results10,go_sem,v0,v1,v2,v3,v4]) rfl ⟨((zb2 tyO).trans ((J0 R1).mono (by simp))).trans (d3.mono (Nat.le_refl _)),k,rfl,(d2 k hk).trans (J0 R2)⟩
end Go.Proofs.YtdamlfkieecnjaaGreatDoor
