import Derived.Test.YtdcbglnhhbmpgaaGreatDoorQRefE
import Derived.Test.YtdcbglnhhbmpgaaGreatDoorQSigG

namespace Go.Proofs.YtdcbglnhhbmpgaaGreatDoor
open Go Go.RowKit Lx
theorem textR_W:∀(g:List Tok) (i:Nat) (acc:Bs),g.all sound=true->textR (g.map J5) i acc=zej g i acc
 | [],_,_,_=>rfl
 | t::r,i,acc,h=>by
  simp only[YL,Yc]at h;have hle:=own_le h.1;rw[Yf,textR,zej];generalize acc++(if 0<i then[32]else[])=P;by_cases c:65536<(P++J5 t).length
  ·rw[Ye c,Ye c];exact(ite_self _).symm
  ·rw[Y7 c,Y7 (by rw[Y9]at c;omega),Y7 c];exact textR_W r (i+1) _ h.2
theorem joinW_more:∀(a b:List Tok) (i:Nat) (acc:Bs),zej a i acc=none->zej (a++b) i acc=none
 | [],_,_,_,h=>by cases h
 | t::r,b,i,acc,h=>by
  rw[YD,zej];rw[zej]at h;generalize acc++(if 0<i then[32]else[])=P at h ⊢;by_cases c:65536<P.length+t.2.2.1.length
  ·rw[Ye c]
  ·rw[Y7 c]at h ⊢;by_cases g:65536<(P++J5 t).length
   ·rw[Ye g]
   ·rw[Y7 g]at h ⊢;exact joinW_more r b _ _ h
theorem sound_ne {t:Tok} (h:sound t=true):J5 t≠[]:=by
 obtain⟨a,k,s,v⟩:=t;by_cases c:k=4
 ·subst c;simp[sound]at h;obtain⟨n,rfl⟩:∃n:Nat,v=(n:Int):=⟨v.toNat,by omega⟩
  rw[zd2];exact zl9 n
 ·by_cases g:k=5
  ·subst g;rw[zbl,quote];simp
  ·rw[JB (by exact c) (by exact g)];intro e;simp only at e;subst e;simp[sound,c,g,JQ]at h
theorem spaced_two:∀(c:List Tok),c.all sound=true->2*c.length<=(zf4 c).length
 | [],_=>by simp
 | t::r,h=>by
  simp only[YL,Yc]at h;have j:=spaced_two r h.2;have g:J5 t≠[]:=sound_ne h.1;have s:=List.length_pos_iff.2 g;rw[zfh];simp only[Yk,Y9];omega
theorem joinW_long {c:List Tok} (j:c.all sound=true) (g:32769<=c.length):zej c 0 []=none:=by
 cases c with
 | nil=>simp at g
 | cons t r=>
  have h:=spaced_two _ j;rw[zfh]at h;simp only[Yk,Y9]at h g;simp only[zej,Nat.lt_irrefl,if_false,X7,X8,Xc,X3]
  split
  ·rfl
  ·split
   ·rfl
   ·rename_i G;rcases he:zej r 1 (J5 t)with _|l
    ·rfl
    ·obtain⟨s,u⟩:=joinW_is r 1 _ l (by omega) he;have x:=u (by omega);rw[s,Y9]at x;omega
theorem zmi:∀(l c:List Tok),32769<=c.length->Jc c l=c
 | [],_,_=>rfl
 | x::l,c,h=>by rw[Jq,putT,Y7 (by omega)];exact zmi l c h
theorem putAll_cut (l:List Tok) (h:32769<l.length):Jc [] l=l.take 32769:=by
 have e:l=l.take 32769++l.drop 32769:=(Xl _ _).symm;have c:(l.take 32769).length=32769:=by rw[YE];omega
 have g:Jc [] l=Jc [] (l.take 32769++l.drop 32769):=by rw[<-e]
 rw[g,J8,zjl (l.take 32769) [] (by rw[c];simp),Xc,zmi _ _ (by omega)]
theorem all_take {l:List Tok} (n:Nat) (h:l.all sound=true):(l.take n).all sound=true:=by
 rw[Yn]at h ⊢;exact fun x c=>h x (List.mem_of_mem_take c)
theorem text_join {l:List Tok} (c:l.all sound=true):zdd (l.map J5)=join (Jc [] l):=by
 rw[zdd,textR_W _ _ _ c,Xy];by_cases j:32769<l.length
 ·have g:=joinW_long (all_take 32769 c) (by rw[YE];omega);have h:=joinW_more _ (l.drop 32769) _ _ g;rw[Xl]at h;rw[h,putAll_cut l j,join,Y7 (by rw[all_take 32769 c];decide),g]
 ·rw[zjl _ _ (by simp;omega),Xc,join,Y7 (by rw[c];decide)]
  cases zej l 0 [] <;> rfl
theorem zeu:∀{d:Nat} {room:Int} {c:List (Ty d)},Ju d room c=true->∀u∈c,JP d room u=true
 | 0,_,_,_,u,_=>nomatch u
 | d+1,room,c,h,u,hu=>by
  rw[Ju,Yn]at h;rw[JP,Ju,YL,List.all_nil,X4];exact h u hu
theorem zey {α:Type} {l:List α} {i:Nat} {f:α->List Tok} (h:∀a∈l,(f a).all sound=true):((l[i]?.map f).getD []).all sound=true:=by
 rcases hi:l[i]? with _|a
 ·rfl
 ·exact h a (YK hi)
theorem zgz {n:Nat} {f:Nat->List Tok} (h:∀i,i<n->(f i).all sound=true):((List.range n).flatMap f).all sound=true:=by
 rw[List.all_flatMap,Yn];exact fun i c=>h i (Yy.1 c)
theorem ze0:∀(d:Nat) (u:Bool) (t:Ty d) (room:Int),JP d room t=true->(Jf d u t).all sound=true
 | 0,_,t,_,_=>nomatch t
 | d+1,u,t,room,x=>by
  rw[zcz,ze8]at x;simp only[Yc]at x;obtain⟨⟨_,c⟩,ad⟩:=x;obtain⟨K,S,ns,es,j⟩:=t;have ae:=zeu ad;have r:∀(i:Nat) (s:Bool),((j[i]?.map (Jf d s)).getD []).all sound=true:=fun i s=>zey fun a ha=>ze0 d s a _ (ae a ha)
  have I:(tS [40]::((List.range (j.length-1)).flatMap fun i=>(if 0<i then[tS [44]]else[])++(j[i]?.map (Jf d false)).getD [])++tS [41]::(j[j.length-1]?.map (Jf d false)).getD []).all sound=true:=by
   rw[XA,YL,YL,r,zgz fun i g=>by rw[XA,r];split <;> decide +kernel]
   decide +kernel
  have J:zaj ns=true->∀i,i<ns.length->sound (tN (ns.getD i []))=true:=fun h i g=>by
   unfold zaj at h;rw[Yc,Yn]at h;have:=h.1 ns[i] (by simp);rw[Yo,Y6 g];exact this
  dsimp only[zb6]at c;show(if u=true then _ else if K=1 then _ else if K=2 then _ else if K=3 then _ else if K=4 then _ else if K=5 then _ else if K=6 then _ else if K=7 then _ else if K=8 then _ else[]).all sound=true;by_cases L:u=true
  ·rw[Ye L];exact I
  rw[Y7 L];by_cases M:K=1
  ·rw[Ye M];decide +kernel
  rw[Y7 M];by_cases U:K=2
  ·rw[Ye U];decide +kernel
  rw[Y7 U];by_cases V:K=3
  ·rw[Ye V];decide +kernel
  rw[Y7 V];by_cases Y:K=4
  ·subst Y;rw[Ye rfl,YL,List.all_nil,X4];simp[JF]at c;exact c.2
  rw[Y7 Y];by_cases Z:K=5
  ·rw[Ye Z,YL,r];decide +kernel
  rw[Y7 Z];by_cases aa:K=6
  ·subst aa;simp[JF]at c;have G:=J c.2.2;rw[Ye rfl,XA,YL,zgz fun i g=>by rw[XA,XA,YL,r,G i g];split <;> decide +kernel]
   decide +kernel
  rw[Y7 aa];by_cases ab:K=7
  ·rw[Ye ab,YL,I];decide +kernel
  rw[Y7 ab];by_cases ac:K=8
  ·subst ac;simp[JF]at c;have G:=J c.2.1.2;rw[Ye rfl,XA,YL,YL,zgz fun i g=>by rw[XA,YL,r,G i g];decide +kernel]
   decide +kernel
  rw[Y7 ac];rfl
end Go.Proofs.YtdcbglnhhbmpgaaGreatDoor
