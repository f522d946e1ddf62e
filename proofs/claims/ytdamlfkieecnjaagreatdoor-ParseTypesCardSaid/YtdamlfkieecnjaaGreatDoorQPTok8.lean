import Derived.Test.YtdamlfkieecnjaaGreatDoorQPTok7
import Derived.Deep.LoopGhost
set_option maxHeartbeats 1000000
set_option maxRecDepth 100000
namespace Go.Proofs.YtdamlfkieecnjaaGreatDoor
open Go Go.RowKit Lx
theorem accB_pos {s:RS} {m:Bs} (h:JB s m=true):0<s.1.length:=by
 cases hs:s.1 with
 | nil=>simp[JB,J5,hs,isM,zcr]at h
 | cons=>simp
def Thing {α:Type} (b lo:Nat) (T:TypeId) (en:Int) (I:α->World->Prop) (len:α->Nat) (F:FuncId) (caps:Array Value) (thing:α->RS->α×RS):Prop:=
 ∀(a:α) (s:RS) (w:World),RdAt b T en s w->I a w->lo<=w.heap.size->len a<=200000->Calls Tryz.prog F caps w fun e w'=>e=.returned (.tuple #[])/\RdAt b T en (thing a s).2 w'/\I (thing a s).1 w'/\Kl b lo w w'
theorem pCommas_any {α:Type} (b lo:Nat) (T:TypeId) (en:Int) (I:α->World->Prop) (hI:∀a w w',I a w->Kx b w w'->I a w') (F:FuncId) (hF:∀args w,Sem.run Tryz.prog (callFunc F args) w=.ok (.enter F args) w) (caps:Array Value) (thing:α->RS->α×RS) (hL:∀a s,(thing a s).2.1.length<=s.1.length) (len:α->Nat) (hN:∀a s,len (thing a s).1<=len a+1) (hT:Thing b lo T en I len F caps thing)
  (m:Bs) (a:α) (s:RS) (w:World) (h:RdAt b T en s w) (hi:I a w) (hlo:lo<=w.heap.size) (hlen:len a+s.1.length<=150000):Calls Tryz.prog 156 #[rp b,.string ⟨m.toArray⟩,.func (.func F) #[] caps] w fun e w'=>e=.returned (.tuple #[])/\RdAt b T en (Jj en m thing a s).2 w'/\I (Jj en m thing a s).1 w'/\Kl b lo w w':=by
 have AC:=J4 (zbe b T en s m w h);have HI:=J4 hI;have HT:=J4 hT;have HL:=J4 hL;have HN:=J4 hN;have HB0:Hid (len (thing a s).1+(thing a s).2.1.length<=150001):=by
  have h1:=hN a s;have h2:=hL a s;show _<=_;omega
 have HX:=J4 hi;have HC:Hid (Jj en m thing a s=if JB s m=true then(a,J7 s)else((Jl thing ((thing a s).2.1.length+1) (thing a s).1 (thing a s).2).1,Je en (Jl thing ((thing a s).2.1.length+1) (thing a s).1 (thing a s).2).2 m)):=rfl;have HA:Hid (zb4 s m=if JB s m=true then J7 s else s):=rfl;obtain⟨x,hx⟩:∃x,x=JB s m:=⟨_,rfl⟩
 rw[<-hx]at AC HC HA;clear hx h hi hI hT hL hN
 cases x
 ·go_enter Tryz.func156,Tryz.ntmps156;go_wp2_with (go_at_call 151;refine(J0 AC).mono ?_;clear AC;rintro e w1 ⟨rfl,r1,r2⟩;rw[J0 HA]at r1;have R1:=J4 r1;have R2:=J4 r2;clear r1 r2);have hz1:lo<=w1.heap.size:=Nat.le_trans hlo (J0 R2).size;refine(J0 HT a s w1 (J0 R1) (J0 HI _ _ _ (J0 HX) (J0 R2)) hz1 (by omega)).mono ?_;rintro e w2 ⟨rfl,q1,q2,q3⟩;have HW:Hid (RdAt b T en (thing a s).2 w2/\I (thing a s).1 w2/\Kl b lo w w2):=⟨q1,q2,((J0 R2).mono hlo).trans q3⟩
  clear q1 q2 q3 R1 R2 HX hz1 HA;have hz2:lo<=w2.heap.size:=Nat.le_trans hlo (J0 HW).2.2.size;obtain⟨a1,ha1⟩:∃y,y=(thing a s).1:=⟨_,rfl⟩
  obtain⟨s1,hs1⟩:∃y,y=(thing a s).2:=⟨_,rfl⟩
  rw[<-ha1,<-hs1]at HW HC HB0;clear ha1 hs1;go_wp2
  go_loopg [] s1.1.length (fun gk wr=>∃(f:Nat) (a2:α) (s2:RS),lo<=wr.heap.size/\Hid (len a2+s2.1.length<=150001)/\Hid (s2.1.length=gk/\gk<f)/\Hid (Jl thing (s1.1.length+1) a1 s1=Jl thing f a2 s2)/\Hid (RdAt b T en s2 wr/\I a2 wr/\Kl b lo w wr))
  case atStart=>exact⟨_,a1,s1,hz2,J0 HB0,⟨rfl,Nat.lt_succ_self _⟩,rfl,J0 HW⟩
  case round=>
   clear HW hz2 HB0;obtain⟨f,a2,s2,hz,HB1,HF,HE,HW⟩:=hrel;have AC:=J4 (zbe b T en s2 [44] wr (J0 HW).1)
   cases f with
   | zero=>exact absurd (J0 HF).2 (by omega)
   | succ f=>
   rw[show Jl thing (f+1) a2 s2=if JB s2 [44]=true then Jl thing f (thing a2 (J7 s2)).1 (thing a2 (J7 s2)).2 else(a2,s2)from rfl]at HE;have HA:Hid (zb4 s2 [44]=if JB s2 [44]=true then J7 s2 else s2):=rfl;have HP:Hid (JB s2 [44]=true->0<s2.1.length):=accB_pos;obtain⟨x,hx⟩:∃x,x=JB s2 [44]:=⟨_,rfl⟩
   rw[<-hx]at AC HE HA HP;clear hx
   cases x
   ·have ND:=J4 (ze0 b T en s2 m);go_wp2_with (first|(go_at_call 151;refine(J0 AC).mono ?_;clear AC;rintro e w3 ⟨rfl,r1,r2⟩;rw[J0 HA]at r1;have R1:=J4 r1;have R2:=J4 r2;clear r1 r2)|(go_at_call 153;refine(J0 ND _ (J0 R1)).mono ?_;clear ND;rintro e w4 ⟨rfl,q1,q2⟩));have e0:Jl thing (s1.1.length+1) a1 s1=(a2,s2):=J0 HE;refine bodyPost_end (v:=.tuple #[]) (by simp[results,Tryz.results156,go_sem]) rfl ⟨rfl,?_,?_,?_⟩
    ·rw[J0 HC];simp only[Bool.false_eq_true,if_false];rw[e0];exact q1
    ·rw[J0 HC];simp only[Bool.false_eq_true,if_false];rw[e0];exact J0 HI _ _ _ (J0 HI _ _ _ (J0 HW).2.1 (J0 R2)) q2
    ·exact(J0 HW).2.2.trans (((J0 R2).mono hz).trans (q2.mono (Nat.le_trans hz (J0 R2).size)))
   ·go_wp2_with (go_at_call 151;refine(J0 AC).mono ?_;clear AC;rintro e w3 ⟨rfl,r1,r2⟩;rw[J0 HA]at r1;have R1:=J4 r1;have R2:=J4 r2;clear r1 r2);have hz3:lo<=w3.heap.size:=Nat.le_trans hz (J0 R2).size;refine(J0 HT a2 (J7 s2) w3 (J0 R1) (J0 HI _ _ _ (J0 HW).2.1 (J0 R2)) hz3 (by have:=J0 HB1;omega)).mono ?_;rintro e w5 ⟨rfl,q1,q2,q3⟩;have HQ:=J4 (And.intro q1 (And.intro q2 q3));clear q1 q2 q3;have hm:(thing a2 (J7 s2)).2.1.length<gk:=by
     have h1:=J0 HL a2 (J7 s2);have h2:=Jt s2;have h3:=J0 HP trivial;have h4:=(J0 HF).1;omega
    have hf:gk<f+1:=(J0 HF).2;have HB2:Hid (len (thing a2 (J7 s2)).1+(thing a2 (J7 s2)).2.1.length<=150001):=by
     have h1:=J0 HN a2 (J7 s2);have h2:=J0 HL a2 (J7 s2);have h3:=Jt s2;have h4:=J0 HP trivial;have h5:=J0 HB1;show _<=_;omega
    go_wp2;go_roundg (thing a2 (J7 s2)).2.1.length
    case measure=>exact hm
    case rel=>exact⟨f,_,_,Nat.le_trans hz3 (J0 HQ).2.2.size,J0 HB2,⟨rfl,by omega⟩,J0 HE,(J0 HQ).1,(J0 HQ).2.1,(J0 HW).2.2.trans (((J0 R2).mono hz).trans (J0 HQ).2.2)⟩
 ·go_enter Tryz.func156,Tryz.ntmps156;go_wp2_with (go_at_call 151;refine(J0 AC).mono ?_;clear AC;rintro e w1 ⟨rfl,r1,r2⟩;rw[J0 HA]at r1);exact bodyPost_ret (v:=.tuple #[]) (by simp[results,Tryz.results156,go_sem]) rfl ⟨rfl,by rw[J0 HC];exact r1,by rw[J0 HC];exact J0 HI _ _ _ (J0 HX) r2,r2.mono hlo⟩
end Go.Proofs.YtdamlfkieecnjaaGreatDoor
