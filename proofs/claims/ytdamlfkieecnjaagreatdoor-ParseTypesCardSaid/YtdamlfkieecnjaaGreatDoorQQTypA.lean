import Derived.Test.YtdamlfkieecnjaaGreatDoorQQIfaX
import Derived.Test.YtdamlfkieecnjaaGreatDoorQPTypeF

namespace Go.Proofs.YtdamlfkieecnjaaGreatDoor
open Go Go.RowKit Lx
def AnsQ (w:World) (src:ByteArray) (e:Ending) (w':World):Prop:=
 Below w.heap.size w w'/\match (zby src.data.toList).1 with
  | some r=>e=.returned (.tuple #[tyZ,.int .i64 r.1,.int .i64 r.2])/\r.2≠0
  | none=>∃(K:Int) (S:ByteArray) (pn pe pp:Option Addr) (nn cn ne ce np cp:Nat),e=.returned (.tuple #[Jc K S pn pe pp nn cn ne ce np cp,.int .i64 0,.int .i64 0])/\∀V:World,(∀j,w.heap.size<=j->j<w'.heap.size->V.heap[j]?=w'.heap[j]?)->TyV V 64 (Jc K S pn pe pp nn cn ne ce np cp) (zby src.data.toList).2
theorem fin_eq (en:Int) (s:RS):finS en s=if s.1=[]then s else Jb en s:=by
 unfold finS zap
 cases hs:s.1 with
 | nil=>simp
 | cons t l=>simp
theorem TypeQ_any (src:ByteArray) (hs:src.size<=140737488355328) (w:World):Calls Tryz.prog 11 #[.string src] w fun e w'=>AnsQ w src e w':=by
 have hz:src.data.toList.length=src.size:=by rw[Array.length_toList];rfl
 have hn:(lex src.data.toList).1.length<=100000:=by have:=Lx.lex_most src.data.toList;omega
 have hb:=fun w=>begin_q src hs w
 have ht:∀b w,RqAt b (src.size:Int) (lex src.data.toList).1 (qs0 src.data.toList) w->Calls Tryz.prog 45 #[rp b,.int .i64 1] w fun e w'=>∃(K:Int) (S:ByteArray) (pn pe pp:Option Addr) (nn cn ne ce np cp:Nat),e=.returned (Jc K S pn pe pp nn cn ne ce np cp)/\RqAt b (src.size:Int) (lex src.data.toList).1 ((pTS (src.size:Int) 64).1 (qs0 src.data.toList)).2 w'/\Kx b w w'/\(((pTS (src.size:Int) 64).1 (qs0 src.data.toList)).2.2=none->∀V:World,(∀j,w.heap.size<=j->j<w'.heap.size->V.heap[j]?=w'.heap[j]?)->TyV V 64 (Jc K S pn pe pp nn cn ne ce np cp) ((pTS (src.size:Int) 64).1 (qs0 src.data.toList)).1):=fun b w h=>by
  have:=typed_any (b:=b) (en:=(src.size:Int)) hn 64 (by decide) _ w h;rw[show(65-((64:Nat):Int))=1 by decide]at this;exact this
 have he:∀b s,Rdq b (src.size:Int) (lex src.data.toList).1 46 #[rp b] s (if s.1=[]then s else Jb (src.size:Int) s) (.tuple #[]):=fun b s=>end_q b _ _ s
 have e0:∀o,(if ((pTS (src.size:Int) 64).1 (qs0 src.data.toList)).2.1=[]then((pTS (src.size:Int) 64).1 (qs0 src.data.toList)).2 else Jb (src.size:Int) ((pTS (src.size:Int) 64).1 (qs0 src.data.toList)).2).2=o->(zby src.data.toList).1=o/\(o=none->(zby src.data.toList).2=((pTS (src.size:Int) 64).1 (qs0 src.data.toList)).1):=fun o h=>by
  unfold zby;unfold qs0 at h ⊢
  cases hx:(lex src.data.toList).2 with
  | some q=>
   obtain⟨a,y⟩:=q;rw[hx]at h;simp only at h;rw[(Takes.pTS (src.size:Int) 64).1.ref]at h;simp only[if_true]at h;exact⟨h,fun e=>by rw[e]at h;cases h⟩
  | none=>
   rw[hx]at h;simp only[hz,fin_eq]at h ⊢;exact⟨h,fun _=>trivial⟩
 unfold AnsQ
 cases ho:(if ((pTS (src.size:Int) 64).1 (qs0 src.data.toList)).2.1=[]then((pTS (src.size:Int) 64).1 (qs0 src.data.toList)).2 else Jb (src.size:Int) ((pTS (src.size:Int) 64).1 (qs0 src.data.toList)).2).2 with
 | none=>
  obtain⟨e1,e2⟩:=e0 _ ho;rw[e1,e2 rfl];exact TypeQ_yes src _ _ _ _ hb ht he ho w
 | some r=>
  obtain⟨a0,y0⟩:=r;obtain⟨e1,-⟩:=e0 _ ho;rw[e1];exact TypeQ_no src _ _ _ ((pTS (src.size:Int) 64).1 (qs0 src.data.toList)).1 a0 y0 hb ht he ho w
end Go.Proofs.YtdamlfkieecnjaaGreatDoor
