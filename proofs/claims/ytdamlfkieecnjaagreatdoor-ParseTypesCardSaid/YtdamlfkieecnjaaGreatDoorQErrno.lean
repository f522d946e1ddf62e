import Derived.Test.YtdamlfkieecnjaaGreatDoorQIs
import Derived.Laws.BytesString
import Derived.Laws.IdiomStrings
set_option maxHeartbeats 1000000
set_option maxRecDepth 100000
namespace Go.Proofs.YtdamlfkieecnjaaGreatDoor
open Go Go.RowKit
theorem Errno_2 (w:World):Calls Tryz.prog 104 #[.int .i64 2] w fun e w'=>(∃s:ByteArray,s.size<=100/\e=.returned (.string s))/\Below w.heap.size w w':=by
 have cv:=run_convert_bytes_back (P:=Tryz.prog) (w.alloc (.cells #[.int .u8 50] 5)) 245 9 5 ⟨w.heap.size,0,none⟩ 1 [50] Tryz.underlying245 Tryz.underlying5 Tryz.underlying9 (by intro j hj;match j,hj with|0,_=>simp[Addr.add]);simp only[List.length_cons,List.length_nil]at cv;go_enter Tryz.func104,Tryz.ntmps104;go_wp2;refine wp_loop_rounds 2 ?_;rw[rounds_succ];go_wp2;rw[rounds_succ];go_wp2;go_ret;exact⟨⟨_,by decide,rfl⟩,(Below.refl _ _).alloc (Nat.le_refl _) _⟩
theorem Errno_3 (w:World):Calls Tryz.prog 104 #[.int .i64 3] w fun e w'=>(∃s:ByteArray,s.size<=100/\e=.returned (.string s))/\Below w.heap.size w w':=by
 have cv:=run_convert_bytes_back (P:=Tryz.prog) (w.alloc (.cells #[.int .u8 51] 5)) 245 9 5 ⟨w.heap.size,0,none⟩ 1 [51] Tryz.underlying245 Tryz.underlying5 Tryz.underlying9 (by intro j hj;match j,hj with|0,_=>simp[Addr.add]);simp only[List.length_cons,List.length_nil]at cv;go_enter Tryz.func104,Tryz.ntmps104;go_wp2;refine wp_loop_rounds 2 ?_;rw[rounds_succ];go_wp2;rw[rounds_succ];go_wp2;go_ret;exact⟨⟨_,by decide,rfl⟩,(Below.refl _ _).alloc (Nat.le_refl _) _⟩
theorem Errno_10 (w:World):Calls Tryz.prog 104 #[.int .i64 10] w fun e w'=>(∃s:ByteArray,s.size<=100/\e=.returned (.string s))/\Below w.heap.size w w':=by
 obtain⟨i0,hi,hz0,hz1,hz2⟩:=info_parts (show(Tryz.prog.info? 5).map (fun i=>(i.zero,i.size,i.bytes))=some (some (.int .u8 0),1,1) by kernel_rfl);have hown:((w.alloc (.cells #[.int .u8 48] 5)).alloc (.cells #[.int .u8 49] 5)).ownsRow w.heap.size 5 1 (.slice (some ⟨w.heap.size+1,0,none⟩) 1 1) 1 [.int .u8 49]:=
  ⟨rfl,.inr ⟨w.heap.size+1,1,#[.int .u8 49],rfl,by omega,JA _ _ _,Nat.le_refl _,by unfold maxLen;omega,rfl,rfl⟩⟩
 go_enter Tryz.func104,Tryz.ntmps104;go_wp2;refine wp_loop_rounds 3 ?_;rw[rounds_succ];go_wp2;rw[rounds_succ];go_wp2_with (at_builtin;refine wpList_append_own _ rfl _ _ 245 rfl w.heap.size 5 i0 (.int .u8 0) 1 1 Tryz.underlying245 hi hz0 hz1 hz2 rfl (by decide) _ _ _ rfl hown ⟨w.heap.size,0,none⟩ 1 1 [.int .u8 48] rfl rfl ?c1 ?c2 ?c3 ?c4 ?c5 ?_)
 case c1=>
  intro j u hj
  match j,hj with
  | 0,hj=>simp at hj;subst hj;simp[Addr.add]
 case c2=>intro u hu;simp at hu;subst hu;rfl
 case c3=>unfold maxLen;omega
 case c4=>omega
 case c5=>simp;omega
 intro v' w1 hown' hgrow _;obtain⟨g,cap,rfl⟩:=ownsRow_succ hown';have cv:=run_convert_bytes_back (P:=Tryz.prog) w1 245 9 5 ⟨g,0,none⟩ cap [49,48] Tryz.underlying245 Tryz.underlying5 Tryz.underlying9 (by
  intro j hj;have:=hown'.cells (g:=g) rfl j
  match j,hj with
  | 0,_=>exact this _ rfl
  | 1,_=>exact this _ rfl)
 simp only[List.length_cons,List.length_nil]at cv;go_wp2;rw[rounds_succ];go_wp2;go_ret;exact⟨⟨_,by decide,rfl⟩,(za7 w _ _).grown hgrow (by simp;omega) (fun k e=>by cases e;exact Nat.le_succ _)⟩
theorem Errno_11 (w:World):Calls Tryz.prog 104 #[.int .i64 11] w fun e w'=>(∃s:ByteArray,s.size<=100/\e=.returned (.string s))/\Below w.heap.size w w':=by
 obtain⟨i0,hi,hz0,hz1,hz2⟩:=info_parts (show(Tryz.prog.info? 5).map (fun i=>(i.zero,i.size,i.bytes))=some (some (.int .u8 0),1,1) by kernel_rfl);have hown:((w.alloc (.cells #[.int .u8 49] 5)).alloc (.cells #[.int .u8 49] 5)).ownsRow w.heap.size 5 1 (.slice (some ⟨w.heap.size+1,0,none⟩) 1 1) 1 [.int .u8 49]:=
  ⟨rfl,.inr ⟨w.heap.size+1,1,#[.int .u8 49],rfl,by omega,JA _ _ _,Nat.le_refl _,by unfold maxLen;omega,rfl,rfl⟩⟩
 go_enter Tryz.func104,Tryz.ntmps104;go_wp2;refine wp_loop_rounds 3 ?_;rw[rounds_succ];go_wp2;rw[rounds_succ];go_wp2_with (at_builtin;refine wpList_append_own _ rfl _ _ 245 rfl w.heap.size 5 i0 (.int .u8 0) 1 1 Tryz.underlying245 hi hz0 hz1 hz2 rfl (by decide) _ _ _ rfl hown ⟨w.heap.size,0,none⟩ 1 1 [.int .u8 49] rfl rfl ?c1 ?c2 ?c3 ?c4 ?c5 ?_)
 case c1=>
  intro j u hj
  match j,hj with
  | 0,hj=>simp at hj;subst hj;simp[Addr.add]
 case c2=>intro u hu;simp at hu;subst hu;rfl
 case c3=>unfold maxLen;omega
 case c4=>omega
 case c5=>simp;omega
 intro v' w1 hown' hgrow _;obtain⟨g,cap,rfl⟩:=ownsRow_succ hown';have cv:=run_convert_bytes_back (P:=Tryz.prog) w1 245 9 5 ⟨g,0,none⟩ cap [49,49] Tryz.underlying245 Tryz.underlying5 Tryz.underlying9 (by
  intro j hj;have:=hown'.cells (g:=g) rfl j
  match j,hj with
  | 0,_=>exact this _ rfl
  | 1,_=>exact this _ rfl)
 simp only[List.length_cons,List.length_nil]at cv;go_wp2;rw[rounds_succ];go_wp2;go_ret;exact⟨⟨_,by decide,rfl⟩,(za7 w _ _).grown hgrow (by simp;omega) (fun k e=>by cases e;exact Nat.le_succ _)⟩
theorem Errno_12 (w:World):Calls Tryz.prog 104 #[.int .i64 12] w fun e w'=>(∃s:ByteArray,s.size<=100/\e=.returned (.string s))/\Below w.heap.size w w':=by
 obtain⟨i0,hi,hz0,hz1,hz2⟩:=info_parts (show(Tryz.prog.info? 5).map (fun i=>(i.zero,i.size,i.bytes))=some (some (.int .u8 0),1,1) by kernel_rfl);have hown:((w.alloc (.cells #[.int .u8 50] 5)).alloc (.cells #[.int .u8 49] 5)).ownsRow w.heap.size 5 1 (.slice (some ⟨w.heap.size+1,0,none⟩) 1 1) 1 [.int .u8 49]:=
  ⟨rfl,.inr ⟨w.heap.size+1,1,#[.int .u8 49],rfl,by omega,JA _ _ _,Nat.le_refl _,by unfold maxLen;omega,rfl,rfl⟩⟩
 go_enter Tryz.func104,Tryz.ntmps104;go_wp2;refine wp_loop_rounds 3 ?_;rw[rounds_succ];go_wp2;rw[rounds_succ];go_wp2_with (at_builtin;refine wpList_append_own _ rfl _ _ 245 rfl w.heap.size 5 i0 (.int .u8 0) 1 1 Tryz.underlying245 hi hz0 hz1 hz2 rfl (by decide) _ _ _ rfl hown ⟨w.heap.size,0,none⟩ 1 1 [.int .u8 50] rfl rfl ?c1 ?c2 ?c3 ?c4 ?c5 ?_)
 case c1=>
  intro j u hj
  match j,hj with
  | 0,hj=>simp at hj;subst hj;simp[Addr.add]
 case c2=>intro u hu;simp at hu;subst hu;rfl
 case c3=>unfold maxLen;omega
 case c4=>omega
 case c5=>simp;omega
 intro v' w1 hown' hgrow _;obtain⟨g,cap,rfl⟩:=ownsRow_succ hown';have cv:=run_convert_bytes_back (P:=Tryz.prog) w1 245 9 5 ⟨g,0,none⟩ cap [49,50] Tryz.underlying245 Tryz.underlying5 Tryz.underlying9 (by
  intro j hj;have:=hown'.cells (g:=g) rfl j
  match j,hj with
  | 0,_=>exact this _ rfl
  | 1,_=>exact this _ rfl)
 simp only[List.length_cons,List.length_nil]at cv;go_wp2;rw[rounds_succ];go_wp2;go_ret;exact⟨⟨_,by decide,rfl⟩,(za7 w _ _).grown hgrow (by simp;omega) (fun k e=>by cases e;exact Nat.le_succ _)⟩
def zdz (y:Nat):Prop:=y=2∨y=3∨y=10∨y=11∨y=12
theorem Errno_any (y:Nat) (hy:zdz y) (w:World):Calls Tryz.prog 104 #[.int .i64 (y:Int)] w fun e w'=>(∃s:ByteArray,s.size<=100/\e=.returned (.string s))/\Below w.heap.size w w':=by
 rcases hy with rfl|rfl|rfl|rfl|rfl
 ·exact Errno_2 w
 ·exact Errno_3 w
 ·exact Errno_10 w
 ·exact Errno_11 w
 ·exact Errno_12 w
end Go.Proofs.YtdamlfkieecnjaaGreatDoor
