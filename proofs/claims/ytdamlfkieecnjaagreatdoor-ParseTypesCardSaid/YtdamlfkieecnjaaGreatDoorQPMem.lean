import Derived.Test.YtdamlfkieecnjaaGreatDoorQPSpec
import Derived.Shelf.Strings.Builder1
import Derived.RangeFuncNested
import Derived.RangeFuncLeaves
import Derived.RangeFuncCalls
import Derived.RangeFuncBound
import Derived.Shelf.Abstract
import Derived.OwnWalkIn
import Derived.TacticsInMore
import Derived.LoopNIn
import Derived.LoopIn
import Derived.Maps.AppendAt
import Derived.Deep.QuietTactic
import Derived.BigQuiet
import Derived.Laws.StructEq
import Derived.RegionTactic
set_option maxHeartbeats 2000000
set_option maxRecDepth 100000
namespace Go.Proofs.YtdamlfkieecnjaaGreatDoor
open Go Go.RowKit Go.Shelf Go.Proofs
def ren:Ren where
 f:=fun
  | 240=>228
  | 276=>255
  | 167=>186
  | 166=>229
  | n=>n
 t:=fun
  | 0=>0
  | 3=>3
  | 4=>4
  | 5=>5
  | 9=>9
  | 20=>20
  | 37=>245
  | 70=>259
  | 72=>261
  | 75=>29
  | 80=>115
  | 164=>183
  | n=>n
 g:=fun n=>n
theorem lays167:Lays.n167 Tryz.prog ren where
 mixed:=by kernel_rfl
 f167:=by kernel_rfl
 f240:=by kernel_rfl
 f276:=by kernel_rfl
 t0:=Tryz.underlying0
 a0:=Tryz.isAgg0
 z0:=Tryz.sizeOf0
 v0:=Tryz.zeroValue0
 t4:=Tryz.underlying4
 a4:=Tryz.isAgg4
 z4:=Tryz.sizeOf4
 v4:=Tryz.zeroValue4
 t5:=Tryz.underlying5
 a5:=Tryz.isAgg5
 z5:=Tryz.sizeOf5
 v5:=Tryz.zeroValue5
 t9:=Tryz.underlying9
 a9:=Tryz.isAgg9
 z9:=Tryz.sizeOf9
 v9:=Tryz.zeroValue9
 t20:=Tryz.underlying20
 a20:=Tryz.isAgg20
 z20:=Tryz.sizeOf20
 v20:=Tryz.zeroValue20
 t37:=Tryz.underlying245
 a37:=Tryz.isAgg245
 z37:=Tryz.sizeOf245
 v37:=Tryz.zeroValue245
 t70:=Tryz.underlying259
 a70:=Tryz.isAgg259
 z70:=Tryz.sizeOf259
 v70:=Tryz.zeroValue259
 t72:=Tryz.underlying261
 a72:=Tryz.isAgg261
 z72:=Tryz.sizeOf261
 v72:=Tryz.zeroValue261
 t75:=Tryz.underlying29
 a75:=Tryz.isAgg29
 z75:=Tryz.sizeOf29
 v75:=Tryz.zeroValue29
 t164:=Tryz.underlying183
 a164:=Tryz.isAgg183
 z164:=Tryz.sizeOf183
 v164:=Tryz.zeroValue183
theorem extra:Builder.Extra Tryz.prog ren where
 sizeBuilder:=by kernel_rfl
 liesBuilder:=by kernel_rfl
 t5:=Tryz.underlying5
 a5:=Tryz.isAgg5
 z5:=Tryz.sizeOf5
 v5:=Tryz.zeroValue5
 infoByte:=by kernel_rfl
 cellsByte:=by kernel_rfl
 sizeByte:=by kernel_rfl
 neB5:=by decide
abbrev IsB (B b:Nat) (bs:List Value) (w:World):Prop:=Lib.IsBuilder 261 5 B b bs w
theorem zdf (B b:Nat) (bs:List Value) (c:Int) (w:World) (h:IsB B b bs w) (hlen:bs.length+1<=140737488355328) (hBw:B<=w.heap.size) :
  Calls Tryz.prog 186 #[.pointer (some ⟨b,0,none⟩),.int .u8 c] w fun e w'=>e=.returned .nilIface/\IsB B b (bs++[.int .u8 c]) w'/\Below B w w':=
 (Any.Builder_WriteByte lays167 extra B b bs c w h hlen hBw).mono fun _ _ h=>⟨h.1,.inr h.2.1,h.2.2⟩
open Go.RowKit Lx
theorem zey (i:Nat) (acc:Bs):textF [] i acc=.inl i:=rfl
theorem zcq (r:Bs) (i:Nat) (acc:Bs):textF (34::r) i acc=.inr (acc,i+1):=by cases r <;> simp[textF]
theorem zef (i:Nat) (acc:Bs):textF [92] i acc=.inl (i+1):=by simp[textF]
theorem ze7 (d:UInt8) (r:Bs) (i:Nat) (acc:Bs) (h:zbu (d.toNat:Int)=true):textF (92::d::r) i acc=textF r (i+2) (acc++[(escB (d.toNat:Int)).toNat.toUInt8]):=by simp[textF,h]
theorem zcw (d:UInt8) (r:Bs) (i:Nat) (acc:Bs) (h:zbu (d.toNat:Int)=false):textF (92::d::r) i acc=.inl (i+1):=by simp[textF,h]
theorem zcm (c:UInt8) (r:Bs) (i:Nat) (acc:Bs) (h1:c≠34) (h2:c≠92) (h:zae (c.toNat:Int)=true):textF (c::r) i acc=textF r (i+1) (acc++[c]):=by cases r <;> simp[textF,h1,h2,h]
theorem zbn (c:UInt8) (r:Bs) (i:Nat) (acc:Bs) (h1:c≠34) (h2:c≠92) (h:zae (c.toNat:Int)=false):textF (c::r) i acc=.inl i:=by cases r <;> simp[textF,h1,h2,h]
theorem zb6 {c:UInt8} {n:Nat} (hn:n<256) (h:(c.toNat:Int)=n):c=n.toUInt8:=by
 apply UInt8.toNat_inj.1;simp;omega
theorem escB_byte (d:Int):(((escB d).toNat.toUInt8).toNat:Int)=escB d:=by
 unfold escB;repeat' split
 all_goals rfl
theorem zav (acc:Bs) (c:UInt8):Lib.byteCells (acc++[c])=Lib.byteCells acc++[.int .u8 (c.toNat:Int)]:=by simp[Lib.byteCells]
theorem cells_esc (acc:Bs) (d:Int):Lib.byteCells (acc++[(escB d).toNat.toUInt8])=Lib.byteCells acc++[.int .u8 (escB d)]:=by rw[zav,escB_byte]
theorem zcc {l:Bs} {o:Nat} (h:textF l.tail 1 []=.inl o):Jn l=.inl (o,12):=by rw[Jn,h]
theorem cutText_yes {l:Bs} {s:Bs} {n:Nat} (h:textF l.tail 1 []=.inr (s,n)):Jn l=.inr (5,s,0,n):=by rw[Jn,h]
theorem zem (b:Int) (w:World):Calls Tryz.prog 254 #[.int .u8 b] w fun e w'=>e=.returned (.bool (zae b))/\w=w':=(plain_any b w).mono fun _ _ h=>⟨h.1,h.2.symm⟩
theorem escaped_w (b:Int) (w:World):Calls Tryz.prog 278 #[.int .u8 b] w fun e w'=>e=.returned (.tuple #[.int .u8 (escB b),.bool (zbu b)])/\w=w':=(escaped_any b w).mono fun _ _ h=>⟨h.1,h.2.symm⟩
theorem size4 (wr:World) (b:Nat) (v0 v1 v2 v3:Value):((((wr.setCell ⟨b,0,none⟩ v0).setCell ⟨b,1,none⟩ v1).setCell ⟨b,2,none⟩ v2).setCell ⟨b,3,none⟩ v3).heap.size=wr.heap.size:=by simp
theorem zc8 (wr:World) (b:Nat) (v0 v1 v2 v3:Value) (o:Obj):(((((wr.setCell ⟨b,0,none⟩ v0).setCell ⟨b,1,none⟩ v1).setCell ⟨b,2,none⟩ v2).setCell ⟨b,3,none⟩ v3).alloc o).heap[wr.heap.size]?=some o:=by
 have:=J6 ((((wr.setCell ⟨b,0,none⟩ v0).setCell ⟨b,1,none⟩ v1).setCell ⟨b,2,none⟩ v2).setCell ⟨b,3,none⟩ v3) o;rwa[size4]at this
theorem cutText_any (s:ByteArray) (a:Nat) (w:World) (h1:a<s.size) (hs:s.size<=140737488355328) :
  Calls Tryz.prog 263 #[.string s,.int .i64 a] w fun e w'=>Jw w a (Jn (s.data.toList.drop a)) e w':=by
 go_enter Tryz.func263,Tryz.ntmps263;go_wp2
 go_loopw [8] (fun i wr=>∃(k:Nat) (acc:Bs),a+1<=k/\k<=s.size/\i=.int .i64 k/\acc.length<=k/\Hid (textF (s.data.toList.drop (a+1)) 1 []=textF (s.data.toList.drop k) (k-a) acc) /\
   IsB (w.heap.size+1) (w.heap.size+1) (Lib.byteCells acc) wr/\Below (w.heap.size+1) ((w.alloc (.cells #[.int .i64 0,.int .i64 0,.string ⟨#[]⟩,.int .i64 0] 174)).alloc (.cells #[.pointer none,.slice none 0 0] 261)) wr) (fun i _=>s.size-(intOf i).toNat)
 case atStart=>
  refine⟨a+1,[],by omega,by omega,by go_num,by simp,by show _=_;congr 1;omega,?_,Below.refl _ _⟩;have:=Lib.fresh_isBuilder 261 5 (w.alloc (.cells #[.int .i64 0,.int .i64 0,.string ⟨#[]⟩,.int .i64 0] 174));simpa[Lib.byteCells]using this
 case round=>
  obtain⟨k,acc,hk1,hk2,rfl,hal,HK,HB,hb⟩:=hrel;have hsz:=hb.size;simp only[World.size_alloc]at hsz;have hlt2:w.heap.size<wr.heap.size:=by omega
  have hcx:∀o,wr.cell? ⟨w.heap.size,o,none⟩=(w.alloc (.cells #[.int .i64 0,.int .i64 0,.string ⟨#[]⟩,.int .i64 0] 174)).cell? ⟨w.heap.size,o,none⟩:=fun o=>
   (hb.cell (p:=⟨w.heap.size,o,none⟩) (Nat.lt_succ_self _)).trans (World.cell?_alloc_lt _ _ _ (by simp))
  have hc0:wr.cell? ⟨w.heap.size,0,none⟩=some (.int .i64 0):=(hcx 0).trans (by simp);have hc1:wr.cell? ⟨w.heap.size,1,none⟩=some (.int .i64 0):=(hcx 1).trans (by simp);have hc2:wr.cell? ⟨w.heap.size,2,none⟩=some (.string ⟨#[]⟩):=(hcx 2).trans (by simp);have hc3:wr.cell? ⟨w.heap.size,3,none⟩=some (.int .i64 0):=(hcx 3).trans (by simp);have hf:∀o,wr.frozen? ⟨w.heap.size,o,none⟩=false:=fun o=>
   (hb.frozen (p:=⟨w.heap.size,o,none⟩) (Nat.lt_succ_self _)).trans (by simp)
  clear hcx;have hbw:Below w.heap.size w wr:=(za7 w _ _).trans (hb.mono (by omega));by_cases hlt:k<s.size
  ·have hd:=drop_cons s k hlt;by_cases h34:(s[k].toNat:Int)=34
   ·have HC:Hid (Jn (s.data.toList.drop a)=.inr (5,acc,0,k-a+1)):=by
     have e:=J0 HK;rw[hd,zb6 (by decide) h34]at e;exact cutText_yes (by rw[tail_drop];exact e.trans (zcq _ _ _))
    have hq:((s[k].toNat:Int) != 34)=false:=by simp[h34]
    have heq:((k:Int)==(s.size:Int))=false:=by simp;omega
    clear h34 hd HK;have BS:Hid (∀hx,_):=fun hx=>Tryz.Builder_String_any (w.heap.size+1) (w.heap.size+1) acc wr HB hx
    go_wp2_with (first|(go_at_call 189;go_fit (J0 BS (by omega));rintro e w1 ⟨rfl,hb1⟩;have hlt3:w.heap.size<w1.heap.size:=Nat.lt_of_lt_of_le hlt2 hb1.size;have hd0:=(hb1.cell (p:=⟨w.heap.size,0,none⟩) (Nat.lt_succ_self _)).trans hc0;have hd1:=(hb1.cell (p:=⟨w.heap.size,1,none⟩) (Nat.lt_succ_self _)).trans hc1;have hd2:=(hb1.cell (p:=⟨w.heap.size,2,none⟩) (Nat.lt_succ_self _)).trans hc2;have hd3:=(hb1.cell (p:=⟨w.heap.size,3,none⟩) (Nat.lt_succ_self _)).trans hc3;have hf1:∀o,w1.frozen? ⟨w.heap.size,o,none⟩=false:=fun o=>(hb1.frozen (p:=⟨w.heap.size,o,none⟩) (Nat.lt_succ_self _)).trans (hf o)));exact bodyPost_ret (v:=.tuple #[.agg #[.int .i64 a,.int .i64 5,.string ⟨acc.toArray⟩,.int .i64 0],.int .i64 (k+1),.pointer none]) (by simp[results,Tryz.results263,go_sem,hd0,hd1,hd2,hd3]) rfl (za3 (J0 HC) (JZ (hbw.trans (hb1.mono (by omega))) (Nat.le_refl _) _ _ _ _) rfl (by omega))
   ·have hq:((s[k].toNat:Int) != 34)=true:=by simpa using h34
    have hn34:s[k]≠34:=fun h=>h34 (by rw[h];rfl)
    by_cases h92:(s[k].toNat:Int)=92
    ·have hx:((s[k].toNat:Int)==92)=true:=by simp[h92]
     have hs92:s[k]=92:=zb6 (n:=92) (by decide) h92;by_cases hlt1:k+1<s.size
     ·have hne:((k:Int)+1==(s.size:Int))=false:=by simp;omega
      have hd1:=drop_cons s (k+1) hlt1;by_cases hes:zbu (s[k+1].toNat:Int)=true
      ·have HT:Hid (textF (s.data.toList.drop (a+1)) 1 []=textF (s.data.toList.drop (k+1+1)) (k-a+2) (acc++[(escB (s[k+1].toNat:Int)).toNat.toUInt8])):=by
        have e:=J0 HK;rw[hd,hs92,hd1]at e;exact e.trans (ze7 _ _ _ _ hes)
       clear h34 h92 hd hd1 hs92 hn34 HK;go_wp2_with (first|(go_at_call 254;refine(zem _ _).mono ?_;rintro e w' ⟨rfl,rfl⟩)|(go_at_call 278;refine(escaped_w _ _).mono ?_;rintro e w' ⟨rfl,rfl⟩)|(go_at_call 186;refine(zdf _ _ _ _ _ HB (by rw[Lib.byteCells_length];omega) (by omega)).mono ?_;rintro e w1 ⟨rfl,HB1,hb1⟩));go_roundw
       case rel=>exact⟨k+1+1,acc++[(escB (s[k+1].toNat:Int)).toNat.toUInt8],by omega,by omega,by go_num,by simp;omega,by have e:=J0 HT;rw[show k-a+2=k+1+1-a from by omega]at e;exact e,by rw[cells_esc];exact HB1,hb.trans hb1⟩
       case measure=>simp[intOf];omega
      ·have hes:zbu (s[k+1].toNat:Int)=false:=(Bool.not_eq_true _).mp hes;have HC:Hid (Jn (s.data.toList.drop a)=.inl (k-a+1,12)):=by
        have e:=J0 HK;rw[hd,hs92,hd1]at e;exact zcc (by rw[tail_drop];exact e.trans (zcw _ _ _ _ hes))
       clear h34 h92 hd hd1 hs92 hn34 HK;go_wp2_with (first|(go_at_call 254;refine(zem _ _).mono ?_;rintro e w' ⟨rfl,rfl⟩)|(go_at_call 278;refine(escaped_w _ _).mono ?_;rintro e w' ⟨rfl,rfl⟩)|(go_at_call 206;refine(JL _ _ _).mono ?_;rintro e w' ⟨rfl,rfl⟩));exact bodyPost_ret (v:=.tuple #[.agg #[.int .i64 0,.int .i64 0,.string ⟨#[]⟩,.int .i64 0],.int .i64 0,.pointer (some ⟨wr.heap.size,0,none⟩)]) (by simp[results,Tryz.results263,go_sem,hc0,hc1,hc2,hc3,hlt2]) rfl (za5 (J0 HC) ((JZ hbw (Nat.le_refl _) _ _ _ _).alloc (by rw[size4];omega) _) (by omega) ((zc8 _ _ _ _ _ _ _).trans (by rw[show a+(k-a+1)=k+1 from by omega];rfl)))
     ·have hne:((k:Int)+1==(s.size:Int))=true:=by simp;omega
      have HC:Hid (Jn (s.data.toList.drop a)=.inl (k-a+1,12)):=by
       have e:=J0 HK;rw[hd,hs92,List.drop_of_length_le (i:=k+1) (by simp;omega)]at e;exact zcc (by rw[tail_drop];exact e.trans (zef _ _))
      clear h34 h92 hd hs92 hn34 HK;go_wp2_with (first|(go_at_call 254;refine(zem _ _).mono ?_;rintro e w' ⟨rfl,rfl⟩)|(go_at_call 206;refine(JL _ _ _).mono ?_;rintro e w' ⟨rfl,rfl⟩));exact bodyPost_ret (v:=.tuple #[.agg #[.int .i64 0,.int .i64 0,.string ⟨#[]⟩,.int .i64 0],.int .i64 0,.pointer (some ⟨wr.heap.size,0,none⟩)]) (by simp[results,Tryz.results263,go_sem,hc0,hc1,hc2,hc3,hlt2]) rfl (za5 (J0 HC) ((JZ hbw (Nat.le_refl _) _ _ _ _).alloc (by rw[size4];omega) _) (by omega) ((zc8 _ _ _ _ _ _ _).trans (by rw[show a+(k-a+1)=k+1 from by omega];rfl)))
    ·have hx:((s[k].toNat:Int)==92)=false:=by simpa using h92
     have hn92:s[k]≠92:=fun h=>h92 (by rw[h];rfl)
     by_cases hp:zae (s[k].toNat:Int)=true
     ·have HT:Hid (textF (s.data.toList.drop (a+1)) 1 []=textF (s.data.toList.drop (k+1)) (k-a+1) (acc++[s[k]])):=by
       have e:=J0 HK;rw[hd]at e;exact e.trans (zcm _ _ _ _ hn34 hn92 hp)
      clear h34 h92 hd hn34 hn92 HK;go_wp2_with (first|(go_at_call 254;refine(zem _ _).mono ?_;rintro e w' ⟨rfl,rfl⟩)|(go_at_call 186;refine(zdf _ _ _ _ _ HB (by rw[Lib.byteCells_length];omega) (by omega)).mono ?_;rintro e w1 ⟨rfl,HB1,hb1⟩));go_roundw
      case rel=>exact⟨k+1,acc++[s[k]],by omega,by omega,by go_num,by simp;omega,by have e:=J0 HT;rw[show k-a+1=k+1-a from by omega]at e;exact e,by rw[zav];exact HB1,hb.trans hb1⟩
      case measure=>simp[intOf];omega
     ·have hp:zae (s[k].toNat:Int)=false:=(Bool.not_eq_true _).mp hp;have HC:Hid (Jn (s.data.toList.drop a)=.inl (k-a,12)):=by
       have e:=J0 HK;rw[hd]at e;exact zcc (by rw[tail_drop];exact e.trans (zbn _ _ _ _ hn34 hn92 hp))
      clear h34 h92 hd hn34 hn92 HK;go_wp2_with (first|(go_at_call 254;refine(zem _ _).mono ?_;rintro e w' ⟨rfl,rfl⟩)|(go_at_call 206;refine(JL _ _ _).mono ?_;rintro e w' ⟨rfl,rfl⟩));exact bodyPost_ret (v:=.tuple #[.agg #[.int .i64 0,.int .i64 0,.string ⟨#[]⟩,.int .i64 0],.int .i64 0,.pointer (some ⟨wr.heap.size,0,none⟩)]) (by simp[results,Tryz.results263,go_sem,hc0,hc1,hc2,hc3,hlt2]) rfl (za5 (J0 HC) ((JZ hbw (Nat.le_refl _) _ _ _ _).alloc (by rw[size4];omega) _) (by omega) ((zc8 _ _ _ _ _ _ _).trans (by rw[show a+(k-a)=k from by omega];rfl)))
  ·have HC:Hid (Jn (s.data.toList.drop a)=.inl (k-a,12)):=by
    have e:=J0 HK;rw[List.drop_of_length_le (i:=k) (by simp;omega),zey]at e;exact zcc (by rw[tail_drop];exact e)
   have heq:((k:Int)==(s.size:Int))=true:=by simp;omega
   clear HK;go_wp2_with (first|(go_at_call 206;refine(JL _ _ _).mono ?_;rintro e w' ⟨rfl,rfl⟩));exact bodyPost_ret (v:=.tuple #[.agg #[.int .i64 0,.int .i64 0,.string ⟨#[]⟩,.int .i64 0],.int .i64 0,.pointer (some ⟨wr.heap.size,0,none⟩)]) (by simp[results,Tryz.results263,go_sem,hc0,hc1,hc2,hc3,hlt2]) rfl (za5 (J0 HC) ((JZ hbw (Nat.le_refl _) _ _ _ _).alloc (by rw[size4];omega) _) (by omega) ((zc8 _ _ _ _ _ _ _).trans (by rw[show a+(k-a)=k from by omega];rfl)))
theorem heap4 (wr:World) (b:Nat) (v0 v1 v2 v3:Value) (g:Nat) (h:g≠b):((((wr.setCell ⟨b,0,none⟩ v0).setCell ⟨b,1,none⟩ v1).setCell ⟨b,2,none⟩ v2).setCell ⟨b,3,none⟩ v3).heap[g]?=wr.heap[g]?:=by
 rw[Below.heap_setCell _ _ _ _ h,Below.heap_setCell _ _ _ _ h,Below.heap_setCell _ _ _ _ h,Below.heap_setCell _ _ _ _ h]
theorem byte_bd (c:UInt8):0<=(c.toNat:Int)/\(c.toNat:Int)<256:=⟨by omega,by have:=c.toNat_lt;omega⟩
theorem cut_any (s:ByteArray) (a:Nat) (w:World) (h1:a<s.size) (hs:s.size<=140737488355328) :
  Calls Tryz.prog 243 #[.string s,.int .i64 a] w fun e w'=>Jw w a (cut (s.data.toList.drop a)) e w':=by
 have hh:=hd_at s a h1;obtain⟨hx0,hx1⟩:=byte_bd s[a];by_cases hdg:Jd (s[a].toNat:Int)=true
 ·have hC:cut (s.data.toList.drop a)=Jh (s.data.toList.drop a):=by rw[cut,hh,if_pos hdg]
  have HX:Hid (∀W,Calls Tryz.prog 262 #[.string s,.int .i64 a] W fun e w'=>Jw W a (Jh (s.data.toList.drop a)) e w'):=fun W=>cutNumber_any s a W h1 (by omega) hdg
  rcases hcut:Jh (s.data.toList.drop a)with⟨o,y⟩|⟨k,S,v,n⟩
  ·have HC:=J4 (hC.trans hcut);have HY:Hid (∀W,Calls Tryz.prog 262 #[.string s,.int .i64 a] W fun e w'=>Jw W a (.inl (o,y)) e w'):=by rw[<-hcut];exact HX
   clear HX hcut hC hh hx0 hx1;go_enter Tryz.func243,Tryz.ntmps243;go_wp2_with (first|(go_at_call 260;refine(Jo _ _).mono ?_;rintro e w' ⟨rfl,rfl⟩)|(go_at_call 262;go_fit (J0 HY _);rintro e w1 ⟨hb,b,rfl,hge,hblk⟩;obtain⟨hc',hf'⟩:=JS hb));exact bodyPost_ret (v:=.tuple #[.agg #[.int .i64 0,.int .i64 0,.string ⟨#[]⟩,.int .i64 0],.int .i64 0,.pointer (some ⟨b,0,none⟩)]) (by simp[results,Tryz.results243,go_sem,hc']) rfl (za5 (J0 HC) (JZ (((Below.refl _ _).alloc (Nat.le_refl _) _).trans (hb.mono (by simp))) (Nat.le_refl _) _ _ _ _) (by simp at hge;omega) (by rw[heap4 _ _ _ _ _ _ _ (by simp at hge;omega)];exact hblk))
  ·have HC:=J4 (hC.trans hcut);have HY:Hid (∀W,Calls Tryz.prog 262 #[.string s,.int .i64 a] W fun e w'=>Jw W a (.inr (k,S,v,n)) e w'):=by rw[<-hcut];exact HX
   clear HX hcut hC hh hx0 hx1;go_enter Tryz.func243,Tryz.ntmps243;go_wp2_with (first|(go_at_call 260;refine(Jo _ _).mono ?_;rintro e w' ⟨rfl,rfl⟩)|(go_at_call 262;go_fit (J0 HY _);rintro e w1 ⟨hb,rfl⟩;obtain⟨hc',hf'⟩:=JS hb));exact bodyPost_ret (v:=.tuple #[.agg #[.int .i64 a,.int .i64 k,.string ⟨S.toArray⟩,.int .i64 v],.int .i64 ((a+n:Nat):Int),.pointer none]) (by simp[results,Tryz.results243,go_sem,hc']) rfl (za3 (J0 HC) (JZ (((Below.refl _ _).alloc (Nat.le_refl _) _).trans (hb.mono (by simp))) (Nat.le_refl _) _ _ _ _) rfl rfl)
 ·have hdg:Jd (s[a].toNat:Int)=false:=(Bool.not_eq_true _).mp hdg;by_cases h34:(s[a].toNat:Int)=34
  ·have hC:cut (s.data.toList.drop a)=Jn (s.data.toList.drop a):=by rw[cut,hh,hdg,if_neg (by decide),if_pos h34]
   have hq:((s[a].toNat:Int)==34)=true:=by simp[h34]
   have HX:Hid (∀W,Calls Tryz.prog 263 #[.string s,.int .i64 a] W fun e w'=>Jw W a (Jn (s.data.toList.drop a)) e w'):=fun W=>cutText_any s a W h1 hs
   rcases hcut:Jn (s.data.toList.drop a)with⟨o,y⟩|⟨k,S,v,n⟩
   ·have HC:=J4 (hC.trans hcut);have HY:Hid (∀W,Calls Tryz.prog 263 #[.string s,.int .i64 a] W fun e w'=>Jw W a (.inl (o,y)) e w'):=by rw[<-hcut];exact HX
    clear HX hcut hC hh hx0 hx1 h34;go_enter Tryz.func243,Tryz.ntmps243;go_wp2_with (first|(go_at_call 260;refine(Jo _ _).mono ?_;rintro e w' ⟨rfl,rfl⟩)|(go_at_call 263;go_fit (J0 HY _);rintro e w1 ⟨hb,b,rfl,hge,hblk⟩;obtain⟨hc',hf'⟩:=JS hb));exact bodyPost_ret (v:=.tuple #[.agg #[.int .i64 0,.int .i64 0,.string ⟨#[]⟩,.int .i64 0],.int .i64 0,.pointer (some ⟨b,0,none⟩)]) (by simp[results,Tryz.results243,go_sem,hc']) rfl (za5 (J0 HC) (JZ (((Below.refl _ _).alloc (Nat.le_refl _) _).trans (hb.mono (by simp))) (Nat.le_refl _) _ _ _ _) (by simp at hge;omega) (by rw[heap4 _ _ _ _ _ _ _ (by simp at hge;omega)];exact hblk))
   ·have HC:=J4 (hC.trans hcut);have HY:Hid (∀W,Calls Tryz.prog 263 #[.string s,.int .i64 a] W fun e w'=>Jw W a (.inr (k,S,v,n)) e w'):=by rw[<-hcut];exact HX
    clear HX hcut hC hh hx0 hx1 h34;go_enter Tryz.func243,Tryz.ntmps243;go_wp2_with (first|(go_at_call 260;refine(Jo _ _).mono ?_;rintro e w' ⟨rfl,rfl⟩)|(go_at_call 263;go_fit (J0 HY _);rintro e w1 ⟨hb,rfl⟩;obtain⟨hc',hf'⟩:=JS hb));exact bodyPost_ret (v:=.tuple #[.agg #[.int .i64 a,.int .i64 k,.string ⟨S.toArray⟩,.int .i64 v],.int .i64 ((a+n:Nat):Int),.pointer none]) (by simp[results,Tryz.results243,go_sem,hc']) rfl (za3 (J0 HC) (JZ (((Below.refl _ _).alloc (Nat.le_refl _) _).trans (hb.mono (by simp))) (Nat.le_refl _) _ _ _ _) rfl rfl)
  ·have hq:((s[a].toNat:Int)==34)=false:=by simpa using h34
   by_cases hsg:zba (s[a].toNat:Int)=true
   ·have hC:cut (s.data.toList.drop a)=JC (s.data.toList.drop a):=by rw[cut,hh,hdg,if_neg (by decide),if_neg h34,if_pos hsg]
    have HX:Hid (∀W,Calls Tryz.prog 264 #[.string s,.int .i64 a] W fun e w'=>Jw W a (JC (s.data.toList.drop a)) e w'):=fun W=>cutSign_any s a W h1 (by omega)
    rcases hcut:JC (s.data.toList.drop a)with⟨o,y⟩|⟨k,S,v,n⟩
    ·have HC:=J4 (hC.trans hcut);have HY:Hid (∀W,Calls Tryz.prog 264 #[.string s,.int .i64 a] W fun e w'=>Jw W a (.inl (o,y)) e w'):=by rw[<-hcut];exact HX
     clear HX hcut hC hh h34;go_enter Tryz.func243,Tryz.ntmps243;go_wp2_with (first|(go_at_call 260;refine(Jo _ _).mono ?_;rintro e w' ⟨rfl,rfl⟩)|(go_at_call 261;refine(zbc _ _ hx0 hx1).mono ?_;rintro e w' ⟨rfl,rfl⟩)|(go_at_call 264;go_fit (J0 HY _);rintro e w1 ⟨hb,b,rfl,hge,hblk⟩;obtain⟨hc',hf'⟩:=JS hb));exact bodyPost_ret (v:=.tuple #[.agg #[.int .i64 0,.int .i64 0,.string ⟨#[]⟩,.int .i64 0],.int .i64 0,.pointer (some ⟨b,0,none⟩)]) (by simp[results,Tryz.results243,go_sem,hc']) rfl (za5 (J0 HC) (JZ (((Below.refl _ _).alloc (Nat.le_refl _) _).trans (hb.mono (by simp))) (Nat.le_refl _) _ _ _ _) (by simp at hge;omega) (by rw[heap4 _ _ _ _ _ _ _ (by simp at hge;omega)];exact hblk))
    ·have HC:=J4 (hC.trans hcut);have HY:Hid (∀W,Calls Tryz.prog 264 #[.string s,.int .i64 a] W fun e w'=>Jw W a (.inr (k,S,v,n)) e w'):=by rw[<-hcut];exact HX
     clear HX hcut hC hh h34;go_enter Tryz.func243,Tryz.ntmps243;go_wp2_with (first|(go_at_call 260;refine(Jo _ _).mono ?_;rintro e w' ⟨rfl,rfl⟩)|(go_at_call 261;refine(zbc _ _ hx0 hx1).mono ?_;rintro e w' ⟨rfl,rfl⟩)|(go_at_call 264;go_fit (J0 HY _);rintro e w1 ⟨hb,rfl⟩;obtain⟨hc',hf'⟩:=JS hb));exact bodyPost_ret (v:=.tuple #[.agg #[.int .i64 a,.int .i64 k,.string ⟨S.toArray⟩,.int .i64 v],.int .i64 ((a+n:Nat):Int),.pointer none]) (by simp[results,Tryz.results243,go_sem,hc']) rfl (za3 (J0 HC) (JZ (((Below.refl _ _).alloc (Nat.le_refl _) _).trans (hb.mono (by simp))) (Nat.le_refl _) _ _ _ _) rfl rfl)
   ·have hsg:zba (s[a].toNat:Int)=false:=(Bool.not_eq_true _).mp hsg;have hC:cut (s.data.toList.drop a)=Jv (s.data.toList.drop a):=by rw[cut,hh,hdg,if_neg (by decide),if_neg h34,hsg];rfl
    have HX:Hid (∀W,Calls Tryz.prog 265 #[.string s,.int .i64 a] W fun e w'=>Jw W a (Jv (s.data.toList.drop a)) e w'):=fun W=>cutName_any s a W h1 (by omega)
    rcases hcut:Jv (s.data.toList.drop a)with⟨o,y⟩|⟨k,S,v,n⟩
    ·have HC:=J4 (hC.trans hcut);have HY:Hid (∀W,Calls Tryz.prog 265 #[.string s,.int .i64 a] W fun e w'=>Jw W a (.inl (o,y)) e w'):=by rw[<-hcut];exact HX
     clear HX hcut hC hh h34;go_enter Tryz.func243,Tryz.ntmps243;go_wp2_with (first|(go_at_call 260;refine(Jo _ _).mono ?_;rintro e w' ⟨rfl,rfl⟩)|(go_at_call 261;refine(zbc _ _ hx0 hx1).mono ?_;rintro e w' ⟨rfl,rfl⟩)|(go_at_call 265;go_fit (J0 HY _);rintro e w1 ⟨hb,b,rfl,hge,hblk⟩;obtain⟨hc',hf'⟩:=JS hb));exact bodyPost_ret (v:=.tuple #[.agg #[.int .i64 0,.int .i64 0,.string ⟨#[]⟩,.int .i64 0],.int .i64 0,.pointer (some ⟨b,0,none⟩)]) (by simp[results,Tryz.results243,go_sem,hc']) rfl (za5 (J0 HC) (JZ (((Below.refl _ _).alloc (Nat.le_refl _) _).trans (hb.mono (by simp))) (Nat.le_refl _) _ _ _ _) (by simp at hge;omega) (by rw[heap4 _ _ _ _ _ _ _ (by simp at hge;omega)];exact hblk))
    ·have HC:=J4 (hC.trans hcut);have HY:Hid (∀W,Calls Tryz.prog 265 #[.string s,.int .i64 a] W fun e w'=>Jw W a (.inr (k,S,v,n)) e w'):=by rw[<-hcut];exact HX
     clear HX hcut hC hh h34;go_enter Tryz.func243,Tryz.ntmps243;go_wp2_with (first|(go_at_call 260;refine(Jo _ _).mono ?_;rintro e w' ⟨rfl,rfl⟩)|(go_at_call 261;refine(zbc _ _ hx0 hx1).mono ?_;rintro e w' ⟨rfl,rfl⟩)|(go_at_call 265;go_fit (J0 HY _);rintro e w1 ⟨hb,rfl⟩;obtain⟨hc',hf'⟩:=JS hb));exact bodyPost_ret (v:=.tuple #[.agg #[.int .i64 a,.int .i64 k,.string ⟨S.toArray⟩,.int .i64 v],.int .i64 ((a+n:Nat):Int),.pointer none]) (by simp[results,Tryz.results243,go_sem,hc']) rfl (za3 (J0 HC) (JZ (((Below.refl _ _).alloc (Nat.le_refl _) _).trans (hb.mono (by simp))) (Nat.le_refl _) _ _ _ _) rfl rfl)
theorem next_any (s:ByteArray) (a m:Nat) (w:World) (h1:a<s.size) (hs:s.size<=140737488355328) :
  Calls Tryz.prog 208 #[.string s,.int .i64 a,.int .i64 m] w fun e w'=>Jw w a (next (s.data.toList.drop a) m) e w':=by
 have hh:=hd_at s a h1;obtain⟨hx0,hx1⟩:=byte_bd s[a];by_cases hbg:Jq (s[a].toNat:Int)=true
 ·by_cases hm:4096<=m
  ·have HC:Hid (next (s.data.toList.drop a) m=.inl (0,3)):=by show _=_;rw[next,hh,hbg,if_neg (by decide),if_pos hm]
   have hm':(4096:Int)<=(m:Int):=by omega
   clear hh;go_enter Tryz.func208,Tryz.ntmps208;go_wp2_with (first|(go_at_call 242;refine(zc9 _ _ hx0 hx1).mono ?_;rintro e w' ⟨rfl,rfl⟩)|(go_at_call 206;refine(JL _ _ _).mono ?_;rintro e w' ⟨rfl,rfl⟩));exact bodyPost_ret (v:=.tuple #[.agg #[.int .i64 0,.int .i64 0,.string ⟨#[]⟩,.int .i64 0],.int .i64 0,.pointer (some ⟨w.heap.size+1,0,none⟩)]) (by simp[results,Tryz.results208,go_sem]) rfl (za5 (J0 HC) (za7 _ _ _) (by omega) (JA _ _ _))
  ·have hC:next (s.data.toList.drop a) m=cut (s.data.toList.drop a):=by rw[next,hh,hbg,if_neg (by decide),if_neg hm]
   have hm':(m:Int)<4096:=by omega
   have HX:Hid (∀W,Calls Tryz.prog 243 #[.string s,.int .i64 a] W fun e w'=>Jw W a (cut (s.data.toList.drop a)) e w'):=fun W=>cut_any s a W h1 hs
   rcases hcut:cut (s.data.toList.drop a)with⟨o,y⟩|⟨k,S,v,n⟩
   ·have HC:=J4 (hC.trans hcut);have HY:Hid (∀W,Calls Tryz.prog 243 #[.string s,.int .i64 a] W fun e w'=>Jw W a (.inl (o,y)) e w'):=by rw[<-hcut];exact HX
    clear HX hcut hC hh;go_enter Tryz.func208,Tryz.ntmps208;go_wp2_with (first|(go_at_call 242;refine(zc9 _ _ hx0 hx1).mono ?_;rintro e w' ⟨rfl,rfl⟩)|(go_at_call 243;go_fit (J0 HY _);rintro e w1 ⟨hb,b,rfl,hge,hblk⟩;obtain⟨hc',hf'⟩:=JS hb));exact bodyPost_ret (v:=.tuple #[.agg #[.int .i64 0,.int .i64 0,.string ⟨#[]⟩,.int .i64 0],.int .i64 0,.pointer (some ⟨b,0,none⟩)]) (by simp[results,Tryz.results208,go_sem,hc']) rfl (za5 (J0 HC) (JZ (((Below.refl _ _).alloc (Nat.le_refl _) _).trans (hb.mono (by simp))) (Nat.le_refl _) _ _ _ _) (by simp at hge;omega) (by rw[heap4 _ _ _ _ _ _ _ (by simp at hge;omega)];exact hblk))
   ·have HC:=J4 (hC.trans hcut);have HY:Hid (∀W,Calls Tryz.prog 243 #[.string s,.int .i64 a] W fun e w'=>Jw W a (.inr (k,S,v,n)) e w'):=by rw[<-hcut];exact HX
    clear HX hcut hC hh;go_enter Tryz.func208,Tryz.ntmps208;go_wp2_with (first|(go_at_call 242;refine(zc9 _ _ hx0 hx1).mono ?_;rintro e w' ⟨rfl,rfl⟩)|(go_at_call 243;go_fit (J0 HY _);rintro e w1 ⟨hb,rfl⟩;obtain⟨hc',hf'⟩:=JS hb));exact bodyPost_ret (v:=.tuple #[.agg #[.int .i64 a,.int .i64 k,.string ⟨S.toArray⟩,.int .i64 v],.int .i64 ((a+n:Nat):Int),.pointer none]) (by simp[results,Tryz.results208,go_sem,hc']) rfl (za3 (J0 HC) (JZ (((Below.refl _ _).alloc (Nat.le_refl _) _).trans (hb.mono (by simp))) (Nat.le_refl _) _ _ _ _) rfl rfl)
 ·have hbg:Jq (s[a].toNat:Int)=false:=(Bool.not_eq_true _).mp hbg;have HC:Hid (next (s.data.toList.drop a) m=.inl (0,10)):=by show _=_;rw[next,hh,hbg];rfl
  clear hh;go_enter Tryz.func208,Tryz.ntmps208;go_wp2_with (first|(go_at_call 242;refine(zc9 _ _ hx0 hx1).mono ?_;rintro e w' ⟨rfl,rfl⟩)|(go_at_call 206;refine(JL _ _ _).mono ?_;rintro e w' ⟨rfl,rfl⟩));exact bodyPost_ret (v:=.tuple #[.agg #[.int .i64 0,.int .i64 0,.string ⟨#[]⟩,.int .i64 0],.int .i64 0,.pointer (some ⟨w.heap.size+1,0,none⟩)]) (by simp[results,Tryz.results208,go_sem]) rfl (za5 (J0 HC) (za7 _ _ _) (by omega) (JA _ _ _))
namespace Lx
theorem ze9:∀(f:Nat) (l:Bs),l.length<=f->∀(i:Nat) (acc s:Bs) (n:Nat),textF l i acc=.inr (s,n)->i<n/\n<=i+l.length
 | _,[],_,i,acc,s,n,h=>by simp[textF]at h
 | 0,c::r,hf,_,_,_,_,_=>by simp at hf
 | f+1,c::r,hf,i,acc,s,n,h=>by
  have hf':r.length<=f:=by simpa using hf
  by_cases h34:c=34
  ·subst h34;have e:textF (34::r) i acc=.inr (acc,i+1):=by cases r <;> simp[textF]
   rw[e]at h;simp at h;obtain⟨_,rfl⟩:=h;simp
  ·by_cases h92:c=92
   ·subst h92
    match r,hf',h with
    | [],_,h=>simp[textF]at h
    | d::r',hf',h=>
     by_cases hd:zbu (d.toNat:Int)=true
     ·have e:textF (92::d::r') i acc=textF r' (i+2) (acc++[(escB (d.toNat:Int)).toNat.toUInt8]):=by simp[textF,hd]
      rw[e]at h;have:=ze9 f r' (by simp at hf';omega) _ _ _ _ h;simp;omega
     ·have e:textF (92::d::r') i acc=.inl (i+1):=by simp[textF,hd]
      rw[e]at h;cases h
   ·by_cases hp:zae (c.toNat:Int)=true
    ·have e:textF (c::r) i acc=textF r (i+1) (acc++[c]):=by cases r <;> simp[textF,h34,h92,hp]
     rw[e]at h;have:=ze9 f r hf' _ _ _ _ h;simp;omega
    ·have e:textF (c::r) i acc=.inl i:=by cases r <;> simp[textF,h34,h92,hp]
     rw[e]at h;cases h
theorem cut_len {l:Bs} (h0:l≠[]) {k:Int} {s:Bs} {v:Int} {m:Nat} (h:cut l=.inr (k,s,v,m)):1<=m/\m<=l.length:=by
 obtain⟨c,r,rfl⟩:=List.exists_cons_of_ne_nil h0;unfold cut at h
 split at h
 ·have hr:=zam Jd r;unfold Jh at h
  split at h
  ·cases h
  ·split at h
   ·cases h
   ·simp at h;obtain⟨_,_,_,rfl⟩:=h;simp[Jz];omega
 ·split at h
  ·unfold Jn at h
   split at h
   ·cases h
   ·rename_i s' n' ht;simp at h;obtain⟨_,_,_,rfl⟩:=h;have:=ze9 r.length r (Nat.le_refl _) _ _ _ _ ht;simp;omega
  ·split at h
   ·unfold JC at h
    split at h
    ·rename_i hp;simp at h;obtain⟨_,_,_,rfl⟩:=h
     cases r with
     | nil=>simp[List.isPrefixOf]at hp
     | cons d r=>simp
    ·simp at h;obtain⟨_,_,_,rfl⟩:=h;simp
   ·have hr:=zam Ji r;unfold Jv at h
    split at h
    ·cases h
    ·simp at h;obtain⟨_,_,_,rfl⟩:=h;simp;omega
theorem ze4 {l:Bs} {n:Nat} (h0:l≠[]) {k:Int} {s:Bs} {v:Int} {m:Nat} (h:next l n=.inr (k,s,v,m)):1<=m/\m<=l.length:=by
 unfold next at h
 split at h
 ·cases h
 ·split at h
  ·cases h
  ·exact cut_len h0 h
theorem next_few {l:Bs} {n:Nat} {k:Int} {s:Bs} {v:Int} {m:Nat} (h:next l n=.inr (k,s,v,m)):n<4096:=by
 unfold next at h
 split at h
 ·cases h
 ·split at h
  ·cases h
  ·omega
def zbi (f:Nat) (l:Bs) (a n:Nat):List Tok×Option (Nat×Nat):=
 match f with
 | 0=>([],none)
 | f+1=>if l=[]then([],none)else
  match next l n with
  | .inl (o,y)=>([],some (a+o,y))
  | .inr (k,s,v,m)=>((a,k,s,v)::(zdq f (l.drop m) (a+m) (n+1)).1,(zdq f (l.drop m) (a+m) (n+1)).2)
theorem lexF_at (f:Nat) (l:Bs) (a n:Nat):zdq f l a n=zbi f (l.drop (skip l)) (a+skip l) n:=by
 cases f with
 | zero=>rfl
 | succ f=>
  by_cases h:l.drop (skip l)=[]
  ·simp only[zdq,zbi,h,if_true]
  ·rcases hn:next (l.drop (skip l)) n with⟨o,y⟩|⟨k,s,v,m⟩
   ·simp only[zdq,zbi,h,if_false,hn]
   ·simp only[zdq,zbi,h,if_false,hn,List.drop_drop]
theorem lexAt_nil (f a n:Nat):zbi f [] a n=([],none):=by cases f <;> simp[zbi]
theorem lexAt_no {f:Nat} {l:Bs} {a n o y:Nat} (h0:l≠[]) (h:next l n=.inl (o,y)):zbi (f+1) l a n=([],some (a+o,y)):=by simp[zbi,h0,h]
theorem lexAt_yes {f:Nat} {l:Bs} {a n:Nat} {k:Int} {s:Bs} {v:Int} {m:Nat} (h0:l≠[]) (h:next l n=.inr (k,s,v,m)) :
  zbi (f+1) l a n=((a,k,s,v)::(zbi f ((l.drop m).drop (skip (l.drop m))) (a+m+skip (l.drop m)) (n+1)).1,(zbi f ((l.drop m).drop (skip (l.drop m))) (a+m+skip (l.drop m)) (n+1)).2):=by
 rw[<-lexF_at];simp only[zbi,h0,if_false,h]
end Lx
open Go Go.RowKit Go.Shelf Lx
attribute [local go_sem] Oper.semAt_some
def tokVal (t:Tok):Value:=.agg #[.int .i64 (t.1:Int),.int .i64 t.2.1,.string ⟨t.2.2.1.toArray⟩,.int .i64 t.2.2.2]
def CutterAt (bc:Nat) (s:ByteArray) (r:Value) (W:World):Prop:=W.heap[bc]?=some (.cells #[.string s,r] 222)
theorem CutterAt.cell0 {bc:Nat} {s:ByteArray} {r:Value} {W:World} (h:CutterAt bc s r W):W.cell? ⟨bc,0,none⟩=some (.string s):=by simp[World.cell?,show W.heap[bc]?=_ from h]
theorem CutterAt.cell1 {bc:Nat} {s:ByteArray} {r:Value} {W:World} (h:CutterAt bc s r W):W.cell? ⟨bc,1,none⟩=some r:=by simp[World.cell?,show W.heap[bc]?=_ from h]
theorem CutterAt.frozen {bc:Nat} {s:ByteArray} {r:Value} {W:World} (h:CutterAt bc s r W) (o:Nat):W.frozen? ⟨bc,o,none⟩=false:=by simp[World.frozen?,show W.heap[bc]?=_ from h]
theorem CutterAt.lt {bc:Nat} {s:ByteArray} {r:Value} {W:World} (h:CutterAt bc s r W):bc<W.heap.size:=(Array.getElem?_eq_some_iff.1 h).1
theorem CutterAt.kept {bc:Nat} {s:ByteArray} {r:Value} {W W':World} (h:CutterAt bc s r W) (hb:Below W.heap.size W W'):CutterAt bc s r W':=(hb.block bc h.lt).trans h
def EachEnds (bc:Nat) (s:ByteArray) (r:Option (Nat×Nat)) (W2 W':World):Prop:=
 CutterAt bc s (.pointer none) W2 /\
 match r with
 | none=>W'=W2
 | some (p,y)=>∃b,bc<b/\W'.heap[b]?=some (.cells #[.int .i64 (p:Int),.int .i64 (y:Int)] 114)/\CutterAt bc s (.pointer (some ⟨b,0,none⟩)) W'/\W2.grownBy W' (some bc)
theorem CutterAt.set {bc:Nat} {s:ByteArray} {r:Value} {W:World} (h:CutterAt bc s r W) (v:Value):CutterAt bc s v (W.setCell ⟨bc,1,none⟩ v):=by
 obtain⟨hlt,hk⟩:=Array.getElem?_eq_some_iff.1 h;show(W.heap.modify bc _)[bc]?=_;rw[Array.getElem?_eq_getElem (by rw[Array.size_modify];exact hlt),Array.getElem_modify_self,hk]
 rfl
theorem grown_set (W:World) (bc:Nat) (v:Value) (o:Obj):W.grownBy ((W.setCell ⟨bc,1,none⟩ v).alloc o) (some bc) where
 os:=rfl
 tape:=rfl
 output:=rfl
 size:=by simp
 block:=fun k hk hne=>by
  rw[Below.heap_alloc _ _ _ (by simpa using hk)];exact Below.heap_setCell _ _ _ _ (fun e=>hne (by rw[e]))
theorem skip_w (s:ByteArray) (a:Nat) (w:World) (ha:a<=s.size) (hs:s.size<=maxLen) :
  Calls Tryz.prog 207 #[.string s,.int .i64 a] w fun e w'=>e=.returned (.int .i64 ((a+skip (s.data.toList.drop a):Nat):Int))/\w=w':=(skip_any s a w ha hs).mono fun _ _ h=>⟨h.1,h.2.symm⟩
theorem each_in (n l bc:Nat) (hn:1<=n) (s:ByteArray) (hs:s.size<=140737488355328) (J:List Tok->World->Prop)
  (hJ:∀xs W W',J xs W->Below W.heap.size W W'->J xs W')
  (hY:∀pre x W,J pre W->pre.length<4096->CutterAt bc s (.pointer none) W->YieldAt Fence.wide (n-1) Tryz.prog l #[.int .i64 (pre.length:Int),tokVal x] W fun e W'=>
   e=.returned (.bool true)/\J (pre++[x]) W'/\CutterAt bc s (.pointer none) W')
  (W:World) (hc:CutterAt bc s (.pointer none) W) (h0:J [] W) :
  CallsIn Fence.wide n Tryz.prog 148 #[.pointer (some ⟨bc,0,none⟩),.func (.yield l) #[] #[]] W fun e W'=>
   (∃v,e=.returned v)/\∃W2,J (lex s.data.toList).1 W2/\EachEnds bc s (lex s.data.toList).2 W2 W':=by
 have c0:=hc.cell0;have g28:Fence.wide.fn 207:=trivial;have g29:Fence.wide.fn 208:=trivial;have g27:Fence.wide.fn 206:=trivial;have hsz:s.data.toList.length=s.size:=by simp
 refine callsIn_of_wp Tryz.func148 rfl trivial ?_ rfl;simp only[Tryz.ntmps148,List.size_toArray,List.length_cons,List.length_nil,Nat.reduceAdd,Nat.reduceSub,Array.replicate_succ,Array.replicate_zero,List.push_toArray,List.append_toArray,List.nil_append,List.cons_append];by_cases hbig:65536<s.size
 ·have hbig':65536<(s.size:Int):=by omega
  have HE:Hid (lex s.data.toList=([],some (0,2))):=by show _=_;rw[lex,hsz,if_pos hbig]
  have hl:=hc.lt;have c1:=hc.cell1;have f1:=hc.frozen
  gi_wp2_with (gi_at_call 206;refine(callsIn_wide.2 (JL _ _ _)).mono ?_;rintro e w' ⟨rfl,rfl⟩)
  refine bodyPost_ret (results_none rfl _ _ _) rfl ?_;refine⟨⟨_,rfl⟩,W,by rw[J0 HE];exact h0,hc,?_⟩;rw[J0 HE];exact⟨W.heap.size,by omega,(by have:=J6 (W.setCell ⟨bc,1,none⟩ (.pointer (some ⟨W.heap.size,0,none⟩))) (.cells #[.int .i64 0,.int .i64 2] 114);simpa using this),(Below.heap_alloc _ _ _ (by simpa using hl)).trans (hc.set _),grown_set _ _ _ _⟩
 ·have hbig':(s.size:Int)<=65536:=by omega
  have hml:s.size<=maxLen:=by unfold maxLen;omega
  have SK:Hid (∀k (_:k<=s.size) W,CallsIn Fence.wide (n-1) Tryz.prog 207 #[.string s,.int .i64 k] W fun e w'=>e=.returned (.int .i64 ((k+skip (s.data.toList.drop k):Nat):Int))/\W=w'):=fun k hk W=>callsIn_wide.2 (skip_w s k W hk hml)
  have hk0:=zck s.data.toList
  gi_wp2_with (gi_at_call 207;refine(J0 SK 0 (by omega) _).mono ?_;rintro e w' ⟨rfl,rfl⟩)
  gi_loopw [4,5] (fun p q wr=>∃(k f:Nat) (pre:List Tok),p=.int .i64 k/\q=.int .i64 (pre.length:Nat)/\k<=s.size/\pre.length<=4096/\s.size-k<f/\J pre wr/\CutterAt bc s (.pointer none) wr /\
    Hid (lex s.data.toList=(pre++(zbi f (s.data.toList.drop k) k pre.length).1,(zbi f (s.data.toList.drop k) k pre.length).2))) (fun p _ _=>s.size-(intOf p).toNat)
  case atStart=>
   refine⟨skip s.data.toList,s.size+1,[],by simp,rfl,by omega,by simp,by omega,h0,hc,?_⟩;show _=_;rw[lex,if_neg (by omega),lexF_at,hsz];simp
  case round=>
   obtain⟨k,f,pre,rfl,rfl,hk,hpl,hf,hj,hcr,HL⟩:=hrel;have c1:=hcr.cell0;have hlt2:=hcr.lt;by_cases hlt:k<s.size
   ·have hne:s.data.toList.drop k≠[]:=by rw[drop_cons s k hlt];simp
    obtain⟨f',rfl⟩:∃f',f=f'+1:=⟨f-1,by omega⟩
    have NX:Hid (CallsIn Fence.wide (n-1) Tryz.prog 208 #[.string s,.int .i64 k,.int .i64 (pre.length:Nat)] wr fun e w'=>Jw wr k (next (s.data.toList.drop k) pre.length) e w'):=callsIn_wide.2 (next_any s k pre.length wr hlt hs);rcases hnx:next (s.data.toList.drop k) pre.length with⟨o,y⟩|⟨kd,S,v,m⟩
    ·have HE:Hid (lex s.data.toList=(pre,some (k+o,y))):=by
      have e:=J0 HL;rw[lexAt_no hne hnx]at e;show _=_;simpa using e
     rw[hnx]at NX;clear HL hnx hne
     gi_wp2_with (gi_at_call 208;refine(J0 NX).mono ?_;rintro e w1 ⟨hb,b,rfl,hge,hblk⟩;have hcw:=hcr.kept hb;have d0:=hcw.cell0;have d1:=hcw.cell1;have fr:=hcw.frozen;have hl1:=hcw.lt)
     refine bodyPost_ret (results_none rfl _ _ _) rfl ?_;refine⟨⟨_,rfl⟩,w1,by rw[J0 HE];exact hJ _ _ _ hj hb,hcw,?_⟩;rw[J0 HE];have hbne:b≠bc:=by omega
     have hblt:b<w1.heap.size:=(Array.getElem?_eq_some_iff.1 hblk).1;exact⟨b,by omega,(Below.heap_alloc _ _ _ (by simpa using hblt)).trans ((Below.heap_setCell _ _ _ _ hbne).trans hblk),(Below.heap_alloc _ _ _ (by simpa using hl1)).trans (hcw.set _),grown_set _ _ _ _⟩
    ·have hm:=ze4 hne hnx;have hfew:=next_few hnx;have hdl:(s.data.toList.drop k).length=s.size-k:=by simp
     rw[hdl]at hm;have hsk:=zck (s.data.toList.drop (k+m));rw[show(s.data.toList.drop (k+m)).length=s.size-(k+m)from by simp]at hsk;have HE:Hid (lex s.data.toList=((pre++[(k,kd,S,v)])++(zbi f' (s.data.toList.drop (k+m+skip (s.data.toList.drop (k+m)))) (k+m+skip (s.data.toList.drop (k+m))) (pre++[(k,kd,S,v)]).length).1,(zbi f' (s.data.toList.drop (k+m+skip (s.data.toList.drop (k+m)))) (k+m+skip (s.data.toList.drop (k+m))) (pre++[(k,kd,S,v)]).length).2)):=by
      have e:=J0 HL;rw[lexAt_yes hne hnx]at e;simp only[List.drop_drop]at e;show _=_;rw[e];simp
     rw[hnx]at NX;clear HL hnx hne hdl
     gi_wp2_with (gi_at_call 208;refine(J0 NX).mono ?_;rintro e w1 ⟨hb,rfl⟩;obtain⟨fn,tmps,assign,body,hy,hR⟩:=hY pre (k,kd,S,v) (w1.alloc (.cells #[.int .i64 k,.int .i64 kd,.string ⟨S.toArray⟩,.int .i64 v] 174)) (hJ _ _ _ (hJ _ _ _ hj hb) ((Below.refl _ _).alloc (Nat.le_refl _) _)) hfew ((hcr.kept hb).kept ((Below.refl _ _).alloc (Nat.le_refl _) _));dsimp only[tokVal]at hy)
     refine hR.mono ?_;rintro e W3 ⟨rfl,hJ3,hc3⟩;have e0:=hc3.cell0
     gi_wp2_with (gi_at_call 207;refine(J0 SK (k+m) (by omega) _).mono ?_;rintro e w' ⟨rfl,rfl⟩)
     go_roundw
     case rel=>exact⟨k+m+skip (s.data.toList.drop (k+m)),f',pre++[(k,kd,S,v)],rfl,by simp,by omega,by simp;omega,by omega,hJ3,hc3,J0 HE⟩
     case measure=>simp[intOf];omega
   ·have HE:Hid (lex s.data.toList=(pre,none)):=by
     have e:=J0 HL;rw[List.drop_of_length_le (by simp;omega),lexAt_nil]at e;show _=_;simpa using e
    gi_wp2
    go_end0
    exact⟨⟨_,rfl⟩,wr,by rw[J0 HE];exact hj,hcr,by rw[J0 HE]⟩
attribute [local go_sem] Oper.semAt_some
def Jm (t:Tok):List Value:=[.int .i64 (t.1:Int),.int .i64 t.2.1,.string ⟨t.2.2.1.toArray⟩,.int .i64 t.2.2.2]
def Jg (ts:List Tok):List Value:=ts.flatMap Jm
theorem zd3 (ts:List Tok) (t:Tok):Jg (ts++[t])=Jg ts++Jm t:=by simp[Jg]
theorem info_tok:(Tryz.prog.info? 174).map (fun i=>(i.zero,i.size,i.bytes))=some (some (.agg #[.int .i64 0,.int .i64 0,.string ⟨#[]⟩,.int .i64 0]),4,40):=by kernel_rfl
theorem zce {W W':World} (h:Below W.heap.size W W'):W.grownBy W' none:=⟨h.os,h.tape,h.output,h.size,fun k hk _=>h.block k hk⟩
structure Mid (w:World) (r:Loop) (pre:List Tok) (W:World):Prop where
 list:∃v,Boxed W (w.heap.size+1) 93 v/\W.ownsRow (w.heap.size+1) 174 4 v pre.length (Jg pre)/\(pre=[]->v=.slice none 0 0)
 defers:W.heap[w.heap.size+2]?=some (.deferred (some []))
 loop:W.heap[w.heap.size+3]?=some (.loop r)
 old:Below w.heap.size w W
theorem Mid.grown {w:World} {r:Loop} {pre:List Tok} {W W':World} (h:Mid w r pre W) (hb:Below W.heap.size W W'):Mid w r pre W':=by
 obtain⟨v,hv,hr,hz⟩:=h.list;have hg:=zce hb;have k2:=(Array.getElem?_eq_some_iff.1 h.defers).1;have k3:=(Array.getElem?_eq_some_iff.1 h.loop).1;exact⟨⟨v,hv.kept hg (by simp),hr.kept hg (by
  rcases hr.2 with⟨rfl,_⟩|⟨g,cap,cur,rfl,_⟩
  ·exact .inl rfl
  ·exact .inr (by simp[Value.ownBlock])),hz⟩,(hb.block _ k2).trans h.defers,(hb.block _ k3).trans h.loop,h.old.trans (hb.mono h.old.size)⟩
theorem Mid.turn {w:World} {r:Loop} {pre:List Tok} {W:World} (h:Mid w r pre W) (r':Loop):Mid w r' pre (W.putObj (w.heap.size+3) (.loop r')):=by
 obtain⟨v,hv,hr,hz⟩:=h.list;have k3:=(Array.getElem?_eq_some_iff.1 h.loop).1;refine⟨⟨v,(World.putObj_heap_other (by omega)).trans hv,ownsRow_putObj hr _ h.loop rfl,hz⟩,(World.putObj_heap_other (by omega)).trans h.defers,World.putObj_heap_same k3,h.old.grown (grownBy_putObj' _ _ _) h.old.size (fun k e=>by cases e;omega)⟩
theorem heap_old2 {w:World} (o o':Obj) (k:Nat) (h:k<w.heap.size):((w.alloc o).alloc o').heap[k]?=w.heap[k]?:=
 (Below.heap_alloc _ _ _ (by simp;omega)).trans (Below.heap_alloc _ _ _ h)
theorem range_method {n:Nat} {P:Program} {g:Operand} {ps:Array Tmp} {assign body:Code} {Q:Exit->Act->World->Prop} {a:Act} {w:World} (h1:1<=n) {gf:Nat} {rv:Value}
  (hg:a.eval g=.func (.func gf) #[rv] #[]) (eg:∀args w,(callFunc gf args).run P w=.ok (.enter gf args) w)
  (h:∀(fn:FuncId) (rec:Loop),rec={ state:=.ready,pending:=none,fn:=fn,tmps:=a.tmps,params:=ps,assign:=assign,body:=body,defers:=w.heap.size } ->
   CallsIn Fence.wide (n-1) P gf #[rv,.func (.yield (w.heap.size+1)) #[] #[]] ((w.alloc (.deferred (some []))).alloc (.loop rec))
    (rangePost Fence.wide n P (w.heap.size+1) Q { a with defers:={ target:=.collected w.heap.size,args:=#[] }::a.defers })) :
  (Code.rangeFunc g ps assign body).wpIn Fence.wide n P Q a w:=by
 refine wpIn_rangeFunc fun fn _=>?_
 obtain⟨rec,hrec⟩:∃rec:Loop,rec={ state:=.ready,pending:=none,fn:=fn,tmps:=a.tmps,params:=ps,assign:=assign,body:=body,defers:=w.heap.size }:=⟨_,rfl⟩
 obtain⟨W1,hW1⟩:∃W1,W1=(w.alloc (.deferred (some []))).alloc (.loop rec):=⟨_,rfl⟩
 have hen:(Instr.enterLoop fn a.tmps ps assign body none).run P w=.ok (w.heap.size+1,[{ target:=.collected w.heap.size,args:=#[] }]) W1:=by
  rw[hW1,hrec];exact run_enterLoop_outer _ _ _ _ _
 have hc:=h fn rec hrec;rw[<-hW1]at hc;have hres:(resolve a.eval (rangeCall g (w.heap.size+1)) 0).run P W1=.ok { target:=.fn (.func gf) #[],args:=#[rv,.func (.yield (w.heap.size+1)) #[] #[]] } W1:=by
  simp only[resolve,hg];simp[go_sem]
 refine⟨_,_,W1,{ target:=.fn (.func gf) #[],args:=#[rv,.func (.yield (w.heap.size+1)) #[] #[]] },W1,gf,#[rv,.func (.yield (w.heap.size+1)) #[] #[]],W1,hen,hres,fun _ _=>trivial,?_,fun _=>h1,hc⟩;simp[invoke,go_sem,eg]
theorem ownsRow_less {w:World} {base base':Nat} {e:TypeId} {size:Nat} {v:Value} {n:Nat} {xs:List Value} (h:w.ownsRow base e size v n xs) (hb:base'<=base):w.ownsRow base' e size v n xs:=by
 refine⟨h.1,?_⟩;rcases h.2 with h' | ⟨g,cap,cur,hv,hg,r⟩
 ·exact .inl h'
 ·exact .inr ⟨g,cap,cur,hv,Nat.le_trans hb hg,r⟩
def zes (w:World) (s:ByteArray) (e:Ending) (W':World):Prop:=
 Below w.heap.size w W' /\
 match (lex s.data.toList).2 with
 | none=>∃v,e=.returned (.tuple #[v,.nilIface])/\W'.ownsRow w.heap.size 174 4 v (lex s.data.toList).1.length (Jg (lex s.data.toList).1)
 | some (p,y)=>∃b,e=.returned (.tuple #[.slice none 0 0,.iface 94 (.pointer (some ⟨b,0,none⟩))])/\w.heap.size<=b/\W'.heap[b]?=some (.cells #[.int .i64 (p:Int),.int .i64 (y:Int)] 114)
def zdp (w:World) (s:ByteArray) (e:Ending) (W':World):Prop:=
 Below w.heap.size w W' /\
 match (lex s.data.toList).2 with
 | none=>∃v,e=.returned (.tuple #[v,.nilIface])/\W'.ownsRow w.heap.size 174 4 v (lex s.data.toList).1.length (Jg (lex s.data.toList).1)/\((lex s.data.toList).1=[]->v=.slice none 0 0)
 | some (p,y)=>∃b,e=.returned (.tuple #[.slice none 0 0,.iface 94 (.pointer (some ⟨b,0,none⟩))])/\w.heap.size<=b/\W'.heap[b]?=some (.cells #[.int .i64 (p:Int),.int .i64 (y:Int)] 114)
theorem Tokens_in0 (n:Nat) (hn:3<=n) (s:ByteArray) (hs:s.size<=140737488355328) (w:World) :
  CallsIn Fence.wide n Tryz.prog 83 #[.string s] w fun e W'=>zdp w s e W':=by
 have h1:1<=n:=by omega
 obtain⟨i0,hi,hz0,hz1,hz2⟩:=info_parts info_tok;refine callsIn_of_wp_marks Tryz.func83 rfl trivial ?_ rfl;simp only[Tryz.ntmps83,List.size_toArray,List.length_cons,List.length_nil,Nat.reduceAdd,Nat.reduceSub,Array.replicate_succ,Array.replicate_zero,List.push_toArray,List.append_toArray,List.nil_append,List.cons_append]
 gi_wp2
 refine range_method h1 (gf:=148) (rv:=.pointer (some ⟨w.heap.size,0,none⟩)) rfl (enters_of Tryz.func148 (by kernel_rfl) rfl) ?_;intro fn rec hrec;simp only[World.size_alloc]at hrec ⊢;have hW0:Below w.heap.size w ((w.alloc (.cells #[.string s,.pointer none] 222)).alloc (.cells #[.slice none 0 0] 93)):=za7 _ _ _;refine(each_in (n-1) (w.heap.size+1+1+1) w.heap.size (by omega) s hs (Mid w rec) (fun _ _ _ h hb=>h.grown hb) ?_ _ ?_ ?_).mono ?_
 ·intro pre x W hM hlen hcut;have hy:=run_yield (P:=Tryz.prog) (args:=#[.int .i64 (pre.length:Int),tokVal x]) hM.loop (by rw[hrec];rfl);rw[hrec]at hy;refine⟨_,_,_,_,hy,roundIn_of_wpIn trivial ?_⟩;clear hy;obtain⟨v,hv,hrow,-⟩:=hM.list;dsimp only[tokVal]
  gi_wp2
  have hba:Below W.heap.size W (W.alloc (.cells #[.int .i64 (x.1:Int),.int .i64 x.2.1,.string ⟨x.2.2.1.toArray⟩,.int .i64 x.2.2.2] 174)):=(Below.refl _ _).alloc (Nat.le_refl _) _;have hMa:=hM.grown hba;have hca:=hcut.kept hba;have hla:=(Array.getElem?_eq_some_iff.1 hM.loop).1;refine⟨_,run_beginRound hMa.loop (by rw[hrec]),?_⟩;have hMb:=hMa.turn { rec with state:=.busy };have htb:=(World.putObj_heap_other (o:=.loop { rec with state:=.busy }) (show W.heap.size≠w.heap.size+3 by omega)).trans (J6 W (.cells #[.int .i64 (x.1:Int),.int .i64 x.2.1,.string ⟨x.2.2.1.toArray⟩,.int .i64 x.2.2.2] 174));have hcb:CutterAt w.heap.size s (.pointer none) ((W.alloc (.cells #[.int .i64 (x.1:Int),.int .i64 x.2.1,.string ⟨x.2.2.1.toArray⟩,.int .i64 x.2.2.2] 174)).putObj (w.heap.size+3) (.loop { rec with state:=.busy })):=(World.putObj_heap_other (by omega)).trans hca;clear hMa hca hba hv hrow v
  revert hMb htb hcb
  generalize (W.alloc (.cells #[.int .i64 (x.1:Int),.int .i64 x.2.1,.string ⟨x.2.2.1.toArray⟩,.int .i64 x.2.2.2] 174)).putObj (w.heap.size+3) (.loop { rec with state:=.busy })=Wb;intro hMb htb hcb;obtain⟨v,hv,hrow,-⟩:=hMb.list;have hc0:=hv.cell;have t0:Wb.cell? ⟨W.heap.size,0,none⟩=some (.int .i64 (x.1:Int)):=by rw[Lib.cell_of_heap htb];rfl
  have t1:Wb.cell? ⟨W.heap.size,1,none⟩=some (.int .i64 x.2.1):=by rw[Lib.cell_of_heap htb];rfl
  have t2:Wb.cell? ⟨W.heap.size,2,none⟩=some (.string ⟨x.2.2.1.toArray⟩):=by rw[Lib.cell_of_heap htb];rfl
  have t3:Wb.cell? ⟨W.heap.size,3,none⟩=some (.int .i64 x.2.2.2):=by rw[Lib.cell_of_heap htb];rfl
  have hBs:w.heap.size+1<=Wb.heap.size:=by have:=hv.lt;omega
  gi_wp2_with (gi_at_builtin;refine wpListIn_append_own _ rfl _ _ 93 rfl (w.heap.size+1) 174 i0 (.agg #[.int .i64 0,.int .i64 0,.string ⟨#[]⟩,.int .i64 0]) 4 40 Tryz.underlying93 hi hz0 hz1 hz2 rfl (by decide) _ _ _ rfl (hrow.alloc _) ⟨Wb.heap.size,0,none⟩ 1 1 (Jm x) rfl rfl ?news ?one ?c3 ?c4 ?c5 ?_)
  case news=>
   intro j u hj
   match j,hj with
   | 0,hj=>simp[Jm]at hj;subst hj;simp[Addr.add]
   | 1,hj=>simp[Jm]at hj;subst hj;simp[Addr.add]
   | 2,hj=>simp[Jm]at hj;subst hj;simp[Addr.add]
   | 3,hj=>simp[Jm]at hj;subst hj;simp[Addr.add]
   | j+4,hj=>simp[Jm]at hj
  case one=>intro u hu;simp[Jm]at hu;rcases hu with rfl|rfl|rfl|rfl <;> rfl
  case c3=>unfold maxLen;omega
  case c4=>omega
  case c5=>simp;omega
  intro v' w1 hown' hgrow _;obtain⟨g',cap',rfl⟩:=ownsRow_succ hown';obtain⟨hv1,hv2,hr2,hk2,hb2⟩:=hv.appended (by decide) hrow hBs (Nat.le_refl _) hown' hgrow;have hc1:=hv1.cell;have hf1:=hv1.frozen
  gi_wp2
  have hM3:Mid w { rec with state:=.busy } (pre++[x]) (w1.setCell ⟨w.heap.size+1,0,none⟩ (.slice (some ⟨g',0,none⟩) (pre.length+1) cap')):=
   ⟨⟨_,hv2,by rw[zd3];simpa using hr2,fun e=>by simp at e⟩,hk2.same _ _ hMb.defers rfl,hk2.same _ _ hMb.loop rfl,hMb.old.trans (hb2.mono (by omega))⟩
  have hc3:CutterAt w.heap.size s (.pointer none) (w1.setCell ⟨w.heap.size+1,0,none⟩ (.slice (some ⟨g',0,none⟩) (pre.length+1) cap')):=(hb2.block _ (by omega)).trans hcb;have hend:=run_endRound (P:=Tryz.prog) none hM3.loop;have hrr:({ state:=if (none:Option Code).isNone=true then LoopState.ready else LoopState.done,pending:=none,fn:=rec.fn,tmps:=rec.tmps,params:=rec.params,assign:=rec.assign,body:=rec.body,defers:=rec.defers }:Loop)=rec:=by rw[hrec];rfl
  have hend':(Instr.endRound (w.heap.size+1+1+1) none).run Tryz.prog (w1.setCell ⟨w.heap.size+1,0,none⟩ (.slice (some ⟨g',0,none⟩) (pre.length+1) cap'))=.ok (.bool true) ((w1.setCell ⟨w.heap.size+1,0,none⟩ (.slice (some ⟨g',0,none⟩) (pre.length+1) cap')).putObj (w.heap.size+3) (.loop rec)):=by
   rw[<-hrr];exact hend
  exact⟨_,_,hend',rfl,hM3.turn rec,(World.putObj_heap_other (by omega)).trans hc3⟩
 ·exact(heap_old2 _ _ _ (by simp;omega)).trans ((Below.heap_alloc _ _ _ (by simp)).trans (J6 w _))
 ·refine⟨⟨.slice none 0 0,(heap_old2 _ _ _ (by simp)).trans (by have:=J6 (w.alloc (.cells #[.string s,.pointer none] 222)) (.cells #[.slice none 0 0] 93);simpa using this),World.ownsRow_nil _ _ _ _,fun _=>rfl⟩,?_,?_,?_⟩
  ·have:=J6 ((w.alloc (.cells #[.string s,.pointer none] 222)).alloc (.cells #[.slice none 0 0] 93)) (.deferred (some []));refine(Below.heap_alloc _ _ _ (by simp)).trans ?_;simpa using this
  ·have:=J6 (((w.alloc (.cells #[.string s,.pointer none] 222)).alloc (.cells #[.slice none 0 0] 93)).alloc (.deferred (some []))) (.loop rec);simpa using this
  ·exact(hW0.alloc (by simp;omega) _).alloc (by simp;omega) _
 ·rintro e W' ⟨⟨u,rfl⟩,W2,hM,hE⟩;rcases hr:(lex s.data.toList).2 with _|⟨p,y⟩
  ·rw[hr]at hE;obtain⟨hcut,rfl⟩:=hE;refine⟨none,_,by have:=run_endLoop (P:=Tryz.prog) hM.loop (by rw[hrec];simp);rw[hrec]at this;exact this,?_⟩;have hM4:=hM.turn { state:=.exhausted,pending:=none,fn:=fn,tmps:=rec.tmps,params:=rec.params,assign:=rec.assign,body:=rec.body,defers:=rec.defers };have hc4:CutterAt w.heap.size s (.pointer none) (W'.putObj (w.heap.size+3) (.loop { state:=.exhausted,pending:=none,fn:=fn,tmps:=rec.tmps,params:=rec.params,assign:=rec.assign,body:=rec.body,defers:=rec.defers })):=(World.putObj_heap_other (by omega)).trans hcut;rw[hrec]at hM4 hc4;dsimp only at hM4 hc4 ⊢
   revert hM4 hc4
   generalize W'.putObj (w.heap.size+3) _=W4;intro hM4 hc4;obtain⟨v,hv,hrow,hz⟩:=hM4.list;have d1:=hc4.cell1;have b1:=hv.cell;have hK:=hM4.defers
   gi_wp2
   refine⟨by simp,.inl ⟨_,_,rfl,run_takeDeferred hK,?_⟩⟩;refine⟨_,results_tmp2 rfl _ _ _,hM4.old.grown (grownBy_putObj' _ _ _) hM4.old.size (fun k e=>by cases e;omega),?_⟩;rw[hr];exact⟨v,rfl,ownsRow_less (ownsRow_putObj hrow _ hK rfl) (by omega),hz⟩
  ·rw[hr]at hE;obtain⟨hcut,b,hbgt,hblk,hcut',hgr⟩:=hE;have hl2:=hcut.lt;have kD:=(Array.getElem?_eq_some_iff.1 hM.defers).1;have kL:=(Array.getElem?_eq_some_iff.1 hM.loop).1;have hD':W'.heap[w.heap.size+2]?=some (.deferred (some [])):=(hgr.block _ kD (by simp)).trans hM.defers;have hL':W'.heap[w.heap.size+3]?=some (.loop rec):=(hgr.block _ kL (by simp)).trans hM.loop;have hO':Below w.heap.size w W':=hM.old.grown hgr hM.old.size (fun k e=>by cases e;omega);have hbL:b≠w.heap.size+3:=fun e=>by rw[e,hL']at hblk;cases hblk
   have hbD:b≠w.heap.size+2:=fun e=>by rw[e,hD']at hblk;cases hblk
   refine⟨none,_,by have:=run_endLoop (P:=Tryz.prog) hL' (by rw[hrec];simp);rw[hrec]at this;exact this,?_⟩;dsimp only;have hD4:(W'.putObj (w.heap.size+3) (.loop { state:=.exhausted,pending:=none,fn:=fn,tmps:=rec.tmps,params:=rec.params,assign:=rec.assign,body:=rec.body,defers:=rec.defers })).heap[w.heap.size+2]?=some (.deferred (some [])):=(World.putObj_heap_other (by omega)).trans hD';have hc4:CutterAt w.heap.size s (.pointer (some ⟨b,0,none⟩)) (W'.putObj (w.heap.size+3) (.loop { state:=.exhausted,pending:=none,fn:=fn,tmps:=rec.tmps,params:=rec.params,assign:=rec.assign,body:=rec.body,defers:=rec.defers })):=(World.putObj_heap_other (by omega)).trans hcut';have hb4:(W'.putObj (w.heap.size+3) (.loop { state:=.exhausted,pending:=none,fn:=fn,tmps:=rec.tmps,params:=rec.params,assign:=rec.assign,body:=rec.body,defers:=rec.defers })).heap[b]?=some (.cells #[.int .i64 (p:Int),.int .i64 (y:Int)] 114):=(World.putObj_heap_other hbL).trans hblk;have hO4:Below w.heap.size w (W'.putObj (w.heap.size+3) (.loop { state:=.exhausted,pending:=none,fn:=fn,tmps:=rec.tmps,params:=rec.params,assign:=rec.assign,body:=rec.body,defers:=rec.defers })):=hO'.grown (grownBy_putObj' _ _ _) hO'.size (fun k e=>by cases e;omega);rw[hrec]at hD4 hc4 hb4 hO4;dsimp only at hD4 hc4 hb4 hO4
   revert hD4 hc4 hb4 hO4
   generalize W'.putObj (w.heap.size+3) _=W4;intro hD4 hc4 hb4 hO4;have d1:=hc4.cell1
   gi_wp2
   gi_region
   all_goals
    gi_wp2
    refine⟨by simp,.inl ⟨_,_,rfl,run_takeDeferred hD4,?_⟩⟩;refine⟨_,results_tmp2 rfl _ _ _,hO4.drew.grown (grownBy_putObj' _ _ _) hO4.size (fun k e=>by cases e;omega),?_⟩;rw[hr];exact⟨b,rfl,by omega,(World.putObj_heap_other hbD).trans hb4⟩
theorem say_of0 {w:World} {s:ByteArray} {e:Ending} {W':World} (h:zdp w s e W'):zes w s e W':=by
 refine⟨h.1,?_⟩;have h2:=h.2;rcases hr:(lex s.data.toList).2 with _|⟨p,y⟩
 ·rw[hr]at h2;obtain⟨v,h3,h4,_⟩:=h2;exact⟨v,h3,h4⟩
 ·rw[hr]at h2;exact h2
theorem Tokens_in (n:Nat) (hn:3<=n) (s:ByteArray) (hs:s.size<=140737488355328) (w:World) :
  CallsIn Fence.wide n Tryz.prog 83 #[.string s] w fun e W'=>zes w s e W':=(Tokens_in0 n hn s hs w).mono fun _ _ h=>say_of0 h
theorem Tokens_any0 (s:ByteArray) (hs:s.size<=140737488355328) (w:World):Calls Tryz.prog 83 #[.string s] w fun e W'=>zdp w s e W':=
 callsIn_wide.1 (Tokens_in0 3 (Nat.le_refl _) s hs w)
theorem Tokens_any (s:ByteArray) (hs:s.size<=140737488355328) (w:World):Calls Tryz.prog 83 #[.string s] w fun e W'=>zes w s e W':=
 callsIn_wide.1 (Tokens_in 3 (Nat.le_refl _) s hs w)
open Go Go.RowKit Lx
def TokRow (W:World) (v:Value) (ts:List Tok):Prop:=
 ∃(p:Option Addr) (c:Nat),v=.slice p ts.length c/\∀j t,ts[j]?=some t->∃g o,p=some ⟨g,o,none⟩ /\
  W.cell? ⟨g,o+j*4,none⟩=some (.int .i64 (t.1:Int))/\W.cell? ⟨g,o+j*4+1,none⟩=some (.int .i64 t.2.1) /\
  W.cell? ⟨g,o+j*4+2,none⟩=some (.string ⟨t.2.2.1.toArray⟩)/\W.cell? ⟨g,o+j*4+3,none⟩=some (.int .i64 t.2.2.2)
theorem refWords_any (w:World):Calls Tryz.prog 266 #[] w fun e w'=>e=.returned (.slice (some ⟨w.heap.size,0,none⟩) 25 25)/\w'=w.alloc (.cells zal 9):=by
 go_enter Tryz.func266,Tryz.ntmps266;go_wp2;go_ret;exact⟨rfl,rfl⟩
end Go.Proofs.YtdamlfkieecnjaaGreatDoor
namespace Go.Proofs.YtdamlfkieecnjaaGreatDoor
open Go Go.RowKit Lx
def Kl (b lo:Nat) (W W':World):Prop:=Below b W W'/\∀k,k<lo->k≠b->W'.heap[k]?=W.heap[k]?
abbrev Kx (b:Nat) (W W':World):Prop:=Kl b W.heap.size W W'
theorem Kl.refl (b lo:Nat) (W:World):Kl b lo W W:=⟨Below.refl _ _,fun _ _ _=>rfl⟩
theorem Kl.size {b lo:Nat} {W W':World} (h:Kl b lo W W'):W.heap.size<=W'.heap.size:=h.1.size
theorem Kl.trans {b lo:Nat} {U V W:World} (h:Kl b lo U V) (k:Kl b lo V W):Kl b lo U W:=⟨h.1.trans k.1,fun j hj hn=>(k.2 j hj hn).trans (h.2 j hj hn)⟩
theorem Kl.mono {b lo lo':Nat} {V W:World} (h:Kl b lo V W) (hl:lo'<=lo):Kl b lo' V W:=⟨h.1,fun j hj hn=>h.2 j (by omega) hn⟩
theorem Kl.on {b:Nat} {U V W:World} (h:Kx b U V) (k:Kx b V W):Kx b U W:=h.trans (k.mono h.size)
theorem Kl.of_below {b lo:Nat} {W W':World} (h:Below lo W W') (hb:b<=lo):Kl b lo W W':=⟨h.mono hb,fun k hk _=>h.block k hk⟩
theorem Kl.alloc {b lo:Nat} {U W:World} (h:Kl b lo U W) (hb:b<=lo) (hl:lo<=W.heap.size) (o:Obj):Kl b lo U (W.alloc o):=h.trans (.of_below ((Below.refl _ _).alloc hl o) hb)
theorem Kl.set {b lo i:Nat} {U W:World} (h:Kl b lo U W) (v:Value):Kl b lo U (W.setCell ⟨b,i,none⟩ v):=h.trans ⟨(Below.refl _ _).setCell (p:=⟨b,i,none⟩) (Nat.le_refl _) v,fun _ _ hn=>Below.heap_setCell _ _ _ _ hn⟩
theorem Kl.setHigh {b lo k i:Nat} {U W:World} (h:Kl b lo U W) (hb:b<=lo) (hk:lo<=k) (v:Value):Kl b lo U (W.setCell ⟨k,i,none⟩ v):=h.trans (.of_below ((Below.refl _ _).setCell (p:=⟨k,i,none⟩) hk v) hb)
theorem Kl.drew {b lo:Nat} {U W:World} (h:Kl b lo U W):Kl b lo U W.drew:=⟨h.1.drew,h.2⟩
theorem Kl.drewN {b lo:Nat} {U W:World} (h:Kl b lo U W) (n:Nat):Kl b lo U (W.drewN n):=⟨below_drewN h.1 n,h.2⟩
theorem Kl.below {b lo n:Nat} {W W':World} (h:Kl b lo W W') (hn:n<=b):Below n W W':=h.1.mono hn
theorem Kl.cells {b:Nat} {W w1:World} (h:Kx b W w1):(∀k o,k<W.heap.size->k≠b->w1.cell? ⟨k,o,none⟩=W.cell? ⟨k,o,none⟩)/\(∀k o,k<W.heap.size->k≠b->w1.frozen? ⟨k,o,none⟩=W.frozen? ⟨k,o,none⟩):=
 ⟨fun k _ hk hn=>World.cell?_of_block (h.2 k hk hn),fun k _ hk hn=>World.frozen?_of_block (h.2 k hk hn)⟩
def RfAt (b:Nat) (W:World) (q:Value):Option (Int×Int)->Prop
 | none=>q=.pointer none
 | some r=>∃k,q=.pointer (some ⟨k,0,none⟩)/\k≠b/\k<W.heap.size/\W.heap[k]?=some (.cells #[.int .i64 r.1,.int .i64 r.2] 114)
theorem RfAt.kept {b:Nat} {W W':World} {q:Value}:∀{r:Option (Int×Int)},RfAt b W q r->Kx b W W'->RfAt b W' q r
 | none,h,_=>h
 | some _,⟨k,e,hn,hk,h⟩,hx=>⟨k,e,hn,Nat.lt_of_lt_of_le hk hx.size,(hx.2 k hk hn).trans h⟩
def TkAt (b:Nat) (W:World) (v:Value) (ts:List Tok):Prop:=ts.length<=100000/\(∃p c,v=.slice p ts.length c/\ts.length<=c/\c<=9223372036854775807)/\∀V:World,(∀k,k<b->V.heap[k]?=W.heap[k]?)->TokRow V v ts
theorem TkAt.keep {b:Nat} {W W':World} {v:Value} {ts:List Tok} (h:TkAt b W v ts) (hx:Below b W W'):TkAt b W' v ts:=⟨h.1,h.2.1,fun V hV=>h.2.2 V fun k hk=>(hV k hk).trans (hx.block k hk)⟩
theorem TkAt.kept {b lo:Nat} {W W':World} {v:Value} {ts:List Tok} (h:TkAt b W v ts) (hx:Kl b lo W W'):TkAt b W' v ts:=h.keep hx.1
theorem TkAt.here {b:Nat} {W:World} {v:Value} {ts:List Tok} (h:TkAt b W v ts):TokRow W v ts:=h.2.2 W fun _ _=>rfl
theorem TkAt.nil (b:Nat) (W:World):TkAt b W (.slice none 0 0) []:=⟨Nat.zero_le _,⟨none,0,rfl,Nat.le_refl _,Nat.zero_le _⟩,fun _ _=>⟨none,0,rfl,fun j t h=>by simp at h⟩⟩
def RdAt (b:Nat) (T:TypeId) (en:Int) (s:RS) (W:World):Prop:=
 ∃v q,W.heap[b]?=some (.cells #[v,.int .i64 en,q] T)/\TkAt b W v s.1/\RfAt b W q s.2
theorem RdAt.lt {b:Nat} {T:TypeId} {en:Int} {s:RS} {W:World} (h:RdAt b T en s W):b<W.heap.size:=by
 obtain⟨_,_,h,_⟩:=h;exact(Array.getElem?_eq_some_iff.1 h).1
theorem RdAt.kept {b:Nat} {T:TypeId} {en:Int} {s:RS} {W W':World} (h:RdAt b T en s W) (hx:Kx b W W') (hb:W'.heap[b]?=W.heap[b]?):RdAt b T en s W':=by
 obtain⟨v,q,h1,h2,h3⟩:=h;exact⟨v,q,hb.trans h1,h2.kept hx,h3.kept hx⟩
theorem RdAt.put {b j:Nat} {T t:TypeId} {en:Int} {s:RS} {W:World} {c:Array Value} {fz:Nat×Nat} (h:RdAt b T en s W) (hj:W.heap[j]?=some (.cells c t fz)) (ht:t≠114) (hb:b<j) (i:Nat) (u:Value):RdAt b T en s (W.setCell ⟨j,i,none⟩ u):=by
 obtain⟨v,q,h1,h2,h3⟩:=h;refine⟨v,q,(Below.heap_setCell _ _ _ _ (by show b≠j;omega)).trans h1,h2.keep ((Below.refl _ _).setCell (p:=⟨j,i,none⟩) (by show b<=j;omega) u),?_⟩
 cases hr:s.2 with
 | none=>rw[hr]at h3;exact h3
 | some r=>
  rw[hr]at h3;obtain⟨k,e,hn,hk,h⟩:=h3;refine⟨k,e,hn,by simpa using hk,(Below.heap_setCell _ _ _ _ (fun ek=>?_)).trans h⟩;obtain rfl:k=j:=ek;rw[hj]at h;injection h with h
  injection h with _ h _
  exact ht h
theorem RdAt.below {b:Nat} {T:TypeId} {en:Int} {s:RS} {W W':World} (h:RdAt b T en s W) (hb:Below W.heap.size W W'):RdAt b T en s W':=h.kept (.of_below hb (Nat.le_of_lt h.lt)) (hb.block _ h.lt)
theorem RdAt.alloc {b:Nat} {T:TypeId} {en:Int} {s:RS} {W:World} (h:RdAt b T en s W) (o:Obj):RdAt b T en s (W.alloc o):=h.below ((Below.refl _ _).alloc (Nat.le_refl _) o)
def Rdr (b:Nat) (T:TypeId) (en:Int) (F:FuncId) (args:Array Value) (s s':RS) (v:Value):Prop:=
 ∀w,RdAt b T en s w->Calls Tryz.prog F args w fun e w'=>e=.returned v/\RdAt b T en s' w'/\Kx b w w'
abbrev rp (b:Nat):Value:=.pointer (some ⟨b,0,none⟩)
abbrev zcx (t:Tok):Value:=.agg #[.int .i64 (t.1:Int),.int .i64 t.2.1,.string ⟨t.2.2.1.toArray⟩,.int .i64 t.2.2.2]
end Go.Proofs.YtdamlfkieecnjaaGreatDoor
