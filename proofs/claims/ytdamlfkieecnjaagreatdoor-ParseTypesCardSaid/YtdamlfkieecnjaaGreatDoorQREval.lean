import Derived.Test.YtdamlfkieecnjaaGreatDoorQRIs
import Derived.Test.YtdamlfkieecnjaaGreatDoorQRTok
set_option maxHeartbeats 0
set_option maxRecDepth 10000000
namespace Go.Proofs.YtdamlfkieecnjaaGreatDoor
open Go Go.RowKit Go.Shelf Go.Proofs Am
def renP:Ren where
 f:=fun
  | 316=>288
  | n=>n
 t:=fun
  | 0=>0
  | 3=>3
  | 4=>4
  | 5=>5
  | 9=>9
  | 37=>245
  | 127=>289
  | n=>n
 g:=fun n=>n
theorem lays316:LaysM.n316 Tryz.prog renP where
 mixed:=by kernel_rfl
 f316:=by kernel_rfl
 t0:=Tryz.underlying0
 a0:=Tryz.isAgg0
 z0:=Tryz.sizeOf0
 v0:=Tryz.zeroValue0
 t3:=Tryz.underlying3
 a3:=Tryz.isAgg3
 z3:=Tryz.sizeOf3
 v3:=Tryz.zeroValue3
 t4:=Tryz.underlying4
 a4:=Tryz.isAgg4
 z4:=Tryz.sizeOf4
 v4:=Tryz.zeroValue4
 t9:=Tryz.underlying9
 a9:=Tryz.isAgg9
 z9:=Tryz.sizeOf9
 v9:=Tryz.zeroValue9
 t37:=Tryz.underlying245
 a37:=Tryz.isAgg245
 z37:=Tryz.sizeOf245
 v37:=Tryz.zeroValue245
 t127:=Tryz.underlying289
 a127:=Tryz.isAgg289
 z127:=Tryz.sizeOf289
 v127:=Tryz.zeroValue289
 t5:=Tryz.underlying5
 a5:=Tryz.isAgg5
 z5:=Tryz.sizeOf5
 v5:=Tryz.zeroValue5
 i0:=by kernel_rfl
 i3:=by kernel_rfl
 i4:=by kernel_rfl
 i5:=by kernel_rfl
 i9:=by kernel_rfl
 i37:=by kernel_rfl
 i127:=by kernel_rfl
def exts (f:FuncId):Option (List Value->St->K2->Bool):=cond (Nat.beq f 288) (some xClone) (cond (Nat.beq f 47) (some (xAs 94 111)) (cond (Nat.beq f 50) (some (xIs 94 80 1)) (cond (Nat.beq f 83) (some (xTok 174 4 lexT)) none)))
theorem JD:ExtOk Tryz.prog exts:=fun f g h=>by
 unfold exts at h
 cases h1:Nat.beq f 288 with
 | true=>
  rw[h1]at h;obtain rfl:=Option.some.inj h;obtain rfl:=Nat.eq_of_beq_eq_true h1;exact clone_ok lays316 (by kernel_rfl)
 | false=>
  rw[h1]at h;simp only[cond_false]at h
  cases h2:Nat.beq f 47 with
  | true=>
   rw[h2]at h;obtain rfl:=Option.some.inj h;obtain rfl:=Nat.eq_of_beq_eq_true h2;exact RR.as_fn
  | false=>
   rw[h2]at h;simp only[cond_false]at h
   cases h3:Nat.beq f 50 with
   | true=>
    rw[h3]at h;obtain rfl:=Option.some.inj h;obtain rfl:=Nat.eq_of_beq_eq_true h3;exact RR.is_fn
   | false=>
    rw[h3]at h;simp only[cond_false]at h
    cases h4:Nat.beq f 83 with
    | true=>
     rw[h4]at h;obtain rfl:=Option.some.inj h;obtain rfl:=Nat.eq_of_beq_eq_true h4;exact tok_fn
    | false=>rw[h4]at h;cases h
def xts (f:FuncId):Option (List Value->Option Value):=cond (Nat.beq f 255) (some xSame) (cond (Nat.beq f 285) (some xIndexByte) none)
theorem JV:XtOk Tryz.prog xts:=fun f g h=>by
 unfold xts at h
 cases h1:Nat.beq f 255 with
 | true=>
  rw[h1]at h;obtain rfl:=Option.some.inj h;obtain rfl:=Nat.eq_of_beq_eq_true h1;exact fun l v hg ρ us w hl=>xSame_ok ⟨Tryz.f255,Tryz.func255,by kernel_rfl,by kernel_rfl,by kernel_rfl,by kernel_rfl⟩ hg hl
 | false=>
  rw[h1]at h;simp only[cond_false]at h
  cases h2:Nat.beq f 285 with
  | true=>
   rw[h2]at h;obtain rfl:=Option.some.inj h;obtain rfl:=Nat.eq_of_beq_eq_true h2;exact fun l v hg ρ us w hl=>xIndexByte_ok ⟨Tryz.f285,Tryz.func285,by kernel_rfl,by kernel_rfl,by kernel_rfl,by kernel_rfl⟩ hg hl
  | false=>rw[h2]at h;cases h
end Go.Proofs.YtdamlfkieecnjaaGreatDoor
namespace Go.Proofs.YtdamlfkieecnjaaGreatDoor
open Go Am
def r0:Nat×Row:=(0,⟨[vf,vt],4,1⟩)
def r1:Nat×Row:=(1,⟨[(vs [97]),(vs [98])],9,1⟩)
def r2:Nat×Row:=(2,⟨[(vi 1),(vs []),vz,vz,vz,(vi 4),(vs [66]),vz,vz,vz],27,5⟩)
def r3:Nat×Row:=(3,⟨[(vi 6),(vs []),(vl 1 0 2 0),(vl 0 0 2 0),(vl 2 0 2 0)],27,5⟩)
def r4:Nat×Row:=(5,⟨[(vi 2),(vi 1),(vi 2),(vs []),vz,vz,vz,(vi 4),(vi 1),(vi 3),(vs []),vz,vz,vz],42,7⟩)
def r5:Nat×Row:=(6,⟨[(vi 0),(vi 1),(vi 1),(vs []),vz,vz,vz,(vi 3),(vi 15),(vi 0),(vs []),vz,vz,(vl 5 0 2 3)],42,7⟩)
def r6:Nat×Row:=(11,⟨[(vi 0),(vi 1),(vs [97]),(vi 0),(vi 1),(vi 6),(vs [46]),(vi 0),(vi 2),(vi 1),(vs [98]),(vi 0),(vi 3),(vi 6),(vs [40]),(vi 0),(vi 4),(vi 1),(vs [99]),(vi 0),(vi 5),(vi 6),(vs [41]),(vi 0),(vi 6),(vi 6),(vs [46]),(vi 0),(vi 7),(vi 1),(vs [100]),(vi 0),(vi 9),(vi 3),(vs [116,111]),(vi 0),(vi 12),(vi 2),(vs [84]),(vi 0)],174,4⟩)
def r7:Nat×Row:=(58,⟨[(vi 0),(vi 4),(vi 0),(vs [97]),vz,vz,vz],42,7⟩)
def r8:Nat×Row:=(90,⟨[(vp 12 0)],197,0⟩)
def r9:Nat×Row:=(92,⟨[(vi 1)],3,0⟩)
def r10:Nat×Row:=(12,⟨[(vl 11 16 6 0),(vi 13),vn],104,0⟩)
def r11:Nat×Row:=(91,⟨[(vi 1),(vi 10),(vi 0),(vs [98]),vz,vz,(vl 58 0 1 2)],42,0⟩)
def r12:Nat×Row:=(12,⟨[(vl 11 20 5 0),(vi 13),vn],104,0⟩)
def r13:Nat×Row:=(91,⟨[(vi 1),(vi 10),(vi 0),(vs [98]),vz,vz,(vl 98 0 2 0)],42,0⟩)
def r14:Nat×Row:=(98,⟨[(vi 0),(vi 4),(vi 0),(vs [97]),vz,vz,vz,(vi 4),(vi 4),(vi 0),(vs [99]),vz,vz,vz],42,7⟩)
def r15:Nat×Row:=(8,⟨[(vi 0),(vi 4),(vi 0),(vs [97]),vz,vz,vz,(vi 4),(vi 4),(vi 0),(vs [99]),vz,vz,vz],42,7⟩)
def r16:Nat×Row:=(9,⟨[(vi 1),(vi 10),(vi 0),(vs [98]),vz,vz,(vl 8 0 2 0)],42,7⟩)
def r17:Nat×Row:=(10,⟨[(vi 6),(vi 9),(vi 0),(vs [100]),vz,vz,(vl 9 0 1 2)],42,7⟩)
def r18:Nat×Row:=(11,⟨[(vi 4),(vs [84]),vz,vz,vz],27,5⟩)
def r19:Nat×Row:=(16,⟨[(vi 7),(vi 13)],114,0⟩)
def r20:Nat×Row:=(27,⟨[(vi 0),(vi 3),(vs [110,101,119]),(vi 0),(vi 4),(vi 2),(vs [80]),(vi 0),(vi 5),(vi 6),(vs [123]),(vi 0),(vi 6),(vi 1),(vs [120]),(vi 0),(vi 7),(vi 6),(vs [58]),(vi 0),(vi 9),(vi 4),(vs []),(vi 1),(vi 10),(vi 6),(vs [44]),(vi 0),(vi 12),(vi 1),(vs [120]),(vi 0),(vi 13),(vi 6),(vs [58]),(vi 0),(vi 15),(vi 4),(vs []),(vi 2),(vi 16),(vi 6),(vs [125]),(vi 0)],174,4⟩)
def r21:Nat×Row:=(65,⟨[(vp 28 0)],197,0⟩)
def r22:Nat×Row:=(67,⟨[(vi 1)],3,0⟩)
def r23:Nat×Row:=(28,⟨[(vl 27 12 8 0),(vi 17),vn],104,0⟩)
def r24:Nat×Row:=(66,⟨[(vi 0),(vi 8),(vi 0),(vs [80]),vz,vz,vz],42,0⟩)
def r25:Nat×Row:=(28,⟨[(vl 27 24 5 0),(vi 17),vn],104,0⟩)
def r26:Nat×Row:=(66,⟨[(vi 0),(vi 8),(vi 0),(vs [80]),vz,(vl 85 0 1 0),(vl 86 0 1 0)],42,0⟩)
def r27:Nat×Row:=(85,⟨[(vs [120])],9,1⟩)
def r28:Nat×Row:=(86,⟨[(vi 9),(vi 1),(vi 1),(vs []),vz,vz,vz],42,7⟩)
def r29:Nat×Row:=(28,⟨[(vl 27 28 4 0),(vi 17),vn],104,0⟩)
def r30:Nat×Row:=(28,⟨[vz,(vi 17),(vp 94 0)],104,0⟩)
def r31:Nat×Row:=(66,⟨[(vi 0),(vi 8),(vi 0),(vs [80]),vz,(vl 95 0 2 0),(vl 96 0 2 0)],42,0⟩)
def r32:Nat×Row:=(94,⟨[(vi 12),(vi 20)],114,0⟩)
def r33:Nat×Row:=(95,⟨[(vs [120]),(vs [120])],9,1⟩)
def r34:Nat×Row:=(96,⟨[(vi 9),(vi 1),(vi 1),(vs []),vz,vz,vz,(vi 0),(vi 0),(vi 0),(vs []),vz,vz,vz],42,7⟩)
def r35:Nat×Row:=(24,⟨[(vi 12),(vi 20)],114,0⟩)
def r36:Nat×Row:=(35,⟨[(vi 0),(vi 2),(vs [80]),(vi 0),(vi 1),(vi 6),(vs [123]),(vi 0),(vi 2),(vi 1),(vs [120]),(vi 0),(vi 4),(vi 4),(vs []),(vi 1),(vi 5),(vi 6),(vs [125]),(vi 0)],174,4⟩)
def r37:Nat×Row:=(64,⟨[(vp 36 0)],197,0⟩)
def r38:Nat×Row:=(66,⟨[(vi 1)],3,0⟩)
def r39:Nat×Row:=(36,⟨[(vl 35 8 3 0),(vi 6),vn],104,0⟩)
def r40:Nat×Row:=(65,⟨[(vi 0),(vi 7),(vi 0),(vs [80]),vz,vz,vz],42,0⟩)
def r41:Nat×Row:=(36,⟨[vz,(vi 6),(vp 85 0)],104,0⟩)
def r42:Nat×Row:=(65,⟨[(vi 0),(vi 7),(vi 0),(vs [80]),vz,(vl 84 0 1 0),(vl 86 0 1 0)],42,0⟩)
def r43:Nat×Row:=(84,⟨[(vs [120])],9,1⟩)
def r44:Nat×Row:=(85,⟨[(vi 4),(vi 13)],114,0⟩)
def r45:Nat×Row:=(86,⟨[(vi 0),(vi 0),(vi 0),(vs []),vz,vz,vz],42,7⟩)
def r46:Nat×Row:=(32,⟨[(vi 4),(vi 13)],114,0⟩)
def r47:Nat×Row:=(43,⟨[(vi 0),(vi 2),(vs [80]),(vi 0),(vi 1),(vi 6),(vs [123]),(vi 0)],174,4⟩)
def r48:Nat×Row:=(72,⟨[(vp 44 0)],197,0⟩)
def r49:Nat×Row:=(74,⟨[(vi 1)],3,0⟩)
def r50:Nat×Row:=(44,⟨[(vl 43 8 0 0),(vi 2),vn],104,0⟩)
def r51:Nat×Row:=(73,⟨[(vi 0),(vi 7),(vi 0),(vs [80]),vz,vz,vz],42,0⟩)
def r52:Nat×Row:=(44,⟨[vz,(vi 2),(vp 92 0)],104,0⟩)
def r53:Nat×Row:=(73,⟨[(vi 0),(vi 7),(vi 0),(vs [80]),vz,(vl 93 0 1 0),(vl 94 0 1 0)],42,0⟩)
def r54:Nat×Row:=(92,⟨[(vi 2),(vi 14)],114,0⟩)
def r55:Nat×Row:=(93,⟨[(vs [])],9,1⟩)
def r56:Nat×Row:=(94,⟨[(vi 0),(vi 0),(vi 0),(vs []),vz,vz,vz],42,7⟩)
def r57:Nat×Row:=(40,⟨[(vi 2),(vi 14)],114,0⟩)
def r58:Nat×Row:=(48,⟨[(vi 4),(vi 1),(vi 1),(vs []),vz,vz,vz],42,7⟩)
def r59:Nat×Row:=(49,⟨[(vi 7),(vi 4),(vi 0),(vs [97]),vz,vz,vz],42,7⟩)
def r60:Nat×Row:=(50,⟨[(vi 8),(vi 10),(vi 0),(vs [98]),vz,vz,(vl 49 0 1 2)],42,7⟩)
def r61:Nat×Row:=(51,⟨[(vi 0),(vi 2),(vs [97]),vz,(vl 48 0 1 2),vz,vz,(vi 7),(vi 7),(vs []),vz,(vl 50 0 1 2),vz,vz],132,7⟩)
def r62:Nat×Row:=(52,⟨[(vi 4),(vi 13)],114,0⟩)
def r63:Nat×Row:=(53,⟨[(vi 0),(vi 14)],114,0⟩)
def r64:Nat×Row:=(55,⟨[(vi 23),(vi 13)],114,0⟩)
def r65:Nat×Row:=(57,⟨[(vi 21),(vi 20)],114,0⟩)
def r66:Nat×Row:=(59,⟨[(vi 18),(vi 1),(vi 0),(vs []),vz,vz,vz],42,7⟩)
def r67:Nat×Row:=(60,⟨[(vi 11),(vi 6),(vs []),vz,(vl 59 0 1 2),vz,vz],132,7⟩)
def r68:Nat×Row:=(86,⟨[(vi 64),(vi 15)],114,0⟩)
def r69:Nat×Row:=(88,⟨[(vs [116,121,112,101,32,65,32,61,32,105,110,116,59]),(vs [109,101,116,104,111,100,32,65,46,109,40,41,32,105,110,116,32,123,125,32,116,121,112,101,32,66,32,61,32,65,59])],9,1⟩)
def r70:Nat×Row:=(89,⟨[(vi 0),(vs [65]),(vi 1),(vs []),vz,vz,vz,(vi 20),(vs [66]),(vi 4),(vs [65]),vz,vz,vz],122,7⟩)
def r71:Nat×Row:=(90,⟨[(vi 0),(vs [65]),(vs [109]),vz,(vi 1),(vs []),vz,vz,vz,vz],58,10⟩)
def l0:List Inst:=[]
def i1:Inst:=⟨10,[(vs [42,123,97,32,105,110,116,59,32,101,109,98,101,100,32,98,32,66,59,125])],0,[],[],[],[],(vu [(va [(vi 5),(vs []),vz,vz,(vl 3 0 1 2)]),vy]),4,[80,88,98,113],[(80,r0),(88,r1),(98,r2),(113,r3)],[]⟩
def l1:List Inst:=i1::l0
def i2:Inst:=⟨35,[(va [(vi 5),(vs []),vz,vz,(vl 3 0 1 2)])],5,[r0,r1,r2,r3],[],[],[],(vu [(vs [42,32,123,32,97,32,105,110,116,32,59,32,101,109,98,101,100,32,98,32,66,32,59,32,125]),(vi 0)]),5,[],[],[]⟩
def l2:List Inst:=i2::l1
def i3:Inst:=⟨15,[(vs [49,43,50,42,51])],5,[],[],[],[],(vu [(va [(vi 1),(vi 16),(vi 0),(vs []),vz,vz,(vl 6 0 2 3)]),vy]),7,[125,129],[(125,r4),(129,r5)],[]⟩
def l3:List Inst:=i3::l2
def i4:Inst:=⟨284,[(vp 91 0),(vp 90 0),(vp 92 0)],98,[r6,r7,r8,r9],[r10,r11],[],[],(vu []),99,[166],[(12,r12),(91,r13),(166,r14)],[]⟩
def l4:List Inst:=i4::l3
def i5:Inst:=⟨15,[(vs [97,46,98,40,99,41,46,100,32,116,111,32,84])],8,[],[],[],[],(vu [(va [(vi 9),(vi 12),(vi 0),(vs []),(vl 11 0 1 2),vz,(vl 10 0 1 2)]),vy]),12,[98,123,165,185],[(98,r15),(123,r16),(165,r17),(185,r18)],[]⟩
def l5:List Inst:=i5::l4
def i6:Inst:=⟨15,[(vs [97,32,61,61,32,98,32,61,61,32,99])],16,[],[],[],[],(vu [(va [(vi 0),(vi 0),(vi 0),(vs []),vz,vz,vz]),(.iface 94 (vp 16 0))]),17,[124],[(124,r19)],[]⟩
def l6:List Inst:=i6::l5
def i7:Inst:=⟨283,[(vp 66 0),(vp 65 0),(vp 67 0)],85,[r20,r21,r22],[r23,r24],[],[],(vu []),87,[92,168],[(28,r25),(66,r26),(92,r27),(168,r28)],[]⟩
def l7:List Inst:=i7::l6
def i8:Inst:=⟨283,[(vp 66 0),(vp 65 0),(vp 67 0)],94,[r20,r21,r22],[r29,r26,r27,r28],[],[],(vu []),97,[101,103,155],[(28,r30),(66,r31),(101,r32),(103,r33),(155,r34)],[]⟩
def l8:List Inst:=i8::l7
def i9:Inst:=⟨15,[(vs [110,101,119,32,80,123,120,58,32,49,44,32,120,58,32,50,125])],24,[],[],[],[],(vu [(va [(vi 0),(vi 0),(vi 0),(vs []),vz,vz,vz]),(.iface 94 (vp 24 0))]),25,[94],[(94,r35)],[]⟩
def l9:List Inst:=i9::l8
def i10:Inst:=⟨283,[(vp 65 0),(vp 64 0),(vp 66 0)],84,[r36,r37,r38],[r39,r40],[],[],(vu []),87,[91,98,146],[(36,r41),(65,r42),(91,r43),(98,r44),(146,r45)],[]⟩
def l10:List Inst:=i10::l9
def i11:Inst:=⟨15,[(vs [80,123,120,32,49,125])],32,[],[],[],[],(vu [(va [(vi 0),(vi 0),(vi 0),(vs []),vz,vz,vz]),(.iface 94 (vp 32 0))]),33,[85],[(85,r46)],[]⟩
def l11:List Inst:=i11::l10
def i12:Inst:=⟨283,[(vp 73 0),(vp 72 0),(vp 74 0)],92,[r47,r48,r49],[r50,r51],[],[],(vu []),95,[94,100,152],[(44,r52),(73,r53),(94,r54),(100,r55),(152,r56)],[]⟩
def l12:List Inst:=i12::l11
def i13:Inst:=⟨15,[(vs [80,123])],40,[],[],[],[],(vu [(va [(vi 0),(vi 0),(vi 0),(vs []),vz,vz,vz]),(.iface 94 (vp 40 0))]),41,[92],[(92,r57)],[]⟩
def l13:List Inst:=i13::l12
def i14:Inst:=⟨18,[(vs [97,32,61,32,49,59,32,97,46,98,40,41,59])],48,[],[],[],[],(vu [(vl 51 0 2 0),vy]),52,[139,223,290,299],[(139,r58),(223,r59),(290,r60),(299,r61)],[]⟩
def l14:List Inst:=i14::l13
def i15:Inst:=⟨18,[(vs [97,32,61,32,59])],52,[],[],[],[],(vu [vz,(.iface 94 (vp 52 0))]),53,[104],[(104,r62)],[]⟩
def l15:List Inst:=i15::l14
def i16:Inst:=⟨21,[(vs [])],53,[],[],[],[],(vu [(va [vz,vz,vz,(vi 0),(vs []),(vs []),vz,(vi 0),(vs []),vz,vz,vz,vz]),(.iface 94 (vp 53 0))]),54,[85],[(85,r63)],[]⟩
def l16:List Inst:=i16::l15
def i17:Inst:=⟨21,[(vs [109,97,105,110,32,105,110,116,32,123,32,114,101,116,117,114,110,32,48,59,32,125,32,120])],55,[],[],[],[],(vu [(va [vz,vz,vz,(vi 0),(vs []),(vs []),vz,(vi 0),(vs []),vz,vz,vz,vz]),(.iface 94 (vp 55 0))]),56,[224],[(224,r64)],[]⟩
def l17:List Inst:=i17::l16
def i18:Inst:=⟨10,[(vs [105,110,116,101,114,102,97,99,101,32,123,97,40,105,110,116,41,32,66,59,32,97,40,41,32,66,59,125])],57,[],[],[],[],(vu [(va [(vi 0),(vs []),vz,vz,vz]),(.iface 94 (vp 57 0))]),58,[190],[(190,r65)],[]⟩
def l18:List Inst:=i18::l17
def i19:Inst:=⟨21,[(vs [109,97,105,110,32,105,110,116,32,123,32,114,101,116,117,114,110,32,48,59,32,125])],59,[],[],[],[],(vu [(va [vz,vz,vz,(vi 0),(vs []),(vs []),vz,(vi 1),(vs []),vz,vz,vz,(vl 60 0 1 0)]),vy]),61,[208,217],[(208,r66),(217,r67)],[]⟩
def l19:List Inst:=i19::l18
def i20:Inst:=⟨15,[(vs [40,40,40,40,40,40,40,40,40,40,40,40,40,40,40,40,40,40,40,40,40,40,40,40,40,40,40,40,40,40,40,40,40,40,40,40,40,40,40,40,40,40,40,40,40,40,40,40,40,40,40,40,40,40,40,40,40,40,40,40,40,40,40,40,40])],86,[],[],[],[],(vu [(va [(vi 0),(vi 0),(vi 0),(vs []),vz,vz,vz]),(.iface 94 (vp 86 0))]),87,[2347],[(2347,r68)],[]⟩
def l20:List Inst:=i20::l19
def i21:Inst:=⟨26,[(vl 88 0 2 3)],89,[r69],[],[],[],(vu [(vl 89 0 2 0),(vl 90 0 1 0),vy]),91,[277,278],[(277,r70),(278,r71)],[]⟩
def l21:List Inst:=i21::l20
def toB:Bool->Bool
 | true=>true
 | false=>false
theorem JW {b:Bool} (h:toB b=true):b=true:=by
 cases b with
 | true=>rfl
 | false=>cases h
end Go.Proofs.YtdamlfkieecnjaaGreatDoor
namespace Go.Proofs.YtdamlfkieecnjaaGreatDoor
open Go Am
theorem e1:toB (chkI (envOf Tryz.prog (extI exts l0) xts (hasI exts l0)) 1000 i1)=true:=by kernel_rfl
theorem e2:toB (chkI (envOf Tryz.prog (extI exts l1) xts (hasI exts l1)) 1000 i2)=true:=by kernel_rfl
theorem e3:toB (chkI (envOf Tryz.prog (extI exts l2) xts (hasI exts l2)) 1000 i3)=true:=by kernel_rfl
theorem e4:toB (chkI (envOf Tryz.prog (extI exts l3) xts (hasI exts l3)) 1000 i4)=true:=by kernel_rfl
theorem e5:toB (chkI (envOf Tryz.prog (extI exts l4) xts (hasI exts l4)) 1000 i5)=true:=by kernel_rfl
theorem e6:toB (chkI (envOf Tryz.prog (extI exts l5) xts (hasI exts l5)) 1000 i6)=true:=by kernel_rfl
theorem e7:toB (chkI (envOf Tryz.prog (extI exts l6) xts (hasI exts l6)) 1000 i7)=true:=by kernel_rfl
theorem e8:toB (chkI (envOf Tryz.prog (extI exts l7) xts (hasI exts l7)) 1000 i8)=true:=by kernel_rfl
theorem e9:toB (chkI (envOf Tryz.prog (extI exts l8) xts (hasI exts l8)) 1000 i9)=true:=by kernel_rfl
theorem e10:toB (chkI (envOf Tryz.prog (extI exts l9) xts (hasI exts l9)) 1000 i10)=true:=by kernel_rfl
theorem e11:toB (chkI (envOf Tryz.prog (extI exts l10) xts (hasI exts l10)) 1000 i11)=true:=by kernel_rfl
theorem e12:toB (chkI (envOf Tryz.prog (extI exts l11) xts (hasI exts l11)) 1000 i12)=true:=by kernel_rfl
theorem e13:toB (chkI (envOf Tryz.prog (extI exts l12) xts (hasI exts l12)) 1000 i13)=true:=by kernel_rfl
theorem e14:toB (chkI (envOf Tryz.prog (extI exts l13) xts (hasI exts l13)) 1000 i14)=true:=by kernel_rfl
theorem e15:toB (chkI (envOf Tryz.prog (extI exts l14) xts (hasI exts l14)) 1000 i15)=true:=by kernel_rfl
theorem e16:toB (chkI (envOf Tryz.prog (extI exts l15) xts (hasI exts l15)) 1000 i16)=true:=by kernel_rfl
theorem e17:toB (chkI (envOf Tryz.prog (extI exts l16) xts (hasI exts l16)) 1000 i17)=true:=by kernel_rfl
theorem e18:toB (chkI (envOf Tryz.prog (extI exts l17) xts (hasI exts l17)) 1000 i18)=true:=by kernel_rfl
theorem e19:toB (chkI (envOf Tryz.prog (extI exts l18) xts (hasI exts l18)) 1000 i19)=true:=by kernel_rfl
end Go.Proofs.YtdamlfkieecnjaaGreatDoor
namespace Go.Proofs.YtdamlfkieecnjaaGreatDoor
open Go Am
theorem e20:toB (chkI (envOf Tryz.prog (extI exts l19) xts (hasI exts l19)) 1000 i20)=true:=by kernel_rfl
theorem e21:toB (chkI (envOf Tryz.prog (extI exts l20) xts (hasI exts l20)) 1000 i21)=true:=by kernel_rfl
end Go.Proofs.YtdamlfkieecnjaaGreatDoor
namespace Go.Proofs.YtdamlfkieecnjaaGreatDoor
open Go Am
theorem k0:∀I∈l0,InstOk Tryz.prog I:=insts_nil _
theorem k1:∀I∈l1,InstOk Tryz.prog I:=insts_cons (inst_ok (by kernel_rfl) JV (extI_ok JD k0) (JW e1)) k0
theorem k2:∀I∈l2,InstOk Tryz.prog I:=insts_cons (inst_ok (by kernel_rfl) JV (extI_ok JD k1) (JW e2)) k1
theorem k3:∀I∈l3,InstOk Tryz.prog I:=insts_cons (inst_ok (by kernel_rfl) JV (extI_ok JD k2) (JW e3)) k2
theorem k4:∀I∈l4,InstOk Tryz.prog I:=insts_cons (inst_ok (by kernel_rfl) JV (extI_ok JD k3) (JW e4)) k3
theorem k5:∀I∈l5,InstOk Tryz.prog I:=insts_cons (inst_ok (by kernel_rfl) JV (extI_ok JD k4) (JW e5)) k4
theorem k6:∀I∈l6,InstOk Tryz.prog I:=insts_cons (inst_ok (by kernel_rfl) JV (extI_ok JD k5) (JW e6)) k5
theorem k7:∀I∈l7,InstOk Tryz.prog I:=insts_cons (inst_ok (by kernel_rfl) JV (extI_ok JD k6) (JW e7)) k6
theorem k8:∀I∈l8,InstOk Tryz.prog I:=insts_cons (inst_ok (by kernel_rfl) JV (extI_ok JD k7) (JW e8)) k7
theorem k9:∀I∈l9,InstOk Tryz.prog I:=insts_cons (inst_ok (by kernel_rfl) JV (extI_ok JD k8) (JW e9)) k8
theorem k10:∀I∈l10,InstOk Tryz.prog I:=insts_cons (inst_ok (by kernel_rfl) JV (extI_ok JD k9) (JW e10)) k9
theorem k11:∀I∈l11,InstOk Tryz.prog I:=insts_cons (inst_ok (by kernel_rfl) JV (extI_ok JD k10) (JW e11)) k10
theorem k12:∀I∈l12,InstOk Tryz.prog I:=insts_cons (inst_ok (by kernel_rfl) JV (extI_ok JD k11) (JW e12)) k11
theorem k13:∀I∈l13,InstOk Tryz.prog I:=insts_cons (inst_ok (by kernel_rfl) JV (extI_ok JD k12) (JW e13)) k12
theorem k14:∀I∈l14,InstOk Tryz.prog I:=insts_cons (inst_ok (by kernel_rfl) JV (extI_ok JD k13) (JW e14)) k13
theorem k15:∀I∈l15,InstOk Tryz.prog I:=insts_cons (inst_ok (by kernel_rfl) JV (extI_ok JD k14) (JW e15)) k14
theorem k16:∀I∈l16,InstOk Tryz.prog I:=insts_cons (inst_ok (by kernel_rfl) JV (extI_ok JD k15) (JW e16)) k15
theorem k17:∀I∈l17,InstOk Tryz.prog I:=insts_cons (inst_ok (by kernel_rfl) JV (extI_ok JD k16) (JW e17)) k16
theorem k18:∀I∈l18,InstOk Tryz.prog I:=insts_cons (inst_ok (by kernel_rfl) JV (extI_ok JD k17) (JW e18)) k17
theorem k19:∀I∈l19,InstOk Tryz.prog I:=insts_cons (inst_ok (by kernel_rfl) JV (extI_ok JD k18) (JW e19)) k18
theorem k20:∀I∈l20,InstOk Tryz.prog I:=insts_cons (inst_ok (by kernel_rfl) JV (extI_ok JD k19) (JW e20)) k19
theorem k21:∀I∈l21,InstOk Tryz.prog I:=insts_cons (inst_ok (by kernel_rfl) JV (extI_ok JD k20) (JW e21)) k20
def extsT:=extI exts l21
def hasT:=hasI exts l21
theorem extsT_ok:ExtOk Tryz.prog extsT:=extI_ok JD k21
theorem evals:toB (evJ (envOf Tryz.prog extsT xts hasT) (drawJ (envOf Tryz.prog extsT xts hasT)) 1000 14 [] nilSt isTrue)=true:=by kernel_rfl
end Go.Proofs.YtdamlfkieecnjaaGreatDoor
