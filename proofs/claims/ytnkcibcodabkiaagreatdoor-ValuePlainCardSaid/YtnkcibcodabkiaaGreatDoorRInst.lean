/-
  The calls of ValueRuns that are worked out apart: what they are called with, what they answer and leave.
-/
import Derived.Test.YtnkcibcodabkiaaGreatDoorRExt
import Derived.Test.YtnkcibcodabkiaaGreatDoorAmUa
namespace Go.Proofs.YtnkcibcodabkiaaGreatDoor
open Go Am
def r0 : Nat × Row := (0, ⟨[(vs [120]),(vs [110,101,120,116])], 9, 1⟩)
def r1 : Nat × Row := (1, ⟨[vf,vf], 4, 1⟩)
def r2 : Nat × Row := (2, ⟨[(vi 4),(vs [65]),vz,vz,vz], 36, 5⟩)
def r3 : Nat × Row := (3, ⟨[(vi 1),(vs []),vz,vz,vz,(vi 5),(vs []),vz,vz,(vl 2 0 1 2)], 36, 5⟩)
def r4 : Nat × Row := (4, ⟨[(vi 0),(vs [65]),(vi 6),(vs []),(vl 0 0 2 0),(vl 1 0 2 0),(vl 3 0 2 0)], 71, 7⟩)
def r5 : Nat × Row := (5, ⟨[(vi 3),(vs []),vz,vz,vz], 36, 5⟩)
def r6 : Nat × Row := (8, ⟨[(vs [120]),(vs [110,101,120,116])], 9, 1⟩)
def r7 : Nat × Row := (9, ⟨[vf,vf], 4, 1⟩)
def r8 : Nat × Row := (10, ⟨[(vi 1),(vi 2)], 3, 1⟩)
def r9 : Nat × Row := (11, ⟨[], 3, 1⟩)
def r10 : Nat × Row := (12, ⟨[(vi 0)], 3, 1⟩)
def r11 : Nat × Row := (13, ⟨[(vs [120]),(vs [110,101,120,116])], 9, 1⟩)
def r12 : Nat × Row := (14, ⟨[vf,vf], 4, 1⟩)
def r13 : Nat × Row := (15, ⟨[], 9, 1⟩)
def r14 : Nat × Row := (16, ⟨[], 4, 1⟩)
def r15 : Nat × Row := (17, ⟨[], 9, 1⟩)
def r16 : Nat × Row := (18, ⟨[], 4, 1⟩)
def r17 : Nat × Row := (19, ⟨[(vi 0)], 3, 1⟩)
def r18 : Nat × Row := (20, ⟨[(vi 1),(vi 2)], 3, 1⟩)
def r19 : Nat × Row := (21, ⟨[(vi 0)], 3, 1⟩)
def r20 : Nat × Row := (22, ⟨[(vi 6),(vl 10 0 2 3),(vl 8 0 2 0),(vl 9 0 2 0),(vs []),(vi 1),(vl 11 0 0 1),vz,vz,(vs []),(vi 5),(vl 12 0 1 2),vz,vz,(vs []),(vi 3),(vl 23 0 0 1),vz,vz,(vs [])], 229, 5⟩)
def r21 : Nat × Row := (23, ⟨[], 3, 1⟩)
def r22 : Nat × Row := (24, ⟨[], 9, 1⟩)
def r23 : Nat × Row := (25, ⟨[], 4, 1⟩)
def r24 : Nat × Row := (26, ⟨[(vl 22 0 4 5),(.map (some 6)),(.map (some 7))], 144, 0⟩)
def r25 : Nat × Row := (27, ⟨[(vi 0),(vi 2),(vi 1),(vi 3)], 3, 1⟩)
def r26 : Nat × Row := (28, ⟨[(vs [114,101,99,111,114,100,32,110,101,120,116,32,120]),(vl 29 0 2 0),(vi 0),(vs [42]),(vl 30 0 1 0),(vi 2),(vs [105,110,116]),vz,(vi 1),(vs [116,101,120,116]),vz,(vi 3)], 102, 3⟩)
def r27 : Nat × Row := (29, ⟨[(vi 1),(vi 2)], 3, 1⟩)
def r28 : Nat × Row := (30, ⟨[(vi 0)], 3, 1⟩)
def r29 : Nat × Row := (31, ⟨[(vp 26 0),(vl 28 0 4 5),(vl 27 0 4 5)], 97, 0⟩)
def r30 : Nat × Row := (32, ⟨[(vi 6),(vl 20 0 2 0),(vl 13 0 2 0),(vl 14 0 2 0),(vs []),(vi 1),vz,(vl 15 0 0 1),(vl 16 0 0 1),(vs []),(vi 5),(vl 19 0 1 0),(vl 17 0 0 1),(vl 18 0 0 1),(vs []),(vi 3),vz,(vl 24 0 0 1),(vl 25 0 0 1),(vs [])], 159, 5⟩)
def r31 : Nat × Row := (33, ⟨[(vl 32 0 4 0),(vl 4 0 1 0),vz,vz,(vl 21 0 1 0)], 92, 0⟩)
def r32 : Nat × Row := (34, ⟨[(vp 33 0),(vl 35 0 4 5),(vl 36 0 6 7),(vl 37 0 4 0),(vl 44 0 4 0),(vl 43 0 4 0),(vl 46 0 4 0)], 173, 0⟩)
def r33 : Nat × Row := (35, ⟨[(vi 1),(vi 2),(vi 3),(vi 4)], 3, 1⟩)
def r34 : Nat × Row := (36, ⟨[(.int .i64 (.negSucc 0)),(vi 0),(vi 2),(vi 1),(vi 3),(.int .i64 (.negSucc 0))], 3, 1⟩)
def r35 : Nat × Row := (37, ⟨[(vi 0),(vi 2),(vi 1),(vi 3)], 3, 1⟩)
def r36 : Nat × Row := (38, ⟨[(vi 1),(vi 2)], 3, 1⟩)
def r37 : Nat × Row := (39, ⟨[(vs [110,101,120,116]),(vs [120])], 9, 1⟩)
def r38 : Nat × Row := (40, ⟨[(vi 0)], 3, 1⟩)
def r39 : Nat × Row := (41, ⟨[], 9, 1⟩)
def r40 : Nat × Row := (42, ⟨[], 9, 1⟩)
def r41 : Nat × Row := (43, ⟨[(vl 38 0 2 0),(vl 40 0 1 0),vz,vz], 39, 1⟩)
def r42 : Nat × Row := (44, ⟨[(vs [114,101,99,111,114,100,32,110,101,120,116,32,120]),(vs [42]),(vs [105,110,116]),(vs [116,101,120,116])], 9, 1⟩)
def r43 : Nat × Row := (45, ⟨[], 9, 1⟩)
def r44 : Nat × Row := (46, ⟨[(vl 39 0 2 0),(vl 41 0 0 1),(vl 42 0 0 1),(vl 45 0 0 1)], 32, 1⟩)
def m0 : Nat × List (Value × Value) := (6, [((vs [65]), (vi 0))])
def m1 : Nat × List (Value × Value) := (7, [])
def r45 : Nat × Row := (51, ⟨[(vi 3),(vs []),vz,vz,vz], 36, 5⟩)
def r46 : Nat × Row := (52, ⟨[(vi 3)], 3, 1⟩)
def r47 : Nat × Row := (55, ⟨[(vi 5),(vi 1),(vi 0),(vs []),vz,(vi 1),(vi 2),(vi 5),(vs []),vz], 47, 5⟩)
def r48 : Nat × Row := (61, ⟨[(vi 4),(vi 0),(vi 0),(vs []),(vl 55 0 2 3)], 47, 5⟩)
def r49 : Nat × Row := (67, ⟨[(vs [120])], 9, 1⟩)
def r50 : Nat × Row := (71, ⟨[(vs [120])], 9, 1⟩)
def r51 : Nat × Row := (75, ⟨[(vs [121])], 9, 1⟩)
def r52 : Nat × Row := (79, ⟨[(vs [120])], 9, 1⟩)
def r53 : Nat × Row := (83, ⟨[(vi 1),(vi 2),(vi 5),(vs []),vz], 47, 5⟩)
def r54 : Nat × Row := (84, ⟨[(vs [110,101,120,116])], 9, 1⟩)
def r55 : Nat × Row := (86, ⟨[(vi 5),(vi 1),(vi 0),(vs []),vz,(vi 1),(vi 2),(vi 5),(vs []),vz], 47, 5⟩)
def l0 : List Inst := []
def i1 : Inst := ⟨6, [(vs [116,121,112,101,32,65,32,61,32,123,120,32,105,110,116,59,32,110,101,120,116,32,42,65,59,125,59])], 0, [], [], [], [], (vu [(vl 4 0 1 0),vz,(vi 0),(vi 0)]), 5, [109,111,118,120,126], [(109, r0), (111, r1), (118, r2), (120, r3), (126, r4)], []⟩
def l1 : List Inst := i1 :: l0
def i2 : Inst := ⟨7, [(va [(vl 4 0 1 0),vz]),(vl 5 0 1 2)], 6, [r0, r1, r2, r3, r4, r5], [], [], [], (vu [(vp 31 0),(vp 34 0)]), 47, [283,285,293,295,298,304,310,390,391,402,406,428,432,446,448,452,498,499,515,519,533,779,780,785,788,791,793,794,795,828,837,870,887,899,909,915,925,931,934,935,937], [(293, r6), (295, r7), (298, r8), (304, r9), (310, r10), (390, r11), (391, r12), (402, r13), (406, r14), (428, r15), (432, r16), (446, r17), (448, r18), (452, r19), (498, r20), (499, r21), (515, r22), (519, r23), (533, r24), (779, r25), (780, r26), (785, r27), (788, r28), (791, r29), (793, r30), (794, r31), (795, r32), (828, r33), (837, r34), (870, r35), (887, r36), (899, r37), (909, r38), (915, r39), (925, r40), (931, r41), (934, r42), (935, r43), (937, r44)], [(283, m0), (285, m1)]⟩
def l2 : List Inst := i2 :: l1
def i3 : Inst := ⟨10, [(vp 31 0),(vl 51 0 1 2)], 52, [r6, r7, r8, r9, r10, r20, r21, r24, r25, r26, r27, r28, r29, r45], [], [m0, m1], [], (vu [(vl 52 0 1 2),vy]), 53, [388], [(388, r46)], []⟩
def l3 : List Inst := i3 :: l2
def i4 : Inst := ⟨11, [(vp 31 0),(va [(vi 4),(vi 0),(vi 0),(vs []),(vl 55 0 2 3)])], 65, [r6, r7, r8, r9, r10, r20, r21, r24, r25, r26, r27, r28, r29, r47], [], [m0, m1], [], (vu [(vs [123,110,101,120,116,58,32,110,105,108,44,32,120,58,32,53,125]),(vi 0)]), 65, [], [], []⟩
def l4 : List Inst := i4 :: l3
def i5 : Inst := ⟨11, [(vp 31 0),(va [(vi 5),(vi 1),(vi 0),(vs []),(vl 61 0 1 2)])], 65, [r6, r7, r8, r9, r10, r20, r21, r24, r25, r26, r27, r28, r29, r47, r48], [], [m0, m1], [], (vu [(vs [38,123,110,101,120,116,58,32,110,105,108,44,32,120,58,32,53,125]),(vi 0)]), 65, [], [], []⟩
def l5 : List Inst := i5 :: l4
def i6 : Inst := ⟨13, [(vp 31 0),(va [(vi 5),(vi 1),(vi 0),(vs []),(vl 61 0 1 2)]),(vl 67 0 1 2)], 68, [r6, r7, r8, r9, r10, r20, r21, r24, r25, r26, r27, r28, r29, r47, r48, r49], [], [m0, m1], [], (vu [(va [(vi 1),(vi 2),(vi 5),(vs []),vz]),(vi 0)]), 68, [], [], []⟩
def l6 : List Inst := i6 :: l5
def i7 : Inst := ⟨13, [(vp 31 0),(va [(vi 5),(vi 1),(vi 0),(vs []),vz]),(vl 71 0 1 2)], 72, [r6, r7, r8, r9, r10, r20, r21, r24, r25, r26, r27, r28, r29, r50], [], [m0, m1], [], (vu [(va [(vi 0),(vi 0),(vi 0),(vs []),vz]),(vi 51)]), 72, [], [], []⟩
def l7 : List Inst := i7 :: l6
def i8 : Inst := ⟨13, [(vp 31 0),(va [(vi 5),(vi 1),(vi 0),(vs []),(vl 61 0 1 2)]),(vl 75 0 1 2)], 76, [r6, r7, r8, r9, r10, r20, r21, r24, r25, r26, r27, r28, r29, r47, r48, r51], [], [m0, m1], [], (vu [(va [(vi 0),(vi 0),(vi 0),(vs []),vz]),(vi 42)]), 76, [], [], []⟩
def l8 : List Inst := i8 :: l7
def i9 : Inst := ⟨13, [(vp 31 0),(va [(vi 1),(vi 2),(vi 5),(vs []),vz]),(vl 79 0 1 2)], 80, [r6, r7, r8, r9, r10, r20, r21, r24, r25, r26, r27, r28, r29, r52], [], [m0, m1], [], (vu [(va [(vi 0),(vi 0),(vi 0),(vs []),vz]),(vi 42)]), 80, [], [], []⟩
def l9 : List Inst := i9 :: l8
def i10 : Inst := ⟨11, [(vp 31 0),(va [(vi 1),(vi 2),(vi 5),(vs []),(vl 83 0 1 2)])], 84, [r6, r7, r8, r9, r10, r20, r21, r24, r25, r26, r27, r28, r29, r53], [], [m0, m1], [], (vu [(vs []),(vi 1)]), 84, [], [], []⟩
def l10 : List Inst := i10 :: l9
def i11 : Inst := ⟨11, [(vp 31 0),(va [(vi 3),(vi 3),(vi 0),(vs (List.replicate 4097 97)),vz])], 84, [r6, r7, r8, r9, r10, r20, r21, r24, r25, r26, r27, r28, r29], [], [m0, m1], [], (vu [(vs []),(vi 1)]), 84, [], [], []⟩
def l11 : List Inst := i11 :: l10
def i12 : Inst := ⟨11, [(vp 31 0),(va [(vi 3),(vi 3),(vi 0),(vs (List.replicate 4096 97)),vz])], 84, [r6, r7, r8, r9, r10, r20, r21, r24, r25, r26, r27, r28, r29], [], [m0, m1], [], (vu [(vs (List.replicate 4096 97)),(vi 0)]), 84, [], [], []⟩
def l12 : List Inst := i12 :: l11
def i13 : Inst := ⟨13, [(vp 31 0),(va [(vi 5),(vi 1),(vi 0),(vs []),(vl 61 0 1 2)]),(vl 84 0 1 2)], 85, [r6, r7, r8, r9, r10, r20, r21, r24, r25, r26, r27, r28, r29, r47, r48, r54], [], [m0, m1], [], (vu [(va [(vi 5),(vi 1),(vi 0),(vs []),vz]),(vi 0)]), 85, [], [], []⟩
def l13 : List Inst := i13 :: l12
def i14 : Inst := ⟨13, [(vp 31 0),(va [(vi 4),(vi 0),(vi 0),(vs []),(vl 55 0 2 3)]),vz], 86, [r6, r7, r8, r9, r10, r20, r21, r24, r25, r26, r27, r28, r29, r47], [], [m0, m1], [], (vu [(va [(vi 4),(vi 0),(vi 0),(vs []),(vl 86 0 2 3)]),(vi 0)]), 87, [152], [(152, r55)], []⟩
def l14 : List Inst := i14 :: l13
def i15 : Inst := ⟨14, [(va [(vi 4),(vi 0),(vi 0),(vs []),(vl 86 0 2 3)]),(va [(vi 4),(vi 0),(vi 0),(vs []),(vl 55 0 2 3)])], 88, [r47, r55], [], [], [], vt, 88, [], [], []⟩
def l15 : List Inst := i15 :: l14
def i16 : Inst := ⟨15, [vn,(va [(vi 1),(vi 2),(vi 5),(vs []),vz])], 88, [], [], [], [], vf, 88, [], [], []⟩
def l16 : List Inst := i16 :: l15
def i17 : Inst := ⟨15, [(vp 31 0),(va [(vi 4),(vi 0),(vi 0),(vs []),(vl 55 0 2 3)])], 88, [r6, r7, r8, r9, r10, r20, r21, r24, r25, r26, r27, r28, r29, r47], [], [m0, m1], [], vt, 88, [], [], []⟩
def l17 : List Inst := i17 :: l16
def toB : Bool → Bool
  | true => true
  | false => false
theorem of_toB {b : Bool} (h : toB b = true) : b = true := by
  cases b with
  | true => rfl
  | false => cases h
end Go.Proofs.YtnkcibcodabkiaaGreatDoor
