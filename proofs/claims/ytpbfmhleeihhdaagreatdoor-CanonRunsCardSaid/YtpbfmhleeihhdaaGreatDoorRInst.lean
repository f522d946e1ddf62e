/-
  The calls of CanonRuns that are worked out apart: what they are called with, what they answer and leave.
-/
import Derived.Test.YtpbfmhleeihhdaaGreatDoorRExt
import Derived.Test.YtpbfmhleeihhdaaGreatDoorAmUa
namespace Go.Proofs.YtpbfmhleeihhdaaGreatDoor
open Go Am
def r0 : Nat × Row := (2, ⟨[(vs [110]),(vs [110,101,120,116])], 9, 1⟩)
def r1 : Nat × Row := (3, ⟨[vf,vf], 4, 1⟩)
def r2 : Nat × Row := (4, ⟨[(vi 1),(vi 2)], 3, 1⟩)
def r3 : Nat × Row := (5, ⟨[], 3, 1⟩)
def r4 : Nat × Row := (6, ⟨[(vi 0)], 3, 1⟩)
def r5 : Nat × Row := (7, ⟨[(vs [110,101,120,116]),(vs [110])], 9, 1⟩)
def r6 : Nat × Row := (8, ⟨[vf,vf], 4, 1⟩)
def r7 : Nat × Row := (9, ⟨[(vi 4),(vi 5)], 3, 1⟩)
def r8 : Nat × Row := (10, ⟨[(vi 0)], 3, 1⟩)
def r9 : Nat × Row := (11, ⟨[], 3, 1⟩)
def r10 : Nat × Row := (12, ⟨[(vs [110]),(vs [110,101,120,116])], 9, 1⟩)
def r11 : Nat × Row := (13, ⟨[vf,vf], 4, 1⟩)
def r12 : Nat × Row := (14, ⟨[(vi 7),(vi 8)], 3, 1⟩)
def r13 : Nat × Row := (15, ⟨[], 3, 1⟩)
def r14 : Nat × Row := (16, ⟨[(vi 9)], 3, 1⟩)
def r15 : Nat × Row := (17, ⟨[(vs [110]),(vs [110,101,120,116])], 9, 1⟩)
def r16 : Nat × Row := (18, ⟨[vf,vf], 4, 1⟩)
def r17 : Nat × Row := (19, ⟨[(vi 10),(vi 11)], 3, 1⟩)
def r18 : Nat × Row := (20, ⟨[], 3, 1⟩)
def r19 : Nat × Row := (21, ⟨[(vi 12)], 3, 1⟩)
def r20 : Nat × Row := (22, ⟨[(vi 6),(vl 4 0 2 3),(vl 2 0 2 0),(vl 3 0 2 0),(vs []),(vi 1),(vl 5 0 0 1),vz,vz,(vs []),(vi 5),(vl 6 0 1 2),vz,vz,(vs []),(vi 6),(vl 9 0 2 3),(vl 7 0 2 0),(vl 8 0 2 0),(vs []),(vi 5),(vl 10 0 1 2),vz,vz,(vs []),(vi 1),(vl 11 0 0 1),vz,vz,(vs []),(vi 6),(vl 14 0 2 3),(vl 12 0 2 0),(vl 13 0 2 0),(vs []),(vi 1),(vl 15 0 0 1),vz,vz,(vs []),(vi 5),(vl 16 0 1 2),vz,vz,(vs []),(vi 6),(vl 19 0 2 3),(vl 17 0 2 0),(vl 18 0 2 0),(vs []),(vi 1),(vl 20 0 0 1),vz,vz,(vs []),(vi 5),(vl 21 0 1 2),vz,vz,(vs []),(vi 3),(vl 23 0 0 1),vz,vz,(vs [])], 123, 5⟩)
def r21 : Nat × Row := (23, ⟨[], 3, 1⟩)
def r22 : Nat × Row := (24, ⟨[(vl 22 0 13 14),(.map (some 0)),(.map (some 1))], 100, 0⟩)
def r23 : Nat × Row := (25, ⟨[(vi 0),(vi 1),(vi 2),(vi 0),(vi 2),(vi 1),(vi 3),(vi 1),(vi 4),(vi 5),(vi 1),(vi 6),(vi 7)], 3, 1⟩)
def r24 : Nat × Row := (26, ⟨[(vs [114,101,99,111,114,100,32,110,32,110,101,120,116]),(vl 27 0 2 0),(vi 0),(vs [105,110,116]),vz,(vi 1),(vs [42]),(vl 28 0 1 0),(vi 2),(vs [114,101,99,111,114,100,32,110,32,110,101,120,116]),(vl 29 0 2 0),(vi 6),(vs [42]),(vl 30 0 1 0),(vi 8),(vs [114,101,99,111,114,100,32,110,32,110,101,120,116]),(vl 31 0 2 0),(vi 9),(vs [42]),(vl 32 0 1 0),(vi 11),(vs [116,101,120,116]),vz,(vi 12)], 56, 3⟩)
def r25 : Nat × Row := (27, ⟨[(vi 1),(vi 2)], 3, 1⟩)
def r26 : Nat × Row := (28, ⟨[(vi 0)], 3, 1⟩)
def r27 : Nat × Row := (29, ⟨[(vi 1),(vi 4)], 3, 1⟩)
def r28 : Nat × Row := (30, ⟨[(vi 5)], 3, 1⟩)
def r29 : Nat × Row := (31, ⟨[(vi 1),(vi 6)], 3, 1⟩)
def r30 : Nat × Row := (32, ⟨[(vi 7)], 3, 1⟩)
def r31 : Nat × Row := (33, ⟨[(vp 24 0),(vl 26 0 8 9),(vl 25 0 13 14)], 48, 0⟩)
def m0 : Nat × List (Value × Value) := (0, [((vs [65]), (vi 0)),((vs [66]), (vi 3)),((vs [67]), (vi 6))])
def m1 : Nat × List (Value × Value) := (1, [])
def r32 : Nat × Row := (205, ⟨[(vi 4),(vs [66]),vz,vz,vz], 67, 5⟩)
def r33 : Nat × Row := (212, ⟨[(vs [110,101,120,116]),(vs [110])], 9, 1⟩)
def r34 : Nat × Row := (214, ⟨[vf,vf], 4, 1⟩)
def r35 : Nat × Row := (218, ⟨[(vi 5),(vs []),vz,vz,(vl 205 0 1 2),(vi 1),(vs []),vz,vz,vz], 67, 5⟩)
def r36 : Nat × Row := (265, ⟨[(vi 2),(vs []),vz,vz,vz], 67, 5⟩)
def r37 : Nat × Row := (285, ⟨[(vi 6),(vs []),(vl 212 0 2 0),(vl 214 0 2 0),(vl 218 0 2 0),(vi 2),(vs []),vz,vz,vz,(vi 5),(vs []),vz,vz,(vl 265 0 1 2),(vi 2),(vs []),vz,vz,vz], 67, 5⟩)
def r38 : Nat × Row := (286, ⟨[(vi 0),(vi 8),(vi 9),(vi 8)], 3, 1⟩)
def r39 : Nat × Row := (292, ⟨[(vi 0)], 3, 1⟩)
def r40 : Nat × Row := (293, ⟨[(vi 2)], 3, 1⟩)
def r41 : Nat × Row := (294, ⟨[(vi 5),(vl 292 0 1 2),vz,vz,(vs []),(vi 5),(vl 293 0 1 2),vz,vz,(vs []),(vi 5),(vl 295 0 1 2),vz,vz,(vs [])], 123, 5⟩)
def r42 : Nat × Row := (295, ⟨[(vi 1)], 3, 1⟩)
def r43 : Nat × Row := (296, ⟨[(vl 294 0 3 4),(.map (some 290)),(.map (some 291))], 100, 0⟩)
def r44 : Nat × Row := (297, ⟨[(vi 0),(vi 0),(vi 0)], 3, 1⟩)
def r45 : Nat × Row := (298, ⟨[(vs [42]),(vl 299 0 1 0),(vi 0)], 56, 3⟩)
def r46 : Nat × Row := (299, ⟨[(vi 0)], 3, 1⟩)
def r47 : Nat × Row := (300, ⟨[(vp 296 0),(vl 298 0 1 2),(vl 297 0 3 4)], 48, 0⟩)
def m2 : Nat × List (Value × Value) := (290, [((vs [65]), (vi 0)),((vs [66]), (vi 1))])
def m3 : Nat × List (Value × Value) := (291, [])
def l0 : List Inst := []
def i1 : Inst := ⟨4, [(vs [116,121,112,101,32,65,32,61,32,123,110,32,105,110,116,59,32,110,101,120,116,32,42,65,59,125,59,32,116,121,112,101,32,66,32,61,32,123,110,101,120,116,32,42,65,59,32,110,32,105,110,116,59,125,59,32,116,121,112,101,32,67,32,61,32,123,110,32,105,110,116,59,32,110,101,120,116,32,42,123,110,32,105,110,116,59,32,110,101,120,116,32,42,116,101,120,116,59,125,59,125,59])], 0, [], [], [], [], (vp 33 0), 34, [1419,1421,1429,1431,1434,1440,1446,1454,1456,1459,1465,1474,1479,1481,1484,1490,1496,1501,1503,1506,1512,1518,1523,1524,1525,2309,2310,2315,2319,2324,2327,2332,2335,2337], [(1429, r0), (1431, r1), (1434, r2), (1440, r3), (1446, r4), (1454, r5), (1456, r6), (1459, r7), (1465, r8), (1474, r9), (1479, r10), (1481, r11), (1484, r12), (1490, r13), (1496, r14), (1501, r15), (1503, r16), (1506, r17), (1512, r18), (1518, r19), (1523, r20), (1524, r21), (1525, r22), (2309, r23), (2310, r24), (2315, r25), (2319, r26), (2324, r27), (2327, r28), (2332, r29), (2335, r30), (2337, r31)], [(1419, m0), (1421, m1)]⟩
def l1 : List Inst := i1 :: l0
def i2 : Inst := ⟨8, [(vp 33 0),(vl 285 0 4 0)], 286, [r0, r1, r2, r3, r4, r5, r6, r7, r8, r9, r10, r11, r12, r13, r14, r15, r16, r17, r18, r19, r20, r21, r22, r23, r24, r25, r26, r27, r28, r29, r30, r31, r32, r33, r34, r35, r36, r37], [], [m0, m1], [], (vu [(vl 286 0 4 5),vy]), 287, [1811], [(1811, r38)], []⟩
def l2 : List Inst := i2 :: l1
def i3 : Inst := ⟨4, [(vs [116,121,112,101,32,65,32,61,32,42,65,59,32,116,121,112,101,32,66,32,61,32,42,42,66,59])], 290, [], [], [], [], (vp 300 0), 301, [654,656,665,674,679,680,684,850,851,854,855], [(665, r39), (674, r40), (679, r41), (680, r42), (684, r43), (850, r44), (851, r45), (854, r46), (855, r47)], [(654, m2), (656, m3)]⟩
def l3 : List Inst := i3 :: l2
def toB : Bool → Bool
  | true => true
  | false => false
theorem of_toB {b : Bool} (h : toB b = true) : b = true := by
  cases b with
  | true => rfl
  | false => cases h
end Go.Proofs.YtpbfmhleeihhdaaGreatDoor
