/-
  The calls of ValuePlain that are worked out apart: what they are called with, what they answer and leave.
-/
import Derived.Test.YtnkcibcodabkiaaGreatDoorRExt
import Derived.Test.YtnkcibcodabkiaaGreatDoorAmUa
import Derived.Test.YtnkcibcodabkiaaGreatDoorRInst
namespace Go.Proofs.YtnkcibcodabkiaaGreatDoor.P
open Go Am
def r0 : Nat × Row := (0, ⟨[(vi 1),(vs []),vz,vz,vz,(vi 3),(vs []),vz,vz,vz,(vi 2),(vs []),vz,vz,vz], 36, 5⟩)
def r1 : Nat × Row := (3, ⟨[], 3, 1⟩)
def r2 : Nat × Row := (4, ⟨[], 9, 1⟩)
def r3 : Nat × Row := (5, ⟨[], 4, 1⟩)
def r4 : Nat × Row := (6, ⟨[], 3, 1⟩)
def r5 : Nat × Row := (7, ⟨[], 9, 1⟩)
def r6 : Nat × Row := (8, ⟨[], 4, 1⟩)
def r7 : Nat × Row := (9, ⟨[(vi 1),(vl 3 0 0 1),vz,vz,(vs []),(vi 3),(vl 6 0 0 1),vz,vz,(vs []),(vi 2),(vl 10 0 0 1),vz,vz,(vs [])], 229, 5⟩)
def r8 : Nat × Row := (10, ⟨[], 3, 1⟩)
def r9 : Nat × Row := (11, ⟨[], 9, 1⟩)
def r10 : Nat × Row := (12, ⟨[], 4, 1⟩)
def r11 : Nat × Row := (13, ⟨[(vl 9 0 3 4),(.map (some 1)),(.map (some 2))], 144, 0⟩)
def r12 : Nat × Row := (14, ⟨[(vi 0),(vi 1),(vi 2)], 3, 1⟩)
def r13 : Nat × Row := (15, ⟨[(vs [105,110,116]),vz,(vi 0),(vs [116,101,120,116]),vz,(vi 1),(vs [98,111,111,108]),vz,(vi 2)], 102, 3⟩)
def r14 : Nat × Row := (16, ⟨[(vp 13 0),(vl 15 0 3 4),(vl 14 0 3 4)], 97, 0⟩)
def r15 : Nat × Row := (17, ⟨[(vi 1),vz,(vl 4 0 0 1),(vl 5 0 0 1),(vs []),(vi 3),vz,(vl 7 0 0 1),(vl 8 0 0 1),(vs []),(vi 2),vz,(vl 11 0 0 1),(vl 12 0 0 1),(vs [])], 159, 5⟩)
def r16 : Nat × Row := (18, ⟨[(vl 17 0 3 0),vz,vz,vz,vz], 92, 0⟩)
def r17 : Nat × Row := (19, ⟨[(vp 18 0),(vl 20 0 3 4),(vl 21 0 5 6),(vl 22 0 3 0),(vl 26 0 3 0),(vl 25 0 3 0),(vl 28 0 3 0)], 173, 0⟩)
def r18 : Nat × Row := (20, ⟨[(vi 1),(vi 2),(vi 3)], 3, 1⟩)
def r19 : Nat × Row := (21, ⟨[(.int .i64 (.negSucc 0)),(vi 0),(vi 1),(vi 2),(.int .i64 (.negSucc 0))], 3, 1⟩)
def r20 : Nat × Row := (22, ⟨[(vi 0),(vi 1),(vi 2)], 3, 1⟩)
def r21 : Nat × Row := (23, ⟨[], 9, 1⟩)
def r22 : Nat × Row := (24, ⟨[], 9, 1⟩)
def r23 : Nat × Row := (25, ⟨[vz,vz,vz], 39, 1⟩)
def r24 : Nat × Row := (26, ⟨[(vs [105,110,116]),(vs [116,101,120,116]),(vs [98,111,111,108])], 9, 1⟩)
def r25 : Nat × Row := (27, ⟨[], 9, 1⟩)
def r26 : Nat × Row := (28, ⟨[(vl 23 0 0 1),(vl 24 0 0 1),(vl 27 0 0 1)], 32, 1⟩)
def m0 : Nat × List (Value × Value) := (1, [])
def m1 : Nat × List (Value × Value) := (2, [])
def l0 : List Inst := []
def i1 : Inst := ⟨7, [(va [vz,vz]),(vl 0 0 3 4)], 1, [r0], [], [], [], (vu [(vp 16 0),(vp 19 0)]), 29, [13,15,70,86,90,149,165,169,227,228,244,248,262,387,388,392,394,395,396,409,414,427,438,448,454,457,458,460], [(70, r1), (86, r2), (90, r3), (149, r4), (165, r5), (169, r6), (227, r7), (228, r8), (244, r9), (248, r10), (262, r11), (387, r12), (388, r13), (392, r14), (394, r15), (395, r16), (396, r17), (409, r18), (414, r19), (427, r20), (438, r21), (448, r22), (454, r23), (457, r24), (458, r25), (460, r26)], [(13, m0), (15, m1)]⟩
def l1 : List Inst := i1 :: l0
end Go.Proofs.YtnkcibcodabkiaaGreatDoor.P
