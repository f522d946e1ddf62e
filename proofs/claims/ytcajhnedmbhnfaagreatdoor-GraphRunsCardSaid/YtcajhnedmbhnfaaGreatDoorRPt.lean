/-
  The states at the head of coil/coillaw4.GraphRuns' loop, as a function of the round: a round lays one node.
-/
import Derived.Test.YtcajhnedmbhnfaaGreatDoorRExt
import Derived.Test.YtcajhnedmbhnfaaGreatDoorAmSg
namespace Go.Proofs.YtcajhnedmbhnfaaGreatDoor
open Go Am
def isBlk : Code → Option Code
  | .block _ (.loop c) => some c
  | _ => none
def place : List Bool := [true, true, true, true, true, true, true, true, true, true, true, true, true, true, false, true]
def bodyO (P : Program) : Option Code := ((P.funcs[3]?).bind (·.body)).bind (codeAt place)
def loopC (P : Program) : Code := match (bodyO P).bind isBlk with
  | some c => c
  | none => .skip
def nts (P : Program) : Nat := match P.funcs[3]? with
  | some fn => fn.ntmps
  | none => 0
def laidNodes : List Value := [(vi 6),(vl 295 0 2 3),(vl 290 0 2 0),(vl 292 0 2 0),(vs []),(vi 1),(vl 301 0 0 1),vz,vz,(vs []),(vi 5),(vl 307 0 1 2),vz,vz,(vs []),(vi 5),(vl 455 0 1 2),vz,vz,(vs [])]
def moreNodes : Nat → Nat → List Value
  | 0, _ => []
  | n + 1, c => (vi 1) :: (vl c 0 0 1) :: vz :: vz :: (vs []) :: moreNodes n (c + 46)
def nodesAt (r : Nat) : Nat := match r with
  | 0 => 454
  | _ => 2021 + 46 * r
def fixedRows : List (Nat × Row) := [(0, ⟨[(vs [110]),(vs [110,101,120,116])], 9, 1⟩), (1, ⟨[vf,vf], 4, 1⟩), (4, ⟨[(vi 4),(vs [65]),vz,vz,vz], 26, 5⟩), (6, ⟨[(vi 1),(vs []),vz,vz,vz,(vi 5),(vs []),vz,vz,(vl 4 0 1 2)], 26, 5⟩), (8, ⟨[(vi 6),(vs []),(vl 0 0 2 3),(vl 1 0 2 3),(vl 6 0 2 3)], 26, 0⟩), (290, ⟨[(vs [110]),(vs [110,101,120,116])], 9, 1⟩), (292, ⟨[vf,vf], 4, 1⟩), (295, ⟨[(vi 1),(vi 2)], 3, 1⟩), (301, ⟨[], 3, 1⟩), (307, ⟨[(vi 0)], 3, 1⟩), (446, ⟨[(vi 0),(vi 3)], 3, 1⟩), (455, ⟨[(vi 0)], 3, 1⟩), (679, ⟨[(vl 689 0 1 0),(.map (some 674)),(.map (some 678))], 68, 0⟩), (689, ⟨[(vi 5),(vl 690 0 1 2),vz,vz,(vs [])], 78, 5⟩), (690, ⟨[(vi 0)], 3, 1⟩), (699, ⟨[(vi 1),(vs []),vz,vz,vz], 26, 0⟩), (700, ⟨[(vi 14),(vs [65]),(vs [109]),vz,(vi 1),(vs []),vz,vz,vz,vz], 51, 0⟩), (2022, ⟨[(vi 0),(vi 21),(vs [67])], 90, 0⟩)]
def pt (P : Program) (r : Nat) : Pt := ⟨[vf,(vp 8 0),(vp 283 0),vy,(vl 446 0 2 3),(vp 679 0),(vp 699 0),(vp 700 0),vz,(.iface 60 (vp 2022 0)),(vi r),(vu []),(vu [])] ++ List.replicate (nts P - 13) junk, fixedRows ++ [(283, ⟨[(vl (nodesAt r) 0 (r + 4) 0),(.map (some 280)),(.map (some 282))], 68, 0⟩), (nodesAt r, ⟨laidNodes ++ moreNodes r 2068, 78, 5⟩)], [(280, [((vs [65]), (vi 0))]), (282, []), (674, [((vs [65]), (vi 0)),((vs [66]), (vi 0))]), (678, [])], 2023 + 46 * r⟩
def hasN0 : FuncId → Nat → List Value → Bool := hasI exts []
def toB : Bool → Bool
  | true => true
  | false => false
theorem of_toB {b : Bool} (h : toB b = true) : b = true := by
  cases b with
  | true => rfl
  | false => cases h
def env0 (P : Program) : Env := envOf P exts xts hasN0
def seg (P : Program) (a b : Nat) : Bool := segK (evCodeK (env0 P) (evJ (env0 P) (drawJ (env0 P)) 1000) (drawK (env0 P) (evJ (env0 P) (drawJ (env0 P)) 1000)) noR (loopC P) noE) (pt P a) (pt P b) (b - a)
theorem seg_link {a b : Nat} (h : toB (seg Tryz.prog a b) = true) : Link Tryz.prog (loopC Tryz.prog) (pt Tryz.prog a) (pt Tryz.prog b) := by
  have g := good_of Tryz.prog exts (hs := hasN0) xts_ok
  have gf := goodF_of (xt := xts) (hs := hasN0) exts_ok
  have ih := evJ_ok g gf (by kernel_rfl) 1000
  exact seg_ok g ih (draw_ok g (by kernel_rfl) ih) (of_toB h)
end Go.Proofs.YtcajhnedmbhnfaaGreatDoor
