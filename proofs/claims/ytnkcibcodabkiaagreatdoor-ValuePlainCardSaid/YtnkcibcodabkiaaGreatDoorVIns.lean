/-
  Calls of package value's read at an int, a bool and a text, worked out apart. Own work.
-/
import Derived.Test.YtnkcibcodabkiaaGreatDoorRExt
import Derived.Test.YtnkcibcodabkiaaGreatDoorAmHw
import Derived.Test.YtnkcibcodabkiaaGreatDoorPC1
import Derived.Test.YtnkcibcodabkiaaGreatDoorRInst
namespace Go.Proofs.YtnkcibcodabkiaaGreatDoor
open Go Go.RowKit Go.Shelf Go.Proofs Am

/-- a text of which is known whether values may hold it. -/
def xTm : List Value → St → K2 → Bool
  | [.float .f32 b], s, k => forceB (fun r => k (.bool r) s) (Nat.beq (b % 2) 0)
  | a, s, k => xTxt a s k
theorem allB_allT : ∀ l : List UInt8, allB l = allT l
  | [] => rfl
  | b :: l => by rw [allB, allT, allB_allT l]; rfl
theorem textB_textT (l : List UInt8) : textB l = textT l := by unfold textB textT; rw [allB_allT]
theorem tm_fn : CallOk Tryz.prog (fun f' args s k => cond (Nat.beq f' 180) (xTm args s k) false) := by
  refine ext_one (by kernel_rfl) fun args s k h ρ w us hR hl => ?_
  unfold xTm at h
  split at h
  · rename_i b
    rw [forceB_eq] at h
    obtain ⟨u, r, rfl, hv, hr⟩ := hl.inv
    obtain rfl : r = [] := List.length_eq_zero_iff.1 hr.1
    rw [VR] at hv
    obtain ⟨t, x, hx, rfl, hs, _, hp⟩ := hv
    refine (isText_any t w (by omega)).mono ?_
    rintro e w' ⟨rfl, rfl⟩
    exact ⟨_, _, ρ, s, rfl, by rw [VR, textB_textT, hp], hR, Ext.refl _ _ _, h⟩
  · have := txt_fn 180 args s k (by show cond (Nat.beq _ _) _ _ = true; rw [Nat.beq_refl]; exact h)
    exact this.2 ρ w us hR hl
def extsV (f : FuncId) : Option (List Value → St → K2 → Bool) := cond (Nat.beq f 180) (some xTm) (exts f)
theorem extsV_ok : ExtOk Tryz.prog extsV := fun f g h => by
  unfold extsV at h
  cases h1 : Nat.beq f 180 with
  | true =>
    rw [h1] at h
    obtain rfl := Option.some.inj h
    obtain rfl := Nat.eq_of_beq_eq_true h1
    exact tm_fn
  | false =>
    rw [h1] at h
    exact exts_ok f g h
/- what lies of the classes. -/
def CR : List (Nat × Row) := [(3, ⟨[], 3, 1⟩), (6, ⟨[], 3, 1⟩), (9, ⟨[(vi 1),(vl 3 0 0 1),vz,vz,(vs []),(vi 3),(vl 6 0 0 1),vz,vz,(vs []),(vi 2),(vl 10 0 0 1),vz,vz,(vs [])], 229, 5⟩), (10, ⟨[], 3, 1⟩), (13, ⟨[(vl 9 0 3 4),(.map (some 1)),(.map (some 2))], 144, 0⟩), (14, ⟨[(vi 0),(vi 1),(vi 2)], 3, 1⟩), (15, ⟨[(vs [105,110,116]),vz,(vi 0),(vs [116,101,120,116]),vz,(vi 1),(vs [98,111,111,108]),vz,(vi 2)], 102, 3⟩), (16, ⟨[(vp 13 0),(vl 15 0 3 4),(vl 14 0 3 4)], 97, 0⟩)]
def CM : List (Nat × List (Value × Value)) := [(1, []), (2, [])]
/-- read, of a value that lies under the name n. -/
def readI (n : Nat) (cells : List Value) (cls kind : Nat) (ok : Bool) : Inst :=
  ⟨35, [(vp 16 0), (vp n 0)], n + 1, CR ++ [(n, ⟨cells, 47, 0⟩)], [], CM, [], (vu [(va [(vp 16 0),(vp (n + 1) 0),(.map (some (n + 2)))]), .bool ok]), n + 3, [n + 3, n + 4], [(n + 3, n + 1, ⟨[(vl 9 0 3 4),(.map (some 1)),(.map (some 2))], 144, 0⟩)], [(n + 4, n + 2, [((vi cls), (va [(vi kind),vz,vz]))])]⟩
def iInt : Inst := readI 31 [vi 1, vi 0, .float .f64 30, vs [], vz] 0 1 true
def iTxt : Inst := readI 34 [vi 3, vi 1, vi 0, .float .f32 60, vz] 1 3 true
def iBad : Inst := readI 34 [vi 3, vi 1, vi 0, .float .f32 61, vz] 1 3 false
def iTru : Inst := readI 37 [vi 2, vi 2, vi 1, vs [], vz] 2 2 true
def iFal : Inst := readI 37 [vi 2, vi 2, vi 0, vs [], vz] 2 2 true
set_option maxRecDepth 10000000
set_option maxHeartbeats 0
theorem cInt : toB (chkI (envOf Tryz.prog (extI extsV []) xts (hasI extsV [])) 1000 iInt) = true := by kernel_rfl
theorem cTxt : toB (chkI (envOf Tryz.prog (extI extsV []) xts (hasI extsV [])) 1000 iTxt) = true := by kernel_rfl
theorem cBad : toB (chkI (envOf Tryz.prog (extI extsV []) xts (hasI extsV [])) 1000 iBad) = true := by kernel_rfl
theorem cTru : toB (chkI (envOf Tryz.prog (extI extsV []) xts (hasI extsV [])) 1000 iTru) = true := by kernel_rfl
theorem cFal : toB (chkI (envOf Tryz.prog (extI extsV []) xts (hasI extsV [])) 1000 iFal) = true := by kernel_rfl
theorem oInt : InstOk Tryz.prog iInt := inst_ok (by kernel_rfl) xts_ok (extI_ok extsV_ok (insts_nil _)) (of_toB cInt)
theorem oTxt : InstOk Tryz.prog iTxt := inst_ok (by kernel_rfl) xts_ok (extI_ok extsV_ok (insts_nil _)) (of_toB cTxt)
theorem oBad : InstOk Tryz.prog iBad := inst_ok (by kernel_rfl) xts_ok (extI_ok extsV_ok (insts_nil _)) (of_toB cBad)
theorem oTru : InstOk Tryz.prog iTru := inst_ok (by kernel_rfl) xts_ok (extI_ok extsV_ok (insts_nil _)) (of_toB cTru)
theorem oFal : InstOk Tryz.prog iFal := inst_ok (by kernel_rfl) xts_ok (extI_ok extsV_ok (insts_nil _)) (of_toB cFal)
theorem oMade : InstOk Tryz.prog P.i1 := inst_ok (by kernel_rfl) xts_ok (extI_ok exts_ok (insts_nil _)) (of_toB P.e1)
end Go.Proofs.YtnkcibcodabkiaaGreatDoor
