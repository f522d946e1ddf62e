/-
  What lex.Tokens answers at the texts that are asked for: the walk of package lex says it for every text, the kernel works it out for these.
-/
import Derived.Test.YtcofioeikpiabaaGreatDoorTokens
import Derived.Test.YtcofioeikpiabaaGreatDoorAmTk
import Derived.KernelRfl
namespace Go.Proofs.YtcofioeikpiabaaGreatDoor
open Go Go.RowKit Go.Shelf Go.Proofs Am Lx

def tb0 : List UInt8 := [116, 121, 112, 101, 32, 73, 32, 61, 32, 105, 110, 116, 101, 114, 102, 97, 99, 101, 32, 123, 109, 40, 41, 32, 105, 110, 116, 59, 125, 59, 32, 116, 121, 112, 101, 32, 65, 32, 61, 32, 123, 120, 32, 105, 110, 116, 59, 125, 59, 32, 109, 101, 116, 104, 111, 100, 32, 65, 46, 109, 40, 41, 32, 105, 110, 116, 32, 123, 125]
def tt0 : List Tok := [(0, 3, [116, 121, 112, 101], 0), (5, 2, [73], 0), (7, 6, [61], 0), (9, 3, [105, 110, 116, 101, 114, 102, 97, 99, 101], 0), (19, 6, [123], 0), (20, 1, [109], 0), (21, 6, [40], 0), (22, 6, [41], 0), (24, 3, [105, 110, 116], 0), (27, 6, [59], 0), (28, 6, [125], 0), (29, 6, [59], 0), (31, 3, [116, 121, 112, 101], 0), (36, 2, [65], 0), (38, 6, [61], 0), (40, 6, [123], 0), (41, 1, [120], 0), (43, 3, [105, 110, 116], 0), (46, 6, [59], 0), (47, 6, [125], 0), (48, 6, [59], 0), (50, 3, [109, 101, 116, 104, 111, 100], 0), (57, 2, [65], 0), (58, 6, [46], 0), (59, 1, [109], 0), (60, 6, [40], 0), (61, 6, [41], 0), (63, 3, [105, 110, 116], 0), (67, 6, [123], 0), (68, 6, [125], 0)]
def tc0 : List Value := [(.int .i64 (.ofNat 0)), (.int .i64 (.ofNat 3)), (.string ⟨⟨[116, 121, 112, 101]⟩⟩), (.int .i64 (.ofNat 0)), (.int .i64 (.ofNat 5)), (.int .i64 (.ofNat 2)), (.string ⟨⟨[73]⟩⟩), (.int .i64 (.ofNat 0)), (.int .i64 (.ofNat 7)), (.int .i64 (.ofNat 6)), (.string ⟨⟨[61]⟩⟩), (.int .i64 (.ofNat 0)), (.int .i64 (.ofNat 9)), (.int .i64 (.ofNat 3)), (.string ⟨⟨[105, 110, 116, 101, 114, 102, 97, 99, 101]⟩⟩), (.int .i64 (.ofNat 0)), (.int .i64 (.ofNat 19)), (.int .i64 (.ofNat 6)), (.string ⟨⟨[123]⟩⟩), (.int .i64 (.ofNat 0)), (.int .i64 (.ofNat 20)), (.int .i64 (.ofNat 1)), (.string ⟨⟨[109]⟩⟩), (.int .i64 (.ofNat 0)), (.int .i64 (.ofNat 21)), (.int .i64 (.ofNat 6)), (.string ⟨⟨[40]⟩⟩), (.int .i64 (.ofNat 0)), (.int .i64 (.ofNat 22)), (.int .i64 (.ofNat 6)), (.string ⟨⟨[41]⟩⟩), (.int .i64 (.ofNat 0)), (.int .i64 (.ofNat 24)), (.int .i64 (.ofNat 3)), (.string ⟨⟨[105, 110, 116]⟩⟩), (.int .i64 (.ofNat 0)), (.int .i64 (.ofNat 27)), (.int .i64 (.ofNat 6)), (.string ⟨⟨[59]⟩⟩), (.int .i64 (.ofNat 0)), (.int .i64 (.ofNat 28)), (.int .i64 (.ofNat 6)), (.string ⟨⟨[125]⟩⟩), (.int .i64 (.ofNat 0)), (.int .i64 (.ofNat 29)), (.int .i64 (.ofNat 6)), (.string ⟨⟨[59]⟩⟩), (.int .i64 (.ofNat 0)), (.int .i64 (.ofNat 31)), (.int .i64 (.ofNat 3)), (.string ⟨⟨[116, 121, 112, 101]⟩⟩), (.int .i64 (.ofNat 0)), (.int .i64 (.ofNat 36)), (.int .i64 (.ofNat 2)), (.string ⟨⟨[65]⟩⟩), (.int .i64 (.ofNat 0)), (.int .i64 (.ofNat 38)), (.int .i64 (.ofNat 6)), (.string ⟨⟨[61]⟩⟩), (.int .i64 (.ofNat 0)), (.int .i64 (.ofNat 40)), (.int .i64 (.ofNat 6)), (.string ⟨⟨[123]⟩⟩), (.int .i64 (.ofNat 0)), (.int .i64 (.ofNat 41)), (.int .i64 (.ofNat 1)), (.string ⟨⟨[120]⟩⟩), (.int .i64 (.ofNat 0)), (.int .i64 (.ofNat 43)), (.int .i64 (.ofNat 3)), (.string ⟨⟨[105, 110, 116]⟩⟩), (.int .i64 (.ofNat 0)), (.int .i64 (.ofNat 46)), (.int .i64 (.ofNat 6)), (.string ⟨⟨[59]⟩⟩), (.int .i64 (.ofNat 0)), (.int .i64 (.ofNat 47)), (.int .i64 (.ofNat 6)), (.string ⟨⟨[125]⟩⟩), (.int .i64 (.ofNat 0)), (.int .i64 (.ofNat 48)), (.int .i64 (.ofNat 6)), (.string ⟨⟨[59]⟩⟩), (.int .i64 (.ofNat 0)), (.int .i64 (.ofNat 50)), (.int .i64 (.ofNat 3)), (.string ⟨⟨[109, 101, 116, 104, 111, 100]⟩⟩), (.int .i64 (.ofNat 0)), (.int .i64 (.ofNat 57)), (.int .i64 (.ofNat 2)), (.string ⟨⟨[65]⟩⟩), (.int .i64 (.ofNat 0)), (.int .i64 (.ofNat 58)), (.int .i64 (.ofNat 6)), (.string ⟨⟨[46]⟩⟩), (.int .i64 (.ofNat 0)), (.int .i64 (.ofNat 59)), (.int .i64 (.ofNat 1)), (.string ⟨⟨[109]⟩⟩), (.int .i64 (.ofNat 0)), (.int .i64 (.ofNat 60)), (.int .i64 (.ofNat 6)), (.string ⟨⟨[40]⟩⟩), (.int .i64 (.ofNat 0)), (.int .i64 (.ofNat 61)), (.int .i64 (.ofNat 6)), (.string ⟨⟨[41]⟩⟩), (.int .i64 (.ofNat 0)), (.int .i64 (.ofNat 63)), (.int .i64 (.ofNat 3)), (.string ⟨⟨[105, 110, 116]⟩⟩), (.int .i64 (.ofNat 0)), (.int .i64 (.ofNat 67)), (.int .i64 (.ofNat 6)), (.string ⟨⟨[123]⟩⟩), (.int .i64 (.ofNat 0)), (.int .i64 (.ofNat 68)), (.int .i64 (.ofNat 6)), (.string ⟨⟨[125]⟩⟩), (.int .i64 (.ofNat 0))]
theorem tl0 : lex tb0 = (tt0, none) := by kernel_rfl
theorem ta0 : allCells tt0 = tc0 := by kernel_rfl
def tb1 : List UInt8 := [65]
def tt1 : List Tok := [(0, 2, [65], 0)]
def tc1 : List Value := [(.int .i64 (.ofNat 0)), (.int .i64 (.ofNat 2)), (.string ⟨⟨[65]⟩⟩), (.int .i64 (.ofNat 0))]
theorem tl1 : lex tb1 = (tt1, none) := by kernel_rfl
theorem ta1 : allCells tt1 = tc1 := by kernel_rfl
def tb2 : List UInt8 := [98, 111, 111, 108]
def tt2 : List Tok := [(0, 3, [98, 111, 111, 108], 0)]
def tc2 : List Value := [(.int .i64 (.ofNat 0)), (.int .i64 (.ofNat 3)), (.string ⟨⟨[98, 111, 111, 108]⟩⟩), (.int .i64 (.ofNat 0))]
theorem tl2 : lex tb2 = (tt2, none) := by kernel_rfl
theorem ta2 : allCells tt2 = tc2 := by kernel_rfl
def tb3 : List UInt8 := [42, 65, 32]
def tt3 : List Tok := [(0, 6, [42], 0), (1, 2, [65], 0)]
def tc3 : List Value := [(.int .i64 (.ofNat 0)), (.int .i64 (.ofNat 6)), (.string ⟨⟨[42]⟩⟩), (.int .i64 (.ofNat 0)), (.int .i64 (.ofNat 1)), (.int .i64 (.ofNat 2)), (.string ⟨⟨[65]⟩⟩), (.int .i64 (.ofNat 0))]
theorem tl3 : lex tb3 = (tt3, none) := by kernel_rfl
theorem ta3 : allCells tt3 = tc3 := by kernel_rfl
def tb4 : List UInt8 := [32, 42, 65]
def tt4 : List Tok := [(1, 6, [42], 0), (2, 2, [65], 0)]
def tc4 : List Value := [(.int .i64 (.ofNat 1)), (.int .i64 (.ofNat 6)), (.string ⟨⟨[42]⟩⟩), (.int .i64 (.ofNat 0)), (.int .i64 (.ofNat 2)), (.int .i64 (.ofNat 2)), (.string ⟨⟨[65]⟩⟩), (.int .i64 (.ofNat 0))]
theorem tl4 : lex tb4 = (tt4, none) := by kernel_rfl
theorem ta4 : allCells tt4 = tc4 := by kernel_rfl
def tb5 : List UInt8 := [65, 32]
def tt5 : List Tok := [(0, 2, [65], 0)]
def tc5 : List Value := [(.int .i64 (.ofNat 0)), (.int .i64 (.ofNat 2)), (.string ⟨⟨[65]⟩⟩), (.int .i64 (.ofNat 0))]
theorem tl5 : lex tb5 = (tt5, none) := by kernel_rfl
theorem ta5 : allCells tt5 = tc5 := by kernel_rfl
def tb6 : List UInt8 := [32, 73]
def tt6 : List Tok := [(1, 2, [73], 0)]
def tc6 : List Value := [(.int .i64 (.ofNat 1)), (.int .i64 (.ofNat 2)), (.string ⟨⟨[73]⟩⟩), (.int .i64 (.ofNat 0))]
theorem tl6 : lex tb6 = (tt6, none) := by kernel_rfl
theorem ta6 : allCells tt6 = tc6 := by kernel_rfl
def tb7 : List UInt8 := [73, 32]
def tt7 : List Tok := [(0, 2, [73], 0)]
def tc7 : List Value := [(.int .i64 (.ofNat 0)), (.int .i64 (.ofNat 2)), (.string ⟨⟨[73]⟩⟩), (.int .i64 (.ofNat 0))]
theorem tl7 : lex tb7 = (tt7, none) := by kernel_rfl
theorem ta7 : allCells tt7 = tc7 := by kernel_rfl
def tb8 : List UInt8 := [32, 65]
def tt8 : List Tok := [(1, 2, [65], 0)]
def tc8 : List Value := [(.int .i64 (.ofNat 1)), (.int .i64 (.ofNat 2)), (.string ⟨⟨[65]⟩⟩), (.int .i64 (.ofNat 0))]
theorem tl8 : lex tb8 = (tt8, none) := by kernel_rfl
theorem ta8 : allCells tt8 = tc8 := by kernel_rfl
def tb9 : List UInt8 := [73]
def tt9 : List Tok := [(0, 2, [73], 0)]
def tc9 : List Value := [(.int .i64 (.ofNat 0)), (.int .i64 (.ofNat 2)), (.string ⟨⟨[73]⟩⟩), (.int .i64 (.ofNat 0))]
theorem tl9 : lex tb9 = (tt9, none) := by kernel_rfl
theorem ta9 : allCells tt9 = tc9 := by kernel_rfl
def tb10 : List UInt8 := [97]
def tt10 : List Tok := [(0, 1, [97], 0)]
def tc10 : List Value := [(.int .i64 (.ofNat 0)), (.int .i64 (.ofNat 1)), (.string ⟨⟨[97]⟩⟩), (.int .i64 (.ofNat 0))]
theorem tl10 : lex tb10 = (tt10, none) := by kernel_rfl
theorem ta10 : allCells tt10 = tc10 := by kernel_rfl
def tb11 : List UInt8 := [66]
def tt11 : List Tok := [(0, 2, [66], 0)]
def tc11 : List Value := [(.int .i64 (.ofNat 0)), (.int .i64 (.ofNat 2)), (.string ⟨⟨[66]⟩⟩), (.int .i64 (.ofNat 0))]
theorem tl11 : lex tb11 = (tt11, none) := by kernel_rfl
theorem ta11 : allCells tt11 = tc11 := by kernel_rfl
def tb12 : List UInt8 := [116, 121, 112, 101, 32, 65, 32, 61, 32, 65, 59]
def tt12 : List Tok := [(0, 3, [116, 121, 112, 101], 0), (5, 2, [65], 0), (7, 6, [61], 0), (9, 2, [65], 0), (10, 6, [59], 0)]
def tc12 : List Value := [(.int .i64 (.ofNat 0)), (.int .i64 (.ofNat 3)), (.string ⟨⟨[116, 121, 112, 101]⟩⟩), (.int .i64 (.ofNat 0)), (.int .i64 (.ofNat 5)), (.int .i64 (.ofNat 2)), (.string ⟨⟨[65]⟩⟩), (.int .i64 (.ofNat 0)), (.int .i64 (.ofNat 7)), (.int .i64 (.ofNat 6)), (.string ⟨⟨[61]⟩⟩), (.int .i64 (.ofNat 0)), (.int .i64 (.ofNat 9)), (.int .i64 (.ofNat 2)), (.string ⟨⟨[65]⟩⟩), (.int .i64 (.ofNat 0)), (.int .i64 (.ofNat 10)), (.int .i64 (.ofNat 6)), (.string ⟨⟨[59]⟩⟩), (.int .i64 (.ofNat 0))]
theorem tl12 : lex tb12 = (tt12, none) := by kernel_rfl
theorem ta12 : allCells tt12 = tc12 := by kernel_rfl
def tb13 : List UInt8 := [109, 97, 105, 110, 32, 105, 110, 116, 32, 123, 32, 112, 114, 105, 110, 116, 32, 49, 59, 32, 114, 101, 116, 117, 114, 110, 32, 50, 59, 32, 125]
def tt13 : List Tok := [(0, 3, [109, 97, 105, 110], 0), (5, 3, [105, 110, 116], 0), (9, 6, [123], 0), (11, 3, [112, 114, 105, 110, 116], 0), (17, 4, [], 1), (18, 6, [59], 0), (20, 3, [114, 101, 116, 117, 114, 110], 0), (27, 4, [], 2), (28, 6, [59], 0), (30, 6, [125], 0)]
def tc13 : List Value := [(.int .i64 (.ofNat 0)), (.int .i64 (.ofNat 3)), (.string ⟨⟨[109, 97, 105, 110]⟩⟩), (.int .i64 (.ofNat 0)), (.int .i64 (.ofNat 5)), (.int .i64 (.ofNat 3)), (.string ⟨⟨[105, 110, 116]⟩⟩), (.int .i64 (.ofNat 0)), (.int .i64 (.ofNat 9)), (.int .i64 (.ofNat 6)), (.string ⟨⟨[123]⟩⟩), (.int .i64 (.ofNat 0)), (.int .i64 (.ofNat 11)), (.int .i64 (.ofNat 3)), (.string ⟨⟨[112, 114, 105, 110, 116]⟩⟩), (.int .i64 (.ofNat 0)), (.int .i64 (.ofNat 17)), (.int .i64 (.ofNat 4)), (.string ⟨⟨[]⟩⟩), (.int .i64 (.ofNat 1)), (.int .i64 (.ofNat 18)), (.int .i64 (.ofNat 6)), (.string ⟨⟨[59]⟩⟩), (.int .i64 (.ofNat 0)), (.int .i64 (.ofNat 20)), (.int .i64 (.ofNat 3)), (.string ⟨⟨[114, 101, 116, 117, 114, 110]⟩⟩), (.int .i64 (.ofNat 0)), (.int .i64 (.ofNat 27)), (.int .i64 (.ofNat 4)), (.string ⟨⟨[]⟩⟩), (.int .i64 (.ofNat 2)), (.int .i64 (.ofNat 28)), (.int .i64 (.ofNat 6)), (.string ⟨⟨[59]⟩⟩), (.int .i64 (.ofNat 0)), (.int .i64 (.ofNat 30)), (.int .i64 (.ofNat 6)), (.string ⟨⟨[125]⟩⟩), (.int .i64 (.ofNat 0))]
theorem tl13 : lex tb13 = (tt13, none) := by kernel_rfl
theorem ta13 : allCells tt13 = tc13 := by kernel_rfl
def tb14 : List UInt8 := []
def tt14 : List Tok := []
def tc14 : List Value := []
theorem tl14 : lex tb14 = (tt14, none) := by kernel_rfl
theorem ta14 : allCells tt14 = tc14 := by kernel_rfl
def lexT (l : List UInt8) : Option (Nat × List Value) := cond (bytesEq l tb0) (some (30, tc0)) (cond (bytesEq l tb1) (some (1, tc1)) (cond (bytesEq l tb2) (some (1, tc2)) (cond (bytesEq l tb3) (some (2, tc3)) (cond (bytesEq l tb4) (some (2, tc4)) (cond (bytesEq l tb5) (some (1, tc5)) (cond (bytesEq l tb6) (some (1, tc6)) (cond (bytesEq l tb7) (some (1, tc7)) (cond (bytesEq l tb8) (some (1, tc8)) (cond (bytesEq l tb9) (some (1, tc9)) (cond (bytesEq l tb10) (some (1, tc10)) (cond (bytesEq l tb11) (some (1, tc11)) (cond (bytesEq l tb12) (some (5, tc12)) (cond (bytesEq l tb13) (some (10, tc13)) (cond (bytesEq l tb14) (some (0, tc14)) (none)))))))))))))))
theorem lexT_ok {l : List UInt8} {n : Nat} {cs : List Value} (h : lexT l = some (n, cs)) : ∃ ts, lex l = (ts, none) ∧ ts.length = n ∧ allCells ts = cs ∧ l.length ≤ 100000 := by
  unfold lexT at h
  cases h0 : bytesEq l tb0 with
  | true =>
    rw [h0] at h
    obtain ⟨rfl, rfl⟩ := Prod.mk.inj (Option.some.inj h)
    obtain rfl : l = tb0 := by rw [bytesEq_eq] at h0; simpa using h0
    exact ⟨tt0, tl0, rfl, ta0, by decide⟩
  | false =>
  rw [h0] at h
  simp only [cond_false] at h
  cases h1 : bytesEq l tb1 with
  | true =>
    rw [h1] at h
    obtain ⟨rfl, rfl⟩ := Prod.mk.inj (Option.some.inj h)
    obtain rfl : l = tb1 := by rw [bytesEq_eq] at h1; simpa using h1
    exact ⟨tt1, tl1, rfl, ta1, by decide⟩
  | false =>
  rw [h1] at h
  simp only [cond_false] at h
  cases h2 : bytesEq l tb2 with
  | true =>
    rw [h2] at h
    obtain ⟨rfl, rfl⟩ := Prod.mk.inj (Option.some.inj h)
    obtain rfl : l = tb2 := by rw [bytesEq_eq] at h2; simpa using h2
    exact ⟨tt2, tl2, rfl, ta2, by decide⟩
  | false =>
  rw [h2] at h
  simp only [cond_false] at h
  cases h3 : bytesEq l tb3 with
  | true =>
    rw [h3] at h
    obtain ⟨rfl, rfl⟩ := Prod.mk.inj (Option.some.inj h)
    obtain rfl : l = tb3 := by rw [bytesEq_eq] at h3; simpa using h3
    exact ⟨tt3, tl3, rfl, ta3, by decide⟩
  | false =>
  rw [h3] at h
  simp only [cond_false] at h
  cases h4 : bytesEq l tb4 with
  | true =>
    rw [h4] at h
    obtain ⟨rfl, rfl⟩ := Prod.mk.inj (Option.some.inj h)
    obtain rfl : l = tb4 := by rw [bytesEq_eq] at h4; simpa using h4
    exact ⟨tt4, tl4, rfl, ta4, by decide⟩
  | false =>
  rw [h4] at h
  simp only [cond_false] at h
  cases h5 : bytesEq l tb5 with
  | true =>
    rw [h5] at h
    obtain ⟨rfl, rfl⟩ := Prod.mk.inj (Option.some.inj h)
    obtain rfl : l = tb5 := by rw [bytesEq_eq] at h5; simpa using h5
    exact ⟨tt5, tl5, rfl, ta5, by decide⟩
  | false =>
  rw [h5] at h
  simp only [cond_false] at h
  cases h6 : bytesEq l tb6 with
  | true =>
    rw [h6] at h
    obtain ⟨rfl, rfl⟩ := Prod.mk.inj (Option.some.inj h)
    obtain rfl : l = tb6 := by rw [bytesEq_eq] at h6; simpa using h6
    exact ⟨tt6, tl6, rfl, ta6, by decide⟩
  | false =>
  rw [h6] at h
  simp only [cond_false] at h
  cases h7 : bytesEq l tb7 with
  | true =>
    rw [h7] at h
    obtain ⟨rfl, rfl⟩ := Prod.mk.inj (Option.some.inj h)
    obtain rfl : l = tb7 := by rw [bytesEq_eq] at h7; simpa using h7
    exact ⟨tt7, tl7, rfl, ta7, by decide⟩
  | false =>
  rw [h7] at h
  simp only [cond_false] at h
  cases h8 : bytesEq l tb8 with
  | true =>
    rw [h8] at h
    obtain ⟨rfl, rfl⟩ := Prod.mk.inj (Option.some.inj h)
    obtain rfl : l = tb8 := by rw [bytesEq_eq] at h8; simpa using h8
    exact ⟨tt8, tl8, rfl, ta8, by decide⟩
  | false =>
  rw [h8] at h
  simp only [cond_false] at h
  cases h9 : bytesEq l tb9 with
  | true =>
    rw [h9] at h
    obtain ⟨rfl, rfl⟩ := Prod.mk.inj (Option.some.inj h)
    obtain rfl : l = tb9 := by rw [bytesEq_eq] at h9; simpa using h9
    exact ⟨tt9, tl9, rfl, ta9, by decide⟩
  | false =>
  rw [h9] at h
  simp only [cond_false] at h
  cases h10 : bytesEq l tb10 with
  | true =>
    rw [h10] at h
    obtain ⟨rfl, rfl⟩ := Prod.mk.inj (Option.some.inj h)
    obtain rfl : l = tb10 := by rw [bytesEq_eq] at h10; simpa using h10
    exact ⟨tt10, tl10, rfl, ta10, by decide⟩
  | false =>
  rw [h10] at h
  simp only [cond_false] at h
  cases h11 : bytesEq l tb11 with
  | true =>
    rw [h11] at h
    obtain ⟨rfl, rfl⟩ := Prod.mk.inj (Option.some.inj h)
    obtain rfl : l = tb11 := by rw [bytesEq_eq] at h11; simpa using h11
    exact ⟨tt11, tl11, rfl, ta11, by decide⟩
  | false =>
  rw [h11] at h
  simp only [cond_false] at h
  cases h12 : bytesEq l tb12 with
  | true =>
    rw [h12] at h
    obtain ⟨rfl, rfl⟩ := Prod.mk.inj (Option.some.inj h)
    obtain rfl : l = tb12 := by rw [bytesEq_eq] at h12; simpa using h12
    exact ⟨tt12, tl12, rfl, ta12, by decide⟩
  | false =>
  rw [h12] at h
  simp only [cond_false] at h
  cases h13 : bytesEq l tb13 with
  | true =>
    rw [h13] at h
    obtain ⟨rfl, rfl⟩ := Prod.mk.inj (Option.some.inj h)
    obtain rfl : l = tb13 := by rw [bytesEq_eq] at h13; simpa using h13
    exact ⟨tt13, tl13, rfl, ta13, by decide⟩
  | false =>
  rw [h13] at h
  simp only [cond_false] at h
  cases h14 : bytesEq l tb14 with
  | true =>
    rw [h14] at h
    obtain ⟨rfl, rfl⟩ := Prod.mk.inj (Option.some.inj h)
    obtain rfl : l = tb14 := by rw [bytesEq_eq] at h14; simpa using h14
    exact ⟨tt14, tl14, rfl, ta14, by decide⟩
  | false =>
  rw [h14] at h
  simp only [cond_false] at h
  cases h
theorem size_list (b : ByteArray) : b.size = b.data.toList.length := rfl
theorem tok_fn : CallOk Tryz.prog (fun f' args s k => cond (Nat.beq f' 179) (xTok 371 4 lexT args s k) false) := tok_ok (by kernel_rfl) (by decide) fun b n cs w h => by
  obtain ⟨ts, h1, h2, h3, h4⟩ := lexT_ok h
  have hb : b.size ≤ 140737488355328 := by rw [size_list]; omega
  refine (Tokens_any0 b hb w).mono fun ev W' hs => ?_
  refine ⟨hs.1, ?_⟩
  have h5 := hs.2
  rw [h1] at h5
  obtain ⟨v, e1, e2, e3⟩ := h5
  exact ⟨v, e1, by rw [← h2, ← h3]; exact e2, fun hz => e3 (List.length_eq_zero_iff.1 (h2.trans hz))⟩
end Go.Proofs.YtcofioeikpiabaaGreatDoor
