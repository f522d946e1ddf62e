/-
  What lex.Tokens answers at the texts that are asked for: the walk of package lex says it for every text, the kernel works it out for these.
-/
import Derived.Test.YteoeonhggmkmnaaGreatDoorTokens
import Derived.Test.YteoeonhggmkmnaaGreatDoorAmTk
import Derived.KernelRfl
namespace Go.Proofs.YteoeonhggmkmnaaGreatDoor
open Go Go.RowKit Go.Shelf Go.Proofs Am Lx

def tb0 : List UInt8 := [42, 123, 97, 32, 105, 110, 116, 59, 32, 101, 109, 98, 101, 100, 32, 98, 32, 66, 59, 125]
def tt0 : List Tok := [(0, 6, [42], 0), (1, 6, [123], 0), (2, 1, [97], 0), (4, 3, [105, 110, 116], 0), (7, 6, [59], 0), (9, 3, [101, 109, 98, 101, 100], 0), (15, 1, [98], 0), (17, 2, [66], 0), (18, 6, [59], 0), (19, 6, [125], 0)]
def tc0 : List Value := [(.int .i64 (.ofNat 0)), (.int .i64 (.ofNat 6)), (.string ⟨⟨[42]⟩⟩), (.int .i64 (.ofNat 0)), (.int .i64 (.ofNat 1)), (.int .i64 (.ofNat 6)), (.string ⟨⟨[123]⟩⟩), (.int .i64 (.ofNat 0)), (.int .i64 (.ofNat 2)), (.int .i64 (.ofNat 1)), (.string ⟨⟨[97]⟩⟩), (.int .i64 (.ofNat 0)), (.int .i64 (.ofNat 4)), (.int .i64 (.ofNat 3)), (.string ⟨⟨[105, 110, 116]⟩⟩), (.int .i64 (.ofNat 0)), (.int .i64 (.ofNat 7)), (.int .i64 (.ofNat 6)), (.string ⟨⟨[59]⟩⟩), (.int .i64 (.ofNat 0)), (.int .i64 (.ofNat 9)), (.int .i64 (.ofNat 3)), (.string ⟨⟨[101, 109, 98, 101, 100]⟩⟩), (.int .i64 (.ofNat 0)), (.int .i64 (.ofNat 15)), (.int .i64 (.ofNat 1)), (.string ⟨⟨[98]⟩⟩), (.int .i64 (.ofNat 0)), (.int .i64 (.ofNat 17)), (.int .i64 (.ofNat 2)), (.string ⟨⟨[66]⟩⟩), (.int .i64 (.ofNat 0)), (.int .i64 (.ofNat 18)), (.int .i64 (.ofNat 6)), (.string ⟨⟨[59]⟩⟩), (.int .i64 (.ofNat 0)), (.int .i64 (.ofNat 19)), (.int .i64 (.ofNat 6)), (.string ⟨⟨[125]⟩⟩), (.int .i64 (.ofNat 0))]
theorem tl0 : lex tb0 = (tt0, none) := by kernel_rfl
theorem ta0 : allCells tt0 = tc0 := by kernel_rfl
def tb1 : List UInt8 := [49, 43, 50, 42, 51]
def tt1 : List Tok := [(0, 4, [], 1), (1, 6, [43], 0), (2, 4, [], 2), (3, 6, [42], 0), (4, 4, [], 3)]
def tc1 : List Value := [(.int .i64 (.ofNat 0)), (.int .i64 (.ofNat 4)), (.string ⟨⟨[]⟩⟩), (.int .i64 (.ofNat 1)), (.int .i64 (.ofNat 1)), (.int .i64 (.ofNat 6)), (.string ⟨⟨[43]⟩⟩), (.int .i64 (.ofNat 0)), (.int .i64 (.ofNat 2)), (.int .i64 (.ofNat 4)), (.string ⟨⟨[]⟩⟩), (.int .i64 (.ofNat 2)), (.int .i64 (.ofNat 3)), (.int .i64 (.ofNat 6)), (.string ⟨⟨[42]⟩⟩), (.int .i64 (.ofNat 0)), (.int .i64 (.ofNat 4)), (.int .i64 (.ofNat 4)), (.string ⟨⟨[]⟩⟩), (.int .i64 (.ofNat 3))]
theorem tl1 : lex tb1 = (tt1, none) := by kernel_rfl
theorem ta1 : allCells tt1 = tc1 := by kernel_rfl
def tb2 : List UInt8 := [97, 46, 98, 40, 99, 41, 46, 100, 32, 116, 111, 32, 84]
def tt2 : List Tok := [(0, 1, [97], 0), (1, 6, [46], 0), (2, 1, [98], 0), (3, 6, [40], 0), (4, 1, [99], 0), (5, 6, [41], 0), (6, 6, [46], 0), (7, 1, [100], 0), (9, 3, [116, 111], 0), (12, 2, [84], 0)]
def tc2 : List Value := [(.int .i64 (.ofNat 0)), (.int .i64 (.ofNat 1)), (.string ⟨⟨[97]⟩⟩), (.int .i64 (.ofNat 0)), (.int .i64 (.ofNat 1)), (.int .i64 (.ofNat 6)), (.string ⟨⟨[46]⟩⟩), (.int .i64 (.ofNat 0)), (.int .i64 (.ofNat 2)), (.int .i64 (.ofNat 1)), (.string ⟨⟨[98]⟩⟩), (.int .i64 (.ofNat 0)), (.int .i64 (.ofNat 3)), (.int .i64 (.ofNat 6)), (.string ⟨⟨[40]⟩⟩), (.int .i64 (.ofNat 0)), (.int .i64 (.ofNat 4)), (.int .i64 (.ofNat 1)), (.string ⟨⟨[99]⟩⟩), (.int .i64 (.ofNat 0)), (.int .i64 (.ofNat 5)), (.int .i64 (.ofNat 6)), (.string ⟨⟨[41]⟩⟩), (.int .i64 (.ofNat 0)), (.int .i64 (.ofNat 6)), (.int .i64 (.ofNat 6)), (.string ⟨⟨[46]⟩⟩), (.int .i64 (.ofNat 0)), (.int .i64 (.ofNat 7)), (.int .i64 (.ofNat 1)), (.string ⟨⟨[100]⟩⟩), (.int .i64 (.ofNat 0)), (.int .i64 (.ofNat 9)), (.int .i64 (.ofNat 3)), (.string ⟨⟨[116, 111]⟩⟩), (.int .i64 (.ofNat 0)), (.int .i64 (.ofNat 12)), (.int .i64 (.ofNat 2)), (.string ⟨⟨[84]⟩⟩), (.int .i64 (.ofNat 0))]
theorem tl2 : lex tb2 = (tt2, none) := by kernel_rfl
theorem ta2 : allCells tt2 = tc2 := by kernel_rfl
def tb3 : List UInt8 := [97, 32, 61, 61, 32, 98, 32, 61, 61, 32, 99]
def tt3 : List Tok := [(0, 1, [97], 0), (2, 6, [61, 61], 0), (5, 1, [98], 0), (7, 6, [61, 61], 0), (10, 1, [99], 0)]
def tc3 : List Value := [(.int .i64 (.ofNat 0)), (.int .i64 (.ofNat 1)), (.string ⟨⟨[97]⟩⟩), (.int .i64 (.ofNat 0)), (.int .i64 (.ofNat 2)), (.int .i64 (.ofNat 6)), (.string ⟨⟨[61, 61]⟩⟩), (.int .i64 (.ofNat 0)), (.int .i64 (.ofNat 5)), (.int .i64 (.ofNat 1)), (.string ⟨⟨[98]⟩⟩), (.int .i64 (.ofNat 0)), (.int .i64 (.ofNat 7)), (.int .i64 (.ofNat 6)), (.string ⟨⟨[61, 61]⟩⟩), (.int .i64 (.ofNat 0)), (.int .i64 (.ofNat 10)), (.int .i64 (.ofNat 1)), (.string ⟨⟨[99]⟩⟩), (.int .i64 (.ofNat 0))]
theorem tl3 : lex tb3 = (tt3, none) := by kernel_rfl
theorem ta3 : allCells tt3 = tc3 := by kernel_rfl
def tb4 : List UInt8 := [110, 101, 119, 32, 80, 123, 120, 58, 32, 49, 44, 32, 120, 58, 32, 50, 125]
def tt4 : List Tok := [(0, 3, [110, 101, 119], 0), (4, 2, [80], 0), (5, 6, [123], 0), (6, 1, [120], 0), (7, 6, [58], 0), (9, 4, [], 1), (10, 6, [44], 0), (12, 1, [120], 0), (13, 6, [58], 0), (15, 4, [], 2), (16, 6, [125], 0)]
def tc4 : List Value := [(.int .i64 (.ofNat 0)), (.int .i64 (.ofNat 3)), (.string ⟨⟨[110, 101, 119]⟩⟩), (.int .i64 (.ofNat 0)), (.int .i64 (.ofNat 4)), (.int .i64 (.ofNat 2)), (.string ⟨⟨[80]⟩⟩), (.int .i64 (.ofNat 0)), (.int .i64 (.ofNat 5)), (.int .i64 (.ofNat 6)), (.string ⟨⟨[123]⟩⟩), (.int .i64 (.ofNat 0)), (.int .i64 (.ofNat 6)), (.int .i64 (.ofNat 1)), (.string ⟨⟨[120]⟩⟩), (.int .i64 (.ofNat 0)), (.int .i64 (.ofNat 7)), (.int .i64 (.ofNat 6)), (.string ⟨⟨[58]⟩⟩), (.int .i64 (.ofNat 0)), (.int .i64 (.ofNat 9)), (.int .i64 (.ofNat 4)), (.string ⟨⟨[]⟩⟩), (.int .i64 (.ofNat 1)), (.int .i64 (.ofNat 10)), (.int .i64 (.ofNat 6)), (.string ⟨⟨[44]⟩⟩), (.int .i64 (.ofNat 0)), (.int .i64 (.ofNat 12)), (.int .i64 (.ofNat 1)), (.string ⟨⟨[120]⟩⟩), (.int .i64 (.ofNat 0)), (.int .i64 (.ofNat 13)), (.int .i64 (.ofNat 6)), (.string ⟨⟨[58]⟩⟩), (.int .i64 (.ofNat 0)), (.int .i64 (.ofNat 15)), (.int .i64 (.ofNat 4)), (.string ⟨⟨[]⟩⟩), (.int .i64 (.ofNat 2)), (.int .i64 (.ofNat 16)), (.int .i64 (.ofNat 6)), (.string ⟨⟨[125]⟩⟩), (.int .i64 (.ofNat 0))]
theorem tl4 : lex tb4 = (tt4, none) := by kernel_rfl
theorem ta4 : allCells tt4 = tc4 := by kernel_rfl
def tb5 : List UInt8 := [80, 123, 120, 32, 49, 125]
def tt5 : List Tok := [(0, 2, [80], 0), (1, 6, [123], 0), (2, 1, [120], 0), (4, 4, [], 1), (5, 6, [125], 0)]
def tc5 : List Value := [(.int .i64 (.ofNat 0)), (.int .i64 (.ofNat 2)), (.string ⟨⟨[80]⟩⟩), (.int .i64 (.ofNat 0)), (.int .i64 (.ofNat 1)), (.int .i64 (.ofNat 6)), (.string ⟨⟨[123]⟩⟩), (.int .i64 (.ofNat 0)), (.int .i64 (.ofNat 2)), (.int .i64 (.ofNat 1)), (.string ⟨⟨[120]⟩⟩), (.int .i64 (.ofNat 0)), (.int .i64 (.ofNat 4)), (.int .i64 (.ofNat 4)), (.string ⟨⟨[]⟩⟩), (.int .i64 (.ofNat 1)), (.int .i64 (.ofNat 5)), (.int .i64 (.ofNat 6)), (.string ⟨⟨[125]⟩⟩), (.int .i64 (.ofNat 0))]
theorem tl5 : lex tb5 = (tt5, none) := by kernel_rfl
theorem ta5 : allCells tt5 = tc5 := by kernel_rfl
def tb6 : List UInt8 := [80, 123]
def tt6 : List Tok := [(0, 2, [80], 0), (1, 6, [123], 0)]
def tc6 : List Value := [(.int .i64 (.ofNat 0)), (.int .i64 (.ofNat 2)), (.string ⟨⟨[80]⟩⟩), (.int .i64 (.ofNat 0)), (.int .i64 (.ofNat 1)), (.int .i64 (.ofNat 6)), (.string ⟨⟨[123]⟩⟩), (.int .i64 (.ofNat 0))]
theorem tl6 : lex tb6 = (tt6, none) := by kernel_rfl
theorem ta6 : allCells tt6 = tc6 := by kernel_rfl
def tb7 : List UInt8 := [97, 32, 61, 32, 49, 59, 32, 97, 46, 98, 40, 41, 59]
def tt7 : List Tok := [(0, 1, [97], 0), (2, 6, [61], 0), (4, 4, [], 1), (5, 6, [59], 0), (7, 1, [97], 0), (8, 6, [46], 0), (9, 1, [98], 0), (10, 6, [40], 0), (11, 6, [41], 0), (12, 6, [59], 0)]
def tc7 : List Value := [(.int .i64 (.ofNat 0)), (.int .i64 (.ofNat 1)), (.string ⟨⟨[97]⟩⟩), (.int .i64 (.ofNat 0)), (.int .i64 (.ofNat 2)), (.int .i64 (.ofNat 6)), (.string ⟨⟨[61]⟩⟩), (.int .i64 (.ofNat 0)), (.int .i64 (.ofNat 4)), (.int .i64 (.ofNat 4)), (.string ⟨⟨[]⟩⟩), (.int .i64 (.ofNat 1)), (.int .i64 (.ofNat 5)), (.int .i64 (.ofNat 6)), (.string ⟨⟨[59]⟩⟩), (.int .i64 (.ofNat 0)), (.int .i64 (.ofNat 7)), (.int .i64 (.ofNat 1)), (.string ⟨⟨[97]⟩⟩), (.int .i64 (.ofNat 0)), (.int .i64 (.ofNat 8)), (.int .i64 (.ofNat 6)), (.string ⟨⟨[46]⟩⟩), (.int .i64 (.ofNat 0)), (.int .i64 (.ofNat 9)), (.int .i64 (.ofNat 1)), (.string ⟨⟨[98]⟩⟩), (.int .i64 (.ofNat 0)), (.int .i64 (.ofNat 10)), (.int .i64 (.ofNat 6)), (.string ⟨⟨[40]⟩⟩), (.int .i64 (.ofNat 0)), (.int .i64 (.ofNat 11)), (.int .i64 (.ofNat 6)), (.string ⟨⟨[41]⟩⟩), (.int .i64 (.ofNat 0)), (.int .i64 (.ofNat 12)), (.int .i64 (.ofNat 6)), (.string ⟨⟨[59]⟩⟩), (.int .i64 (.ofNat 0))]
theorem tl7 : lex tb7 = (tt7, none) := by kernel_rfl
theorem ta7 : allCells tt7 = tc7 := by kernel_rfl
def tb8 : List UInt8 := [97, 32, 61, 32, 59]
def tt8 : List Tok := [(0, 1, [97], 0), (2, 6, [61], 0), (4, 6, [59], 0)]
def tc8 : List Value := [(.int .i64 (.ofNat 0)), (.int .i64 (.ofNat 1)), (.string ⟨⟨[97]⟩⟩), (.int .i64 (.ofNat 0)), (.int .i64 (.ofNat 2)), (.int .i64 (.ofNat 6)), (.string ⟨⟨[61]⟩⟩), (.int .i64 (.ofNat 0)), (.int .i64 (.ofNat 4)), (.int .i64 (.ofNat 6)), (.string ⟨⟨[59]⟩⟩), (.int .i64 (.ofNat 0))]
theorem tl8 : lex tb8 = (tt8, none) := by kernel_rfl
theorem ta8 : allCells tt8 = tc8 := by kernel_rfl
def tb9 : List UInt8 := []
def tt9 : List Tok := []
def tc9 : List Value := []
theorem tl9 : lex tb9 = (tt9, none) := by kernel_rfl
theorem ta9 : allCells tt9 = tc9 := by kernel_rfl
def tb10 : List UInt8 := [109, 97, 105, 110, 32, 105, 110, 116, 32, 123, 32, 114, 101, 116, 117, 114, 110, 32, 48, 59, 32, 125, 32, 120]
def tt10 : List Tok := [(0, 3, [109, 97, 105, 110], 0), (5, 3, [105, 110, 116], 0), (9, 6, [123], 0), (11, 3, [114, 101, 116, 117, 114, 110], 0), (18, 4, [], 0), (19, 6, [59], 0), (21, 6, [125], 0), (23, 1, [120], 0)]
def tc10 : List Value := [(.int .i64 (.ofNat 0)), (.int .i64 (.ofNat 3)), (.string ⟨⟨[109, 97, 105, 110]⟩⟩), (.int .i64 (.ofNat 0)), (.int .i64 (.ofNat 5)), (.int .i64 (.ofNat 3)), (.string ⟨⟨[105, 110, 116]⟩⟩), (.int .i64 (.ofNat 0)), (.int .i64 (.ofNat 9)), (.int .i64 (.ofNat 6)), (.string ⟨⟨[123]⟩⟩), (.int .i64 (.ofNat 0)), (.int .i64 (.ofNat 11)), (.int .i64 (.ofNat 3)), (.string ⟨⟨[114, 101, 116, 117, 114, 110]⟩⟩), (.int .i64 (.ofNat 0)), (.int .i64 (.ofNat 18)), (.int .i64 (.ofNat 4)), (.string ⟨⟨[]⟩⟩), (.int .i64 (.ofNat 0)), (.int .i64 (.ofNat 19)), (.int .i64 (.ofNat 6)), (.string ⟨⟨[59]⟩⟩), (.int .i64 (.ofNat 0)), (.int .i64 (.ofNat 21)), (.int .i64 (.ofNat 6)), (.string ⟨⟨[125]⟩⟩), (.int .i64 (.ofNat 0)), (.int .i64 (.ofNat 23)), (.int .i64 (.ofNat 1)), (.string ⟨⟨[120]⟩⟩), (.int .i64 (.ofNat 0))]
theorem tl10 : lex tb10 = (tt10, none) := by kernel_rfl
theorem ta10 : allCells tt10 = tc10 := by kernel_rfl
def tb11 : List UInt8 := [105, 110, 116, 101, 114, 102, 97, 99, 101, 32, 123, 97, 40, 105, 110, 116, 41, 32, 66, 59, 32, 97, 40, 41, 32, 66, 59, 125]
def tt11 : List Tok := [(0, 3, [105, 110, 116, 101, 114, 102, 97, 99, 101], 0), (10, 6, [123], 0), (11, 1, [97], 0), (12, 6, [40], 0), (13, 3, [105, 110, 116], 0), (16, 6, [41], 0), (18, 2, [66], 0), (19, 6, [59], 0), (21, 1, [97], 0), (22, 6, [40], 0), (23, 6, [41], 0), (25, 2, [66], 0), (26, 6, [59], 0), (27, 6, [125], 0)]
def tc11 : List Value := [(.int .i64 (.ofNat 0)), (.int .i64 (.ofNat 3)), (.string ⟨⟨[105, 110, 116, 101, 114, 102, 97, 99, 101]⟩⟩), (.int .i64 (.ofNat 0)), (.int .i64 (.ofNat 10)), (.int .i64 (.ofNat 6)), (.string ⟨⟨[123]⟩⟩), (.int .i64 (.ofNat 0)), (.int .i64 (.ofNat 11)), (.int .i64 (.ofNat 1)), (.string ⟨⟨[97]⟩⟩), (.int .i64 (.ofNat 0)), (.int .i64 (.ofNat 12)), (.int .i64 (.ofNat 6)), (.string ⟨⟨[40]⟩⟩), (.int .i64 (.ofNat 0)), (.int .i64 (.ofNat 13)), (.int .i64 (.ofNat 3)), (.string ⟨⟨[105, 110, 116]⟩⟩), (.int .i64 (.ofNat 0)), (.int .i64 (.ofNat 16)), (.int .i64 (.ofNat 6)), (.string ⟨⟨[41]⟩⟩), (.int .i64 (.ofNat 0)), (.int .i64 (.ofNat 18)), (.int .i64 (.ofNat 2)), (.string ⟨⟨[66]⟩⟩), (.int .i64 (.ofNat 0)), (.int .i64 (.ofNat 19)), (.int .i64 (.ofNat 6)), (.string ⟨⟨[59]⟩⟩), (.int .i64 (.ofNat 0)), (.int .i64 (.ofNat 21)), (.int .i64 (.ofNat 1)), (.string ⟨⟨[97]⟩⟩), (.int .i64 (.ofNat 0)), (.int .i64 (.ofNat 22)), (.int .i64 (.ofNat 6)), (.string ⟨⟨[40]⟩⟩), (.int .i64 (.ofNat 0)), (.int .i64 (.ofNat 23)), (.int .i64 (.ofNat 6)), (.string ⟨⟨[41]⟩⟩), (.int .i64 (.ofNat 0)), (.int .i64 (.ofNat 25)), (.int .i64 (.ofNat 2)), (.string ⟨⟨[66]⟩⟩), (.int .i64 (.ofNat 0)), (.int .i64 (.ofNat 26)), (.int .i64 (.ofNat 6)), (.string ⟨⟨[59]⟩⟩), (.int .i64 (.ofNat 0)), (.int .i64 (.ofNat 27)), (.int .i64 (.ofNat 6)), (.string ⟨⟨[125]⟩⟩), (.int .i64 (.ofNat 0))]
theorem tl11 : lex tb11 = (tt11, none) := by kernel_rfl
theorem ta11 : allCells tt11 = tc11 := by kernel_rfl
def tb12 : List UInt8 := [109, 97, 105, 110, 32, 105, 110, 116, 32, 123, 32, 114, 101, 116, 117, 114, 110, 32, 48, 59, 32, 125]
def tt12 : List Tok := [(0, 3, [109, 97, 105, 110], 0), (5, 3, [105, 110, 116], 0), (9, 6, [123], 0), (11, 3, [114, 101, 116, 117, 114, 110], 0), (18, 4, [], 0), (19, 6, [59], 0), (21, 6, [125], 0)]
def tc12 : List Value := [(.int .i64 (.ofNat 0)), (.int .i64 (.ofNat 3)), (.string ⟨⟨[109, 97, 105, 110]⟩⟩), (.int .i64 (.ofNat 0)), (.int .i64 (.ofNat 5)), (.int .i64 (.ofNat 3)), (.string ⟨⟨[105, 110, 116]⟩⟩), (.int .i64 (.ofNat 0)), (.int .i64 (.ofNat 9)), (.int .i64 (.ofNat 6)), (.string ⟨⟨[123]⟩⟩), (.int .i64 (.ofNat 0)), (.int .i64 (.ofNat 11)), (.int .i64 (.ofNat 3)), (.string ⟨⟨[114, 101, 116, 117, 114, 110]⟩⟩), (.int .i64 (.ofNat 0)), (.int .i64 (.ofNat 18)), (.int .i64 (.ofNat 4)), (.string ⟨⟨[]⟩⟩), (.int .i64 (.ofNat 0)), (.int .i64 (.ofNat 19)), (.int .i64 (.ofNat 6)), (.string ⟨⟨[59]⟩⟩), (.int .i64 (.ofNat 0)), (.int .i64 (.ofNat 21)), (.int .i64 (.ofNat 6)), (.string ⟨⟨[125]⟩⟩), (.int .i64 (.ofNat 0))]
theorem tl12 : lex tb12 = (tt12, none) := by kernel_rfl
theorem ta12 : allCells tt12 = tc12 := by kernel_rfl
def tb13 : List UInt8 := [40, 40, 40, 40, 40, 40, 40, 40, 40, 40, 40, 40, 40, 40, 40, 40, 40, 40, 40, 40, 40, 40, 40, 40, 40, 40, 40, 40, 40, 40, 40, 40, 40, 40, 40, 40, 40, 40, 40, 40, 40, 40, 40, 40, 40, 40, 40, 40, 40, 40, 40, 40, 40, 40, 40, 40, 40, 40, 40, 40, 40, 40, 40, 40, 40]
def tt13 : List Tok := [(0, 6, [40], 0), (1, 6, [40], 0), (2, 6, [40], 0), (3, 6, [40], 0), (4, 6, [40], 0), (5, 6, [40], 0), (6, 6, [40], 0), (7, 6, [40], 0), (8, 6, [40], 0), (9, 6, [40], 0), (10, 6, [40], 0), (11, 6, [40], 0), (12, 6, [40], 0), (13, 6, [40], 0), (14, 6, [40], 0), (15, 6, [40], 0), (16, 6, [40], 0), (17, 6, [40], 0), (18, 6, [40], 0), (19, 6, [40], 0), (20, 6, [40], 0), (21, 6, [40], 0), (22, 6, [40], 0), (23, 6, [40], 0), (24, 6, [40], 0), (25, 6, [40], 0), (26, 6, [40], 0), (27, 6, [40], 0), (28, 6, [40], 0), (29, 6, [40], 0), (30, 6, [40], 0), (31, 6, [40], 0), (32, 6, [40], 0), (33, 6, [40], 0), (34, 6, [40], 0), (35, 6, [40], 0), (36, 6, [40], 0), (37, 6, [40], 0), (38, 6, [40], 0), (39, 6, [40], 0), (40, 6, [40], 0), (41, 6, [40], 0), (42, 6, [40], 0), (43, 6, [40], 0), (44, 6, [40], 0), (45, 6, [40], 0), (46, 6, [40], 0), (47, 6, [40], 0), (48, 6, [40], 0), (49, 6, [40], 0), (50, 6, [40], 0), (51, 6, [40], 0), (52, 6, [40], 0), (53, 6, [40], 0), (54, 6, [40], 0), (55, 6, [40], 0), (56, 6, [40], 0), (57, 6, [40], 0), (58, 6, [40], 0), (59, 6, [40], 0), (60, 6, [40], 0), (61, 6, [40], 0), (62, 6, [40], 0), (63, 6, [40], 0), (64, 6, [40], 0)]
def tc13 : List Value := [(.int .i64 (.ofNat 0)), (.int .i64 (.ofNat 6)), (.string ⟨⟨[40]⟩⟩), (.int .i64 (.ofNat 0)), (.int .i64 (.ofNat 1)), (.int .i64 (.ofNat 6)), (.string ⟨⟨[40]⟩⟩), (.int .i64 (.ofNat 0)), (.int .i64 (.ofNat 2)), (.int .i64 (.ofNat 6)), (.string ⟨⟨[40]⟩⟩), (.int .i64 (.ofNat 0)), (.int .i64 (.ofNat 3)), (.int .i64 (.ofNat 6)), (.string ⟨⟨[40]⟩⟩), (.int .i64 (.ofNat 0)), (.int .i64 (.ofNat 4)), (.int .i64 (.ofNat 6)), (.string ⟨⟨[40]⟩⟩), (.int .i64 (.ofNat 0)), (.int .i64 (.ofNat 5)), (.int .i64 (.ofNat 6)), (.string ⟨⟨[40]⟩⟩), (.int .i64 (.ofNat 0)), (.int .i64 (.ofNat 6)), (.int .i64 (.ofNat 6)), (.string ⟨⟨[40]⟩⟩), (.int .i64 (.ofNat 0)), (.int .i64 (.ofNat 7)), (.int .i64 (.ofNat 6)), (.string ⟨⟨[40]⟩⟩), (.int .i64 (.ofNat 0)), (.int .i64 (.ofNat 8)), (.int .i64 (.ofNat 6)), (.string ⟨⟨[40]⟩⟩), (.int .i64 (.ofNat 0)), (.int .i64 (.ofNat 9)), (.int .i64 (.ofNat 6)), (.string ⟨⟨[40]⟩⟩), (.int .i64 (.ofNat 0)), (.int .i64 (.ofNat 10)), (.int .i64 (.ofNat 6)), (.string ⟨⟨[40]⟩⟩), (.int .i64 (.ofNat 0)), (.int .i64 (.ofNat 11)), (.int .i64 (.ofNat 6)), (.string ⟨⟨[40]⟩⟩), (.int .i64 (.ofNat 0)), (.int .i64 (.ofNat 12)), (.int .i64 (.ofNat 6)), (.string ⟨⟨[40]⟩⟩), (.int .i64 (.ofNat 0)), (.int .i64 (.ofNat 13)), (.int .i64 (.ofNat 6)), (.string ⟨⟨[40]⟩⟩), (.int .i64 (.ofNat 0)), (.int .i64 (.ofNat 14)), (.int .i64 (.ofNat 6)), (.string ⟨⟨[40]⟩⟩), (.int .i64 (.ofNat 0)), (.int .i64 (.ofNat 15)), (.int .i64 (.ofNat 6)), (.string ⟨⟨[40]⟩⟩), (.int .i64 (.ofNat 0)), (.int .i64 (.ofNat 16)), (.int .i64 (.ofNat 6)), (.string ⟨⟨[40]⟩⟩), (.int .i64 (.ofNat 0)), (.int .i64 (.ofNat 17)), (.int .i64 (.ofNat 6)), (.string ⟨⟨[40]⟩⟩), (.int .i64 (.ofNat 0)), (.int .i64 (.ofNat 18)), (.int .i64 (.ofNat 6)), (.string ⟨⟨[40]⟩⟩), (.int .i64 (.ofNat 0)), (.int .i64 (.ofNat 19)), (.int .i64 (.ofNat 6)), (.string ⟨⟨[40]⟩⟩), (.int .i64 (.ofNat 0)), (.int .i64 (.ofNat 20)), (.int .i64 (.ofNat 6)), (.string ⟨⟨[40]⟩⟩), (.int .i64 (.ofNat 0)), (.int .i64 (.ofNat 21)), (.int .i64 (.ofNat 6)), (.string ⟨⟨[40]⟩⟩), (.int .i64 (.ofNat 0)), (.int .i64 (.ofNat 22)), (.int .i64 (.ofNat 6)), (.string ⟨⟨[40]⟩⟩), (.int .i64 (.ofNat 0)), (.int .i64 (.ofNat 23)), (.int .i64 (.ofNat 6)), (.string ⟨⟨[40]⟩⟩), (.int .i64 (.ofNat 0)), (.int .i64 (.ofNat 24)), (.int .i64 (.ofNat 6)), (.string ⟨⟨[40]⟩⟩), (.int .i64 (.ofNat 0)), (.int .i64 (.ofNat 25)), (.int .i64 (.ofNat 6)), (.string ⟨⟨[40]⟩⟩), (.int .i64 (.ofNat 0)), (.int .i64 (.ofNat 26)), (.int .i64 (.ofNat 6)), (.string ⟨⟨[40]⟩⟩), (.int .i64 (.ofNat 0)), (.int .i64 (.ofNat 27)), (.int .i64 (.ofNat 6)), (.string ⟨⟨[40]⟩⟩), (.int .i64 (.ofNat 0)), (.int .i64 (.ofNat 28)), (.int .i64 (.ofNat 6)), (.string ⟨⟨[40]⟩⟩), (.int .i64 (.ofNat 0)), (.int .i64 (.ofNat 29)), (.int .i64 (.ofNat 6)), (.string ⟨⟨[40]⟩⟩), (.int .i64 (.ofNat 0)), (.int .i64 (.ofNat 30)), (.int .i64 (.ofNat 6)), (.string ⟨⟨[40]⟩⟩), (.int .i64 (.ofNat 0)), (.int .i64 (.ofNat 31)), (.int .i64 (.ofNat 6)), (.string ⟨⟨[40]⟩⟩), (.int .i64 (.ofNat 0)), (.int .i64 (.ofNat 32)), (.int .i64 (.ofNat 6)), (.string ⟨⟨[40]⟩⟩), (.int .i64 (.ofNat 0)), (.int .i64 (.ofNat 33)), (.int .i64 (.ofNat 6)), (.string ⟨⟨[40]⟩⟩), (.int .i64 (.ofNat 0)), (.int .i64 (.ofNat 34)), (.int .i64 (.ofNat 6)), (.string ⟨⟨[40]⟩⟩), (.int .i64 (.ofNat 0)), (.int .i64 (.ofNat 35)), (.int .i64 (.ofNat 6)), (.string ⟨⟨[40]⟩⟩), (.int .i64 (.ofNat 0)), (.int .i64 (.ofNat 36)), (.int .i64 (.ofNat 6)), (.string ⟨⟨[40]⟩⟩), (.int .i64 (.ofNat 0)), (.int .i64 (.ofNat 37)), (.int .i64 (.ofNat 6)), (.string ⟨⟨[40]⟩⟩), (.int .i64 (.ofNat 0)), (.int .i64 (.ofNat 38)), (.int .i64 (.ofNat 6)), (.string ⟨⟨[40]⟩⟩), (.int .i64 (.ofNat 0)), (.int .i64 (.ofNat 39)), (.int .i64 (.ofNat 6)), (.string ⟨⟨[40]⟩⟩), (.int .i64 (.ofNat 0)), (.int .i64 (.ofNat 40)), (.int .i64 (.ofNat 6)), (.string ⟨⟨[40]⟩⟩), (.int .i64 (.ofNat 0)), (.int .i64 (.ofNat 41)), (.int .i64 (.ofNat 6)), (.string ⟨⟨[40]⟩⟩), (.int .i64 (.ofNat 0)), (.int .i64 (.ofNat 42)), (.int .i64 (.ofNat 6)), (.string ⟨⟨[40]⟩⟩), (.int .i64 (.ofNat 0)), (.int .i64 (.ofNat 43)), (.int .i64 (.ofNat 6)), (.string ⟨⟨[40]⟩⟩), (.int .i64 (.ofNat 0)), (.int .i64 (.ofNat 44)), (.int .i64 (.ofNat 6)), (.string ⟨⟨[40]⟩⟩), (.int .i64 (.ofNat 0)), (.int .i64 (.ofNat 45)), (.int .i64 (.ofNat 6)), (.string ⟨⟨[40]⟩⟩), (.int .i64 (.ofNat 0)), (.int .i64 (.ofNat 46)), (.int .i64 (.ofNat 6)), (.string ⟨⟨[40]⟩⟩), (.int .i64 (.ofNat 0)), (.int .i64 (.ofNat 47)), (.int .i64 (.ofNat 6)), (.string ⟨⟨[40]⟩⟩), (.int .i64 (.ofNat 0)), (.int .i64 (.ofNat 48)), (.int .i64 (.ofNat 6)), (.string ⟨⟨[40]⟩⟩), (.int .i64 (.ofNat 0)), (.int .i64 (.ofNat 49)), (.int .i64 (.ofNat 6)), (.string ⟨⟨[40]⟩⟩), (.int .i64 (.ofNat 0)), (.int .i64 (.ofNat 50)), (.int .i64 (.ofNat 6)), (.string ⟨⟨[40]⟩⟩), (.int .i64 (.ofNat 0)), (.int .i64 (.ofNat 51)), (.int .i64 (.ofNat 6)), (.string ⟨⟨[40]⟩⟩), (.int .i64 (.ofNat 0)), (.int .i64 (.ofNat 52)), (.int .i64 (.ofNat 6)), (.string ⟨⟨[40]⟩⟩), (.int .i64 (.ofNat 0)), (.int .i64 (.ofNat 53)), (.int .i64 (.ofNat 6)), (.string ⟨⟨[40]⟩⟩), (.int .i64 (.ofNat 0)), (.int .i64 (.ofNat 54)), (.int .i64 (.ofNat 6)), (.string ⟨⟨[40]⟩⟩), (.int .i64 (.ofNat 0)), (.int .i64 (.ofNat 55)), (.int .i64 (.ofNat 6)), (.string ⟨⟨[40]⟩⟩), (.int .i64 (.ofNat 0)), (.int .i64 (.ofNat 56)), (.int .i64 (.ofNat 6)), (.string ⟨⟨[40]⟩⟩), (.int .i64 (.ofNat 0)), (.int .i64 (.ofNat 57)), (.int .i64 (.ofNat 6)), (.string ⟨⟨[40]⟩⟩), (.int .i64 (.ofNat 0)), (.int .i64 (.ofNat 58)), (.int .i64 (.ofNat 6)), (.string ⟨⟨[40]⟩⟩), (.int .i64 (.ofNat 0)), (.int .i64 (.ofNat 59)), (.int .i64 (.ofNat 6)), (.string ⟨⟨[40]⟩⟩), (.int .i64 (.ofNat 0)), (.int .i64 (.ofNat 60)), (.int .i64 (.ofNat 6)), (.string ⟨⟨[40]⟩⟩), (.int .i64 (.ofNat 0)), (.int .i64 (.ofNat 61)), (.int .i64 (.ofNat 6)), (.string ⟨⟨[40]⟩⟩), (.int .i64 (.ofNat 0)), (.int .i64 (.ofNat 62)), (.int .i64 (.ofNat 6)), (.string ⟨⟨[40]⟩⟩), (.int .i64 (.ofNat 0)), (.int .i64 (.ofNat 63)), (.int .i64 (.ofNat 6)), (.string ⟨⟨[40]⟩⟩), (.int .i64 (.ofNat 0)), (.int .i64 (.ofNat 64)), (.int .i64 (.ofNat 6)), (.string ⟨⟨[40]⟩⟩), (.int .i64 (.ofNat 0))]
theorem tl13 : lex tb13 = (tt13, none) := by kernel_rfl
theorem ta13 : allCells tt13 = tc13 := by kernel_rfl
def tb14 : List UInt8 := [116, 121, 112, 101, 32, 65, 32, 61, 32, 105, 110, 116, 59]
def tt14 : List Tok := [(0, 3, [116, 121, 112, 101], 0), (5, 2, [65], 0), (7, 6, [61], 0), (9, 3, [105, 110, 116], 0), (12, 6, [59], 0)]
def tc14 : List Value := [(.int .i64 (.ofNat 0)), (.int .i64 (.ofNat 3)), (.string ⟨⟨[116, 121, 112, 101]⟩⟩), (.int .i64 (.ofNat 0)), (.int .i64 (.ofNat 5)), (.int .i64 (.ofNat 2)), (.string ⟨⟨[65]⟩⟩), (.int .i64 (.ofNat 0)), (.int .i64 (.ofNat 7)), (.int .i64 (.ofNat 6)), (.string ⟨⟨[61]⟩⟩), (.int .i64 (.ofNat 0)), (.int .i64 (.ofNat 9)), (.int .i64 (.ofNat 3)), (.string ⟨⟨[105, 110, 116]⟩⟩), (.int .i64 (.ofNat 0)), (.int .i64 (.ofNat 12)), (.int .i64 (.ofNat 6)), (.string ⟨⟨[59]⟩⟩), (.int .i64 (.ofNat 0))]
theorem tl14 : lex tb14 = (tt14, none) := by kernel_rfl
theorem ta14 : allCells tt14 = tc14 := by kernel_rfl
def tb15 : List UInt8 := [109, 101, 116, 104, 111, 100, 32, 65, 46, 109, 40, 41, 32, 105, 110, 116, 32, 123, 125, 32, 116, 121, 112, 101, 32, 66, 32, 61, 32, 65, 59]
def tt15 : List Tok := [(0, 3, [109, 101, 116, 104, 111, 100], 0), (7, 2, [65], 0), (8, 6, [46], 0), (9, 1, [109], 0), (10, 6, [40], 0), (11, 6, [41], 0), (13, 3, [105, 110, 116], 0), (17, 6, [123], 0), (18, 6, [125], 0), (20, 3, [116, 121, 112, 101], 0), (25, 2, [66], 0), (27, 6, [61], 0), (29, 2, [65], 0), (30, 6, [59], 0)]
def tc15 : List Value := [(.int .i64 (.ofNat 0)), (.int .i64 (.ofNat 3)), (.string ⟨⟨[109, 101, 116, 104, 111, 100]⟩⟩), (.int .i64 (.ofNat 0)), (.int .i64 (.ofNat 7)), (.int .i64 (.ofNat 2)), (.string ⟨⟨[65]⟩⟩), (.int .i64 (.ofNat 0)), (.int .i64 (.ofNat 8)), (.int .i64 (.ofNat 6)), (.string ⟨⟨[46]⟩⟩), (.int .i64 (.ofNat 0)), (.int .i64 (.ofNat 9)), (.int .i64 (.ofNat 1)), (.string ⟨⟨[109]⟩⟩), (.int .i64 (.ofNat 0)), (.int .i64 (.ofNat 10)), (.int .i64 (.ofNat 6)), (.string ⟨⟨[40]⟩⟩), (.int .i64 (.ofNat 0)), (.int .i64 (.ofNat 11)), (.int .i64 (.ofNat 6)), (.string ⟨⟨[41]⟩⟩), (.int .i64 (.ofNat 0)), (.int .i64 (.ofNat 13)), (.int .i64 (.ofNat 3)), (.string ⟨⟨[105, 110, 116]⟩⟩), (.int .i64 (.ofNat 0)), (.int .i64 (.ofNat 17)), (.int .i64 (.ofNat 6)), (.string ⟨⟨[123]⟩⟩), (.int .i64 (.ofNat 0)), (.int .i64 (.ofNat 18)), (.int .i64 (.ofNat 6)), (.string ⟨⟨[125]⟩⟩), (.int .i64 (.ofNat 0)), (.int .i64 (.ofNat 20)), (.int .i64 (.ofNat 3)), (.string ⟨⟨[116, 121, 112, 101]⟩⟩), (.int .i64 (.ofNat 0)), (.int .i64 (.ofNat 25)), (.int .i64 (.ofNat 2)), (.string ⟨⟨[66]⟩⟩), (.int .i64 (.ofNat 0)), (.int .i64 (.ofNat 27)), (.int .i64 (.ofNat 6)), (.string ⟨⟨[61]⟩⟩), (.int .i64 (.ofNat 0)), (.int .i64 (.ofNat 29)), (.int .i64 (.ofNat 2)), (.string ⟨⟨[65]⟩⟩), (.int .i64 (.ofNat 0)), (.int .i64 (.ofNat 30)), (.int .i64 (.ofNat 6)), (.string ⟨⟨[59]⟩⟩), (.int .i64 (.ofNat 0))]
theorem tl15 : lex tb15 = (tt15, none) := by kernel_rfl
theorem ta15 : allCells tt15 = tc15 := by kernel_rfl
def tb16 : List UInt8 := [112, 32, 42, 32, 113, 32, 42, 32, 114]
def tt16 : List Tok := [(0, 1, [112], 0), (2, 6, [42], 0), (4, 1, [113], 0), (6, 6, [42], 0), (8, 1, [114], 0)]
def tc16 : List Value := [(.int .i64 (.ofNat 0)), (.int .i64 (.ofNat 1)), (.string ⟨⟨[112]⟩⟩), (.int .i64 (.ofNat 0)), (.int .i64 (.ofNat 2)), (.int .i64 (.ofNat 6)), (.string ⟨⟨[42]⟩⟩), (.int .i64 (.ofNat 0)), (.int .i64 (.ofNat 4)), (.int .i64 (.ofNat 1)), (.string ⟨⟨[113]⟩⟩), (.int .i64 (.ofNat 0)), (.int .i64 (.ofNat 6)), (.int .i64 (.ofNat 6)), (.string ⟨⟨[42]⟩⟩), (.int .i64 (.ofNat 0)), (.int .i64 (.ofNat 8)), (.int .i64 (.ofNat 1)), (.string ⟨⟨[114]⟩⟩), (.int .i64 (.ofNat 0))]
theorem tl16 : lex tb16 = (tt16, none) := by kernel_rfl
theorem ta16 : allCells tt16 = tc16 := by kernel_rfl
def tb17 : List UInt8 := [112, 32, 42, 32, 113, 32, 45, 32, 114]
def tt17 : List Tok := [(0, 1, [112], 0), (2, 6, [42], 0), (4, 1, [113], 0), (6, 6, [45], 0), (8, 1, [114], 0)]
def tc17 : List Value := [(.int .i64 (.ofNat 0)), (.int .i64 (.ofNat 1)), (.string ⟨⟨[112]⟩⟩), (.int .i64 (.ofNat 0)), (.int .i64 (.ofNat 2)), (.int .i64 (.ofNat 6)), (.string ⟨⟨[42]⟩⟩), (.int .i64 (.ofNat 0)), (.int .i64 (.ofNat 4)), (.int .i64 (.ofNat 1)), (.string ⟨⟨[113]⟩⟩), (.int .i64 (.ofNat 0)), (.int .i64 (.ofNat 6)), (.int .i64 (.ofNat 6)), (.string ⟨⟨[45]⟩⟩), (.int .i64 (.ofNat 0)), (.int .i64 (.ofNat 8)), (.int .i64 (.ofNat 1)), (.string ⟨⟨[114]⟩⟩), (.int .i64 (.ofNat 0))]
theorem tl17 : lex tb17 = (tt17, none) := by kernel_rfl
theorem ta17 : allCells tt17 = tc17 := by kernel_rfl
def tb18 : List UInt8 := [112, 32, 42, 32, 113, 32, 43, 32, 114]
def tt18 : List Tok := [(0, 1, [112], 0), (2, 6, [42], 0), (4, 1, [113], 0), (6, 6, [43], 0), (8, 1, [114], 0)]
def tc18 : List Value := [(.int .i64 (.ofNat 0)), (.int .i64 (.ofNat 1)), (.string ⟨⟨[112]⟩⟩), (.int .i64 (.ofNat 0)), (.int .i64 (.ofNat 2)), (.int .i64 (.ofNat 6)), (.string ⟨⟨[42]⟩⟩), (.int .i64 (.ofNat 0)), (.int .i64 (.ofNat 4)), (.int .i64 (.ofNat 1)), (.string ⟨⟨[113]⟩⟩), (.int .i64 (.ofNat 0)), (.int .i64 (.ofNat 6)), (.int .i64 (.ofNat 6)), (.string ⟨⟨[43]⟩⟩), (.int .i64 (.ofNat 0)), (.int .i64 (.ofNat 8)), (.int .i64 (.ofNat 1)), (.string ⟨⟨[114]⟩⟩), (.int .i64 (.ofNat 0))]
theorem tl18 : lex tb18 = (tt18, none) := by kernel_rfl
theorem ta18 : allCells tt18 = tc18 := by kernel_rfl
def tb19 : List UInt8 := [112, 32, 42, 32, 113, 32, 60, 32, 114]
def tt19 : List Tok := [(0, 1, [112], 0), (2, 6, [42], 0), (4, 1, [113], 0), (6, 6, [60], 0), (8, 1, [114], 0)]
def tc19 : List Value := [(.int .i64 (.ofNat 0)), (.int .i64 (.ofNat 1)), (.string ⟨⟨[112]⟩⟩), (.int .i64 (.ofNat 0)), (.int .i64 (.ofNat 2)), (.int .i64 (.ofNat 6)), (.string ⟨⟨[42]⟩⟩), (.int .i64 (.ofNat 0)), (.int .i64 (.ofNat 4)), (.int .i64 (.ofNat 1)), (.string ⟨⟨[113]⟩⟩), (.int .i64 (.ofNat 0)), (.int .i64 (.ofNat 6)), (.int .i64 (.ofNat 6)), (.string ⟨⟨[60]⟩⟩), (.int .i64 (.ofNat 0)), (.int .i64 (.ofNat 8)), (.int .i64 (.ofNat 1)), (.string ⟨⟨[114]⟩⟩), (.int .i64 (.ofNat 0))]
theorem tl19 : lex tb19 = (tt19, none) := by kernel_rfl
theorem ta19 : allCells tt19 = tc19 := by kernel_rfl
def tb20 : List UInt8 := [112, 32, 42, 32, 113, 32, 61, 61, 32, 114]
def tt20 : List Tok := [(0, 1, [112], 0), (2, 6, [42], 0), (4, 1, [113], 0), (6, 6, [61, 61], 0), (9, 1, [114], 0)]
def tc20 : List Value := [(.int .i64 (.ofNat 0)), (.int .i64 (.ofNat 1)), (.string ⟨⟨[112]⟩⟩), (.int .i64 (.ofNat 0)), (.int .i64 (.ofNat 2)), (.int .i64 (.ofNat 6)), (.string ⟨⟨[42]⟩⟩), (.int .i64 (.ofNat 0)), (.int .i64 (.ofNat 4)), (.int .i64 (.ofNat 1)), (.string ⟨⟨[113]⟩⟩), (.int .i64 (.ofNat 0)), (.int .i64 (.ofNat 6)), (.int .i64 (.ofNat 6)), (.string ⟨⟨[61, 61]⟩⟩), (.int .i64 (.ofNat 0)), (.int .i64 (.ofNat 9)), (.int .i64 (.ofNat 1)), (.string ⟨⟨[114]⟩⟩), (.int .i64 (.ofNat 0))]
theorem tl20 : lex tb20 = (tt20, none) := by kernel_rfl
theorem ta20 : allCells tt20 = tc20 := by kernel_rfl
def tb21 : List UInt8 := [112, 32, 42, 32, 113, 32, 97, 110, 100, 32, 114]
def tt21 : List Tok := [(0, 1, [112], 0), (2, 6, [42], 0), (4, 1, [113], 0), (6, 3, [97, 110, 100], 0), (10, 1, [114], 0)]
def tc21 : List Value := [(.int .i64 (.ofNat 0)), (.int .i64 (.ofNat 1)), (.string ⟨⟨[112]⟩⟩), (.int .i64 (.ofNat 0)), (.int .i64 (.ofNat 2)), (.int .i64 (.ofNat 6)), (.string ⟨⟨[42]⟩⟩), (.int .i64 (.ofNat 0)), (.int .i64 (.ofNat 4)), (.int .i64 (.ofNat 1)), (.string ⟨⟨[113]⟩⟩), (.int .i64 (.ofNat 0)), (.int .i64 (.ofNat 6)), (.int .i64 (.ofNat 3)), (.string ⟨⟨[97, 110, 100]⟩⟩), (.int .i64 (.ofNat 0)), (.int .i64 (.ofNat 10)), (.int .i64 (.ofNat 1)), (.string ⟨⟨[114]⟩⟩), (.int .i64 (.ofNat 0))]
theorem tl21 : lex tb21 = (tt21, none) := by kernel_rfl
theorem ta21 : allCells tt21 = tc21 := by kernel_rfl
def tb22 : List UInt8 := [112, 32, 42, 32, 113, 32, 111, 114, 32, 114]
def tt22 : List Tok := [(0, 1, [112], 0), (2, 6, [42], 0), (4, 1, [113], 0), (6, 3, [111, 114], 0), (9, 1, [114], 0)]
def tc22 : List Value := [(.int .i64 (.ofNat 0)), (.int .i64 (.ofNat 1)), (.string ⟨⟨[112]⟩⟩), (.int .i64 (.ofNat 0)), (.int .i64 (.ofNat 2)), (.int .i64 (.ofNat 6)), (.string ⟨⟨[42]⟩⟩), (.int .i64 (.ofNat 0)), (.int .i64 (.ofNat 4)), (.int .i64 (.ofNat 1)), (.string ⟨⟨[113]⟩⟩), (.int .i64 (.ofNat 0)), (.int .i64 (.ofNat 6)), (.int .i64 (.ofNat 3)), (.string ⟨⟨[111, 114]⟩⟩), (.int .i64 (.ofNat 0)), (.int .i64 (.ofNat 9)), (.int .i64 (.ofNat 1)), (.string ⟨⟨[114]⟩⟩), (.int .i64 (.ofNat 0))]
theorem tl22 : lex tb22 = (tt22, none) := by kernel_rfl
theorem ta22 : allCells tt22 = tc22 := by kernel_rfl
def tb23 : List UInt8 := [112, 32, 45, 32, 113, 32, 42, 32, 114]
def tt23 : List Tok := [(0, 1, [112], 0), (2, 6, [45], 0), (4, 1, [113], 0), (6, 6, [42], 0), (8, 1, [114], 0)]
def tc23 : List Value := [(.int .i64 (.ofNat 0)), (.int .i64 (.ofNat 1)), (.string ⟨⟨[112]⟩⟩), (.int .i64 (.ofNat 0)), (.int .i64 (.ofNat 2)), (.int .i64 (.ofNat 6)), (.string ⟨⟨[45]⟩⟩), (.int .i64 (.ofNat 0)), (.int .i64 (.ofNat 4)), (.int .i64 (.ofNat 1)), (.string ⟨⟨[113]⟩⟩), (.int .i64 (.ofNat 0)), (.int .i64 (.ofNat 6)), (.int .i64 (.ofNat 6)), (.string ⟨⟨[42]⟩⟩), (.int .i64 (.ofNat 0)), (.int .i64 (.ofNat 8)), (.int .i64 (.ofNat 1)), (.string ⟨⟨[114]⟩⟩), (.int .i64 (.ofNat 0))]
theorem tl23 : lex tb23 = (tt23, none) := by kernel_rfl
theorem ta23 : allCells tt23 = tc23 := by kernel_rfl
def tb24 : List UInt8 := [112, 32, 45, 32, 113, 32, 45, 32, 114]
def tt24 : List Tok := [(0, 1, [112], 0), (2, 6, [45], 0), (4, 1, [113], 0), (6, 6, [45], 0), (8, 1, [114], 0)]
def tc24 : List Value := [(.int .i64 (.ofNat 0)), (.int .i64 (.ofNat 1)), (.string ⟨⟨[112]⟩⟩), (.int .i64 (.ofNat 0)), (.int .i64 (.ofNat 2)), (.int .i64 (.ofNat 6)), (.string ⟨⟨[45]⟩⟩), (.int .i64 (.ofNat 0)), (.int .i64 (.ofNat 4)), (.int .i64 (.ofNat 1)), (.string ⟨⟨[113]⟩⟩), (.int .i64 (.ofNat 0)), (.int .i64 (.ofNat 6)), (.int .i64 (.ofNat 6)), (.string ⟨⟨[45]⟩⟩), (.int .i64 (.ofNat 0)), (.int .i64 (.ofNat 8)), (.int .i64 (.ofNat 1)), (.string ⟨⟨[114]⟩⟩), (.int .i64 (.ofNat 0))]
theorem tl24 : lex tb24 = (tt24, none) := by kernel_rfl
theorem ta24 : allCells tt24 = tc24 := by kernel_rfl
def tb25 : List UInt8 := [112, 32, 45, 32, 113, 32, 43, 32, 114]
def tt25 : List Tok := [(0, 1, [112], 0), (2, 6, [45], 0), (4, 1, [113], 0), (6, 6, [43], 0), (8, 1, [114], 0)]
def tc25 : List Value := [(.int .i64 (.ofNat 0)), (.int .i64 (.ofNat 1)), (.string ⟨⟨[112]⟩⟩), (.int .i64 (.ofNat 0)), (.int .i64 (.ofNat 2)), (.int .i64 (.ofNat 6)), (.string ⟨⟨[45]⟩⟩), (.int .i64 (.ofNat 0)), (.int .i64 (.ofNat 4)), (.int .i64 (.ofNat 1)), (.string ⟨⟨[113]⟩⟩), (.int .i64 (.ofNat 0)), (.int .i64 (.ofNat 6)), (.int .i64 (.ofNat 6)), (.string ⟨⟨[43]⟩⟩), (.int .i64 (.ofNat 0)), (.int .i64 (.ofNat 8)), (.int .i64 (.ofNat 1)), (.string ⟨⟨[114]⟩⟩), (.int .i64 (.ofNat 0))]
theorem tl25 : lex tb25 = (tt25, none) := by kernel_rfl
theorem ta25 : allCells tt25 = tc25 := by kernel_rfl
def tb26 : List UInt8 := [112, 32, 45, 32, 113, 32, 60, 32, 114]
def tt26 : List Tok := [(0, 1, [112], 0), (2, 6, [45], 0), (4, 1, [113], 0), (6, 6, [60], 0), (8, 1, [114], 0)]
def tc26 : List Value := [(.int .i64 (.ofNat 0)), (.int .i64 (.ofNat 1)), (.string ⟨⟨[112]⟩⟩), (.int .i64 (.ofNat 0)), (.int .i64 (.ofNat 2)), (.int .i64 (.ofNat 6)), (.string ⟨⟨[45]⟩⟩), (.int .i64 (.ofNat 0)), (.int .i64 (.ofNat 4)), (.int .i64 (.ofNat 1)), (.string ⟨⟨[113]⟩⟩), (.int .i64 (.ofNat 0)), (.int .i64 (.ofNat 6)), (.int .i64 (.ofNat 6)), (.string ⟨⟨[60]⟩⟩), (.int .i64 (.ofNat 0)), (.int .i64 (.ofNat 8)), (.int .i64 (.ofNat 1)), (.string ⟨⟨[114]⟩⟩), (.int .i64 (.ofNat 0))]
theorem tl26 : lex tb26 = (tt26, none) := by kernel_rfl
theorem ta26 : allCells tt26 = tc26 := by kernel_rfl
def tb27 : List UInt8 := [112, 32, 45, 32, 113, 32, 61, 61, 32, 114]
def tt27 : List Tok := [(0, 1, [112], 0), (2, 6, [45], 0), (4, 1, [113], 0), (6, 6, [61, 61], 0), (9, 1, [114], 0)]
def tc27 : List Value := [(.int .i64 (.ofNat 0)), (.int .i64 (.ofNat 1)), (.string ⟨⟨[112]⟩⟩), (.int .i64 (.ofNat 0)), (.int .i64 (.ofNat 2)), (.int .i64 (.ofNat 6)), (.string ⟨⟨[45]⟩⟩), (.int .i64 (.ofNat 0)), (.int .i64 (.ofNat 4)), (.int .i64 (.ofNat 1)), (.string ⟨⟨[113]⟩⟩), (.int .i64 (.ofNat 0)), (.int .i64 (.ofNat 6)), (.int .i64 (.ofNat 6)), (.string ⟨⟨[61, 61]⟩⟩), (.int .i64 (.ofNat 0)), (.int .i64 (.ofNat 9)), (.int .i64 (.ofNat 1)), (.string ⟨⟨[114]⟩⟩), (.int .i64 (.ofNat 0))]
theorem tl27 : lex tb27 = (tt27, none) := by kernel_rfl
theorem ta27 : allCells tt27 = tc27 := by kernel_rfl
def tb28 : List UInt8 := [112, 32, 45, 32, 113, 32, 97, 110, 100, 32, 114]
def tt28 : List Tok := [(0, 1, [112], 0), (2, 6, [45], 0), (4, 1, [113], 0), (6, 3, [97, 110, 100], 0), (10, 1, [114], 0)]
def tc28 : List Value := [(.int .i64 (.ofNat 0)), (.int .i64 (.ofNat 1)), (.string ⟨⟨[112]⟩⟩), (.int .i64 (.ofNat 0)), (.int .i64 (.ofNat 2)), (.int .i64 (.ofNat 6)), (.string ⟨⟨[45]⟩⟩), (.int .i64 (.ofNat 0)), (.int .i64 (.ofNat 4)), (.int .i64 (.ofNat 1)), (.string ⟨⟨[113]⟩⟩), (.int .i64 (.ofNat 0)), (.int .i64 (.ofNat 6)), (.int .i64 (.ofNat 3)), (.string ⟨⟨[97, 110, 100]⟩⟩), (.int .i64 (.ofNat 0)), (.int .i64 (.ofNat 10)), (.int .i64 (.ofNat 1)), (.string ⟨⟨[114]⟩⟩), (.int .i64 (.ofNat 0))]
theorem tl28 : lex tb28 = (tt28, none) := by kernel_rfl
theorem ta28 : allCells tt28 = tc28 := by kernel_rfl
def tb29 : List UInt8 := [112, 32, 45, 32, 113, 32, 111, 114, 32, 114]
def tt29 : List Tok := [(0, 1, [112], 0), (2, 6, [45], 0), (4, 1, [113], 0), (6, 3, [111, 114], 0), (9, 1, [114], 0)]
def tc29 : List Value := [(.int .i64 (.ofNat 0)), (.int .i64 (.ofNat 1)), (.string ⟨⟨[112]⟩⟩), (.int .i64 (.ofNat 0)), (.int .i64 (.ofNat 2)), (.int .i64 (.ofNat 6)), (.string ⟨⟨[45]⟩⟩), (.int .i64 (.ofNat 0)), (.int .i64 (.ofNat 4)), (.int .i64 (.ofNat 1)), (.string ⟨⟨[113]⟩⟩), (.int .i64 (.ofNat 0)), (.int .i64 (.ofNat 6)), (.int .i64 (.ofNat 3)), (.string ⟨⟨[111, 114]⟩⟩), (.int .i64 (.ofNat 0)), (.int .i64 (.ofNat 9)), (.int .i64 (.ofNat 1)), (.string ⟨⟨[114]⟩⟩), (.int .i64 (.ofNat 0))]
theorem tl29 : lex tb29 = (tt29, none) := by kernel_rfl
theorem ta29 : allCells tt29 = tc29 := by kernel_rfl
def tb30 : List UInt8 := [112, 32, 43, 32, 113, 32, 42, 32, 114]
def tt30 : List Tok := [(0, 1, [112], 0), (2, 6, [43], 0), (4, 1, [113], 0), (6, 6, [42], 0), (8, 1, [114], 0)]
def tc30 : List Value := [(.int .i64 (.ofNat 0)), (.int .i64 (.ofNat 1)), (.string ⟨⟨[112]⟩⟩), (.int .i64 (.ofNat 0)), (.int .i64 (.ofNat 2)), (.int .i64 (.ofNat 6)), (.string ⟨⟨[43]⟩⟩), (.int .i64 (.ofNat 0)), (.int .i64 (.ofNat 4)), (.int .i64 (.ofNat 1)), (.string ⟨⟨[113]⟩⟩), (.int .i64 (.ofNat 0)), (.int .i64 (.ofNat 6)), (.int .i64 (.ofNat 6)), (.string ⟨⟨[42]⟩⟩), (.int .i64 (.ofNat 0)), (.int .i64 (.ofNat 8)), (.int .i64 (.ofNat 1)), (.string ⟨⟨[114]⟩⟩), (.int .i64 (.ofNat 0))]
theorem tl30 : lex tb30 = (tt30, none) := by kernel_rfl
theorem ta30 : allCells tt30 = tc30 := by kernel_rfl
def tb31 : List UInt8 := [112, 32, 43, 32, 113, 32, 45, 32, 114]
def tt31 : List Tok := [(0, 1, [112], 0), (2, 6, [43], 0), (4, 1, [113], 0), (6, 6, [45], 0), (8, 1, [114], 0)]
def tc31 : List Value := [(.int .i64 (.ofNat 0)), (.int .i64 (.ofNat 1)), (.string ⟨⟨[112]⟩⟩), (.int .i64 (.ofNat 0)), (.int .i64 (.ofNat 2)), (.int .i64 (.ofNat 6)), (.string ⟨⟨[43]⟩⟩), (.int .i64 (.ofNat 0)), (.int .i64 (.ofNat 4)), (.int .i64 (.ofNat 1)), (.string ⟨⟨[113]⟩⟩), (.int .i64 (.ofNat 0)), (.int .i64 (.ofNat 6)), (.int .i64 (.ofNat 6)), (.string ⟨⟨[45]⟩⟩), (.int .i64 (.ofNat 0)), (.int .i64 (.ofNat 8)), (.int .i64 (.ofNat 1)), (.string ⟨⟨[114]⟩⟩), (.int .i64 (.ofNat 0))]
theorem tl31 : lex tb31 = (tt31, none) := by kernel_rfl
theorem ta31 : allCells tt31 = tc31 := by kernel_rfl
def tb32 : List UInt8 := [112, 32, 43, 32, 113, 32, 43, 32, 114]
def tt32 : List Tok := [(0, 1, [112], 0), (2, 6, [43], 0), (4, 1, [113], 0), (6, 6, [43], 0), (8, 1, [114], 0)]
def tc32 : List Value := [(.int .i64 (.ofNat 0)), (.int .i64 (.ofNat 1)), (.string ⟨⟨[112]⟩⟩), (.int .i64 (.ofNat 0)), (.int .i64 (.ofNat 2)), (.int .i64 (.ofNat 6)), (.string ⟨⟨[43]⟩⟩), (.int .i64 (.ofNat 0)), (.int .i64 (.ofNat 4)), (.int .i64 (.ofNat 1)), (.string ⟨⟨[113]⟩⟩), (.int .i64 (.ofNat 0)), (.int .i64 (.ofNat 6)), (.int .i64 (.ofNat 6)), (.string ⟨⟨[43]⟩⟩), (.int .i64 (.ofNat 0)), (.int .i64 (.ofNat 8)), (.int .i64 (.ofNat 1)), (.string ⟨⟨[114]⟩⟩), (.int .i64 (.ofNat 0))]
theorem tl32 : lex tb32 = (tt32, none) := by kernel_rfl
theorem ta32 : allCells tt32 = tc32 := by kernel_rfl
def tb33 : List UInt8 := [112, 32, 43, 32, 113, 32, 60, 32, 114]
def tt33 : List Tok := [(0, 1, [112], 0), (2, 6, [43], 0), (4, 1, [113], 0), (6, 6, [60], 0), (8, 1, [114], 0)]
def tc33 : List Value := [(.int .i64 (.ofNat 0)), (.int .i64 (.ofNat 1)), (.string ⟨⟨[112]⟩⟩), (.int .i64 (.ofNat 0)), (.int .i64 (.ofNat 2)), (.int .i64 (.ofNat 6)), (.string ⟨⟨[43]⟩⟩), (.int .i64 (.ofNat 0)), (.int .i64 (.ofNat 4)), (.int .i64 (.ofNat 1)), (.string ⟨⟨[113]⟩⟩), (.int .i64 (.ofNat 0)), (.int .i64 (.ofNat 6)), (.int .i64 (.ofNat 6)), (.string ⟨⟨[60]⟩⟩), (.int .i64 (.ofNat 0)), (.int .i64 (.ofNat 8)), (.int .i64 (.ofNat 1)), (.string ⟨⟨[114]⟩⟩), (.int .i64 (.ofNat 0))]
theorem tl33 : lex tb33 = (tt33, none) := by kernel_rfl
theorem ta33 : allCells tt33 = tc33 := by kernel_rfl
def tb34 : List UInt8 := [112, 32, 43, 32, 113, 32, 61, 61, 32, 114]
def tt34 : List Tok := [(0, 1, [112], 0), (2, 6, [43], 0), (4, 1, [113], 0), (6, 6, [61, 61], 0), (9, 1, [114], 0)]
def tc34 : List Value := [(.int .i64 (.ofNat 0)), (.int .i64 (.ofNat 1)), (.string ⟨⟨[112]⟩⟩), (.int .i64 (.ofNat 0)), (.int .i64 (.ofNat 2)), (.int .i64 (.ofNat 6)), (.string ⟨⟨[43]⟩⟩), (.int .i64 (.ofNat 0)), (.int .i64 (.ofNat 4)), (.int .i64 (.ofNat 1)), (.string ⟨⟨[113]⟩⟩), (.int .i64 (.ofNat 0)), (.int .i64 (.ofNat 6)), (.int .i64 (.ofNat 6)), (.string ⟨⟨[61, 61]⟩⟩), (.int .i64 (.ofNat 0)), (.int .i64 (.ofNat 9)), (.int .i64 (.ofNat 1)), (.string ⟨⟨[114]⟩⟩), (.int .i64 (.ofNat 0))]
theorem tl34 : lex tb34 = (tt34, none) := by kernel_rfl
theorem ta34 : allCells tt34 = tc34 := by kernel_rfl
def tb35 : List UInt8 := [112, 32, 43, 32, 113, 32, 97, 110, 100, 32, 114]
def tt35 : List Tok := [(0, 1, [112], 0), (2, 6, [43], 0), (4, 1, [113], 0), (6, 3, [97, 110, 100], 0), (10, 1, [114], 0)]
def tc35 : List Value := [(.int .i64 (.ofNat 0)), (.int .i64 (.ofNat 1)), (.string ⟨⟨[112]⟩⟩), (.int .i64 (.ofNat 0)), (.int .i64 (.ofNat 2)), (.int .i64 (.ofNat 6)), (.string ⟨⟨[43]⟩⟩), (.int .i64 (.ofNat 0)), (.int .i64 (.ofNat 4)), (.int .i64 (.ofNat 1)), (.string ⟨⟨[113]⟩⟩), (.int .i64 (.ofNat 0)), (.int .i64 (.ofNat 6)), (.int .i64 (.ofNat 3)), (.string ⟨⟨[97, 110, 100]⟩⟩), (.int .i64 (.ofNat 0)), (.int .i64 (.ofNat 10)), (.int .i64 (.ofNat 1)), (.string ⟨⟨[114]⟩⟩), (.int .i64 (.ofNat 0))]
theorem tl35 : lex tb35 = (tt35, none) := by kernel_rfl
theorem ta35 : allCells tt35 = tc35 := by kernel_rfl
def tb36 : List UInt8 := [112, 32, 43, 32, 113, 32, 111, 114, 32, 114]
def tt36 : List Tok := [(0, 1, [112], 0), (2, 6, [43], 0), (4, 1, [113], 0), (6, 3, [111, 114], 0), (9, 1, [114], 0)]
def tc36 : List Value := [(.int .i64 (.ofNat 0)), (.int .i64 (.ofNat 1)), (.string ⟨⟨[112]⟩⟩), (.int .i64 (.ofNat 0)), (.int .i64 (.ofNat 2)), (.int .i64 (.ofNat 6)), (.string ⟨⟨[43]⟩⟩), (.int .i64 (.ofNat 0)), (.int .i64 (.ofNat 4)), (.int .i64 (.ofNat 1)), (.string ⟨⟨[113]⟩⟩), (.int .i64 (.ofNat 0)), (.int .i64 (.ofNat 6)), (.int .i64 (.ofNat 3)), (.string ⟨⟨[111, 114]⟩⟩), (.int .i64 (.ofNat 0)), (.int .i64 (.ofNat 9)), (.int .i64 (.ofNat 1)), (.string ⟨⟨[114]⟩⟩), (.int .i64 (.ofNat 0))]
theorem tl36 : lex tb36 = (tt36, none) := by kernel_rfl
theorem ta36 : allCells tt36 = tc36 := by kernel_rfl
def tb37 : List UInt8 := [112, 32, 60, 32, 113, 32, 42, 32, 114]
def tt37 : List Tok := [(0, 1, [112], 0), (2, 6, [60], 0), (4, 1, [113], 0), (6, 6, [42], 0), (8, 1, [114], 0)]
def tc37 : List Value := [(.int .i64 (.ofNat 0)), (.int .i64 (.ofNat 1)), (.string ⟨⟨[112]⟩⟩), (.int .i64 (.ofNat 0)), (.int .i64 (.ofNat 2)), (.int .i64 (.ofNat 6)), (.string ⟨⟨[60]⟩⟩), (.int .i64 (.ofNat 0)), (.int .i64 (.ofNat 4)), (.int .i64 (.ofNat 1)), (.string ⟨⟨[113]⟩⟩), (.int .i64 (.ofNat 0)), (.int .i64 (.ofNat 6)), (.int .i64 (.ofNat 6)), (.string ⟨⟨[42]⟩⟩), (.int .i64 (.ofNat 0)), (.int .i64 (.ofNat 8)), (.int .i64 (.ofNat 1)), (.string ⟨⟨[114]⟩⟩), (.int .i64 (.ofNat 0))]
theorem tl37 : lex tb37 = (tt37, none) := by kernel_rfl
theorem ta37 : allCells tt37 = tc37 := by kernel_rfl
def tb38 : List UInt8 := [112, 32, 60, 32, 113, 32, 45, 32, 114]
def tt38 : List Tok := [(0, 1, [112], 0), (2, 6, [60], 0), (4, 1, [113], 0), (6, 6, [45], 0), (8, 1, [114], 0)]
def tc38 : List Value := [(.int .i64 (.ofNat 0)), (.int .i64 (.ofNat 1)), (.string ⟨⟨[112]⟩⟩), (.int .i64 (.ofNat 0)), (.int .i64 (.ofNat 2)), (.int .i64 (.ofNat 6)), (.string ⟨⟨[60]⟩⟩), (.int .i64 (.ofNat 0)), (.int .i64 (.ofNat 4)), (.int .i64 (.ofNat 1)), (.string ⟨⟨[113]⟩⟩), (.int .i64 (.ofNat 0)), (.int .i64 (.ofNat 6)), (.int .i64 (.ofNat 6)), (.string ⟨⟨[45]⟩⟩), (.int .i64 (.ofNat 0)), (.int .i64 (.ofNat 8)), (.int .i64 (.ofNat 1)), (.string ⟨⟨[114]⟩⟩), (.int .i64 (.ofNat 0))]
theorem tl38 : lex tb38 = (tt38, none) := by kernel_rfl
theorem ta38 : allCells tt38 = tc38 := by kernel_rfl
def tb39 : List UInt8 := [112, 32, 60, 32, 113, 32, 43, 32, 114]
def tt39 : List Tok := [(0, 1, [112], 0), (2, 6, [60], 0), (4, 1, [113], 0), (6, 6, [43], 0), (8, 1, [114], 0)]
def tc39 : List Value := [(.int .i64 (.ofNat 0)), (.int .i64 (.ofNat 1)), (.string ⟨⟨[112]⟩⟩), (.int .i64 (.ofNat 0)), (.int .i64 (.ofNat 2)), (.int .i64 (.ofNat 6)), (.string ⟨⟨[60]⟩⟩), (.int .i64 (.ofNat 0)), (.int .i64 (.ofNat 4)), (.int .i64 (.ofNat 1)), (.string ⟨⟨[113]⟩⟩), (.int .i64 (.ofNat 0)), (.int .i64 (.ofNat 6)), (.int .i64 (.ofNat 6)), (.string ⟨⟨[43]⟩⟩), (.int .i64 (.ofNat 0)), (.int .i64 (.ofNat 8)), (.int .i64 (.ofNat 1)), (.string ⟨⟨[114]⟩⟩), (.int .i64 (.ofNat 0))]
theorem tl39 : lex tb39 = (tt39, none) := by kernel_rfl
theorem ta39 : allCells tt39 = tc39 := by kernel_rfl
def tb40 : List UInt8 := [112, 32, 60, 32, 113, 32, 60, 32, 114]
def tt40 : List Tok := [(0, 1, [112], 0), (2, 6, [60], 0), (4, 1, [113], 0), (6, 6, [60], 0), (8, 1, [114], 0)]
def tc40 : List Value := [(.int .i64 (.ofNat 0)), (.int .i64 (.ofNat 1)), (.string ⟨⟨[112]⟩⟩), (.int .i64 (.ofNat 0)), (.int .i64 (.ofNat 2)), (.int .i64 (.ofNat 6)), (.string ⟨⟨[60]⟩⟩), (.int .i64 (.ofNat 0)), (.int .i64 (.ofNat 4)), (.int .i64 (.ofNat 1)), (.string ⟨⟨[113]⟩⟩), (.int .i64 (.ofNat 0)), (.int .i64 (.ofNat 6)), (.int .i64 (.ofNat 6)), (.string ⟨⟨[60]⟩⟩), (.int .i64 (.ofNat 0)), (.int .i64 (.ofNat 8)), (.int .i64 (.ofNat 1)), (.string ⟨⟨[114]⟩⟩), (.int .i64 (.ofNat 0))]
theorem tl40 : lex tb40 = (tt40, none) := by kernel_rfl
theorem ta40 : allCells tt40 = tc40 := by kernel_rfl
def tb41 : List UInt8 := [112, 32, 60, 32, 113, 32, 61, 61, 32, 114]
def tt41 : List Tok := [(0, 1, [112], 0), (2, 6, [60], 0), (4, 1, [113], 0), (6, 6, [61, 61], 0), (9, 1, [114], 0)]
def tc41 : List Value := [(.int .i64 (.ofNat 0)), (.int .i64 (.ofNat 1)), (.string ⟨⟨[112]⟩⟩), (.int .i64 (.ofNat 0)), (.int .i64 (.ofNat 2)), (.int .i64 (.ofNat 6)), (.string ⟨⟨[60]⟩⟩), (.int .i64 (.ofNat 0)), (.int .i64 (.ofNat 4)), (.int .i64 (.ofNat 1)), (.string ⟨⟨[113]⟩⟩), (.int .i64 (.ofNat 0)), (.int .i64 (.ofNat 6)), (.int .i64 (.ofNat 6)), (.string ⟨⟨[61, 61]⟩⟩), (.int .i64 (.ofNat 0)), (.int .i64 (.ofNat 9)), (.int .i64 (.ofNat 1)), (.string ⟨⟨[114]⟩⟩), (.int .i64 (.ofNat 0))]
theorem tl41 : lex tb41 = (tt41, none) := by kernel_rfl
theorem ta41 : allCells tt41 = tc41 := by kernel_rfl
def tb42 : List UInt8 := [112, 32, 60, 32, 113, 32, 97, 110, 100, 32, 114]
def tt42 : List Tok := [(0, 1, [112], 0), (2, 6, [60], 0), (4, 1, [113], 0), (6, 3, [97, 110, 100], 0), (10, 1, [114], 0)]
def tc42 : List Value := [(.int .i64 (.ofNat 0)), (.int .i64 (.ofNat 1)), (.string ⟨⟨[112]⟩⟩), (.int .i64 (.ofNat 0)), (.int .i64 (.ofNat 2)), (.int .i64 (.ofNat 6)), (.string ⟨⟨[60]⟩⟩), (.int .i64 (.ofNat 0)), (.int .i64 (.ofNat 4)), (.int .i64 (.ofNat 1)), (.string ⟨⟨[113]⟩⟩), (.int .i64 (.ofNat 0)), (.int .i64 (.ofNat 6)), (.int .i64 (.ofNat 3)), (.string ⟨⟨[97, 110, 100]⟩⟩), (.int .i64 (.ofNat 0)), (.int .i64 (.ofNat 10)), (.int .i64 (.ofNat 1)), (.string ⟨⟨[114]⟩⟩), (.int .i64 (.ofNat 0))]
theorem tl42 : lex tb42 = (tt42, none) := by kernel_rfl
theorem ta42 : allCells tt42 = tc42 := by kernel_rfl
def tb43 : List UInt8 := [112, 32, 60, 32, 113, 32, 111, 114, 32, 114]
def tt43 : List Tok := [(0, 1, [112], 0), (2, 6, [60], 0), (4, 1, [113], 0), (6, 3, [111, 114], 0), (9, 1, [114], 0)]
def tc43 : List Value := [(.int .i64 (.ofNat 0)), (.int .i64 (.ofNat 1)), (.string ⟨⟨[112]⟩⟩), (.int .i64 (.ofNat 0)), (.int .i64 (.ofNat 2)), (.int .i64 (.ofNat 6)), (.string ⟨⟨[60]⟩⟩), (.int .i64 (.ofNat 0)), (.int .i64 (.ofNat 4)), (.int .i64 (.ofNat 1)), (.string ⟨⟨[113]⟩⟩), (.int .i64 (.ofNat 0)), (.int .i64 (.ofNat 6)), (.int .i64 (.ofNat 3)), (.string ⟨⟨[111, 114]⟩⟩), (.int .i64 (.ofNat 0)), (.int .i64 (.ofNat 9)), (.int .i64 (.ofNat 1)), (.string ⟨⟨[114]⟩⟩), (.int .i64 (.ofNat 0))]
theorem tl43 : lex tb43 = (tt43, none) := by kernel_rfl
theorem ta43 : allCells tt43 = tc43 := by kernel_rfl
def tb44 : List UInt8 := [112, 32, 61, 61, 32, 113, 32, 42, 32, 114]
def tt44 : List Tok := [(0, 1, [112], 0), (2, 6, [61, 61], 0), (5, 1, [113], 0), (7, 6, [42], 0), (9, 1, [114], 0)]
def tc44 : List Value := [(.int .i64 (.ofNat 0)), (.int .i64 (.ofNat 1)), (.string ⟨⟨[112]⟩⟩), (.int .i64 (.ofNat 0)), (.int .i64 (.ofNat 2)), (.int .i64 (.ofNat 6)), (.string ⟨⟨[61, 61]⟩⟩), (.int .i64 (.ofNat 0)), (.int .i64 (.ofNat 5)), (.int .i64 (.ofNat 1)), (.string ⟨⟨[113]⟩⟩), (.int .i64 (.ofNat 0)), (.int .i64 (.ofNat 7)), (.int .i64 (.ofNat 6)), (.string ⟨⟨[42]⟩⟩), (.int .i64 (.ofNat 0)), (.int .i64 (.ofNat 9)), (.int .i64 (.ofNat 1)), (.string ⟨⟨[114]⟩⟩), (.int .i64 (.ofNat 0))]
theorem tl44 : lex tb44 = (tt44, none) := by kernel_rfl
theorem ta44 : allCells tt44 = tc44 := by kernel_rfl
def tb45 : List UInt8 := [112, 32, 61, 61, 32, 113, 32, 45, 32, 114]
def tt45 : List Tok := [(0, 1, [112], 0), (2, 6, [61, 61], 0), (5, 1, [113], 0), (7, 6, [45], 0), (9, 1, [114], 0)]
def tc45 : List Value := [(.int .i64 (.ofNat 0)), (.int .i64 (.ofNat 1)), (.string ⟨⟨[112]⟩⟩), (.int .i64 (.ofNat 0)), (.int .i64 (.ofNat 2)), (.int .i64 (.ofNat 6)), (.string ⟨⟨[61, 61]⟩⟩), (.int .i64 (.ofNat 0)), (.int .i64 (.ofNat 5)), (.int .i64 (.ofNat 1)), (.string ⟨⟨[113]⟩⟩), (.int .i64 (.ofNat 0)), (.int .i64 (.ofNat 7)), (.int .i64 (.ofNat 6)), (.string ⟨⟨[45]⟩⟩), (.int .i64 (.ofNat 0)), (.int .i64 (.ofNat 9)), (.int .i64 (.ofNat 1)), (.string ⟨⟨[114]⟩⟩), (.int .i64 (.ofNat 0))]
theorem tl45 : lex tb45 = (tt45, none) := by kernel_rfl
theorem ta45 : allCells tt45 = tc45 := by kernel_rfl
def tb46 : List UInt8 := [112, 32, 61, 61, 32, 113, 32, 43, 32, 114]
def tt46 : List Tok := [(0, 1, [112], 0), (2, 6, [61, 61], 0), (5, 1, [113], 0), (7, 6, [43], 0), (9, 1, [114], 0)]
def tc46 : List Value := [(.int .i64 (.ofNat 0)), (.int .i64 (.ofNat 1)), (.string ⟨⟨[112]⟩⟩), (.int .i64 (.ofNat 0)), (.int .i64 (.ofNat 2)), (.int .i64 (.ofNat 6)), (.string ⟨⟨[61, 61]⟩⟩), (.int .i64 (.ofNat 0)), (.int .i64 (.ofNat 5)), (.int .i64 (.ofNat 1)), (.string ⟨⟨[113]⟩⟩), (.int .i64 (.ofNat 0)), (.int .i64 (.ofNat 7)), (.int .i64 (.ofNat 6)), (.string ⟨⟨[43]⟩⟩), (.int .i64 (.ofNat 0)), (.int .i64 (.ofNat 9)), (.int .i64 (.ofNat 1)), (.string ⟨⟨[114]⟩⟩), (.int .i64 (.ofNat 0))]
theorem tl46 : lex tb46 = (tt46, none) := by kernel_rfl
theorem ta46 : allCells tt46 = tc46 := by kernel_rfl
def tb47 : List UInt8 := [112, 32, 61, 61, 32, 113, 32, 60, 32, 114]
def tt47 : List Tok := [(0, 1, [112], 0), (2, 6, [61, 61], 0), (5, 1, [113], 0), (7, 6, [60], 0), (9, 1, [114], 0)]
def tc47 : List Value := [(.int .i64 (.ofNat 0)), (.int .i64 (.ofNat 1)), (.string ⟨⟨[112]⟩⟩), (.int .i64 (.ofNat 0)), (.int .i64 (.ofNat 2)), (.int .i64 (.ofNat 6)), (.string ⟨⟨[61, 61]⟩⟩), (.int .i64 (.ofNat 0)), (.int .i64 (.ofNat 5)), (.int .i64 (.ofNat 1)), (.string ⟨⟨[113]⟩⟩), (.int .i64 (.ofNat 0)), (.int .i64 (.ofNat 7)), (.int .i64 (.ofNat 6)), (.string ⟨⟨[60]⟩⟩), (.int .i64 (.ofNat 0)), (.int .i64 (.ofNat 9)), (.int .i64 (.ofNat 1)), (.string ⟨⟨[114]⟩⟩), (.int .i64 (.ofNat 0))]
theorem tl47 : lex tb47 = (tt47, none) := by kernel_rfl
theorem ta47 : allCells tt47 = tc47 := by kernel_rfl
def tb48 : List UInt8 := [112, 32, 61, 61, 32, 113, 32, 61, 61, 32, 114]
def tt48 : List Tok := [(0, 1, [112], 0), (2, 6, [61, 61], 0), (5, 1, [113], 0), (7, 6, [61, 61], 0), (10, 1, [114], 0)]
def tc48 : List Value := [(.int .i64 (.ofNat 0)), (.int .i64 (.ofNat 1)), (.string ⟨⟨[112]⟩⟩), (.int .i64 (.ofNat 0)), (.int .i64 (.ofNat 2)), (.int .i64 (.ofNat 6)), (.string ⟨⟨[61, 61]⟩⟩), (.int .i64 (.ofNat 0)), (.int .i64 (.ofNat 5)), (.int .i64 (.ofNat 1)), (.string ⟨⟨[113]⟩⟩), (.int .i64 (.ofNat 0)), (.int .i64 (.ofNat 7)), (.int .i64 (.ofNat 6)), (.string ⟨⟨[61, 61]⟩⟩), (.int .i64 (.ofNat 0)), (.int .i64 (.ofNat 10)), (.int .i64 (.ofNat 1)), (.string ⟨⟨[114]⟩⟩), (.int .i64 (.ofNat 0))]
theorem tl48 : lex tb48 = (tt48, none) := by kernel_rfl
theorem ta48 : allCells tt48 = tc48 := by kernel_rfl
def tb49 : List UInt8 := [112, 32, 61, 61, 32, 113, 32, 97, 110, 100, 32, 114]
def tt49 : List Tok := [(0, 1, [112], 0), (2, 6, [61, 61], 0), (5, 1, [113], 0), (7, 3, [97, 110, 100], 0), (11, 1, [114], 0)]
def tc49 : List Value := [(.int .i64 (.ofNat 0)), (.int .i64 (.ofNat 1)), (.string ⟨⟨[112]⟩⟩), (.int .i64 (.ofNat 0)), (.int .i64 (.ofNat 2)), (.int .i64 (.ofNat 6)), (.string ⟨⟨[61, 61]⟩⟩), (.int .i64 (.ofNat 0)), (.int .i64 (.ofNat 5)), (.int .i64 (.ofNat 1)), (.string ⟨⟨[113]⟩⟩), (.int .i64 (.ofNat 0)), (.int .i64 (.ofNat 7)), (.int .i64 (.ofNat 3)), (.string ⟨⟨[97, 110, 100]⟩⟩), (.int .i64 (.ofNat 0)), (.int .i64 (.ofNat 11)), (.int .i64 (.ofNat 1)), (.string ⟨⟨[114]⟩⟩), (.int .i64 (.ofNat 0))]
theorem tl49 : lex tb49 = (tt49, none) := by kernel_rfl
theorem ta49 : allCells tt49 = tc49 := by kernel_rfl
def tb50 : List UInt8 := [112, 32, 61, 61, 32, 113, 32, 111, 114, 32, 114]
def tt50 : List Tok := [(0, 1, [112], 0), (2, 6, [61, 61], 0), (5, 1, [113], 0), (7, 3, [111, 114], 0), (10, 1, [114], 0)]
def tc50 : List Value := [(.int .i64 (.ofNat 0)), (.int .i64 (.ofNat 1)), (.string ⟨⟨[112]⟩⟩), (.int .i64 (.ofNat 0)), (.int .i64 (.ofNat 2)), (.int .i64 (.ofNat 6)), (.string ⟨⟨[61, 61]⟩⟩), (.int .i64 (.ofNat 0)), (.int .i64 (.ofNat 5)), (.int .i64 (.ofNat 1)), (.string ⟨⟨[113]⟩⟩), (.int .i64 (.ofNat 0)), (.int .i64 (.ofNat 7)), (.int .i64 (.ofNat 3)), (.string ⟨⟨[111, 114]⟩⟩), (.int .i64 (.ofNat 0)), (.int .i64 (.ofNat 10)), (.int .i64 (.ofNat 1)), (.string ⟨⟨[114]⟩⟩), (.int .i64 (.ofNat 0))]
theorem tl50 : lex tb50 = (tt50, none) := by kernel_rfl
theorem ta50 : allCells tt50 = tc50 := by kernel_rfl
def tb51 : List UInt8 := [112, 32, 97, 110, 100, 32, 113, 32, 42, 32, 114]
def tt51 : List Tok := [(0, 1, [112], 0), (2, 3, [97, 110, 100], 0), (6, 1, [113], 0), (8, 6, [42], 0), (10, 1, [114], 0)]
def tc51 : List Value := [(.int .i64 (.ofNat 0)), (.int .i64 (.ofNat 1)), (.string ⟨⟨[112]⟩⟩), (.int .i64 (.ofNat 0)), (.int .i64 (.ofNat 2)), (.int .i64 (.ofNat 3)), (.string ⟨⟨[97, 110, 100]⟩⟩), (.int .i64 (.ofNat 0)), (.int .i64 (.ofNat 6)), (.int .i64 (.ofNat 1)), (.string ⟨⟨[113]⟩⟩), (.int .i64 (.ofNat 0)), (.int .i64 (.ofNat 8)), (.int .i64 (.ofNat 6)), (.string ⟨⟨[42]⟩⟩), (.int .i64 (.ofNat 0)), (.int .i64 (.ofNat 10)), (.int .i64 (.ofNat 1)), (.string ⟨⟨[114]⟩⟩), (.int .i64 (.ofNat 0))]
theorem tl51 : lex tb51 = (tt51, none) := by kernel_rfl
theorem ta51 : allCells tt51 = tc51 := by kernel_rfl
def tb52 : List UInt8 := [112, 32, 97, 110, 100, 32, 113, 32, 45, 32, 114]
def tt52 : List Tok := [(0, 1, [112], 0), (2, 3, [97, 110, 100], 0), (6, 1, [113], 0), (8, 6, [45], 0), (10, 1, [114], 0)]
def tc52 : List Value := [(.int .i64 (.ofNat 0)), (.int .i64 (.ofNat 1)), (.string ⟨⟨[112]⟩⟩), (.int .i64 (.ofNat 0)), (.int .i64 (.ofNat 2)), (.int .i64 (.ofNat 3)), (.string ⟨⟨[97, 110, 100]⟩⟩), (.int .i64 (.ofNat 0)), (.int .i64 (.ofNat 6)), (.int .i64 (.ofNat 1)), (.string ⟨⟨[113]⟩⟩), (.int .i64 (.ofNat 0)), (.int .i64 (.ofNat 8)), (.int .i64 (.ofNat 6)), (.string ⟨⟨[45]⟩⟩), (.int .i64 (.ofNat 0)), (.int .i64 (.ofNat 10)), (.int .i64 (.ofNat 1)), (.string ⟨⟨[114]⟩⟩), (.int .i64 (.ofNat 0))]
theorem tl52 : lex tb52 = (tt52, none) := by kernel_rfl
theorem ta52 : allCells tt52 = tc52 := by kernel_rfl
def tb53 : List UInt8 := [112, 32, 97, 110, 100, 32, 113, 32, 43, 32, 114]
def tt53 : List Tok := [(0, 1, [112], 0), (2, 3, [97, 110, 100], 0), (6, 1, [113], 0), (8, 6, [43], 0), (10, 1, [114], 0)]
def tc53 : List Value := [(.int .i64 (.ofNat 0)), (.int .i64 (.ofNat 1)), (.string ⟨⟨[112]⟩⟩), (.int .i64 (.ofNat 0)), (.int .i64 (.ofNat 2)), (.int .i64 (.ofNat 3)), (.string ⟨⟨[97, 110, 100]⟩⟩), (.int .i64 (.ofNat 0)), (.int .i64 (.ofNat 6)), (.int .i64 (.ofNat 1)), (.string ⟨⟨[113]⟩⟩), (.int .i64 (.ofNat 0)), (.int .i64 (.ofNat 8)), (.int .i64 (.ofNat 6)), (.string ⟨⟨[43]⟩⟩), (.int .i64 (.ofNat 0)), (.int .i64 (.ofNat 10)), (.int .i64 (.ofNat 1)), (.string ⟨⟨[114]⟩⟩), (.int .i64 (.ofNat 0))]
theorem tl53 : lex tb53 = (tt53, none) := by kernel_rfl
theorem ta53 : allCells tt53 = tc53 := by kernel_rfl
def tb54 : List UInt8 := [112, 32, 97, 110, 100, 32, 113, 32, 60, 32, 114]
def tt54 : List Tok := [(0, 1, [112], 0), (2, 3, [97, 110, 100], 0), (6, 1, [113], 0), (8, 6, [60], 0), (10, 1, [114], 0)]
def tc54 : List Value := [(.int .i64 (.ofNat 0)), (.int .i64 (.ofNat 1)), (.string ⟨⟨[112]⟩⟩), (.int .i64 (.ofNat 0)), (.int .i64 (.ofNat 2)), (.int .i64 (.ofNat 3)), (.string ⟨⟨[97, 110, 100]⟩⟩), (.int .i64 (.ofNat 0)), (.int .i64 (.ofNat 6)), (.int .i64 (.ofNat 1)), (.string ⟨⟨[113]⟩⟩), (.int .i64 (.ofNat 0)), (.int .i64 (.ofNat 8)), (.int .i64 (.ofNat 6)), (.string ⟨⟨[60]⟩⟩), (.int .i64 (.ofNat 0)), (.int .i64 (.ofNat 10)), (.int .i64 (.ofNat 1)), (.string ⟨⟨[114]⟩⟩), (.int .i64 (.ofNat 0))]
theorem tl54 : lex tb54 = (tt54, none) := by kernel_rfl
theorem ta54 : allCells tt54 = tc54 := by kernel_rfl
def tb55 : List UInt8 := [112, 32, 97, 110, 100, 32, 113, 32, 61, 61, 32, 114]
def tt55 : List Tok := [(0, 1, [112], 0), (2, 3, [97, 110, 100], 0), (6, 1, [113], 0), (8, 6, [61, 61], 0), (11, 1, [114], 0)]
def tc55 : List Value := [(.int .i64 (.ofNat 0)), (.int .i64 (.ofNat 1)), (.string ⟨⟨[112]⟩⟩), (.int .i64 (.ofNat 0)), (.int .i64 (.ofNat 2)), (.int .i64 (.ofNat 3)), (.string ⟨⟨[97, 110, 100]⟩⟩), (.int .i64 (.ofNat 0)), (.int .i64 (.ofNat 6)), (.int .i64 (.ofNat 1)), (.string ⟨⟨[113]⟩⟩), (.int .i64 (.ofNat 0)), (.int .i64 (.ofNat 8)), (.int .i64 (.ofNat 6)), (.string ⟨⟨[61, 61]⟩⟩), (.int .i64 (.ofNat 0)), (.int .i64 (.ofNat 11)), (.int .i64 (.ofNat 1)), (.string ⟨⟨[114]⟩⟩), (.int .i64 (.ofNat 0))]
theorem tl55 : lex tb55 = (tt55, none) := by kernel_rfl
theorem ta55 : allCells tt55 = tc55 := by kernel_rfl
def tb56 : List UInt8 := [112, 32, 97, 110, 100, 32, 113, 32, 97, 110, 100, 32, 114]
def tt56 : List Tok := [(0, 1, [112], 0), (2, 3, [97, 110, 100], 0), (6, 1, [113], 0), (8, 3, [97, 110, 100], 0), (12, 1, [114], 0)]
def tc56 : List Value := [(.int .i64 (.ofNat 0)), (.int .i64 (.ofNat 1)), (.string ⟨⟨[112]⟩⟩), (.int .i64 (.ofNat 0)), (.int .i64 (.ofNat 2)), (.int .i64 (.ofNat 3)), (.string ⟨⟨[97, 110, 100]⟩⟩), (.int .i64 (.ofNat 0)), (.int .i64 (.ofNat 6)), (.int .i64 (.ofNat 1)), (.string ⟨⟨[113]⟩⟩), (.int .i64 (.ofNat 0)), (.int .i64 (.ofNat 8)), (.int .i64 (.ofNat 3)), (.string ⟨⟨[97, 110, 100]⟩⟩), (.int .i64 (.ofNat 0)), (.int .i64 (.ofNat 12)), (.int .i64 (.ofNat 1)), (.string ⟨⟨[114]⟩⟩), (.int .i64 (.ofNat 0))]
theorem tl56 : lex tb56 = (tt56, none) := by kernel_rfl
theorem ta56 : allCells tt56 = tc56 := by kernel_rfl
def tb57 : List UInt8 := [112, 32, 97, 110, 100, 32, 113, 32, 111, 114, 32, 114]
def tt57 : List Tok := [(0, 1, [112], 0), (2, 3, [97, 110, 100], 0), (6, 1, [113], 0), (8, 3, [111, 114], 0), (11, 1, [114], 0)]
def tc57 : List Value := [(.int .i64 (.ofNat 0)), (.int .i64 (.ofNat 1)), (.string ⟨⟨[112]⟩⟩), (.int .i64 (.ofNat 0)), (.int .i64 (.ofNat 2)), (.int .i64 (.ofNat 3)), (.string ⟨⟨[97, 110, 100]⟩⟩), (.int .i64 (.ofNat 0)), (.int .i64 (.ofNat 6)), (.int .i64 (.ofNat 1)), (.string ⟨⟨[113]⟩⟩), (.int .i64 (.ofNat 0)), (.int .i64 (.ofNat 8)), (.int .i64 (.ofNat 3)), (.string ⟨⟨[111, 114]⟩⟩), (.int .i64 (.ofNat 0)), (.int .i64 (.ofNat 11)), (.int .i64 (.ofNat 1)), (.string ⟨⟨[114]⟩⟩), (.int .i64 (.ofNat 0))]
theorem tl57 : lex tb57 = (tt57, none) := by kernel_rfl
theorem ta57 : allCells tt57 = tc57 := by kernel_rfl
def tb58 : List UInt8 := [112, 32, 111, 114, 32, 113, 32, 42, 32, 114]
def tt58 : List Tok := [(0, 1, [112], 0), (2, 3, [111, 114], 0), (5, 1, [113], 0), (7, 6, [42], 0), (9, 1, [114], 0)]
def tc58 : List Value := [(.int .i64 (.ofNat 0)), (.int .i64 (.ofNat 1)), (.string ⟨⟨[112]⟩⟩), (.int .i64 (.ofNat 0)), (.int .i64 (.ofNat 2)), (.int .i64 (.ofNat 3)), (.string ⟨⟨[111, 114]⟩⟩), (.int .i64 (.ofNat 0)), (.int .i64 (.ofNat 5)), (.int .i64 (.ofNat 1)), (.string ⟨⟨[113]⟩⟩), (.int .i64 (.ofNat 0)), (.int .i64 (.ofNat 7)), (.int .i64 (.ofNat 6)), (.string ⟨⟨[42]⟩⟩), (.int .i64 (.ofNat 0)), (.int .i64 (.ofNat 9)), (.int .i64 (.ofNat 1)), (.string ⟨⟨[114]⟩⟩), (.int .i64 (.ofNat 0))]
theorem tl58 : lex tb58 = (tt58, none) := by kernel_rfl
theorem ta58 : allCells tt58 = tc58 := by kernel_rfl
def tb59 : List UInt8 := [112, 32, 111, 114, 32, 113, 32, 45, 32, 114]
def tt59 : List Tok := [(0, 1, [112], 0), (2, 3, [111, 114], 0), (5, 1, [113], 0), (7, 6, [45], 0), (9, 1, [114], 0)]
def tc59 : List Value := [(.int .i64 (.ofNat 0)), (.int .i64 (.ofNat 1)), (.string ⟨⟨[112]⟩⟩), (.int .i64 (.ofNat 0)), (.int .i64 (.ofNat 2)), (.int .i64 (.ofNat 3)), (.string ⟨⟨[111, 114]⟩⟩), (.int .i64 (.ofNat 0)), (.int .i64 (.ofNat 5)), (.int .i64 (.ofNat 1)), (.string ⟨⟨[113]⟩⟩), (.int .i64 (.ofNat 0)), (.int .i64 (.ofNat 7)), (.int .i64 (.ofNat 6)), (.string ⟨⟨[45]⟩⟩), (.int .i64 (.ofNat 0)), (.int .i64 (.ofNat 9)), (.int .i64 (.ofNat 1)), (.string ⟨⟨[114]⟩⟩), (.int .i64 (.ofNat 0))]
theorem tl59 : lex tb59 = (tt59, none) := by kernel_rfl
theorem ta59 : allCells tt59 = tc59 := by kernel_rfl
def tb60 : List UInt8 := [112, 32, 111, 114, 32, 113, 32, 43, 32, 114]
def tt60 : List Tok := [(0, 1, [112], 0), (2, 3, [111, 114], 0), (5, 1, [113], 0), (7, 6, [43], 0), (9, 1, [114], 0)]
def tc60 : List Value := [(.int .i64 (.ofNat 0)), (.int .i64 (.ofNat 1)), (.string ⟨⟨[112]⟩⟩), (.int .i64 (.ofNat 0)), (.int .i64 (.ofNat 2)), (.int .i64 (.ofNat 3)), (.string ⟨⟨[111, 114]⟩⟩), (.int .i64 (.ofNat 0)), (.int .i64 (.ofNat 5)), (.int .i64 (.ofNat 1)), (.string ⟨⟨[113]⟩⟩), (.int .i64 (.ofNat 0)), (.int .i64 (.ofNat 7)), (.int .i64 (.ofNat 6)), (.string ⟨⟨[43]⟩⟩), (.int .i64 (.ofNat 0)), (.int .i64 (.ofNat 9)), (.int .i64 (.ofNat 1)), (.string ⟨⟨[114]⟩⟩), (.int .i64 (.ofNat 0))]
theorem tl60 : lex tb60 = (tt60, none) := by kernel_rfl
theorem ta60 : allCells tt60 = tc60 := by kernel_rfl
def tb61 : List UInt8 := [112, 32, 111, 114, 32, 113, 32, 60, 32, 114]
def tt61 : List Tok := [(0, 1, [112], 0), (2, 3, [111, 114], 0), (5, 1, [113], 0), (7, 6, [60], 0), (9, 1, [114], 0)]
def tc61 : List Value := [(.int .i64 (.ofNat 0)), (.int .i64 (.ofNat 1)), (.string ⟨⟨[112]⟩⟩), (.int .i64 (.ofNat 0)), (.int .i64 (.ofNat 2)), (.int .i64 (.ofNat 3)), (.string ⟨⟨[111, 114]⟩⟩), (.int .i64 (.ofNat 0)), (.int .i64 (.ofNat 5)), (.int .i64 (.ofNat 1)), (.string ⟨⟨[113]⟩⟩), (.int .i64 (.ofNat 0)), (.int .i64 (.ofNat 7)), (.int .i64 (.ofNat 6)), (.string ⟨⟨[60]⟩⟩), (.int .i64 (.ofNat 0)), (.int .i64 (.ofNat 9)), (.int .i64 (.ofNat 1)), (.string ⟨⟨[114]⟩⟩), (.int .i64 (.ofNat 0))]
theorem tl61 : lex tb61 = (tt61, none) := by kernel_rfl
theorem ta61 : allCells tt61 = tc61 := by kernel_rfl
def tb62 : List UInt8 := [112, 32, 111, 114, 32, 113, 32, 61, 61, 32, 114]
def tt62 : List Tok := [(0, 1, [112], 0), (2, 3, [111, 114], 0), (5, 1, [113], 0), (7, 6, [61, 61], 0), (10, 1, [114], 0)]
def tc62 : List Value := [(.int .i64 (.ofNat 0)), (.int .i64 (.ofNat 1)), (.string ⟨⟨[112]⟩⟩), (.int .i64 (.ofNat 0)), (.int .i64 (.ofNat 2)), (.int .i64 (.ofNat 3)), (.string ⟨⟨[111, 114]⟩⟩), (.int .i64 (.ofNat 0)), (.int .i64 (.ofNat 5)), (.int .i64 (.ofNat 1)), (.string ⟨⟨[113]⟩⟩), (.int .i64 (.ofNat 0)), (.int .i64 (.ofNat 7)), (.int .i64 (.ofNat 6)), (.string ⟨⟨[61, 61]⟩⟩), (.int .i64 (.ofNat 0)), (.int .i64 (.ofNat 10)), (.int .i64 (.ofNat 1)), (.string ⟨⟨[114]⟩⟩), (.int .i64 (.ofNat 0))]
theorem tl62 : lex tb62 = (tt62, none) := by kernel_rfl
theorem ta62 : allCells tt62 = tc62 := by kernel_rfl
def tb63 : List UInt8 := [112, 32, 111, 114, 32, 113, 32, 97, 110, 100, 32, 114]
def tt63 : List Tok := [(0, 1, [112], 0), (2, 3, [111, 114], 0), (5, 1, [113], 0), (7, 3, [97, 110, 100], 0), (11, 1, [114], 0)]
def tc63 : List Value := [(.int .i64 (.ofNat 0)), (.int .i64 (.ofNat 1)), (.string ⟨⟨[112]⟩⟩), (.int .i64 (.ofNat 0)), (.int .i64 (.ofNat 2)), (.int .i64 (.ofNat 3)), (.string ⟨⟨[111, 114]⟩⟩), (.int .i64 (.ofNat 0)), (.int .i64 (.ofNat 5)), (.int .i64 (.ofNat 1)), (.string ⟨⟨[113]⟩⟩), (.int .i64 (.ofNat 0)), (.int .i64 (.ofNat 7)), (.int .i64 (.ofNat 3)), (.string ⟨⟨[97, 110, 100]⟩⟩), (.int .i64 (.ofNat 0)), (.int .i64 (.ofNat 11)), (.int .i64 (.ofNat 1)), (.string ⟨⟨[114]⟩⟩), (.int .i64 (.ofNat 0))]
theorem tl63 : lex tb63 = (tt63, none) := by kernel_rfl
theorem ta63 : allCells tt63 = tc63 := by kernel_rfl
def tb64 : List UInt8 := [112, 32, 111, 114, 32, 113, 32, 111, 114, 32, 114]
def tt64 : List Tok := [(0, 1, [112], 0), (2, 3, [111, 114], 0), (5, 1, [113], 0), (7, 3, [111, 114], 0), (10, 1, [114], 0)]
def tc64 : List Value := [(.int .i64 (.ofNat 0)), (.int .i64 (.ofNat 1)), (.string ⟨⟨[112]⟩⟩), (.int .i64 (.ofNat 0)), (.int .i64 (.ofNat 2)), (.int .i64 (.ofNat 3)), (.string ⟨⟨[111, 114]⟩⟩), (.int .i64 (.ofNat 0)), (.int .i64 (.ofNat 5)), (.int .i64 (.ofNat 1)), (.string ⟨⟨[113]⟩⟩), (.int .i64 (.ofNat 0)), (.int .i64 (.ofNat 7)), (.int .i64 (.ofNat 3)), (.string ⟨⟨[111, 114]⟩⟩), (.int .i64 (.ofNat 0)), (.int .i64 (.ofNat 10)), (.int .i64 (.ofNat 1)), (.string ⟨⟨[114]⟩⟩), (.int .i64 (.ofNat 0))]
theorem tl64 : lex tb64 = (tt64, none) := by kernel_rfl
theorem ta64 : allCells tt64 = tc64 := by kernel_rfl
def lexT (l : List UInt8) : Option (Nat × List Value) := cond (bytesEq l tb0) (some (10, tc0)) (cond (bytesEq l tb1) (some (5, tc1)) (cond (bytesEq l tb2) (some (10, tc2)) (cond (bytesEq l tb3) (some (5, tc3)) (cond (bytesEq l tb4) (some (11, tc4)) (cond (bytesEq l tb5) (some (5, tc5)) (cond (bytesEq l tb6) (some (2, tc6)) (cond (bytesEq l tb7) (some (10, tc7)) (cond (bytesEq l tb8) (some (3, tc8)) (cond (bytesEq l tb9) (some (0, tc9)) (cond (bytesEq l tb10) (some (8, tc10)) (cond (bytesEq l tb11) (some (14, tc11)) (cond (bytesEq l tb12) (some (7, tc12)) (cond (bytesEq l tb13) (some (65, tc13)) (cond (bytesEq l tb14) (some (5, tc14)) (cond (bytesEq l tb15) (some (14, tc15)) (cond (bytesEq l tb16) (some (5, tc16)) (cond (bytesEq l tb17) (some (5, tc17)) (cond (bytesEq l tb18) (some (5, tc18)) (cond (bytesEq l tb19) (some (5, tc19)) (cond (bytesEq l tb20) (some (5, tc20)) (cond (bytesEq l tb21) (some (5, tc21)) (cond (bytesEq l tb22) (some (5, tc22)) (cond (bytesEq l tb23) (some (5, tc23)) (cond (bytesEq l tb24) (some (5, tc24)) (cond (bytesEq l tb25) (some (5, tc25)) (cond (bytesEq l tb26) (some (5, tc26)) (cond (bytesEq l tb27) (some (5, tc27)) (cond (bytesEq l tb28) (some (5, tc28)) (cond (bytesEq l tb29) (some (5, tc29)) (cond (bytesEq l tb30) (some (5, tc30)) (cond (bytesEq l tb31) (some (5, tc31)) (cond (bytesEq l tb32) (some (5, tc32)) (cond (bytesEq l tb33) (some (5, tc33)) (cond (bytesEq l tb34) (some (5, tc34)) (cond (bytesEq l tb35) (some (5, tc35)) (cond (bytesEq l tb36) (some (5, tc36)) (cond (bytesEq l tb37) (some (5, tc37)) (cond (bytesEq l tb38) (some (5, tc38)) (cond (bytesEq l tb39) (some (5, tc39)) (cond (bytesEq l tb40) (some (5, tc40)) (cond (bytesEq l tb41) (some (5, tc41)) (cond (bytesEq l tb42) (some (5, tc42)) (cond (bytesEq l tb43) (some (5, tc43)) (cond (bytesEq l tb44) (some (5, tc44)) (cond (bytesEq l tb45) (some (5, tc45)) (cond (bytesEq l tb46) (some (5, tc46)) (cond (bytesEq l tb47) (some (5, tc47)) (cond (bytesEq l tb48) (some (5, tc48)) (cond (bytesEq l tb49) (some (5, tc49)) (cond (bytesEq l tb50) (some (5, tc50)) (cond (bytesEq l tb51) (some (5, tc51)) (cond (bytesEq l tb52) (some (5, tc52)) (cond (bytesEq l tb53) (some (5, tc53)) (cond (bytesEq l tb54) (some (5, tc54)) (cond (bytesEq l tb55) (some (5, tc55)) (cond (bytesEq l tb56) (some (5, tc56)) (cond (bytesEq l tb57) (some (5, tc57)) (cond (bytesEq l tb58) (some (5, tc58)) (cond (bytesEq l tb59) (some (5, tc59)) (cond (bytesEq l tb60) (some (5, tc60)) (cond (bytesEq l tb61) (some (5, tc61)) (cond (bytesEq l tb62) (some (5, tc62)) (cond (bytesEq l tb63) (some (5, tc63)) (cond (bytesEq l tb64) (some (5, tc64)) (none)))))))))))))))))))))))))))))))))))))))))))))))))))))))))))))))))
theorem lexT_ok {l : List UInt8} {n : Nat} {cs : List Value} (h : lexT l = some (n, cs)) : ∃ ts, lex l = (ts, none) ∧ ts.length = n ∧ allCells ts = cs ∧ l.length ≤ 100000 := by
  unfold lexT at h
  cases h0 : bytesEq l tb0 with
  | true =>
    rw [h0] at h
    obtain ⟨rfl, rfl⟩ := Prod.mk.inj (Option.some.inj h)
    obtain rfl : l = tb0 := by rw [bytesEq_eq] at h0; simpa using h0
    exact ⟨tt0, tl0, rfl, ta0, by decide⟩
  | false =>
  rw [h0] at h
  simp only [cond_false] at h
  cases h1 : bytesEq l tb1 with
  | true =>
    rw [h1] at h
    obtain ⟨rfl, rfl⟩ := Prod.mk.inj (Option.some.inj h)
    obtain rfl : l = tb1 := by rw [bytesEq_eq] at h1; simpa using h1
    exact ⟨tt1, tl1, rfl, ta1, by decide⟩
  | false =>
  rw [h1] at h
  simp only [cond_false] at h
  cases h2 : bytesEq l tb2 with
  | true =>
    rw [h2] at h
    obtain ⟨rfl, rfl⟩ := Prod.mk.inj (Option.some.inj h)
    obtain rfl : l = tb2 := by rw [bytesEq_eq] at h2; simpa using h2
    exact ⟨tt2, tl2, rfl, ta2, by decide⟩
  | false =>
  rw [h2] at h
  simp only [cond_false] at h
  cases h3 : bytesEq l tb3 with
  | true =>
    rw [h3] at h
    obtain ⟨rfl, rfl⟩ := Prod.mk.inj (Option.some.inj h)
    obtain rfl : l = tb3 := by rw [bytesEq_eq] at h3; simpa using h3
    exact ⟨tt3, tl3, rfl, ta3, by decide⟩
  | false =>
  rw [h3] at h
  simp only [cond_false] at h
  cases h4 : bytesEq l tb4 with
  | true =>
    rw [h4] at h
    obtain ⟨rfl, rfl⟩ := Prod.mk.inj (Option.some.inj h)
    obtain rfl : l = tb4 := by rw [bytesEq_eq] at h4; simpa using h4
    exact ⟨tt4, tl4, rfl, ta4, by decide⟩
  | false =>
  rw [h4] at h
  simp only [cond_false] at h
  cases h5 : bytesEq l tb5 with
  | true =>
    rw [h5] at h
    obtain ⟨rfl, rfl⟩ := Prod.mk.inj (Option.some.inj h)
    obtain rfl : l = tb5 := by rw [bytesEq_eq] at h5; simpa using h5
    exact ⟨tt5, tl5, rfl, ta5, by decide⟩
  | false =>
  rw [h5] at h
  simp only [cond_false] at h
  cases h6 : bytesEq l tb6 with
  | true =>
    rw [h6] at h
    obtain ⟨rfl, rfl⟩ := Prod.mk.inj (Option.some.inj h)
    obtain rfl : l = tb6 := by rw [bytesEq_eq] at h6; simpa using h6
    exact ⟨tt6, tl6, rfl, ta6, by decide⟩
  | false =>
  rw [h6] at h
  simp only [cond_false] at h
  cases h7 : bytesEq l tb7 with
  | true =>
    rw [h7] at h
    obtain ⟨rfl, rfl⟩ := Prod.mk.inj (Option.some.inj h)
    obtain rfl : l = tb7 := by rw [bytesEq_eq] at h7; simpa using h7
    exact ⟨tt7, tl7, rfl, ta7, by decide⟩
  | false =>
  rw [h7] at h
  simp only [cond_false] at h
  cases h8 : bytesEq l tb8 with
  | true =>
    rw [h8] at h
    obtain ⟨rfl, rfl⟩ := Prod.mk.inj (Option.some.inj h)
    obtain rfl : l = tb8 := by rw [bytesEq_eq] at h8; simpa using h8
    exact ⟨tt8, tl8, rfl, ta8, by decide⟩
  | false =>
  rw [h8] at h
  simp only [cond_false] at h
  cases h9 : bytesEq l tb9 with
  | true =>
    rw [h9] at h
    obtain ⟨rfl, rfl⟩ := Prod.mk.inj (Option.some.inj h)
    obtain rfl : l = tb9 := by rw [bytesEq_eq] at h9; simpa using h9
    exact ⟨tt9, tl9, rfl, ta9, by decide⟩
  | false =>
  rw [h9] at h
  simp only [cond_false] at h
  cases h10 : bytesEq l tb10 with
  | true =>
    rw [h10] at h
    obtain ⟨rfl, rfl⟩ := Prod.mk.inj (Option.some.inj h)
    obtain rfl : l = tb10 := by rw [bytesEq_eq] at h10; simpa using h10
    exact ⟨tt10, tl10, rfl, ta10, by decide⟩
  | false =>
  rw [h10] at h
  simp only [cond_false] at h
  cases h11 : bytesEq l tb11 with
  | true =>
    rw [h11] at h
    obtain ⟨rfl, rfl⟩ := Prod.mk.inj (Option.some.inj h)
    obtain rfl : l = tb11 := by rw [bytesEq_eq] at h11; simpa using h11
    exact ⟨tt11, tl11, rfl, ta11, by decide⟩
  | false =>
  rw [h11] at h
  simp only [cond_false] at h
  cases h12 : bytesEq l tb12 with
  | true =>
    rw [h12] at h
    obtain ⟨rfl, rfl⟩ := Prod.mk.inj (Option.some.inj h)
    obtain rfl : l = tb12 := by rw [bytesEq_eq] at h12; simpa using h12
    exact ⟨tt12, tl12, rfl, ta12, by decide⟩
  | false =>
  rw [h12] at h
  simp only [cond_false] at h
  cases h13 : bytesEq l tb13 with
  | true =>
    rw [h13] at h
    obtain ⟨rfl, rfl⟩ := Prod.mk.inj (Option.some.inj h)
    obtain rfl : l = tb13 := by rw [bytesEq_eq] at h13; simpa using h13
    exact ⟨tt13, tl13, rfl, ta13, by decide⟩
  | false =>
  rw [h13] at h
  simp only [cond_false] at h
  cases h14 : bytesEq l tb14 with
  | true =>
    rw [h14] at h
    obtain ⟨rfl, rfl⟩ := Prod.mk.inj (Option.some.inj h)
    obtain rfl : l = tb14 := by rw [bytesEq_eq] at h14; simpa using h14
    exact ⟨tt14, tl14, rfl, ta14, by decide⟩
  | false =>
  rw [h14] at h
  simp only [cond_false] at h
  cases h15 : bytesEq l tb15 with
  | true =>
    rw [h15] at h
    obtain ⟨rfl, rfl⟩ := Prod.mk.inj (Option.some.inj h)
    obtain rfl : l = tb15 := by rw [bytesEq_eq] at h15; simpa using h15
    exact ⟨tt15, tl15, rfl, ta15, by decide⟩
  | false =>
  rw [h15] at h
  simp only [cond_false] at h
  cases h16 : bytesEq l tb16 with
  | true =>
    rw [h16] at h
    obtain ⟨rfl, rfl⟩ := Prod.mk.inj (Option.some.inj h)
    obtain rfl : l = tb16 := by rw [bytesEq_eq] at h16; simpa using h16
    exact ⟨tt16, tl16, rfl, ta16, by decide⟩
  | false =>
  rw [h16] at h
  simp only [cond_false] at h
  cases h17 : bytesEq l tb17 with
  | true =>
    rw [h17] at h
    obtain ⟨rfl, rfl⟩ := Prod.mk.inj (Option.some.inj h)
    obtain rfl : l = tb17 := by rw [bytesEq_eq] at h17; simpa using h17
    exact ⟨tt17, tl17, rfl, ta17, by decide⟩
  | false =>
  rw [h17] at h
  simp only [cond_false] at h
  cases h18 : bytesEq l tb18 with
  | true =>
    rw [h18] at h
    obtain ⟨rfl, rfl⟩ := Prod.mk.inj (Option.some.inj h)
    obtain rfl : l = tb18 := by rw [bytesEq_eq] at h18; simpa using h18
    exact ⟨tt18, tl18, rfl, ta18, by decide⟩
  | false =>
  rw [h18] at h
  simp only [cond_false] at h
  cases h19 : bytesEq l tb19 with
  | true =>
    rw [h19] at h
    obtain ⟨rfl, rfl⟩ := Prod.mk.inj (Option.some.inj h)
    obtain rfl : l = tb19 := by rw [bytesEq_eq] at h19; simpa using h19
    exact ⟨tt19, tl19, rfl, ta19, by decide⟩
  | false =>
  rw [h19] at h
  simp only [cond_false] at h
  cases h20 : bytesEq l tb20 with
  | true =>
    rw [h20] at h
    obtain ⟨rfl, rfl⟩ := Prod.mk.inj (Option.some.inj h)
    obtain rfl : l = tb20 := by rw [bytesEq_eq] at h20; simpa using h20
    exact ⟨tt20, tl20, rfl, ta20, by decide⟩
  | false =>
  rw [h20] at h
  simp only [cond_false] at h
  cases h21 : bytesEq l tb21 with
  | true =>
    rw [h21] at h
    obtain ⟨rfl, rfl⟩ := Prod.mk.inj (Option.some.inj h)
    obtain rfl : l = tb21 := by rw [bytesEq_eq] at h21; simpa using h21
    exact ⟨tt21, tl21, rfl, ta21, by decide⟩
  | false =>
  rw [h21] at h
  simp only [cond_false] at h
  cases h22 : bytesEq l tb22 with
  | true =>
    rw [h22] at h
    obtain ⟨rfl, rfl⟩ := Prod.mk.inj (Option.some.inj h)
    obtain rfl : l = tb22 := by rw [bytesEq_eq] at h22; simpa using h22
    exact ⟨tt22, tl22, rfl, ta22, by decide⟩
  | false =>
  rw [h22] at h
  simp only [cond_false] at h
  cases h23 : bytesEq l tb23 with
  | true =>
    rw [h23] at h
    obtain ⟨rfl, rfl⟩ := Prod.mk.inj (Option.some.inj h)
    obtain rfl : l = tb23 := by rw [bytesEq_eq] at h23; simpa using h23
    exact ⟨tt23, tl23, rfl, ta23, by decide⟩
  | false =>
  rw [h23] at h
  simp only [cond_false] at h
  cases h24 : bytesEq l tb24 with
  | true =>
    rw [h24] at h
    obtain ⟨rfl, rfl⟩ := Prod.mk.inj (Option.some.inj h)
    obtain rfl : l = tb24 := by rw [bytesEq_eq] at h24; simpa using h24
    exact ⟨tt24, tl24, rfl, ta24, by decide⟩
  | false =>
  rw [h24] at h
  simp only [cond_false] at h
  cases h25 : bytesEq l tb25 with
  | true =>
    rw [h25] at h
    obtain ⟨rfl, rfl⟩ := Prod.mk.inj (Option.some.inj h)
    obtain rfl : l = tb25 := by rw [bytesEq_eq] at h25; simpa using h25
    exact ⟨tt25, tl25, rfl, ta25, by decide⟩
  | false =>
  rw [h25] at h
  simp only [cond_false] at h
  cases h26 : bytesEq l tb26 with
  | true =>
    rw [h26] at h
    obtain ⟨rfl, rfl⟩ := Prod.mk.inj (Option.some.inj h)
    obtain rfl : l = tb26 := by rw [bytesEq_eq] at h26; simpa using h26
    exact ⟨tt26, tl26, rfl, ta26, by decide⟩
  | false =>
  rw [h26] at h
  simp only [cond_false] at h
  cases h27 : bytesEq l tb27 with
  | true =>
    rw [h27] at h
    obtain ⟨rfl, rfl⟩ := Prod.mk.inj (Option.some.inj h)
    obtain rfl : l = tb27 := by rw [bytesEq_eq] at h27; simpa using h27
    exact ⟨tt27, tl27, rfl, ta27, by decide⟩
  | false =>
  rw [h27] at h
  simp only [cond_false] at h
  cases h28 : bytesEq l tb28 with
  | true =>
    rw [h28] at h
    obtain ⟨rfl, rfl⟩ := Prod.mk.inj (Option.some.inj h)
    obtain rfl : l = tb28 := by rw [bytesEq_eq] at h28; simpa using h28
    exact ⟨tt28, tl28, rfl, ta28, by decide⟩
  | false =>
  rw [h28] at h
  simp only [cond_false] at h
  cases h29 : bytesEq l tb29 with
  | true =>
    rw [h29] at h
    obtain ⟨rfl, rfl⟩ := Prod.mk.inj (Option.some.inj h)
    obtain rfl : l = tb29 := by rw [bytesEq_eq] at h29; simpa using h29
    exact ⟨tt29, tl29, rfl, ta29, by decide⟩
  | false =>
  rw [h29] at h
  simp only [cond_false] at h
  cases h30 : bytesEq l tb30 with
  | true =>
    rw [h30] at h
    obtain ⟨rfl, rfl⟩ := Prod.mk.inj (Option.some.inj h)
    obtain rfl : l = tb30 := by rw [bytesEq_eq] at h30; simpa using h30
    exact ⟨tt30, tl30, rfl, ta30, by decide⟩
  | false =>
  rw [h30] at h
  simp only [cond_false] at h
  cases h31 : bytesEq l tb31 with
  | true =>
    rw [h31] at h
    obtain ⟨rfl, rfl⟩ := Prod.mk.inj (Option.some.inj h)
    obtain rfl : l = tb31 := by rw [bytesEq_eq] at h31; simpa using h31
    exact ⟨tt31, tl31, rfl, ta31, by decide⟩
  | false =>
  rw [h31] at h
  simp only [cond_false] at h
  cases h32 : bytesEq l tb32 with
  | true =>
    rw [h32] at h
    obtain ⟨rfl, rfl⟩ := Prod.mk.inj (Option.some.inj h)
    obtain rfl : l = tb32 := by rw [bytesEq_eq] at h32; simpa using h32
    exact ⟨tt32, tl32, rfl, ta32, by decide⟩
  | false =>
  rw [h32] at h
  simp only [cond_false] at h
  cases h33 : bytesEq l tb33 with
  | true =>
    rw [h33] at h
    obtain ⟨rfl, rfl⟩ := Prod.mk.inj (Option.some.inj h)
    obtain rfl : l = tb33 := by rw [bytesEq_eq] at h33; simpa using h33
    exact ⟨tt33, tl33, rfl, ta33, by decide⟩
  | false =>
  rw [h33] at h
  simp only [cond_false] at h
  cases h34 : bytesEq l tb34 with
  | true =>
    rw [h34] at h
    obtain ⟨rfl, rfl⟩ := Prod.mk.inj (Option.some.inj h)
    obtain rfl : l = tb34 := by rw [bytesEq_eq] at h34; simpa using h34
    exact ⟨tt34, tl34, rfl, ta34, by decide⟩
  | false =>
  rw [h34] at h
  simp only [cond_false] at h
  cases h35 : bytesEq l tb35 with
  | true =>
    rw [h35] at h
    obtain ⟨rfl, rfl⟩ := Prod.mk.inj (Option.some.inj h)
    obtain rfl : l = tb35 := by rw [bytesEq_eq] at h35; simpa using h35
    exact ⟨tt35, tl35, rfl, ta35, by decide⟩
  | false =>
  rw [h35] at h
  simp only [cond_false] at h
  cases h36 : bytesEq l tb36 with
  | true =>
    rw [h36] at h
    obtain ⟨rfl, rfl⟩ := Prod.mk.inj (Option.some.inj h)
    obtain rfl : l = tb36 := by rw [bytesEq_eq] at h36; simpa using h36
    exact ⟨tt36, tl36, rfl, ta36, by decide⟩
  | false =>
  rw [h36] at h
  simp only [cond_false] at h
  cases h37 : bytesEq l tb37 with
  | true =>
    rw [h37] at h
    obtain ⟨rfl, rfl⟩ := Prod.mk.inj (Option.some.inj h)
    obtain rfl : l = tb37 := by rw [bytesEq_eq] at h37; simpa using h37
    exact ⟨tt37, tl37, rfl, ta37, by decide⟩
  | false =>
  rw [h37] at h
  simp only [cond_false] at h
  cases h38 : bytesEq l tb38 with
  | true =>
    rw [h38] at h
    obtain ⟨rfl, rfl⟩ := Prod.mk.inj (Option.some.inj h)
    obtain rfl : l = tb38 := by rw [bytesEq_eq] at h38; simpa using h38
    exact ⟨tt38, tl38, rfl, ta38, by decide⟩
  | false =>
  rw [h38] at h
  simp only [cond_false] at h
  cases h39 : bytesEq l tb39 with
  | true =>
    rw [h39] at h
    obtain ⟨rfl, rfl⟩ := Prod.mk.inj (Option.some.inj h)
    obtain rfl : l = tb39 := by rw [bytesEq_eq] at h39; simpa using h39
    exact ⟨tt39, tl39, rfl, ta39, by decide⟩
  | false =>
  rw [h39] at h
  simp only [cond_false] at h
  cases h40 : bytesEq l tb40 with
  | true =>
    rw [h40] at h
    obtain ⟨rfl, rfl⟩ := Prod.mk.inj (Option.some.inj h)
    obtain rfl : l = tb40 := by rw [bytesEq_eq] at h40; simpa using h40
    exact ⟨tt40, tl40, rfl, ta40, by decide⟩
  | false =>
  rw [h40] at h
  simp only [cond_false] at h
  cases h41 : bytesEq l tb41 with
  | true =>
    rw [h41] at h
    obtain ⟨rfl, rfl⟩ := Prod.mk.inj (Option.some.inj h)
    obtain rfl : l = tb41 := by rw [bytesEq_eq] at h41; simpa using h41
    exact ⟨tt41, tl41, rfl, ta41, by decide⟩
  | false =>
  rw [h41] at h
  simp only [cond_false] at h
  cases h42 : bytesEq l tb42 with
  | true =>
    rw [h42] at h
    obtain ⟨rfl, rfl⟩ := Prod.mk.inj (Option.some.inj h)
    obtain rfl : l = tb42 := by rw [bytesEq_eq] at h42; simpa using h42
    exact ⟨tt42, tl42, rfl, ta42, by decide⟩
  | false =>
  rw [h42] at h
  simp only [cond_false] at h
  cases h43 : bytesEq l tb43 with
  | true =>
    rw [h43] at h
    obtain ⟨rfl, rfl⟩ := Prod.mk.inj (Option.some.inj h)
    obtain rfl : l = tb43 := by rw [bytesEq_eq] at h43; simpa using h43
    exact ⟨tt43, tl43, rfl, ta43, by decide⟩
  | false =>
  rw [h43] at h
  simp only [cond_false] at h
  cases h44 : bytesEq l tb44 with
  | true =>
    rw [h44] at h
    obtain ⟨rfl, rfl⟩ := Prod.mk.inj (Option.some.inj h)
    obtain rfl : l = tb44 := by rw [bytesEq_eq] at h44; simpa using h44
    exact ⟨tt44, tl44, rfl, ta44, by decide⟩
  | false =>
  rw [h44] at h
  simp only [cond_false] at h
  cases h45 : bytesEq l tb45 with
  | true =>
    rw [h45] at h
    obtain ⟨rfl, rfl⟩ := Prod.mk.inj (Option.some.inj h)
    obtain rfl : l = tb45 := by rw [bytesEq_eq] at h45; simpa using h45
    exact ⟨tt45, tl45, rfl, ta45, by decide⟩
  | false =>
  rw [h45] at h
  simp only [cond_false] at h
  cases h46 : bytesEq l tb46 with
  | true =>
    rw [h46] at h
    obtain ⟨rfl, rfl⟩ := Prod.mk.inj (Option.some.inj h)
    obtain rfl : l = tb46 := by rw [bytesEq_eq] at h46; simpa using h46
    exact ⟨tt46, tl46, rfl, ta46, by decide⟩
  | false =>
  rw [h46] at h
  simp only [cond_false] at h
  cases h47 : bytesEq l tb47 with
  | true =>
    rw [h47] at h
    obtain ⟨rfl, rfl⟩ := Prod.mk.inj (Option.some.inj h)
    obtain rfl : l = tb47 := by rw [bytesEq_eq] at h47; simpa using h47
    exact ⟨tt47, tl47, rfl, ta47, by decide⟩
  | false =>
  rw [h47] at h
  simp only [cond_false] at h
  cases h48 : bytesEq l tb48 with
  | true =>
    rw [h48] at h
    obtain ⟨rfl, rfl⟩ := Prod.mk.inj (Option.some.inj h)
    obtain rfl : l = tb48 := by rw [bytesEq_eq] at h48; simpa using h48
    exact ⟨tt48, tl48, rfl, ta48, by decide⟩
  | false =>
  rw [h48] at h
  simp only [cond_false] at h
  cases h49 : bytesEq l tb49 with
  | true =>
    rw [h49] at h
    obtain ⟨rfl, rfl⟩ := Prod.mk.inj (Option.some.inj h)
    obtain rfl : l = tb49 := by rw [bytesEq_eq] at h49; simpa using h49
    exact ⟨tt49, tl49, rfl, ta49, by decide⟩
  | false =>
  rw [h49] at h
  simp only [cond_false] at h
  cases h50 : bytesEq l tb50 with
  | true =>
    rw [h50] at h
    obtain ⟨rfl, rfl⟩ := Prod.mk.inj (Option.some.inj h)
    obtain rfl : l = tb50 := by rw [bytesEq_eq] at h50; simpa using h50
    exact ⟨tt50, tl50, rfl, ta50, by decide⟩
  | false =>
  rw [h50] at h
  simp only [cond_false] at h
  cases h51 : bytesEq l tb51 with
  | true =>
    rw [h51] at h
    obtain ⟨rfl, rfl⟩ := Prod.mk.inj (Option.some.inj h)
    obtain rfl : l = tb51 := by rw [bytesEq_eq] at h51; simpa using h51
    exact ⟨tt51, tl51, rfl, ta51, by decide⟩
  | false =>
  rw [h51] at h
  simp only [cond_false] at h
  cases h52 : bytesEq l tb52 with
  | true =>
    rw [h52] at h
    obtain ⟨rfl, rfl⟩ := Prod.mk.inj (Option.some.inj h)
    obtain rfl : l = tb52 := by rw [bytesEq_eq] at h52; simpa using h52
    exact ⟨tt52, tl52, rfl, ta52, by decide⟩
  | false =>
  rw [h52] at h
  simp only [cond_false] at h
  cases h53 : bytesEq l tb53 with
  | true =>
    rw [h53] at h
    obtain ⟨rfl, rfl⟩ := Prod.mk.inj (Option.some.inj h)
    obtain rfl : l = tb53 := by rw [bytesEq_eq] at h53; simpa using h53
    exact ⟨tt53, tl53, rfl, ta53, by decide⟩
  | false =>
  rw [h53] at h
  simp only [cond_false] at h
  cases h54 : bytesEq l tb54 with
  | true =>
    rw [h54] at h
    obtain ⟨rfl, rfl⟩ := Prod.mk.inj (Option.some.inj h)
    obtain rfl : l = tb54 := by rw [bytesEq_eq] at h54; simpa using h54
    exact ⟨tt54, tl54, rfl, ta54, by decide⟩
  | false =>
  rw [h54] at h
  simp only [cond_false] at h
  cases h55 : bytesEq l tb55 with
  | true =>
    rw [h55] at h
    obtain ⟨rfl, rfl⟩ := Prod.mk.inj (Option.some.inj h)
    obtain rfl : l = tb55 := by rw [bytesEq_eq] at h55; simpa using h55
    exact ⟨tt55, tl55, rfl, ta55, by decide⟩
  | false =>
  rw [h55] at h
  simp only [cond_false] at h
  cases h56 : bytesEq l tb56 with
  | true =>
    rw [h56] at h
    obtain ⟨rfl, rfl⟩ := Prod.mk.inj (Option.some.inj h)
    obtain rfl : l = tb56 := by rw [bytesEq_eq] at h56; simpa using h56
    exact ⟨tt56, tl56, rfl, ta56, by decide⟩
  | false =>
  rw [h56] at h
  simp only [cond_false] at h
  cases h57 : bytesEq l tb57 with
  | true =>
    rw [h57] at h
    obtain ⟨rfl, rfl⟩ := Prod.mk.inj (Option.some.inj h)
    obtain rfl : l = tb57 := by rw [bytesEq_eq] at h57; simpa using h57
    exact ⟨tt57, tl57, rfl, ta57, by decide⟩
  | false =>
  rw [h57] at h
  simp only [cond_false] at h
  cases h58 : bytesEq l tb58 with
  | true =>
    rw [h58] at h
    obtain ⟨rfl, rfl⟩ := Prod.mk.inj (Option.some.inj h)
    obtain rfl : l = tb58 := by rw [bytesEq_eq] at h58; simpa using h58
    exact ⟨tt58, tl58, rfl, ta58, by decide⟩
  | false =>
  rw [h58] at h
  simp only [cond_false] at h
  cases h59 : bytesEq l tb59 with
  | true =>
    rw [h59] at h
    obtain ⟨rfl, rfl⟩ := Prod.mk.inj (Option.some.inj h)
    obtain rfl : l = tb59 := by rw [bytesEq_eq] at h59; simpa using h59
    exact ⟨tt59, tl59, rfl, ta59, by decide⟩
  | false =>
  rw [h59] at h
  simp only [cond_false] at h
  cases h60 : bytesEq l tb60 with
  | true =>
    rw [h60] at h
    obtain ⟨rfl, rfl⟩ := Prod.mk.inj (Option.some.inj h)
    obtain rfl : l = tb60 := by rw [bytesEq_eq] at h60; simpa using h60
    exact ⟨tt60, tl60, rfl, ta60, by decide⟩
  | false =>
  rw [h60] at h
  simp only [cond_false] at h
  cases h61 : bytesEq l tb61 with
  | true =>
    rw [h61] at h
    obtain ⟨rfl, rfl⟩ := Prod.mk.inj (Option.some.inj h)
    obtain rfl : l = tb61 := by rw [bytesEq_eq] at h61; simpa using h61
    exact ⟨tt61, tl61, rfl, ta61, by decide⟩
  | false =>
  rw [h61] at h
  simp only [cond_false] at h
  cases h62 : bytesEq l tb62 with
  | true =>
    rw [h62] at h
    obtain ⟨rfl, rfl⟩ := Prod.mk.inj (Option.some.inj h)
    obtain rfl : l = tb62 := by rw [bytesEq_eq] at h62; simpa using h62
    exact ⟨tt62, tl62, rfl, ta62, by decide⟩
  | false =>
  rw [h62] at h
  simp only [cond_false] at h
  cases h63 : bytesEq l tb63 with
  | true =>
    rw [h63] at h
    obtain ⟨rfl, rfl⟩ := Prod.mk.inj (Option.some.inj h)
    obtain rfl : l = tb63 := by rw [bytesEq_eq] at h63; simpa using h63
    exact ⟨tt63, tl63, rfl, ta63, by decide⟩
  | false =>
  rw [h63] at h
  simp only [cond_false] at h
  cases h64 : bytesEq l tb64 with
  | true =>
    rw [h64] at h
    obtain ⟨rfl, rfl⟩ := Prod.mk.inj (Option.some.inj h)
    obtain rfl : l = tb64 := by rw [bytesEq_eq] at h64; simpa using h64
    exact ⟨tt64, tl64, rfl, ta64, by decide⟩
  | false =>
  rw [h64] at h
  simp only [cond_false] at h
  cases h
theorem size_list (b : ByteArray) : b.size = b.data.toList.length := rfl
theorem tok_fn : CallOk Tryz.prog (fun f' args s k => cond (Nat.beq f' 32) (xTok 113 4 lexT args s k) false) := tok_ok (by kernel_rfl) (by decide) fun b n cs w h => by
  obtain ⟨ts, h1, h2, h3, h4⟩ := lexT_ok h
  have hb : b.size ≤ 140737488355328 := by rw [size_list]; omega
  refine (Tokens_any0 b hb w).mono fun ev W' hs => ?_
  refine ⟨hs.1, ?_⟩
  have h5 := hs.2
  rw [h1] at h5
  obtain ⟨v, e1, e2, e3⟩ := h5
  exact ⟨v, e1, by rw [← h2, ← h3]; exact e2, fun hz => e3 (List.length_eq_zero_iff.1 (h2.trans hz))⟩
end Go.Proofs.YteoeonhggmkmnaaGreatDoor
