/-
  coillaw10.ValuePlain answers true, whatever number and text it is handed. Own work.
-/
import Derived.Test.YtnkcibcodabkiaaGreatDoorVPps
import Derived.Test.YtnkcibcodabkiaaGreatDoorVPpl
import Derived.Test.YtnkcibcodabkiaaGreatDoorVPns
import Derived.Test.YtnkcibcodabkiaaGreatDoorVPnl
import Derived.Test.YtnkcibcodabkiaaGreatDoorRFill
namespace Go.Proofs.YtnkcibcodabkiaaGreatDoor
open Go Go.RowKit Go.Proofs Am

theorem ValuePlain_any (n : Int) (s : ByteArray) (n1 : -9223372036854775808 ≤ n) (n2 : n ≤ 9223372036854775807) (w : World) (hG : GlobOk w) :
    Calls Tryz.prog 5 #[.int .i64 n, .string s] w fun e w' => e = .returned (.bool true) ∧ Below w.heap.size w w' := by
  by_cases h : n < 0 <;> by_cases h2 : 5000 < s.size
  · exact plain_nl n s w hG h n1 h2 fun W hW => runs_fill W hW
  · exact plain_ns n s w hG h n1 (by omega) fun W hW => runs_fill W hW
  · exact plain_pl n s w hG (by omega) n2 h2 fun W hW => runs_fill W hW
  · exact plain_ps n s w hG (by omega) n2 (by omega) fun W hW => runs_fill W hW
end Go.Proofs.YtnkcibcodabkiaaGreatDoor
