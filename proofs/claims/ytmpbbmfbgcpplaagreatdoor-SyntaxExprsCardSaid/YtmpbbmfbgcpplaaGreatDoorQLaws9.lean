/-
  Plain laws: around the longest text, the most tokens, the longest name.
-/
import Derived.Test.YtmpbbmfbgcpplaaGreatDoorQLaws6
namespace Go.Proofs.YtmpbbmfbgcpplaaGreatDoor
namespace Lx
open Lib

end Lx
end Go.Proofs.YtmpbbmfbgcpplaaGreatDoor
