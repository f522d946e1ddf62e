import Derived.Test.YtmpbbmfbgcpplaaGreatDoorQLaws6
namespace Go.Proofs.YtmpbbmfbgcpplaaGreatDoor
namespace Lx
open Lib
end Lx
end Go.Proofs.YtmpbbmfbgcpplaaGreatDoor
