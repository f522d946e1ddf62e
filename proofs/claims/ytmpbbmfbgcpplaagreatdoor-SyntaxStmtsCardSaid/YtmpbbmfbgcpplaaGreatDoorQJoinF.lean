import Derived.Test.YtmpbbmfbgcpplaaGreatDoorQLexC
namespace Go.Proofs.YtmpbbmfbgcpplaaGreatDoor
open Go Go.RowKit Lx
end Go.Proofs.YtmpbbmfbgcpplaaGreatDoor
