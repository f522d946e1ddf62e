/-
  strings.Builder's writers with the frame above the builder, by the library's contracts at the renaming of the text Build.
-/
import Derived.Test.YthplgkkailieoaaGreatDoorBuild
import Derived.Shelf.Strings.BuilderK
namespace Go.Proofs.YthplgkkailieoaaGreatDoor
open Go Go.RowKit Go.Shelf Go.Proofs

abbrev IsF (B b : Nat) (bs : List Value) (w : World) : Prop := Lib.IsBuilderF 87 5 B b bs w
abbrev Others (b : Nat) (w w' : World) : Prop := Lib.OthersKept 5 (some b) w w'
theorem WriteByte_k (B b : Nat) (bs : List Value) (c : Int) (w : World) (h : IsF B b bs w) (hlen : bs.length + 1 ≤ 140737488355328) (hBw : B ≤ w.heap.size) :
    Calls Tryz.prog 39 #[.pointer (some ⟨b, 0, none⟩), .int .u8 c] w fun e w' => e = .returned .nilIface ∧ IsF B b (bs ++ [.int .u8 c]) w' ∧ Below B w w' ∧ Others b w w' :=
  (Any.Builder_WriteByte_k lays167 extra B b bs c w h hlen hBw).mono fun _ _ h => ⟨h.1, .inr h.2.1, h.2.2⟩
theorem WriteString_k (B b : Nat) (bs : List Value) (s : ByteArray) (w : World) (h : IsF B b bs w) (hlen : bs.length + s.size ≤ 140737488355328) (hBw : B ≤ w.heap.size) :
    Calls Tryz.prog 68 #[.pointer (some ⟨b, 0, none⟩), .string s] w fun e w' => e = .returned (.tuple #[.int .i64 s.size, .nilIface]) ∧ IsF B b (bs ++ Lib.strCells s) w' ∧ Below B w w' ∧ Others b w w' :=
  (Any.Builder_WriteString_k lays166 extra B b bs s w h hlen hBw).mono fun _ _ h => ⟨h.1, .inr h.2.1, h.2.2⟩
end Go.Proofs.YthplgkkailieoaaGreatDoor
