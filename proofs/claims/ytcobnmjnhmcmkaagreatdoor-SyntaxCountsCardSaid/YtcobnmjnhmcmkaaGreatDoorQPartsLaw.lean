/-
  coillaw2.SyntaxParts, walked.
-/
import Derived.Test.YtcobnmjnhmcmkaaGreatDoorQRunsC
import Derived.Test.YtcobnmjnhmcmkaaGreatDoorQPartsG
import Derived.Test.YtcobnmjnhmcmkaaGreatDoorQKeepG
namespace Go.Proofs.YtcobnmjnhmcmkaaGreatDoor
open Go Go.RowKit Lx

abbrev tyV (K : Int) (S : ByteArray) (pn pe pp : Option Addr) (nn ne np cn ce cp : Nat) : Value := .agg #[.int .i64 K, .string S, .slice pn nn cn, .slice pe ne ce, .slice pp np cp]
theorem box_a {K K' : Int} {S S' : ByteArray} {pn pe pp pn' pe' pp' : Option Addr} {nn ne np cn ce cp nn' ne' np' cn' ce' cp' : Nat} {w wr : World} (hb : Below ((w.alloc (tyBox K S pn pe pp nn ne np cn ce cp)).alloc (tyBox K' S' pn' pe' pp' nn' ne' np' cn' ce' cp')).heap.size ((w.alloc (tyBox K S pn pe pp nn ne np cn ce cp)).alloc (tyBox K' S' pn' pe' pp' nn' ne' np' cn' ce' cp')) wr) :
    wr.cell? ⟨w.heap.size, 0, none⟩ = some (.int .i64 K) ∧ wr.cell? ⟨w.heap.size, 1, none⟩ = some (.string S) ∧ wr.cell? ⟨w.heap.size, 2, none⟩ = some (.slice pn nn cn) ∧ wr.cell? ⟨w.heap.size, 3, none⟩ = some (.slice pe ne ce) ∧ wr.cell? ⟨w.heap.size, 4, none⟩ = some (.slice pp np cp) :=
  box_cells (((Below.refl _ _).alloc (Nat.le_refl _) _).trans (hb.mono (by simp)))
theorem box_b {K K' : Int} {S S' : ByteArray} {pn pe pp pn' pe' pp' : Option Addr} {nn ne np cn ce cp nn' ne' np' cn' ce' cp' : Nat} {w wr : World} (hb : Below ((w.alloc (tyBox K S pn pe pp nn ne np cn ce cp)).alloc (tyBox K' S' pn' pe' pp' nn' ne' np' cn' ce' cp')).heap.size ((w.alloc (tyBox K S pn pe pp nn ne np cn ce cp)).alloc (tyBox K' S' pn' pe' pp' nn' ne' np' cn' ce' cp')) wr) :
    wr.cell? ⟨w.heap.size + 1, 0, none⟩ = some (.int .i64 K') ∧ wr.cell? ⟨w.heap.size + 1, 1, none⟩ = some (.string S') ∧ wr.cell? ⟨w.heap.size + 1, 2, none⟩ = some (.slice pn' nn' cn') ∧ wr.cell? ⟨w.heap.size + 1, 3, none⟩ = some (.slice pe' ne' ce') ∧ wr.cell? ⟨w.heap.size + 1, 4, none⟩ = some (.slice pp' np' cp') := by
  have h := box_cells (w := w.alloc (tyBox K S pn pe pp nn ne np cn ce cp)) hb
  rw [World.size_alloc] at h
  exact h
theorem type_ans {d : Nat} {W : World} {v : Value} {t : Ty (d + 1)} {X : ByteArray} (h : TyVal W d v t) (hz : szD (d + 1) t ≤ 1000000) (ht : Tab W) (h5 : 4 ≤ W.heap.size) (ha : joinAns (typeAns d t) = .tuple #[.string X, .int .i64 0]) :
    Calls Tryz.prog 11 #[v] W fun e w' => e = .returned (.tuple #[.string X, .int .i64 0]) ∧ Below W.heap.size W w' :=
  (Type_any d v t W h (fit_of_sz hz).1 (fit_of_sz hz).2 ht h5).mono fun e w' ⟨he, hb⟩ => ⟨by rw [he, ha], hb⟩
/-- three types in a block. -/
theorem TyRow.three {W : World} {g d : Nat} {K K' K2 : Int} {S S' S2 : Bs} {vn ve v vn' ve' v' vn2 ve2 v2 : Value} {ns ns' ns2 : List Bs} {es es' es2 : List Bool} {ts ts' ts2 : List (Ty d)} (hg : W.heap[g]? = some (.cells #[.int .i64 K, .string ⟨S.toArray⟩, vn, ve, v, .int .i64 K', .string ⟨S'.toArray⟩, vn', ve', v', .int .i64 K2, .string ⟨S2.toArray⟩, vn2, ve2, v2] 26)) (hn : SRow W vn ns) (he : BRow W ve es) (h : TyRow W d v ts) (hn' : SRow W vn' ns') (he' : BRow W ve' es') (h' : TyRow W d v' ts') (hn2 : SRow W vn2 ns2) (he2 : BRow W ve2 es2) (h2 : TyRow W d v2 ts2) :
    TyRow W (d + 1) (.slice (some ⟨g, 0, none⟩) 3 3) [(K, S, ns, es, ts), (K', S', ns', es', ts'), (K2, S2, ns2, es2, ts2)] := by
  have hc := Lib.cell_of_heap hg
  refine ⟨_, 3, rfl, fun j x hx => ?_⟩
  match j, hx with
  | 0, hx =>
    obtain rfl := Option.some.inj hx
    exact ⟨g, 0, _, _, _, rfl, hc 0, hc 1, hc 2, hc 3, hc 4, hn, he, h⟩
  | 1, hx =>
    obtain rfl := Option.some.inj hx
    exact ⟨g, 0, _, _, _, rfl, hc 5, hc 6, hc 7, hc 8, hc 9, hn', he', h'⟩
  | 2, hx =>
    obtain rfl := Option.some.inj hx
    exact ⟨g, 0, _, _, _, rfl, hc 10, hc 11, hc 12, hc 13, hc 14, hn2, he2, h2⟩
  | j + 3, hx => cases hx
/-- what Join's answer looks like. -/
theorem ans_shape {d : Nat} (t : Ty (d + 1)) : ∃ (X : ByteArray) (Y : Int), joinAns (typeAns d t) = .tuple #[.string X, .int .i64 Y] ∧ ((Y = 0 ∧ ∃ s : Bs, typeAns d t = .inr s ∧ X = ⟨s.toArray⟩ ∧ s.length ≤ 65536) ∨ Y ≠ 0) := by
  rcases h : typeAns d t with y | s
  · refine ⟨_, _, rfl, .inr ?_⟩
    unfold typeAns at h
    split at h
    · unfold join at h
      split at h
      · cases h; decide
      · split at h
        · cases h; decide
        · split at h
          · cases h; decide
          · cases h
    · cases h; decide
  · refine ⟨_, _, rfl, .inl ⟨rfl, s, rfl, rfl, ?_⟩⟩
    unfold typeAns at h
    split at h
    · exact (join_is h).2.2.1
    · cases h
end Go.Proofs.YtcobnmjnhmcmkaaGreatDoor
