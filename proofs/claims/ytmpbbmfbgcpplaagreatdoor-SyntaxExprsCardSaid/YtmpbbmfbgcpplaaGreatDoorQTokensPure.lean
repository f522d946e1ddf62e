/-
  Texts that were joined, cut and joined again; statements' texts one behind another. No world.
-/
import Derived.Test.YtmpbbmfbgcpplaaGreatDoorQSizeG
import Derived.Test.YtmpbbmfbgcpplaaGreatDoorQPartsG
namespace Go.Proofs.YtmpbbmfbgcpplaaGreatDoor
open Go Go.RowKit Lx

/-- small expressions fit. -/
theorem exfits_of {D : Nat} : ∀ {d : Nat} {xs : List (Ex D d)}, szXL D d xs ≤ 1000000 → ExWf D d xs → ExFits D d xs
  | 0, _, _, _ => trivial
  | d + 1, xs, hz, hw => by
    have hlen : xs.length ≤ szXL D (d + 1) xs := by
      clear hz hw
      induction xs with
      | nil => simp
      | cons x r ih =>
        have : 1 ≤ szX D (d + 1) x := by rw [szX]; omega
        simp only [szXL, List.map_cons, List.sum_cons, List.length_cons] at ih ⊢
        omega
    refine ⟨by omega, fun x hx => ?_⟩
    have h1 : szX D (d + 1) x ≤ szXL D (d + 1) xs := mem_sum (List.mem_map.2 ⟨x, hx, rfl⟩)
    rw [szX] at h1
    obtain ⟨⟨w1, w2, w3⟩, w4, w5, w6, w7⟩ := hw.2 x hx
    have h2 : szXL D d (xPs x) ≤ 1000000 := by unfold szXL; omega
    have hf := exfits_of h2 w7
    have h3 : (xPs x).length ≤ 1000000 := by
      match d, x, hf with
      | 0, x, _ =>
        rcases hx : xPs x with _ | ⟨y, _⟩
        · simp
        · exact nomatch y
      | d + 1, x, hf => exact hf.1
    have h4 := Nat.le_trans (len_many _ (xT x)) (many_szL _ (xT x))
    exact ⟨⟨by omega, by omega, fits_of_sz (by omega), by omega, fun s hs => by have := sumL_mem hs; omega, h3, w2, w3⟩, hf⟩
end Go.Proofs.YtmpbbmfbgcpplaaGreatDoor
