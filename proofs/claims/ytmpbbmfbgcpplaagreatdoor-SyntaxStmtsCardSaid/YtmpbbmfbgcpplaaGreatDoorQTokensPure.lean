import Derived.Test.YtmpbbmfbgcpplaaGreatDoorQSizeG
import Derived.Test.YtmpbbmfbgcpplaaGreatDoorQPartsG
namespace Go.Proofs.YtmpbbmfbgcpplaaGreatDoor
open Go Go.RowKit Lx
theorem exfits_of {D : Nat} : ∀ {d : Nat} {xs : List (Ex D d)}, ze9 D d xs ≤ 1000000 → ExWf D d xs → ExFits D d xs
 | 0, _, _, _ => trivial
 | d + 1, xs, hz, hw => by
  have hlen : xs.length ≤ ze9 D (d + 1) xs := by
   clear hz hw
   induction xs with
   | nil => simp
   | cons x r ih =>
    have : 1 ≤ szX D (d + 1) x := by rw [szX]; omega
    simp only [ze9, List.map_cons, List.sum_cons, List.length_cons] at ih ⊢
    omega
  refine ⟨by omega, fun x hx => ?_⟩
  have h1 : szX D (d + 1) x ≤ ze9 D (d + 1) xs := zet (List.mem_map.2 ⟨x, hx, rfl⟩)
  rw [szX] at h1
  obtain ⟨⟨w1, w2, w3⟩, w4, w5, w6, w7⟩ := hw.2 x hx
  have h2 : ze9 D d (xPs x) ≤ 1000000 := by unfold ze9; omega
  have hf := exfits_of h2 w7
  have h3 : (xPs x).length ≤ 1000000 := by
   match d, x, hf with
   | 0, x, _ =>
    rcases hx : xPs x with _ | ⟨y, _⟩
    ·simp
    ·exact nomatch y
   | d + 1, x, hf => exact hf.1
  have h4 := Nat.le_trans (zcr _ (xT x)) (zd5 _ (xT x))
  exact ⟨⟨by omega, by omega, zj6 (by omega), by omega, fun s hs => by have := sumL_mem hs; omega, h3, w2, w3⟩, hf⟩
theorem exlen_of {D : Nat} : ∀ {d : Nat} {xs : List (Ex D d)}, ExFits D d xs → xs.length ≤ 1000000
 | 0, [], _ => by simp
 | 0, x :: _, _ => nomatch x
 | _ + 1, _, h => h.1
theorem stlen_of {D d : Nat} : ∀ {m : Nat} {ss : List (St D d m)}, zf0 D d m ss → ss.length ≤ 1000000
 | 0, [], _ => by simp
 | 0, x :: _, _ => nomatch x
 | _ + 1, _, h => h.1
theorem zkl {D d : Nat} : ∀ {m : Nat} {ss : List (St D d m)}, zey D d m ss ≤ 1000000 → StWf D d m ss → zf0 D d m ss
 | 0, _, _, _ => trivial
 | m + 1, ss, hz, hw => by
  have hlen : ss.length ≤ zey D d (m + 1) ss := by
   clear hz hw
   rw [zey]
   induction ss with
   | nil => simp
   | cons x r ih =>
    simp only [List.map_cons, List.sum_cons, List.length_cons]
    omega
  refine ⟨by omega, fun s hs => ?_⟩
  have h1 : 1 + (zc7 s).length + szL D (sT s) + ze9 D d (sX s) + zey D d m (sB s) + zey D d m (sE s) ≤ zey D d (m + 1) ss := by
   rw [zey]; exact zet (List.mem_map.2 ⟨s, hs, rfl⟩)
  obtain ⟨w1, w2, w3, w4, w5⟩ := hw.2 s hs
  have hx := exfits_of (by omega) w3
  have hb := zkl (show zey D d m (sB s) ≤ 1000000 by omega) w4
  have he := zkl (show zey D d m (sE s) ≤ 1000000 by omega) w5
  have h4 := Nat.le_trans (zcr _ (sT s)) (zd5 _ (sT s))
  exact ⟨⟨by omega, zj6 (by omega), by omega, hx, exlen_of hx, stlen_of hb, stlen_of he⟩, hb, he⟩
end Go.Proofs.YtmpbbmfbgcpplaaGreatDoor
