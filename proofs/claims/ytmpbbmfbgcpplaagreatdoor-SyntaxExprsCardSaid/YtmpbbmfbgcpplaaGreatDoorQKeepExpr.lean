/-
  Expr and Exprs of package coilkeep, walked: of two equal trees they tell that they are the same, places too.
-/
import Derived.Test.YtmpbbmfbgcpplaaGreatDoorQEqG
import Derived.Test.YtmpbbmfbgcpplaaGreatDoorQSizeG
namespace Go.Proofs.YtmpbbmfbgcpplaaGreatDoor
open Go Go.RowKit Lx

def KExprAt (D d : Nat) : Prop := ∀ (x : Ex D d) (v u : Value) (w : World), ExValD w D d v x → ExValD w D d u x → WfX D d x →
  Calls Tryz.prog 13 #[v, u, .bool true] w fun e w' => e = .returned (.bool true) ∧ Below w.heap.size w w'
def KExprsAt (D d : Nat) : Prop := ∀ (xs : List (Ex D d)) (p q : Option Addr) (c e : Nat) (w : World), ExRow w D d (.slice p xs.length c) xs → ExRow w D d (.slice q xs.length e) xs → xs.length ≤ 140737488351232 → (∀ x ∈ xs, WfX D d x) →
  Calls Tryz.prog 60 #[.slice p xs.length c, .slice q xs.length e, .bool true] w fun e w' => e = .returned (.bool true) ∧ Below w.heap.size w w'
set_option maxHeartbeats 1000000 in
set_option maxRecDepth 100000 in
theorem kexprs_of (D d : Nat) (IH : KExprAt D d) : KExprsAt D d := fun a p q c c' w hv hu hl wa => by
  have HA : Hid (∀ k (hk : k < a.length), ∃ u, ExCell w p k u ∧ ExValD w D d u a[k] ∧ WfX D d a[k]) := fun k hk => by
    obtain ⟨u, h1, h2⟩ := hv.at k hk
    exact ⟨u, h1, h2, wa _ (by simp)⟩
  have HB : Hid (∀ k (hk : k < a.length), ∃ u, ExCell w q k u ∧ ExValD w D d u a[k]) := fun k hk => hu.at k hk
  have HI := hide IH
  clear hv hu wa IH
  go_enter Tryz.func60, Tryz.ntmps60
  go_wp2
  go_loopw [7] (fun i wr => ∃ k : Nat, i = .int .i64 k ∧ k ≤ a.length ∧ Below w.heap.size w wr) (fun i _ => a.length - (intOf i).toNat)
  case atStart => exact ⟨0, rfl, by omega, Below.refl _ _⟩
  case round =>
    obtain ⟨k, rfl, hk, hb⟩ := hrel
    by_cases hlt : k < a.length
    · obtain ⟨x, ⟨g, o, A', K', N', S', qt, qn, q3, nt, c1, nn, c2, n3, c3, rfl, rfl, a0, a1, a2, a3, a4, a5, a6⟩, hx, wx⟩ := unhide HA k hlt
      obtain ⟨y, ⟨g', o', A2, K2, N2, S2, rt, rn, r3, nt', c1', nn', c2', n3', c3', rfl, rfl, e0, e1, e2, e3, e4, e5, e6⟩, hy⟩ := unhide HB k hlt
      have hlt' : (k : Int) < (a.length : Int) := by omega
      have b0 := (hb.cell (p := ⟨g, _, none⟩) (cell_at a0)).trans a0
      have b1 := (hb.cell (p := ⟨g, _, none⟩) (cell_at a1)).trans a1
      have b2 := (hb.cell (p := ⟨g, _, none⟩) (cell_at a2)).trans a2
      have b3 := (hb.cell (p := ⟨g, _, none⟩) (cell_at a3)).trans a3
      have b4 := (hb.cell (p := ⟨g, _, none⟩) (cell_at a4)).trans a4
      have b5 := (hb.cell (p := ⟨g, _, none⟩) (cell_at a5)).trans a5
      have b6 := (hb.cell (p := ⟨g, _, none⟩) (cell_at a6)).trans a6
      have f0 := (hb.cell (p := ⟨g', _, none⟩) (cell_at e0)).trans e0
      have f1 := (hb.cell (p := ⟨g', _, none⟩) (cell_at e1)).trans e1
      have f2 := (hb.cell (p := ⟨g', _, none⟩) (cell_at e2)).trans e2
      have f3 := (hb.cell (p := ⟨g', _, none⟩) (cell_at e3)).trans e3
      have f4 := (hb.cell (p := ⟨g', _, none⟩) (cell_at e4)).trans e4
      have f5 := (hb.cell (p := ⟨g', _, none⟩) (cell_at e5)).trans e5
      have f6 := (hb.cell (p := ⟨g', _, none⟩) (cell_at e6)).trans e6
      have CT := hide (unhide HI a[k] _ _ wr.drew (ExValD.below (below_drew2 hb) hx) (ExValD.below (below_drew2 hb) hy) wx)
      have HBW := hide hb
      clear a0 a1 a2 a3 a4 a5 a6 e0 e1 e2 e3 e4 e5 e6 hx hy wx hb HI HA HB
      go_wp2
      go_region_with (go_at_call 13; refine (unhide CT).mono ?_; clear CT; rintro x w1 ⟨rfl, hb1⟩)
      all_goals
        go_wp2
        go_roundw
        case rel => exact ⟨k + 1, by go_num, by omega, (unhide HBW).trans (below_undrew (hb1.mono (unhide HBW).size))⟩
        case measure => simp [intOf]; omega
    · go_wp2
      go_ret
      exact ⟨rfl, hb⟩
theorem two_exboxes {A K N A' K' N' : Int} {S S' : ByteArray} {pt pn pp pt' pn' pp' : Option Addr} {nt nn np ct cn cp nt' nn' np' ct' cn' cp' : Nat} {w wr : World} (hb : Below ((w.alloc (exBox A K N S pt pn pp nt nn np ct cn cp)).alloc (exBox A' K' N' S' pt' pn' pp' nt' nn' np' ct' cn' cp')).heap.size ((w.alloc (exBox A K N S pt pn pp nt nn np ct cn cp)).alloc (exBox A' K' N' S' pt' pn' pp' nt' nn' np' ct' cn' cp')) wr) :
    (wr.cell? ⟨w.heap.size, 5, none⟩ = some (.slice pn nn cn) ∧ wr.cell? ⟨w.heap.size, 6, none⟩ = some (.slice pp np cp)) ∧ (wr.cell? ⟨w.heap.size + 1, 5, none⟩ = some (.slice pn' nn' cn') ∧ wr.cell? ⟨w.heap.size + 1, 6, none⟩ = some (.slice pp' np' cp')) := by
  have h1 := exbox_cells (w := w) (wr := wr) (A := A) (K := K) (N := N) (S := S) (pt := pt) (pn := pn) (pp := pp) (nt := nt) (nn := nn) (np := np) (ct := ct) (cn := cn) (cp := cp) (((Below.refl _ _).alloc (Nat.le_refl _) _).trans (hb.mono (by simp)))
  have h2 := exbox_cells (w := w.alloc (exBox A K N S pt pn pp nt nn np ct cn cp)) hb
  rw [World.size_alloc] at h2
  exact ⟨⟨h1.2.2.2.2.2.1, h1.2.2.2.2.2.2⟩, ⟨h2.2.2.2.2.2.1, h2.2.2.2.2.2.2⟩⟩
set_option maxHeartbeats 1000000 in
set_option maxRecDepth 100000 in
theorem kexpr_of (D d : Nat) (IH : KExprsAt D d) : KExprAt D (d + 1) := fun x v u w hv hu wa => by
  obtain ⟨pt, pn, pp, ct, cn, cp, rfl, r1, r2, r3⟩ := hv
  obtain ⟨pt', pn', pp', ct', cn', cp', rfl, s1, s2, s3⟩ := hu
  obtain ⟨w1, w2, w3, ⟨w4, w5⟩, w6, w7⟩ := wa
  obtain ⟨A, K, N, S, ts, ns, xs⟩ := x
  dsimp only [xAt, xKind, xN, xS, xT, xNs, xPs] at *
  have hbA : Below w.heap.size w ((w.alloc (exBox A K N ⟨S.toArray⟩ pt pn pp ts.length ns.length xs.length ct cn cp)).alloc (exBox A K N ⟨S.toArray⟩ pt' pn' pp' ts.length ns.length xs.length ct' cn' cp')) := ((Below.refl _ _).alloc (Nat.le_refl _) _).alloc (by simp) _
  have TY := hide (ktypes_of D (ktype_any D) ts ts pt pt' ct ct' _ true (by simp) (TyRow.below hbA D r1) (TyRow.below hbA D s1) w4 w5 w5)
  have HTX : Hid (∀ W, Below w.heap.size w W → Calls Tryz.prog 59 #[.slice pn ns.length cn, .slice pn' ns.length cn'] W fun e w' => e = .returned (.bool true) ∧ Below W.heap.size W w') := fun W hW => by
    have := Texts_any _ _ ns ns W w2 (r2.below hW) (s2.below hW)
    rwa [decide_eq_true rfl] at this
  have HEX : Hid (∀ W, Below w.heap.size w W → Calls Tryz.prog 60 #[.slice pp xs.length cp, .slice pp' xs.length cp', .bool true] W fun e w' => e = .returned (.bool true) ∧ Below W.heap.size W w') := fun W hW => IH xs pp pp' cp cp' W (ExRow.below hW d r3) (ExRow.below hW d s3) w6 w7
  have HA := hide hbA
  clear r1 r2 r3 s1 s2 s3 w1 w2 w3 w4 w5 w6 w7 IH hbA
  obtain ⟨X, hX⟩ : ∃ X : ByteArray, X = ⟨S.toArray⟩ := ⟨_, rfl⟩
  rw [← hX] at HA TY
  rw [← hX]
  clear hX
  go_enter Tryz.func13, Tryz.ntmps13
  go_wp2_with (first
    | (go_at_call 58; refine (unhide TY).mono ?_; clear TY; rintro x wa ⟨rfl, hb1⟩; obtain ⟨⟨d1, d2⟩, ⟨d3, d4⟩⟩ := two_exboxes hb1; have TX := hide (unhide HTX wa ((unhide HA).trans (hb1.mono (unhide HA).size))))
    | (go_at_call 59; refine (unhide TX).mono ?_; clear TX; rintro x wb ⟨rfl, hb2⟩; have hb3 := hb1.trans (hb2.mono hb1.size); obtain ⟨⟨f1, f2⟩, ⟨f3, f4⟩⟩ := two_exboxes hb3; have EX := hide (unhide HEX wb ((unhide HA).trans (hb3.mono (unhide HA).size))))
    | (go_at_call 60; refine (unhide EX).mono ?_; clear EX; rintro x wc ⟨rfl, hb4⟩))
  go_ret
  exact ⟨rfl, (unhide HA).trans ((hb3.trans (hb4.mono hb3.size)).mono (unhide HA).size)⟩
theorem kexpr_any (D : Nat) : ∀ d, KExprAt D d
  | 0 => fun t => nomatch t
  | d + 1 => kexpr_of D d (kexprs_of D d (kexpr_any D d))
end Go.Proofs.YtmpbbmfbgcpplaaGreatDoor
