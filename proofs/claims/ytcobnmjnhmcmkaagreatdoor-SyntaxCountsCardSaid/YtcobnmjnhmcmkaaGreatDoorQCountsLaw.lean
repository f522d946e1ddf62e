/-
  coillaw2.SyntaxCounts, walked.
-/
import Derived.Test.YtcobnmjnhmcmkaaGreatDoorQNamedLaw
import Derived.Test.YtcobnmjnhmcmkaaGreatDoorQOwnG
import Derived.Test.YtcobnmjnhmcmkaaGreatDoorQRegG
namespace Go.Proofs.YtcobnmjnhmcmkaaGreatDoor
open Go Go.RowKit Lx

set_option maxRecDepth 100000 in
theorem rnodes_enter (args : Array Value) (w : World) : Sem.run Tryz.prog (callFunc 48 args) w = .ok (.enter 48 args) w := by kernel_rfl
set_option maxRecDepth 100000 in
theorem rdepth_enter (args : Array Value) (w : World) : Sem.run Tryz.prog (callFunc 47 args) w = .ok (.enter 47 args) w := by kernel_rfl
set_option maxRecDepth 100000 in
theorem rnames_enter (args : Array Value) (w : World) : Sem.run Tryz.prog (callFunc 49 args) w = .ok (.enter 49 args) w := by kernel_rfl
set_option maxRecDepth 100000 in
theorem samestr_enter (args : Array Value) (w : World) : Sem.run Tryz.prog (callFunc 13 args) w = .ok (.enter 13 args) w := by kernel_rfl
set_option maxRecDepth 100000 in
theorem ktype_enter (args : Array Value) (w : World) : Sem.run Tryz.prog (callFunc 27 args) w = .ok (.enter 27 args) w := by kernel_rfl
theorem op_eqlb {o : Oper} {a : Act} {w : World} {K : Act → World → Prop} {Q : Exit → Act → World → Prop} {x y : Operand} {m n : Bool} (ho : o.op = .binOp .eql 4 x y 4) (hx : a.eval x = .bool m) (hy : a.eval y = .bool n) (h : K (a.put o.dst (.bool (m == n))) w) : o.wp Tryz.prog a w K Q := by
  unfold Oper.wp; simp only [execOp, ho, hx, hy]; simp [go_sem]; exact h
theorem srow_keep {W W' : World} {u : Value} {ys : List Bs} (h : SRow W u ys) (hk : ∀ g, u.ownBlock = some g → W'.heap[g]? = W.heap[g]?) : SRow W' u ys := by
  obtain ⟨p, c, rfl, hp⟩ := h
  refine ⟨p, c, rfl, fun j t ht => ?_⟩
  obtain ⟨g, o, rfl, q⟩ := hp j t ht
  exact ⟨g, o, rfl, (cell_same (hk g rfl)).trans q⟩
/-- Names at nothing leaves all as it was. -/
theorem Left.whole {base : Nat} {w w' : World} {u : Value} {ns : List Bs} (h : Left base (.slice none 0 0) w u ns w') : Below w.heap.size w w' :=
  ⟨h.2.1.os, h.2.1.tape, h.2.1.output, h.2.1.size, fun j hj => h.2.2.1 j hj (by simp [Value.ownBlock])⟩
/-- what an operation of SyntaxCounts' last row leaves, by its sort. -/
def VC (va vb : Value) (aO abO : Obj) (ys : List Bs) (na nb da dab : Nat) (r : Bool) (k : Nat) (a : Ty (k + 1)) : Nat → Value → World → Prop
  | 0, v, _ => v = va
  | 1, v, _ => v = vb
  | 2, v, W => VSl 2 abO v W
  | 3, v, W => VSl 1 aO v W
  | 4, v, _ => v = .int .i64 ((na : Int) + (nb : Int))
  | 5, v, _ => v = .int .i64 (na : Int)
  | 6, v, _ => v = .int .i64 (nb : Int)
  | 7, v, W => SRow W v ys ∧ ∀ g, v.ownBlock = some g → g < W.heap.size
  | 8, _, _ => True
  | 9, v, W => SRow W v ys
  | 10, v, _ => v = .int .i64 (dab : Int)
  | 11, v, _ => v = .int .i64 (da : Int)
  | 12, v, _ => v = .bool r
  | 13, v, W => TyVal W k v a
  | _ + 14, v, _ => v = .bool true
section
variable {va vb : Value} {cs cs2 : Array Value} {ys : List Bs} {na nb da dab : Nat} {r : Bool} {k : Nat} {a : Ty (k + 1)} {v : Value} {W W' : World}
theorem VC.on {aO abO : Obj} : ∀ c : Nat, VC va vb aO abO ys na nb da dab r k a c v W → Below W.heap.size W W' → VC va vb aO abO ys na nb da dab r k a c v W'
  | 0, h, _ => h
  | 1, h, _ => h
  | 2, h, hb => VSl.on h hb
  | 3, h, hb => VSl.on h hb
  | 4, h, _ => h
  | 5, h, _ => h
  | 6, h, _ => h
  | 7, h, hb => ⟨SRow.below h.1 hb, fun g hg => Nat.lt_of_lt_of_le (h.2 g hg) hb.size⟩
  | 8, h, _ => h
  | 9, h, hb => SRow.below h hb
  | 10, h, _ => h
  | 11, h, _ => h
  | 12, h, _ => h
  | 13, h, hb => TyVal.below h hb
  | _ + 14, h, _ => h
theorem VSl.keep {n base m : Nat} {x : Value} {xs : List Value} (hr : W.ownsRow base 9 1 x m xs) (hk : ∀ j, j < W.heap.size → some j ≠ x.ownBlock → W'.heap[j]? = W.heap[j]?) (h : VSl n (.cells cs 26) v W) : VSl n (.cells cs 26) v W' := by
  obtain ⟨g, e, hg⟩ := h
  refine ⟨g, e, (hk g (Array.getElem?_eq_some_iff.1 hg).1 fun e' => ?_).trans hg⟩
  rcases hr.2 with ⟨rfl, _⟩ | ⟨g', cap, cur, rfl, _, hgb, _⟩
  · simp [Value.ownBlock] at e'
  · obtain rfl : g = g' := by simpa [Value.ownBlock] using e'
    have := hg.symm.trans hgb
    simp at this
theorem VC.keep {base m : Nat} {x : Value} {xs : List Value} (hr : W.ownsRow base 9 1 x m xs) (hk : ∀ j, j < W.heap.size → some j ≠ x.ownBlock → W'.heap[j]? = W.heap[j]?) : ∀ c : Nat, ¬ c = 13 → ¬ c = 9 → ¬ c = 7 → VC va vb (.cells cs 26) (.cells cs2 26) ys na nb da dab r k a c v W → VC va vb (.cells cs 26) (.cells cs2 26) ys na nb da dab r k a c v W'
  | 0, _, _, _, h => h
  | 1, _, _, _, h => h
  | 2, _, _, _, h => VSl.keep hr hk h
  | 3, _, _, _, h => VSl.keep hr hk h
  | 4, _, _, _, h => h
  | 5, _, _, _, h => h
  | 6, _, _, _, h => h
  | 7, _, _, n, _ => absurd rfl n
  | 8, _, _, _, h => h
  | 9, _, n, _, _ => absurd rfl n
  | 10, _, _, _, h => h
  | 11, _, _, _, h => h
  | 12, _, _, _, h => h
  | 13, n, _, _, _ => absurd rfl n
  | _ + 14, _, _, _, h => h
end
/-- before the second Names: the first one's slice is owned, and apart from what syntax.Names made. -/
def XC (base : Nat) (xs : List Bs) (f : Nat → Option Value) (w : World) : Prop :=
  f 18 = none → ∀ v, f 16 = some v → w.ownsRow base 9 1 v xs.length (strV xs) ∧ ∀ u, f 14 = some u → ∀ g, u.ownBlock = some g → v.ownBlock ≠ some g
theorem XC.on {base : Nat} {xs : List Bs} {f : Nat → Option Value} {i : Nat} {v : Value} {W W' : World} (h14 : 14 ≠ i) (h16 : 16 ≠ i) (h18 : 18 ≠ i) (h : XC base xs f W) (hb : Below W.heap.size W W') : XC base xs (updF f i v) W' := fun e18 x hx => by
  rw [upd_ne _ _ h18] at e18
  rw [upd_ne _ _ h16] at hx
  obtain ⟨k1, k2⟩ := h e18 x hx
  refine ⟨k1.kept (grown_of_below hb) (by cases x.ownBlock <;> simp), fun u hu => ?_⟩
  rw [upd_ne _ _ h14] at hu
  exact k2 u hu
theorem XC.at14 {base : Nat} {xs : List Bs} {f : Nat → Option Value} {v : Value} {W W' : World} (h : XC base xs f W) (hb : Below W.heap.size W W') (hf : ∀ g, v.ownBlock = some g → W.heap.size ≤ g) : XC base xs (updF f 14 v) W' := fun e18 x hx => by
  rw [upd_ne _ _ (by decide)] at e18 hx
  obtain ⟨k1, _⟩ := h e18 x hx
  refine ⟨k1.kept (grown_of_below hb) (by cases x.ownBlock <;> simp), fun u hu g hg e => ?_⟩
  rw [upd_same] at hu
  obtain rfl := Option.some.inj hu
  have h1 := hf g hg
  have h2 := (k1.lt g e).2
  omega
theorem XC.at16 {base : Nat} {xs : List Bs} {f : Nat → Option Value} {v : Value} {W W' : World} (hL : Left base (.slice none 0 0) W v xs W') (hf : ∀ u, f 14 = some u → ∀ g, u.ownBlock = some g → g < W.heap.size) : XC base xs (updF f 16 v) W' := fun _ x hx => by
  rw [upd_same] at hx
  obtain rfl := Option.some.inj hx
  refine ⟨hL.1, fun u hu g hg e => ?_⟩
  rw [upd_ne _ _ (by decide)] at hu
  have h1 := hf u hu g hg
  rcases hL.2.2.2 with h2 | h2
  · rw [h2] at e; simp [Value.ownBlock] at e
  · have := h2 g e; omega
def lC : List Nat := [0, 1, 2, 4, 0, 5, 1, 6, 4, 14, 14, 0, 1, 2, 7, 0, 8, 1, 9, 14, 14, 14, 0, 1, 2, 10, 10, 14, 14, 14, 0, 3, 11, 0, 11, 14, 14, 14, 0, 1, 12, 0, 1, 12, 14, 14, 14, 0, 0, 13, 14, 14, 14, 14, 14, 14]
def clsC (i : Nat) : Nat := lC.getD i 14
theorem clsC_out {i : Nat} (h : 56 ≤ i) : clsC i = 14 := by
  unfold clsC
  rw [List.getD_eq_getElem?_getD, List.getElem?_eq_none (show lC.length ≤ i from h)]; rfl
theorem clsC13 (i : Nat) (h : clsC i = 13) : i = 49 := by
  rcases Nat.lt_or_ge i 56 with hi | hi
  · exact (show ∀ i, i < 56 → clsC i = 13 → i = 49 by decide) i hi h
  · rw [clsC_out hi] at h; cases h
theorem clsC9 (i : Nat) (h : clsC i = 9) : i = 18 := by
  rcases Nat.lt_or_ge i 56 with hi | hi
  · exact (show ∀ i, i < 56 → clsC i = 9 → i = 18 by decide) i hi h
  · rw [clsC_out hi] at h; cases h
theorem clsC7 (i : Nat) (h : clsC i = 7) : i = 14 := by
  rcases Nat.lt_or_ge i 56 with hi | hi
  · exact (show ∀ i, i < 56 → clsC i = 7 → i = 14 by decide) i hi h
  · rw [clsC_out hi] at h; cases h
/-- syntax.Names, and where its slice lies. -/
theorem names_own2 {k : Nat} {W : World} {v : Value} {ts : List (Ty k)} (h : TyRow W k v ts) (hz : szL k ts ≤ 1000000) :
    Calls Tryz.prog 14 #[v] W fun e w' => (∃ u, e = .returned u ∧ SRow w' u (addTs k [] ts) ∧ (∀ g, u.ownBlock = some g → g < w'.heap.size) ∧ ∀ g, u.ownBlock = some g → W.heap.size ≤ g) ∧ Below W.heap.size W w' :=
  (Names_any k v ts W h (fits_of_sz hz) (Nat.le_trans (many_szL _ _) hz)).mono fun _ _ ⟨hb, u, he, ho⟩ => ⟨⟨u, he, SRow.of_owns ho, fun g hg => (ho.lt g hg).2, fun g hg => (ho.lt g hg).1⟩, hb⟩
set_option maxHeartbeats 8000000 in
set_option maxRecDepth 100000 in
theorem SyntaxCounts_any (k : Nat) (a b : Ty (k + 1)) (va vb : Value) (w : World) (hva : TyVal w k va a) (hvb : TyVal w k vb b) (wa : WfD (k + 1) a) (wb : WfD (k + 1) b) (ht : Tab w) (h5 : 4 ≤ w.heap.size) :
    Calls Tryz.prog 8 #[va, vb] w fun e w' => e = .returned (.bool true) ∧ Below w.heap.size w w' := by
  have VA := hide hva
  have VB := hide hvb
  obtain ⟨pn, pe, pp, cn, ce, cp, rfl, r1, r2, r3⟩ := hva
  obtain ⟨pn', pe', pp', cn', ce', cp', rfl, s1, s2, s3⟩ := hvb
  have HA : Hid (Below w.heap.size w ((w.alloc (tyBox a.1 ⟨a.2.1.toArray⟩ pn pe pp a.2.2.1.length a.2.2.2.1.length a.2.2.2.2.length cn ce cp)).alloc (tyBox b.1 ⟨b.2.1.toArray⟩ pn' pe' pp' b.2.2.1.length b.2.2.2.1.length b.2.2.2.2.length cn' ce' cp'))) := ((Below.refl _ _).alloc (Nat.le_refl _) _).alloc (by simp) _
  have HR := hide (show SRow w (.slice pn a.2.2.1.length cn) a.2.2.1 ∧ BRow w (.slice pe a.2.2.2.1.length ce) a.2.2.2.1 ∧ TyRow w k (.slice pp a.2.2.2.2.length cp) a.2.2.2.2 from ⟨r1, r2, r3⟩)
  have HS := hide (show SRow w (.slice pn' b.2.2.1.length cn') b.2.2.1 ∧ BRow w (.slice pe' b.2.2.2.1.length ce') b.2.2.2.1 ∧ TyRow w k (.slice pp' b.2.2.2.2.length cp') b.2.2.2.2 from ⟨s1, s2, s3⟩)
  have HT := hide ht
  have WA := hide wa
  have WB := hide wb
  clear r1 r2 r3 s1 s2 s3 ht wa wb
  have RN : Hid (∀ W, Below w.heap.size w W → Calls Tryz.prog 3 #[] W fun e w' => e = .returned (.bool true) ∧ Below w.heap.size w w' ∧ Below W.heap.size W w') := fun W hW =>
    (SyntaxRuns_any W ((unhide HT).below hW h5) (Nat.le_trans h5 hW.size)).mono fun e w' ⟨he, hb⟩ => ⟨he, bon hW hb, hb⟩
  -- rows of slices that were just made
  have ROWA : Hid (∀ (W : World) (g : Nat), Below w.heap.size w W → W.heap[g]? = some (tyBox a.1 ⟨a.2.1.toArray⟩ pn pe pp a.2.2.1.length a.2.2.2.1.length a.2.2.2.2.length cn ce cp) → TyRow W (k + 1) (.slice (some ⟨g, 0, none⟩) 1 1) [a]) := fun W g hW hg => TyRow.one (S := a.2.1) hg ((unhide HR).1.below hW) ((unhide HR).2.1.below hW) (TyRow.below hW k (unhide HR).2.2)
  have ROWAB : Hid (∀ (W : World) (g : Nat), Below w.heap.size w W → W.heap[g]? = some (.cells #[.int .i64 a.1, .string ⟨a.2.1.toArray⟩, .slice pn a.2.2.1.length cn, .slice pe a.2.2.2.1.length ce, .slice pp a.2.2.2.2.length cp, .int .i64 b.1, .string ⟨b.2.1.toArray⟩, .slice pn' b.2.2.1.length cn', .slice pe' b.2.2.2.1.length ce', .slice pp' b.2.2.2.2.length cp'] 26) → TyRow W (k + 1) (.slice (some ⟨g, 0, none⟩) 2 2) [a, b]) := fun W g hW hg => TyRow.two (S := a.2.1) (S' := b.2.1) hg ((unhide HR).1.below hW) ((unhide HR).2.1.below hW) (TyRow.below hW k (unhide HR).2.2) ((unhide HS).1.below hW) ((unhide HS).2.1.below hW) (TyRow.below hW k (unhide HS).2.2)
  go_enter Tryz.func8, Tryz.ntmps8
  go_wp2_with fail
  refine (size_any (k + 1) a _ _ 20000 _ rfl (TyVal.below (unhide VA) (unhide HA)) (unhide WA) (by decide) (by decide)).mono ?_
  rintro _ w3 ⟨⟨n1, rfl, hn1, hz1⟩, b3⟩
  have HB := hide b3
  clear b3
  by_cases c1 : n1 < 20000
  rotate_left
  · have c1' : (20000 : Int) ≤ (n1 : Int) := by omega
    go_wp2_with fail
    refine (unhide RN _ (bon (unhide HA) (unhide HB))).mono ?_
    rintro _ w4 ⟨rfl, b4, _⟩
    go_wp2_with fail
    go_ret
    exact ⟨rfl, b4⟩
  have c1' : (n1 : Int) < 20000 := by omega
  have z1 := hide (hz1 c1)
  clear hz1
  obtain ⟨d0, d1, d2, d3, d4⟩ := box_b (unhide HB)
  go_wp2_with fail
  refine (size_any (k + 1) b _ _ 20000 _ rfl (TyVal.below (unhide VB) (bon (unhide HA) (unhide HB))) (unhide WB) (by decide) (by decide)).mono ?_
  rintro _ w4 ⟨⟨n2, rfl, hn2, hz2⟩, b4⟩
  replace HB := hide (bon (unhide HB) b4)
  clear b4 d0 d1 d2 d3 d4
  by_cases c2 : n2 < 20000
  rotate_left
  · have c2' : (20000 : Int) ≤ (n2 : Int) := by omega
    go_wp2_with fail
    refine (unhide RN _ (bon (unhide HA) (unhide HB))).mono ?_
    rintro _ w5 ⟨rfl, b5, _⟩
    go_wp2_with fail
    go_ret
    exact ⟨rfl, b5⟩
  have c2' : (n2 : Int) < 20000 := by omega
  have z2 := hide (hz2 c2)
  clear hz2
  have za : Hid (szD (k + 1) a ≤ 20000) := by show _ ≤ _; rw [← unhide z1]; omega
  have zb : Hid (szD (k + 1) b ≤ 20000) := by show _ ≤ _; rw [← unhide z2]; omega
  obtain ⟨na, hna⟩ : ∃ na, na = nodes (k + 1) [a] := ⟨_, rfl⟩
  obtain ⟨nb, hnb⟩ : ∃ nb, nb = nodes (k + 1) [b] := ⟨_, rfl⟩
  obtain ⟨da, hda⟩ : ∃ da, da = deep (k + 1) [a] := ⟨_, rfl⟩
  obtain ⟨db, hdb⟩ : ∃ db, db = deep (k + 1) [b] := ⟨_, rfl⟩
  obtain ⟨dab, hdab⟩ : ∃ dab, dab = max da db := ⟨_, rfl⟩
  have hszA : szL (k + 1) [a] ≤ 20000 := by have := unhide za; simp [szL]; omega
  have hszB : szL (k + 1) [b] ≤ 20000 := by have := unhide zb; simp [szL]; omega
  have hszAB : szL (k + 1) [a, b] ≤ 40000 := by have := unhide za; have := unhide zb; simp [szL]; omega
  have lna : na ≤ 20000 := by rw [hna]; exact Nat.le_trans (nodes_many _ _) (Nat.le_trans (many_szL _ _) hszA)
  have lnb : nb ≤ 20000 := by rw [hnb]; exact Nat.le_trans (nodes_many _ _) (Nat.le_trans (many_szL _ _) hszB)
  have DA : Hid (∀ W, Below w.heap.size w W → Calls Tryz.prog 47 #[.agg #[.int .i64 a.1, .string ⟨a.2.1.toArray⟩, .slice pn a.2.2.1.length cn, .slice pe a.2.2.2.1.length ce, .slice pp a.2.2.2.2.length cp]] W fun e w' => (∃ u, e = .returned u ∧ u = .int .i64 (da : Int)) ∧ Below W.heap.size W w') := fun W hW => (rdepth_any (k + 1) a _ W (TyVal.below (unhide VA) hW) (Nat.le_trans (many_szL _ _) (Nat.le_trans hszA (by decide)))).mono fun e w' ⟨he, hb⟩ => ⟨⟨_, he, by rw [hda]⟩, hb⟩
  have DB : Hid (∀ W, Below w.heap.size w W → Calls Tryz.prog 47 #[.agg #[.int .i64 b.1, .string ⟨b.2.1.toArray⟩, .slice pn' b.2.2.1.length cn', .slice pe' b.2.2.2.1.length ce', .slice pp' b.2.2.2.2.length cp']] W fun e w' => (∃ u, e = .returned u ∧ u = .int .i64 (db : Int)) ∧ Below W.heap.size W w') := fun W hW => (rdepth_any (k + 1) b _ W (TyVal.below (unhide VB) hW) (Nat.le_trans (many_szL _ _) (Nat.le_trans hszB (by decide)))).mono fun e w' ⟨he, hb⟩ => ⟨⟨_, he, by rw [hdb]⟩, hb⟩
  have HNA := hide hna
  have HNB := hide hnb
  have HDA := hide hda
  have HDB := hide hdb
  clear hna hnb hda hdb
  obtain ⟨a0, a1, a2, a3, a4⟩ := box_a (unhide HB)
  go_wp2_with fail
  refine (unhide DA _ (bon (unhide HA) (unhide HB))).mono ?_
  rintro _ w5 ⟨⟨_, rfl, rfl⟩, b5⟩
  replace HB := hide (bon (unhide HB) b5)
  clear b5 a0 a1 a2 a3 a4
  obtain ⟨d0, d1, d2, d3, d4⟩ := box_b (unhide HB)
  go_wp2_with fail
  refine (unhide DB _ (bon (unhide HA) (unhide HB))).mono ?_
  rintro _ w6 ⟨⟨_, rfl, rfl⟩, b6⟩
  replace HB := hide (bon (unhide HB) b6)
  clear b6 d0 d1 d2 d3 d4
  obtain ⟨d0, d1, d2, d3, d4⟩ := box_b (unhide HB)
  go_upto_if 20 with fail
  go_cut [5] (fun o wx => ∃ wy, o = .int .i64 (dab : Int) ∧ wy = wx ∧ Hid (Below w6.heap.size w6 wy))
  case first =>
    by_cases hlt : da < db
    · have hlt' : (da : Int) < (db : Int) := by omega
      go_wp2_with fail
      refine (unhide DB _ (bon (unhide HA) (unhide HB))).mono ?_
      rintro _ w7 ⟨⟨_, rfl, rfl⟩, b7⟩
      go_wp2
      go_meet
      case rel => exact ⟨_, by rw [hdab, Nat.max_eq_right (by omega)], rfl, b7⟩
    · have hlt' : ¬ (da : Int) < (db : Int) := by omega
      go_wp2
      go_meet
      case rel => exact ⟨_, by rw [hdab, Nat.max_eq_left (by omega)], rfl, Below.refl _ _⟩
  case rest =>
      obtain ⟨W6, rfl, rfl, hb6⟩ := hcut
      have HBB := bon (unhide HB) (unhide hb6)
      have hw6 := bon (unhide HA) HBB
      clear hb6 d0 d1 d2 d3 d4 c1 c1' c2 c2' hn1 hn2 DB
      obtain ⟨xs, hxs⟩ : ∃ xs, xs = addTs (k + 1) [] [a] := ⟨_, rfl⟩
      obtain ⟨ys, hys⟩ : ∃ ys, ys = addTs (k + 1) [] [a, b] := ⟨_, rfl⟩
      have HYX : Hid (ys = addTs (k + 1) xs [b]) := by show _ = _; rw [hys, hxs, addTs_two]
      have hxl : xs.length ≤ 20000 := by
        have h1 := addTs_len (k + 1) [a] []
        have h2 := many_szL (k + 1) [a]
        rw [hxs]; simp at h1; omega
      have hyl : ys.length ≤ 40000 := by
        have h1 := addTs_len (k + 1) [a, b] []
        have h2 := many_szL (k + 1) [a, b]
        rw [hys]; simp at h1; omega
      obtain ⟨r, hr⟩ : ∃ r : Bool, r = true ↔ a = b := by
        by_cases h : a = b
        · exact ⟨true, by simp [h]⟩
        · exact ⟨false, by simp [h]⟩
      obtain ⟨B, hBd⟩ : ∃ B : World → Prop, B = fun W => Below W6.heap.size W6 W := ⟨_, rfl⟩
      have toB : ∀ W, B W → Below W6.heap.size W6 W := fun W h => by rw [hBd] at h; exact h
      have ofB : ∀ W, Below W6.heap.size W6 W → B W := fun W h => by rw [hBd]; exact h
      have cA : ∀ W, B W → _ := fun W h => box_a (bon HBB (toB W h))
      have cB : ∀ W, B W → _ := fun W h => box_b (bon HBB (toB W h))
      have hlow : ∀ W, B W → Below w.heap.size w W := fun W h => bon hw6 (toB W h)
      have vA : ∀ W, B W → TyVal W k (.agg #[.int .i64 a.1, .string ⟨a.2.1.toArray⟩, .slice pn a.2.2.1.length cn, .slice pe a.2.2.2.1.length ce, .slice pp a.2.2.2.2.length cp]) a := fun W h => TyVal.below (unhide VA) (hlow W h)
      have vB : ∀ W, B W → TyVal W k (.agg #[.int .i64 b.1, .string ⟨b.2.1.toArray⟩, .slice pn' b.2.2.1.length cn', .slice pe' b.2.2.2.1.length ce', .slice pp' b.2.2.2.2.length cp']) b := fun W h => TyVal.below (unhide VB) (hlow W h)
      have cN : ∀ W v, B W → VSl 2 (.cells #[.int .i64 a.1, .string ⟨a.2.1.toArray⟩, .slice pn a.2.2.1.length cn, .slice pe a.2.2.2.1.length ce, .slice pp a.2.2.2.2.length cp, .int .i64 b.1, .string ⟨b.2.1.toArray⟩, .slice pn' b.2.2.1.length cn', .slice pe' b.2.2.2.1.length ce', .slice pp' b.2.2.2.2.length cp'] 26) v W → Calls Tryz.prog 12 #[v] W fun e w' => (∃ u, e = .returned u ∧ u = .int .i64 ((na : Int) + (nb : Int))) ∧ Below W.heap.size W w' := fun W v h ⟨g, hv, hg⟩ => by
        rw [hv]
        exact (Nodes_any (k + 1) _ _ W (unhide ROWAB W g (hlow W h) hg) (Nat.le_trans (many_szL _ _) (by omega))).mono fun e w' ⟨he, hb⟩ => ⟨⟨_, he, by rw [show [a, b] = [a] ++ [b] from rfl, nodes_append, ← unhide HNA, ← unhide HNB]; simp⟩, hb⟩
      have cD : ∀ W v, B W → VSl 2 (.cells #[.int .i64 a.1, .string ⟨a.2.1.toArray⟩, .slice pn a.2.2.1.length cn, .slice pe a.2.2.2.1.length ce, .slice pp a.2.2.2.2.length cp, .int .i64 b.1, .string ⟨b.2.1.toArray⟩, .slice pn' b.2.2.1.length cn', .slice pe' b.2.2.2.1.length ce', .slice pp' b.2.2.2.2.length cp'] 26) v W → Calls Tryz.prog 15 #[v] W fun e w' => (∃ u, e = .returned u ∧ u = .int .i64 (dab : Int)) ∧ Below W.heap.size W w' := fun W v h ⟨g, hv, hg⟩ => by
        rw [hv]
        exact (Depth_any (k + 1) _ _ W (unhide ROWAB W g (hlow W h) hg) (Nat.le_trans (many_szL _ _) (by omega))).mono fun e w' ⟨he, hb⟩ => ⟨⟨_, he, by rw [show [a, b] = [a] ++ [b] from rfl, deep_append, ← unhide HDA, ← unhide HDB, hdab]⟩, hb⟩
      have cD1 : ∀ W v, B W → VSl 1 (tyBox a.1 ⟨a.2.1.toArray⟩ pn pe pp a.2.2.1.length a.2.2.2.1.length a.2.2.2.2.length cn ce cp) v W → Calls Tryz.prog 15 #[v] W fun e w' => (∃ u, e = .returned u ∧ u = .int .i64 (da : Int)) ∧ Below W.heap.size W w' := fun W v h ⟨g, hv, hg⟩ => by
        rw [hv]
        exact (Depth_any (k + 1) _ _ W (unhide ROWA W g (hlow W h) hg) (Nat.le_trans (many_szL _ _) (by omega))).mono fun e w' ⟨he, hb⟩ => ⟨⟨_, he, by rw [← unhide HDA]⟩, hb⟩
      have cRA : ∀ W, B W → Calls Tryz.prog 48 #[.agg #[.int .i64 a.1, .string ⟨a.2.1.toArray⟩, .slice pn a.2.2.1.length cn, .slice pe a.2.2.2.1.length ce, .slice pp a.2.2.2.2.length cp]] W fun e w' => (∃ u, e = .returned u ∧ u = .int .i64 (na : Int)) ∧ Below W.heap.size W w' := fun W h => (rnodes_any (k + 1) a _ W (vA W h) (Nat.le_trans (many_szL _ _) (by omega))).mono fun e w' ⟨he, hb⟩ => ⟨⟨_, he, by rw [← unhide HNA]⟩, hb⟩
      have cRB : ∀ W, B W → Calls Tryz.prog 48 #[.agg #[.int .i64 b.1, .string ⟨b.2.1.toArray⟩, .slice pn' b.2.2.1.length cn', .slice pe' b.2.2.2.1.length ce', .slice pp' b.2.2.2.2.length cp']] W fun e w' => (∃ u, e = .returned u ∧ u = .int .i64 (nb : Int)) ∧ Below W.heap.size W w' := fun W h => (rnodes_any (k + 1) b _ W (vB W h) (Nat.le_trans (many_szL _ _) (by omega))).mono fun e w' ⟨he, hb⟩ => ⟨⟨_, he, by rw [← unhide HNB]⟩, hb⟩
      have cRD : ∀ W, B W → Calls Tryz.prog 47 #[.agg #[.int .i64 a.1, .string ⟨a.2.1.toArray⟩, .slice pn a.2.2.1.length cn, .slice pe a.2.2.2.1.length ce, .slice pp a.2.2.2.2.length cp]] W fun e w' => (∃ u, e = .returned u ∧ u = .int .i64 (da : Int)) ∧ Below W.heap.size W w' := fun W h => unhide DA W (hlow W h)
      have cO : ∀ W, B W → Calls Tryz.prog 23 #[.agg #[.int .i64 a.1, .string ⟨a.2.1.toArray⟩, .slice pn a.2.2.1.length cn, .slice pe a.2.2.2.1.length ce, .slice pp a.2.2.2.2.length cp]] W fun e w' => (∃ u, e = .returned u ∧ TyVal w' k u a) ∧ Below W.heap.size W w' := fun W h => (own_any (k + 1) a _ W (vA W h) (by have := unhide za; omega)).mono fun e w' ⟨⟨u, he, _, hu⟩, hb⟩ => ⟨⟨_, he, hu w' fun _ _ _ => rfl⟩, hb⟩
      have cM : ∀ W v, B W → VSl 2 (.cells #[.int .i64 a.1, .string ⟨a.2.1.toArray⟩, .slice pn a.2.2.1.length cn, .slice pe a.2.2.2.1.length ce, .slice pp a.2.2.2.2.length cp, .int .i64 b.1, .string ⟨b.2.1.toArray⟩, .slice pn' b.2.2.1.length cn', .slice pe' b.2.2.2.1.length ce', .slice pp' b.2.2.2.2.length cp'] 26) v W → Calls Tryz.prog 14 #[v] W fun e w' => (∃ u, e = .returned u ∧ SRow w' u ys ∧ (∀ g, u.ownBlock = some g → g < w'.heap.size) ∧ ∀ g, u.ownBlock = some g → W.heap.size ≤ g) ∧ Below W.heap.size W w' := fun W v h ⟨g, hv, hg⟩ => by
        rw [hv, hys]
        exact names_own2 (unhide ROWAB W g (hlow W h) hg) (by omega)
      have t6 : TyVal W6 k (.agg #[.int .i64 a.1, .string ⟨a.2.1.toArray⟩, .slice pn a.2.2.1.length cn, .slice pe a.2.2.2.1.length ce, .slice pp a.2.2.2.2.length cp]) a := TyVal.below (unhide VA) hw6
      have t6b : TyVal W6 k (.agg #[.int .i64 b.1, .string ⟨b.2.1.toArray⟩, .slice pn' b.2.2.1.length cn', .slice pe' b.2.2.2.1.length ce', .slice pp' b.2.2.2.2.length cp']) b := TyVal.below (unhide VB) hw6
      have cM1 : ∀ W, B W → Calls Tryz.prog 49 #[.slice none 0 0, .agg #[.int .i64 a.1, .string ⟨a.2.1.toArray⟩, .slice pn a.2.2.1.length cn, .slice pe a.2.2.2.1.length ce, .slice pp a.2.2.2.2.length cp]] W fun e w' => ∃ u, e = .returned u ∧ Left W6.heap.size (.slice none 0 0) W u xs w' := fun W h => by
        rw [hxs]
        exact rnames_any W6 (k + 1) a _ _ [] W (World.ownsRow_nil _ _ _ _) t6 (toB W h) (by have := unhide za; simp; omega)
      have cM2 : ∀ W v, B W → W.ownsRow W6.heap.size 9 1 v xs.length (strV xs) → Calls Tryz.prog 49 #[v, .agg #[.int .i64 b.1, .string ⟨b.2.1.toArray⟩, .slice pn' b.2.2.1.length cn', .slice pe' b.2.2.2.1.length ce', .slice pp' b.2.2.2.2.length cp']] W fun e w' => ∃ u, e = .returned u ∧ Left W6.heap.size v W u (addTs (k + 1) xs [b]) w' := fun W v h ho =>
        rnames_any W6 (k + 1) b _ v xs W ho t6b (toB W h) (by have := unhide zb; omega)
      have cT : ∀ (W : World) v u, SRow W v ys → SRow W u ys → Calls Tryz.prog 13 #[v, u] W fun e w' => (∃ u, e = .returned u ∧ u = .bool true) ∧ Below W.heap.size W w' := fun W v u hv hu => (SameStr_any v u ys W (by omega) hv hu).mono fun e w' ⟨he, hb⟩ => ⟨⟨_, he, rfl⟩, hb⟩
      have cK : ∀ W, B W → Calls Tryz.prog 27 #[.agg #[.int .i64 a.1, .string ⟨a.2.1.toArray⟩, .slice pn a.2.2.1.length cn, .slice pe a.2.2.2.1.length ce, .slice pp a.2.2.2.2.length cp], .agg #[.int .i64 b.1, .string ⟨b.2.1.toArray⟩, .slice pn' b.2.2.1.length cn', .slice pe' b.2.2.2.1.length ce', .slice pp' b.2.2.2.2.length cp']] W fun e w' => (∃ u, e = .returned u ∧ u = .bool r) ∧ Below W.heap.size W w' := fun W h => (ktype_any (k + 1) a b _ _ W r hr (vA W h) (vB W h) (unhide WA) (unhide WB)).mono fun e w' ⟨he, hb⟩ => ⟨⟨_, he, rfl⟩, hb⟩
      have cS : ∀ W, B W → Calls Tryz.prog 50 #[.agg #[.int .i64 a.1, .string ⟨a.2.1.toArray⟩, .slice pn a.2.2.1.length cn, .slice pe a.2.2.2.1.length ce, .slice pp a.2.2.2.2.length cp], .agg #[.int .i64 b.1, .string ⟨b.2.1.toArray⟩, .slice pn' b.2.2.1.length cn', .slice pe' b.2.2.2.1.length ce', .slice pp' b.2.2.2.2.length cp']] W fun e w' => (∃ u, e = .returned u ∧ u = .bool r) ∧ Below W.heap.size W w' := fun W h => (same_any (k + 1) a b _ _ W r hr (vA W h) (vB W h) (unhide WA) (unhide WB)).mono fun e w' ⟨he, hb⟩ => ⟨⟨_, he, rfl⟩, hb⟩
      have cSO : ∀ W v, B W → TyVal W k v a → Calls Tryz.prog 50 #[.agg #[.int .i64 a.1, .string ⟨a.2.1.toArray⟩, .slice pn a.2.2.1.length cn, .slice pe a.2.2.2.1.length ce, .slice pp a.2.2.2.2.length cp], v] W fun e w' => (∃ u, e = .returned u ∧ u = .bool true) ∧ Below W.heap.size W w' := fun W v h hv => (same_any (k + 1) a a _ v W true (by simp) (vA W h) hv (unhide WA) (unhide WA)).mono fun e w' ⟨he, hb⟩ => ⟨⟨_, he, rfl⟩, hb⟩
      have cR : ∀ W, B W → Calls Tryz.prog 3 #[] W fun e w' => (∃ u, e = .returned u ∧ u = .bool true) ∧ Below W.heap.size W w' := fun W h => (unhide RN W (hlow W h)).mono fun e w' ⟨he, _, hb⟩ => ⟨⟨_, he, rfl⟩, hb⟩
      have sB : ∀ W W', B W → Below W.heap.size W W' → B W' := fun W W' h hb => ofB _ (bon (toB _ h) hb)
      have sV : ∀ (i : Nat) (v : Value) (W W' : World), VC (.agg #[.int .i64 a.1, .string ⟨a.2.1.toArray⟩, .slice pn a.2.2.1.length cn, .slice pe a.2.2.2.1.length ce, .slice pp a.2.2.2.2.length cp]) (.agg #[.int .i64 b.1, .string ⟨b.2.1.toArray⟩, .slice pn' b.2.2.1.length cn', .slice pe' b.2.2.2.1.length ce', .slice pp' b.2.2.2.2.length cp']) (tyBox a.1 ⟨a.2.1.toArray⟩ pn pe pp a.2.2.1.length a.2.2.2.1.length a.2.2.2.2.length cn ce cp) (.cells #[.int .i64 a.1, .string ⟨a.2.1.toArray⟩, .slice pn a.2.2.1.length cn, .slice pe a.2.2.2.1.length ce, .slice pp a.2.2.2.2.length cp, .int .i64 b.1, .string ⟨b.2.1.toArray⟩, .slice pn' b.2.2.1.length cn', .slice pe' b.2.2.2.1.length ce', .slice pp' b.2.2.2.2.length cp'] 26) ys na nb da dab r k a (clsC i) v W → Below W.heap.size W W' → VC (.agg #[.int .i64 a.1, .string ⟨a.2.1.toArray⟩, .slice pn a.2.2.1.length cn, .slice pe a.2.2.2.1.length ce, .slice pp a.2.2.2.2.length cp]) (.agg #[.int .i64 b.1, .string ⟨b.2.1.toArray⟩, .slice pn' b.2.2.1.length cn', .slice pe' b.2.2.2.1.length ce', .slice pp' b.2.2.2.2.length cp']) (tyBox a.1 ⟨a.2.1.toArray⟩ pn pe pp a.2.2.1.length a.2.2.2.1.length a.2.2.2.2.length cn ce cp) (.cells #[.int .i64 a.1, .string ⟨a.2.1.toArray⟩, .slice pn a.2.2.1.length cn, .slice pe a.2.2.2.1.length ce, .slice pp a.2.2.2.2.length cp, .int .i64 b.1, .string ⟨b.2.1.toArray⟩, .slice pn' b.2.2.1.length cn', .slice pe' b.2.2.2.1.length ce', .slice pp' b.2.2.2.2.length cp'] 26) ys na nb da dab r k a (clsC i) v W' := fun i v W W' h hb => VC.on (clsC i) h hb
      clear DA RN ROWA ROWAB HNA HNB HDA HDB hys hxs HB HA
      go_wp2_with fail
      refine region_more (n := 78) (by kernel_rfl) (by kernel_rfl) (by kernel_rfl) rfl B (fun i v W => VC (.agg #[.int .i64 a.1, .string ⟨a.2.1.toArray⟩, .slice pn a.2.2.1.length cn, .slice pe a.2.2.2.1.length ce, .slice pp a.2.2.2.2.length cp]) (.agg #[.int .i64 b.1, .string ⟨b.2.1.toArray⟩, .slice pn' b.2.2.1.length cn', .slice pe' b.2.2.2.1.length ce', .slice pp' b.2.2.2.2.length cp']) (tyBox a.1 ⟨a.2.1.toArray⟩ pn pe pp a.2.2.1.length a.2.2.2.1.length a.2.2.2.2.length cn ce cp) (.cells #[.int .i64 a.1, .string ⟨a.2.1.toArray⟩, .slice pn a.2.2.1.length cn, .slice pe a.2.2.2.1.length ce, .slice pp a.2.2.2.2.length cp, .int .i64 b.1, .string ⟨b.2.1.toArray⟩, .slice pn' b.2.2.1.length cn', .slice pe' b.2.2.2.1.length ce', .slice pp' b.2.2.2.2.length cp'] 26) ys na nb da dab r k a (clsC i) v W) (XC W6.heap.size xs)
        (ofB _ (below_drew2 (Below.refl _ _))) (fun _ _ h => nomatch h) ?each ?fin
      case each =>
        refine ⟨?_, ?_, ?_, ?_, ?_, ?_, ?_, ?_, ?_, ?_, ?_, ?_, ?_, ?_, ?_, ?_, ?_, ?_, ?_, ?_, ?_, ?_, ?_, ?_, ?_, ?_, ?_, ?_, ?_, ?_, ?_, ?_, ?_, ?_, ?_, ?_, ?_, ?_, ?_, ?_, ?_, ?_, ?_, ?_, ?_, ?_, ?_, ?_, ?_, ?_, ?_, ?_, ?_, ?_, ?_, ?_, trivial⟩
        · exact XGoal.of sB sV (fun f v W W' h hb => XC.on (by decide) (by decide) (by decide) h hb) (fun a' W hz hdf hkp hBW dep => ⟨wanted_plain rfl, op_load5 rfl (show a'.eval (.tmp 2) = Value.pointer (some ⟨w.heap.size, 0, none⟩) from hkp 2 (by kernel_rfl)) (cA W hBW).1 (cA W hBW).2.1 (cA W hBW).2.2.1 (cA W hBW).2.2.2.1 (cA W hBW).2.2.2.2 ⟨_, rfl, Below.refl _ _, rfl⟩⟩)
        · exact XGoal.of sB sV (fun f v W W' h hb => XC.on (by decide) (by decide) (by decide) h hb) (fun a' W hz hdf hkp hBW dep => ⟨wanted_plain rfl, op_load5 rfl (show a'.eval (.tmp 3) = Value.pointer (some ⟨w.heap.size + 1, 0, none⟩) from hkp 3 (by kernel_rfl)) (cB W hBW).1 (cB W hBW).2.1 (cB W hBW).2.2.1 (cB W hBW).2.2.2.1 (cB W hBW).2.2.2.2 ⟨_, rfl, Below.refl _ _, rfl⟩⟩)
        · exact XGoal.of sB sV (fun f v W W' h hb => XC.on (by decide) (by decide) (by decide) h hb) (fun a' W hz hdf hkp hBW dep => ⟨wanted_plain rfl, op_build2 rfl (dep 0 23 (by kernel_rfl) (by kernel_rfl)) (dep 1 24 (by kernel_rfl) (by kernel_rfl)) ⟨_, rfl, al1 _ _, _, rfl, hp1 _ _⟩⟩)
        · exact XGoal.of sB sV (fun f v W W' h hb => XC.on (by decide) (by decide) (by decide) h hb) (fun a' W hz hdf hkp hBW dep => ⟨wanted_plain rfl, op_call1 (u := a'.tmps.getD 25 undef) rfl rfl nodes_enter ((cN W _ hBW (dep 2 25 (by kernel_rfl) (by kernel_rfl))).mono fun e w' ⟨⟨u, he, hv⟩, hb⟩ => ⟨u, he, u, rfl, hb, hv⟩)⟩)
        · exact XGoal.of sB sV (fun f v W W' h hb => XC.on (by decide) (by decide) (by decide) h hb) (fun a' W hz hdf hkp hBW dep => ⟨wanted_plain rfl, op_load5 rfl (show a'.eval (.tmp 2) = Value.pointer (some ⟨w.heap.size, 0, none⟩) from hkp 2 (by kernel_rfl)) (cA W hBW).1 (cA W hBW).2.1 (cA W hBW).2.2.1 (cA W hBW).2.2.2.1 (cA W hBW).2.2.2.2 ⟨_, rfl, Below.refl _ _, rfl⟩⟩)
        · exact XGoal.of sB sV (fun f v W W' h hb => XC.on (by decide) (by decide) (by decide) h hb) (fun a' W hz hdf hkp hBW dep => ⟨wanted_plain rfl, op_call1 rfl (dep 4 27 (by kernel_rfl) (by kernel_rfl)) rnodes_enter ((cRA W hBW).mono fun e w' ⟨⟨u, he, hv⟩, hb⟩ => ⟨u, he, u, rfl, hb, hv⟩)⟩)
        · exact XGoal.of sB sV (fun f v W W' h hb => XC.on (by decide) (by decide) (by decide) h hb) (fun a' W hz hdf hkp hBW dep => ⟨wanted_plain rfl, op_load5 rfl (show a'.eval (.tmp 3) = Value.pointer (some ⟨w.heap.size + 1, 0, none⟩) from hkp 3 (by kernel_rfl)) (cB W hBW).1 (cB W hBW).2.1 (cB W hBW).2.2.1 (cB W hBW).2.2.2.1 (cB W hBW).2.2.2.2 ⟨_, rfl, Below.refl _ _, rfl⟩⟩)
        · exact XGoal.of sB sV (fun f v W W' h hb => XC.on (by decide) (by decide) (by decide) h hb) (fun a' W hz hdf hkp hBW dep => ⟨wanted_plain rfl, op_call1 rfl (dep 6 29 (by kernel_rfl) (by kernel_rfl)) rnodes_enter ((cRB W hBW).mono fun e w' ⟨⟨u, he, hv⟩, hb⟩ => ⟨u, he, u, rfl, hb, hv⟩)⟩)
        · exact XGoal.of sB sV (fun f v W W' h hb => XC.on (by decide) (by decide) (by decide) h hb) (fun a' W hz hdf hkp hBW dep => ⟨wanted_plain rfl, op_add rfl (dep 5 28 (by kernel_rfl) (by kernel_rfl)) (dep 7 30 (by kernel_rfl) (by kernel_rfl)) (by omega) (by omega) (by omega) ⟨_, rfl, Below.refl _ _, rfl⟩⟩)
        · exact XGoal.of sB sV (fun f v W W' h hb => XC.on (by decide) (by decide) (by decide) h hb) (fun a' W hz hdf hkp hBW dep => ⟨wanted_plain rfl, op_eql rfl (dep 3 26 (by kernel_rfl) (by kernel_rfl)) (dep 8 31 (by kernel_rfl) (by kernel_rfl)) ⟨_, rfl, Below.refl _ _, vbool (by simp)⟩⟩)
        · exact XGoal.of sB sV (fun f v W W' h hb => XC.on (by decide) (by decide) (by decide) h hb) (fun a' W hz hdf hkp hBW dep => ⟨wanted_plain rfl, op_move rfl (dep 9 32 (by kernel_rfl) (by kernel_rfl)) ⟨_, rfl, Below.refl _ _, rfl⟩⟩)
        · exact XGoal.of sB sV (fun f v W W' h hb => XC.on (by decide) (by decide) (by decide) h hb) (fun a' W hz hdf hkp hBW dep => ⟨wanted_if rfl (d := 33) (by kernel_rfl) (by rw [hz]; decide) (dep 10 33 (by kernel_rfl) (by kernel_rfl)), op_load5 rfl (show a'.eval (.tmp 2) = Value.pointer (some ⟨w.heap.size, 0, none⟩) from hkp 2 (by kernel_rfl)) (cA W hBW).1 (cA W hBW).2.1 (cA W hBW).2.2.1 (cA W hBW).2.2.2.1 (cA W hBW).2.2.2.2 ⟨_, rfl, Below.refl _ _, rfl⟩⟩)
        · exact XGoal.of sB sV (fun f v W W' h hb => XC.on (by decide) (by decide) (by decide) h hb) (fun a' W hz hdf hkp hBW dep => ⟨wanted_if rfl (d := 33) (by kernel_rfl) (by rw [hz]; decide) (dep 10 33 (by kernel_rfl) (by kernel_rfl)), op_load5 rfl (show a'.eval (.tmp 3) = Value.pointer (some ⟨w.heap.size + 1, 0, none⟩) from hkp 3 (by kernel_rfl)) (cB W hBW).1 (cB W hBW).2.1 (cB W hBW).2.2.1 (cB W hBW).2.2.2.1 (cB W hBW).2.2.2.2 ⟨_, rfl, Below.refl _ _, rfl⟩⟩)
        · exact XGoal.of sB sV (fun f v W W' h hb => XC.on (by decide) (by decide) (by decide) h hb) (fun a' W hz hdf hkp hBW dep => ⟨wanted_if rfl (d := 33) (by kernel_rfl) (by rw [hz]; decide) (dep 10 33 (by kernel_rfl) (by kernel_rfl)), op_build2 rfl (dep 11 34 (by kernel_rfl) (by kernel_rfl)) (dep 12 35 (by kernel_rfl) (by kernel_rfl)) ⟨_, rfl, al1 _ _, _, rfl, hp1 _ _⟩⟩)
        · refine fun a' W f hz hdf hkp hBW hV hX hno down dep => ⟨wanted_if rfl (d := 33) (by kernel_rfl) (by rw [hz]; decide) (hV _ _ (dep 10 33 (by kernel_rfl) (by kernel_rfl))), op_call1 (u := a'.tmps.getD 36 undef) rfl rfl names_enter ((cM W _ hBW (hV _ _ (dep 13 36 (by kernel_rfl) (by kernel_rfl)))).mono fun e w' ⟨⟨u, he, hs, hl, hfr⟩, hb⟩ => ⟨u, he, u, rfl, sB _ _ hBW hb, ⟨hs, hl⟩, fun j x hj => sV j x _ _ (hV j x hj) hb, ?_⟩)⟩
          exact XC.at14 hX hb hfr
        · exact XGoal.of sB sV (fun f v W W' h hb => XC.on (by decide) (by decide) (by decide) h hb) (fun a' W hz hdf hkp hBW dep => ⟨wanted_if rfl (d := 33) (by kernel_rfl) (by rw [hz]; decide) (dep 10 33 (by kernel_rfl) (by kernel_rfl)), op_load5 rfl (show a'.eval (.tmp 2) = Value.pointer (some ⟨w.heap.size, 0, none⟩) from hkp 2 (by kernel_rfl)) (cA W hBW).1 (cA W hBW).2.1 (cA W hBW).2.2.1 (cA W hBW).2.2.2.1 (cA W hBW).2.2.2.2 ⟨_, rfl, Below.refl _ _, rfl⟩⟩)
        · refine fun a' W f hz hdf hkp hBW hV hX hno down dep => ⟨wanted_if rfl (d := 33) (by kernel_rfl) (by rw [hz]; decide) (hV _ _ (dep 10 33 (by kernel_rfl) (by kernel_rfl))), op_call2 (u := .slice none 0 0) rfl rfl (hV _ _ (dep 15 38 (by kernel_rfl) (by kernel_rfl))) rnames_enter ((cM1 W hBW).mono fun e w' ⟨u, he, hL⟩ => ⟨u, he, u, rfl, sB _ _ hBW hL.whole, trivial, fun j x hj => sV j x _ _ (hV j x hj) hL.whole, ?_⟩)⟩
          exact XC.at16 hL fun x hx => (hV 14 x hx).2
        · exact XGoal.of sB sV (fun f v W W' h hb => XC.on (by decide) (by decide) (by decide) h hb) (fun a' W hz hdf hkp hBW dep => ⟨wanted_if rfl (d := 33) (by kernel_rfl) (by rw [hz]; decide) (dep 10 33 (by kernel_rfl) (by kernel_rfl)), op_load5 rfl (show a'.eval (.tmp 3) = Value.pointer (some ⟨w.heap.size + 1, 0, none⟩) from hkp 3 (by kernel_rfl)) (cB W hBW).1 (cB W hBW).2.1 (cB W hBW).2.2.1 (cB W hBW).2.2.2.1 (cB W hBW).2.2.2.2 ⟨_, rfl, Below.refl _ _, rfl⟩⟩)
        · refine fun a' W f hz hdf hkp hBW hV hX hno down dep => ⟨wanted_if rfl (d := 33) (by kernel_rfl) (by rw [hz]; decide) (hV _ _ (dep 10 33 (by kernel_rfl) (by kernel_rfl))), op_call2 (u := a'.tmps.getD 39 undef) rfl rfl (hV _ _ (dep 17 40 (by kernel_rfl) (by kernel_rfl))) rnames_enter ((cM2 W _ hBW (hX hno _ (dep 16 39 (by kernel_rfl) (by kernel_rfl))).1).mono fun e w' ⟨u, he, hL⟩ => ⟨u, he, u, rfl, ofB _ ((toB _ hBW).trans hL.2.1), ?_, ?_, ?_⟩)⟩
          · show SRow w' u ys
            rw [unhide HYX]; exact SRow.of_owns hL.1
          · intro j x hj
            have hx := hV j x hj
            have hrow := hX hno _ (dep 16 39 (by kernel_rfl) (by kernel_rfl))
            by_cases c13 : clsC j = 13
            · exfalso
              obtain rfl := clsC13 j c13
              have n49 : f 49 ≠ none := by rw [hj]; simp
              have n46 := down 49 46 (by kernel_rfl) n49
              have n45 := down 46 45 (by kernel_rfl) n46
              have n37 := down 45 37 (by kernel_rfl) n45
              have n36 := down 37 36 (by kernel_rfl) n37
              have n29 := down 36 29 (by kernel_rfl) n36
              have n28 := down 29 28 (by kernel_rfl) n29
              have n21 := down 28 21 (by kernel_rfl) n28
              have n20 := down 21 20 (by kernel_rfl) n21
              have n19 := down 20 19 (by kernel_rfl) n20
              exact down 19 18 (by kernel_rfl) n19 hno
            · by_cases c9 : clsC j = 9
              · obtain rfl := clsC9 j c9
                rw [hno] at hj; cases hj
              · by_cases c7 : clsC j = 7
                · obtain rfl := clsC7 j c7
                  have hd := hrow.2 x hj
                  refine ⟨srow_keep hx.1 fun g hg => hL.2.2.1 g (hx.2 g hg) (fun e => hd g hg e.symm), fun g hg => Nat.lt_of_lt_of_le (hx.2 g hg) hL.2.1.size⟩
                · exact VC.keep hrow.1 hL.2.2.1 (clsC j) c13 c9 c7 hx
          · intro h18
            rw [upd_same] at h18
            cases h18
        · exact XGoal.of sB sV (fun f v W W' h hb => XC.on (by decide) (by decide) (by decide) h hb) (fun a' W hz hdf hkp hBW dep => ⟨wanted_if rfl (d := 33) (by kernel_rfl) (by rw [hz]; decide) (dep 10 33 (by kernel_rfl) (by kernel_rfl)), op_call2 (u := a'.tmps.getD 37 undef) (v := a'.tmps.getD 41 undef) rfl rfl rfl samestr_enter ((cT W _ _ (dep 14 37 (by kernel_rfl) (by kernel_rfl)).1 (dep 18 41 (by kernel_rfl) (by kernel_rfl))).mono fun e w' ⟨⟨u, he, hv⟩, hb⟩ => ⟨u, he, u, rfl, hb, hv⟩)⟩)
        · exact XGoal.of sB sV (fun f v W W' h hb => XC.on (by decide) (by decide) (by decide) h hb) (fun a' W hz hdf hkp hBW dep => ⟨wanted_plain rfl, op_pick (b := true) rfl (dep 10 33 (by kernel_rfl) (by kernel_rfl)) ((if_pos rfl).trans (dep 19 42 (by kernel_rfl) (by kernel_rfl))) ⟨_, rfl, Below.refl _ _, rfl⟩⟩)
        · exact XGoal.of sB sV (fun f v W W' h hb => XC.on (by decide) (by decide) (by decide) h hb) (fun a' W hz hdf hkp hBW dep => ⟨wanted_plain rfl, op_move rfl (dep 20 43 (by kernel_rfl) (by kernel_rfl)) ⟨_, rfl, Below.refl _ _, rfl⟩⟩)
        · exact XGoal.of sB sV (fun f v W W' h hb => XC.on (by decide) (by decide) (by decide) h hb) (fun a' W hz hdf hkp hBW dep => ⟨wanted_if rfl (d := 44) (by kernel_rfl) (by rw [hz]; decide) (dep 21 44 (by kernel_rfl) (by kernel_rfl)), op_load5 rfl (show a'.eval (.tmp 2) = Value.pointer (some ⟨w.heap.size, 0, none⟩) from hkp 2 (by kernel_rfl)) (cA W hBW).1 (cA W hBW).2.1 (cA W hBW).2.2.1 (cA W hBW).2.2.2.1 (cA W hBW).2.2.2.2 ⟨_, rfl, Below.refl _ _, rfl⟩⟩)
        · exact XGoal.of sB sV (fun f v W W' h hb => XC.on (by decide) (by decide) (by decide) h hb) (fun a' W hz hdf hkp hBW dep => ⟨wanted_if rfl (d := 44) (by kernel_rfl) (by rw [hz]; decide) (dep 21 44 (by kernel_rfl) (by kernel_rfl)), op_load5 rfl (show a'.eval (.tmp 3) = Value.pointer (some ⟨w.heap.size + 1, 0, none⟩) from hkp 3 (by kernel_rfl)) (cB W hBW).1 (cB W hBW).2.1 (cB W hBW).2.2.1 (cB W hBW).2.2.2.1 (cB W hBW).2.2.2.2 ⟨_, rfl, Below.refl _ _, rfl⟩⟩)
        · exact XGoal.of sB sV (fun f v W W' h hb => XC.on (by decide) (by decide) (by decide) h hb) (fun a' W hz hdf hkp hBW dep => ⟨wanted_if rfl (d := 44) (by kernel_rfl) (by rw [hz]; decide) (dep 21 44 (by kernel_rfl) (by kernel_rfl)), op_build2 rfl (dep 22 45 (by kernel_rfl) (by kernel_rfl)) (dep 23 46 (by kernel_rfl) (by kernel_rfl)) ⟨_, rfl, al1 _ _, _, rfl, hp1 _ _⟩⟩)
        · exact XGoal.of sB sV (fun f v W W' h hb => XC.on (by decide) (by decide) (by decide) h hb) (fun a' W hz hdf hkp hBW dep => ⟨wanted_if rfl (d := 44) (by kernel_rfl) (by rw [hz]; decide) (dep 21 44 (by kernel_rfl) (by kernel_rfl)), op_call1 (u := a'.tmps.getD 47 undef) rfl rfl depth_enter ((cD W _ hBW (dep 24 47 (by kernel_rfl) (by kernel_rfl))).mono fun e w' ⟨⟨u, he, hv⟩, hb⟩ => ⟨u, he, u, rfl, hb, hv⟩)⟩)
        · exact XGoal.of sB sV (fun f v W W' h hb => XC.on (by decide) (by decide) (by decide) h hb) (fun a' W hz hdf hkp hBW dep => ⟨wanted_if rfl (d := 44) (by kernel_rfl) (by rw [hz]; decide) (dep 21 44 (by kernel_rfl) (by kernel_rfl)), op_move rfl (show a'.eval (.tmp 5) = Value.int .i64 (dab : Int) from hkp 5 (by kernel_rfl)) ⟨_, rfl, Below.refl _ _, rfl⟩⟩)
        · exact XGoal.of sB sV (fun f v W W' h hb => XC.on (by decide) (by decide) (by decide) h hb) (fun a' W hz hdf hkp hBW dep => ⟨wanted_if rfl (d := 44) (by kernel_rfl) (by rw [hz]; decide) (dep 21 44 (by kernel_rfl) (by kernel_rfl)), op_eql rfl (dep 25 48 (by kernel_rfl) (by kernel_rfl)) (dep 26 49 (by kernel_rfl) (by kernel_rfl)) ⟨_, rfl, Below.refl _ _, vbool (by simp)⟩⟩)
        · exact XGoal.of sB sV (fun f v W W' h hb => XC.on (by decide) (by decide) (by decide) h hb) (fun a' W hz hdf hkp hBW dep => ⟨wanted_plain rfl, op_pick (b := true) rfl (dep 21 44 (by kernel_rfl) (by kernel_rfl)) ((if_pos rfl).trans (dep 27 50 (by kernel_rfl) (by kernel_rfl))) ⟨_, rfl, Below.refl _ _, rfl⟩⟩)
        · exact XGoal.of sB sV (fun f v W W' h hb => XC.on (by decide) (by decide) (by decide) h hb) (fun a' W hz hdf hkp hBW dep => ⟨wanted_plain rfl, op_move rfl (dep 28 51 (by kernel_rfl) (by kernel_rfl)) ⟨_, rfl, Below.refl _ _, rfl⟩⟩)
        · exact XGoal.of sB sV (fun f v W W' h hb => XC.on (by decide) (by decide) (by decide) h hb) (fun a' W hz hdf hkp hBW dep => ⟨wanted_if rfl (d := 52) (by kernel_rfl) (by rw [hz]; decide) (dep 29 52 (by kernel_rfl) (by kernel_rfl)), op_load5 rfl (show a'.eval (.tmp 2) = Value.pointer (some ⟨w.heap.size, 0, none⟩) from hkp 2 (by kernel_rfl)) (cA W hBW).1 (cA W hBW).2.1 (cA W hBW).2.2.1 (cA W hBW).2.2.2.1 (cA W hBW).2.2.2.2 ⟨_, rfl, Below.refl _ _, rfl⟩⟩)
        · exact XGoal.of sB sV (fun f v W W' h hb => XC.on (by decide) (by decide) (by decide) h hb) (fun a' W hz hdf hkp hBW dep => ⟨wanted_if rfl (d := 52) (by kernel_rfl) (by rw [hz]; decide) (dep 29 52 (by kernel_rfl) (by kernel_rfl)), op_build1 rfl (dep 30 53 (by kernel_rfl) (by kernel_rfl)) ⟨_, rfl, al1 _ _, _, rfl, hp1 _ _⟩⟩)
        · exact XGoal.of sB sV (fun f v W W' h hb => XC.on (by decide) (by decide) (by decide) h hb) (fun a' W hz hdf hkp hBW dep => ⟨wanted_if rfl (d := 52) (by kernel_rfl) (by rw [hz]; decide) (dep 29 52 (by kernel_rfl) (by kernel_rfl)), op_call1 (u := a'.tmps.getD 54 undef) rfl rfl depth_enter ((cD1 W _ hBW (dep 31 54 (by kernel_rfl) (by kernel_rfl))).mono fun e w' ⟨⟨u, he, hv⟩, hb⟩ => ⟨u, he, u, rfl, hb, hv⟩)⟩)
        · exact XGoal.of sB sV (fun f v W W' h hb => XC.on (by decide) (by decide) (by decide) h hb) (fun a' W hz hdf hkp hBW dep => ⟨wanted_if rfl (d := 52) (by kernel_rfl) (by rw [hz]; decide) (dep 29 52 (by kernel_rfl) (by kernel_rfl)), op_load5 rfl (show a'.eval (.tmp 2) = Value.pointer (some ⟨w.heap.size, 0, none⟩) from hkp 2 (by kernel_rfl)) (cA W hBW).1 (cA W hBW).2.1 (cA W hBW).2.2.1 (cA W hBW).2.2.2.1 (cA W hBW).2.2.2.2 ⟨_, rfl, Below.refl _ _, rfl⟩⟩)
        · exact XGoal.of sB sV (fun f v W W' h hb => XC.on (by decide) (by decide) (by decide) h hb) (fun a' W hz hdf hkp hBW dep => ⟨wanted_if rfl (d := 52) (by kernel_rfl) (by rw [hz]; decide) (dep 29 52 (by kernel_rfl) (by kernel_rfl)), op_call1 rfl (dep 33 56 (by kernel_rfl) (by kernel_rfl)) rdepth_enter ((cRD W hBW).mono fun e w' ⟨⟨u, he, hv⟩, hb⟩ => ⟨u, he, u, rfl, hb, hv⟩)⟩)
        · exact XGoal.of sB sV (fun f v W W' h hb => XC.on (by decide) (by decide) (by decide) h hb) (fun a' W hz hdf hkp hBW dep => ⟨wanted_if rfl (d := 52) (by kernel_rfl) (by rw [hz]; decide) (dep 29 52 (by kernel_rfl) (by kernel_rfl)), op_eql rfl (dep 32 55 (by kernel_rfl) (by kernel_rfl)) (dep 34 57 (by kernel_rfl) (by kernel_rfl)) ⟨_, rfl, Below.refl _ _, vbool (by simp)⟩⟩)
        · exact XGoal.of sB sV (fun f v W W' h hb => XC.on (by decide) (by decide) (by decide) h hb) (fun a' W hz hdf hkp hBW dep => ⟨wanted_plain rfl, op_pick (b := true) rfl (dep 29 52 (by kernel_rfl) (by kernel_rfl)) ((if_pos rfl).trans (dep 35 58 (by kernel_rfl) (by kernel_rfl))) ⟨_, rfl, Below.refl _ _, rfl⟩⟩)
        · exact XGoal.of sB sV (fun f v W W' h hb => XC.on (by decide) (by decide) (by decide) h hb) (fun a' W hz hdf hkp hBW dep => ⟨wanted_plain rfl, op_move rfl (dep 36 59 (by kernel_rfl) (by kernel_rfl)) ⟨_, rfl, Below.refl _ _, rfl⟩⟩)
        · exact XGoal.of sB sV (fun f v W W' h hb => XC.on (by decide) (by decide) (by decide) h hb) (fun a' W hz hdf hkp hBW dep => ⟨wanted_if rfl (d := 60) (by kernel_rfl) (by rw [hz]; decide) (dep 37 60 (by kernel_rfl) (by kernel_rfl)), op_load5 rfl (show a'.eval (.tmp 2) = Value.pointer (some ⟨w.heap.size, 0, none⟩) from hkp 2 (by kernel_rfl)) (cA W hBW).1 (cA W hBW).2.1 (cA W hBW).2.2.1 (cA W hBW).2.2.2.1 (cA W hBW).2.2.2.2 ⟨_, rfl, Below.refl _ _, rfl⟩⟩)
        · exact XGoal.of sB sV (fun f v W W' h hb => XC.on (by decide) (by decide) (by decide) h hb) (fun a' W hz hdf hkp hBW dep => ⟨wanted_if rfl (d := 60) (by kernel_rfl) (by rw [hz]; decide) (dep 37 60 (by kernel_rfl) (by kernel_rfl)), op_load5 rfl (show a'.eval (.tmp 3) = Value.pointer (some ⟨w.heap.size + 1, 0, none⟩) from hkp 3 (by kernel_rfl)) (cB W hBW).1 (cB W hBW).2.1 (cB W hBW).2.2.1 (cB W hBW).2.2.2.1 (cB W hBW).2.2.2.2 ⟨_, rfl, Below.refl _ _, rfl⟩⟩)
        · exact XGoal.of sB sV (fun f v W W' h hb => XC.on (by decide) (by decide) (by decide) h hb) (fun a' W hz hdf hkp hBW dep => ⟨wanted_if rfl (d := 60) (by kernel_rfl) (by rw [hz]; decide) (dep 37 60 (by kernel_rfl) (by kernel_rfl)), op_call2 rfl (dep 38 61 (by kernel_rfl) (by kernel_rfl)) (dep 39 62 (by kernel_rfl) (by kernel_rfl)) same_enter ((cS W hBW).mono fun e w' ⟨⟨u, he, hv⟩, hb⟩ => ⟨u, he, u, rfl, hb, hv⟩)⟩)
        · exact XGoal.of sB sV (fun f v W W' h hb => XC.on (by decide) (by decide) (by decide) h hb) (fun a' W hz hdf hkp hBW dep => ⟨wanted_if rfl (d := 60) (by kernel_rfl) (by rw [hz]; decide) (dep 37 60 (by kernel_rfl) (by kernel_rfl)), op_load5 rfl (show a'.eval (.tmp 2) = Value.pointer (some ⟨w.heap.size, 0, none⟩) from hkp 2 (by kernel_rfl)) (cA W hBW).1 (cA W hBW).2.1 (cA W hBW).2.2.1 (cA W hBW).2.2.2.1 (cA W hBW).2.2.2.2 ⟨_, rfl, Below.refl _ _, rfl⟩⟩)
        · exact XGoal.of sB sV (fun f v W W' h hb => XC.on (by decide) (by decide) (by decide) h hb) (fun a' W hz hdf hkp hBW dep => ⟨wanted_if rfl (d := 60) (by kernel_rfl) (by rw [hz]; decide) (dep 37 60 (by kernel_rfl) (by kernel_rfl)), op_load5 rfl (show a'.eval (.tmp 3) = Value.pointer (some ⟨w.heap.size + 1, 0, none⟩) from hkp 3 (by kernel_rfl)) (cB W hBW).1 (cB W hBW).2.1 (cB W hBW).2.2.1 (cB W hBW).2.2.2.1 (cB W hBW).2.2.2.2 ⟨_, rfl, Below.refl _ _, rfl⟩⟩)
        · exact XGoal.of sB sV (fun f v W W' h hb => XC.on (by decide) (by decide) (by decide) h hb) (fun a' W hz hdf hkp hBW dep => ⟨wanted_if rfl (d := 60) (by kernel_rfl) (by rw [hz]; decide) (dep 37 60 (by kernel_rfl) (by kernel_rfl)), op_call2 rfl (dep 41 64 (by kernel_rfl) (by kernel_rfl)) (dep 42 65 (by kernel_rfl) (by kernel_rfl)) ktype_enter ((cK W hBW).mono fun e w' ⟨⟨u, he, hv⟩, hb⟩ => ⟨u, he, u, rfl, hb, hv⟩)⟩)
        · exact XGoal.of sB sV (fun f v W W' h hb => XC.on (by decide) (by decide) (by decide) h hb) (fun a' W hz hdf hkp hBW dep => ⟨wanted_if rfl (d := 60) (by kernel_rfl) (by rw [hz]; decide) (dep 37 60 (by kernel_rfl) (by kernel_rfl)), op_eqlb rfl (dep 40 63 (by kernel_rfl) (by kernel_rfl)) (dep 43 66 (by kernel_rfl) (by kernel_rfl)) ⟨_, rfl, Below.refl _ _, vbool (by simp)⟩⟩)
        · exact XGoal.of sB sV (fun f v W W' h hb => XC.on (by decide) (by decide) (by decide) h hb) (fun a' W hz hdf hkp hBW dep => ⟨wanted_plain rfl, op_pick (b := true) rfl (dep 37 60 (by kernel_rfl) (by kernel_rfl)) ((if_pos rfl).trans (dep 44 67 (by kernel_rfl) (by kernel_rfl))) ⟨_, rfl, Below.refl _ _, rfl⟩⟩)
        · exact XGoal.of sB sV (fun f v W W' h hb => XC.on (by decide) (by decide) (by decide) h hb) (fun a' W hz hdf hkp hBW dep => ⟨wanted_plain rfl, op_move rfl (dep 45 68 (by kernel_rfl) (by kernel_rfl)) ⟨_, rfl, Below.refl _ _, rfl⟩⟩)
        · exact XGoal.of sB sV (fun f v W W' h hb => XC.on (by decide) (by decide) (by decide) h hb) (fun a' W hz hdf hkp hBW dep => ⟨wanted_if rfl (d := 69) (by kernel_rfl) (by rw [hz]; decide) (dep 46 69 (by kernel_rfl) (by kernel_rfl)), op_load5 rfl (show a'.eval (.tmp 2) = Value.pointer (some ⟨w.heap.size, 0, none⟩) from hkp 2 (by kernel_rfl)) (cA W hBW).1 (cA W hBW).2.1 (cA W hBW).2.2.1 (cA W hBW).2.2.2.1 (cA W hBW).2.2.2.2 ⟨_, rfl, Below.refl _ _, rfl⟩⟩)
        · exact XGoal.of sB sV (fun f v W W' h hb => XC.on (by decide) (by decide) (by decide) h hb) (fun a' W hz hdf hkp hBW dep => ⟨wanted_if rfl (d := 69) (by kernel_rfl) (by rw [hz]; decide) (dep 46 69 (by kernel_rfl) (by kernel_rfl)), op_load5 rfl (show a'.eval (.tmp 2) = Value.pointer (some ⟨w.heap.size, 0, none⟩) from hkp 2 (by kernel_rfl)) (cA W hBW).1 (cA W hBW).2.1 (cA W hBW).2.2.1 (cA W hBW).2.2.2.1 (cA W hBW).2.2.2.2 ⟨_, rfl, Below.refl _ _, rfl⟩⟩)
        · exact XGoal.of sB sV (fun f v W W' h hb => XC.on (by decide) (by decide) (by decide) h hb) (fun a' W hz hdf hkp hBW dep => ⟨wanted_if rfl (d := 69) (by kernel_rfl) (by rw [hz]; decide) (dep 46 69 (by kernel_rfl) (by kernel_rfl)), op_call1 rfl (dep 48 71 (by kernel_rfl) (by kernel_rfl)) own_enter ((cO W hBW).mono fun e w' ⟨⟨u, he, hv⟩, hb⟩ => ⟨u, he, u, rfl, hb, hv⟩)⟩)
        · exact XGoal.of sB sV (fun f v W W' h hb => XC.on (by decide) (by decide) (by decide) h hb) (fun a' W hz hdf hkp hBW dep => ⟨wanted_if rfl (d := 69) (by kernel_rfl) (by rw [hz]; decide) (dep 46 69 (by kernel_rfl) (by kernel_rfl)), op_call2 (v := a'.tmps.getD 72 undef) rfl (dep 47 70 (by kernel_rfl) (by kernel_rfl)) rfl same_enter ((cSO W _ hBW (dep 49 72 (by kernel_rfl) (by kernel_rfl))).mono fun e w' ⟨⟨u, he, hv⟩, hb⟩ => ⟨u, he, u, rfl, hb, hv⟩)⟩)
        · exact XGoal.of sB sV (fun f v W W' h hb => XC.on (by decide) (by decide) (by decide) h hb) (fun a' W hz hdf hkp hBW dep => ⟨wanted_plain rfl, op_pick (b := true) rfl (dep 46 69 (by kernel_rfl) (by kernel_rfl)) ((if_pos rfl).trans (dep 50 73 (by kernel_rfl) (by kernel_rfl))) ⟨_, rfl, Below.refl _ _, rfl⟩⟩)
        · exact XGoal.of sB sV (fun f v W W' h hb => XC.on (by decide) (by decide) (by decide) h hb) (fun a' W hz hdf hkp hBW dep => ⟨wanted_plain rfl, op_move rfl (dep 51 74 (by kernel_rfl) (by kernel_rfl)) ⟨_, rfl, Below.refl _ _, rfl⟩⟩)
        · exact XGoal.of sB sV (fun f v W W' h hb => XC.on (by decide) (by decide) (by decide) h hb) (fun a' W hz hdf hkp hBW dep => ⟨wanted_if rfl (d := 75) (by kernel_rfl) (by rw [hz]; decide) (dep 52 75 (by kernel_rfl) (by kernel_rfl)), op_call0 rfl runs_enter ((cR W hBW).mono fun e w' ⟨⟨u, he, hv⟩, hb⟩ => ⟨u, he, u, rfl, hb, hv⟩)⟩)
        · exact XGoal.of sB sV (fun f v W W' h hb => XC.on (by decide) (by decide) (by decide) h hb) (fun a' W hz hdf hkp hBW dep => ⟨wanted_plain rfl, op_pick (b := true) rfl (dep 52 75 (by kernel_rfl) (by kernel_rfl)) ((if_pos rfl).trans (dep 53 76 (by kernel_rfl) (by kernel_rfl))) ⟨_, rfl, Below.refl _ _, rfl⟩⟩)
        · exact XGoal.of sB sV (fun f v W W' h hb => XC.on (by decide) (by decide) (by decide) h hb) (fun a' W hz hdf hkp hBW dep => ⟨wanted_plain rfl, op_assign rfl (dep 54 77 (by kernel_rfl) (by kernel_rfl)) ⟨_, rfl, Below.refl _ _, rfl⟩⟩)
      case fin =>
        intro a' W hz hdf hkp hBW dep
        have h4 : a'.tmps.getD 4 undef = .bool true := dep 55 4 (by kernel_rfl)
        have hbf := hlow W hBW
        clear dep hkp cA cB cN cD cD1 cRA cRB cRD cO cM cM1 cM2 cT cK cS cSO cR
        go_wp2
        exact bodyPost_ret (v := .bool true) (by have h4' := h4; simp only [Array.getD_eq_getD_getElem?] at h4'; simp [results, Tryz.results8, go_sem, h4']) hdf ⟨rfl, hbf⟩
end Go.Proofs.YtcobnmjnhmcmkaaGreatDoor
