/-
  coillaw2.SyntaxNamed, walked.
-/
import Derived.Test.YtggfaadhhldnmaaGreatDoorQRunsC
import Derived.Test.YtggfaadhhldnmaaGreatDoorQPartsLaw
import Derived.Test.YtggfaadhhldnmaaGreatDoorQEqG
import Derived.Test.YtggfaadhhldnmaaGreatDoorQNamedPure
import Derived.Test.YtggfaadhhldnmaaGreatDoorQRegG
namespace Go.Proofs.YtggfaadhhldnmaaGreatDoor
open Go Go.RowKit Lx

/-- names, and the room of their slice. -/
theorem names_own {k : Nat} {W : World} {v : Value} {ts : List (Ty k)} (h : TyRow W k v ts) (hz : szL k ts ≤ 1000000) :
    Calls Tryz.prog 20 #[v] W fun e w' => (∃ (p : Option Addr) (c : Nat), e = .returned (.slice p (addTs k [] ts).length c) ∧ (addTs k [] ts).length ≤ c ∧ SRow w' (.slice p (addTs k [] ts).length c) (addTs k [] ts)) ∧ Below W.heap.size W w' :=
  (Names_any k v ts W h (fits_of_sz hz) (Nat.le_trans (many_szL _ _) hz)).mono fun e w' ⟨hb, u, he, ho⟩ => by
    obtain ⟨p, c, rfl, hc⟩ : ∃ p c, u = .slice p (addTs k [] ts).length c ∧ (addTs k [] ts).length ≤ c := by
      rcases ho.2 with ⟨rfl, h0⟩ | ⟨g, cap, cur, rfl, _, _, hc, _⟩
      · exact ⟨none, 0, by rw [h0], by omega⟩
      · exact ⟨_, _, rfl, hc⟩
    exact ⟨⟨p, c, he, hc, SRow.of_owns ho⟩, hb⟩
theorem SRow.take {W : World} {p : Option Addr} {c n : Nat} {ys xs : List Bs} (h : SRow W (.slice p ys.length c) ys) (e : ys.take n = xs) (hn : xs.length = n) : SRow W (.slice p n c) xs := by
  obtain ⟨p', c', e', hp⟩ := h
  injection e' with e1 e2 e3
  subst e1 e3
  refine ⟨p, c, by rw [hn], fun j t ht => hp j t ?_⟩
  rw [← e, List.getElem?_take] at ht
  split at ht
  · exact ht
  · cases ht
theorem nodup_ne {ys : List Bs} {m j : Nat} (h : ys.Nodup) (hm : m < j) (hj : j < ys.length) : ys[j] ≠ ys[m] := fun e => by
  have := List.pairwise_iff_getElem.1 h m j (by omega) hj hm
  exact this e.symm
/-- a slice that was just made of n types. -/
def VSl (n : Nat) (O : Obj) (v : Value) (W : World) : Prop := ∃ g, v = .slice (some ⟨g, 0, none⟩) n n ∧ W.heap[g]? = some O
theorem VSl.on {n : Nat} {O : Obj} {v : Value} {W W' : World} (h : VSl n O v W) (hb : Below W.heap.size W W') : VSl n O v W' := by
  obtain ⟨g, e, hg⟩ := h
  exact ⟨g, e, kp hb hg⟩
/-- what an operation of SyntaxNamed's last row leaves, by its sort. -/
def VN (vp va vb u1 : Value) (pO aO abO baO : Obj) (xs : List Bs) (na da nab : Nat) : Nat → Value → World → Prop
  | 0, v, _ => v = vp
  | 1, v, _ => v = va
  | 2, v, _ => v = vb
  | 3, v, W => VSl 1 pO v W
  | 4, v, W => VSl 1 aO v W
  | 5, v, W => VSl 2 abO v W
  | 6, v, W => VSl 2 baO v W
  | 7, v, _ => v = .int .i64 ((na : Int) + 1)
  | 8, v, _ => v = .int .i64 (na : Int)
  | 9, v, _ => v = .int .i64 ((da : Int) + 1)
  | 10, v, _ => v = .int .i64 (da : Int)
  | 11, v, _ => v = .int .i64 (nab : Int)
  | 12, v, _ => v = .int .i64 0
  | 13, v, W => SRow W v xs
  | 14, v, _ => v = u1
  | 15, v, _ => v = .bool false
  | _ + 16, v, _ => v = .bool true
theorem VN.on {vp va vb u1 : Value} {pO aO abO baO : Obj} {xs : List Bs} {na da nab : Nat} {v : Value} {W W' : World} : ∀ c : Nat, VN vp va vb u1 pO aO abO baO xs na da nab c v W → Below W.heap.size W W' → VN vp va vb u1 pO aO abO baO xs na da nab c v W'
  | 0, h, _ => h
  | 1, h, _ => h
  | 2, h, _ => h
  | 3, h, hb => VSl.on h hb
  | 4, h, hb => VSl.on h hb
  | 5, h, hb => VSl.on h hb
  | 6, h, hb => VSl.on h hb
  | 7, h, _ => h
  | 8, h, _ => h
  | 9, h, _ => h
  | 10, h, _ => h
  | 11, h, _ => h
  | 12, h, _ => h
  | 13, h, hb => SRow.below h hb
  | 14, h, _ => h
  | 15, h, _ => h
  | _ + 16, h, _ => h
def cls16 (i : Nat) : Nat := [0, 3, 7, 1, 4, 8, 7, 16, 16, 0, 3, 13, 14, 16, 16, 16, 0, 3, 9, 1, 4, 10, 9, 16, 16, 16, 0, 1, 15, 16, 16, 16, 1, 2, 5, 11, 2, 1, 6, 11, 16, 16, 16, 12, 16, 16, 16, 16, 16, 16].getD i 16
theorem vbool {b : Bool} (h : b = true) : Value.bool b = .bool true := by rw [h]
set_option maxRecDepth 100000 in
theorem nodes_enter (args : Array Value) (w : World) : Sem.run Tryz.prog (callFunc 22 args) w = .ok (.enter 22 args) w := by kernel_rfl
set_option maxRecDepth 100000 in
theorem names_enter (args : Array Value) (w : World) : Sem.run Tryz.prog (callFunc 20 args) w = .ok (.enter 20 args) w := by kernel_rfl
set_option maxRecDepth 100000 in
theorem depth_enter (args : Array Value) (w : World) : Sem.run Tryz.prog (callFunc 14 args) w = .ok (.enter 14 args) w := by kernel_rfl
set_option maxRecDepth 100000 in
theorem texts_enter (args : Array Value) (w : World) : Sem.run Tryz.prog (callFunc 21 args) w = .ok (.enter 21 args) w := by kernel_rfl
set_option maxRecDepth 100000 in
theorem same_enter (args : Array Value) (w : World) : Sem.run Tryz.prog (callFunc 23 args) w = .ok (.enter 23 args) w := by kernel_rfl
set_option maxRecDepth 100000 in
theorem runs_enter (args : Array Value) (w : World) : Sem.run Tryz.prog (callFunc 9 args) w = .ok (.enter 9 args) w := by kernel_rfl
abbrev twoO (a : Value × Value × Value × Value × Value) (b : Value × Value × Value × Value × Value) : Obj := .cells #[a.1, a.2.1, a.2.2.1, a.2.2.2.1, a.2.2.2.2, b.1, b.2.1, b.2.2.1, b.2.2.2.1, b.2.2.2.2] 27
set_option maxHeartbeats 8000000 in
set_option maxRecDepth 100000 in
theorem SyntaxNamed_any (k : Nat) (a b : Ty (k + 1)) (va vb : Value) (w : World) (hva : TyVal w k va a) (hvb : TyVal w k vb b) (wa : WfD (k + 1) a) (wb : WfD (k + 1) b) (ht : Tab w) (h5 : 4 ≤ w.heap.size) :
    Calls Tryz.prog 6 #[va, vb] w fun e w' => e = .returned (.bool true) ∧ Below w.heap.size w w' := by
  have VA := hide hva
  have VB := hide hvb
  obtain ⟨pn, pe, pp, cn, ce, cp, rfl, r1, r2, r3⟩ := hva
  obtain ⟨pn', pe', pp', cn', ce', cp', rfl, s1, s2, s3⟩ := hvb
  have HA : Hid (Below w.heap.size w ((w.alloc (tyBox a.1 ⟨a.2.1.toArray⟩ pn pe pp a.2.2.1.length a.2.2.2.1.length a.2.2.2.2.length cn ce cp)).alloc (tyBox b.1 ⟨b.2.1.toArray⟩ pn' pe' pp' b.2.2.1.length b.2.2.2.1.length b.2.2.2.2.length cn' ce' cp'))) := ((Below.refl _ _).alloc (Nat.le_refl _) _).alloc (by simp) _
  have HR := hide (show SRow w (.slice pn a.2.2.1.length cn) a.2.2.1 ∧ BRow w (.slice pe a.2.2.2.1.length ce) a.2.2.2.1 ∧ TyRow w k (.slice pp a.2.2.2.2.length cp) a.2.2.2.2 from ⟨r1, r2, r3⟩)
  have HS := hide (show SRow w (.slice pn' b.2.2.1.length cn') b.2.2.1 ∧ BRow w (.slice pe' b.2.2.2.1.length ce') b.2.2.2.1 ∧ TyRow w k (.slice pp' b.2.2.2.2.length cp') b.2.2.2.2 from ⟨s1, s2, s3⟩)
  have HT := hide ht
  have WA := hide wa
  have WB := hide wb
  clear r1 r2 r3 s1 s2 s3 ht wa wb
  have RN : Hid (∀ W, Below w.heap.size w W → Calls Tryz.prog 9 #[] W fun e w' => e = .returned (.bool true) ∧ Below w.heap.size w w' ∧ Below W.heap.size W w') := fun W hW =>
    (SyntaxRuns_any W ((unhide HT).below hW h5) (Nat.le_trans h5 hW.size)).mono fun e w' ⟨he, hb⟩ => ⟨he, bon hW hb, hb⟩
  -- rows of slices that were just made
  have ROWA : Hid (∀ (W : World) (g : Nat), Below w.heap.size w W → W.heap[g]? = some (tyBox a.1 ⟨a.2.1.toArray⟩ pn pe pp a.2.2.1.length a.2.2.2.1.length a.2.2.2.2.length cn ce cp) → TyRow W (k + 1) (.slice (some ⟨g, 0, none⟩) 1 1) [a]) := fun W g hW hg => TyRow.one (S := a.2.1) hg ((unhide HR).1.below hW) ((unhide HR).2.1.below hW) (TyRow.below hW k (unhide HR).2.2)
  have ROWAB : Hid (∀ (W : World) (g : Nat), Below w.heap.size w W → W.heap[g]? = some (.cells #[.int .i64 a.1, .string ⟨a.2.1.toArray⟩, .slice pn a.2.2.1.length cn, .slice pe a.2.2.2.1.length ce, .slice pp a.2.2.2.2.length cp, .int .i64 b.1, .string ⟨b.2.1.toArray⟩, .slice pn' b.2.2.1.length cn', .slice pe' b.2.2.2.1.length ce', .slice pp' b.2.2.2.2.length cp'] 27) → TyRow W (k + 1) (.slice (some ⟨g, 0, none⟩) 2 2) [a, b]) := fun W g hW hg => TyRow.two (S := a.2.1) (S' := b.2.1) hg ((unhide HR).1.below hW) ((unhide HR).2.1.below hW) (TyRow.below hW k (unhide HR).2.2) ((unhide HS).1.below hW) ((unhide HS).2.1.below hW) (TyRow.below hW k (unhide HS).2.2)
  have ROWBA : Hid (∀ (W : World) (g : Nat), Below w.heap.size w W → W.heap[g]? = some (.cells #[.int .i64 b.1, .string ⟨b.2.1.toArray⟩, .slice pn' b.2.2.1.length cn', .slice pe' b.2.2.2.1.length ce', .slice pp' b.2.2.2.2.length cp', .int .i64 a.1, .string ⟨a.2.1.toArray⟩, .slice pn a.2.2.1.length cn, .slice pe a.2.2.2.1.length ce, .slice pp a.2.2.2.2.length cp] 27) → TyRow W (k + 1) (.slice (some ⟨g, 0, none⟩) 2 2) [b, a]) := fun W g hW hg => TyRow.two (S := b.2.1) (S' := a.2.1) hg ((unhide HS).1.below hW) ((unhide HS).2.1.below hW) (TyRow.below hW k (unhide HS).2.2) ((unhide HR).1.below hW) ((unhide HR).2.1.below hW) (TyRow.below hW k (unhide HR).2.2)
  have ROWAA : Hid (∀ (W : World) (g : Nat), Below w.heap.size w W → W.heap[g]? = some (.cells #[.int .i64 a.1, .string ⟨a.2.1.toArray⟩, .slice pn a.2.2.1.length cn, .slice pe a.2.2.2.1.length ce, .slice pp a.2.2.2.2.length cp, .int .i64 a.1, .string ⟨a.2.1.toArray⟩, .slice pn a.2.2.1.length cn, .slice pe a.2.2.2.1.length ce, .slice pp a.2.2.2.2.length cp] 27) → TyRow W (k + 1) (.slice (some ⟨g, 0, none⟩) 2 2) [a, a]) := fun W g hW hg => TyRow.two (S := a.2.1) (S' := a.2.1) hg ((unhide HR).1.below hW) ((unhide HR).2.1.below hW) (TyRow.below hW k (unhide HR).2.2) ((unhide HR).1.below hW) ((unhide HR).2.1.below hW) (TyRow.below hW k (unhide HR).2.2)
  go_enter Tryz.func6, Tryz.ntmps6
  go_wp2_with fail
  refine (size_any (k + 1) a _ _ 3000 _ rfl (TyVal.below (unhide VA) (unhide HA)) (unhide WA) (by decide) (by decide)).mono ?_
  rintro _ w3 ⟨⟨n1, rfl, hn1, hz1⟩, b3⟩
  have HB := hide b3
  clear b3
  by_cases c1 : n1 < 3000
  rotate_left
  · have c1' : (3000 : Int) ≤ (n1 : Int) := by omega
    go_wp2_with fail
    refine (unhide RN _ (bon (unhide HA) (unhide HB))).mono ?_
    rintro _ w4 ⟨rfl, b4, _⟩
    go_wp2_with fail
    go_ret
    exact ⟨rfl, b4⟩
  have c1' : (n1 : Int) < 3000 := by omega
  have z1 := hide (hz1 c1)
  clear hz1
  obtain ⟨d0, d1, d2, d3, d4⟩ := box_b (unhide HB)
  go_wp2_with fail
  refine (size_any (k + 1) b _ _ 3000 _ rfl (TyVal.below (unhide VB) (bon (unhide HA) (unhide HB))) (unhide WB) (by decide) (by decide)).mono ?_
  rintro _ w4 ⟨⟨n2, rfl, hn2, hz2⟩, b4⟩
  replace HB := hide (bon (unhide HB) b4)
  clear b4 d0 d1 d2 d3 d4
  by_cases c2 : n2 < 3000
  rotate_left
  · have c2' : (3000 : Int) ≤ (n2 : Int) := by omega
    go_wp2_with fail
    refine (unhide RN _ (bon (unhide HA) (unhide HB))).mono ?_
    rintro _ w5 ⟨rfl, b5, _⟩
    go_wp2_with fail
    go_ret
    exact ⟨rfl, b5⟩
  have c2' : (n2 : Int) < 3000 := by omega
  have z2 := hide (hz2 c2)
  clear hz2
  have za : Hid (szD (k + 1) a ≤ 3000) := by show _ ≤ _; rw [← unhide z1]; omega
  have zb : Hid (szD (k + 1) b ≤ 3000) := by show _ ≤ _; rw [← unhide z2]; omega
  obtain ⟨xs, hxs⟩ : ∃ xs, xs = addTs (k + 1) [] [a] := ⟨_, rfl⟩
  obtain ⟨ys, hys⟩ : ∃ ys, ys = addTs (k + 1) [] [a, b] := ⟨_, rfl⟩
  have HXS := hide hxs
  have HYS := hide hys
  have hxl : xs.length ≤ 3000 := by
    have h1 := addTs_len (k + 1) [a] []
    have h2 := many_szL (k + 1) [a]
    have h3 := unhide za
    have h4 : szL (k + 1) [a] = szD (k + 1) a := by simp [szL]
    rw [hxs]; simp at h1; omega
  have hyl : ys.length ≤ 6000 := by
    have h1 := addTs_len (k + 1) [a, b] []
    have h2 := many_szL (k + 1) [a, b]
    have h3 := unhide za
    have h3' := unhide zb
    have h4 : szL (k + 1) [a, b] = szD (k + 1) a + szD (k + 1) b := by simp [szL]
    rw [hys]; simp at h1; omega
  have hpre : ys.take xs.length = xs := by
    rw [hys, hxs, addTs_two]
    obtain ⟨l, e⟩ := addTs_pre (k + 1) [b] (addTs (k + 1) [] [a])
    rw [e]; simp
  have hxy : xs.length ≤ ys.length := by
    have := congrArg List.length hpre
    rw [List.length_take] at this; omega
  have HPRE := hide hpre
  have HND : Hid ys.Nodup := by show ys.Nodup; rw [hys]; exact addTs_nodup _ _ _ (by simp)
  clear hxs hys hpre
  obtain ⟨a0, a1, a2, a3, a4⟩ := box_a (unhide HB)
  go_wp2_with fail
  have hbW := bon (bon (unhide HA) (unhide HB)) (al1 w4 (tyBox a.1 ⟨a.2.1.toArray⟩ pn pe pp a.2.2.1.length a.2.2.2.1.length a.2.2.2.2.length cn ce cp))
  have NA := names_own (unhide ROWA _ _ hbW (hp1 w4 _)) (by have := unhide za; simp [szL]; omega)
  rw [← unhide HXS] at NA
  refine NA.mono ?_
  rintro _ w5 ⟨⟨p1, y1, rfl, hy1, hS1⟩, b5⟩
  have HS1 := hide hS1
  replace HB := hide (bon (bon (unhide HB) (al1 w4 _)) b5)
  clear b5 hS1 NA hbW a0 a1 a2 a3 a4
  obtain ⟨a0, a1, a2, a3, a4⟩ := box_a (unhide HB)
  obtain ⟨d0, d1, d2, d3, d4⟩ := box_b (unhide HB)
  go_wp2_with fail
  have hb1 := al1 w5 (.cells #[.int .i64 a.1, .string ⟨a.2.1.toArray⟩, .slice pn a.2.2.1.length cn, .slice pe a.2.2.2.1.length ce, .slice pp a.2.2.2.2.length cp, .int .i64 b.1, .string ⟨b.2.1.toArray⟩, .slice pn' b.2.2.1.length cn', .slice pe' b.2.2.2.1.length ce', .slice pp' b.2.2.2.2.length cp'] 27)
  have hbW := bon (bon (unhide HA) (unhide HB)) hb1
  have NB := names_own (unhide ROWAB _ _ hbW (hp1 w5 _)) (by have := unhide za; have := unhide zb; simp [szL]; omega)
  rw [← unhide HYS] at NB
  refine NB.mono ?_
  rintro _ w6 ⟨⟨p2, y2, rfl, hy2, hS2⟩, b6⟩
  have HS2 := hide hS2
  replace HS1 := hide ((unhide HS1).below (bon hb1 b6))
  replace HB := hide (bon (bon (unhide HB) hb1) b6)
  clear b6 hS2 NB hbW hb1 a0 a1 a2 a3 a4 d0 d1 d2 d3 d4
  have hxy' : ¬ (ys.length : Int) < (xs.length : Int) := by omega
  have hxc : (xs.length : Int) ≤ (y2 : Int) := by omega
  go_wp2_with fail
  have TX := Texts_any _ _ xs xs w6 (by omega) (SRow.take (unhide HS2) (unhide HPRE) rfl) (unhide HS1)
  rw [decide_eq_true rfl] at TX
  refine TX.mono ?_
  rintro _ w7 ⟨rfl, b7⟩
  replace HS1 := hide ((unhide HS1).below b7)
  replace HS2 := hide ((unhide HS2).below b7)
  replace HB := hide (bon (unhide HB) b7)
  clear b7 TX
  obtain ⟨a0, a1, a2, a3, a4⟩ := box_a (unhide HB)
  go_wp2_with fail
  have hb1 := al1 w7 (.cells #[.int .i64 a.1, .string ⟨a.2.1.toArray⟩, .slice pn a.2.2.1.length cn, .slice pe a.2.2.2.1.length ce, .slice pp a.2.2.2.2.length cp, .int .i64 a.1, .string ⟨a.2.1.toArray⟩, .slice pn a.2.2.1.length cn, .slice pe a.2.2.2.1.length ce, .slice pp a.2.2.2.2.length cp] 27)
  have hbW := bon (bon (unhide HA) (unhide HB)) hb1
  have NB := names_own (unhide ROWAA _ _ hbW (hp1 w7 _)) (by have := unhide za; simp [szL]; omega)
  rw [names_twice, ← unhide HXS] at NB
  refine NB.mono ?_
  rintro _ w8 ⟨⟨p3, y3, rfl, hy3, hS3⟩, b8⟩
  replace HS1 := hide ((unhide HS1).below (bon hb1 b8))
  replace HS2 := hide ((unhide HS2).below (bon hb1 b8))
  replace HB := hide (bon (bon (unhide HB) hb1) b8)
  have HS3 := hide hS3
  clear b8 hS3 NB hbW hb1 a0 a1 a2 a3 a4
  go_wp2_with fail
  have TX := Texts_any _ _ xs xs w8 (by omega) (unhide HS3) (unhide HS1)
  rw [decide_eq_true rfl] at TX
  refine TX.mono ?_
  rintro _ w9 ⟨rfl, b9⟩
  replace HS1 := hide ((unhide HS1).below b9)
  replace HS2 := hide ((unhide HS2).below b9)
  replace HB := hide (bon (unhide HB) b9)
  clear b9 TX HS3
  go_wp2_with fail
  have HXL := hide hxl
  simp only [show decide (ys.length < xs.length) = false from decide_eq_false (by omega)]
  clear c1 c1' c2 c2' hxy' hxc hxy hn1 hn2 hy1 hy2 hy3 hxl
  go_loopw [7] (fun i wr => ∃ j nd : Nat, i = .int .i64 j ∧ j ≤ ys.length ∧ wr = w9.drewN nd) (fun i _ => ys.length - (intOf i).toNat)
  case atStart => exact ⟨0, 0, rfl, by omega, rfl⟩
  case round =>
    obtain ⟨j, nd, rfl, hj, rfl⟩ := hrel
    by_cases hlt : j < ys.length
    · have hlt' : (j : Int) < (ys.length : Int) := by omega
      go_wp2_with fail
      go_loopw [8] (fun i wr => ∃ m md : Nat, i = .int .i64 m ∧ m ≤ j ∧ wr = w9.drewN md) (fun i _ => j - (intOf i).toNat)
      case atStart => exact ⟨0, nd, rfl, by omega, rfl⟩
      case round =>
        obtain ⟨m, md, rfl, hm, rfl⟩ := hrel
        by_cases hmj : m < j
        · have hmj' : (m : Int) < (j : Int) := by omega
          have hml' : (m : Int) < (ys.length : Int) := by omega
          obtain ⟨p', c', e', hp⟩ := unhide HS2
          injection e' with e1 e2 e3
          subst e1 e3
          obtain ⟨g, o, rfl, q0⟩ := hp j ys[j] (by simp)
          obtain ⟨g', o', e, q1⟩ := hp m ys[m] (by simp)
          obtain ⟨rfl, rfl⟩ : g = g' ∧ o = o' := by simpa using e
          have hne := bs_ne (nodup_ne (unhide HND) hmj hlt)
          obtain ⟨X, hX⟩ : ∃ X : ByteArray, X = ⟨ys[j].toArray⟩ := ⟨_, rfl⟩
          obtain ⟨Y, hY⟩ : ∃ Y : ByteArray, Y = ⟨ys[m].toArray⟩ := ⟨_, rfl⟩
          rw [← hX, ← hY] at hne
          rw [← hX] at q0
          rw [← hY] at q1
          clear hX hY hp e
          go_wp2
          go_quiet (fail)
          go_wp2
          go_roundw
          case rel => exact ⟨m + 1, md + nq, by go_num, by omega, by simp [World.drewN]⟩
          case measure => simp [intOf]; omega
        · go_wp2
          go_roundw
          case rel => exact ⟨j + 1, md, by go_num, by omega, rfl⟩
          case measure => simp [intOf]; omega
    · obtain ⟨w10, hw10⟩ : ∃ w10, w10 = w9.drewN nd := ⟨_, rfl⟩
      have hb10 : Below w9.heap.size w9 w10 := by rw [hw10]; exact below_drewN (Below.refl _ _) _
      rw [← hw10]
      replace HS1 := hide ((unhide HS1).below hb10)
      replace HB := hide (bon (unhide HB) hb10)
      clear hw10 hb10 HS2 HND
      obtain ⟨a0, a1, a2, a3, a4⟩ := box_a (unhide HB)
      go_wp2_with fail
      refine (ty_any _ _ _ _ _).mono ?_
      rintro _ w11 ⟨rfl, b11⟩
      have hg := hide (kp b11 (hp1 w10 (tyBox a.1 ⟨a.2.1.toArray⟩ pn pe pp a.2.2.1.length a.2.2.2.1.length a.2.2.2.2.length cn ce cp)))
      replace HS1 := hide ((unhide HS1).below (bon (al1 w10 _) b11))
      replace HB := hide (bon (bon (unhide HB) (al1 w10 _)) b11)
      clear b11 a0 a1 a2 a3 a4
      go_wp2_with fail
      obtain ⟨W6, hW6⟩ : ∃ W6 : World, W6 = w11.alloc (.cells #[.int .i64 5, .string ⟨#[]⟩, .slice none 0 0, .slice none 0 0, .slice (some ⟨w10.heap.size, 0, none⟩) 1 1] 27) := ⟨_, rfl⟩
      rw [← hW6]
      have hb6 : Below w11.heap.size w11 W6 := by rw [hW6]; exact al1 _ _
      have hP6 : W6.heap[w11.heap.size]? = some (.cells #[.int .i64 5, .string ⟨#[]⟩, .slice none 0 0, .slice none 0 0, .slice (some ⟨w10.heap.size, 0, none⟩) 1 1] 27) := by rw [hW6]; exact hp1 _ _
      have hG6 := kp hb6 (unhide hg)
      have hS6 := (unhide HS1).below hb6
      have HBB := bon (unhide HB) hb6
      have hw6 := bon (unhide HA) HBB
      clear hW6 hb6 hg HB HS1
      obtain ⟨B, hBd⟩ : ∃ B : World → Prop, B = fun W => Below W6.heap.size W6 W := ⟨_, rfl⟩
      have toB : ∀ W, B W → Below W6.heap.size W6 W := fun W h => by rw [hBd] at h; exact h
      have ofB : ∀ W, Below W6.heap.size W6 W → B W := fun W h => by rw [hBd]; exact h
      have cP : ∀ W, B W → W.cell? ⟨w11.heap.size, 0, none⟩ = some (.int .i64 5) ∧ W.cell? ⟨w11.heap.size, 1, none⟩ = some (.string ⟨#[]⟩) ∧ W.cell? ⟨w11.heap.size, 2, none⟩ = some (.slice none 0 0) ∧ W.cell? ⟨w11.heap.size, 3, none⟩ = some (.slice none 0 0) ∧ W.cell? ⟨w11.heap.size, 4, none⟩ = some (.slice (some ⟨w10.heap.size, 0, none⟩) 1 1) := fun W h => tc5 (kp (toB W h) hP6)
      have cA : ∀ W, B W → _ := fun W h => box_a (bon HBB (toB W h))
      have cB : ∀ W, B W → _ := fun W h => box_b (bon HBB (toB W h))
      have hlow : ∀ W, B W → Below w.heap.size w W := fun W h => bon hw6 (toB W h)
      have rP : ∀ W g, B W → W.heap[g]? = some (.cells #[.int .i64 5, .string ⟨#[]⟩, .slice none 0 0, .slice none 0 0, .slice (some ⟨w10.heap.size, 0, none⟩) 1 1] 27) → TyRow W (k + 2) (.slice (some ⟨g, 0, none⟩) 1 1) [((5, [], [], [], [a]) : Ty (k + 2))] := fun W g h hg => TyRow.one (S := []) hg (SRow.nil _) (BRow.nil _) (unhide ROWA W _ (hlow W h) (kp (toB W h) hG6))
      have hszA : szL (k + 1) [a] ≤ 3000 := by have := unhide za; simp [szL]; omega
      have hszP : szL (k + 2) [((5, [], [], [], [a]) : Ty (k + 2))] ≤ 3001 := by
        have := unhide za
        show (1 + 0 + 0 + 0 + 0 + (szD (k + 1) a + 0)) + 0 ≤ 3001
        omega
      have hszAB : szL (k + 1) [a, b] ≤ 6000 := by have := unhide za; have := unhide zb; simp [szL]; omega
      have hszBA : szL (k + 1) [b, a] ≤ 6000 := by have := unhide za; have := unhide zb; simp [szL]; omega
      obtain ⟨na, hna⟩ : ∃ na, na = nodes (k + 1) [a] := ⟨_, rfl⟩
      obtain ⟨da, hda⟩ : ∃ da, da = deep (k + 1) [a] := ⟨_, rfl⟩
      obtain ⟨nab, hnab⟩ : ∃ nab, nab = nodes (k + 1) [a, b] := ⟨_, rfl⟩
      have lna : na ≤ 3000 := by rw [hna]; exact Nat.le_trans (nodes_many _ _) (Nat.le_trans (many_szL _ _) hszA)
      have lda : da ≤ 3000 := by rw [hda]; exact Nat.le_trans (deep_many _ _) (Nat.le_trans (many_szL _ _) hszA)
      have cNP : ∀ W v, B W → VSl 1 (.cells #[.int .i64 5, .string ⟨#[]⟩, .slice none 0 0, .slice none 0 0, .slice (some ⟨w10.heap.size, 0, none⟩) 1 1] 27) v W → Calls Tryz.prog 22 #[v] W fun e w' => (∃ u, e = .returned u ∧ u = .int .i64 ((na : Int) + 1)) ∧ Below W.heap.size W w' := fun W v h ⟨g, hv, hg⟩ => by
        rw [hv]
        exact (Nodes_any (k + 2) _ _ W (rP W g h hg) (Nat.le_trans (many_szL _ _) (by omega))).mono fun e w' ⟨he, hb⟩ => ⟨⟨_, he, by rw [nodes_ptr, ← hna]; rfl⟩, hb⟩
      have cNA : ∀ W v, B W → VSl 1 (tyBox a.1 ⟨a.2.1.toArray⟩ pn pe pp a.2.2.1.length a.2.2.2.1.length a.2.2.2.2.length cn ce cp) v W → Calls Tryz.prog 22 #[v] W fun e w' => (∃ u, e = .returned u ∧ u = .int .i64 (na : Int)) ∧ Below W.heap.size W w' := fun W v h ⟨g, hv, hg⟩ => by
        rw [hv]
        exact (Nodes_any (k + 1) _ _ W (unhide ROWA W g (hlow W h) hg) (Nat.le_trans (many_szL _ _) (by omega))).mono fun e w' ⟨he, hb⟩ => ⟨⟨_, he, by rw [← hna]⟩, hb⟩
      have cDP : ∀ W v, B W → VSl 1 (.cells #[.int .i64 5, .string ⟨#[]⟩, .slice none 0 0, .slice none 0 0, .slice (some ⟨w10.heap.size, 0, none⟩) 1 1] 27) v W → Calls Tryz.prog 14 #[v] W fun e w' => (∃ u, e = .returned u ∧ u = .int .i64 ((da : Int) + 1)) ∧ Below W.heap.size W w' := fun W v h ⟨g, hv, hg⟩ => by
        rw [hv]
        exact (Depth_any (k + 2) _ _ W (rP W g h hg) (Nat.le_trans (many_szL _ _) (by omega))).mono fun e w' ⟨he, hb⟩ => ⟨⟨_, he, by rw [deep_ptr, ← hda]; rfl⟩, hb⟩
      have cDA : ∀ W v, B W → VSl 1 (tyBox a.1 ⟨a.2.1.toArray⟩ pn pe pp a.2.2.1.length a.2.2.2.1.length a.2.2.2.2.length cn ce cp) v W → Calls Tryz.prog 14 #[v] W fun e w' => (∃ u, e = .returned u ∧ u = .int .i64 (da : Int)) ∧ Below W.heap.size W w' := fun W v h ⟨g, hv, hg⟩ => by
        rw [hv]
        exact (Depth_any (k + 1) _ _ W (unhide ROWA W g (hlow W h) hg) (Nat.le_trans (many_szL _ _) (by omega))).mono fun e w' ⟨he, hb⟩ => ⟨⟨_, he, by rw [← hda]⟩, hb⟩
      have cNAB : ∀ W v, B W → VSl 2 (.cells #[.int .i64 a.1, .string ⟨a.2.1.toArray⟩, .slice pn a.2.2.1.length cn, .slice pe a.2.2.2.1.length ce, .slice pp a.2.2.2.2.length cp, .int .i64 b.1, .string ⟨b.2.1.toArray⟩, .slice pn' b.2.2.1.length cn', .slice pe' b.2.2.2.1.length ce', .slice pp' b.2.2.2.2.length cp'] 27) v W → Calls Tryz.prog 22 #[v] W fun e w' => (∃ u, e = .returned u ∧ u = .int .i64 (nab : Int)) ∧ Below W.heap.size W w' := fun W v h ⟨g, hv, hg⟩ => by
        rw [hv]
        exact (Nodes_any (k + 1) _ _ W (unhide ROWAB W g (hlow W h) hg) (Nat.le_trans (many_szL _ _) (by omega))).mono fun e w' ⟨he, hb⟩ => ⟨⟨_, he, by rw [← hnab]⟩, hb⟩
      have cNBA : ∀ W v, B W → VSl 2 (.cells #[.int .i64 b.1, .string ⟨b.2.1.toArray⟩, .slice pn' b.2.2.1.length cn', .slice pe' b.2.2.2.1.length ce', .slice pp' b.2.2.2.2.length cp', .int .i64 a.1, .string ⟨a.2.1.toArray⟩, .slice pn a.2.2.1.length cn, .slice pe a.2.2.2.1.length ce, .slice pp a.2.2.2.2.length cp] 27) v W → Calls Tryz.prog 22 #[v] W fun e w' => (∃ u, e = .returned u ∧ u = .int .i64 (nab : Int)) ∧ Below W.heap.size W w' := fun W v h ⟨g, hv, hg⟩ => by
        rw [hv]
        exact (Nodes_any (k + 1) _ _ W (unhide ROWBA W g (hlow W h) hg) (Nat.le_trans (many_szL _ _) (by omega))).mono fun e w' ⟨he, hb⟩ => ⟨⟨_, he, by rw [hnab, nodes_swap]⟩, hb⟩
      have cN0 : ∀ W : World, Calls Tryz.prog 22 #[.slice none 0 0] W fun e w' => (∃ u, e = .returned u ∧ u = .int .i64 0) ∧ Below W.heap.size W w' := fun W => (Nodes_any 0 _ [] W ⟨none, 0, rfl⟩ (by simp [many])).mono fun e w' ⟨he, hb⟩ => ⟨⟨_, he, by simp [nodes]⟩, hb⟩
      have cMP : ∀ W v, B W → VSl 1 (.cells #[.int .i64 5, .string ⟨#[]⟩, .slice none 0 0, .slice none 0 0, .slice (some ⟨w10.heap.size, 0, none⟩) 1 1] 27) v W → Calls Tryz.prog 20 #[v] W fun e w' => (∃ u, e = .returned u ∧ SRow w' u xs) ∧ Below W.heap.size W w' := fun W v h ⟨g, hv, hg⟩ => by
        rw [hv]
        have := names_own (rP W g h hg) (by omega)
        rw [names_ptr, ← unhide HXS] at this
        exact this.mono fun e w' ⟨⟨p, c, he, _, hs⟩, hb⟩ => ⟨⟨_, he, hs⟩, hb⟩
      have cT : ∀ W v, B W → SRow W v xs → Calls Tryz.prog 21 #[v, .slice p1 xs.length y1] W fun e w' => (∃ u, e = .returned u ∧ u = .bool true) ∧ Below W.heap.size W w' := fun W v h hs => by
        have := Texts_any v _ xs xs W (by have := unhide HXL; omega) hs (hS6.below (toB W h))
        rw [decide_eq_true rfl] at this
        exact this.mono fun e w' ⟨he, hb⟩ => ⟨⟨_, he, rfl⟩, hb⟩
      have cS : ∀ W, B W → Calls Tryz.prog 23 #[.agg #[.int .i64 5, .string ⟨#[]⟩, .slice none 0 0, .slice none 0 0, .slice (some ⟨w10.heap.size, 0, none⟩) 1 1], .agg #[.int .i64 a.1, .string ⟨a.2.1.toArray⟩, .slice pn a.2.2.1.length cn, .slice pe a.2.2.2.1.length ce, .slice pp a.2.2.2.2.length cp]] W fun e w' => (∃ u, e = .returned u ∧ u = .bool false) ∧ Below W.heap.size W w' := fun W h =>
        (same_any (k + 2) ((5, [], [], [], [a]) : Ty (k + 2)) (liftTy (k + 1) a) _ _ W false ⟨(fun e => nomatch e), (fun e => absurd e (ptr_ne a))⟩ (show TyVal W (k + 1) _ _ from ⟨none, none, some ⟨w10.heap.size, 0, none⟩, 0, 0, 1, rfl, SRow.nil _, BRow.nil _, unhide ROWA W _ (hlow W h) (kp (toB W h) hG6)⟩) (lift_val (TyVal.below (unhide VA) (hlow W h))) ⟨by simp, by simp, by simp, by simp, by simp, fun u hu => by rw [List.mem_singleton.1 hu]; exact unhide WA⟩ (lift_wf _ _ (unhide WA))).mono fun e w' ⟨he, hb⟩ => ⟨⟨_, he, rfl⟩, hb⟩
      have cR : ∀ W, B W → Calls Tryz.prog 9 #[] W fun e w' => (∃ u, e = .returned u ∧ u = .bool true) ∧ Below W.heap.size W w' := fun W h => (unhide RN W (hlow W h)).mono fun e w' ⟨he, _, hb⟩ => ⟨⟨_, he, rfl⟩, hb⟩
      refine region_list (n := 121) (by kernel_rfl) (by kernel_rfl) (by kernel_rfl) rfl B (fun i v W => VN (.agg #[.int .i64 5, .string ⟨#[]⟩, .slice none 0 0, .slice none 0 0, .slice (some ⟨w10.heap.size, 0, none⟩) 1 1]) (.agg #[.int .i64 a.1, .string ⟨a.2.1.toArray⟩, .slice pn a.2.2.1.length cn, .slice pe a.2.2.2.1.length ce, .slice pp a.2.2.2.2.length cp]) (.agg #[.int .i64 b.1, .string ⟨b.2.1.toArray⟩, .slice pn' b.2.2.1.length cn', .slice pe' b.2.2.2.1.length ce', .slice pp' b.2.2.2.2.length cp']) (.slice p1 xs.length y1)
        (.cells #[.int .i64 5, .string ⟨#[]⟩, .slice none 0 0, .slice none 0 0, .slice (some ⟨w10.heap.size, 0, none⟩) 1 1] 27) (tyBox a.1 ⟨a.2.1.toArray⟩ pn pe pp a.2.2.1.length a.2.2.2.1.length a.2.2.2.2.length cn ce cp)
        (.cells #[.int .i64 a.1, .string ⟨a.2.1.toArray⟩, .slice pn a.2.2.1.length cn, .slice pe a.2.2.2.1.length ce, .slice pp a.2.2.2.2.length cp, .int .i64 b.1, .string ⟨b.2.1.toArray⟩, .slice pn' b.2.2.1.length cn', .slice pe' b.2.2.2.1.length ce', .slice pp' b.2.2.2.2.length cp'] 27)
        (.cells #[.int .i64 b.1, .string ⟨b.2.1.toArray⟩, .slice pn' b.2.2.1.length cn', .slice pe' b.2.2.2.1.length ce', .slice pp' b.2.2.2.2.length cp', .int .i64 a.1, .string ⟨a.2.1.toArray⟩, .slice pn a.2.2.1.length cn, .slice pe a.2.2.2.1.length ce, .slice pp a.2.2.2.2.length cp] 27) xs na da nab (cls16 i) v W)
        (ofB _ (below_drew2 (Below.refl _ _))) (fun W W' h hb => ofB _ (bon (toB _ h) hb)) (fun i v W W' h hb => VN.on (cls16 i) h hb) ?each ?fin
      case each =>
        refine ⟨?_, ?_, ?_, ?_, ?_, ?_, ?_, ?_, ?_, ?_, ?_, ?_, ?_, ?_, ?_, ?_, ?_, ?_, ?_, ?_, ?_, ?_, ?_, ?_, ?_, ?_, ?_, ?_, ?_, ?_, ?_, ?_, ?_, ?_, ?_, ?_, ?_, ?_, ?_, ?_, ?_, ?_, ?_, ?_, ?_, ?_, ?_, ?_, ?_, ?_, trivial⟩
        · exact fun a' W hz hdf hkp hBW dep => ⟨wanted_plain rfl, op_load5 rfl (show a'.eval (.tmp 9) = Value.pointer (some ⟨w11.heap.size, 0, none⟩) from hkp 9 (by kernel_rfl)) (cP W hBW).1 (cP W hBW).2.1 (cP W hBW).2.2.1 (cP W hBW).2.2.2.1 (cP W hBW).2.2.2.2 ⟨_, rfl, Below.refl _ _, rfl⟩⟩
        · exact fun a' W hz hdf hkp hBW dep => ⟨wanted_plain rfl, op_build1 rfl (dep 0 72 (by kernel_rfl) (by kernel_rfl)) ⟨_, rfl, al1 _ _, _, rfl, hp1 _ _⟩⟩
        · exact fun a' W hz hdf hkp hBW dep => ⟨wanted_plain rfl, op_call1 (u := a'.tmps.getD 73 undef) rfl rfl nodes_enter ((cNP W _ hBW (dep 1 73 (by kernel_rfl) (by kernel_rfl))).mono fun e w' ⟨⟨u, he, hv⟩, hb⟩ => ⟨u, he, u, rfl, hb, hv⟩)⟩
        · exact fun a' W hz hdf hkp hBW dep => ⟨wanted_plain rfl, op_load5 rfl (show a'.eval (.tmp 2) = Value.pointer (some ⟨w.heap.size, 0, none⟩) from hkp 2 (by kernel_rfl)) (cA W hBW).1 (cA W hBW).2.1 (cA W hBW).2.2.1 (cA W hBW).2.2.2.1 (cA W hBW).2.2.2.2 ⟨_, rfl, Below.refl _ _, rfl⟩⟩
        · exact fun a' W hz hdf hkp hBW dep => ⟨wanted_plain rfl, op_build1 rfl (dep 3 75 (by kernel_rfl) (by kernel_rfl)) ⟨_, rfl, al1 _ _, _, rfl, hp1 _ _⟩⟩
        · exact fun a' W hz hdf hkp hBW dep => ⟨wanted_plain rfl, op_call1 (u := a'.tmps.getD 76 undef) rfl rfl nodes_enter ((cNA W _ hBW (dep 4 76 (by kernel_rfl) (by kernel_rfl))).mono fun e w' ⟨⟨u, he, hv⟩, hb⟩ => ⟨u, he, u, rfl, hb, hv⟩)⟩
        · exact fun a' W hz hdf hkp hBW dep => ⟨wanted_plain rfl, op_add rfl (dep 5 77 (by kernel_rfl) (by kernel_rfl)) rfl (by omega) (by decide) (by omega) ⟨_, rfl, Below.refl _ _, rfl⟩⟩
        · exact fun a' W hz hdf hkp hBW dep => ⟨wanted_plain rfl, op_eql rfl (dep 2 74 (by kernel_rfl) (by kernel_rfl)) (dep 6 78 (by kernel_rfl) (by kernel_rfl)) ⟨_, rfl, Below.refl _ _, vbool (by simp)⟩⟩
        · exact fun a' W hz hdf hkp hBW dep => ⟨wanted_plain rfl, op_move rfl (dep 7 79 (by kernel_rfl) (by kernel_rfl)) ⟨_, rfl, Below.refl _ _, rfl⟩⟩
        · exact fun a' W hz hdf hkp hBW dep => ⟨wanted_if rfl (d := 80) (by kernel_rfl) (by rw [hz]; decide) (dep 8 80 (by kernel_rfl) (by kernel_rfl)), op_load5 rfl (show a'.eval (.tmp 9) = Value.pointer (some ⟨w11.heap.size, 0, none⟩) from hkp 9 (by kernel_rfl)) (cP W hBW).1 (cP W hBW).2.1 (cP W hBW).2.2.1 (cP W hBW).2.2.2.1 (cP W hBW).2.2.2.2 ⟨_, rfl, Below.refl _ _, rfl⟩⟩
        · exact fun a' W hz hdf hkp hBW dep => ⟨wanted_if rfl (d := 80) (by kernel_rfl) (by rw [hz]; decide) (dep 8 80 (by kernel_rfl) (by kernel_rfl)), op_build1 rfl (dep 9 81 (by kernel_rfl) (by kernel_rfl)) ⟨_, rfl, al1 _ _, _, rfl, hp1 _ _⟩⟩
        · exact fun a' W hz hdf hkp hBW dep => ⟨wanted_if rfl (d := 80) (by kernel_rfl) (by rw [hz]; decide) (dep 8 80 (by kernel_rfl) (by kernel_rfl)), op_call1 (u := a'.tmps.getD 82 undef) rfl rfl names_enter ((cMP W _ hBW (dep 10 82 (by kernel_rfl) (by kernel_rfl))).mono fun e w' ⟨⟨u, he, hv⟩, hb⟩ => ⟨u, he, u, rfl, hb, hv⟩)⟩
        · exact fun a' W hz hdf hkp hBW dep => ⟨wanted_if rfl (d := 80) (by kernel_rfl) (by rw [hz]; decide) (dep 8 80 (by kernel_rfl) (by kernel_rfl)), op_move rfl (show a'.eval (.tmp 5) = Value.slice p1 xs.length y1 from hkp 5 (by kernel_rfl)) ⟨_, rfl, Below.refl _ _, rfl⟩⟩
        · exact fun a' W hz hdf hkp hBW dep => ⟨wanted_if rfl (d := 80) (by kernel_rfl) (by rw [hz]; decide) (dep 8 80 (by kernel_rfl) (by kernel_rfl)), op_call2 (u := a'.tmps.getD 83 undef) rfl rfl (dep 12 84 (by kernel_rfl) (by kernel_rfl)) texts_enter ((cT W _ hBW (dep 11 83 (by kernel_rfl) (by kernel_rfl))).mono fun e w' ⟨⟨u, he, hv⟩, hb⟩ => ⟨u, he, u, rfl, hb, hv⟩)⟩
        · exact fun a' W hz hdf hkp hBW dep => ⟨wanted_plain rfl, op_pick (b := true) rfl (dep 8 80 (by kernel_rfl) (by kernel_rfl)) ((if_pos rfl).trans (dep 13 85 (by kernel_rfl) (by kernel_rfl))) ⟨_, rfl, Below.refl _ _, rfl⟩⟩
        · exact fun a' W hz hdf hkp hBW dep => ⟨wanted_plain rfl, op_move rfl (dep 14 86 (by kernel_rfl) (by kernel_rfl)) ⟨_, rfl, Below.refl _ _, rfl⟩⟩
        · exact fun a' W hz hdf hkp hBW dep => ⟨wanted_if rfl (d := 87) (by kernel_rfl) (by rw [hz]; decide) (dep 15 87 (by kernel_rfl) (by kernel_rfl)), op_load5 rfl (show a'.eval (.tmp 9) = Value.pointer (some ⟨w11.heap.size, 0, none⟩) from hkp 9 (by kernel_rfl)) (cP W hBW).1 (cP W hBW).2.1 (cP W hBW).2.2.1 (cP W hBW).2.2.2.1 (cP W hBW).2.2.2.2 ⟨_, rfl, Below.refl _ _, rfl⟩⟩
        · exact fun a' W hz hdf hkp hBW dep => ⟨wanted_if rfl (d := 87) (by kernel_rfl) (by rw [hz]; decide) (dep 15 87 (by kernel_rfl) (by kernel_rfl)), op_build1 rfl (dep 16 88 (by kernel_rfl) (by kernel_rfl)) ⟨_, rfl, al1 _ _, _, rfl, hp1 _ _⟩⟩
        · exact fun a' W hz hdf hkp hBW dep => ⟨wanted_if rfl (d := 87) (by kernel_rfl) (by rw [hz]; decide) (dep 15 87 (by kernel_rfl) (by kernel_rfl)), op_call1 (u := a'.tmps.getD 89 undef) rfl rfl depth_enter ((cDP W _ hBW (dep 17 89 (by kernel_rfl) (by kernel_rfl))).mono fun e w' ⟨⟨u, he, hv⟩, hb⟩ => ⟨u, he, u, rfl, hb, hv⟩)⟩
        · exact fun a' W hz hdf hkp hBW dep => ⟨wanted_if rfl (d := 87) (by kernel_rfl) (by rw [hz]; decide) (dep 15 87 (by kernel_rfl) (by kernel_rfl)), op_load5 rfl (show a'.eval (.tmp 2) = Value.pointer (some ⟨w.heap.size, 0, none⟩) from hkp 2 (by kernel_rfl)) (cA W hBW).1 (cA W hBW).2.1 (cA W hBW).2.2.1 (cA W hBW).2.2.2.1 (cA W hBW).2.2.2.2 ⟨_, rfl, Below.refl _ _, rfl⟩⟩
        · exact fun a' W hz hdf hkp hBW dep => ⟨wanted_if rfl (d := 87) (by kernel_rfl) (by rw [hz]; decide) (dep 15 87 (by kernel_rfl) (by kernel_rfl)), op_build1 rfl (dep 19 91 (by kernel_rfl) (by kernel_rfl)) ⟨_, rfl, al1 _ _, _, rfl, hp1 _ _⟩⟩
        · exact fun a' W hz hdf hkp hBW dep => ⟨wanted_if rfl (d := 87) (by kernel_rfl) (by rw [hz]; decide) (dep 15 87 (by kernel_rfl) (by kernel_rfl)), op_call1 (u := a'.tmps.getD 92 undef) rfl rfl depth_enter ((cDA W _ hBW (dep 20 92 (by kernel_rfl) (by kernel_rfl))).mono fun e w' ⟨⟨u, he, hv⟩, hb⟩ => ⟨u, he, u, rfl, hb, hv⟩)⟩
        · exact fun a' W hz hdf hkp hBW dep => ⟨wanted_if rfl (d := 87) (by kernel_rfl) (by rw [hz]; decide) (dep 15 87 (by kernel_rfl) (by kernel_rfl)), op_add rfl (dep 21 93 (by kernel_rfl) (by kernel_rfl)) rfl (by omega) (by decide) (by omega) ⟨_, rfl, Below.refl _ _, rfl⟩⟩
        · exact fun a' W hz hdf hkp hBW dep => ⟨wanted_if rfl (d := 87) (by kernel_rfl) (by rw [hz]; decide) (dep 15 87 (by kernel_rfl) (by kernel_rfl)), op_eql rfl (dep 18 90 (by kernel_rfl) (by kernel_rfl)) (dep 22 94 (by kernel_rfl) (by kernel_rfl)) ⟨_, rfl, Below.refl _ _, vbool (by simp)⟩⟩
        · exact fun a' W hz hdf hkp hBW dep => ⟨wanted_plain rfl, op_pick (b := true) rfl (dep 15 87 (by kernel_rfl) (by kernel_rfl)) ((if_pos rfl).trans (dep 23 95 (by kernel_rfl) (by kernel_rfl))) ⟨_, rfl, Below.refl _ _, rfl⟩⟩
        · exact fun a' W hz hdf hkp hBW dep => ⟨wanted_plain rfl, op_move rfl (dep 24 96 (by kernel_rfl) (by kernel_rfl)) ⟨_, rfl, Below.refl _ _, rfl⟩⟩
        · exact fun a' W hz hdf hkp hBW dep => ⟨wanted_if rfl (d := 97) (by kernel_rfl) (by rw [hz]; decide) (dep 25 97 (by kernel_rfl) (by kernel_rfl)), op_load5 rfl (show a'.eval (.tmp 9) = Value.pointer (some ⟨w11.heap.size, 0, none⟩) from hkp 9 (by kernel_rfl)) (cP W hBW).1 (cP W hBW).2.1 (cP W hBW).2.2.1 (cP W hBW).2.2.2.1 (cP W hBW).2.2.2.2 ⟨_, rfl, Below.refl _ _, rfl⟩⟩
        · exact fun a' W hz hdf hkp hBW dep => ⟨wanted_if rfl (d := 97) (by kernel_rfl) (by rw [hz]; decide) (dep 25 97 (by kernel_rfl) (by kernel_rfl)), op_load5 rfl (show a'.eval (.tmp 2) = Value.pointer (some ⟨w.heap.size, 0, none⟩) from hkp 2 (by kernel_rfl)) (cA W hBW).1 (cA W hBW).2.1 (cA W hBW).2.2.1 (cA W hBW).2.2.2.1 (cA W hBW).2.2.2.2 ⟨_, rfl, Below.refl _ _, rfl⟩⟩
        · exact fun a' W hz hdf hkp hBW dep => ⟨wanted_if rfl (d := 97) (by kernel_rfl) (by rw [hz]; decide) (dep 25 97 (by kernel_rfl) (by kernel_rfl)), op_call2 rfl (dep 26 98 (by kernel_rfl) (by kernel_rfl)) (dep 27 99 (by kernel_rfl) (by kernel_rfl)) same_enter ((cS W hBW).mono fun e w' ⟨⟨u, he, hv⟩, hb⟩ => ⟨u, he, u, rfl, hb, hv⟩)⟩
        · exact fun a' W hz hdf hkp hBW dep => ⟨wanted_if rfl (d := 97) (by kernel_rfl) (by rw [hz]; decide) (dep 25 97 (by kernel_rfl) (by kernel_rfl)), op_not (b := false) rfl (dep 28 100 (by kernel_rfl) (by kernel_rfl)) ⟨_, rfl, Below.refl _ _, rfl⟩⟩
        · exact fun a' W hz hdf hkp hBW dep => ⟨wanted_plain rfl, op_pick (b := true) rfl (dep 25 97 (by kernel_rfl) (by kernel_rfl)) ((if_pos rfl).trans (dep 29 101 (by kernel_rfl) (by kernel_rfl))) ⟨_, rfl, Below.refl _ _, rfl⟩⟩
        · exact fun a' W hz hdf hkp hBW dep => ⟨wanted_plain rfl, op_move rfl (dep 30 102 (by kernel_rfl) (by kernel_rfl)) ⟨_, rfl, Below.refl _ _, rfl⟩⟩
        · exact fun a' W hz hdf hkp hBW dep => ⟨wanted_if rfl (d := 103) (by kernel_rfl) (by rw [hz]; decide) (dep 31 103 (by kernel_rfl) (by kernel_rfl)), op_load5 rfl (show a'.eval (.tmp 2) = Value.pointer (some ⟨w.heap.size, 0, none⟩) from hkp 2 (by kernel_rfl)) (cA W hBW).1 (cA W hBW).2.1 (cA W hBW).2.2.1 (cA W hBW).2.2.2.1 (cA W hBW).2.2.2.2 ⟨_, rfl, Below.refl _ _, rfl⟩⟩
        · exact fun a' W hz hdf hkp hBW dep => ⟨wanted_if rfl (d := 103) (by kernel_rfl) (by rw [hz]; decide) (dep 31 103 (by kernel_rfl) (by kernel_rfl)), op_load5 rfl (show a'.eval (.tmp 3) = Value.pointer (some ⟨w.heap.size + 1, 0, none⟩) from hkp 3 (by kernel_rfl)) (cB W hBW).1 (cB W hBW).2.1 (cB W hBW).2.2.1 (cB W hBW).2.2.2.1 (cB W hBW).2.2.2.2 ⟨_, rfl, Below.refl _ _, rfl⟩⟩
        · exact fun a' W hz hdf hkp hBW dep => ⟨wanted_if rfl (d := 103) (by kernel_rfl) (by rw [hz]; decide) (dep 31 103 (by kernel_rfl) (by kernel_rfl)), op_build2 rfl (dep 32 104 (by kernel_rfl) (by kernel_rfl)) (dep 33 105 (by kernel_rfl) (by kernel_rfl)) ⟨_, rfl, al1 _ _, _, rfl, hp1 _ _⟩⟩
        · exact fun a' W hz hdf hkp hBW dep => ⟨wanted_if rfl (d := 103) (by kernel_rfl) (by rw [hz]; decide) (dep 31 103 (by kernel_rfl) (by kernel_rfl)), op_call1 (u := a'.tmps.getD 106 undef) rfl rfl nodes_enter ((cNAB W _ hBW (dep 34 106 (by kernel_rfl) (by kernel_rfl))).mono fun e w' ⟨⟨u, he, hv⟩, hb⟩ => ⟨u, he, u, rfl, hb, hv⟩)⟩
        · exact fun a' W hz hdf hkp hBW dep => ⟨wanted_if rfl (d := 103) (by kernel_rfl) (by rw [hz]; decide) (dep 31 103 (by kernel_rfl) (by kernel_rfl)), op_load5 rfl (show a'.eval (.tmp 3) = Value.pointer (some ⟨w.heap.size + 1, 0, none⟩) from hkp 3 (by kernel_rfl)) (cB W hBW).1 (cB W hBW).2.1 (cB W hBW).2.2.1 (cB W hBW).2.2.2.1 (cB W hBW).2.2.2.2 ⟨_, rfl, Below.refl _ _, rfl⟩⟩
        · exact fun a' W hz hdf hkp hBW dep => ⟨wanted_if rfl (d := 103) (by kernel_rfl) (by rw [hz]; decide) (dep 31 103 (by kernel_rfl) (by kernel_rfl)), op_load5 rfl (show a'.eval (.tmp 2) = Value.pointer (some ⟨w.heap.size, 0, none⟩) from hkp 2 (by kernel_rfl)) (cA W hBW).1 (cA W hBW).2.1 (cA W hBW).2.2.1 (cA W hBW).2.2.2.1 (cA W hBW).2.2.2.2 ⟨_, rfl, Below.refl _ _, rfl⟩⟩
        · exact fun a' W hz hdf hkp hBW dep => ⟨wanted_if rfl (d := 103) (by kernel_rfl) (by rw [hz]; decide) (dep 31 103 (by kernel_rfl) (by kernel_rfl)), op_build2 rfl (dep 36 108 (by kernel_rfl) (by kernel_rfl)) (dep 37 109 (by kernel_rfl) (by kernel_rfl)) ⟨_, rfl, al1 _ _, _, rfl, hp1 _ _⟩⟩
        · exact fun a' W hz hdf hkp hBW dep => ⟨wanted_if rfl (d := 103) (by kernel_rfl) (by rw [hz]; decide) (dep 31 103 (by kernel_rfl) (by kernel_rfl)), op_call1 (u := a'.tmps.getD 110 undef) rfl rfl nodes_enter ((cNBA W _ hBW (dep 38 110 (by kernel_rfl) (by kernel_rfl))).mono fun e w' ⟨⟨u, he, hv⟩, hb⟩ => ⟨u, he, u, rfl, hb, hv⟩)⟩
        · exact fun a' W hz hdf hkp hBW dep => ⟨wanted_if rfl (d := 103) (by kernel_rfl) (by rw [hz]; decide) (dep 31 103 (by kernel_rfl) (by kernel_rfl)), op_eql rfl (dep 35 107 (by kernel_rfl) (by kernel_rfl)) (dep 39 111 (by kernel_rfl) (by kernel_rfl)) ⟨_, rfl, Below.refl _ _, vbool (by simp)⟩⟩
        · exact fun a' W hz hdf hkp hBW dep => ⟨wanted_plain rfl, op_pick (b := true) rfl (dep 31 103 (by kernel_rfl) (by kernel_rfl)) ((if_pos rfl).trans (dep 40 112 (by kernel_rfl) (by kernel_rfl))) ⟨_, rfl, Below.refl _ _, rfl⟩⟩
        · exact fun a' W hz hdf hkp hBW dep => ⟨wanted_plain rfl, op_move rfl (dep 41 113 (by kernel_rfl) (by kernel_rfl)) ⟨_, rfl, Below.refl _ _, rfl⟩⟩
        · exact fun a' W hz hdf hkp hBW dep => ⟨wanted_if rfl (d := 114) (by kernel_rfl) (by rw [hz]; decide) (dep 42 114 (by kernel_rfl) (by kernel_rfl)), op_call1 (u := .slice none 0 0) rfl rfl nodes_enter ((cN0 W).mono fun e w' ⟨⟨u, he, hv⟩, hb⟩ => ⟨u, he, u, rfl, hb, hv⟩)⟩
        · exact fun a' W hz hdf hkp hBW dep => ⟨wanted_if rfl (d := 114) (by kernel_rfl) (by rw [hz]; decide) (dep 42 114 (by kernel_rfl) (by kernel_rfl)), op_eql rfl (dep 43 115 (by kernel_rfl) (by kernel_rfl)) rfl ⟨_, rfl, Below.refl _ _, vbool (by simp)⟩⟩
        · exact fun a' W hz hdf hkp hBW dep => ⟨wanted_plain rfl, op_pick (b := true) rfl (dep 42 114 (by kernel_rfl) (by kernel_rfl)) ((if_pos rfl).trans (dep 44 116 (by kernel_rfl) (by kernel_rfl))) ⟨_, rfl, Below.refl _ _, rfl⟩⟩
        · exact fun a' W hz hdf hkp hBW dep => ⟨wanted_plain rfl, op_move rfl (dep 45 117 (by kernel_rfl) (by kernel_rfl)) ⟨_, rfl, Below.refl _ _, rfl⟩⟩
        · exact fun a' W hz hdf hkp hBW dep => ⟨wanted_if rfl (d := 118) (by kernel_rfl) (by rw [hz]; decide) (dep 46 118 (by kernel_rfl) (by kernel_rfl)), op_call0 rfl runs_enter ((cR W hBW).mono fun e w' ⟨⟨u, he, hv⟩, hb⟩ => ⟨u, he, u, rfl, hb, hv⟩)⟩
        · exact fun a' W hz hdf hkp hBW dep => ⟨wanted_plain rfl, op_pick (b := true) rfl (dep 46 118 (by kernel_rfl) (by kernel_rfl)) ((if_pos rfl).trans (dep 47 119 (by kernel_rfl) (by kernel_rfl))) ⟨_, rfl, Below.refl _ _, rfl⟩⟩
        · exact fun a' W hz hdf hkp hBW dep => ⟨wanted_plain rfl, op_assign rfl (dep 48 120 (by kernel_rfl) (by kernel_rfl)) ⟨_, rfl, Below.refl _ _, rfl⟩⟩
      case fin =>
        intro a' W hz hdf hkp hBW dep
        have h4 : a'.tmps.getD 4 undef = .bool true := dep 49 4 (by kernel_rfl)
        have hbf := hlow W hBW
        clear dep hkp cP cA cB rP cNP cNA cDP cDA cNAB cNBA cN0 cMP cT cS cR
        go_wp2
        exact bodyPost_ret (v := .bool true) (by have h4' := h4; simp only [Array.getD_eq_getD_getElem?] at h4'; simp [results, Tryz.results6, go_sem, h4']) hdf ⟨rfl, hbf⟩
end Go.Proofs.YtggfaadhhldnmaaGreatDoor
