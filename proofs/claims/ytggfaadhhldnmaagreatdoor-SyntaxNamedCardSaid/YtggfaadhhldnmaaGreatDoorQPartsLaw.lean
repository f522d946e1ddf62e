/-
  coillaw2.SyntaxParts, walked.
-/
import Derived.Test.YtggfaadhhldnmaaGreatDoorQRunsC
import Derived.Test.YtggfaadhhldnmaaGreatDoorQPartsG
import Derived.Test.YtggfaadhhldnmaaGreatDoorQKeepG
namespace Go.Proofs.YtggfaadhhldnmaaGreatDoor
open Go Go.RowKit Lx

abbrev tyV (K : Int) (S : ByteArray) (pn pe pp : Option Addr) (nn ne np cn ce cp : Nat) : Value := .agg #[.int .i64 K, .string S, .slice pn nn cn, .slice pe ne ce, .slice pp np cp]
theorem box_a {K K' : Int} {S S' : ByteArray} {pn pe pp pn' pe' pp' : Option Addr} {nn ne np cn ce cp nn' ne' np' cn' ce' cp' : Nat} {w wr : World} (hb : Below ((w.alloc (tyBox K S pn pe pp nn ne np cn ce cp)).alloc (tyBox K' S' pn' pe' pp' nn' ne' np' cn' ce' cp')).heap.size ((w.alloc (tyBox K S pn pe pp nn ne np cn ce cp)).alloc (tyBox K' S' pn' pe' pp' nn' ne' np' cn' ce' cp')) wr) :
    wr.cell? ⟨w.heap.size, 0, none⟩ = some (.int .i64 K) ∧ wr.cell? ⟨w.heap.size, 1, none⟩ = some (.string S) ∧ wr.cell? ⟨w.heap.size, 2, none⟩ = some (.slice pn nn cn) ∧ wr.cell? ⟨w.heap.size, 3, none⟩ = some (.slice pe ne ce) ∧ wr.cell? ⟨w.heap.size, 4, none⟩ = some (.slice pp np cp) :=
  box_cells (((Below.refl _ _).alloc (Nat.le_refl _) _).trans (hb.mono (by simp)))
theorem box_b {K K' : Int} {S S' : ByteArray} {pn pe pp pn' pe' pp' : Option Addr} {nn ne np cn ce cp nn' ne' np' cn' ce' cp' : Nat} {w wr : World} (hb : Below ((w.alloc (tyBox K S pn pe pp nn ne np cn ce cp)).alloc (tyBox K' S' pn' pe' pp' nn' ne' np' cn' ce' cp')).heap.size ((w.alloc (tyBox K S pn pe pp nn ne np cn ce cp)).alloc (tyBox K' S' pn' pe' pp' nn' ne' np' cn' ce' cp')) wr) :
    wr.cell? ⟨w.heap.size + 1, 0, none⟩ = some (.int .i64 K') ∧ wr.cell? ⟨w.heap.size + 1, 1, none⟩ = some (.string S') ∧ wr.cell? ⟨w.heap.size + 1, 2, none⟩ = some (.slice pn' nn' cn') ∧ wr.cell? ⟨w.heap.size + 1, 3, none⟩ = some (.slice pe' ne' ce') ∧ wr.cell? ⟨w.heap.size + 1, 4, none⟩ = some (.slice pp' np' cp') := by
  have h := box_cells (w := w.alloc (tyBox K S pn pe pp nn ne np cn ce cp)) hb
  rw [World.size_alloc] at h
  exact h
theorem type_ans {d : Nat} {W : World} {v : Value} {t : Ty (d + 1)} {X : ByteArray} (h : TyVal W d v t) (hz : szD (d + 1) t ≤ 1000000) (ht : Tab W) (h5 : 4 ≤ W.heap.size) (ha : joinAns (typeAns d t) = .tuple #[.string X, .int .i64 0]) :
    Calls Tryz.prog 10 #[v] W fun e w' => e = .returned (.tuple #[.string X, .int .i64 0]) ∧ Below W.heap.size W w' :=
  (Type_any d v t W h (fit_of_sz hz).1 (fit_of_sz hz).2 ht h5).mono fun e w' ⟨he, hb⟩ => ⟨by rw [he, ha], hb⟩
/-- three types in a block. -/
theorem TyRow.three {W : World} {g d : Nat} {K K' K2 : Int} {S S' S2 : Bs} {vn ve v vn' ve' v' vn2 ve2 v2 : Value} {ns ns' ns2 : List Bs} {es es' es2 : List Bool} {ts ts' ts2 : List (Ty d)} (hg : W.heap[g]? = some (.cells #[.int .i64 K, .string ⟨S.toArray⟩, vn, ve, v, .int .i64 K', .string ⟨S'.toArray⟩, vn', ve', v', .int .i64 K2, .string ⟨S2.toArray⟩, vn2, ve2, v2] 27)) (hn : SRow W vn ns) (he : BRow W ve es) (h : TyRow W d v ts) (hn' : SRow W vn' ns') (he' : BRow W ve' es') (h' : TyRow W d v' ts') (hn2 : SRow W vn2 ns2) (he2 : BRow W ve2 es2) (h2 : TyRow W d v2 ts2) :
    TyRow W (d + 1) (.slice (some ⟨g, 0, none⟩) 3 3) [(K, S, ns, es, ts), (K', S', ns', es', ts'), (K2, S2, ns2, es2, ts2)] := by
  have hc := Lib.cell_of_heap hg
  refine ⟨_, 3, rfl, fun j x hx => ?_⟩
  match j, hx with
  | 0, hx =>
    obtain rfl := Option.some.inj hx
    exact ⟨g, 0, _, _, _, rfl, hc 0, hc 1, hc 2, hc 3, hc 4, hn, he, h⟩
  | 1, hx =>
    obtain rfl := Option.some.inj hx
    exact ⟨g, 0, _, _, _, rfl, hc 5, hc 6, hc 7, hc 8, hc 9, hn', he', h'⟩
  | 2, hx =>
    obtain rfl := Option.some.inj hx
    exact ⟨g, 0, _, _, _, rfl, hc 10, hc 11, hc 12, hc 13, hc 14, hn2, he2, h2⟩
  | j + 3, hx => cases hx
/-- what Join's answer looks like. -/
theorem ans_shape {d : Nat} (t : Ty (d + 1)) : ∃ (X : ByteArray) (Y : Int), joinAns (typeAns d t) = .tuple #[.string X, .int .i64 Y] ∧ ((Y = 0 ∧ ∃ s : Bs, typeAns d t = .inr s ∧ X = ⟨s.toArray⟩ ∧ s.length ≤ 65536) ∨ Y ≠ 0) := by
  rcases h : typeAns d t with y | s
  · refine ⟨_, _, rfl, .inr ?_⟩
    unfold typeAns at h
    split at h
    · unfold join at h
      split at h
      · cases h; decide
      · split at h
        · cases h; decide
        · split at h
          · cases h; decide
          · cases h
    · cases h; decide
  · refine ⟨_, _, rfl, .inl ⟨rfl, s, rfl, rfl, ?_⟩⟩
    unfold typeAns at h
    split at h
    · exact (join_is h).2.2.1
    · cases h
set_option maxHeartbeats 8000000 in
set_option maxRecDepth 100000 in
theorem SyntaxParts_any (k : Nat) (a b : Ty (k + 1)) (va vb : Value) (w : World) (hva : TyVal w k va a) (hvb : TyVal w k vb b) (wa : WfD (k + 1) a) (wb : WfD (k + 1) b) (ht : Tab w) (h5 : 4 ≤ w.heap.size) :
    Calls Tryz.prog 4 #[va, vb] w fun e w' => e = .returned (.bool true) ∧ Below w.heap.size w w' := by
  have VA := hide hva
  have VB := hide hvb
  obtain ⟨pn, pe, pp, cn, ce, cp, rfl, r1, r2, r3⟩ := hva
  obtain ⟨pn', pe', pp', cn', ce', cp', rfl, s1, s2, s3⟩ := hvb
  have HA : Hid (Below w.heap.size w ((w.alloc (tyBox a.1 ⟨a.2.1.toArray⟩ pn pe pp a.2.2.1.length a.2.2.2.1.length a.2.2.2.2.length cn ce cp)).alloc (tyBox b.1 ⟨b.2.1.toArray⟩ pn' pe' pp' b.2.2.1.length b.2.2.2.1.length b.2.2.2.2.length cn' ce' cp'))) := ((Below.refl _ _).alloc (Nat.le_refl _) _).alloc (by simp) _
  have HR := hide (show SRow w (.slice pn a.2.2.1.length cn) a.2.2.1 ∧ BRow w (.slice pe a.2.2.2.1.length ce) a.2.2.2.1 ∧ TyRow w k (.slice pp a.2.2.2.2.length cp) a.2.2.2.2 from ⟨r1, r2, r3⟩)
  have HS := hide (show SRow w (.slice pn' b.2.2.1.length cn') b.2.2.1 ∧ BRow w (.slice pe' b.2.2.2.1.length ce') b.2.2.2.1 ∧ TyRow w k (.slice pp' b.2.2.2.2.length cp') b.2.2.2.2 from ⟨s1, s2, s3⟩)
  have HT := hide ht
  have WA := hide wa
  have WB := hide wb
  clear r1 r2 r3 s1 s2 s3 ht wa wb
  -- what SyntaxRuns answers, anywhere behind
  have RN : Hid (∀ W, Below w.heap.size w W → Calls Tryz.prog 9 #[] W fun e w' => e = .returned (.bool true) ∧ Below w.heap.size w w') := fun W hW =>
    (SyntaxRuns_any W ((unhide HT).below hW h5) (Nat.le_trans h5 hW.size)).mono fun e w' ⟨he, hb⟩ => ⟨he, bon hW hb⟩
  go_enter Tryz.func4, Tryz.ntmps4
  go_wp2_with fail
  refine (size_any (k + 1) a _ _ 300 _ rfl (TyVal.below (unhide VA) (unhide HA)) (unhide WA) (by decide) (by decide)).mono ?_
  rintro _ w3 ⟨⟨n1, rfl, hn1, hz1⟩, b3⟩
  have HB := hide b3
  clear b3
  by_cases c1 : n1 < 300
  rotate_left
  · have c1' : (300 : Int) ≤ (n1 : Int) := by omega
    go_wp2_with fail
    refine (unhide RN _ ((unhide HA).trans ((unhide HB).mono (unhide HA).size))).mono ?_
    rintro _ w4 ⟨rfl, b4⟩
    go_wp2_with fail
    go_ret
    exact ⟨rfl, b4⟩
  have c1' : (n1 : Int) < 300 := by omega
  have z1 := hide (hz1 c1)
  clear hz1
  obtain ⟨d0, d1, d2, d3, d4⟩ := box_b (unhide HB)
  go_wp2_with fail
  refine (size_any (k + 1) b _ _ 300 _ rfl (TyVal.below (unhide VB) (bon (unhide HA) (unhide HB))) (unhide WB) (by decide) (by decide)).mono ?_
  rintro _ w4 ⟨⟨n2, rfl, hn2, hz2⟩, b4⟩
  replace HB := hide (bon (unhide HB) b4)
  clear b4 d0 d1 d2 d3 d4
  by_cases c2 : n2 < 300
  rotate_left
  · have c2' : (300 : Int) ≤ (n2 : Int) := by omega
    go_wp2_with fail
    refine (unhide RN _ (bon (unhide HA) (unhide HB))).mono ?_
    rintro _ w5 ⟨rfl, b5⟩
    go_wp2_with fail
    go_ret
    exact ⟨rfl, b5⟩
  have c2' : (n2 : Int) < 300 := by omega
  have z2 := hide (hz2 c2)
  clear hz2
  obtain ⟨a0, a1, a2, a3, a4⟩ := box_a (unhide HB)
  obtain ⟨d0, d1, d2, d3, d4⟩ := box_b (unhide HB)
  go_wp2_with fail
  have za : Hid (szD (k + 1) a ≤ 300) := by show _ ≤ _; rw [← unhide z1]; omega
  have zb : Hid (szD (k + 1) b ≤ 300) := by show _ ≤ _; rw [← unhide z2]; omega
  have hbW := bon (bon (unhide HA) (unhide HB)) (al1 w4 (.cells #[.int .i64 a.1, .string ⟨a.2.1.toArray⟩, .slice pn a.2.2.1.length cn, .slice pe a.2.2.2.1.length ce, .slice pp a.2.2.2.2.length cp, .int .i64 b.1, .string ⟨b.2.1.toArray⟩, .slice pn' b.2.2.1.length cn', .slice pe' b.2.2.2.1.length ce', .slice pp' b.2.2.2.2.length cp'] 27))
  have hrow := TyRow.two (d := k) (S := a.2.1) (S' := b.2.1) (hp1 w4 (.cells #[.int .i64 a.1, .string ⟨a.2.1.toArray⟩, .slice pn a.2.2.1.length cn, .slice pe a.2.2.2.1.length ce, .slice pp a.2.2.2.2.length cp, .int .i64 b.1, .string ⟨b.2.1.toArray⟩, .slice pn' b.2.2.1.length cn', .slice pe' b.2.2.2.1.length ce', .slice pp' b.2.2.2.2.length cp'] 27)) ((unhide HR).1.below hbW) ((unhide HR).2.1.below hbW) (TyRow.below hbW k (unhide HR).2.2) ((unhide HS).1.below hbW) ((unhide HS).2.1.below hbW) (TyRow.below hbW k (unhide HS).2.2)
  have hmany : many (k + 1) [a, b] ≤ 1000000 := by
    have h1 := many_szL (k + 1) [a, b]
    have h2 := unhide za
    have h3 := unhide zb
    have h4 : szL (k + 1) [a, b] = szD (k + 1) a + szD (k + 1) b := by simp [szL]
    omega
  refine (Depth_any (k + 1) _ [a, b] _ hrow hmany).mono ?_
  rintro _ w5 ⟨rfl, b5⟩
  replace HB := hide (bon (bon (unhide HB) (al1 w4 _)) b5)
  clear b5 hbW hrow hmany a0 a1 a2 a3 a4 d0 d1 d2 d3 d4
  obtain ⟨dd, hdd⟩ : ∃ dd, dd = deep (k + 1) [a, b] := ⟨_, rfl⟩
  rw [← hdd]
  have HDD := hide hdd
  clear hdd
  by_cases c3 : dd ≤ 60
  rotate_left
  · have c3' : (60 : Int) < (dd : Int) := by omega
    go_wp2_with fail
    refine (unhide RN _ (bon (unhide HA) (unhide HB))).mono ?_
    rintro _ w6 ⟨rfl, b6⟩
    go_wp2_with fail
    go_ret
    exact ⟨rfl, b6⟩
  have c3' : (dd : Int) ≤ 60 := by omega
  obtain ⟨a0, a1, a2, a3, a4⟩ := box_a (unhide HB)
  go_wp2_with fail
  obtain ⟨X1, Y1, hX1, hXY1⟩ := ans_shape a
  have TA := Type_any k _ a w5 (TyVal.below (unhide VA) (bon (unhide HA) (unhide HB))) (fit_of_sz (Nat.le_trans (unhide za) (by decide))).1 (fit_of_sz (Nat.le_trans (unhide za) (by decide))).2 ((unhide HT).below (bon (unhide HA) (unhide HB)) h5) (Nat.le_trans h5 (bon (unhide HA) (unhide HB)).size)
  rw [hX1] at TA
  refine TA.mono ?_
  rintro _ w6 ⟨rfl, b6⟩
  replace HB := hide (bon (unhide HB) b6)
  have HX1 := hide hXY1
  clear b6 TA hX1 hXY1 a0 a1 a2 a3 a4
  obtain ⟨d0, d1, d2, d3, d4⟩ := box_b (unhide HB)
  go_wp2_with fail
  obtain ⟨X2, Y2, hX2, hXY2⟩ := ans_shape b
  have TB := Type_any k _ b w6 (TyVal.below (unhide VB) (bon (unhide HA) (unhide HB))) (fit_of_sz (Nat.le_trans (unhide zb) (by decide))).1 (fit_of_sz (Nat.le_trans (unhide zb) (by decide))).2 ((unhide HT).below (bon (unhide HA) (unhide HB)) h5) (Nat.le_trans h5 (bon (unhide HA) (unhide HB)).size)
  rw [hX2] at TB
  refine TB.mono ?_
  rintro _ w7 ⟨rfl, b7⟩
  replace HB := hide (bon (unhide HB) b7)
  have HX2 := hide hXY2
  clear b7 TB hX2 hXY2 d0 d1 d2 d3 d4
  by_cases hY1 : Y1 = 0
  rotate_left
  · have hY1' : (Y1 == 0) = false := beq_eq_false_iff_ne.2 hY1
    have hY1'' : (Y1 != 0) = true := by rw [bne, hY1']; rfl
    go_wp2_with fail
    refine (unhide RN _ (bon (unhide HA) (unhide HB))).mono ?_
    rintro _ w8 ⟨rfl, b8⟩
    go_wp2_with fail
    go_ret
    exact ⟨rfl, b8⟩
  subst hY1
  by_cases hY2 : Y2 = 0
  rotate_left
  · have hY2' : (Y2 == 0) = false := beq_eq_false_iff_ne.2 hY2
    have hY2'' : (Y2 != 0) = true := by rw [bne, hY2']; rfl
    go_wp2_with fail
    refine (unhide RN _ (bon (unhide HA) (unhide HB))).mono ?_
    rintro _ w8 ⟨rfl, b8⟩
    go_wp2_with fail
    go_ret
    exact ⟨rfl, b8⟩
  subst hY2
  obtain ⟨s, hs, hsX, hsl⟩ : ∃ s : Bs, typeAns k a = .inr s ∧ X1 = ⟨s.toArray⟩ ∧ s.length ≤ 65536 := by
    rcases unhide HX1 with ⟨_, h⟩ | h
    · exact h
    · exact absurd rfl h
  obtain ⟨t, ht', htX, htl⟩ : ∃ t : Bs, typeAns k b = .inr t ∧ X2 = ⟨t.toArray⟩ ∧ t.length ≤ 65536 := by
    rcases unhide HX2 with ⟨_, h⟩ | h
    · exact h
    · exact absurd rfl h
  have hx1 : X1.size ≤ 65536 := by rw [hsX]; show s.toArray.size ≤ _; simpa using hsl
  have hx2 : X2.size ≤ 65536 := by rw [htX]; show t.toArray.size ≤ _; simpa using htl
  have HSX := hide hsX
  have HTX := hide htX
  have HSS := hide hs
  have HTT := hide ht'
  clear hsX htX hs ht' hsl htl
  have da : Hid (deep (k + 1) [a] ≤ 60) := by
    show _ ≤ _
    have h1 := unhide HDD
    have h2 := deep_append (k + 1) [a] [b]
    rw [show [a] ++ [b] = [a, b] from rfl] at h2
    omega
  have db : Hid (deep (k + 1) [b] ≤ 60) := by
    show _ ≤ _
    have h1 := unhide HDD
    have h2 := deep_append (k + 1) [a] [b]
    rw [show [a] ++ [b] = [a, b] from rfl] at h2
    omega
  have AP : Hid (joinAns (typeAns (k + 1) (5, [], [], [], [a])) = .tuple #[.string (⟨#[42, 32]⟩ ++ X1), .int .i64 0]) := by
    show _ = _
    rw [ans_ptr (unhide HSS) (unhide za) (unhide da), unhide HSX]
    show Value.tuple #[.string ⟨([42, 32] ++ s).toArray⟩, .int .i64 0] = _
    congr 4
  clear HX1 HX2
  obtain ⟨a0, a1, a2, a3, a4⟩ := box_a (unhide HB)
  go_wp2_with fail
  refine (ty_any _ _ _ _ _).mono ?_
  rintro _ w8 ⟨rfl, b8⟩
  have hg := hide (kp b8 (hp1 w7 (tyBox a.1 ⟨a.2.1.toArray⟩ pn pe pp a.2.2.1.length a.2.2.2.1.length a.2.2.2.2.length cn ce cp)))
  replace HB := hide (bon (bon (unhide HB) (al1 w7 _)) b8)
  clear b8 a0 a1 a2 a3 a4
  go_wp2_with fail
  have hbW := bon (unhide HA) (unhide HB)
  refine (type_ans (t := ((5, [], [], [], [a]) : Ty (k + 2))) (show TyVal w8 (k + 1) _ _ from ⟨none, none, some ⟨w7.heap.size, 0, none⟩, 0, 0, 1, rfl, SRow.nil _, BRow.nil _, TyRow.one (S := a.2.1) (unhide hg) ((unhide HR).1.below hbW) ((unhide HR).2.1.below hbW) (TyRow.below hbW k (unhide HR).2.2)⟩) (by have := unhide za; show 1 + 0 + 0 + 0 + 0 + (szD (k + 1) a + 0) ≤ 1000000; omega) ((unhide HT).below hbW h5) (Nat.le_trans h5 hbW.size) (unhide AP)).mono ?_
  rintro _ w9 ⟨rfl, b9⟩
  replace HB := hide (bon (unhide HB) b9)
  clear b9 hbW hg AP
  obtain ⟨a0, a1, a2, a3, a4⟩ := box_a (unhide HB)
  obtain ⟨d0, d1, d2, d3, d4⟩ := box_b (unhide HB)
  go_wp2_with fail
  refine (ty_any _ _ _ _ _).mono ?_
  rintro _ w10 ⟨rfl, b10⟩
  have hg := hide (kp b10 (hp1 w9 (.cells #[.int .i64 a.1, .string ⟨a.2.1.toArray⟩, .slice pn a.2.2.1.length cn, .slice pe a.2.2.2.1.length ce, .slice pp a.2.2.2.2.length cp, .int .i64 b.1, .string ⟨b.2.1.toArray⟩, .slice pn' b.2.2.1.length cn', .slice pe' b.2.2.2.1.length ce', .slice pp' b.2.2.2.2.length cp'] 27)))
  replace HB := hide (bon (bon (unhide HB) (al1 w9 _)) b10)
  clear b10 a0 a1 a2 a3 a4 d0 d1 d2 d3 d4
  go_wp2_with fail
  have hbW := bon (unhide HA) (unhide HB)
  have AQ : joinAns (typeAns (k + 1) (7, [], [], [], [a, b])) = .tuple #[.string (⟨#[102, 110, 32, 40, 32]⟩ ++ X1 ++ ⟨#[32, 41, 32]⟩ ++ X2), .int .i64 0] := by
    rw [ans_fn (unhide HSS) (unhide HTT) (unhide za) (unhide zb) (unhide da) (unhide db), unhide HSX, unhide HTX]
    show Value.tuple #[.string ⟨([102, 110, 32, 40, 32] ++ s ++ [32, 41, 32] ++ t).toArray⟩, .int .i64 0] = _
    congr 4
  refine (type_ans (t := ((7, [], [], [], [a, b]) : Ty (k + 2))) (show TyVal w10 (k + 1) _ _ from ⟨none, none, some ⟨w9.heap.size, 0, none⟩, 0, 0, 2, rfl, SRow.nil _, BRow.nil _, TyRow.two (S := a.2.1) (S' := b.2.1) (unhide hg) ((unhide HR).1.below hbW) ((unhide HR).2.1.below hbW) (TyRow.below hbW k (unhide HR).2.2) ((unhide HS).1.below hbW) ((unhide HS).2.1.below hbW) (TyRow.below hbW k (unhide HS).2.2)⟩) (by have := unhide za; have := unhide zb; show 1 + 0 + 0 + 0 + 0 + (szD (k + 1) a + (szD (k + 1) b + 0)) ≤ 1000000; omega) ((unhide HT).below hbW h5) (Nat.le_trans h5 hbW.size) AQ).mono ?_
  rintro _ w11 ⟨rfl, b11⟩
  replace HB := hide (bon (unhide HB) b11)
  clear b11 hbW hg AQ
  obtain ⟨a0, a1, a2, a3, a4⟩ := box_a (unhide HB)
  obtain ⟨d0, d1, d2, d3, d4⟩ := box_b (unhide HB)
  have hl1 := cell_at a0
  have hl2 := cell_at d0
  go_wp2_with fail
  have AR : joinAns (typeAns (k + 1) (6, [], [[120], [121]], [false, true], [a, b])) = .tuple #[.string (⟨#[123, 32, 120, 32]⟩ ++ X1 ++ ⟨#[32, 59, 32, 101, 109, 98, 101, 100, 32, 121, 32]⟩ ++ X2 ++ ⟨#[32, 59, 32, 125]⟩), .int .i64 0] := by
    rw [ans_rec (unhide HSS) (unhide HTT) (unhide za) (unhide zb) (unhide da) (unhide db), unhide HSX, unhide HTX]
    show Value.tuple #[.string ⟨([123, 32, 120, 32] ++ s ++ [32, 59, 32, 101, 109, 98, 101, 100, 32, 121, 32] ++ t ++ [32, 59, 32, 125]).toArray⟩, .int .i64 0] = _
    congr 4
  have hb3 := al3 w11 (.cells #[.string ⟨#[120]⟩, .string ⟨#[121]⟩] 9) emO (.cells #[.int .i64 a.1, .string ⟨a.2.1.toArray⟩, .slice pn a.2.2.1.length cn, .slice pe a.2.2.2.1.length ce, .slice pp a.2.2.2.2.length cp, .int .i64 b.1, .string ⟨b.2.1.toArray⟩, .slice pn' b.2.2.1.length cn', .slice pe' b.2.2.2.1.length ce', .slice pp' b.2.2.2.2.length cp'] 27)
  have hbW := bon (bon (unhide HA) (unhide HB)) hb3
  refine (type_ans (t := ((6, [], [[120], [121]], [false, true], [a, b]) : Ty (k + 2))) (show TyVal _ (k + 1) _ _ from ⟨some ⟨w11.heap.size, 0, none⟩, some ⟨w11.heap.size + 1, 0, none⟩, some ⟨w11.heap.size + 1 + 1, 0, none⟩, 2, 2, 2, rfl, srow2 (s := [120]) (u := [121]) (hp3a w11 _ _ _), brow2 (hp3b w11 _ _ _), TyRow.two (S := a.2.1) (S' := b.2.1) (hp3c w11 _ _ _) ((unhide HR).1.below hbW) ((unhide HR).2.1.below hbW) (TyRow.below hbW k (unhide HR).2.2) ((unhide HS).1.below hbW) ((unhide HS).2.1.below hbW) (TyRow.below hbW k (unhide HS).2.2)⟩) (by have := unhide za; have := unhide zb; show 1 + 0 + 2 + 2 + 2 + (szD (k + 1) a + (szD (k + 1) b + 0)) ≤ 1000000; omega) ((unhide HT).below hbW h5) (Nat.le_trans h5 hbW.size) AR).mono ?_
  rintro _ w12 ⟨rfl, b12⟩
  replace HB := hide (bon (bon (unhide HB) hb3) b12)
  clear b12 hbW AR hb3 a0 a1 a2 a3 a4 d0 d1 d2 d3 d4 hl1 hl2
  obtain ⟨a0, a1, a2, a3, a4⟩ := box_a (unhide HB)
  obtain ⟨d0, d1, d2, d3, d4⟩ := box_b (unhide HB)
  have hl1 := cell_at a0
  have hl2 := cell_at d0
  go_wp2_with fail
  refine (ty_any _ _ _ _ _).mono ?_
  rintro _ w13 ⟨rfl, b13⟩
  have hb2 := al2 w12 (.cells #[.string ⟨#[109]⟩] 9) (.cells #[.int .i64 a.1, .string ⟨a.2.1.toArray⟩, .slice pn a.2.2.1.length cn, .slice pe a.2.2.2.1.length ce, .slice pp a.2.2.2.2.length cp, .int .i64 a.1, .string ⟨a.2.1.toArray⟩, .slice pn a.2.2.1.length cn, .slice pe a.2.2.2.1.length ce, .slice pp a.2.2.2.2.length cp, .int .i64 b.1, .string ⟨b.2.1.toArray⟩, .slice pn' b.2.2.1.length cn', .slice pe' b.2.2.2.1.length ce', .slice pp' b.2.2.2.2.length cp'] 27)
  have hm := hide (kp b13 (hp2a w12 (.cells #[.string ⟨#[109]⟩] 9) (.cells #[.int .i64 a.1, .string ⟨a.2.1.toArray⟩, .slice pn a.2.2.1.length cn, .slice pe a.2.2.2.1.length ce, .slice pp a.2.2.2.2.length cp, .int .i64 a.1, .string ⟨a.2.1.toArray⟩, .slice pn a.2.2.1.length cn, .slice pe a.2.2.2.1.length ce, .slice pp a.2.2.2.2.length cp, .int .i64 b.1, .string ⟨b.2.1.toArray⟩, .slice pn' b.2.2.1.length cn', .slice pe' b.2.2.2.1.length ce', .slice pp' b.2.2.2.2.length cp'] 27)))
  have h3 := hide (kp b13 (hp2b w12 (.cells #[.string ⟨#[109]⟩] 9) (.cells #[.int .i64 a.1, .string ⟨a.2.1.toArray⟩, .slice pn a.2.2.1.length cn, .slice pe a.2.2.2.1.length ce, .slice pp a.2.2.2.2.length cp, .int .i64 a.1, .string ⟨a.2.1.toArray⟩, .slice pn a.2.2.1.length cn, .slice pe a.2.2.2.1.length ce, .slice pp a.2.2.2.2.length cp, .int .i64 b.1, .string ⟨b.2.1.toArray⟩, .slice pn' b.2.2.1.length cn', .slice pe' b.2.2.2.1.length ce', .slice pp' b.2.2.2.2.length cp'] 27)))
  replace HB := hide (bon (bon (unhide HB) hb2) b13)
  clear b13 hb2 a0 a1 a2 a3 a4 d0 d1 d2 d3 d4
  go_wp2_with fail
  have AI : joinAns (typeAns (k + 2) (8, [], [[109]], [], [(7, [], [], [], [a, a, b])])) = .tuple #[.string (⟨#[105, 110, 116, 101, 114, 102, 97, 99, 101, 32, 123, 32, 109, 32, 40, 32]⟩ ++ X1 ++ ⟨#[32, 44, 32]⟩ ++ X1 ++ ⟨#[32, 41, 32]⟩ ++ X2 ++ ⟨#[32, 59, 32, 125]⟩), .int .i64 0] := by
    rw [ans_iface (unhide HSS) (unhide HTT) (unhide za) (unhide zb) (unhide da) (unhide db), unhide HSX, unhide HTX]
    show Value.tuple #[.string ⟨([105, 110, 116, 101, 114, 102, 97, 99, 101, 32, 123, 32, 109, 32, 40, 32] ++ s ++ [32, 44, 32] ++ s ++ [32, 41, 32] ++ t ++ [32, 59, 32, 125]).toArray⟩, .int .i64 0] = _
    congr 4
  have hb1 := al1 w13 (.cells #[.int .i64 7, .string ⟨#[]⟩, .slice none 0 0, .slice none 0 0, .slice (some ⟨w12.heap.size + 1, 0, none⟩) 3 3] 27)
  have hbW := bon (bon (unhide HA) (unhide HB)) hb1
  refine (type_ans (t := ((8, [], [[109]], [], [(7, [], [], [], [a, a, b])]) : Ty (k + 3))) (show TyVal _ (k + 2) _ _ from ⟨some ⟨w12.heap.size, 0, none⟩, none, some ⟨w13.heap.size, 0, none⟩, 1, 0, 1, rfl, srow1 (s := [109]) (kp hb1 (unhide hm)), BRow.nil _, TyRow.one (S := []) (hp1 w13 _) (SRow.nil _) (BRow.nil _) (TyRow.three (S := a.2.1) (S' := a.2.1) (S2 := b.2.1) (kp hb1 (unhide h3)) ((unhide HR).1.below hbW) ((unhide HR).2.1.below hbW) (TyRow.below hbW k (unhide HR).2.2) ((unhide HR).1.below hbW) ((unhide HR).2.1.below hbW) (TyRow.below hbW k (unhide HR).2.2) ((unhide HS).1.below hbW) ((unhide HS).2.1.below hbW) (TyRow.below hbW k (unhide HS).2.2))⟩) (by have := unhide za; have := unhide zb; show 1 + 0 + 1 + 0 + 1 + ((1 + 0 + 0 + 0 + 0 + (szD (k + 1) a + (szD (k + 1) a + (szD (k + 1) b + 0)))) + 0) ≤ 1000000; omega) ((unhide HT).below hbW h5) (Nat.le_trans h5 hbW.size) AI).mono ?_
  rintro _ w14 ⟨rfl, b14⟩
  replace HB := hide (bon (bon (unhide HB) hb1) b14)
  clear b14 hbW AI hb1 hm h3 HSS HTT HSX HTX
  go_wp2_with fail
  refine (unhide RN _ (bon (unhide HA) (unhide HB))).mono ?_
  rintro _ w15 ⟨rfl, b15⟩
  go_wp2_with fail
  go_ret
  exact ⟨rfl, b15⟩
end Go.Proofs.YtggfaadhhldnmaaGreatDoor
