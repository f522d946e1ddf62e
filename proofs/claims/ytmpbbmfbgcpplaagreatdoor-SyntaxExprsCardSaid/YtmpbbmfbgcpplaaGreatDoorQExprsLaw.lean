/-
  coillaw2.SyntaxExprs, walked.
-/
import Derived.Test.YtmpbbmfbgcpplaaGreatDoorQToldS
import Derived.Test.YtmpbbmfbgcpplaaGreatDoorQRefE
import Derived.Test.YtmpbbmfbgcpplaaGreatDoorQRunsC
import Derived.Test.YtmpbbmfbgcpplaaGreatDoorQXOwn
import Derived.Test.YtmpbbmfbgcpplaaGreatDoorQKeepExpr
import Derived.Test.YtmpbbmfbgcpplaaGreatDoorQXRef
import Derived.Test.YtmpbbmfbgcpplaaGreatDoorQTokensPure
namespace Go.Proofs.YtmpbbmfbgcpplaaGreatDoor
open Go Go.RowKit Lx

theorem ansX_tup {D d : Nat} (x : Ex D (d + 1)) : ∃ (X : ByteArray) (Y : Int), joinAns (exprAns D d x) = .tuple #[.string X, .int .i64 Y] := by
  rcases exprAns D d x with y | s
  · exact ⟨_, _, rfl⟩
  · exact ⟨_, _, rfl⟩
set_option maxHeartbeats 1000000 in
set_option maxRecDepth 100000 in
theorem SyntaxExprs_any (D k : Nat) (a : Ex D (k + 1)) (va : Value) (w : World) (hva : EV w D (k + 1) va a) (wa : ExWf D (k + 1) [a]) (ht : Tab w) (h5 : 4 ≤ w.heap.size) :
    Calls Tryz.prog 3 #[va] w fun e w' => e = .returned (.bool true) ∧ Below w.heap.size w w' := by
  have VA := hide hva
  have WFX := hide ((ExWf.each wa).2 a (by simp))
  have WA := hide wa
  have HT := hide ht
  obtain ⟨⟨pt, pn, pp, ct, cn, cp, rfl, r1, r2, r3⟩, _⟩ := hva
  obtain ⟨A, hA⟩ : ∃ A, A = xAt a := ⟨_, rfl⟩
  obtain ⟨K, hK⟩ : ∃ K, K = xKind a := ⟨_, rfl⟩
  obtain ⟨N, hN⟩ : ∃ N, N = xN a := ⟨_, rfl⟩
  obtain ⟨S, hS⟩ : ∃ S, S = xS a := ⟨_, rfl⟩
  obtain ⟨nt, hnt⟩ : ∃ nt, nt = (xT a).length := ⟨_, rfl⟩
  obtain ⟨nn, hnn⟩ : ∃ nn, nn = (xNs a).length := ⟨_, rfl⟩
  obtain ⟨np, hnp⟩ : ∃ np, np = (xPs a).length := ⟨_, rfl⟩
  rw [← hA, ← hK, ← hN, ← hS, ← hnt, ← hnn, ← hnp] at VA ⊢
  have HE : Hid (A = xAt a ∧ K = xKind a ∧ N = xN a ∧ S = xS a ∧ nt = (xT a).length ∧ nn = (xNs a).length ∧ np = (xPs a).length) := ⟨hA, hK, hN, hS, hnt, hnn, hnp⟩
  clear hA hK hN hS hnt hnn hnp r1 r2 r3 ht wa
  have HA : Hid (Below w.heap.size w (w.alloc (exBox A K N ⟨S.toArray⟩ pt pn pp nt nn np ct cn cp))) := al1 _ _
  have RN : Hid (∀ W, Below w.heap.size w W → Calls Tryz.prog 7 #[] W fun e w' => e = .returned (.bool true) ∧ Below w.heap.size w w') := fun W hW =>
    (SyntaxRuns_any W ((unhide HT).below hW h5) (Nat.le_trans h5 hW.size)).mono fun e w' ⟨he, hb⟩ => ⟨he, bon hW hb⟩
  go_enter Tryz.func3, Tryz.ntmps3
  go_wp2_with fail
  refine (sizeX_any D (k + 1) a _ _ 20000 _ rfl ((unhide VA).below (unhide HA)).1 (unhide WFX) (by decide) (by decide)).mono ?_
  rintro _ w3 ⟨⟨n1, rfl, hn1, hz1⟩, b3⟩
  have HB := hide b3
  clear b3
  by_cases c1 : n1 < 20000
  rotate_left
  · have c1' : (20000 : Int) ≤ (n1 : Int) := by omega
    go_wp2_with fail
    refine (unhide RN _ (bon (unhide HA) (unhide HB))).mono ?_
    rintro _ w4 ⟨rfl, b4⟩
    go_wp2_with fail
    go_ret
    exact ⟨rfl, b4⟩
  have c1' : (n1 : Int) < 20000 := by omega
  have z1 := hz1 c1
  have za : Hid (szX D (k + 1) a ≤ 20000) := by show _ ≤ _; rw [← z1]; omega
  clear hz1 z1
  have FIT : Hid (ExFits D (k + 1) [a]) := exfits_of (by have := unhide za; simp [szXL]; omega) (unhide WA)
  obtain ⟨d0, d1, d2, d3, d4, d5, d6⟩ := exbox_cells (unhide HB)
  go_wp2_with fail
  refine (ownx_any D (k + 1) a _ _ ((unhide VA).below (bon (unhide HA) (unhide HB))).1 (by have := unhide za; omega)).mono ?_
  rintro _ w4 ⟨⟨u, rfl, _, hu⟩, b4⟩
  have HU : EV w4 D (k + 1) (val7 u) a := hu w4 fun _ _ _ => rfl
  clear hu
  generalize val7 u = x at HU ⊢
  have VU := hide HU
  obtain ⟨⟨qt, qn, qp, et, en, ep, rfl, _, _, _⟩, _⟩ := HU
  obtain ⟨e0, e1, e2, e3, e4, e5, e6⟩ := unhide HE
  rw [← e0, ← e1, ← e2, ← e3, ← e4, ← e5, ← e6] at VU ⊢
  clear e0 e1 e2 e3 e4 e5 e6
  have HB4 := hide (bon (unhide HB) b4)
  clear b4 d0 d1 d2 d3 d4 d5 d6
  obtain ⟨d0, d1, d2, d3, d4, d5, d6⟩ := exbox_cells (unhide HB4)
  have HB5 : Hid (Below (w.alloc (exBox A K N ⟨S.toArray⟩ pt pn pp nt nn np ct cn cp)).heap.size (w.alloc (exBox A K N ⟨S.toArray⟩ pt pn pp nt nn np ct cn cp)) (w4.alloc (exBox A K N ⟨S.toArray⟩ qt qn qp nt nn np et en ep))) := bon (unhide HB4) (al1 _ _)
  obtain ⟨e0, e1, e2, e3, e4, e5, e6⟩ := exbox_cells (unhide HB5)
  clear d0 d1 d2 d3 d4 d5 d6
  go_wp2_with fail
  refine (rrightx_any D (k + 1) a _ 64 _ ((unhide VA).below (bon (unhide HA) (unhide HB5))).1 (by have := unhide za; omega) (ExFits.at (unhide FIT) a (by simp)) (by decide)).mono ?_
  rintro _ w6 ⟨rfl, b6⟩
  have HB6 := hide b6
  clear b6 e0 e1 e2 e3 e4 e5 e6
  obtain ⟨X, Y, hXY⟩ := ansX_tup a
  have HXY := hide hXY
  clear hXY
  have TW : Hid (∀ W, Below (w4.alloc (exBox A K N ⟨S.toArray⟩ qt qn qp nt nn np et en ep)).heap.size (w4.alloc (exBox A K N ⟨S.toArray⟩ qt qn qp nt nn np et en ep)) W → Calls Tryz.prog 11 #[.agg #[.int .i64 A, .int .i64 K, .int .i64 N, .string ⟨S.toArray⟩, .slice qt nt et, .slice qn nn en, .slice qp np ep]] W fun e w' => e = .returned (.tuple #[.string X, .int .i64 Y]) ∧ Below W.heap.size W w') := fun W hW => by
    have hw : Below w.heap.size w W := bon (bon (unhide HA) (unhide HB5)) hW
    obtain ⟨⟨qt', qn', qp', et', en', ep', ee, s1, s2, s3⟩, _, _, _, _, _, _, vp, ev, s4⟩ := (unhide VU).below (bon (al1 _ (exBox A K N ⟨S.toArray⟩ qt qn qp nt nn np et en ep)) hW)
    have F := unhide FIT
    have hxy := unhide HXY
    obtain ⟨f0, f1, f2, f3, f4, f5, f6⟩ := unhide HE
    clear VA VU WA WFX FIT HXY HE
    obtain ⟨A0, K0, N0, S0, ts, ns, xs⟩ := a
    dsimp only [xAt, xKind, xN, xS, xT, xNs, xPs] at *
    subst f0 f1 f2 f3 f4 f5 f6
    have h6 : Value.slice qp xs.length ep = vp := by
      injection ev with e1
      have := congrArg (fun (x : Array Value) => x[6]?) e1
      simpa using this
    subst h6
    injection ee with ee
    have g4 : Value.slice qt ts.length et = .slice qt' ts.length et' := by have := congrArg (fun (x : Array Value) => x[4]?) ee; simpa using this
    have g5 : Value.slice qn ns.length en = .slice qn' ns.length en' := by have := congrArg (fun (x : Array Value) => x[5]?) ee; simpa using this
    have g6 : Value.slice qp xs.length ep = .slice qp' xs.length ep' := by have := congrArg (fun (x : Array Value) => x[6]?) ee; simpa using this
    rw [← g4] at s1
    rw [← g5] at s2
    rw [← g6] at s3
    have := Expr_any D k A K N S qt qn qp et en ep ts ns xs W s1 s2 s3 s4 (F.2 _ (.head _)).1 (F.2 _ (.head _)).2 ((unhide HT).below hw h5) (Nat.le_trans h5 hw.size)
    rw [hxy] at this
    exact this
  have KT : Hid (∀ W, Below (w4.alloc (exBox A K N ⟨S.toArray⟩ qt qn qp nt nn np et en ep)).heap.size (w4.alloc (exBox A K N ⟨S.toArray⟩ qt qn qp nt nn np et en ep)) W → Calls Tryz.prog 13 #[.agg #[.int .i64 A, .int .i64 K, .int .i64 N, .string ⟨S.toArray⟩, .slice pt nt ct, .slice pn nn cn, .slice pp np cp], .agg #[.int .i64 A, .int .i64 K, .int .i64 N, .string ⟨S.toArray⟩, .slice qt nt et, .slice qn nn en, .slice qp np ep], .bool true] W fun e w' => e = .returned (.bool true) ∧ Below W.heap.size W w') := fun W hW =>
    kexpr_any D (k + 1) a _ _ W ((unhide VA).below (bon (bon (unhide HA) (unhide HB5)) hW)).1 ((unhide VU).below (bon (al1 _ _) hW)).1 (unhide WFX)
  rw [show rightX D (k + 1) ((64 : Nat) : Int) a = rightX D (k + 1) 64 a from rfl]
  by_cases hr : rightX D (k + 1) 64 a = true
  · rw [hr]
    have HX2 : Hid (joinAns (textOf (exS D (k + 1) a)) = .tuple #[.string X, .int .i64 Y]) := by
      show _ = _
      rw [ex_text hr]
      exact unhide HXY
    have HR := hide hr
    clear hr HXY
    obtain ⟨d0, d1, d2, d3, d4, d5, d6⟩ := exbox_cells (bon (unhide HB5) (unhide HB6))
    go_wp2_with fail
    refine (told_any D (k + 1) a _ _ ((unhide VA).below (bon (bon (unhide HA) (unhide HB5)) (unhide HB6))) ⟨_, unhide HR⟩ (by have := unhide za; omega)).mono ?_
    rintro _ w7 ⟨⟨u1, rfl, hu1⟩, b7⟩
    have HU1 := hide (SRow.of_owns hu1)
    obtain ⟨g2, cp2, rfl⟩ := owns_form hu1 (exS_pos' ⟨_, unhide HR⟩)
    have HB7 := hide (bon (unhide HB6) b7)
    clear hu1 b7 d0 d1 d2 d3 d4 d5 d6
    obtain ⟨d0, d1, d2, d3, d4, d5, d6⟩ := exbox_cells (unhide HB7)
    go_wp2_with fail
    refine (unhide TW _ (unhide HB7)).mono ?_
    rintro _ w8 ⟨rfl, b8⟩
    have HB8 := hide (bon (unhide HB7) b8)
    have HU8 := hide ((unhide HU1).below b8)
    clear b8 d0 d1 d2 d3 d4 d5 d6
    go_wp2_with fail
    refine (fits_yes X Y _ _ _ (unhide HX2) (unhide HU8) (by have := unhide za; have := exS_le D (k + 1) a; omega) (fun s hs => by have := unhide za; have := exS_short ⟨_, unhide HR⟩ hs; omega)).mono ?_
    rintro _ w9 ⟨rfl, b9⟩
    have HB9 := hide (bon (unhide HB8) b9)
    clear b9
    obtain ⟨d0, d1, d2, d3, d4, d5, d6⟩ := exbox_cells (unhide HB9)
    obtain ⟨e0, e1, e2, e3, e4, e5, e6⟩ := exbox_cells (bon (unhide HB5) (unhide HB9))
    go_wp2_with fail
    refine (unhide KT _ (unhide HB9)).mono ?_
    rintro _ w10 ⟨rfl, b10⟩
    have HB10 := hide (bon (unhide HB9) b10)
    clear b10 d0 d1 d2 d3 d4 d5 d6 e0 e1 e2 e3 e4 e5 e6
    go_wp2_with fail
    refine (unhide RN _ (bon (bon (unhide HA) (unhide HB5)) (unhide HB10))).mono ?_
    rintro _ w11 ⟨rfl, b11⟩
    go_wp2_with fail
    go_ret
    exact ⟨rfl, b11⟩
  · have hr' := (Bool.not_eq_true _).mp hr
    rw [hr']
    have hx : X = ⟨#[]⟩ ∧ Y = 1 := by
      have h := unhide HXY
      rw [exprAns, if_neg hr] at h
      simp [joinAns] at h
      exact ⟨h.1.symm, h.2.symm⟩
    obtain ⟨rfl, rfl⟩ := hx
    clear hr hr' HXY
    obtain ⟨d0, d1, d2, d3, d4, d5, d6⟩ := exbox_cells (unhide HB6)
    go_wp2_with fail
    refine (unhide TW _ (unhide HB6)).mono ?_
    rintro _ w8 ⟨rfl, b8⟩
    have HB8 := hide (bon (unhide HB6) b8)
    clear b8 d0 d1 d2 d3 d4 d5 d6
    go_wp2_with fail
    refine (fits_no _ _).mono ?_
    rintro _ w9 ⟨rfl, b9⟩
    have HB9 := hide (bon (unhide HB8) b9)
    clear b9
    obtain ⟨d0, d1, d2, d3, d4, d5, d6⟩ := exbox_cells (unhide HB9)
    obtain ⟨e0, e1, e2, e3, e4, e5, e6⟩ := exbox_cells (bon (unhide HB5) (unhide HB9))
    go_wp2_with fail
    refine (unhide KT _ (unhide HB9)).mono ?_
    rintro _ w10 ⟨rfl, b10⟩
    have HB10 := hide (bon (unhide HB9) b10)
    clear b10 d0 d1 d2 d3 d4 d5 d6 e0 e1 e2 e3 e4 e5 e6
    go_wp2_with fail
    refine (unhide RN _ (bon (bon (unhide HA) (unhide HB5)) (unhide HB10))).mono ?_
    rintro _ w11 ⟨rfl, b11⟩
    go_wp2_with fail
    go_ret
    exact ⟨rfl, b11⟩
end Go.Proofs.YtmpbbmfbgcpplaaGreatDoor
