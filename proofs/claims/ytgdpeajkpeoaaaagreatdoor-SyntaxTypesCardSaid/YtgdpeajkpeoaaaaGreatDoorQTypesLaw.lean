/-
  coillaw2.SyntaxTypes, walked.
-/
import Derived.Test.YtgdpeajkpeoaaaaGreatDoorQTypedG
import Derived.Test.YtgdpeajkpeoaaaaGreatDoorQTypesPure
import Derived.Test.YtgdpeajkpeoaaaaGreatDoorQRefE
import Derived.Test.YtgdpeajkpeoaaaaGreatDoorQRunsC
import Derived.Test.YtgdpeajkpeoaaaaGreatDoorQOwnG
namespace Go.Proofs.YtgdpeajkpeoaaaaGreatDoor
open Go Go.RowKit Lx

theorem spaced_mem {l : List Tok} {t : Tok} (h : t ∈ l) : (tokText t).length ≤ (spaced l).length := by
  induction l with
  | nil => cases h
  | cons x r ih =>
    rw [spaced_cons]
    simp only [List.length_cons, List.length_append]
    rcases List.mem_cons.1 h with rfl | h
    · omega
    · have := ih h; omega
theorem tyS_short {d : Nat} {t : Ty d} {s : Bs} (h : s ∈ tyS d t) : s.length ≤ 20 * szD d t := by
  obtain ⟨x, hx, rfl⟩ := List.mem_map.1 h
  have h1 := spaced_mem hx
  have h2 := toks_len d false t
  unfold fl at h2
  omega
theorem ans_tup {d : Nat} (t : Ty (d + 1)) : ∃ (X : ByteArray) (Y : Int), joinAns (typeAns d t) = .tuple #[.string X, .int .i64 Y] := by
  rcases typeAns d t with y | s
  · exact ⟨_, _, rfl⟩
  · exact ⟨_, _, rfl⟩
set_option maxHeartbeats 8000000 in
set_option maxRecDepth 100000 in
theorem SyntaxTypes_any (k : Nat) (a : Ty (k + 1)) (va : Value) (w : World) (hva : TyVal w k va a) (wa : WfD (k + 1) a) (ht : Tab w) (h5 : 4 ≤ w.heap.size) :
    Calls Tryz.prog 4 #[va] w fun e w' => e = .returned (.bool true) ∧ Below w.heap.size w w' := by
  have VA := hide hva
  obtain ⟨pn, pe, pp, cn, ce, cp, rfl, r1, r2, r3⟩ := hva
  have HA : Hid (Below w.heap.size w (w.alloc (tyBox a.1 ⟨a.2.1.toArray⟩ pn pe pp a.2.2.1.length a.2.2.2.1.length a.2.2.2.2.length cn ce cp))) := al1 _ _
  have HT := hide ht
  have WA := hide wa
  clear r1 r2 r3 ht wa
  have RN : Hid (∀ W, Below w.heap.size w W → Calls Tryz.prog 3 #[] W fun e w' => e = .returned (.bool true) ∧ Below w.heap.size w w') := fun W hW =>
    (SyntaxRuns_any W ((unhide HT).below hW h5) (Nat.le_trans h5 hW.size)).mono fun e w' ⟨he, hb⟩ => ⟨he, bon hW hb⟩
  go_enter Tryz.func4, Tryz.ntmps4
  go_wp2_with fail
  refine (size_any (k + 1) a _ _ 20000 _ rfl (TyVal.below (unhide VA) (unhide HA)) (unhide WA) (by decide) (by decide)).mono ?_
  rintro _ w3 ⟨⟨n1, rfl, hn1, hz1⟩, b3⟩
  have HB := hide b3
  clear b3
  by_cases c1 : n1 < 20000
  rotate_left
  · have c1' : (20000 : Int) ≤ (n1 : Int) := by omega
    go_wp2_with fail
    refine (unhide RN _ (bon (unhide HA) (unhide HB))).mono ?_
    rintro _ w4 ⟨rfl, b4⟩
    go_wp2_with fail
    go_ret
    exact ⟨rfl, b4⟩
  have c1' : (n1 : Int) < 20000 := by omega
  have z1 := hz1 c1
  have za : Hid (szD (k + 1) a ≤ 20000) := by show _ ≤ _; rw [← z1]; omega
  clear hz1 z1
  obtain ⟨d0, d1, d2, d3, d4⟩ := box_cells (unhide HB)
  go_wp2_with fail
  refine (own_any (k + 1) a _ _ (TyVal.below (unhide VA) (bon (unhide HA) (unhide HB))) (by have := unhide za; omega)).mono ?_
  rintro _ w4 ⟨⟨u, rfl, _, hu⟩, b4⟩
  have HU : TyVal w4 k (val5 u) a := hu w4 fun _ _ _ => rfl
  clear hu
  generalize val5 u = x at HU ⊢
  have VU := hide HU
  obtain ⟨qn, qe, qp, en, ee, ep, rfl, _, _, _⟩ := HU
  have HB4 := hide (bon (unhide HB) b4)
  clear b4 d0 d1 d2 d3 d4
  obtain ⟨d0, d1, d2, d3, d4⟩ := box_cells (unhide HB4)
  have HB5 : Hid (Below (w.alloc (tyBox a.1 ⟨a.2.1.toArray⟩ pn pe pp a.2.2.1.length a.2.2.2.1.length a.2.2.2.2.length cn ce cp)).heap.size (w.alloc (tyBox a.1 ⟨a.2.1.toArray⟩ pn pe pp a.2.2.1.length a.2.2.2.1.length a.2.2.2.2.length cn ce cp)) (w4.alloc (tyBox a.1 ⟨a.2.1.toArray⟩ qn qe qp a.2.2.1.length a.2.2.2.1.length a.2.2.2.2.length en ee ep))) := bon (unhide HB4) (al1 _ _)
  obtain ⟨e0, e1, e2, e3, e4⟩ := box_cells (unhide HB5)
  clear d0 d1 d2 d3 d4
  go_wp2_with fail
  refine (rright_any (k + 1) a _ 64 _ (TyVal.below (unhide VA) (bon (unhide HA) (unhide HB5))) (by have := unhide za; omega) (by decide)).mono ?_
  rintro _ w6 ⟨rfl, b6⟩
  have HB6 := hide b6
  clear b6 e0 e1 e2 e3 e4
  obtain ⟨X, Y, hXY⟩ := ans_tup a
  have HXY := hide hXY
  clear hXY
  have TW : Hid (∀ W, Below (w4.alloc (tyBox a.1 ⟨a.2.1.toArray⟩ qn qe qp a.2.2.1.length a.2.2.2.1.length a.2.2.2.2.length en ee ep)).heap.size (w4.alloc (tyBox a.1 ⟨a.2.1.toArray⟩ qn qe qp a.2.2.1.length a.2.2.2.1.length a.2.2.2.2.length en ee ep)) W → Calls Tryz.prog 11 #[.agg #[.int .i64 a.1, .string ⟨a.2.1.toArray⟩, .slice qn a.2.2.1.length en, .slice qe a.2.2.2.1.length ee, .slice qp a.2.2.2.2.length ep]] W fun e w' => e = .returned (.tuple #[.string X, .int .i64 Y]) ∧ Below W.heap.size W w') := fun W hW => by
    have hw : Below w.heap.size w W := bon (bon (unhide HA) (unhide HB5)) hW
    have := Type_any k _ a W (TyVal.below (unhide VU) (bon (al1 _ _) hW)) (fit_of_sz (by have := unhide za; omega)).1 (fit_of_sz (by have := unhide za; omega)).2 ((unhide HT).below hw h5) (Nat.le_trans h5 hw.size)
    rw [unhide HXY] at this
    exact this
  have KT : Hid (∀ W, Below (w4.alloc (tyBox a.1 ⟨a.2.1.toArray⟩ qn qe qp a.2.2.1.length a.2.2.2.1.length a.2.2.2.2.length en ee ep)).heap.size (w4.alloc (tyBox a.1 ⟨a.2.1.toArray⟩ qn qe qp a.2.2.1.length a.2.2.2.1.length a.2.2.2.2.length en ee ep)) W → Calls Tryz.prog 27 #[.agg #[.int .i64 a.1, .string ⟨a.2.1.toArray⟩, .slice qn a.2.2.1.length en, .slice qe a.2.2.2.1.length ee, .slice qp a.2.2.2.2.length ep], .agg #[.int .i64 a.1, .string ⟨a.2.1.toArray⟩, .slice pn a.2.2.1.length cn, .slice pe a.2.2.2.1.length ce, .slice pp a.2.2.2.2.length cp]] W fun e w' => e = .returned (.bool true) ∧ Below W.heap.size W w') := fun W hW =>
    ktype_any (k + 1) a a _ _ W true (by simp) (TyVal.below (unhide VU) (bon (al1 _ _) hW)) (TyVal.below (unhide VA) (bon (bon (unhide HA) (unhide HB5)) hW)) (unhide WA) (unhide WA)
  rw [show rightD (k + 1) ((64 : Nat) : Int) a = rightD (k + 1) 64 a from rfl]
  by_cases hr : rightD (k + 1) 64 a = true
  · rw [hr]
    have HX2 : Hid (joinAns (textOf (tyS (k + 1) a)) = .tuple #[.string X, .int .i64 Y]) := by
      show _ = _
      rw [type_text (by rw [← rightD_succ]; exact hr)]
      exact unhide HXY
    have HR := hide hr
    clear hr HXY
    obtain ⟨d0, d1, d2, d3, d4⟩ := box_cells (bon (unhide HB5) (unhide HB6))
    go_wp2_with fail
    refine (typed_any (k + 1) a _ _ (TyVal.below (unhide VA) (bon (bon (unhide HA) (unhide HB5)) (unhide HB6))) ⟨_, unhide HR⟩ (by have := unhide za; omega)).mono ?_
    rintro _ w7 ⟨⟨u1, rfl, hu1, hpos, hlen⟩, b7⟩
    have HU1 := hide (SRow.of_owns hu1)
    obtain ⟨g2, cp2, rfl⟩ := owns_form hu1 hpos
    have HB7 := hide (bon (unhide HB6) b7)
    clear hu1 b7 d0 d1 d2 d3 d4
    obtain ⟨d0, d1, d2, d3, d4⟩ := box_cells (unhide HB7)
    go_wp2_with fail
    refine (unhide TW _ (unhide HB7)).mono ?_
    rintro _ w8 ⟨rfl, b8⟩
    have HB8 := hide (bon (unhide HB7) b8)
    have HU8 := hide ((unhide HU1).below b8)
    clear b8 d0 d1 d2 d3 d4
    go_wp2_with fail
    refine (fits_yes X Y _ _ _ (unhide HX2) (unhide HU8) (by have := unhide za; have := tyS_le (k + 1) a; omega) (fun s hs => by have := unhide za; have := tyS_short hs; omega)).mono ?_
    rintro _ w9 ⟨rfl, b9⟩
    have HB9 := hide (bon (unhide HB8) b9)
    clear b9
    obtain ⟨d0, d1, d2, d3, d4⟩ := box_cells (unhide HB9)
    obtain ⟨e0, e1, e2, e3, e4⟩ := box_cells (bon (unhide HB5) (unhide HB9))
    go_wp2_with fail
    refine (unhide KT _ (unhide HB9)).mono ?_
    rintro _ w10 ⟨rfl, b10⟩
    have HB10 := hide (bon (unhide HB9) b10)
    clear b10 d0 d1 d2 d3 d4 e0 e1 e2 e3 e4
    go_wp2_with fail
    refine (unhide RN _ (bon (bon (unhide HA) (unhide HB5)) (unhide HB10))).mono ?_
    rintro _ w11 ⟨rfl, b11⟩
    go_wp2_with fail
    go_ret
    exact ⟨rfl, b11⟩
  · have hr' := (Bool.not_eq_true _).mp hr
    rw [hr']
    have hx : X = ⟨#[]⟩ ∧ Y = 1 := by
      have h := unhide HXY
      rw [typeAns, if_neg (by rw [← rightD_succ]; exact hr)] at h
      simp [joinAns] at h
      exact ⟨h.1.symm, h.2.symm⟩
    obtain ⟨rfl, rfl⟩ := hx
    clear hr hr' HXY
    obtain ⟨d0, d1, d2, d3, d4⟩ := box_cells (unhide HB6)
    go_wp2_with fail
    refine (unhide TW _ (unhide HB6)).mono ?_
    rintro _ w8 ⟨rfl, b8⟩
    have HB8 := hide (bon (unhide HB6) b8)
    clear b8 d0 d1 d2 d3 d4
    go_wp2_with fail
    refine (fits_no _ _).mono ?_
    rintro _ w9 ⟨rfl, b9⟩
    have HB9 := hide (bon (unhide HB8) b9)
    clear b9
    obtain ⟨d0, d1, d2, d3, d4⟩ := box_cells (unhide HB9)
    obtain ⟨e0, e1, e2, e3, e4⟩ := box_cells (bon (unhide HB5) (unhide HB9))
    go_wp2_with fail
    refine (unhide KT _ (unhide HB9)).mono ?_
    rintro _ w10 ⟨rfl, b10⟩
    have HB10 := hide (bon (unhide HB9) b10)
    clear b10 d0 d1 d2 d3 d4 e0 e1 e2 e3 e4
    go_wp2_with fail
    refine (unhide RN _ (bon (bon (unhide HA) (unhide HB5)) (unhide HB10))).mono ?_
    rintro _ w11 ⟨rfl, b11⟩
    go_wp2_with fail
    go_ret
    exact ⟨rfl, b11⟩
end Go.Proofs.YtgdpeajkpeoaaaaGreatDoor
