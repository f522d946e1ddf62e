import Derived.Test.YtmpbbmfbgcpplaaGreatDoorQListG
import Derived.Test.YtmpbbmfbgcpplaaGreatDoorQRefE
import Derived.Test.YtmpbbmfbgcpplaaGreatDoorQRunsC
import Derived.Test.YtmpbbmfbgcpplaaGreatDoorQOwnSG
import Derived.Test.YtmpbbmfbgcpplaaGreatDoorQKX
import Derived.Test.YtmpbbmfbgcpplaaGreatDoorQRStG
import Derived.Test.YtmpbbmfbgcpplaaGreatDoorQTokensPure
set_option maxHeartbeats 1000000
set_option maxRecDepth 100000
namespace Go.Proofs.YtmpbbmfbgcpplaaGreatDoor
open Go Go.RowKit Lx
theorem ansS_tup {D d m : Nat} (ss : List (St D d m)) : ∃ (X : ByteArray) (Y : Int), zbk (zfh D d m ss) = .tuple #[.string X, .int .i64 Y] := by
 rcases zfh D d m ss with y | s
 ·exact ⟨_, _, rfl⟩
 ·exact ⟨_, _, rfl⟩
theorem zkg (D d m : Nat) (ss : List (St D d m)) (p : Option Addr) (c : Nat) (w : World) (hv : StRow w D d m (.slice p ss.length c) ss) (wf : StWf D d m ss) (ht : Tab w) (h5 : 4 ≤ w.heap.size) :
  Calls Tryz.prog 4 #[.slice p ss.length c] w fun e w' => e = .returned (.bool true) ∧ Below w.heap.size w w' := by
 have HV := za3 hv
 have HW := za3 wf
 have HT := za3 ht
 clear hv wf ht
 obtain ⟨n, hn⟩ : ∃ n, n = ss.length := ⟨_, rfl⟩
 have HN := za3 hn
 rw [← hn] at HV ⊢
 clear hn
 have RN : Hid (∀ W, Below w.heap.size w W → Calls Tryz.prog 7 #[] W fun e w' => e = .returned (.bool true) ∧ Below w.heap.size w w') := fun W hW =>
  (SyntaxRuns_any W ((za0 HT).below hW h5) (Nat.le_trans h5 hW.size)).mono fun e w' ⟨he, hb⟩ => ⟨he, bon hW hb⟩
 have SZ : Hid (Calls Tryz.prog 14 #[.slice p n c, .int .i64 20000] w fun e w' => (∃ k : Nat, e = .returned (.int .i64 (k : Nat)) ∧ k ≤ 20000 + 422212465053696 ∧ (k < 20000 → k = zey D d m ss)) ∧ Below w.heap.size w w') := by
  have h := zki D d m ss p c w (by rw [← za0 HN]; exact za0 HV) (za0 HW) 20000 20000 w rfl (Below.refl _ _) (by decide) (by decide)
  rw [← za0 HN] at h
  exact h
 go_enter Tryz.func4, Tryz.ntmps4
 go_wp2_with fail
 refine (za0 SZ).mono ?_
 rintro _ w3 ⟨⟨n1, rfl, hn1, hz1⟩, b3⟩
 have HB := za3 b3
 clear b3 SZ
 by_cases c1 : n1 < 20000
 rotate_left
 ·have c1' : (20000 : Int) ≤ (n1 : Int) := by omega
  go_wp2_with fail
  refine (za0 RN _ (za0 HB)).mono ?_
  rintro _ w4 ⟨rfl, b4⟩
  go_wp2_with fail
  go_ret
  exact ⟨rfl, b4⟩
 have c1' : (n1 : Int) < 20000 := by omega
 have z1 := hz1 c1
 have za : Hid (zey D d m ss ≤ 20000) := by show _ ≤ _; rw [← z1]; omega
 clear hz1 z1
 have FIT : Hid (zf0 D d m ss) := zkl (by have := za0 za; omega) (za0 HW)
 have ROW : Hid (∀ W, Below w.heap.size w W → StRow W D d m (.slice p n c) ss) := fun W hW => StRow.below hW m (za0 HV)
 go_wp2_with fail
 have OW : Hid (Calls Tryz.prog 15 #[.slice p n c] w3 fun e w' => (∃ (q : Option Addr) (cq : Nat), e = .returned (.slice q n cq) ∧ StRow w' D d m (.slice q n cq) ss) ∧ Below w3.heap.size w3 w') := by
  have h := owns_any D d m ss p c w3 (by rw [← za0 HN]; exact za0 ROW _ (za0 HB)) (by have := za0 za; omega)
  unfold zg7 at h
  rw [← za0 HN] at h
  exact h.mono fun e w' ⟨⟨q, cq, he, hs⟩, hb⟩ => ⟨⟨q, cq, he, hs w' fun _ _ _ => rfl⟩, hb⟩
 refine (za0 OW).mono ?_
 rintro _ w4 ⟨⟨q, cq, rfl, hq⟩, b4⟩
 have HQ := za3 hq
 have HB4 := za3 (bon (za0 HB) b4)
 clear hq b4 HB OW
 have RR : Hid (Calls Tryz.prog 16 #[.slice p n c, .int .i64 64] w4 fun e w' => e = .returned (.bool (zb4 D d m 64 ss)) ∧ Below w4.heap.size w4 w') := by
  have h := zla D d m ss p c 64 w4 (by rw [← za0 HN]; exact za0 ROW _ (za0 HB4)) (by have := za0 za; omega) (za0 FIT) (by decide) (by decide)
  rw [← za0 HN] at h
  exact h
 go_wp2_with fail
 refine (za0 RR).mono ?_
 rintro _ w6 ⟨rfl, b6⟩
 have HB6 := za3 b6
 have HW6 := za3 (bon (za0 HB4) b6)
 clear b6 RR
 obtain ⟨X, Y, hXY⟩ := ansS_tup ss
 have HXY := za3 hXY
 clear hXY
 have TW : Hid (∀ W, Below w4.heap.size w4 W → Calls Tryz.prog 18 #[.slice q n cq] W fun e w' => e = .returned (.tuple #[.string X, .int .i64 Y]) ∧ Below W.heap.size W w') := fun W hW => by
  have hw : Below w.heap.size w W := bon (za0 HB4) hW
  have h := Stmts_any D d m q cq ss W (by rw [← za0 HN]; exact StRow.below hW m (za0 HQ)) (za0 FIT) ((za0 HT).below hw h5) (Nat.le_trans h5 hw.size)
  rw [← za0 HN, za0 HXY] at h
  exact h
 have KT : Hid (∀ W, Below w4.heap.size w4 W → Calls Tryz.prog 19 #[.slice p n c, .slice q n cq, .bool true] W fun e w' => e = .returned (.bool true) ∧ Below W.heap.size W w') := fun W hW => by
  have hw : Below w.heap.size w W := bon (za0 HB4) hW
  have h := kstmts_any D d m ss p q c cq W (by rw [← za0 HN]; exact za0 ROW _ hw) (by rw [← za0 HN]; exact StRow.below hW m (za0 HQ)) (za0 HW)
  rw [← za0 HN] at h
  exact h
 by_cases hr : zb4 D d m 64 ss = true
 ·rw [hr]
  have HX2 : Hid (zbk (zex (stS D d m ss)) = .tuple #[.string X, .int .i64 Y]) := by
   show _ = _
   rw [st_text hr]
   exact za0 HXY
  have HR := za3 hr
  clear hr HXY
  have LI : Hid (Leaves 17 #[.slice p n c] w6 (stS D d m ss)) := by
   have h := listed_any D d m ss p c w6 (by rw [← za0 HN]; exact za0 ROW _ (za0 HW6)) ⟨_, za0 HR⟩ (by have := za0 za; omega)
   rw [← za0 HN] at h
   exact h
  go_wp2_with fail
  refine (za0 LI).mono ?_
  rintro _ w7 ⟨⟨u1, rfl, hu1⟩, b7⟩
  have HU1 := za3 (SRow.of_owns hu1)
  obtain ⟨pu, cu, rfl, _⟩ := zaq hu1
  have HB7 := za3 (bon (za0 HB6) b7)
  clear hu1 b7 LI
  go_wp2_with fail
  refine (za0 TW _ (za0 HB7)).mono ?_
  rintro _ w8 ⟨rfl, b8⟩
  have HB8 := za3 (bon (za0 HB7) b8)
  have HU8 := za3 ((za0 HU1).below b8)
  clear b8
  go_wp2_with fail
  refine (fits_yes X Y _ _ _ (za0 HX2) (za0 HU8) (by have := za0 za; have := stS_le D d m ss; omega) (fun s hs => by have := za0 za; have := stS_short (za0 HR) hs; omega)).mono ?_
  rintro _ w9 ⟨rfl, b9⟩
  have HB9 := za3 (bon (za0 HB8) b9)
  clear b9
  go_wp2_with fail
  refine (za0 KT _ (za0 HB9)).mono ?_
  rintro _ w10 ⟨rfl, b10⟩
  have HB10 := za3 (bon (za0 HB9) b10)
  clear b10
  go_wp2_with fail
  refine (za0 RN _ (bon (za0 HB4) (za0 HB10))).mono ?_
  rintro _ w11 ⟨rfl, b11⟩
  go_wp2_with fail
  go_ret
  exact ⟨rfl, b11⟩
 ·have hr' := (Bool.not_eq_true _).mp hr
  rw [hr']
  have hx : X = ⟨#[]⟩ ∧ Y = 1 := by
   have h := za0 HXY
   rw [zfh, if_neg hr] at h
   simp [zbk] at h
   exact ⟨h.1.symm, h.2.symm⟩
  obtain ⟨rfl, rfl⟩ := hx
  clear hr hr' HXY
  go_wp2_with fail
  refine (za0 TW _ (za0 HB6)).mono ?_
  rintro _ w8 ⟨rfl, b8⟩
  have HB8 := za3 (bon (za0 HB6) b8)
  clear b8
  go_wp2_with fail
  refine (fits_no _ _).mono ?_
  rintro _ w9 ⟨rfl, b9⟩
  have HB9 := za3 (bon (za0 HB8) b9)
  clear b9
  go_wp2_with fail
  refine (za0 KT _ (za0 HB9)).mono ?_
  rintro _ w10 ⟨rfl, b10⟩
  have HB10 := za3 (bon (za0 HB9) b10)
  clear b10
  go_wp2_with fail
  refine (za0 RN _ (bon (za0 HB4) (za0 HB10))).mono ?_
  rintro _ w11 ⟨rfl, b11⟩
  go_wp2_with fail
  go_ret
  exact ⟨rfl, b11⟩
end Go.Proofs.YtmpbbmfbgcpplaaGreatDoor
