import Derived.Test.YtmpbbmfbgcpplaaGreatDoorQXRef
import Derived.Test.YtmpbbmfbgcpplaaGreatDoorQStG
import Derived.Test.YtmpbbmfbgcpplaaGreatDoorQSizeG
import Derived.Deep.DeepCutAuto
import Derived.Deep.CutBlock
import Derived.Test.YtmpbbmfbgcpplaaGreatDoorQTokensPure
set_option maxHeartbeats 4000000
set_option maxRecDepth 100000
namespace Go.Proofs.YtmpbbmfbgcpplaaGreatDoor
open Go Go.RowKit Lx
def refS1 (room K : Int) (x : Nat) (zx : Bool) : Bool := !decide (room = 0) && decide (1 ≤ K) && decide (K ≤ 7) && decide (x = 1) && zx
def zl9 (K : Int) : Bool := decide (K = 1) || decide (K = 2)
def zi5 (K : Int) (S : Bs) (t : Nat) (zs zt : Bool) : Bool := (zl9 K == !S.isEmpty) && (!zl9 K || zs) && decide (t ≤ 1) && (!decide (t = 1) || (decide (K = 1) && zt))
def refS3 (K : Int) (b e : Nat) (zb ze : Bool) : Bool := (decide (b = 0) || decide (K = 4) || decide (K = 5)) && (decide (e = 0) || decide (K = 4)) && zb && ze
def RSt (w : World) (p : Option Addr) (k : Nat) (room : Int) (z : Bool) : Prop :=
 ∃ (g o : Nat) (A K : Int) (S : Bs) (pt px pb pe : Option Addr) (t x b e ct cx cb ce : Nat) (zx zs zt zb ze : Bool), p = some ⟨g, o, none⟩ ∧
  (w.cell? ⟨g, o + k * 7, none⟩ = some (.int .i64 A) ∧ w.cell? ⟨g, o + k * 7 + 1, none⟩ = some (.int .i64 K) ∧ w.cell? ⟨g, o + k * 7 + 2, none⟩ = some (.string ⟨S.toArray⟩) ∧ w.cell? ⟨g, o + k * 7 + 3, none⟩ = some (.slice pt t ct) ∧ w.cell? ⟨g, o + k * 7 + 4, none⟩ = some (.slice px x cx) ∧ w.cell? ⟨g, o + k * 7 + 5, none⟩ = some (.slice pb b cb) ∧ w.cell? ⟨g, o + k * 7 + 6, none⟩ = some (.slice pe e ce)) ∧
  (x = 1 → ∃ (g o : Nat) (A' K' N' : Int) (S' : ByteArray) (p1 p2 p3 : Option Addr) (n1 n2 n3 c1 c2 c3 : Nat), px = some ⟨g, o, none⟩ ∧ (w.cell? ⟨g, o, none⟩ = some (.int .i64 A') ∧ w.cell? ⟨g, o + 1, none⟩ = some (.int .i64 K') ∧ w.cell? ⟨g, o + 2, none⟩ = some (.int .i64 N') ∧ w.cell? ⟨g, o + 3, none⟩ = some (.string S') ∧ w.cell? ⟨g, o + 4, none⟩ = some (.slice p1 n1 c1) ∧ w.cell? ⟨g, o + 5, none⟩ = some (.slice p2 n2 c2) ∧ w.cell? ⟨g, o + 6, none⟩ = some (.slice p3 n3 c3)) ∧
   ∀ W, Below w.heap.size w W → Calls Tryz.prog 9 #[.agg #[.int .i64 A', .int .i64 K', .int .i64 N', .string S', .slice p1 n1 c1, .slice p2 n2 c2, .slice p3 n3 c3], .int .i64 64] W fun e w' => e = .returned (.bool zx) ∧ Below W.heap.size W w') ∧
  (∀ W, Calls Tryz.prog 61 #[.string ⟨S.toArray⟩] W fun e w' => e = .returned (.bool zs) ∧ Below W.heap.size W w') ∧
  (t = 1 → ∃ (g o : Nat) (K' : Int) (S' : ByteArray) (p1 p2 p3 : Option Addr) (n1 n2 n3 c1 c2 c3 : Nat), pt = some ⟨g, o, none⟩ ∧ (w.cell? ⟨g, o, none⟩ = some (.int .i64 K') ∧ w.cell? ⟨g, o + 1, none⟩ = some (.string S') ∧ w.cell? ⟨g, o + 2, none⟩ = some (.slice p1 n1 c1) ∧ w.cell? ⟨g, o + 3, none⟩ = some (.slice p2 n2 c2) ∧ w.cell? ⟨g, o + 4, none⟩ = some (.slice p3 n3 c3)) ∧
   ∀ W, Below w.heap.size w W → Calls Tryz.prog 45 #[.agg #[.int .i64 K', .string S', .slice p1 n1 c1, .slice p2 n2 c2, .slice p3 n3 c3], .int .i64 64] W fun e w' => e = .returned (.bool zt) ∧ Below W.heap.size W w') ∧
  (0 < room → ∀ W, Below w.heap.size w W → Calls Tryz.prog 16 #[.slice pb b cb, .int .i64 (room - 1)] W fun e w' => e = .returned (.bool zb) ∧ Below W.heap.size W w') ∧
  (0 < room → ∀ W, Below w.heap.size w W → Calls Tryz.prog 16 #[.slice pe e ce, .int .i64 (room - 1)] W fun e w' => e = .returned (.bool ze) ∧ Below W.heap.size W w') ∧
  z = (refS1 room K x zx && zi5 K S t zs zt && refS3 K b e zb ze)
theorem wrap_pred {room : Int} (h0 : 0 < room) (h1 : room ≤ 1000) : IntKind.i64.wrap (room - 1) = room - 1 := by rw [IntKind.wrap_i64]; omega
theorem rst_run (p : Option Addr) (n c : Nat) (room : Int) (w : World) (z : Nat → Bool) (hn : n ≤ 1000000) (h0 : 0 ≤ room) (h1 : room ≤ 1000) (hP : ∀ k, k < n → RSt w p k room (z k)) :
  Calls Tryz.prog 16 #[.slice p n c, .int .i64 room] w fun e w' => e = .returned (.bool (zkq n z)) ∧ Below w.heap.size w w' := by
 have HP := za3 hP
 obtain ⟨ans, hans⟩ : ∃ ans, ans = zkq n z := ⟨_, rfl⟩
 have HANS := za3 hans
 rw [← hans]
 clear hP hans
 go_enter Tryz.func16, Tryz.ntmps16
 go_wp2
 go_loopw [5] (fun i wr => ∃ k : Nat, i = .int .i64 k ∧ k ≤ n ∧ Hid (zkq k z = true) ∧ Hid (Below w.heap.size w wr)) (fun i _ => n - (intOf i).toNat)
 case atStart => exact ⟨0, rfl, by omega, rfl, Below.refl _ _⟩
 case round =>
  obtain ⟨k, rfl, hk, HK, HB⟩ := hrel
  by_cases hlt : k < n
  rotate_left
  ·obtain rfl : k = n := by omega
   have hlt' : ¬ (k : Int) < (k : Int) := by omega
   have HF : Hid (ans = true) := by show _ = _; rw [za0 HANS]; exact za0 HK
   go_wp2
   go_ret
   exact ⟨by rw [za0 HF]; rfl, za0 HB⟩
  have hlt' : (k : Int) < (n : Int) := by omega
  obtain ⟨g, o, A, K, S, pt, px, pb, pe, t, x, b, e, ct, cx, cb, ce, zx, zs, zt, zb, ze, rfl, ⟨a0, a1, a2, a3, a4, a5, a6⟩, cX, cS, cT, cB, cE, hz⟩ := za0 HP k hlt
  obtain ⟨X, hX⟩ : ∃ X : ByteArray, X = ⟨S.toArray⟩ := ⟨_, rfl⟩
  have HXE : Hid (S = [] → X = ⟨#[]⟩) := fun h => by rw [hX, h]
  have HXN : Hid (S ≠ [] → (X.toList == []) = false) := fun h => by
   have h2 := bs_ne h
   rw [← hX] at h2
   simpa using h2
  rw [← hX] at a2 cS
  clear hX
  have hb := za0 HB
  have e0 := (hb.cell (p := ⟨g, _, none⟩) (za2 a0)).trans a0
  have e1 := (hb.cell (p := ⟨g, _, none⟩) (za2 a1)).trans a1
  have e2 := (hb.cell (p := ⟨g, _, none⟩) (za2 a2)).trans a2
  have e3 := (hb.cell (p := ⟨g, _, none⟩) (za2 a3)).trans a3
  have e4 := (hb.cell (p := ⟨g, _, none⟩) (za2 a4)).trans a4
  have e5 := (hb.cell (p := ⟨g, _, none⟩) (za2 a5)).trans a5
  have e6 := (hb.cell (p := ⟨g, _, none⟩) (za2 a6)).trans a6
  obtain ⟨F1, hF1⟩ : ∃ F, F = refS1 room K x zx := ⟨_, rfl⟩
  obtain ⟨F2, hF2⟩ : ∃ F, F = zi5 K S t zs zt := ⟨_, rfl⟩
  obtain ⟨F3, hF3⟩ : ∃ F, F = refS3 K b e zb ze := ⟨_, rfl⟩
  rw [← hF1, ← hF2, ← hF3] at hz
  have HF1 := za3 hF1
  have HF2 := za3 hF2
  have HF3 := za3 hF3
  have HZ := za3 hz
  have HNO : Hid (z k = false → ans = false) := fun h => by rw [za0 HANS]; exact allB_no hlt h
  have CX := za3 cX
  have CS := za3 cS
  have CT := za3 cT
  have CB := za3 cB
  have CE := za3 cE
  have HA : Hid (Below w.heap.size w (wr.alloc (sBox A K X pt px pb pe t x b e ct cx cb ce))) := hb.alloc hb.size _
  clear a0 a1 a2 a3 a4 a5 a6 cX cS cT cB cE hF1 hF2 hF3 hz hb HP
  go_upto_region 5 with fail
  go_cut [43] (fun c wx => ∃ Wy : World, c = .bool (!F1) ∧ Wy = wx ∧ Hid (Below (wr.alloc (sBox A K X pt px pb pe t x b e ct cx cb ce)).heap.size (wr.alloc (sBox A K X pt px pb pe t x b e ct cx cb ce)) Wy))
  case first =>
   clear HXE HXN HF2 HF3 CS CT CB CE HZ HNO HANS HK HB e0 e1 e2 e3 e4 e5 e6
   by_cases c0 : room = 0
   ·subst c0
    have HV : Hid (F1 = false) := by show _ = _; rw [za0 HF1, refS1]; simp
    clear HF1 CX
    as_aux_lemma =>
     go_wp2_with fail
     go_meet
     case rel => exact ⟨_, by rw [za0 HV]; rfl, rfl, Below.refl _ _⟩
   obtain ⟨c0a, c0b⟩ := beqf c0
   by_cases c1 : K < 1
   ·have HV : Hid (F1 = false) := by show _ = _; rw [za0 HF1, refS1, decide_eq_false (show ¬ 1 ≤ K by omega)]; simp
    clear HF1 CX
    as_aux_lemma =>
     go_wp2_with fail
     go_meet
     case rel => exact ⟨_, by rw [za0 HV]; rfl, rfl, Below.refl _ _⟩
   by_cases c2 : 7 < K
   ·have HV : Hid (F1 = false) := by show _ = _; rw [za0 HF1, refS1, decide_eq_false (show ¬ K ≤ 7 by omega)]; simp
    clear HF1 CX
    as_aux_lemma =>
     go_wp2_with fail
     go_meet
     case rel => exact ⟨_, by rw [za0 HV]; rfl, rfl, Below.refl _ _⟩
   by_cases c3 : x = 1
   rotate_left
   ·obtain ⟨c3a, c3b⟩ := beqf (show (x : Int) ≠ 1 by omega)
    have HV : Hid (F1 = false) := by show _ = _; rw [za0 HF1, refS1, decide_eq_false c3]; simp
    clear HF1 CX c3
    as_aux_lemma =>
     go_wp2_with fail
     go_meet
     case rel => exact ⟨_, by rw [za0 HV]; rfl, rfl, Below.refl _ _⟩
   subst c3
   have HV : Hid (F1 = zx) := by
    show _ = _
    rw [za0 HF1, refS1, decide_eq_true (show 1 ≤ K by omega), decide_eq_true (show K ≤ 7 by omega), decide_eq_false c0]
    simp
   obtain ⟨gx, ox, A', K', N', S', p1, p2, p3, n1, n2, n3, c1', c2', c3', rfl, ⟨x0, x1, x2, x3, x4, x5, x6⟩, RX⟩ := za0 CX rfl
   have hA := za0 HA
   have y0 := (hA.cell (p := ⟨gx, _, none⟩) (za2 x0)).trans x0
   have y1 := (hA.cell (p := ⟨gx, _, none⟩) (za2 x1)).trans x1
   have y2 := (hA.cell (p := ⟨gx, _, none⟩) (za2 x2)).trans x2
   have y3 := (hA.cell (p := ⟨gx, _, none⟩) (za2 x3)).trans x3
   have y4 := (hA.cell (p := ⟨gx, _, none⟩) (za2 x4)).trans x4
   have y5 := (hA.cell (p := ⟨gx, _, none⟩) (za2 x5)).trans x5
   have y6 := (hA.cell (p := ⟨gx, _, none⟩) (za2 x6)).trans x6
   have CR := za3 (RX _ hA)
   clear HF1 CX RX x0 x1 x2 x3 x4 x5 x6 hA c0
   cases zx
   all_goals
    as_aux_lemma =>
     go_wp2_with (go_at_call 9; refine (za0 CR).mono ?_; clear CR; rintro y w1 ⟨rfl, hb1⟩)
     go_meet
     case rel => exact ⟨_, by rw [za0 HV]; rfl, rfl, hb1⟩
  case rest =>
   obtain ⟨Wy, rfl, rfl, HB1⟩ := hcut
   clear CX
   obtain ⟨d0, d1, d2, d3, d4, d5, d6⟩ := zau (za0 HB1)
   cases F1
   ·have HV : Hid (ans = false) := za0 HNO (by rw [za0 HZ]; rfl)
    rw [show (!false) = true from rfl]
    as_aux_lemma =>
     go_wp2_with fail
     go_ret
     exact ⟨by rw [za0 HV]; rfl, zcd (za0 HA) (za0 HB1)⟩
   rw [show (!true) = false from rfl]
   have hK : 1 ≤ K ∧ K ≤ 7 ∧ 0 < room := by
    have h := za0 HF1
    unfold refS1 at h
    have h2 := h.symm
    simp only [Bool.and_eq_true, decide_eq_true_eq, Bool.not_eq_true', decide_eq_false_iff_not] at h2
    omega
   obtain ⟨k1, k2, hr⟩ := hK
   clear HF1
   go_upto_region 7 with fail
   go_cut [7] (fun c wx => c = .bool (zl9 K) ∧ Wy = wx)
   case first =>
    clear HXE HXN HF2 HF3 CS CT CB CE HZ HNO HANS HK HB e0 e1 e2 e3 e4 e5 e6
    have hk : K = 1 ∨ K = 2 ∨ (K ≠ 1 ∧ K ≠ 2) := by omega
    rcases hk with rfl | rfl | ⟨h3, h4⟩
    ·go_wp2_with fail
     go_meet
     case rel => exact ⟨rfl, rfl⟩
    ·go_wp2_with fail
     go_meet
     case rel => exact ⟨rfl, rfl⟩
    ·have HN : Hid (zl9 K = false) := by show _ = _; simp [zl9, h3, h4]
     obtain ⟨h3a, h3b⟩ := beqf h3
     obtain ⟨h4a, h4b⟩ := beqf h4
     as_aux_lemma =>
      go_wp2_with fail
      go_meet
      case rel => exact ⟨by rw [za0 HN], rfl⟩
   case rest =>
    obtain ⟨rfl, rfl⟩ := hcut
    obtain ⟨nm, hnm⟩ : ∃ nm, nm = zl9 K := ⟨_, rfl⟩
    rw [← hnm]
    have HNM := za3 hnm
    clear hnm
    go_upto_region 8 with fail
    go_cut [90] (fun c wx => ∃ Wz : World, c = .bool (!F2) ∧ Wz = wx ∧ Hid (Below Wy.heap.size Wy Wz))
    case first =>
     clear HF3 CB CE HZ HNO HANS HK e0 e1 e2 e3 e4 e5 e6 d0 d1 d4 d5 d6
     obtain ⟨d0, d1, d2, d3, d4, d5, d6⟩ := zau (za0 HB1)
     have hS : S = [] ∨ S ≠ [] := Classical.em _
     rcases hS with hS | hS
     ·have HSe : Hid (S.isEmpty = true) := by show _ = _; rw [hS]; rfl
      obtain rfl := za0 HXE hS
      clear HXE HXN hS
      cases nm
      ·by_cases c1 : t = 0
       ·subst c1
        have HV : Hid (F2 = true) := by show _ = _; rw [za0 HF2, zi5, za0 HSe, ← za0 HNM]; rfl
        clear HF2 CS CT HSe HNM
        as_aux_lemma =>
         go_wp2_with fail
         go_meet
         case rel => exact ⟨_, by rw [za0 HV]; rfl, rfl, Below.refl _ _⟩
       by_cases c2 : t = 1
       ·subst c2
        have hk1 : K ≠ 1 := fun h => by have := za0 HNM; rw [h] at this; cases this
        have HV : Hid (F2 = false) := by show _ = _; rw [za0 HF2, zi5, decide_eq_false hk1]; simp
        obtain ⟨h3a, h3b⟩ := beqf hk1
        clear HF2 CS CT HSe HNM hk1
        as_aux_lemma =>
         go_wp2_with fail
         go_meet
         case rel => exact ⟨_, by rw [za0 HV]; rfl, rfl, Below.refl _ _⟩
       have c3 : (1 : Int) < (t : Int) := by omega
       have HV : Hid (F2 = false) := by show _ = _; rw [za0 HF2, zi5, decide_eq_false (show ¬ t ≤ 1 by omega)]; simp
       clear HF2 CS CT HSe HNM c1 c2
       as_aux_lemma =>
        go_wp2_with fail
        go_meet
        case rel => exact ⟨_, by rw [za0 HV]; rfl, rfl, Below.refl _ _⟩
      ·have HV : Hid (F2 = false) := by show _ = _; rw [za0 HF2, zi5, za0 HSe, ← za0 HNM]; rfl
       clear HF2 CS CT HSe HNM
       as_aux_lemma =>
        go_wp2_with fail
        go_meet
        case rel => exact ⟨_, by rw [za0 HV]; rfl, rfl, Below.refl _ _⟩
     ·have HSe : Hid (S.isEmpty = false) := by
       show _ = _
       cases S with
       | nil => exact absurd rfl hS
       | cons => rfl
      have hne := za0 HXN hS
      clear HXE HXN hS
      cases nm
      ·have HV : Hid (F2 = false) := by show _ = _; rw [za0 HF2, zi5, za0 HSe, ← za0 HNM]; rfl
       clear HF2 CS CT HSe HNM
       as_aux_lemma =>
        go_wp2_with fail
        go_meet
        case rel => exact ⟨_, by rw [za0 HV]; rfl, rfl, Below.refl _ _⟩
      ·cases zs
       ·have HV : Hid (F2 = false) := by show _ = _; rw [za0 HF2, zi5, ← za0 HNM]; simp
        clear HF2 CT HSe HNM
        as_aux_lemma =>
         go_wp2_with (go_at_call 61; refine (za0 CS _).mono ?_; clear CS; rintro y w1 ⟨rfl, hb1⟩)
         go_meet
         case rel => exact ⟨_, by rw [za0 HV]; rfl, rfl, hb1⟩
       by_cases c1 : t = 0
       ·subst c1
        have HV : Hid (F2 = true) := by show _ = _; rw [za0 HF2, zi5, za0 HSe, ← za0 HNM]; rfl
        clear HF2 CT HSe HNM
        as_aux_lemma =>
         go_wp2_with (go_at_call 61; refine (za0 CS _).mono ?_; clear CS; rintro y w1 ⟨rfl, hb1⟩; clear d0 d1 d2 d3 d4 d5 d6; obtain ⟨d0, d1, d2, d3, d4, d5, d6⟩ := zau (zcd (za0 HB1) hb1))
         go_meet
         case rel => exact ⟨_, by rw [za0 HV]; rfl, rfl, hb1⟩
       by_cases c2 : t = 1
       ·subst c2
        by_cases hk1 : K = 1
        ·subst hk1
         have HV : Hid (F2 = zt) := by show _ = _; rw [za0 HF2, zi5, za0 HSe, ← za0 HNM]; rfl
         obtain ⟨gx, ox, K', S', p1, p2, p3, n1, n2, n3, c1', c2', c3', rfl, ⟨x0, x1, x2, x3, x4⟩, RX⟩ := za0 CT rfl
         have HCC : Hid (∀ W, Below w.heap.size w W → W.cell? ⟨gx, ox, none⟩ = some (.int .i64 K') ∧ W.cell? ⟨gx, ox + 1, none⟩ = some (.string S') ∧ W.cell? ⟨gx, ox + 2, none⟩ = some (.slice p1 n1 c1') ∧ W.cell? ⟨gx, ox + 3, none⟩ = some (.slice p2 n2 c2') ∧ W.cell? ⟨gx, ox + 4, none⟩ = some (.slice p3 n3 c3')) := fun W h => ⟨(h.cell (p := ⟨gx, _, none⟩) (za2 x0)).trans x0, (h.cell (p := ⟨gx, _, none⟩) (za2 x1)).trans x1, (h.cell (p := ⟨gx, _, none⟩) (za2 x2)).trans x2, (h.cell (p := ⟨gx, _, none⟩) (za2 x3)).trans x3, (h.cell (p := ⟨gx, _, none⟩) (za2 x4)).trans x4⟩
         have CRX := za3 RX
         clear HF2 CT HSe HNM RX x0 x1 x2 x3 x4
         cases zt
         all_goals
          as_aux_lemma =>
           go_wp2_with (first
            | (go_at_call 61; refine (za0 CS _).mono ?_; clear CS; rintro y w1 ⟨rfl, hb1⟩; clear d0 d1 d2 d3 d4 d5 d6; obtain ⟨d0, d1, d2, d3, d4, d5, d6⟩ := zau (zcd (za0 HB1) hb1); have hw1 := zcd (zcd (za0 HA) (za0 HB1)) hb1; obtain ⟨y0, y1, y2, y3, y4⟩ := za0 HCC w1 hw1; have CR := za3 (za0 CRX w1 hw1); clear hw1 HCC CRX)
            | (go_at_call 45; refine (za0 CR).mono ?_; clear CR; rintro y w2 ⟨rfl, hb2⟩))
           go_meet
           case rel => exact ⟨_, by rw [za0 HV]; rfl, rfl, zcd hb1 hb2⟩
        ·have HV : Hid (F2 = false) := by show _ = _; rw [za0 HF2, zi5, decide_eq_false hk1]; simp
         obtain ⟨h3a, h3b⟩ := beqf hk1
         clear HF2 CT HSe HNM hk1
         as_aux_lemma =>
          go_wp2_with (go_at_call 61; refine (za0 CS _).mono ?_; clear CS; rintro y w1 ⟨rfl, hb1⟩; clear d0 d1 d2 d3 d4 d5 d6; obtain ⟨d0, d1, d2, d3, d4, d5, d6⟩ := zau (zcd (za0 HB1) hb1))
          go_meet
          case rel => exact ⟨_, by rw [za0 HV]; rfl, rfl, hb1⟩
       have c3 : (1 : Int) < (t : Int) := by omega
       have HV : Hid (F2 = false) := by show _ = _; rw [za0 HF2, zi5, decide_eq_false (show ¬ t ≤ 1 by omega)]; simp
       clear HF2 CT HSe HNM c1 c2
       as_aux_lemma =>
        go_wp2_with (go_at_call 61; refine (za0 CS _).mono ?_; clear CS; rintro y w1 ⟨rfl, hb1⟩; clear d0 d1 d2 d3 d4 d5 d6; obtain ⟨d0, d1, d2, d3, d4, d5, d6⟩ := zau (zcd (za0 HB1) hb1))
        go_meet
        case rel => exact ⟨_, by rw [za0 HV]; rfl, rfl, hb1⟩
    case rest =>
     obtain ⟨Wz, rfl, rfl, HB2⟩ := hcut
     clear CS CT HXE HXN HF2 HNM d0 d1 d2 d3 d4 d5 d6
     have HB3 := za3 (zcd (za0 HB1) (za0 HB2))
     obtain ⟨d0, d1, d2, d3, d4, d5, d6⟩ := zau (za0 HB3)
     clear HB1 HB2
     cases F2
     ·have HV : Hid (ans = false) := za0 HNO (by rw [za0 HZ]; rfl)
      rw [show (!false) = true from rfl]
      as_aux_lemma =>
       go_wp2_with fail
       go_ret
       exact ⟨by rw [za0 HV]; rfl, zcd (za0 HA) (za0 HB3)⟩
     rw [show (!true) = false from rfl]
     have HW3 := za3 (zcd (za0 HA) (za0 HB3))
     have HRW : Hid (IntKind.i64.wrap (room - 1) = room - 1) := wrap_pred hr h1
     have C1 := za3 (za0 CB hr Wz (za0 HW3))
     have C2 := za3 (za0 CE hr)
     clear CB CE
     go_upto_region 10 with fail
     go_cut [131] (fun c wx => ∃ Wv : World, c = .bool (!F3) ∧ Wv = wx ∧ Hid (Below Wz.heap.size Wz Wv))
     case first =>
      clear HZ HNO HANS HK e0 e1 e2 e3 e4 e5 e6
      have go4 : Hid (∀ w1, Below Wz.heap.size Wz w1 → Below w.heap.size w w1) := fun w1 h => zcd (za0 HW3) h
      by_cases c1 : b = 0 ∨ K = 4 ∨ K = 5
      rotate_left
      ·have c1a : (0 : Int) < (b : Int) := by omega
       obtain ⟨h4a, h4b⟩ := beqf (show K ≠ 4 by omega)
       obtain ⟨h5a, h5b⟩ := beqf (show K ≠ 5 by omega)
       have HV : Hid (F3 = false) := by show _ = _; rw [za0 HF3, refS3, decide_eq_false (show ¬ b = 0 by omega), decide_eq_false (show ¬ K = 4 by omega), decide_eq_false (show ¬ K = 5 by omega)]; simp
       clear HF3 C1 C2 c1
       as_aux_lemma =>
        go_wp2_with fail
        go_meet
        case rel => exact ⟨_, by rw [za0 HV]; rfl, rfl, Below.refl _ _⟩
      by_cases c2 : e = 0 ∨ K = 4
      rotate_left
      ·have c2a : (0 : Int) < (e : Int) := by omega
       obtain ⟨h4a, h4b⟩ := beqf (show K ≠ 4 by omega)
       have HV : Hid (F3 = false) := by show _ = _; rw [za0 HF3, refS3, decide_eq_false (show ¬ e = 0 by omega), decide_eq_false (show ¬ K = 4 by omega)]; simp
       have c5 : b = 0 ∨ (0 < (b : Int) ∧ K = 5) := by omega
       clear HF3 C1 C2 c2 c1
       rcases c5 with rfl | ⟨c1a, rfl⟩
       all_goals
        as_aux_lemma =>
         go_wp2_with fail
         go_meet
         case rel => exact ⟨_, by rw [za0 HV]; rfl, rfl, Below.refl _ _⟩
      have HV : Hid (F3 = (zb && ze)) := by
       show _ = _
       rw [za0 HF3, refS3]
       have q1 : (decide (b = 0) || decide (K = 4) || decide (K = 5)) = true := by rcases c1 with h | h | h <;> simp [h]
       have q2 : (decide (e = 0) || decide (K = 4)) = true := by rcases c2 with h | h <;> simp [h]
       rw [q1, q2]
       simp
      clear HF3
      have hways : (b = 0 ∧ e = 0) ∨ (b = 0 ∧ 0 < (e : Int) ∧ K = 4) ∨ (0 < (b : Int) ∧ e = 0 ∧ K = 4) ∨ (0 < (b : Int) ∧ 0 < (e : Int) ∧ K = 4) ∨ (0 < (b : Int) ∧ e = 0 ∧ K = 5) := by omega
      clear c1 c2
      have hrw := za0 HRW
      clear HRW hn h0 h1 hk hlt hr
      rcases hways with ⟨rfl, rfl⟩ | ⟨rfl, q1, rfl⟩ | ⟨q1, rfl, rfl⟩ | ⟨q1, q2, rfl⟩ | ⟨q1, rfl, rfl⟩
      all_goals
       cases zb
       ·go_wp2_with (go_at_call 16; refine (za0 C1).mono ?_; clear C1; rintro y w1 ⟨rfl, hb1⟩)
        go_meet
        case rel => exact ⟨_, by rw [za0 HV]; rfl, rfl, hb1⟩
       ·all_goals
         as_aux_lemma =>
          go_wp2_with (first
           | (go_at_call 16; refine (za0 C1).mono ?_; clear C1; rintro y w1 ⟨rfl, hb1⟩; clear d0 d1 d2 d3 d4 d5 d6; obtain ⟨d0, d1, d2, d3, d4, d5, d6⟩ := zau (zcd (za0 HB3) hb1); have C3 := za3 (za0 C2 w1 (za0 go4 w1 hb1)); clear C2)
           | (go_at_call 16; refine (za0 C3).mono ?_; clear C3; rintro y w2 ⟨rfl, hb2⟩))
          go_meet
          case rel => exact ⟨_, by rw [za0 HV]; rfl, rfl, zcd hb1 hb2⟩
     case rest =>
      obtain ⟨Wv, rfl, rfl, HB4⟩ := hcut
      clear C1 C2 HF3 d0 d1 d2 d3 d4 d5 d6
      cases F3
      ·have HV : Hid (ans = false) := za0 HNO (by rw [za0 HZ]; rfl)
       rw [show (!false) = true from rfl]
       as_aux_lemma =>
        go_wp2_with fail
        go_ret
        exact ⟨by rw [za0 HV]; rfl, zcd (za0 HW3) (za0 HB4)⟩
      rw [show (!true) = false from rfl]
      have HKK : Hid (zkq (k + 1) z = true) := by show _ = _; rw [zko, za0 HK, za0 HZ]; rfl
      clear HZ HNO HANS
      as_aux_lemma =>
       go_wp2_with fail
       go_roundw
       case rel => exact ⟨k + 1, by go_num, by omega, za0 HKK, zcd (za0 HW3) (za0 HB4)⟩
       case measure => simp [intOf]; omega
theorem refS_is {K room : Int} {S : Bs} {t x b e : Nat} {zx zs zt zb ze zy : Bool} (hs : S.isEmpty = true → zs = false) (ht : t = 0 → zy = true) (ht1 : t = 1 → zy = zt) :
  (refS1 room K x zx && zi5 K S t zs zt && refS3 K b e zb ze) = (!decide (room = 0) && zf7 K S t x b e zs && zy && zx && zb && ze) := by
 have hk : K = 1 ∨ K = 2 ∨ K = 3 ∨ K = 4 ∨ K = 5 ∨ K = 6 ∨ K = 7 ∨ (K < 1 ∨ 7 < K) := by omega
 have htt : t = 0 ∨ t = 1 ∨ 1 < t := by omega
 unfold refS1 zi5 refS3 zf7 zl9
 generalize S.isEmpty = Y at hs ⊢
 generalize decide (room = 0) = r0
 generalize hx1 : decide (x = 1) = x1
 generalize hb0 : decide (b = 0) = b0
 generalize he0 : decide (e = 0) = e0
 rcases htt with h | h | h
 ·have := ht h; subst h this
  rcases hk with rfl | rfl | rfl | rfl | rfl | rfl | rfl | h
  all_goals try (simp only [Int.reduceEq, Int.reduceLE, decide_true, decide_false, if_true, if_false, Nat.zero_le, or_self, or_true, true_or])
  all_goals try (clear ht ht1 hx1 hb0 he0; revert hs; cases Y <;> cases zs <;> cases zt <;> cases r0 <;> cases x1 <;> cases b0 <;> cases e0 <;> cases zx <;> cases zb <;> cases ze <;> decide)
  have q : (decide (1 ≤ K) && decide (K ≤ 7)) = false := by
   rcases h with h | h
   ·rw [decide_eq_false (show ¬ 1 ≤ K by omega)]; rfl
   ·rw [decide_eq_false (show ¬ K ≤ 7 by omega), Bool.and_false]
  rw [if_neg (by omega), if_neg (by omega), if_neg (by omega), if_neg (by omega), if_neg (by omega), Bool.and_assoc (!r0), q]
  simp
 ·have := ht1 h; subst h this
  rcases hk with rfl | rfl | rfl | rfl | rfl | rfl | rfl | h
  all_goals try (simp only [Int.reduceEq, Int.reduceLE, decide_true, decide_false, if_true, if_false, or_self, or_true, true_or, Nat.le_refl, Nat.reduceEqDiff])
  all_goals try (clear ht ht1 hx1 hb0 he0; revert hs; cases Y <;> cases zs <;> cases zy <;> cases r0 <;> cases x1 <;> cases b0 <;> cases e0 <;> cases zx <;> cases zb <;> cases ze <;> decide)
  have q : (decide (1 ≤ K) && decide (K ≤ 7)) = false := by
   rcases h with h | h
   ·rw [decide_eq_false (show ¬ 1 ≤ K by omega)]; rfl
   ·rw [decide_eq_false (show ¬ K ≤ 7 by omega), Bool.and_false]
  rw [if_neg (by omega), if_neg (by omega), if_neg (by omega), if_neg (by omega), if_neg (by omega), Bool.and_assoc (!r0), q]
  simp
 ·rw [decide_eq_false (show ¬ t ≤ 1 by omega), decide_eq_false (show ¬ t = 0 by omega)]
  have e1 : (if K = 1 then false && b0 && e0 && zs else if K = 2 then false && b0 && e0 && zs else if K = 3 ∨ K = 6 ∨ K = 7 then Y && false && b0 && e0 else if K = 4 then Y && false else if K = 5 then Y && false && e0 else false) = false := by
   repeat' split
   all_goals simp
  rw [e1]
  simp
theorem all_range {α : Type} (f : α → Bool) : ∀ l : List α, zkq l.length (fun i => (l[i]?.map f).getD true) = l.all f := fun l => by
 unfold zkq
 rw [Bool.eq_iff_iff, List.all_eq_true, List.all_eq_true]
 constructor
 ·intro h x hx
  obtain ⟨i, hi, rfl⟩ := List.getElem_of_mem hx
  have := h i (List.mem_range.2 hi)
  rw [List.getElem?_eq_getElem hi] at this
  exact this
 ·intro h i hi
  have hi' := List.mem_range.1 hi
  rw [List.getElem?_eq_getElem hi']
  exact h _ (List.getElem_mem hi')
theorem tok_none : zc8 1 [] = false := by decide +kernel
theorem rights_one {D : Nat} : ∀ {ts : List (Ty D)}, (ts.length = 0 → zak D 64 ts = true) ∧ (ts.length = 1 → zak D 64 ts = (ts[0]?.map (zci D 64)).getD true)
 | [] => ⟨fun _ => zin _ _, fun h => by simp at h⟩
 | [t] => ⟨fun h => by simp at h, fun _ => by
  show zak D 64 [t] = zci D 64 t
  match D, t with
  | D + 1, t => rfl⟩
 | _ :: _ :: _ => ⟨fun h => by simp at h, fun h => by simp at h⟩
def RRightSsAt (D d m : Nat) : Prop := ∀ (ss : List (St D d m)) (p : Option Addr) (c : Nat) (room : Int) (w : World), StRow w D d m (.slice p ss.length c) ss → zey D d m ss ≤ 60000 → zf0 D d m ss → 0 ≤ room → room ≤ 1000 →
 Calls Tryz.prog 16 #[.slice p ss.length c, .int .i64 room] w fun e w' => e = .returned (.bool (zb4 D d m room ss)) ∧ Below w.heap.size w w'
theorem zla (D d : Nat) : ∀ m, RRightSsAt D d m
 | 0 => fun ss p c room w _ _ _ h0 h1 => by
  match ss with
  | [] => exact rst_run p 0 c room w (fun _ => true) (by omega) h0 h1 fun k hk => absurd hk (by omega)
  | s :: _ => exact nomatch s
 | m + 1 => fun ss p c room w hv hz hf h0 h1 => by
  have IH := zla D d m
  have e : zb4 D d (m + 1) room ss = zkq ss.length (fun i => (ss[i]?.map (zkk D d m room)).getD true) := by rw [all_range]; rfl
  rw [e]
  refine rst_run p ss.length c room w _ hf.1 h0 h1 fun k hk => ?_
  obtain ⟨p1, c1, e1, hp⟩ := hv
  injection e1 with e1 _ _
  subst e1
  have hk' : ss[k]? = some ss[k] := by simp
  obtain ⟨g, o, vt, vx, vb, ve, rfl, a0, a1, a2, a3, a4, a5, a6, r1, r2, r3, r4⟩ := hp k ss[k] hk'
  obtain ⟨pt, ct, rfl⟩ := r1.slice
  obtain ⟨px, cx, rfl⟩ := r2.1.slice
  obtain ⟨pb, cb, rfl⟩ := r3.slice
  obtain ⟨pe, ce, rfl⟩ := r4.slice
  obtain ⟨f1, f2, f3⟩ := hf.2 ss[k] (by simp)
  have hsz : 1 + (zc7 ss[k]).length + szL D (sT ss[k]) + ze9 D d (sX ss[k]) + zey D d m (sB ss[k]) + zey D d m (sE ss[k]) ≤ 60000 := by
   refine Nat.le_trans ?_ hz
   rw [zey]; exact zet (List.mem_map.2 ⟨ss[k], by simp, rfl⟩)
  refine ⟨g, o, _, _, zc7 ss[k], pt, px, pb, pe, (sT ss[k]).length, (sX ss[k]).length, (sB ss[k]).length, (sE ss[k]).length, ct, cx, cb, ce, ((sX ss[k])[0]?.map (zbi D d 64)).getD true, zc8 1 (zc7 ss[k]), ((sT ss[k])[0]?.map (zci D 64)).getD true, zb4 D d m (room - 1) (sB ss[k]), zb4 D d m (room - 1) (sE ss[k]), rfl, ⟨a0, a1, a2, a3, a4, a5, a6⟩, fun hx => ?_, fun W => zlh _ W (by omega), fun ht => ?_, fun hr W hW => IH _ pb cb _ W (StRow.below hW m r3) (by omega) f2 (by omega) (by omega), fun hr W hW => IH _ pe ce _ W (StRow.below hW m r4) (by omega) f3 (by omega) (by omega), ?_⟩
  ·obtain ⟨u, ⟨gx, ox, A', K', N', S', p1, p2, p3, n1, c1, n2, c2, n3, c3, rfl, rfl, x0, x1, x2, x3, x4, x5, x6⟩, hu⟩ := r2.1.at 0 (by omega)
   simp only [Nat.zero_mul, Nat.add_zero] at x0 x1 x2 x3 x4 x5 x6
   have hm := zku (List.getElem_mem (show 0 < (sX ss[k]).length by omega))
   have e0 : ((sX ss[k])[0]?.map (zbi D d 64)).getD true = zbi D d 64 ((sX ss[k])[0]'(by omega)) := by rw [List.getElem?_eq_getElem (by omega)]; rfl
   rw [e0]
   exact ⟨gx, ox, A', K', N', S', p1, p2, p3, n1, n2, n3, c1, c2, c3, rfl, ⟨x0, x1, x2, x3, x4, x5, x6⟩, fun W hW => zk7 D d _ _ 64 W (ExValD.below hW hu) (by omega) (ExFits.at f1.2.2.2.1 _ (List.getElem_mem _)) (by decide)⟩
  ·obtain ⟨u, ⟨gx, ox, K', S', p1, p2, p3, n1, c1, n2, c2, n3, c3, rfl, rfl, x0, x1, x2, x3, x4⟩, hu⟩ := r1.at 0 (by omega)
   simp only [Nat.zero_mul, Nat.add_zero] at x0 x1 x2 x3 x4
   have hm := ze6 (List.getElem_mem (show 0 < (sT ss[k]).length by omega))
   have e0 : ((sT ss[k])[0]?.map (zci D 64)).getD true = zci D 64 ((sT ss[k])[0]'(by omega)) := by rw [List.getElem?_eq_getElem (by omega)]; rfl
   rw [e0]
   exact ⟨gx, ox, K', S', p1, p2, p3, n1, n2, n3, c1, c2, c3, rfl, ⟨x0, x1, x2, x3, x4⟩, fun W hW => zio D _ _ 64 W (TyValD.below hW hu) (by omega) (by decide)⟩
  ·rw [hk']
   show zkk D d m room ss[k] = _
   rw [refS_is (zy := zak D 64 (sT ss[k])) (fun h => by rw [List.isEmpty_iff.1 h]; exact tok_none) rights_one.1 rights_one.2]
   rfl
end Go.Proofs.YtmpbbmfbgcpplaaGreatDoor
