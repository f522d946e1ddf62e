import Derived.Test.YtmpbbmfbgcpplaaGreatDoorQLexC
import Derived.Test.YtmpbbmfbgcpplaaGreatDoorQSynA
set_option maxHeartbeats 4000000
set_option maxRecDepth 100000
namespace Go.Proofs.YtmpbbmfbgcpplaaGreatDoor
open Go Go.RowKit Lx
def zc8 (k : Int) (s : Bs) : Bool := sound (0, k, s, 0)
theorem join_one (t : Tok) : ∃ (l : ByteArray) (y : Int), zbk (join [t]) = .tuple #[.string l, .int .i64 y] ∧ sound t = (y != 1) := by
 by_cases h : sound t = true
 ·have ha : [t].all sound = true := by simp [h]
  rw [join, if_neg (by rw [ha]; simp)]
  rcases zev [t] 0 [] with _ | l
  ·exact ⟨_, 2, rfl, by rw [h]; rfl⟩
  ·exact ⟨_, 0, rfl, by rw [h]; rfl⟩
 ·have h := (Bool.not_eq_true _).mp h
  rw [join, if_pos (by simp [h])]
  exact ⟨_, 1, rfl, by rw [h]; rfl⟩
theorem zft (k : Int) (s : Bs) (w : World) (hs : s.length ≤ 35184372088832) (ht : Tab w) (h5 : 4 ≤ w.heap.size) :
  Calls Tryz.prog 102 #[.int .i64 k, .string ⟨s.toArray⟩] w fun e w' => e = .returned (.bool (zc8 k s)) ∧ Below w.heap.size w w' := by
 obtain ⟨l, y, hj, hy⟩ := join_one (0, k, s, 0)
 obtain ⟨O, hO⟩ : ∃ O : Obj, O = .cells #[.int .i64 0, .int .i64 k, .string ⟨s.toArray⟩, .int .i64 0] 142 := ⟨_, rfl⟩
 have hb : Below w.heap.size w (w.alloc O) := (Below.refl _ _).alloc (Nat.le_refl _) O
 have hc : ∀ j, (w.alloc O).cell? ⟨w.heap.size, j, none⟩ = #[Value.int .i64 0, .int .i64 k, .string ⟨s.toArray⟩, .int .i64 0][j]? := fun j => by rw [hO, World.cell?_alloc_at _ _ _ _ (by rfl)]
 have JW : Hid (Calls Tryz.prog 91 #[.slice (some ⟨w.heap.size, 0, none⟩) 1 1] (w.alloc O) fun e w' => e = .returned (.tuple #[.string l, .int .i64 y]) ∧ Below (w.alloc O).heap.size (w.alloc O) w') := by
  show Calls _ _ _ _ _
  rw [← hj]
  refine Join_any _ [(0, k, s, 0)] _ ⟨_, _, rfl, fun j t hjt => ?_⟩ (by simp) (fun t h => ?_) (ht.below hb h5) (by simp; omega)
  ·match j with
   | 0 =>
    obtain rfl : (0, k, s, 0) = t := by simpa using hjt
    exact ⟨_, _, rfl, hc 0, hc 1, hc 2, hc 3⟩
   | j + 1 => simp at hjt
  ·rw [List.mem_singleton] at h
   subst h
   exact ⟨hs, (show (-9223372036854775808 : Int) ≤ 0 by decide), (show (0 : Int) ≤ 9223372036854775807 by decide)⟩
 have HY : Hid (zc8 k s = (y != 1)) := hy
 have HB := za3 hb
 clear hj hy hc hb
 go_enter Tryz.func102, Tryz.ntmps102
 go_wp2_with (go_at_call 91; rw [← hO]; refine (za0 JW).mono ?_; clear JW; rintro e w1 ⟨rfl, hb1⟩)
 go_ret
 exact ⟨by rw [za0 HY]; rfl, (za0 HB).trans (hb1.mono (by simp))⟩
open Go Go.RowKit Go.Maps Go.WideMaps Lx
def zc9 (ss : List Bs) : Bool := ss.all (zc8 1) && decide ss.Nodup
theorem names_drop {ss : List Bs} {k : Nat} (h : k < ss.length) : (ss.drop k).all (zc8 1) = (zc8 1 ss[k] && (ss.drop (k + 1)).all (zc8 1)) := by
 rw [List.drop_eq_getElem_cons h, List.all_cons]
theorem zef {P : Program} {k : TypeId} {R : Value → Option (DataW Unit × List MemPlace)} {b n B : Nat} {D : DataW Unit} {w w' : World} (h : w.ownsMap P k R b n D) (hb : Below B w w') (hB : b < B) : w'.ownsMap P k R b n D := by
 obtain ⟨es, clock, h1, r⟩ := h
 exact ⟨es, clock, (hb.block _ hB).trans h1, r⟩
theorem zic : Keyed Tryz.prog 9 := string_keyed Tryz.underlying9
theorem zh5 (v : Value) (ss : List Bs) (w : World) (hv : SRow w v ss) (hl : ss.length ≤ 1000000) (hs : ∀ s ∈ ss, s.length ≤ 35184372088832) (ht : Tab w) (h5 : 4 ≤ w.heap.size) :
  Calls Tryz.prog 137 #[v] w fun e w' => e = .returned (.bool (zc9 ss)) ∧ Below w.heap.size w w' := by
 obtain ⟨p, c, rfl, hp⟩ := hv
 have HP := za3 hp
 have HS := za3 hs
 have HT := za3 ht
 clear hp hs ht
 have hmm := @run_makeMap Tryz.prog
 go_enter Tryz.func137, Tryz.ntmps137
 go_wp2
 clear hmm
 go_loopw [9] (fun i wr => ∃ k : Nat, i = .int .i64 k ∧ k ≤ ss.length ∧ Hid (ss.all (zc8 1) = (ss.drop k).all (zc8 1)) ∧ Hid (wr.ownsMap Tryz.prog 9 (unitElem (H := Unit)) w.heap.size k (setB (ss.take k))) ∧ w.heap.size < wr.heap.size ∧ Below w.heap.size w wr) (fun i _ => ss.length - (intOf i).toNat)
 case atStart => exact ⟨0, rfl, by omega, rfl, World.ownsMap_made _ _ _ _, by simp, (Below.refl _ _).alloc (Nat.le_refl _) _⟩
 case round =>
  obtain ⟨k, rfl, hk, HM, HO, hsz, hb⟩ := hrel
  by_cases hlt : k < ss.length
  ·obtain ⟨g, o, rfl, a0⟩ := za0 HP k ss[k] (by simp [hlt])
   have hlt' : (k : Int) < (ss.length : Int) := by omega
   have b0 := (hb.cell (p := ⟨g, _, none⟩) (za2 a0)).trans a0
   have hsl := za0 HS ss[k] (by simp)
   have HB := za3 hb
   have IT := za3 (zft 1 ss[k] wr hsl ((za0 HT).below hb h5) (by omega))
   have hkey : keyOf Tryz.prog 9 (.string ⟨ss[k].toArray⟩) = some (keyB ss[k]) := keyOf_string_mk Tryz.underlying9 (by show ss[k].toArray.size ≤ maxLen; unfold maxLen; simp; omega)
   have HK := za3 hkey
   have HD := za3 (names_drop hlt)
   clear a0 hb hkey hsl
   by_cases h4 : zc8 1 ss[k] = true
   ·rw [h4] at IT
    go_wp2_with (first
     | (go_at_call 102; refine (za0 IT).mono ?_; clear IT; rintro e w1 ⟨rfl, hb1⟩)
     | (at_mapUpdate; refine wpList_mapUpdate_own _ rfl _ _ _ 125 rfl 9 181 zic Tryz.underlying125 (unitElem (H := Unit)) w.heap.size k _ rfl (zef (za0 HO) hb1 hsz) (by unfold maxLen; omega) _ _ _ rfl rfl (za0 HK) _ [] unitElem_mk ?_; intro w2 hown2 hgrow2)
     | go_in)
    go_roundw
    case rel => exact ⟨k + 1, by go_num, by omega, (by rw [za0 HM, za0 HD, h4]; rfl), (by rw [List.take_succ_eq_append_getElem hlt, zjz]; exact hown2), (by have := hgrow2.size; have := hb1.size; omega), ((za0 HB).trans (hb1.mono (by omega))).grown hgrow2 (by have := hb1.size; omega) (fun j hj => by cases hj; exact Nat.le_refl _)⟩
    case measure => simp [intOf]; omega
   ·have h4 := (Bool.not_eq_true _).mp h4
    rw [h4] at IT
    go_wp2_with (first
     | (go_at_call 102; refine (za0 IT).mono ?_; clear IT; rintro e w1 ⟨rfl, hb1⟩)
     | go_in)
    go_ret
    exact ⟨by rw [zc9, za0 HM, za0 HD, h4]; rfl, (za0 HB).trans (hb1.mono (by omega))⟩
  ·have hkl : k = ss.length := by omega
   subst hkl
   have hO := za0 HO
   rw [List.take_length] at hO
   have HZ : Hid (zc9 ss = ((Maps.size (setB ss) : Int) == (ss.length : Int))) := by
    have hz := (setB_size _ ss rfl).1
    show _ = _
    rw [zc9, za0 HM, List.drop_of_length_le (Nat.le_refl _), List.all_nil, Bool.true_and]
    by_cases h : ss.Nodup
    ·rw [decide_eq_true h, hz.2 h]; simp
    ·rw [decide_eq_false h]
     symm
     rw [beq_eq_false_iff_ne]
     exact fun e => h (hz.1 (by omega))
   go_wp2_with (first
    | (at_len; refine wpList_len_own _ rfl _ 125 rfl 9 181 Tryz.underlying125 _ w.heap.size ss.length _ rfl hO ?_)
    | go_in)
   go_ret
   exact ⟨by rw [za0 HZ]; rfl, hb⟩
def zaw (K : Int) (l : Bs) (n e q : Nat) (b1 b2 b3 : Bool) : Bool :=
 if K ≠ 4 ∧ l.isEmpty = false then false
 else if K = 1 ∨ K = 2 ∨ K = 3 then decide (n = 0) && decide (e = 0) && decide (q = 0)
 else if K = 4 then decide (n = 0) && decide (e = 0) && decide (q = 0) && b1
 else if K = 5 then decide (n = 0) && decide (e = 0) && decide (q = 1)
 else if K = 6 then decide (n = q) && decide (e = q) && b2
 else if K = 7 then decide (n = 0) && decide (e = 0) && decide (1 ≤ q)
 else if K = 8 then decide (n = q) && decide (e = 0) && b2 && b3
 else false
theorem nb0 (a : Nat) : ((a : Int) == 0) = decide (a = 0) := by
 by_cases h : a = 0
 ·subst h; rfl
 ·rw [decide_eq_false h, beq_eq_false_iff_ne]; omega
theorem nb1 (a : Nat) : ((a : Int) == 1) = decide (a = 1) := by
 by_cases h : a = 1
 ·subst h; rfl
 ·rw [decide_eq_false h, beq_eq_false_iff_ne]; omega
theorem nle (a : Nat) : decide ((1 : Int) ≤ (a : Int)) = decide (1 ≤ a) := decide_eq_decide.2 (by omega)
theorem shaped_run (K : Int) (l : Bs) (n e q : Nat) (b1 b2 b3 : Bool) (pn pe pp : Option Addr) (cn ce cp : Nat) (w : World) (_hn : n ≤ 1000000) (_he : e ≤ 1000000) (_hq : q ≤ 1000000)
  (hi : ∀ W, Below w.heap.size w W → Calls Tryz.prog 102 #[.int .i64 2, .string ⟨l.toArray⟩] W fun e w' => e = .returned (.bool b1) ∧ Below W.heap.size W w')
  (hr : ∀ W m, m = n → Below w.heap.size w W → Calls Tryz.prog 137 #[.slice pn m cn] W fun e w' => e = .returned (.bool b2) ∧ Below W.heap.size W w')
  (hf : ∀ W m, m = q → Below w.heap.size w W → Calls Tryz.prog 142 #[.slice pp m cp] W fun e w' => e = .returned (.bool b3) ∧ Below W.heap.size W w') :
  Calls Tryz.prog 107 #[.agg #[.int .i64 K, .string ⟨l.toArray⟩, .slice pn n cn, .slice pe e ce, .slice pp q cp]] w fun x w' => x = .returned (.bool (zaw K l n e q b1 b2 b3)) ∧ Below w.heap.size w w' := by
 have IT := za3 hi
 have RN := za3 hr
 have FN := za3 hf
 clear hi hr hf
 go_enter Tryz.func107, Tryz.ntmps107
 go_wp2
 go_quiet (fail)
 obtain ⟨W0, hW0⟩ : ∃ W0, W0 = (w.alloc (.cells #[.int .i64 K, .string ⟨l.toArray⟩, .slice pn n cn, .slice pe e ce, .slice pp q cp] 53)).drewN nq := ⟨_, rfl⟩
 have hbq : Below w.heap.size w W0 := by rw [hW0]; exact below_drewN ((Below.refl _ _).alloc (Nat.le_refl _) _) _
 have hlt : w.heap.size < W0.heap.size := by rw [hW0]; simp [World.drewN]
 have hc : ∀ j, W0.cell? ⟨w.heap.size, j, none⟩ = #[Value.int .i64 K, .string ⟨l.toArray⟩, .slice pn n cn, .slice pe e ce, .slice pp q cp][j]? := fun j => by
  rw [hW0]
  show (w.alloc _).cell? _ = _
  rw [World.cell?_alloc_at _ _ _ _ (by rfl)]
 have c0 := hc 0
 have c1 := hc 1
 have c2 := hc 2
 have c4 := hc 4
 simp at c0 c1 c2 c4
 rw [← hW0]
 clear hW0 hc
 have hk : K = 1 ∨ K = 2 ∨ K = 3 ∨ K = 4 ∨ K = 5 ∨ K = 6 ∨ K = 7 ∨ K = 8 ∨ (K ≠ 1 ∧ K ≠ 2 ∧ K ≠ 3 ∧ K ≠ 4 ∧ K ≠ 5 ∧ K ≠ 6 ∧ K ≠ 7 ∧ K ≠ 8) := by omega
 have HQ := za3 hbq
 rcases hk with rfl | rfl | rfl | rfl | rfl | rfl | rfl | rfl | ⟨k1, k2, k3, k4, k5, k6, k7, k8⟩
 all_goals
  go_wp2_with (first
   | (go_at_call 102; refine (za0 IT _ (za0 HQ)).mono ?_; clear IT; rintro x w1 ⟨rfl, hb1⟩)
   | (go_at_call 137; refine (za0 RN _ _ (by omega) (za0 HQ)).mono ?_; clear RN; rintro x w1 ⟨rfl, hb1⟩; have d4 := (hb1.cell (p := ⟨w.heap.size, 4, none⟩) hlt).trans c4)
   | (go_at_call 142; refine (za0 FN _ _ (by omega) ((za0 HQ).trans (hb1.mono (by omega)))).mono ?_; clear FN; rintro x w2 ⟨rfl, hb2⟩))
 any_goals
  go_ret
  refine ⟨congrArg (fun b => Ending.returned (Value.bool b)) ?_, ?_⟩
  rotate_left
  ·first | exact hbq | exact hbq.trans (hb1.mono (by omega)) | exact (hbq.trans (hb1.mono (by omega))).trans (hb2.mono (by have := hb1.size; omega))
  try clear IT
  try clear RN
  try clear FN
  clear HQ c0 c1 c2 c4
  first
   | (simp_all [zaw, nb0, nb1, nle]; done)
   | (by_cases z1 : n = q <;> by_cases z2 : e = q <;> first | (exfalso; omega) | (simp_all [zaw]; done))
def zcc (d : Nat) (t : Ty (d + 1)) : Bool := zaw t.1 t.2.1 t.2.2.1.length t.2.2.2.1.length t.2.2.2.2.length (zc8 2 t.2.1) (zc9 t.2.2.1) (fnsB d t.2.2.2.2)
def TyVal (W : World) (d : Nat) (v : Value) (t : Ty (d + 1)) : Prop :=
 ∃ (pn pe pp : Option Addr) (cn ce cp : Nat), v = .agg #[.int .i64 t.1, .string ⟨t.2.1.toArray⟩, .slice pn t.2.2.1.length cn, .slice pe t.2.2.2.1.length ce, .slice pp t.2.2.2.2.length cp] ∧
  SRow W (.slice pn t.2.2.1.length cn) t.2.2.1 ∧ BRow W (.slice pe t.2.2.2.1.length ce) t.2.2.2.1 ∧ TyRow W d (.slice pp t.2.2.2.2.length cp) t.2.2.2.2
theorem TyVal.below {w w' : World} {d : Nat} {v : Value} {t : Ty (d + 1)} (h : TyVal w d v t) (hb : Below w.heap.size w w') : TyVal w' d v t := by
 obtain ⟨pn, pe, pp, cn, ce, cp, rfl, r1, r2, r3⟩ := h
 exact ⟨pn, pe, pp, cn, ce, cp, rfl, r1.below hb, r2.below hb, TyRow.below hb d r3⟩
def zhy (d : Nat) (t : Ty (d + 1)) : Prop :=
 t.2.1.length ≤ 35184372088832 ∧ t.2.2.1.length ≤ 1000000 ∧ (∀ s ∈ t.2.2.1, s.length ≤ 35184372088832) ∧ t.2.2.2.1.length ≤ 1000000 ∧ t.2.2.2.2.length ≤ 1000000
def zck : (d : Nat) → List (Ty d) → Prop
 | 0, _ => True
 | d + 1, ts => ts.length ≤ 1000000 ∧ ∀ t ∈ ts, zhy d t ∧ zck d t.2.2.2.2
theorem shapedType_any (d : Nat) (v : Value) (t : Ty (d + 1)) (w : World) (hv : TyVal w d v t) (hs : zhy d t) (ht : Tab w) (h5 : 4 ≤ w.heap.size) :
  Calls Tryz.prog 107 #[v] w fun e w' => e = .returned (.bool (zcc d t)) ∧ Below w.heap.size w w' := by
 obtain ⟨pn, pe, pp, cn, ce, cp, rfl, r1, r2, r3⟩ := hv
 obtain ⟨s1, s2, s3, s4, s5⟩ := hs
 exact shaped_run t.1 t.2.1 _ _ _ _ _ _ pn pe pp cn ce cp w s2 s4 s5 (fun W hW => zft 2 _ W s1 (ht.below hW h5) (by have := hW.size; omega))
  (fun W m hm hW => hm ▸ zh5 _ _ W (r1.below hW) s2 s3 (ht.below hW h5) (by have := hW.size; omega))
  (fun W m hm hW => hm ▸ functions_any d _ _ W (TyRow.below hW d r3) s5)
def zak : (d : Nat) → Int → List (Ty d) → Bool
 | 0, _, _ => true
 | d + 1, room, ts => ts.all fun t => decide (0 < room) && zcc d t && zak d (room - 1) t.2.2.2.2
def zeh (d : Nat) (room : Int) (t : Ty (d + 1)) : Bool := decide (0 < room) && zcc d t && zak d (room - 1) t.2.2.2.2
theorem zkp {d : Nat} {room : Int} {ts : List (Ty (d + 1))} {k : Nat} (h : k < ts.length) : zak (d + 1) room (ts.drop k) = (zeh d room ts[k] && zak (d + 1) room (ts.drop (k + 1))) := by
 rw [List.drop_eq_getElem_cons h, zak, zak, List.all_cons]; rfl
def RightsAt (d : Nat) : Prop := ∀ (v : Value) (ts : List (Ty d)) (room : Int) (w : World), TyRow w d v ts → zck d ts → 0 ≤ room → room ≤ 1000000 → Tab w → 4 ≤ w.heap.size →
 Calls Tryz.prog 82 #[v, .int .i64 room] w fun e w' => e = .returned (.bool (zak d room ts)) ∧ Below w.heap.size w w'
theorem zj9 (d : Nat) (IH : RightsAt d) (v : Value) (t : Ty (d + 1)) (room : Int) (w : World) (hv : TyVal w d v t) (hs : zhy d t) (hf : zck d t.2.2.2.2) (h0 : 0 ≤ room) (h1 : room ≤ 1000000) (ht : Tab w) (h5 : 4 ≤ w.heap.size) :
  Calls Tryz.prog 76 #[v, .int .i64 room] w fun e w' => e = .returned (.bool (zeh d room t)) ∧ Below w.heap.size w w' := by
 have SH : Hid (∀ W, Below w.heap.size w W → Calls Tryz.prog 107 #[v] W fun e w' => e = .returned (.bool (zcc d t)) ∧ Below W.heap.size W w') := fun W hW => shapedType_any d v t W (hv.below hW) hs (ht.below hW h5) (by have := hW.size; omega)
 obtain ⟨pn, pe, pp, cn, ce, cp, rfl, r1, r2, r3⟩ := hv
 have RT : Hid (∀ W, 0 < room → Below w.heap.size w W → Calls Tryz.prog 82 #[.slice pp t.2.2.2.2.length cp, .int .i64 (room - 1)] W fun e w' => e = .returned (.bool (zak d (room - 1) t.2.2.2.2)) ∧ Below W.heap.size W w') := fun W h00 hW => IH _ _ _ W (TyRow.below hW d r3) hf (by omega) (by omega) (ht.below hW h5) (by have := hW.size; omega)
 clear r1 r2 r3 hf ht
 obtain ⟨b1, hb1⟩ : ∃ b, b = zcc d t := ⟨_, rfl⟩
 obtain ⟨b2, hb2⟩ : ∃ b, b = zak d (room - 1) t.2.2.2.2 := ⟨_, rfl⟩
 have HR : Hid (zeh d room t = (decide (0 < room) && b1 && b2)) := by rw [hb1, hb2]; rfl
 rw [← hb1] at SH
 rw [← hb2] at RT
 clear hb1 hb2
 go_enter Tryz.func76, Tryz.ntmps76
 by_cases hr : 0 < room
 ·cases b1
  ·go_wp2_with (go_at_call 107; refine (za0 SH _ ((Below.refl _ _).alloc (Nat.le_refl _) _)).mono ?_; clear SH; rintro x w1 ⟨rfl, hb1⟩; have d4 : w1.cell? ⟨w.heap.size, 4, none⟩ = some (.slice pp t.2.2.2.2.length cp) := ((hb1.cell (p := ⟨w.heap.size, 4, none⟩) (by simp)).trans (by rw [World.cell?_alloc_at _ _ _ _ (by rfl)]; rfl)); have hbw : Below w.heap.size w w1 := ((Below.refl _ _).alloc (Nat.le_refl _) _).trans (hb1.mono (by simp)))
   go_ret
   exact ⟨by rw [za0 HR]; simp, hbw⟩
  ·go_wp2_with (first | (go_at_call 107; refine (za0 SH _ ((Below.refl _ _).alloc (Nat.le_refl _) _)).mono ?_; clear SH; rintro x w1 ⟨rfl, hb1⟩; have d4 : w1.cell? ⟨w.heap.size, 4, none⟩ = some (.slice pp t.2.2.2.2.length cp) := ((hb1.cell (p := ⟨w.heap.size, 4, none⟩) (by simp)).trans (by rw [World.cell?_alloc_at _ _ _ _ (by rfl)]; rfl)); have hbw : Below w.heap.size w w1 := ((Below.refl _ _).alloc (Nat.le_refl _) _).trans (hb1.mono (by simp))) | (go_at_call 82; refine (za0 RT _ hr hbw).mono ?_; clear RT; rintro x w2 ⟨rfl, hb2⟩))
   go_ret
   exact ⟨by rw [za0 HR, decide_eq_true hr]; rfl, hbw.trans (hb2.mono (by have := hbw.size; omega))⟩
 ·go_wp2
  go_ret
  exact ⟨by rw [za0 HR, decide_eq_false (by omega)]; rfl, (Below.refl _ _).alloc (Nat.le_refl _) _⟩
theorem zkr (p : Option Addr) (c : Nat) (room : Int) (w : World) : Calls Tryz.prog 82 #[.slice p 0 c, .int .i64 room] w fun e w' => e = .returned (.bool true) ∧ Below w.heap.size w w' := by
 go_enter Tryz.func82, Tryz.ntmps82
 go_wp2
 go_loopw [9] (fun i wr => i = .int .i64 0 ∧ wr = w) (fun _ _ => 0)
 case atStart => exact ⟨rfl, rfl⟩
 case round =>
  obtain ⟨rfl, rfl⟩ := hrel
  go_wp2
  go_ret
  exact ⟨rfl, Below.refl _ _⟩
theorem zd7 : ∀ d, RightsAt d
 | 0 => fun v ts room w hv _ _ _ _ _ => by
  obtain ⟨p, c, rfl⟩ := hv
  exact zkr p c room w
 | d + 1 => fun v ts room w hv hf h0 h1 ht h5 => by
  have IH := za3 (zd7 d)
  obtain ⟨p, c, rfl, hp⟩ := hv
  have hlen := hf.1
  have HP := za3 hp
  have HF := za3 hf.2
  have HT := za3 ht
  clear hp hf ht
  go_enter Tryz.func82, Tryz.ntmps82
  go_wp2
  go_loopw [9] (fun i wr => ∃ k : Nat, i = .int .i64 k ∧ k ≤ ts.length ∧ Hid (zak (d + 1) room ts = zak (d + 1) room (ts.drop k)) ∧ Below w.heap.size w wr) (fun i _ => ts.length - (intOf i).toNat)
  case atStart => exact ⟨0, rfl, by omega, rfl, Below.refl _ _⟩
  case round =>
   obtain ⟨k, rfl, hk, HM, hb⟩ := hrel
   by_cases hlt : k < ts.length
   ·obtain ⟨g, o, vn, ve, vp, rfl, a0, a1, a2, a3, a4, r1, r2, r3⟩ := za0 HP k ts[k] (by simp [hlt])
    have hlt' : (k : Int) < (ts.length : Int) := by omega
    obtain ⟨q1, q2⟩ := za0 HF ts[k] (by simp)
    have TV : Hid (∃ u, TyVal w d u ts[k] ∧ u = .agg #[.int .i64 ts[k].1, .string ⟨ts[k].2.1.toArray⟩, vn, ve, vp]) := by
     obtain ⟨pn, cn, rfl, x1⟩ := r1
     obtain ⟨pe, ce, rfl, x2⟩ := r2
     obtain ⟨pp, cp, e3⟩ := r3.slice
     subst e3
     exact ⟨_, ⟨pn, pe, pp, cn, ce, cp, rfl, ⟨pn, cn, rfl, x1⟩, ⟨pe, ce, rfl, x2⟩, r3⟩, rfl⟩
    obtain ⟨pn, cn, rfl, _⟩ := r1
    obtain ⟨pe, ce, rfl, _⟩ := r2
    obtain ⟨pp, cp, e3⟩ := r3.slice
    subst e3
    have hg := za2 a0
    have b0 := (hb.cell (p := ⟨g, _, none⟩) hg).trans a0
    have b1 := (hb.cell (p := ⟨g, _, none⟩) hg).trans a1
    have b2 := (hb.cell (p := ⟨g, _, none⟩) hg).trans a2
    have b3 := (hb.cell (p := ⟨g, _, none⟩) hg).trans a3
    have b4 := (hb.cell (p := ⟨g, _, none⟩) hg).trans a4
    have HB := za3 hb
    have HD := za3 (zkp (room := room) hlt)
    have hsz := hb.size
    obtain ⟨z, hz⟩ : ∃ z, z = zeh d room ts[k] := ⟨_, rfl⟩
    have RT : Hid (∀ W, Below w.heap.size w W → Calls Tryz.prog 76 #[.agg #[.int .i64 ts[k].1, .string ⟨ts[k].2.1.toArray⟩, .slice pn ts[k].2.2.1.length cn, .slice pe ts[k].2.2.2.1.length ce, .slice pp ts[k].2.2.2.2.length cp], .int .i64 room] W fun e w' => e = .returned (.bool z) ∧ Below W.heap.size W w') := fun W hW => by
     obtain ⟨u, hu, e⟩ := za0 TV
     rw [hz, ← e]
     exact zj9 d (za0 IH) u ts[k] room W (hu.below hW) q1 q2 (by omega) h1 ((za0 HT).below hW h5) (by have := hW.size; omega)
    rw [← hz] at HD
    clear a0 a1 a2 a3 a4 r3 hb TV q1 q2 hz
    cases z
    ·go_wp2_with (go_at_call 76; refine (za0 RT _ ((za0 HB).alloc hsz _)).mono ?_; clear RT; rintro x w1 ⟨rfl, hb1⟩)
     go_ret
     exact ⟨by rw [za0 HM, za0 HD]; rfl, ((za0 HB).alloc hsz _).trans (hb1.mono (by simp; omega))⟩
    ·go_wp2_with (go_at_call 76; refine (za0 RT _ ((za0 HB).alloc hsz _)).mono ?_; clear RT; rintro x w1 ⟨rfl, hb1⟩)
     go_roundw
     case rel => exact ⟨k + 1, by go_num, by omega, (by rw [za0 HM, za0 HD]; rfl), ((za0 HB).alloc hsz _).trans (hb1.mono (by simp; omega))⟩
     case measure => simp [intOf]; omega
   ·go_wp2
    go_ret
    exact ⟨by rw [za0 HM, List.drop_of_length_le (by omega)]; rfl, hb⟩
end Go.Proofs.YtmpbbmfbgcpplaaGreatDoor
