import Derived.Test.YtmpbbmfbgcpplaaGreatDoorQExF
set_option maxHeartbeats 4000000
set_option maxRecDepth 100000
namespace Go.Proofs.YtmpbbmfbgcpplaaGreatDoor
open Go Go.RowKit Lx
def St (D d : Nat) : Nat → Type
 | 0 => Empty
 | m + 1 => Int × Int × Bs × List (Ty D) × List (Ex D d) × List (St D d m) × List (St D d m)
abbrev sAt {D d m : Nat} (s : St D d (m + 1)) : Int := s.1
abbrev zhh {D d m : Nat} (s : St D d (m + 1)) : Int := s.2.1
abbrev zc7 {D d m : Nat} (s : St D d (m + 1)) : Bs := s.2.2.1
abbrev sT {D d m : Nat} (s : St D d (m + 1)) : List (Ty D) := s.2.2.2.1
abbrev sX {D d m : Nat} (s : St D d (m + 1)) : List (Ex D d) := s.2.2.2.2.1
abbrev sB {D d m : Nat} (s : St D d (m + 1)) : List (St D d m) := s.2.2.2.2.2.1
abbrev sE {D d m : Nat} (s : St D d (m + 1)) : List (St D d m) := s.2.2.2.2.2.2
def StRow (W : World) (D d : Nat) : (m : Nat) → Value → List (St D d m) → Prop
 | 0, v, _ => ∃ (p : Option Addr) (c : Nat), v = .slice p 0 c
 | m + 1, v, ss => ∃ (p : Option Addr) (c : Nat), v = .slice p ss.length c ∧ ∀ j s, ss[j]? = some s → ∃ (g o : Nat) (vt vx vb ve : Value), p = some ⟨g, o, none⟩ ∧
   W.cell? ⟨g, o + j * 7, none⟩ = some (.int .i64 (sAt s)) ∧ W.cell? ⟨g, o + j * 7 + 1, none⟩ = some (.int .i64 (zhh s)) ∧ W.cell? ⟨g, o + j * 7 + 2, none⟩ = some (.string ⟨(zc7 s).toArray⟩) ∧
   W.cell? ⟨g, o + j * 7 + 3, none⟩ = some vt ∧ W.cell? ⟨g, o + j * 7 + 4, none⟩ = some vx ∧ W.cell? ⟨g, o + j * 7 + 5, none⟩ = some vb ∧ W.cell? ⟨g, o + j * 7 + 6, none⟩ = some ve ∧
   TyRow W D vt (sT s) ∧ (ExRow W D d vx (sX s) ∧ ExCap W D d vx (sX s)) ∧ StRow W D d m vb (sB s) ∧ StRow W D d m ve (sE s)
def StVal (W : World) (D d m : Nat) (v : Value) (s : St D d (m + 1)) : Prop :=
 ∃ (pt px pb pe : Option Addr) (ct cx cb ce : Nat), v = .agg #[.int .i64 (sAt s), .int .i64 (zhh s), .string ⟨(zc7 s).toArray⟩, .slice pt (sT s).length ct, .slice px (sX s).length cx, .slice pb (sB s).length cb, .slice pe (sE s).length ce] ∧
  TyRow W D (.slice pt (sT s).length ct) (sT s) ∧ (ExRow W D d (.slice px (sX s).length cx) (sX s) ∧ ExCap W D d (.slice px (sX s).length cx) (sX s)) ∧ StRow W D d m (.slice pb (sB s).length cb) (sB s) ∧ StRow W D d m (.slice pe (sE s).length ce) (sE s)
theorem StRow.below {w w' : World} {D d : Nat} (hb : Below w.heap.size w w') : ∀ (m : Nat) {v : Value} {ss : List (St D d m)}, StRow w D d m v ss → StRow w' D d m v ss
 | 0, _, _, h => h
 | m + 1, v, xs, h => by
  obtain ⟨p, c, rfl, hp⟩ := h
  refine ⟨p, c, rfl, fun j t ht => ?_⟩
  obtain ⟨g, o, vt, vx, vb, ve, rfl, a0, a1, a2, a3, a4, a5, a6, r1, ⟨r2, r2'⟩, r3, r4⟩ := hp j t ht
  have hg := za2 a0
  exact ⟨g, o, vt, vx, vb, ve, rfl, (hb.cell (p := ⟨g, _, none⟩) hg).trans a0, (hb.cell (p := ⟨g, _, none⟩) hg).trans a1, (hb.cell (p := ⟨g, _, none⟩) hg).trans a2, (hb.cell (p := ⟨g, _, none⟩) hg).trans a3, (hb.cell (p := ⟨g, _, none⟩) hg).trans a4, (hb.cell (p := ⟨g, _, none⟩) hg).trans a5, (hb.cell (p := ⟨g, _, none⟩) hg).trans a6, TyRow.below hb D r1, ⟨ExRow.below hb d r2, ExCap.below hb d r2'⟩, StRow.below hb m r3, StRow.below hb m r4⟩
theorem StVal.below {w w' : World} {D d m : Nat} {v : Value} {s : St D d (m + 1)} (h : StVal w D d m v s) (hb : Below w.heap.size w w') : StVal w' D d m v s := by
 obtain ⟨pt, px, pb, pe, ct, cx, cb, ce, rfl, r1, ⟨r2, r2'⟩, r3, r4⟩ := h
 exact ⟨pt, px, pb, pe, ct, cx, cb, ce, rfl, TyRow.below hb D r1, ⟨ExRow.below hb d r2, ExCap.below hb d r2'⟩, StRow.below hb m r3, StRow.below hb m r4⟩
theorem StRow.slice {w : World} {D d : Nat} : ∀ {m : Nat} {v : Value} {ss : List (St D d m)}, StRow w D d m v ss → ∃ (p : Option Addr) (c : Nat), v = .slice p ss.length c
 | 0, _, [], h => h
 | 0, _, t :: _, _ => nomatch t
 | _ + 1, _, _, ⟨p, c, e, _⟩ => ⟨p, c, e⟩
def StFit (D d m : Nat) (s : St D d (m + 1)) : Prop :=
 (zc7 s).length ≤ 1000000 ∧ zck D (sT s) ∧ (sT s).length ≤ 1000000 ∧ ExFits D d (sX s) ∧ (sX s).length ≤ 1000000 ∧ (sB s).length ≤ 1000000 ∧ (sE s).length ≤ 1000000
def zf0 (D d : Nat) : (m : Nat) → List (St D d m) → Prop
 | 0, _ => True
 | m + 1, ss => ss.length ≤ 1000000 ∧ ∀ s ∈ ss, StFit D d m s ∧ zf0 D d m (sB s) ∧ zf0 D d m (sE s)
def zf7 (K : Int) (S : Bs) (t x b e : Nat) (tk : Bool) : Bool :=
 decide (x = 1) &&
 (if K = 1 then decide (t ≤ 1) && decide (b = 0) && decide (e = 0) && tk
  else if K = 2 then decide (t = 0) && decide (b = 0) && decide (e = 0) && tk
  else if K = 3 ∨ K = 6 ∨ K = 7 then S.isEmpty && decide (t = 0) && decide (b = 0) && decide (e = 0)
  else if K = 4 then S.isEmpty && decide (t = 0)
  else if K = 5 then S.isEmpty && decide (t = 0) && decide (e = 0)
  else false)
def zff (D d m : Nat) (s : St D d (m + 1)) : Bool := zf7 (zhh s) (zc7 s) (sT s).length (sX s).length (sB s).length (sE s).length (zc8 1 (zc7 s))
def zb4 (D d : Nat) : (m : Nat) → Int → List (St D d m) → Bool
 | 0, _, _ => true
 | m + 1, room, ss => ss.all fun s => !decide (room = 0) && zff D d m s && zak D 64 (sT s) && ((sX s)[0]?.map (zbi D d 64)).getD true && zb4 D d m (room - 1) (sB s) && zb4 D d m (room - 1) (sE s)
def zkk (D d m : Nat) (room : Int) (s : St D d (m + 1)) : Bool := !decide (room = 0) && zff D d m s && zak D 64 (sT s) && ((sX s)[0]?.map (zbi D d 64)).getD true && zb4 D d m (room - 1) (sB s) && zb4 D d m (room - 1) (sE s)
theorem rightSs_drop {D d m : Nat} {room : Int} {ss : List (St D d (m + 1))} {k : Nat} (h : k < ss.length) : zb4 D d (m + 1) room (ss.drop k) = (zkk D d m room ss[k] && zb4 D d (m + 1) room (ss.drop (k + 1))) := by
 rw [List.drop_eq_getElem_cons h, zb4, zb4, List.all_cons]; rfl
def stT (K : Int) (S : Bs) (ty x b e : List Tok) (ne : Nat) : List Tok :=
 if K = 4 then tW [105, 102] :: (x ++ tS [123] :: (b ++ [tS [125]]) ++ (if 0 < ne then tW [101, 108, 115, 101] :: tS [123] :: (e ++ [tS [125]]) else []))
 else if K = 5 then tW [119, 104, 105, 108, 101] :: (x ++ tS [123] :: (b ++ [tS [125]]))
 else (if K = 1 then tW [108, 101, 116] :: tN S :: (ty ++ [tS [61]]) else if K = 2 then [tN S, tS [61]] else if K = 3 then [tW [112, 114, 105, 110, 116]] else if K = 6 then [tW [114, 101, 116, 117, 114, 110]] else []) ++ (x ++ [tS [59]])
def zf3 (D d : Nat) : (m : Nat) → List (St D d m) → List Tok
 | 0, _ => []
 | m + 1, ss => ss.flatMap fun s => stT (zhh s) (zc7 s) ((sT s).flatMap (zac D false)) (((sX s)[0]?.map (zij D d)).getD []) (zf3 D d m (sB s)) (zf3 D d m (sE s)) (sE s).length
def stTk (D d m : Nat) (s : St D d (m + 1)) : List Tok := stT (zhh s) (zc7 s) ((sT s).flatMap (zac D false)) (((sX s)[0]?.map (zij D d)).getD []) (zf3 D d m (sB s)) (zf3 D d m (sE s)) (sE s).length
def zfh (D d m : Nat) (ss : List (St D d m)) : Sum Nat Bs := if zb4 D d m 64 ss = true then join (zar [] (zf3 D d m ss)) else .inl 1
theorem shapedS_run (A K : Int) (l : Bs) (pt px pb pe : Option Addr) (t x b e ct cx cb ce : Nat) (tk : Bool) (w : World) (_h1 : t ≤ 1000000) (_h2 : x ≤ 1000000) (_h3 : b ≤ 1000000) (_h4 : e ≤ 1000000)
  (hi : ∀ W, Below w.heap.size w W → Calls Tryz.prog 102 #[.int .i64 1, .string ⟨l.toArray⟩] W fun e w' => e = .returned (.bool tk) ∧ Below W.heap.size W w') :
  Calls Tryz.prog 135 #[.agg #[.int .i64 A, .int .i64 K, .string ⟨l.toArray⟩, .slice pt t ct, .slice px x cx, .slice pb b cb, .slice pe e ce]] w fun y w' => y = .returned (.bool (zf7 K l t x b e tk)) ∧ Below w.heap.size w w' := by
 have IT := za3 hi
 clear hi
 by_cases hx : x = 1
 rotate_left
 ·have hx' : ((x : Int) == 1) = false := by rw [nb1, decide_eq_false hx]
  have hx2 : ((x : Int) != 1) = true := by rw [bne, hx']; rfl
  have HF : Hid (zf7 K l t x b e tk = false) := by show _ = _; rw [zf7, decide_eq_false hx]; rfl
  clear hx IT
  go_enter Tryz.func135, Tryz.ntmps135
  go_wp2
  go_ret
  exact ⟨by rw [za0 HF]; rfl, (Below.refl _ _).alloc (Nat.le_refl _) _⟩
 subst hx
 go_enter Tryz.func135, Tryz.ntmps135
 go_wp2
 go_quiet (fail)
 obtain ⟨W0, hW0⟩ : ∃ W0, W0 = (w.alloc (.cells #[.int .i64 A, .int .i64 K, .string ⟨l.toArray⟩, .slice pt t ct, .slice px 1 cx, .slice pb b cb, .slice pe e ce] 105)).drewN nq := ⟨_, rfl⟩
 have hbq : Below w.heap.size w W0 := by rw [hW0]; exact below_drewN ((Below.refl _ _).alloc (Nat.le_refl _) _) _
 have hlt : w.heap.size < W0.heap.size := by rw [hW0]; simp [World.drewN]
 have hc : ∀ j, W0.cell? ⟨w.heap.size, j, none⟩ = #[Value.int .i64 A, .int .i64 K, .string ⟨l.toArray⟩, .slice pt t ct, .slice px 1 cx, .slice pb b cb, .slice pe e ce][j]? := fun j => by
  rw [hW0]
  show (w.alloc _).cell? _ = _
  rw [World.cell?_alloc_at _ _ _ _ (by rfl)]
 have c1 := hc 1
 have c2 := hc 2
 simp at c1 c2
 rw [← hW0]
 clear hW0 hc
 have hk : K = 1 ∨ K = 2 ∨ K = 3 ∨ K = 4 ∨ K = 5 ∨ K = 6 ∨ K = 7 ∨ (K ≠ 1 ∧ K ≠ 2 ∧ K ≠ 3 ∧ K ≠ 4 ∧ K ≠ 5 ∧ K ≠ 6 ∧ K ≠ 7) := by omega
 have HQ := za3 hbq
 rcases hk with rfl | rfl | rfl | rfl | rfl | rfl | rfl | ⟨k1, k2, k3, k4, k5, k6, k7⟩
 all_goals
  go_wp2_with (go_at_call 102; refine (za0 IT _ (za0 HQ)).mono ?_; clear IT; rintro x w1 ⟨rfl, hb1⟩)
 any_goals
  go_ret
  refine ⟨congrArg (fun b => Ending.returned (Value.bool b)) ?_, ?_⟩
  rotate_left
  ·first | exact hbq | exact hbq.trans (hb1.mono (by omega))
  try clear IT
  clear HQ c1 c2
  first
   | (simp_all [zf7, nb0]; done)
   | (by_cases z : t ≤ 1 <;> first | (exfalso; omega) | (simp_all [zf7]; done) | (rw [zf7]; simp [z]; done))
theorem shapedStmt_any (D d m : Nat) (v : Value) (s : St D d (m + 1)) (w : World) (hv : StVal w D d m v s) (hs : StFit D d m s) (ht : Tab w) (h5 : 4 ≤ w.heap.size) :
  Calls Tryz.prog 135 #[v] w fun e w' => e = .returned (.bool (zff D d m s)) ∧ Below w.heap.size w w' := by
 obtain ⟨pt, px, pb, pe, ct, cx, cb, ce, rfl, _⟩ := hv
 obtain ⟨f1, f2, f3, f4, f5, f6, f7⟩ := hs
 exact shapedS_run _ _ (zc7 s) pt px pb pe _ _ _ _ ct cx cb ce _ w f3 f5 f6 f7 fun W hW => zft 1 (zc7 s) W (by omega) (ht.below hW h5) (by have := hW.size; omega)
def RightSsAt (D d m : Nat) : Prop := ∀ (v : Value) (ss : List (St D d m)) (room : Int) (w : World), StRow w D d m v ss → zf0 D d m ss → 0 ≤ room → room ≤ 1000000 → Tab w → 4 ≤ w.heap.size →
 Calls Tryz.prog 63 #[v, .int .i64 room] w fun e w' => e = .returned (.bool (zb4 D d m room ss)) ∧ Below w.heap.size w w'
abbrev sBox (A K : Int) (S : ByteArray) (pt px pb pe : Option Addr) (t x b e ct cx cb ce : Nat) : Obj := .cells #[.int .i64 A, .int .i64 K, .string S, .slice pt t ct, .slice px x cx, .slice pb b cb, .slice pe e ce] 105
theorem zau {A K : Int} {S : ByteArray} {pt px pb pe : Option Addr} {t x b e ct cx cb ce : Nat} {w wr : World} (hb : Below (w.alloc (sBox A K S pt px pb pe t x b e ct cx cb ce)).heap.size (w.alloc (sBox A K S pt px pb pe t x b e ct cx cb ce)) wr) :
  wr.cell? ⟨w.heap.size, 0, none⟩ = some (.int .i64 A) ∧ wr.cell? ⟨w.heap.size, 1, none⟩ = some (.int .i64 K) ∧ wr.cell? ⟨w.heap.size, 2, none⟩ = some (.string S) ∧ wr.cell? ⟨w.heap.size, 3, none⟩ = some (.slice pt t ct) ∧ wr.cell? ⟨w.heap.size, 4, none⟩ = some (.slice px x cx) ∧ wr.cell? ⟨w.heap.size, 5, none⟩ = some (.slice pb b cb) ∧ wr.cell? ⟨w.heap.size, 6, none⟩ = some (.slice pe e ce) := by
 have h : ∀ j, wr.cell? ⟨w.heap.size, j, none⟩ = (#[Value.int .i64 A, .int .i64 K, .string S, .slice pt t ct, .slice px x cx, .slice pb b cb, .slice pe e ce])[j]? := fun j => by
  rw [hb.cell (p := ⟨w.heap.size, j, none⟩) (by simp), World.cell?_alloc_at _ _ _ _ rfl]
 exact ⟨h 0, h 1, h 2, h 3, h 4, h 5, h 6⟩
theorem zcd {u v w : World} (h : Below u.heap.size u v) (k : Below v.heap.size v w) : Below u.heap.size u w := h.trans (k.mono h.size)
theorem sal1 (w : World) (O : Obj) : Below w.heap.size w (w.alloc O) := (Below.refl _ _).alloc (Nat.le_refl _) _
theorem rightStmt_run (A K : Int) (S : ByteArray) (pt px pb pe : Option Addr) (t x b e ct cx cb ce : Nat) (room : Int) (w : World) (h0 : 0 ≤ room) (h1 : room ≤ 1000000) (z1 z2 z3 z4 z5 : Bool)
  (hS : ∀ W, Below w.heap.size w W → Calls Tryz.prog 135 #[.agg #[.int .i64 A, .int .i64 K, .string S, .slice pt t ct, .slice px x cx, .slice pb b cb, .slice pe e ce]] W fun e w' => e = .returned (.bool z1) ∧ Below W.heap.size W w')
  (hT : ∀ W, Below w.heap.size w W → Calls Tryz.prog 82 #[.slice pt t ct, .int .i64 64] W fun e w' => e = .returned (.bool z2) ∧ Below W.heap.size W w')
  (hX : z1 = true → ∃ (g o : Nat) (A' K' N' : Int) (S' : ByteArray) (p1 p2 p3 : Option Addr) (n1 n2 n3 c1 c2 c3 : Nat), px = some ⟨g, o, none⟩ ∧ 1 ≤ x ∧ w.cell? ⟨g, o, none⟩ = some (.int .i64 A') ∧ w.cell? ⟨g, o + 1, none⟩ = some (.int .i64 K') ∧ w.cell? ⟨g, o + 2, none⟩ = some (.int .i64 N') ∧ w.cell? ⟨g, o + 3, none⟩ = some (.string S') ∧ w.cell? ⟨g, o + 4, none⟩ = some (.slice p1 n1 c1) ∧ w.cell? ⟨g, o + 5, none⟩ = some (.slice p2 n2 c2) ∧ w.cell? ⟨g, o + 6, none⟩ = some (.slice p3 n3 c3) ∧
   ∀ W, Below w.heap.size w W → Calls Tryz.prog 54 #[.agg #[.int .i64 A', .int .i64 K', .int .i64 N', .string S', .slice p1 n1 c1, .slice p2 n2 c2, .slice p3 n3 c3], .int .i64 64] W fun e w' => e = .returned (.bool z3) ∧ Below W.heap.size W w')
  (hB : 0 < room → ∀ W, Below w.heap.size w W → Calls Tryz.prog 63 #[.slice pb b cb, .int .i64 (room - 1)] W fun e w' => e = .returned (.bool z4) ∧ Below W.heap.size W w')
  (hE : 0 < room → ∀ W, Below w.heap.size w W → Calls Tryz.prog 63 #[.slice pe e ce, .int .i64 (room - 1)] W fun e w' => e = .returned (.bool z5) ∧ Below W.heap.size W w') :
  Calls Tryz.prog 94 #[.agg #[.int .i64 A, .int .i64 K, .string S, .slice pt t ct, .slice px x cx, .slice pb b cb, .slice pe e ce], .int .i64 room] w fun y w' => y = .returned (.bool (!decide (room = 0) && z1 && z2 && z3 && z4 && z5)) ∧ Below w.heap.size w w' := by
 have HA : Hid (Below w.heap.size w (w.alloc (sBox A K S pt px pb pe t x b e ct cx cb ce))) := sal1 _ _
 have SH := za3 (hS _ (za0 HA))
 have ST := za3 hT
 have SX := za3 hX
 clear hS hT hX
 by_cases hr : room = 0
 ·subst hr
  clear SH ST SX hB hE
  go_enter Tryz.func94, Tryz.ntmps94
  go_wp2
  go_ret
  exact ⟨by simp, za0 HA⟩
 have hrb : (!decide (room = 0)) = true := by simp [hr]
 have hr0 : (room == 0) = false := beq_eq_false_iff_ne.2 hr
 have e1 : IntKind.i64.wrap (room - 1) = room - 1 := by rw [IntKind.wrap_i64]; omega
 have SB := za3 (hB (by omega))
 have SE := za3 (hE (by omega))
 rw [hrb, Bool.true_and]
 clear hB hE hrb
 cases z1
 ·go_enter Tryz.func94, Tryz.ntmps94
  go_wp2_with (go_at_call 135; refine (za0 SH).mono ?_; clear SH; rintro y w1 ⟨rfl, hb1⟩)
  go_ret
  exact ⟨by simp, zcd (za0 HA) hb1⟩
 obtain ⟨g, o, A', K', N', S', p1, p2, p3, n1, n2, n3, c1, c2, c3, rfl, hx1, a0, a1, a2, a3, a4, a5, a6, RX⟩ := za0 SX rfl
 have HX := za3 RX
 have HC : Hid (∀ W, Below w.heap.size w W → W.cell? ⟨g, o, none⟩ = some (.int .i64 A') ∧ W.cell? ⟨g, o + 1, none⟩ = some (.int .i64 K') ∧ W.cell? ⟨g, o + 2, none⟩ = some (.int .i64 N') ∧ W.cell? ⟨g, o + 3, none⟩ = some (.string S') ∧ W.cell? ⟨g, o + 4, none⟩ = some (.slice p1 n1 c1) ∧ W.cell? ⟨g, o + 5, none⟩ = some (.slice p2 n2 c2) ∧ W.cell? ⟨g, o + 6, none⟩ = some (.slice p3 n3 c3)) := fun W h =>
  ⟨(h.cell (p := ⟨g, _, none⟩) (za2 a0)).trans a0, (h.cell (p := ⟨g, _, none⟩) (za2 a1)).trans a1, (h.cell (p := ⟨g, _, none⟩) (za2 a2)).trans a2, (h.cell (p := ⟨g, _, none⟩) (za2 a3)).trans a3, (h.cell (p := ⟨g, _, none⟩) (za2 a4)).trans a4, (h.cell (p := ⟨g, _, none⟩) (za2 a5)).trans a5, (h.cell (p := ⟨g, _, none⟩) (za2 a6)).trans a6⟩
 have hx' : (0 : Int) < (x : Int) := by omega
 clear SX RX a0 a1 a2 a3 a4 a5 a6
 cases z2
 ·go_enter Tryz.func94, Tryz.ntmps94
  go_wp2_with (first
   | (go_at_call 135; refine (za0 SH).mono ?_; clear SH; rintro y w1 ⟨rfl, hb1⟩; obtain ⟨d0, d1, d2, d3, d4, d5, d6⟩ := zau hb1)
   | (go_at_call 82; refine (za0 ST _ (zcd (za0 HA) hb1)).mono ?_; clear ST; rintro y w2 ⟨rfl, hb2⟩))
  go_ret
  exact ⟨by simp, zcd (zcd (za0 HA) hb1) hb2⟩
 cases z3
 ·go_enter Tryz.func94, Tryz.ntmps94
  go_wp2_with (first
   | (go_at_call 135; refine (za0 SH).mono ?_; clear SH; rintro y w1 ⟨rfl, hb1⟩; obtain ⟨d0, d1, d2, d3, d4, d5, d6⟩ := zau hb1)
   | (go_at_call 82; refine (za0 ST _ (zcd (za0 HA) hb1)).mono ?_; clear ST; rintro y w2 ⟨rfl, hb2⟩; obtain ⟨d0, d1, d2, d3, d4, d5, d6⟩ := zau (zcd hb1 hb2); obtain ⟨x0, x1, x2, x3, x4, x5, x6⟩ := za0 HC _ (zcd (zcd (za0 HA) hb1) hb2))
   | (go_at_call 54; refine (za0 HX _ (zcd (zcd (za0 HA) hb1) hb2)).mono ?_; clear HX; rintro y w3 ⟨rfl, hb3⟩))
  go_ret
  exact ⟨by simp, zcd (zcd (zcd (za0 HA) hb1) hb2) hb3⟩
 cases z4
 ·go_enter Tryz.func94, Tryz.ntmps94
  go_wp2_with (first
   | (go_at_call 135; refine (za0 SH).mono ?_; clear SH; rintro y w1 ⟨rfl, hb1⟩; obtain ⟨d0, d1, d2, d3, d4, d5, d6⟩ := zau hb1)
   | (go_at_call 82; refine (za0 ST _ (zcd (za0 HA) hb1)).mono ?_; clear ST; rintro y w2 ⟨rfl, hb2⟩; obtain ⟨d0, d1, d2, d3, d4, d5, d6⟩ := zau (zcd hb1 hb2); obtain ⟨x0, x1, x2, x3, x4, x5, x6⟩ := za0 HC _ (zcd (zcd (za0 HA) hb1) hb2))
   | (go_at_call 54; refine (za0 HX _ (zcd (zcd (za0 HA) hb1) hb2)).mono ?_; clear HX; rintro y w3 ⟨rfl, hb3⟩; obtain ⟨d0, d1, d2, d3, d4, d5, d6⟩ := zau (zcd (zcd hb1 hb2) hb3))
   | (go_at_call 63; refine (za0 SB _ (zcd (zcd (zcd (za0 HA) hb1) hb2) hb3)).mono ?_; clear SB; rintro y w4 ⟨rfl, hb4⟩))
  go_ret
  exact ⟨by simp, zcd (zcd (zcd (zcd (za0 HA) hb1) hb2) hb3) hb4⟩
 go_enter Tryz.func94, Tryz.ntmps94
 go_wp2_with (first
  | (go_at_call 135; refine (za0 SH).mono ?_; clear SH; rintro y w1 ⟨rfl, hb1⟩; obtain ⟨d0, d1, d2, d3, d4, d5, d6⟩ := zau hb1)
  | (go_at_call 82; refine (za0 ST _ (zcd (za0 HA) hb1)).mono ?_; clear ST; rintro y w2 ⟨rfl, hb2⟩; obtain ⟨d0, d1, d2, d3, d4, d5, d6⟩ := zau (zcd hb1 hb2); obtain ⟨x0, x1, x2, x3, x4, x5, x6⟩ := za0 HC _ (zcd (zcd (za0 HA) hb1) hb2))
  | (go_at_call 54; refine (za0 HX _ (zcd (zcd (za0 HA) hb1) hb2)).mono ?_; clear HX; rintro y w3 ⟨rfl, hb3⟩; obtain ⟨d0, d1, d2, d3, d4, d5, d6⟩ := zau (zcd (zcd hb1 hb2) hb3))
  | (go_at_call 63; refine (za0 SB _ (zcd (zcd (zcd (za0 HA) hb1) hb2) hb3)).mono ?_; clear SB; rintro y w4 ⟨rfl, hb4⟩; obtain ⟨d0, d1, d2, d3, d4, d5, d6⟩ := zau (zcd (zcd (zcd hb1 hb2) hb3) hb4))
  | (go_at_call 63; refine (za0 SE _ (zcd (zcd (zcd (zcd (za0 HA) hb1) hb2) hb3) hb4)).mono ?_; clear SE; rintro y w5 ⟨rfl, hb5⟩))
 go_ret
 exact ⟨by simp, zcd (zcd (zcd (zcd (zcd (za0 HA) hb1) hb2) hb3) hb4) hb5⟩
theorem zle {D d m : Nat} {s : St D d (m + 1)} (h : zff D d m s = true) : (sX s).length = 1 := by
 unfold zff zf7 at h
 simp only [Bool.and_eq_true, decide_eq_true_eq] at h
 exact h.1
theorem ExRow.first {w : World} {D : Nat} : ∀ {d : Nat} {p : Option Addr} {c : Nat} {xs : List (Ex D d)}, ExRow w D d (.slice p xs.length c) xs → ExFits D d xs → 1 ≤ xs.length → Tab w → 4 ≤ w.heap.size → ∃ (g o : Nat) (A' K' N' : Int) (S' : ByteArray) (p1 p2 p3 : Option Addr) (n1 n2 n3 c1 c2 c3 : Nat), p = some ⟨g, o, none⟩ ∧ w.cell? ⟨g, o, none⟩ = some (.int .i64 A') ∧ w.cell? ⟨g, o + 1, none⟩ = some (.int .i64 K') ∧ w.cell? ⟨g, o + 2, none⟩ = some (.int .i64 N') ∧ w.cell? ⟨g, o + 3, none⟩ = some (.string S') ∧ w.cell? ⟨g, o + 4, none⟩ = some (.slice p1 n1 c1) ∧ w.cell? ⟨g, o + 5, none⟩ = some (.slice p2 n2 c2) ∧ w.cell? ⟨g, o + 6, none⟩ = some (.slice p3 n3 c3) ∧
   ∀ W, Below w.heap.size w W → Calls Tryz.prog 54 #[.agg #[.int .i64 A', .int .i64 K', .int .i64 N', .string S', .slice p1 n1 c1, .slice p2 n2 c2, .slice p3 n3 c3], .int .i64 64] W fun e w' => e = .returned (.bool ((xs[0]?.map (zbi D d 64)).getD true)) ∧ Below W.heap.size W w'
 | 0, _, _, [], _, _, h, _, _ => by simp at h
 | 0, _, _, x :: _, _, _, _, _, _ => nomatch x
 | d + 1, p, c, xs, hr, hf, h1, ht, h5 => by
  obtain ⟨p', c', e, hp⟩ := hr
  injection e with e1 e2 e3
  subst e1
  have hk' : xs[0]? = some xs[0] := by simp
  obtain ⟨g, o, vt, vn, vp, rfl, a0, a1, a2, a3, a4, a5, a6, q1, q2, q3⟩ := hp 0 _ hk'
  obtain ⟨f1, f2⟩ := hf.2 _ (List.mem_of_getElem? hk')
  obtain ⟨p1, c1, rfl⟩ := q1.slice
  obtain ⟨p2, c2, rfl, h2⟩ := q2
  obtain ⟨p3, c3, rfl⟩ := q3.slice
  simp only [Nat.zero_mul, Nat.add_zero] at a0 a1 a2 a3 a4 a5 a6
  refine ⟨g, o, _, _, _, _, p1, p2, p3, _, _, _, c1, c2, c3, rfl, a0, a1, a2, a3, a4, a5, a6, fun W hW => ?_⟩
  rw [hk']
  exact zfl D d _ _ 64 W (ExVal.below (w := w) ⟨p1, p2, p3, c1, c2, c3, rfl, q1, ⟨p2, c2, rfl, h2⟩, q3⟩ hW) f1 f2 (by omega) (by omega) (ht.below hW h5) (by have := hW.size; omega)
theorem rightStmt_of (D d m : Nat) (IH : RightSsAt D d m) (v : Value) (s : St D d (m + 1)) (room : Int) (w : World) (hv : StVal w D d m v s) (hs : StFit D d m s) (hfb : zf0 D d m (sB s)) (hfe : zf0 D d m (sE s)) (h0 : 0 ≤ room) (h1 : room ≤ 1000000) (ht : Tab w) (h5 : 4 ≤ w.heap.size) :
  Calls Tryz.prog 94 #[v, .int .i64 room] w fun e w' => e = .returned (.bool (zkk D d m room s)) ∧ Below w.heap.size w w' := by
 have hv0 := hv
 obtain ⟨pt, px, pb, pe, ct, cx, cb, ce, rfl, r1, ⟨r2, _⟩, r3, r4⟩ := hv
 refine rightStmt_run _ _ _ pt px pb pe _ _ _ _ ct cx cb ce room w h0 h1 _ _ (((sX s)[0]?.map (zbi D d 64)).getD true) _ _ (fun W hW => shapedStmt_any D d m _ s W (hv0.below hW) hs (ht.below hW h5) (by have := hW.size; omega))
  (fun W hW => zd7 D _ _ 64 W (TyRow.below hW D r1) hs.2.1 (by omega) (by omega) (ht.below hW h5) (by have := hW.size; omega)) (fun hz => ?_)
  (fun hr W hW => IH _ _ _ W (StRow.below hW m r3) hfb (by omega) (by omega) (ht.below hW h5) (by have := hW.size; omega)) (fun hr W hW => IH _ _ _ W (StRow.below hW m r4) hfe (by omega) (by omega) (ht.below hW h5) (by have := hW.size; omega))
 have hl := zle hz
 obtain ⟨g, o, A', K', N', S', p1, p2, p3, n1, n2, n3, c1, c2, c3, q⟩ := ExRow.first r2 hs.2.2.2.1 (by omega) ht h5
 exact ⟨g, o, A', K', N', S', p1, p2, p3, n1, n2, n3, c1, c2, c3, q.1, by omega, q.2⟩
theorem zlo (p : Option Addr) (c : Nat) (room : Int) (w : World) : Calls Tryz.prog 63 #[.slice p 0 c, .int .i64 room] w fun e w' => e = .returned (.bool true) ∧ Below w.heap.size w w' := by
 go_enter Tryz.func63, Tryz.ntmps63
 go_wp2
 go_loopw [9] (fun i wr => i = .int .i64 0 ∧ wr = w) (fun _ _ => 0)
 case atStart => exact ⟨rfl, rfl⟩
 case round =>
  obtain ⟨rfl, rfl⟩ := hrel
  go_wp2
  go_ret
  exact ⟨rfl, Below.refl _ _⟩
theorem zh1 (D d : Nat) : ∀ m, RightSsAt D d m
 | 0 => fun v ss room w hv _ _ _ _ _ => by
  obtain ⟨p, c, rfl⟩ := hv
  exact zlo p c room w
 | m + 1 => fun v ss room w hv hf h0 h1 ht h5 => by
  have IH := za3 (zh1 D d m)
  obtain ⟨p, c, rfl, hp⟩ := hv
  have hlen := hf.1
  have HP := za3 hp
  have HF := za3 hf.2
  have HT := za3 ht
  clear hp hf ht
  go_enter Tryz.func63, Tryz.ntmps63
  go_wp2
  go_loopw [9] (fun i wr => ∃ k : Nat, i = .int .i64 k ∧ k ≤ ss.length ∧ Hid (zb4 D d (m + 1) room ss = zb4 D d (m + 1) room (ss.drop k)) ∧ Below w.heap.size w wr) (fun i _ => ss.length - (intOf i).toNat)
  case atStart => exact ⟨0, rfl, by omega, rfl, Below.refl _ _⟩
  case round =>
   obtain ⟨k, rfl, hk, HM, hb⟩ := hrel
   by_cases hlt : k < ss.length
   ·obtain ⟨g, o, vt, vx, vb, ve, rfl, a0, a1, a2, a3, a4, a5, a6, r1, r2, r3, r4⟩ := za0 HP k ss[k] (by simp [hlt])
    have hlt' : (k : Int) < (ss.length : Int) := by omega
    obtain ⟨q1, q2, q3⟩ := za0 HF ss[k] (by simp)
    obtain ⟨pt, ct, rfl⟩ := r1.slice
    obtain ⟨px, cx, rfl⟩ := r2.1.slice
    obtain ⟨pb, cb, rfl⟩ := r3.slice
    obtain ⟨pe, ce, rfl⟩ := r4.slice
    have TV : Hid (StVal w D d m (.agg #[.int .i64 (sAt ss[k]), .int .i64 (zhh ss[k]), .string ⟨(zc7 ss[k]).toArray⟩, .slice pt (sT ss[k]).length ct, .slice px (sX ss[k]).length cx, .slice pb (sB ss[k]).length cb, .slice pe (sE ss[k]).length ce]) ss[k]) := ⟨pt, px, pb, pe, ct, cx, cb, ce, rfl, r1, r2, r3, r4⟩
    have hg := za2 a0
    have b0 := (hb.cell (p := ⟨g, _, none⟩) hg).trans a0
    have b1 := (hb.cell (p := ⟨g, _, none⟩) hg).trans a1
    have b2 := (hb.cell (p := ⟨g, _, none⟩) hg).trans a2
    have b3 := (hb.cell (p := ⟨g, _, none⟩) hg).trans a3
    have b4 := (hb.cell (p := ⟨g, _, none⟩) hg).trans a4
    have b5 := (hb.cell (p := ⟨g, _, none⟩) hg).trans a5
    have b6 := (hb.cell (p := ⟨g, _, none⟩) hg).trans a6
    have HB := za3 hb
    have HD := za3 (rightSs_drop (room := room) hlt)
    have hsz := hb.size
    obtain ⟨z, hz⟩ : ∃ z, z = zkk D d m room ss[k] := ⟨_, rfl⟩
    have RT : Hid (∀ W, Below w.heap.size w W → Calls Tryz.prog 94 #[.agg #[.int .i64 (sAt ss[k]), .int .i64 (zhh ss[k]), .string ⟨(zc7 ss[k]).toArray⟩, .slice pt (sT ss[k]).length ct, .slice px (sX ss[k]).length cx, .slice pb (sB ss[k]).length cb, .slice pe (sE ss[k]).length ce], .int .i64 room] W fun e w' => e = .returned (.bool z) ∧ Below W.heap.size W w') := fun W hW => by
     rw [hz]
     exact rightStmt_of D d m (za0 IH) _ ss[k] room W ((za0 TV).below hW) q1 q2 q3 (by omega) h1 ((za0 HT).below hW h5) (by have := hW.size; omega)
    rw [← hz] at HD
    clear a0 a1 a2 a3 a4 a5 a6 r1 r2 r3 r4 hb TV q1 q2 q3 hz
    cases z
    ·go_wp2_with (go_at_call 94; refine (za0 RT _ ((za0 HB).alloc hsz _)).mono ?_; clear RT; rintro x w1 ⟨rfl, hb1⟩)
     go_ret
     exact ⟨by rw [za0 HM, za0 HD]; rfl, ((za0 HB).alloc hsz _).trans (hb1.mono (by simp; omega))⟩
    ·go_wp2_with (go_at_call 94; refine (za0 RT _ ((za0 HB).alloc hsz _)).mono ?_; clear RT; rintro x w1 ⟨rfl, hb1⟩)
     go_roundw
     case rel => exact ⟨k + 1, by go_num, by omega, (by rw [za0 HM, za0 HD]; rfl), ((za0 HB).alloc hsz _).trans (hb1.mono (by simp; omega))⟩
     case measure => simp [intOf]; omega
   ·go_wp2
    go_ret
    exact ⟨by rw [za0 HM, List.drop_of_length_le (by omega)]; rfl, hb⟩
end Go.Proofs.YtmpbbmfbgcpplaaGreatDoor
