import Derived.Test.YtmpbbmfbgcpplaaGreatDoorQRunsG
set_option maxHeartbeats 4000000
set_option maxRecDepth 100000
namespace Go.Proofs.YtmpbbmfbgcpplaaGreatDoor
open Go Go.RowKit Lx
theorem SRow.of_owns {W : World} {base : Nat} {v : Value} {ns : List Bs} (h : W.ownsRow base 9 1 v ns.length (zcg ns)) : SRow W v ns := by
 rcases h.2 with ⟨rfl, h0⟩ | ⟨g, cap, cur, rfl, hb, hg, hc, hm, hs, ht⟩
 ·have : ns = [] := List.eq_nil_of_length_eq_zero h0
  subst this
  exact ⟨none, 0, rfl, fun j t h => by simp at h⟩
 ·refine ⟨_, cap, rfl, fun j t hj => ⟨g, 0, rfl, ?_⟩⟩
  have hu : (zcg ns)[j]? = some (.string ⟨t.toArray⟩) := by simp [zcg, hj]
  rw [Lib.cell_of_heap hg, Nat.zero_add, ← Array.getElem?_toList]
  rw [← ht] at hu
  rw [List.getElem?_take] at hu
  split at hu
  ·exact hu
  ·cases hu
abbrev z0 : Value := .slice none 0 0
abbrev nmO : Obj := .cells #[.string ⟨#[97]⟩, .string ⟨#[98]⟩] 9
abbrev emO : Obj := .cells #[.bool false, .bool true] 4
abbrev ptO : Obj := .cells #[.int .i64 1, .string ⟨#[]⟩, z0, z0, z0, .int .i64 4, .string ⟨#[66]⟩, z0, z0, z0] 53
abbrev recO (a b c : Nat) : Obj := .cells #[.int .i64 6, .string ⟨#[]⟩, .slice (some ⟨a, 0, none⟩) 2 2, .slice (some ⟨b, 0, none⟩) 2 2, .slice (some ⟨c, 0, none⟩) 2 2] 53
abbrev pO (g : Nat) : Obj := .cells #[.int .i64 5, .string ⟨#[]⟩, z0, z0, .slice (some ⟨g, 0, none⟩) 1 1] 53
abbrev snO : Obj := .cells #[.string ⟨#[97]⟩] 9
abbrev fO (c : Nat) : Obj := .cells #[.int .i64 7, .string ⟨#[]⟩, z0, z0, .slice (some ⟨c, 0, none⟩) 2 2] 53
abbrev iO (n g : Nat) : Obj := .cells #[.int .i64 8, .string ⟨#[]⟩, .slice (some ⟨n, 0, none⟩) 1 1, z0, .slice (some ⟨g, 0, none⟩) 1 1] 53
def FF (w W0 : World) (r a b c p gp i gi gn : Nat) (W : World) : Prop :=
 W.heap[r]? = some (recO a b c) ∧ W.heap[p]? = some (pO gp) ∧ W.heap[i]? = some (iO gn gi) ∧ KnowsP gp W ∧ KnowsI gi gn W ∧ Below W0.heap.size W0 W ∧ Below w.heap.size w W ∧ Tab W ∧ 4 ≤ W.heap.size
theorem FF.on {w W0 : World} {r a b c p gp i gi gn : Nat} {W W' : World} (h : FF w W0 r a b c p gp i gi gn W) (hb : Below W.heap.size W W') : FF w W0 r a b c p gp i gi gn W' := by
 obtain ⟨h1, h2, h3, h4, h5, h6, h7, h8, h9⟩ := h
 exact ⟨kp hb h1, kp hb h2, kp hb h3, h4.below hb, h5.below hb, bon h6 hb, bon h7 hb, h8.below hb h9, Nat.le_trans h9 hb.size⟩
abbrev zg0 (K : Int) (g : Nat) : Obj := .cells #[.int .i64 0, .int .i64 K, .int .i64 0, .string ⟨#[97]⟩, z0, z0, .slice (some ⟨g, 0, none⟩) 1 1] 28
def GG (w W0 : World) (r a b c gx fb cb xb yb : Nat) (W : World) : Prop :=
 W.heap[r]? = some (recO a b c) ∧ Below W0.heap.size W0 W ∧ Below w.heap.size w W ∧ Tab W ∧ 4 ≤ W.heap.size ∧ W.heap[gx]? = some (varO ⟨#[120]⟩) ∧ W.heap[fb]? = some (zg0 9 gx) ∧ W.heap[cb]? = some (zg0 10 gx) ∧ W.heap[xb]? = some (varO ⟨#[120]⟩) ∧ W.heap[yb]? = some (varO ⟨#[121]⟩)
theorem GG.on {w W0 : World} {r a b c gx fb cb xb yb : Nat} {W W' : World} (h : GG w W0 r a b c gx fb cb xb yb W) (hb : Below W.heap.size W W') : GG w W0 r a b c gx fb cb xb yb W' := by
 obtain ⟨h1, h2, h3, h4, h5, h6, h7, h8, h9, h10⟩ := h
 exact ⟨kp hb h1, bon h2 hb, bon h3 hb, h4.below hb h5, Nat.le_trans h5 hb.size, kp hb h6, kp hb h7, kp hb h8, kp hb h9, kp hb h10⟩
theorem zd8 (d : Nat) (t : Ty (d + 1)) (r : List (Ty (d + 1))) : many (d + 1) (t :: r) = 1 + many d t.2.2.2.2 + many (d + 1) r := by rw [many]
theorem zew : ∀ d, many d [] = 0
 | 0 => by rw [many]
 | _ + 1 => by rw [many]
theorem many_1 : many 1 [tInt 0, tB 0] = 2 := by rw [zd8, zd8, pInt, pB, zew, zew]
theorem many_p : many 3 [tP] ≤ 1000000 := by rw [zd8, pP, zd8, pR, many_1, zew, zew]; decide
theorem many_i : many 3 [tI] ≤ 1000000 := by rw [zd8, pI, zd8, pF, many_1, zew, zew]; decide
theorem many_pi : many 3 [tP, tI] ≤ 1000000 := by rw [zd8, zd8, pI, pP, zd8, zd8, pR, pF, many_1, zew, zew]; decide
theorem zix {W : World} {v : Value} {ts : List (Ty 3)} {n : Nat} (h : TyRow W 3 v ts) (hm : many 3 ts ≤ 1000000) (hn : nodes 3 ts = n) : Calls Tryz.prog 33 #[v] W fun e w' => e = .returned (.int .i64 (n : Nat)) ∧ Below W.heap.size W w' := hn ▸ Nodes_any 3 v ts W h hm
theorem depth_call {W : World} {v : Value} (h : TyRow W 3 v [tP]) : Calls Tryz.prog 36 #[v] W fun e w' => e = .returned (.int .i64 3) ∧ Below W.heap.size W w' := (zke 3 v _ W h many_p).mono fun e w' ⟨he, hb⟩ => ⟨by rw [he, deep_p]; rfl, hb⟩
theorem depth_call0 (W : World) : Calls Tryz.prog 36 #[.slice none 0 0] W fun e w' => e = .returned (.int .i64 0) ∧ Below W.heap.size W w' := (zke 0 _ [] W ⟨none, 0, rfl⟩ (by simp [many])).mono fun e w' ⟨he, hb⟩ => ⟨by rw [he]; simp [deep], hb⟩
theorem names_call {W : World} {v : Value} (h : TyRow W 3 v [tP]) : Calls Tryz.prog 35 #[v] W fun e w' => (∃ u, e = .returned u ∧ SRow w' u [[66]]) ∧ Below W.heap.size W w' :=
 (Names_any 3 v _ W h ⟨by simp, fun t ht => by rw [List.mem_singleton.1 ht]; exact fit_P⟩ many_p).mono fun e w' ⟨hb, u, he, ho⟩ => ⟨⟨u, he, by rw [names_p] at ho; exact SRow.of_owns ho⟩, hb⟩
theorem SyntaxRuns_any (w : World) (ht : Tab w) (h5 : 4 ≤ w.heap.size) : Calls Tryz.prog 7 #[] w fun e w' => e = .returned (.bool true) ∧ Below w.heap.size w w' := by
 have HT := za3 ht
 clear ht
 go_enter Tryz.func7, Tryz.ntmps7
 go_wp2_with fail
 refine (ty_any _ _ _ _ _).mono ?_
 rintro _ w1 ⟨rfl, h1⟩
 have n1 := za3 (kp h1 (hp2a w nmO emO))
 have e1 := za3 (kp h1 (hp2b w nmO emO))
 have B1 := za3 (bon (al2 w nmO emO) h1)
 clear h1
 go_wp2_with fail
 refine (zlp _ _).mono ?_
 rintro _ w2 ⟨rfl, h2⟩
 replace n1 := za3 (kp h2 (za0 n1))
 replace e1 := za3 (kp h2 (za0 e1))
 replace B1 := za3 (bon (za0 B1) h2)
 clear h2
 have R0 : Hid (SRow (w2.alloc ptO) (.slice (some ⟨w.heap.size, 0, none⟩) 2 2) [[97], [98]] ∧ BRow (w2.alloc ptO) (.slice (some ⟨w.heap.size + 1, 0, none⟩) 2 2) [false, true] ∧ TyRow (w2.alloc ptO) 1 (.slice (some ⟨w2.heap.size, 0, none⟩) 2 2) [tInt 0, tB 0]) :=
  ⟨srow2 (s := [97]) (u := [98]) (kp (al1 _ _) (za0 n1)), brow2 (kp (al1 _ _) (za0 e1)), TyRow.two (S := []) (S' := [66]) (hp1 w2 ptO) (SRow.nil _) (BRow.nil _) (TyRow.nil _ 0) (SRow.nil _) (BRow.nil _) (TyRow.nil _ 0)⟩
 clear n1 e1
 go_wp2_with fail
 refine (ty_any _ _ _ _ _).mono ?_
 rintro _ w3 ⟨rfl, h3⟩
 have hrec := za3 (kp h3 (hp3b w2 ptO (recO w.heap.size (w.heap.size + 1) w2.heap.size) (recO w.heap.size (w.heap.size + 1) w2.heap.size)))
 have hsl := kp h3 (hp3c w2 ptO (recO w.heap.size (w.heap.size + 1) w2.heap.size) (recO w.heap.size (w.heap.size + 1) w2.heap.size))
 have HB0 := za3 (bon (al2 (w2.alloc ptO) (recO w.heap.size (w.heap.size + 1) w2.heap.size) (recO w.heap.size (w.heap.size + 1) w2.heap.size)) h3)
 have kP : Hid (KnowsP (w2.heap.size + 1 + 1) w3) := TyRow.one (S := []) hsl ((za0 R0).1.below (za0 HB0)) ((za0 R0).2.1.below (za0 HB0)) (TyRow.below (za0 HB0) 1 (za0 R0).2.2)
 clear h3 hsl
 go_wp2_with fail
 refine (ty_any _ _ _ _ _).mono ?_
 rintro _ w4 ⟨rfl, h4⟩
 have hpb := za3 (kp h4 (hp2a w3 (pO (w2.heap.size + 1 + 1)) snO))
 have hsn := za3 (kp h4 (hp2b w3 (pO (w2.heap.size + 1 + 1)) snO))
 have b4 := bon (al2 w3 (pO (w2.heap.size + 1 + 1)) snO) h4
 replace hrec := za3 (kp b4 (za0 hrec))
 replace HB0 := za3 (bon (za0 HB0) b4)
 replace kP := za3 ((za0 kP).below b4)
 clear h4 b4
 go_wp2_with fail
 refine (zlp _ _).mono ?_
 rintro _ w5 ⟨rfl, b5⟩
 replace hpb := za3 (kp b5 (za0 hpb))
 replace hsn := za3 (kp b5 (za0 hsn))
 replace hrec := za3 (kp b5 (za0 hrec))
 replace HB0 := za3 (bon (za0 HB0) b5)
 replace kP := za3 ((za0 kP).below b5)
 clear b5
 go_wp2_with fail
 refine (ty_any _ _ _ _ _).mono ?_
 rintro _ w6 ⟨rfl, h6⟩
 have hpt := za3 (kp h6 (hp1 w5 ptO))
 have b6 := bon (al1 w5 ptO) h6
 replace hpb := za3 (kp b6 (za0 hpb))
 replace hsn := za3 (kp b6 (za0 hsn))
 replace hrec := za3 (kp b6 (za0 hrec))
 replace HB0 := za3 (bon (za0 HB0) b6)
 replace kP := za3 ((za0 kP).below b6)
 clear h6 b6
 obtain ⟨p0, p1, p2, p3, p4⟩ := tc5 (za0 hpb)
 have hlt := za2 p0
 go_wp2_with fail
 have bY := al2 w6 (fO w5.heap.size) (iO (w3.heap.size + 1) w6.heap.size)
 have bw := bon (bon (bon (za0 B1) (al1 w2 ptO)) (za0 HB0)) bY
 have F7 : Hid (FF w (w2.alloc ptO) (w2.heap.size + 1) w.heap.size (w.heap.size + 1) w2.heap.size w3.heap.size (w2.heap.size + 1 + 1) (w6.heap.size + 1) w6.heap.size (w3.heap.size + 1) ((w6.alloc (fO w5.heap.size)).alloc (iO (w3.heap.size + 1) w6.heap.size))) :=
  ⟨kp bY (za0 hrec), kp bY (za0 hpb), hp2b w6 _ _, (za0 kP).below bY, ⟨TyRow.one (S := []) (hp2a w6 _ _) (SRow.nil _) (BRow.nil _) (TyRow.two (S := []) (S' := [66]) (kp bY (za0 hpt)) (SRow.nil _) (BRow.nil _) (TyRow.nil _ 0) (SRow.nil _) (BRow.nil _) (TyRow.nil _ 0)), srow1 (s := [97]) (kp bY (za0 hsn))⟩, bon (za0 HB0) bY, bw, (za0 HT).below bw h5, Nat.le_trans h5 bw.size⟩
 have HWS : Hid (w.heap.size ≤ (w2.alloc ptO).heap.size) := (bon (za0 B1) (al1 w2 ptO)).size
 clear bY bw hrec hpb hpt hsn kP HB0 B1 HT p0 p1 p2 p3 p4 hlt
 have HRB : Hid ((w2.alloc ptO).heap.size ≤ w2.heap.size + 1) := by show _ ≤ _; simp
 generalize w2.heap.size + 1 + 1 = gp at F7 ⊢
 generalize w2.heap.size + 1 = rb at F7 HRB ⊢
 generalize w3.heap.size + 1 = gn at F7 ⊢
 refine (type_p (za0 F7).2.2.2.1 (za0 F7).2.2.2.2.2.2.2.1 (za0 F7).2.2.2.2.2.2.2.2).mono ?_
 rintro _ w7 ⟨rfl, b7⟩
 replace F7 := za3 ((za0 F7).on b7)
 clear b7
 generalize w6.heap.size + 1 = ib at F7 ⊢
 generalize w6.heap.size = gi at F7 ⊢
 generalize w3.heap.size = pb at F7 ⊢
 obtain ⟨i0, i1, i2, i3, i4⟩ := tc5 (za0 F7).2.2.1
 go_wp2_with fail
 refine (type_i (za0 F7).2.2.2.2.1 (za0 F7).2.2.2.2.2.2.2.1 (za0 F7).2.2.2.2.2.2.2.2).mono ?_
 rintro _ w8 ⟨rfl, b8⟩
 replace F7 := za3 ((za0 F7).on b8)
 clear b8 i0 i1 i2 i3 i4
 obtain ⟨p0, p1, p2, p3, p4⟩ := tc5 (za0 F7).2.1
 go_wp2_with fail
 refine (zix (row_p ((za0 F7).2.2.2.1.below (al1 _ _)) (hp1 w8 _)) many_p nodes_p).mono ?_
 rintro _ w9 ⟨rfl, b9⟩
 replace F7 := za3 ((za0 F7).on (bon (al1 _ _) b9))
 clear b9 p0 p1 p2 p3 p4
 obtain ⟨i0, i1, i2, i3, i4⟩ := tc5 (za0 F7).2.2.1
 go_wp2_with fail
 refine (zix (row_i ((za0 F7).2.2.2.2.1.below (al1 _ _)) (hp1 w9 _)) many_i nodes_i).mono ?_
 rintro _ w10 ⟨rfl, b10⟩
 replace F7 := za3 ((za0 F7).on (bon (al1 _ _) b10))
 clear b10 i0 i1 i2 i3 i4
 obtain ⟨p0, p1, p2, p3, p4⟩ := tc5 (za0 F7).2.1
 obtain ⟨i0, i1, i2, i3, i4⟩ := tc5 (za0 F7).2.2.1
 go_wp2_with fail
 refine (zix (row_pi ((za0 F7).2.2.2.1.below (al1 _ _)) ((za0 F7).2.2.2.2.1.below (al1 _ _)) (hp1 w10 _)) many_pi nodes_pi).mono ?_
 rintro _ w11 ⟨rfl, b11⟩
 replace F7 := za3 ((za0 F7).on (bon (al1 _ _) b11))
 clear b11 i0 i1 i2 i3 i4 p0 p1 p2 p3 p4
 obtain ⟨p0, p1, p2, p3, p4⟩ := tc5 (za0 F7).2.1
 go_wp2_with fail
 refine (names_call (row_p ((za0 F7).2.2.2.1.below (al1 _ _)) (hp1 w11 _))).mono ?_
 rintro _ w12 ⟨⟨u, rfl, hu⟩, b12⟩
 have HU := za3 hu
 replace F7 := za3 ((za0 F7).on (bon (al1 _ _) b12))
 clear b12 p0 p1 p2 p3 p4 hu
 go_wp2_with fail
 refine (SameStr_any _ _ [[66]] _ (by decide) ((za0 HU).below (al1 _ _)) (srow1 (s := [66]) (hp1 w12 _))).mono ?_
 rintro _ w13 ⟨rfl, b13⟩
 replace F7 := za3 ((za0 F7).on (bon (al1 _ _) b13))
 clear b13 HU
 obtain ⟨p0, p1, p2, p3, p4⟩ := tc5 (za0 F7).2.1
 go_wp2_with fail
 refine (depth_call (row_p ((za0 F7).2.2.2.1.below (al1 _ _)) (hp1 w13 _))).mono ?_
 rintro _ w14 ⟨rfl, b14⟩
 replace F7 := za3 ((za0 F7).on (bon (al1 _ _) b14))
 clear b14 p0 p1 p2 p3 p4
 go_wp2_with fail
 refine (depth_call0 _).mono ?_
 rintro _ w15 ⟨rfl, b15⟩
 replace F7 := za3 ((za0 F7).on b15)
 clear b15
 go_wp2_with fail
 refine (zez _ _).mono ?_
 rintro _ w16 ⟨rfl, h⟩
 replace F7 := za3 ((za0 F7).on h)
 clear h
 go_wp2_with fail
 refine (zez _ _).mono ?_
 rintro _ w17 ⟨rfl, h⟩
 have hgx := za3 (kp h (hp3a w16 (varO ⟨#[120]⟩) (zg0 9 w16.heap.size) (zg0 10 w16.heap.size)))
 have hfb := za3 (kp h (hp3b w16 (varO ⟨#[120]⟩) (zg0 9 w16.heap.size) (zg0 10 w16.heap.size)))
 have hcb := za3 (kp h (hp3c w16 (varO ⟨#[120]⟩) (zg0 9 w16.heap.size) (zg0 10 w16.heap.size)))
 replace F7 := za3 ((za0 F7).on (bon (al3 w16 (varO ⟨#[120]⟩) (zg0 9 w16.heap.size) (zg0 10 w16.heap.size)) h))
 clear h
 go_wp2_with fail
 refine (zez _ _).mono ?_
 rintro _ w18 ⟨rfl, h⟩
 have hxb := za3 (kp h (hp1 w17 (varO ⟨#[120]⟩)))
 have hb := bon (al1 w17 (varO ⟨#[120]⟩)) h
 replace hgx := za3 (kp hb (za0 hgx))
 replace hfb := za3 (kp hb (za0 hfb))
 replace hcb := za3 (kp hb (za0 hcb))
 replace F7 := za3 ((za0 F7).on hb)
 clear h hb
 have hb := al1 w18 (varO ⟨#[121]⟩)
 have F8 := (za0 F7).on hb
 have G : Hid (GG w (w2.alloc ptO) rb w.heap.size (w.heap.size + 1) w2.heap.size w16.heap.size (w16.heap.size + 1) (w16.heap.size + 1 + 1) w17.heap.size w18.heap.size (w18.alloc (varO ⟨#[121]⟩))) :=
  ⟨F8.1, F8.2.2.2.2.2.1, F8.2.2.2.2.2.2.1, F8.2.2.2.2.2.2.2.1, F8.2.2.2.2.2.2.2.2, kp hb (za0 hgx), kp hb (za0 hfb), kp hb (za0 hcb), kp hb (za0 hxb), hp1 w18 _⟩
 clear hb F7 F8 hgx hfb hcb hxb
 go_wp2_with fail
 refine (zf2 _ _).mono ?_
 rintro _ w19 ⟨rfl, h⟩
 replace G := za3 ((za0 G).on h)
 clear h
 generalize w16.heap.size + 1 + 1 = cb at G ⊢
 generalize w16.heap.size + 1 = fb at G ⊢
 generalize w16.heap.size = gx at G ⊢
 generalize w17.heap.size = xb at G ⊢
 generalize w18.heap.size = yb at G ⊢
 go_wp2_with fail
 refine (zf2 _ _).mono ?_
 rintro _ w20 ⟨rfl, h⟩
 replace G := za3 ((za0 G).on h)
 clear h
 go_wp2_with fail
 refine (zfq _ _ _ _ _ _ _ _ _ _ _ _ _ _ _ _).mono ?_
 rintro _ w21 ⟨g1, rfl, _, hH, h⟩
 have H1 := za3 hH
 replace G := za3 ((za0 G).on h)
 clear h hH
 go_wp2_with fail
 refine (zf2 _ _).mono ?_
 rintro _ w22 ⟨rfl, h⟩
 replace G := za3 ((za0 G).on h)
 replace H1 := za3 (kp h (za0 H1))
 clear h
 go_wp2_with fail
 refine (zfq _ _ _ _ _ _ _ _ _ _ _ _ _ _ _ _).mono ?_
 rintro _ w23 ⟨g2, rfl, _, hH, h⟩
 have H2 := za3 hH
 replace G := za3 ((za0 G).on h)
 replace H1 := za3 (kp h (za0 H1))
 clear h hH
 go_wp2_with fail
 refine (told_1 (za0 H1) (za0 H2) (za0 G).2.2.2.1 (za0 G).2.2.2.2.1).mono ?_
 rintro _ w24 ⟨rfl, h⟩
 replace G := za3 ((za0 G).on h)
 clear h H1 H2
 go_wp2_with fail
 refine (zf2 _ _).mono ?_
 rintro _ w25 ⟨rfl, h⟩
 replace G := za3 ((za0 G).on h)
 clear h
 go_wp2_with fail
 refine (zf2 _ _).mono ?_
 rintro _ w26 ⟨rfl, h⟩
 replace G := za3 ((za0 G).on h)
 clear h
 go_wp2_with fail
 refine (zf2 _ _).mono ?_
 rintro _ w27 ⟨rfl, h⟩
 replace G := za3 ((za0 G).on h)
 clear h
 go_wp2_with fail
 refine (zfq _ _ _ _ _ _ _ _ _ _ _ _ _ _ _ _).mono ?_
 rintro _ w28 ⟨g1, rfl, _, hH, h⟩
 have H1 := za3 hH
 replace G := za3 ((za0 G).on h)
 clear h hH
 go_wp2_with fail
 refine (zfq _ _ _ _ _ _ _ _ _ _ _ _ _ _ _ _).mono ?_
 rintro _ w29 ⟨g2, rfl, _, hH, h⟩
 have H2 := za3 hH
 replace G := za3 ((za0 G).on h)
 replace H1 := za3 (kp h (za0 H1))
 clear h hH
 go_wp2_with fail
 refine (told_23 (za0 H1) (za0 H2) (za0 G).2.2.2.1 (za0 G).2.2.2.2.1 ans_2).mono ?_
 rintro _ w30 ⟨rfl, h⟩
 replace G := za3 ((za0 G).on h)
 clear h H1 H2
 go_wp2_with fail
 refine (zf2 _ _).mono ?_
 rintro _ w31 ⟨rfl, h⟩
 replace G := za3 ((za0 G).on h)
 clear h
 go_wp2_with fail
 refine (zf2 _ _).mono ?_
 rintro _ w32 ⟨rfl, h⟩
 replace G := za3 ((za0 G).on h)
 clear h
 go_wp2_with fail
 refine (zf2 _ _).mono ?_
 rintro _ w33 ⟨rfl, h⟩
 replace G := za3 ((za0 G).on h)
 clear h
 go_wp2_with fail
 refine (zfq _ _ _ _ _ _ _ _ _ _ _ _ _ _ _ _).mono ?_
 rintro _ w34 ⟨g1, rfl, _, hH, h⟩
 have H1 := za3 hH
 replace G := za3 ((za0 G).on h)
 clear h hH
 go_wp2_with fail
 refine (zfq _ _ _ _ _ _ _ _ _ _ _ _ _ _ _ _).mono ?_
 rintro _ w35 ⟨g2, rfl, _, hH, h⟩
 have H2 := za3 hH
 replace G := za3 ((za0 G).on h)
 replace H1 := za3 (kp h (za0 H1))
 clear h hH
 go_wp2_with fail
 refine (told_23 (za0 H1) (za0 H2) (za0 G).2.2.2.1 (za0 G).2.2.2.2.1 ans_3).mono ?_
 rintro _ w36 ⟨rfl, h⟩
 replace G := za3 ((za0 G).on h)
 clear h H1 H2
 obtain ⟨f0, f1, f2, f3, f4, f5, f6⟩ := tc7 (za0 G).2.2.2.2.2.2.1
 go_wp2_with fail
 have GA := (za0 G).on (al1 w36 (zg0 9 gx))
 refine (told_4 GA.2.2.2.2.2.1 (hp1 w36 _) GA.2.2.2.1 GA.2.2.2.2.1).mono ?_
 rintro _ w37 ⟨rfl, h⟩
 replace G := za3 (GA.on h)
 clear h GA f0 f1 f2 f3 f4 f5 f6
 obtain ⟨f0, f1, f2, f3, f4, f5, f6⟩ := tc7 (za0 G).2.2.2.2.2.2.2.1
 go_wp2_with fail
 refine (told_5 (za0 G).2.2.2.2.2.1 (za0 G).2.2.2.1 (za0 G).2.2.2.2.1).mono ?_
 rintro _ w38 ⟨rfl, h⟩
 replace G := za3 ((za0 G).on h)
 clear h f0 f1 f2 f3 f4 f5 f6
 obtain ⟨x0, x1, x2, x3, x4, x5, x6⟩ := tc7 (za0 G).2.2.2.2.2.2.2.2.1
 obtain ⟨y0, y1, y2, y3, y4, y5, y6⟩ := tc7 (za0 G).2.2.2.2.2.2.2.2.2
 go_wp2_with fail
 refine (zfq _ _ _ _ _ _ _ _ _ _ _ _ _ _ _ _).mono ?_
 rintro _ w39 ⟨g1, rfl, _, hH, h⟩
 have H1 := za3 hH
 replace G := za3 ((za0 G).on h)
 clear h hH
 clear x0 x1 x2 x3 x4 x5 x6 y0 y1 y2 y3 y4 y5 y6
 go_wp2_with fail
 have GA := (za0 G).on (al1 w39 (.cells #[.int .i64 0, .int .i64 18, .int .i64 0, .string ⟨#[]⟩, z0, z0, .slice (some ⟨g1, 0, none⟩) 2 2] 28))
 refine (told_6 (kp (al1 _ _) (za0 H1)) (hp1 w39 _) GA.2.2.2.1 GA.2.2.2.2.1).mono ?_
 rintro _ w40 ⟨rfl, h⟩
 replace G := za3 (GA.on h)
 clear h GA H1
 obtain ⟨x0, x1, x2, x3, x4, x5, x6⟩ := tc7 (za0 G).2.2.2.2.2.2.2.2.1
 obtain ⟨y0, y1, y2, y3, y4, y5, y6⟩ := tc7 (za0 G).2.2.2.2.2.2.2.2.2
 go_wp2_with fail
 refine (zfq _ _ _ _ _ _ _ _ _ _ _ _ _ _ _ _).mono ?_
 rintro _ w41 ⟨g1, rfl, _, hH, h⟩
 have H1 := za3 hH
 replace G := za3 ((za0 G).on h)
 clear h hH
 clear x0 x1 x2 x3 x4 x5 x6 y0 y1 y2 y3 y4 y5 y6
 go_wp2_with fail
 refine (zez _ _).mono ?_
 rintro _ w42 ⟨rfl, h⟩
 replace G := za3 ((za0 G).on h)
 replace H1 := za3 (kp h (za0 H1))
 clear h
 go_wp2_with fail
 refine (zfq _ _ _ _ _ _ _ _ _ _ _ _ _ _ _ _).mono ?_
 rintro _ w43 ⟨g2, rfl, _, hH, h⟩
 have H2 := za3 hH
 replace G := za3 ((za0 G).on h)
 replace H1 := za3 (kp h (za0 H1))
 clear h hH
 go_wp2_with fail
 refine (told_7 (za0 H1) (za0 H2) (za0 G).2.2.2.1 (za0 G).2.2.2.2.1).mono ?_
 rintro _ w44 ⟨rfl, h⟩
 replace G := za3 ((za0 G).on h)
 clear h H1 H2
 go_wp2_with fail
 refine (zf2 _ _).mono ?_
 rintro _ w45 ⟨rfl, h⟩
 replace G := za3 ((za0 G).on h)
 clear h
 go_wp2_with fail
 refine (expr_neg1 _ (za0 G).2.2.2.1 (za0 G).2.2.2.2.1).mono ?_
 rintro _ w46 ⟨rfl, h⟩
 replace G := za3 ((za0 G).on h)
 clear h
 go_wp2_with fail
 refine (zlp _ _).mono ?_
 rintro _ w47 ⟨rfl, h⟩
 replace G := za3 ((za0 G).on h)
 clear h
 go_wp2_with fail
 refine (type_small _ (za0 G).2.2.2.1 (za0 G).2.2.2.2.1).mono ?_
 rintro _ w48 ⟨rfl, h⟩
 replace G := za3 ((za0 G).on h)
 clear h
 obtain ⟨r0, r1, r2, r3, r4⟩ := tc5 (za0 G).1
 have hfz : w48.frozen? ⟨rb, 2, none⟩ = false := by simp [World.frozen?, (za0 G).1]
 have hlt := za2 r0
 go_wp2_with fail
 obtain ⟨nv, hnv⟩ : ∃ nv : Value, nv = .slice (some ⟨w48.heap.size, 0, none⟩) 2 2 := ⟨_, rfl⟩
 have hsz : (w48.setCell ⟨rb, 2, none⟩ nv).heap.size = w48.heap.size := by simp
 have bs : Below (w2.alloc ptO).heap.size w48 (w48.setCell ⟨rb, 2, none⟩ nv) := (Below.refl _ _).setCell (p := ⟨rb, 2, none⟩) (za0 HRB) nv
 have bb : Below (w2.alloc ptO).heap.size w48 ((w48.setCell ⟨rb, 2, none⟩ nv).alloc (.cells #[.string ⟨#[97]⟩, .string ⟨#[97]⟩] 9)) := bs.alloc (Nat.le_trans (za0 G).2.1.size bs.size) _
 have b0 := (za0 G).2.1.trans bb
 have bw := (za0 G).2.2.1.trans (bb.mono (za0 HWS))
 have hT := (za0 G).2.2.2.1.below bb (Nat.le_trans h5 (za0 HWS))
 have hs := hp1 (w48.setCell ⟨rb, 2, none⟩ nv) (.cells #[.string ⟨#[97]⟩, .string ⟨#[97]⟩] 9)
 rw [hsz] at hs
 have TW := type_twice (srow2 (s := [97]) (u := [97]) hs) ((za0 R0).2.1.below b0) (TyRow.below b0 1 (za0 R0).2.2) hT (Nat.le_trans h5 bw.size)
 rw [hnv] at TW bw hT
 refine TW.mono ?_
 rintro _ w49 ⟨rfl, b49⟩
 have bx := bon bw b49
 have hT2 := hT.below b49 (Nat.le_trans h5 bw.size)
 clear TW hs b0 bb bs hsz hnv hlt hfz r0 r1 r2 r3 r4 bw hT b49
 go_wp2_with fail
 refine (Stmts_nil _ hT2 (Nat.le_trans h5 bx.size)).mono ?_
 rintro _ w50 ⟨rfl, b50⟩
 go_wp2_with fail
 go_ret
 exact ⟨rfl, bon bx b50⟩
end Go.Proofs.YtmpbbmfbgcpplaaGreatDoor
