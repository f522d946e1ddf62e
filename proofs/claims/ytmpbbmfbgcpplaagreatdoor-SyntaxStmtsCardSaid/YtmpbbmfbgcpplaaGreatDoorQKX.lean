import Derived.Test.YtmpbbmfbgcpplaaGreatDoorQEqG
import Derived.Test.YtmpbbmfbgcpplaaGreatDoorQSizeG
import Derived.Test.YtmpbbmfbgcpplaaGreatDoorQStG
set_option maxHeartbeats 1000000
set_option maxRecDepth 100000
namespace Go.Proofs.YtmpbbmfbgcpplaaGreatDoor
open Go Go.RowKit Lx
def KExprAt (D d : Nat) : Prop := ∀ (x : Ex D d) (v u : Value) (w : World), ExValD w D d v x → ExValD w D d u x → WfX D d x →
 Calls Tryz.prog 13 #[v, u, .bool true] w fun e w' => e = .returned (.bool true) ∧ Below w.heap.size w w'
def KExprsAt (D d : Nat) : Prop := ∀ (xs : List (Ex D d)) (p q : Option Addr) (c e : Nat) (w : World), ExRow w D d (.slice p xs.length c) xs → ExRow w D d (.slice q xs.length e) xs → xs.length ≤ 140737488351232 → (∀ x ∈ xs, WfX D d x) →
 Calls Tryz.prog 60 #[.slice p xs.length c, .slice q xs.length e, .bool true] w fun e w' => e = .returned (.bool true) ∧ Below w.heap.size w w'
theorem kexprs_of (D d : Nat) (IH : KExprAt D d) : KExprsAt D d := fun a p q c c' w hv hu hl wa => by
 have HA : Hid (∀ k (hk : k < a.length), ∃ u, ExCell w p k u ∧ ExValD w D d u a[k] ∧ WfX D d a[k]) := fun k hk => by
  obtain ⟨u, h1, h2⟩ := hv.at k hk
  exact ⟨u, h1, h2, wa _ (by simp)⟩
 have HB : Hid (∀ k (hk : k < a.length), ∃ u, ExCell w q k u ∧ ExValD w D d u a[k]) := fun k hk => hu.at k hk
 have HI := za3 IH
 clear hv hu wa IH
 go_enter Tryz.func60, Tryz.ntmps60
 go_wp2
 go_loopw [7] (fun i wr => ∃ k : Nat, i = .int .i64 k ∧ k ≤ a.length ∧ Below w.heap.size w wr) (fun i _ => a.length - (intOf i).toNat)
 case atStart => exact ⟨0, rfl, by omega, Below.refl _ _⟩
 case round =>
  obtain ⟨k, rfl, hk, hb⟩ := hrel
  by_cases hlt : k < a.length
  ·obtain ⟨x, ⟨g, o, A', K', N', S', qt, qn, q3, nt, c1, nn, c2, n3, c3, rfl, rfl, a0, a1, a2, a3, a4, a5, a6⟩, hx, wx⟩ := za0 HA k hlt
   obtain ⟨y, ⟨g', o', A2, K2, N2, S2, rt, rn, r3, nt', c1', nn', c2', n3', c3', rfl, rfl, e0, e1, e2, e3, e4, e5, e6⟩, hy⟩ := za0 HB k hlt
   have hlt' : (k : Int) < (a.length : Int) := by omega
   have b0 := (hb.cell (p := ⟨g, _, none⟩) (za2 a0)).trans a0
   have b1 := (hb.cell (p := ⟨g, _, none⟩) (za2 a1)).trans a1
   have b2 := (hb.cell (p := ⟨g, _, none⟩) (za2 a2)).trans a2
   have b3 := (hb.cell (p := ⟨g, _, none⟩) (za2 a3)).trans a3
   have b4 := (hb.cell (p := ⟨g, _, none⟩) (za2 a4)).trans a4
   have b5 := (hb.cell (p := ⟨g, _, none⟩) (za2 a5)).trans a5
   have b6 := (hb.cell (p := ⟨g, _, none⟩) (za2 a6)).trans a6
   have f0 := (hb.cell (p := ⟨g', _, none⟩) (za2 e0)).trans e0
   have f1 := (hb.cell (p := ⟨g', _, none⟩) (za2 e1)).trans e1
   have f2 := (hb.cell (p := ⟨g', _, none⟩) (za2 e2)).trans e2
   have f3 := (hb.cell (p := ⟨g', _, none⟩) (za2 e3)).trans e3
   have f4 := (hb.cell (p := ⟨g', _, none⟩) (za2 e4)).trans e4
   have f5 := (hb.cell (p := ⟨g', _, none⟩) (za2 e5)).trans e5
   have f6 := (hb.cell (p := ⟨g', _, none⟩) (za2 e6)).trans e6
   have CT := za3 (za0 HI a[k] _ _ wr.drew (ExValD.below (zad hb) hx) (ExValD.below (zad hb) hy) wx)
   have HBW := za3 hb
   clear a0 a1 a2 a3 a4 a5 a6 e0 e1 e2 e3 e4 e5 e6 hx hy wx hb HI HA HB
   go_wp2
   go_region_with (go_at_call 13; refine (za0 CT).mono ?_; clear CT; rintro x w1 ⟨rfl, hb1⟩)
   all_goals
    go_wp2
    go_roundw
    case rel => exact ⟨k + 1, by go_num, by omega, (za0 HBW).trans (zch (hb1.mono (za0 HBW).size))⟩
    case measure => simp [intOf]; omega
  ·go_wp2
   go_ret
   exact ⟨rfl, hb⟩
theorem zk5 {A K N A' K' N' : Int} {S S' : ByteArray} {pt pn pp pt' pn' pp' : Option Addr} {nt nn np ct cn cp nt' nn' np' ct' cn' cp' : Nat} {w wr : World} (hb : Below ((w.alloc (zbm A K N S pt pn pp nt nn np ct cn cp)).alloc (zbm A' K' N' S' pt' pn' pp' nt' nn' np' ct' cn' cp')).heap.size ((w.alloc (zbm A K N S pt pn pp nt nn np ct cn cp)).alloc (zbm A' K' N' S' pt' pn' pp' nt' nn' np' ct' cn' cp')) wr) :
  (wr.cell? ⟨w.heap.size, 5, none⟩ = some (.slice pn nn cn) ∧ wr.cell? ⟨w.heap.size, 6, none⟩ = some (.slice pp np cp)) ∧ (wr.cell? ⟨w.heap.size + 1, 5, none⟩ = some (.slice pn' nn' cn') ∧ wr.cell? ⟨w.heap.size + 1, 6, none⟩ = some (.slice pp' np' cp')) := by
 have h1 := zam (w := w) (wr := wr) (A := A) (K := K) (N := N) (S := S) (pt := pt) (pn := pn) (pp := pp) (nt := nt) (nn := nn) (np := np) (ct := ct) (cn := cn) (cp := cp) (((Below.refl _ _).alloc (Nat.le_refl _) _).trans (hb.mono (by simp)))
 have h2 := zam (w := w.alloc (zbm A K N S pt pn pp nt nn np ct cn cp)) hb
 rw [World.size_alloc] at h2
 exact ⟨⟨h1.2.2.2.2.2.1, h1.2.2.2.2.2.2⟩, ⟨h2.2.2.2.2.2.1, h2.2.2.2.2.2.2⟩⟩
theorem kexpr_of (D d : Nat) (IH : KExprsAt D d) : KExprAt D (d + 1) := fun x v u w hv hu wa => by
 obtain ⟨pt, pn, pp, ct, cn, cp, rfl, r1, r2, r3⟩ := hv
 obtain ⟨pt', pn', pp', ct', cn', cp', rfl, s1, s2, s3⟩ := hu
 obtain ⟨w1, w2, w3, ⟨w4, w5⟩, w6, w7⟩ := wa
 obtain ⟨A, K, N, S, ts, ns, xs⟩ := x
 dsimp only [xAt, zfn, xN, xS, xT, xNs, xPs] at *
 have hbA : Below w.heap.size w ((w.alloc (zbm A K N ⟨S.toArray⟩ pt pn pp ts.length ns.length xs.length ct cn cp)).alloc (zbm A K N ⟨S.toArray⟩ pt' pn' pp' ts.length ns.length xs.length ct' cn' cp')) := ((Below.refl _ _).alloc (Nat.le_refl _) _).alloc (by simp) _
 have TY := za3 (zk3 D (zkt D) ts ts pt pt' ct ct' _ true (by simp) (TyRow.below hbA D r1) (TyRow.below hbA D s1) w4 w5 w5)
 have HTX : Hid (∀ W, Below w.heap.size w W → Calls Tryz.prog 59 #[.slice pn ns.length cn, .slice pn' ns.length cn'] W fun e w' => e = .returned (.bool true) ∧ Below W.heap.size W w') := fun W hW => by
  have := Texts_any _ _ ns ns W w2 (r2.below hW) (s2.below hW)
  rwa [decide_eq_true rfl] at this
 have HEX : Hid (∀ W, Below w.heap.size w W → Calls Tryz.prog 60 #[.slice pp xs.length cp, .slice pp' xs.length cp', .bool true] W fun e w' => e = .returned (.bool true) ∧ Below W.heap.size W w') := fun W hW => IH xs pp pp' cp cp' W (ExRow.below hW d r3) (ExRow.below hW d s3) w6 w7
 have HA := za3 hbA
 clear r1 r2 r3 s1 s2 s3 w1 w2 w3 w4 w5 w6 w7 IH hbA
 obtain ⟨X, hX⟩ : ∃ X : ByteArray, X = ⟨S.toArray⟩ := ⟨_, rfl⟩
 rw [← hX] at HA TY
 rw [← hX]
 clear hX
 go_enter Tryz.func13, Tryz.ntmps13
 go_wp2_with (first
  | (go_at_call 58; refine (za0 TY).mono ?_; clear TY; rintro x wa ⟨rfl, hb1⟩; obtain ⟨⟨d1, d2⟩, ⟨d3, d4⟩⟩ := zk5 hb1; have TX := za3 (za0 HTX wa ((za0 HA).trans (hb1.mono (za0 HA).size))))
  | (go_at_call 59; refine (za0 TX).mono ?_; clear TX; rintro x wb ⟨rfl, hb2⟩; have hb3 := hb1.trans (hb2.mono hb1.size); obtain ⟨⟨f1, f2⟩, ⟨f3, f4⟩⟩ := zk5 hb3; have EX := za3 (za0 HEX wb ((za0 HA).trans (hb3.mono (za0 HA).size))))
  | (go_at_call 60; refine (za0 EX).mono ?_; clear EX; rintro x wc ⟨rfl, hb4⟩))
 go_ret
 exact ⟨rfl, (za0 HA).trans ((hb3.trans (hb4.mono hb3.size)).mono (za0 HA).size)⟩
theorem kexpr_any (D : Nat) : ∀ d, KExprAt D d
 | 0 => fun t => nomatch t
 | d + 1 => kexpr_of D d (kexprs_of D d (kexpr_any D d))
theorem ziy {A K A' K' : Int} {S S' : ByteArray} {pt px pb pe pt' px' pb' pe' : Option Addr} {t x b e ct cx cb ce t' x' b' e' ct' cx' cb' ce' : Nat} {w wr : World} (hb : Below ((w.alloc (sBox A K S pt px pb pe t x b e ct cx cb ce)).alloc (sBox A' K' S' pt' px' pb' pe' t' x' b' e' ct' cx' cb' ce')).heap.size ((w.alloc (sBox A K S pt px pb pe t x b e ct cx cb ce)).alloc (sBox A' K' S' pt' px' pb' pe' t' x' b' e' ct' cx' cb' ce')) wr) :
  (wr.cell? ⟨w.heap.size, 4, none⟩ = some (.slice px x cx) ∧ wr.cell? ⟨w.heap.size, 5, none⟩ = some (.slice pb b cb) ∧ wr.cell? ⟨w.heap.size, 6, none⟩ = some (.slice pe e ce)) ∧ (wr.cell? ⟨w.heap.size + 1, 4, none⟩ = some (.slice px' x' cx') ∧ wr.cell? ⟨w.heap.size + 1, 5, none⟩ = some (.slice pb' b' cb') ∧ wr.cell? ⟨w.heap.size + 1, 6, none⟩ = some (.slice pe' e' ce')) := by
 have h1 := zau (w := w) (wr := wr) (A := A) (K := K) (S := S) (pt := pt) (px := px) (pb := pb) (pe := pe) (t := t) (x := x) (b := b) (e := e) (ct := ct) (cx := cx) (cb := cb) (ce := ce) (((Below.refl _ _).alloc (Nat.le_refl _) _).trans (hb.mono (by simp)))
 have h2 := zau (w := w.alloc (sBox A K S pt px pb pe t x b e ct cx cb ce)) hb
 rw [World.size_alloc] at h2
 exact ⟨h1.2.2.2.2, h2.2.2.2.2⟩
def KSt (w : World) (p q : Option Addr) (k : Nat) : Prop :=
 ∃ (g o g' o' : Nat) (A K : Int) (S : ByteArray) (pt px pb pe pt' px' pb' pe' : Option Addr) (t x b e ct cx cb ce ct' cx' cb' ce' : Nat), p = some ⟨g, o, none⟩ ∧ q = some ⟨g', o', none⟩ ∧
  (w.cell? ⟨g, o + k * 7, none⟩ = some (.int .i64 A) ∧ w.cell? ⟨g, o + k * 7 + 1, none⟩ = some (.int .i64 K) ∧ w.cell? ⟨g, o + k * 7 + 2, none⟩ = some (.string S) ∧ w.cell? ⟨g, o + k * 7 + 3, none⟩ = some (.slice pt t ct) ∧ w.cell? ⟨g, o + k * 7 + 4, none⟩ = some (.slice px x cx) ∧ w.cell? ⟨g, o + k * 7 + 5, none⟩ = some (.slice pb b cb) ∧ w.cell? ⟨g, o + k * 7 + 6, none⟩ = some (.slice pe e ce)) ∧
  (w.cell? ⟨g', o' + k * 7, none⟩ = some (.int .i64 A) ∧ w.cell? ⟨g', o' + k * 7 + 1, none⟩ = some (.int .i64 K) ∧ w.cell? ⟨g', o' + k * 7 + 2, none⟩ = some (.string S) ∧ w.cell? ⟨g', o' + k * 7 + 3, none⟩ = some (.slice pt' t ct') ∧ w.cell? ⟨g', o' + k * 7 + 4, none⟩ = some (.slice px' x cx') ∧ w.cell? ⟨g', o' + k * 7 + 5, none⟩ = some (.slice pb' b cb') ∧ w.cell? ⟨g', o' + k * 7 + 6, none⟩ = some (.slice pe' e ce')) ∧
  (∀ W, Below w.heap.size w W → Calls Tryz.prog 58 #[.slice pt t ct, .slice pt' t ct'] W fun e w' => e = .returned (.bool true) ∧ Below W.heap.size W w') ∧
  (∀ W, Below w.heap.size w W → Calls Tryz.prog 60 #[.slice px x cx, .slice px' x cx', .bool true] W fun e w' => e = .returned (.bool true) ∧ Below W.heap.size W w') ∧
  (∀ W, Below w.heap.size w W → Calls Tryz.prog 19 #[.slice pb b cb, .slice pb' b cb', .bool true] W fun e w' => e = .returned (.bool true) ∧ Below W.heap.size W w') ∧
  (∀ W, Below w.heap.size w W → Calls Tryz.prog 19 #[.slice pe e ce, .slice pe' e ce', .bool true] W fun e w' => e = .returned (.bool true) ∧ Below W.heap.size W w')
theorem kst_run (p q : Option Addr) (n c c' : Nat) (w : World) (hn : n ≤ 140737488351232) (hP : ∀ k, k < n → KSt w p q k) :
  Calls Tryz.prog 19 #[.slice p n c, .slice q n c', .bool true] w fun e w' => e = .returned (.bool true) ∧ Below w.heap.size w w' := by
 have HP := za3 hP
 clear hP
 go_enter Tryz.func19, Tryz.ntmps19
 go_wp2
 go_loopw [7] (fun i wr => ∃ k : Nat, i = .int .i64 k ∧ k ≤ n ∧ Hid (Below w.heap.size w wr)) (fun i _ => n - (intOf i).toNat)
 case atStart => exact ⟨0, rfl, by omega, Below.refl _ _⟩
 case round =>
  obtain ⟨k, rfl, hk, HB⟩ := hrel
  by_cases hlt : k < n
  ·obtain ⟨g, o, g', o', A, K, S, pt, px, pb, pe, pt', px', pb', pe', t, x, b, e, ct, cx, cb, ce, ct', cx', cb', ce', rfl, rfl, ⟨a0, a1, a2, a3, a4, a5, a6⟩, ⟨b0, b1, b2, b3, b4, b5, b6⟩, cT, cX, cB, cE⟩ := za0 HP k hlt
   have hlt' : (k : Int) < (n : Int) := by omega
   have hb := za0 HB
   have e0 := (hb.cell (p := ⟨g, _, none⟩) (za2 a0)).trans a0
   have e1 := (hb.cell (p := ⟨g, _, none⟩) (za2 a1)).trans a1
   have e2 := (hb.cell (p := ⟨g, _, none⟩) (za2 a2)).trans a2
   have e3 := (hb.cell (p := ⟨g, _, none⟩) (za2 a3)).trans a3
   have e4 := (hb.cell (p := ⟨g, _, none⟩) (za2 a4)).trans a4
   have e5 := (hb.cell (p := ⟨g, _, none⟩) (za2 a5)).trans a5
   have e6 := (hb.cell (p := ⟨g, _, none⟩) (za2 a6)).trans a6
   have hb2 : Below w.heap.size w (wr.alloc (sBox A K S pt px pb pe t x b e ct cx cb ce)) := hb.alloc hb.size _
   have f0 := (hb2.cell (p := ⟨g', _, none⟩) (za2 b0)).trans b0
   have f1 := (hb2.cell (p := ⟨g', _, none⟩) (za2 b1)).trans b1
   have f2 := (hb2.cell (p := ⟨g', _, none⟩) (za2 b2)).trans b2
   have f3 := (hb2.cell (p := ⟨g', _, none⟩) (za2 b3)).trans b3
   have f4 := (hb2.cell (p := ⟨g', _, none⟩) (za2 b4)).trans b4
   have f5 := (hb2.cell (p := ⟨g', _, none⟩) (za2 b5)).trans b5
   have f6 := (hb2.cell (p := ⟨g', _, none⟩) (za2 b6)).trans b6
   have HA : Hid (Below w.heap.size w ((wr.alloc (sBox A K S pt px pb pe t x b e ct cx cb ce)).alloc (sBox A K S pt' px' pb' pe' t x b e ct' cx' cb' ce'))) := hb2.alloc hb2.size _
   have CT := za3 (cT _ (za0 HA))
   have HX := za3 cX
   have HBo := za3 cB
   have HEl := za3 cE
   clear a0 a1 a2 a3 a4 a5 a6 b0 b1 b2 b3 b4 b5 b6 cT cX cB cE hb hb2 HP HB
   go_wp2_with (first
    | (go_at_call 58; refine (za0 CT).mono ?_; clear CT; rintro y wa ⟨rfl, hb1⟩; obtain ⟨⟨x1, x2, x3⟩, ⟨y1, y2, y3⟩⟩ := ziy hb1; have HB1 := za3 hb1; have CX := za3 (za0 HX wa (zcd (za0 HA) hb1)); clear HX hb1)
    | (go_at_call 60; refine (za0 CX).mono ?_; clear CX x1 x2 x3 y1 y2 y3; rintro y wb ⟨rfl, hb2⟩; have HB2 := za3 (zcd (za0 HB1) hb2); clear hb2; obtain ⟨⟨x1, x2, x3⟩, ⟨y1, y2, y3⟩⟩ := ziy (za0 HB2); have CB := za3 (za0 HBo wb (zcd (za0 HA) (za0 HB2))); clear HBo)
    | (go_at_call 19; refine (za0 CB).mono ?_; clear CB x1 x2 x3 y1 y2 y3; rintro y wc ⟨rfl, hb3⟩; have HB3 := za3 (zcd (za0 HB2) hb3); clear hb3; obtain ⟨⟨x1, x2, x3⟩, ⟨y1, y2, y3⟩⟩ := ziy (za0 HB3); have CE := za3 (za0 HEl wc (zcd (za0 HA) (za0 HB3))); clear HEl)
    | (go_at_call 19; refine (za0 CE).mono ?_; clear CE; rintro y wd ⟨rfl, hb4⟩))
   go_roundw
   case rel => exact ⟨k + 1, by go_num, by omega, zcd (zcd (za0 HA) (za0 HB3)) hb4⟩
   case measure => simp [intOf]; omega
  ·go_wp2
   go_ret
   exact ⟨rfl, za0 HB⟩
def KStmtsAt (D d m : Nat) : Prop := ∀ (ss : List (St D d m)) (p q : Option Addr) (c c' : Nat) (w : World), StRow w D d m (.slice p ss.length c) ss → StRow w D d m (.slice q ss.length c') ss → StWf D d m ss →
 Calls Tryz.prog 19 #[.slice p ss.length c, .slice q ss.length c', .bool true] w fun e w' => e = .returned (.bool true) ∧ Below w.heap.size w w'
theorem kstmts_any (D d : Nat) : ∀ m, KStmtsAt D d m
 | 0 => fun ss p q c c' w _ _ _ => by
  match ss with
  | [] => exact kst_run p q 0 c c' w (by omega) fun k hk => absurd hk (by omega)
  | s :: _ => exact nomatch s
 | m + 1 => fun ss p q c c' w hv hu hw => by
  have IH := kstmts_any D d m
  refine kst_run p q ss.length c c' w hw.1 fun k hk => ?_
  obtain ⟨p1, c1, e, hp⟩ := hv
  injection e with e1 _ _
  subst e1
  obtain ⟨q1, c2, e, hq⟩ := hu
  injection e with e1 _ _
  subst e1
  obtain ⟨g, o, vt, vx, vb, ve, rfl, a0, a1, a2, a3, a4, a5, a6, r1, r2, r3, r4⟩ := hp k ss[k] (by simp)
  obtain ⟨g', o', vt', vx', vb', ve', rfl, b0, b1, b2, b3, b4, b5, b6, s1, s2, s3, s4⟩ := hq k ss[k] (by simp)
  obtain ⟨pt, ct, rfl⟩ := r1.slice
  obtain ⟨px, cx, rfl⟩ := r2.1.slice
  obtain ⟨pb, cb, rfl⟩ := r3.slice
  obtain ⟨pe, ce, rfl⟩ := r4.slice
  obtain ⟨pt', ct', rfl⟩ := s1.slice
  obtain ⟨px', cx', rfl⟩ := s2.1.slice
  obtain ⟨pb', cb', rfl⟩ := s3.slice
  obtain ⟨pe', ce', rfl⟩ := s4.slice
  obtain ⟨w1, w2, w3, w4, w5⟩ := hw.2 ss[k] (by simp)
  obtain ⟨t1, t2⟩ := TyWf.each w2
  obtain ⟨x1, x2⟩ := ExWf.each w3
  exact ⟨g, o, g', o', _, _, _, pt, px, pb, pe, pt', px', pb', pe', _, _, _, _, ct, cx, cb, ce, ct', cx', cb', ce', rfl, rfl, ⟨a0, a1, a2, a3, a4, a5, a6⟩, ⟨b0, b1, b2, b3, b4, b5, b6⟩,
   fun W hW => zk3 D (zkt D) _ _ pt pt' ct ct' W true (by simp) (TyRow.below hW D r1) (TyRow.below hW D s1) t1 t2 t2,
   fun W hW => kexprs_of D d (kexpr_any D d) _ px px' cx cx' W (ExRow.below hW d r2.1) (ExRow.below hW d s2.1) x1 x2,
   fun W hW => IH _ pb pb' cb cb' W (StRow.below hW m r3) (StRow.below hW m s3) w4,
   fun W hW => IH _ pe pe' ce ce' W (StRow.below hW m r4) (StRow.below hW m s4) w5⟩
end Go.Proofs.YtmpbbmfbgcpplaaGreatDoor
