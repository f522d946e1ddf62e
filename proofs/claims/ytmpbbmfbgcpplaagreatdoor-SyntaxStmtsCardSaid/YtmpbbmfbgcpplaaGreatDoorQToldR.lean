import Derived.Test.YtmpbbmfbgcpplaaGreatDoorQToldQ
set_option maxHeartbeats 1000000
set_option maxRecDepth 100000
namespace Go.Proofs.YtmpbbmfbgcpplaaGreatDoor
open Go Go.RowKit Lx
def zie (g e c : Nat) : Option Addr := if c = 0 then some ⟨g, e, none⟩ else some ⟨g, e + 7, none⟩
theorem op_rest {o : Oper} {a : Act} {w : World} {K : Act → World → Prop} {Q : Exit → Act → World → Prop} {x : Operand} {g e m c : Nat} (h1 : m ≤ c) (ho : o.op = .slice 26 x (some (.const (.int .i64 1))) none none) (hx : a.eval x = .slice (some ⟨g, e, none⟩) (m + 1) (c + 1)) (h : K (a.put o.dst (.slice (zie g e c) m c)) w) : o.wp Tryz.prog a w K Q := by
 have hy : a.eval (.const (.int .i64 1)) = .int .i64 1 := rfl
 have e3 : (1 : Int) ≤ (m : Int) + 1 := by omega
 have e4 : (m : Int) + 1 ≤ (c : Int) + 1 := by omega
 unfold Oper.wp
 simp only [execOp, ho, hx, hy, Option.map]
 go_simp
 rw [zie] at h
 by_cases hc : c = 0
 ·rw [if_pos hc] at h ⊢; exact h
 ·rw [if_neg hc] at h ⊢; exact h
theorem rest_args {w : World} {g e m c : Nat} {L : Nat → List Bs} (h1 : m ≤ c) (hn : m ≤ 100000) (hl : (zjb L m).length ≤ 400000)
  (HV : ∀ k, k < m → ∃ u, ExCell w (some ⟨g, e + 7, none⟩) k u ∧ 0 < (L k).length ∧ ∀ W, Below w.heap.size w W → Leaves 10 #[u] W (L k)) :
  Leaves 51 #[.slice (zie g e c) m c] w (zjb L m ++ [[41]]) := by
 refine rargs_any _ m c L w hn hl fun k hk => ?_
 rw [zie, if_neg (by omega)]
 exact HV k hk
def v32 (b g o : Nat) (vp vx : Value) (s : ByteArray) (vr : Value) : List (Option Value) := [some (.pointer (some ⟨b, 6, none⟩)), some (vp), some (.pointer (some ⟨g, o + 0 * 7, none⟩)), some (vx), none, some (.pointer (some ⟨b, 3, none⟩)), some (.string s), none, none, some (.pointer (some ⟨b, 6, none⟩)), some (vp), some (vr), none, none, none]
theorem tolds_10 (A N : Int) (S : Bs) (pt pn : Option Addr) (nt nn ct cn c m : Nat) (w : World) (g o : Nat) (L0 : List Bs) (A' K' N' : Int) (S' : ByteArray) (qn qe q3 : Option Addr) (n1 c1 n2 c2 n3 c3 : Nat) (hp : 0 < L0.length) (hl : L0.length ≤ 300000) (LT : List Bs) (hLT : 0 < LT.length) (hlT : LT.length ≤ 300000) (hm : m ≤ c)
  (a0 : w.cell? ⟨g, o, none⟩ = some (.int .i64 A')) (a1 : w.cell? ⟨g, o + 1, none⟩ = some (.int .i64 K')) (a2 : w.cell? ⟨g, o + 2, none⟩ = some (.int .i64 N')) (a3 : w.cell? ⟨g, o + 3, none⟩ = some (.string S')) (a4 : w.cell? ⟨g, o + 4, none⟩ = some (.slice qn n1 c1)) (a5 : w.cell? ⟨g, o + 5, none⟩ = some (.slice qe n2 c2)) (a6 : w.cell? ⟨g, o + 6, none⟩ = some (.slice q3 n3 c3))
  (CT : ∀ W, Below w.heap.size w W → Leaves 51 #[.slice (zie g o c) m c] W LT)
  (CL : ∀ W, Below w.heap.size w W → Leaves 50 #[.agg #[.int .i64 A', .int .i64 K', .int .i64 N', .string S', .slice qn n1 c1, .slice qe n2 c2, .slice q3 n3 c3], .int .i64 7] W L0) :
  zdh A 10 N ⟨S.toArray⟩ pt pn (some ⟨g, o, none⟩) nt nn (m + 1) ct cn (c + 1) w (L0 ++ [[46], S] ++ LT) := by
 have hg := za2 a0
 obtain ⟨L, hLd⟩ : ∃ L, L = (L0 ++ [[46], S] ++ LT) := ⟨_, rfl⟩
 rw [← hLd]
 have HLD := za3 hLd
 clear hLd
 obtain ⟨w1, hw1⟩ : ∃ w1, w1 = w.alloc (zbm A 10 N ⟨S.toArray⟩ pt pn (some ⟨g, o, none⟩) nt nn (m + 1) ct cn (c + 1)) := ⟨_, rfl⟩
 have HW1 := za3 hw1
 have hbw1 : Below w.heap.size w w1 := by rw [hw1]; exact al1 _ _
 have hB7 : ∀ W, Below w1.heap.size w1 W → _ := fun W (h : Below w1.heap.size w1 W) => zam (w := w) (A := A) (K := 10) (N := N) (S := ⟨S.toArray⟩) (pt := pt) (pn := pn) (pp := some ⟨g, o, none⟩) (nt := nt) (nn := nn) (np := (m + 1)) (ct := ct) (cn := cn) (cp := (c + 1)) (wr := W) (by rw [← za0 HW1]; exact h)
 obtain ⟨B, hBd⟩ : ∃ B : World → Prop, B = fun W => Below w1.heap.size w1 W := ⟨_, rfl⟩
 have toB : ∀ W, B W → Below w1.heap.size w1 W := fun W h => by rw [hBd] at h; exact h
 have ofB : ∀ W, Below w1.heap.size w1 W → B W := fun W h => by rw [hBd]; exact h
 have sB : ∀ W W', B W → Below W.heap.size W W' → B W' := fun W W' h hb => ofB _ (bon (toB _ h) hb)
 have sB2 : ∀ W W', B W → Below w1.heap.size W W' → B W' := fun W W' h hb => ofB _ ((toB _ h).trans hb)
 have hbs : ∀ W, B W → w1.heap.size ≤ W.heap.size := fun W h => (toB W h).size
 have hlow : ∀ W, B W → Below w.heap.size w W := fun W h => bon hbw1 (toB W h)
 have cB : ∀ W, B W → _ := fun W h => hB7 W (toB W h)
 have cX : ∀ W, B W → W.cell? ⟨g, o, none⟩ = some (.int .i64 A') ∧ W.cell? ⟨g, o + 1, none⟩ = some (.int .i64 K') ∧ W.cell? ⟨g, o + 2, none⟩ = some (.int .i64 N') ∧ W.cell? ⟨g, o + 3, none⟩ = some (.string S') ∧ W.cell? ⟨g, o + 4, none⟩ = some (.slice qn n1 c1) ∧ W.cell? ⟨g, o + 5, none⟩ = some (.slice qe n2 c2) ∧ W.cell? ⟨g, o + 6, none⟩ = some (.slice q3 n3 c3) := fun W h => ⟨((hlow W h).cell (p := ⟨g, _, none⟩) hg).trans a0, ((hlow W h).cell (p := ⟨g, _, none⟩) hg).trans a1, ((hlow W h).cell (p := ⟨g, _, none⟩) hg).trans a2, ((hlow W h).cell (p := ⟨g, _, none⟩) hg).trans a3, ((hlow W h).cell (p := ⟨g, _, none⟩) hg).trans a4, ((hlow W h).cell (p := ⟨g, _, none⟩) hg).trans a5, ((hlow W h).cell (p := ⟨g, _, none⟩) hg).trans a6⟩
 have cA : ∀ W, B W → Leaves 50 #[.agg #[.int .i64 A', .int .i64 K', .int .i64 N', .string S', .slice qn n1 c1, .slice qe n2 c2, .slice q3 n3 c3], .int .i64 7] W L0 := fun W h => CL W (hlow W h)
 have cY : ∀ W, B W → Leaves 51 #[.slice (zie g o c) m c] W LT := fun W h => CT W (hlow W h)
 clear CL a0 a1 a2 a3 a4 a5 a6 hB7 hw1 CT
 go_enter Tryz.func10, Tryz.ntmps10
 go_wp2_with fail
 rw [← za0 HW1]
 refine zbq (n := 199) (by kernel_rfl) (by kernel_rfl) (by kernel_rfl) rfl B (VP (v32 w.heap.size g o (.slice (some ⟨g, o, none⟩) (m + 1) (c + 1)) (.agg #[.int .i64 A', .int .i64 K', .int .i64 N', .string S', .slice qn n1 c1, .slice qe n2 c2, .slice q3 n3 c3]) ⟨S.toArray⟩ (.slice (zie g o c) m c))) (XCh w1.heap.size 4 14 none L0 [(8, 7, [[46], S]), (13, 12, LT)])
  (ofB _ (zad (Below.refl _ _))) (XCh.init (fun v hv => by cases hv)) ?each ?fin
 case each =>
  refine ⟨?_, ?_, ?_, ?_, ?_, ?_, ?_, ?_, ?_, ?_, ?_, ?_, ?_, ?_, ?_, trivial⟩
  ·exact YGoal.plain sB (by decide) (by decide) (by simp) (fun a' W f hz hkp hlt hBW hno down dep => ⟨za1 rfl, zbo (by decide) rfl (show a'.eval (.tmp 1) = Value.pointer (some ⟨w.heap.size, 0, none⟩) from hkp 1 (by kernel_rfl)) ⟨_, rfl, Below.refl _ _, rfl⟩⟩)
  ·exact YGoal.plain sB (by decide) (by decide) (by simp) (fun a' W f hz hkp hlt hBW hno down dep => ⟨za1 rfl, zdx rfl (dep 0 103 _ (by kernel_rfl) (by kernel_rfl) rfl) (cB W hBW).2.2.2.2.2.2 ⟨_, rfl, Below.refl _ _, rfl⟩⟩)
  ·exact YGoal.plain sB (by decide) (by decide) (by simp) (fun a' W f hz hkp hlt hBW hno down dep => ⟨za1 rfl, zdm (k := 0) rfl (dep 1 104 _ (by kernel_rfl) (by kernel_rfl) rfl) rfl (by omega) ⟨_, rfl, Below.refl _ _, rfl⟩⟩)
  ·exact YGoal.plain sB (by decide) (by decide) (by simp) (fun a' W f hz hkp hlt hBW hno down dep => ⟨za1 rfl, zed rfl (dep 2 105 _ (by kernel_rfl) (by kernel_rfl) rfl) (cX W hBW) ⟨_, rfl, Below.refl _ _, rfl⟩⟩)
  ·refine YGoal.fresh sB hbs (by decide) (by simp) rfl (fun f down hno => ?_) (fun a' W hz hkp hBW dep => ⟨za1 rfl, zfp rfl (dep 3 106 _ (by kernel_rfl) (by kernel_rfl) rfl) rfl zfo ((cA W hBW).mono fun e w' ⟨⟨u, he, h1⟩, hb⟩ => ⟨u, he, u, rfl, hb, h1⟩)⟩)
   have e8 := za7 down (i := 8) (j := 4) (by kernel_rfl) hno
   have e13 := za7 down (i := 13) (j := 8) (by kernel_rfl) e8
   have e14 := za7 down (i := 14) (j := 13) (by kernel_rfl) e13
   exact ⟨e14, by simp [e8, e13]⟩
  ·exact YGoal.plain sB (by decide) (by decide) (by simp) (fun a' W f hz hkp hlt hBW hno down dep => ⟨za1 rfl, zbo (by decide) rfl (show a'.eval (.tmp 1) = Value.pointer (some ⟨w.heap.size, 0, none⟩) from hkp 1 (by kernel_rfl)) ⟨_, rfl, Below.refl _ _, rfl⟩⟩)
  ·exact YGoal.plain sB (by decide) (by decide) (by simp) (fun a' W f hz hkp hlt hBW hno down dep => ⟨za1 rfl, zfi rfl (dep 5 108 _ (by kernel_rfl) (by kernel_rfl) rfl) (cB W hBW).2.2.2.1 ⟨_, rfl, Below.refl _ _, rfl⟩⟩)
  ·exact YGoal.src (M := [[46], S]) sB (by decide) (by decide) (by simp) rfl (fun a' W hz hkp hBW dep => ⟨za1 rfl, zgj (s := ⟨#[46]⟩) rfl rfl (dep 6 109 _ (by kernel_rfl) (by kernel_rfl) rfl) ⟨_, rfl, al1 _ _, src2 W [46] S⟩⟩)
  ·refine YGoal.app (q := 4) (s := 7) (Lq := L0) (M := [[46], S]) sB2 hbs (by decide) rfl rfl rfl rfl (by simp) (by simp) (by simp; omega) (by simp) (by kernel_rfl) (by kernel_rfl) (by kernel_rfl) (by kernel_rfl) (fun f v down hno hq => ?_)
   have e13 := za7 down (i := 13) (j := 8) (by kernel_rfl) hno
   have e14 := za7 down (i := 14) (j := 13) (by kernel_rfl) e13
   exact ⟨e14, by simp [zao, zav, hq, hno], by simp [zah, hno], fun x => ⟨by simp [zao, zav, zbx, hq, e13], by simp [zah, zbx, e13]⟩⟩
  ·exact YGoal.plain sB (by decide) (by decide) (by simp) (fun a' W f hz hkp hlt hBW hno down dep => ⟨za1 rfl, zbo (by decide) rfl (show a'.eval (.tmp 1) = Value.pointer (some ⟨w.heap.size, 0, none⟩) from hkp 1 (by kernel_rfl)) ⟨_, rfl, Below.refl _ _, rfl⟩⟩)
  ·exact YGoal.plain sB (by decide) (by decide) (by simp) (fun a' W f hz hkp hlt hBW hno down dep => ⟨za1 rfl, zdx rfl (dep 9 112 _ (by kernel_rfl) (by kernel_rfl) rfl) (cB W hBW).2.2.2.2.2.2 ⟨_, rfl, Below.refl _ _, rfl⟩⟩)
  ·exact YGoal.plain sB (by decide) (by decide) (by simp) (fun a' W f hz hkp hlt hBW hno down dep => ⟨za1 rfl, op_rest hm rfl (dep 10 113 _ (by kernel_rfl) (by kernel_rfl) rfl) ⟨_, rfl, Below.refl _ _, rfl⟩⟩)
  ·exact YGoal.src (M := LT) sB (by decide) (by decide) (by simp) rfl (fun a' W hz hkp hBW dep => ⟨za1 rfl, zcw rfl (dep 11 114 _ (by kernel_rfl) (by kernel_rfl) rfl) args_enter ((cY W hBW).mono fun e w' ⟨⟨u, he, h1⟩, hb⟩ => ⟨u, he, u, rfl, hb, SRow.of_owns h1, fun g hg => h1.lt g hg⟩)⟩)
  ·refine YGoal.app (q := 8) (s := 12) (Lq := (L0 ++ [[46], S])) (M := LT) sB2 hbs (by decide) rfl rfl rfl rfl (by simp) hLT (by simp; omega) (by simp) (by kernel_rfl) (by kernel_rfl) (by kernel_rfl) (by kernel_rfl) (fun f v down hno hq => ?_)
   obtain ⟨v4, e4⟩ := Option.ne_none_iff_exists'.1 (down 8 4 (by kernel_rfl) (by rw [hq]; simp))
   have e14 := za7 down (i := 14) (j := 13) (by kernel_rfl) hno
   exact ⟨e14, by simp [zao, zav, e4, hq, hno], by simp [zah, hq, hno], fun x => ⟨by simp [zao, zav, zbx, e4, hq], by simp [zah, zbx, hq]⟩⟩
  ·refine YGoal.last (q := 13) (by decide) (by simp) rfl rfl rfl (by kernel_rfl) (by kernel_rfl) (fun f v down hq => ?_)
   obtain ⟨v8, e8⟩ := Option.ne_none_iff_exists'.1 (down 13 8 (by kernel_rfl) (by rw [hq]; simp))
   obtain ⟨v4, e4⟩ := Option.ne_none_iff_exists'.1 (down 8 4 (by kernel_rfl) (by rw [e8]; simp))
   simp [zao, zav, hq, e4, e8]
 case fin =>
  intro a' W f hz hdf hkp hBW hf hV hX
  have hdone : (∃ v, f 4 = some v) ∧ (∃ v, f 8 = some v) ∧ (∃ v, f 13 = some v) := ⟨⟨_, hf 4 107 (by kernel_rfl)⟩, ⟨_, hf 8 111 (by kernel_rfl)⟩, ⟨_, hf 13 116 (by kernel_rfl)⟩⟩
  have hL : zah f L0 [(8, 7, [[46], S]), (13, 12, LT)] = (L0 ++ [[46], S] ++ LT) := by
   obtain ⟨⟨_, _⟩, ⟨_, e8⟩, ⟨_, e13⟩⟩ := hdone
   simp [zah, e8, e13]
  obtain ⟨hown, _⟩ := hX.2.2 _ (hX.1 _ (hf 14 2 (by kernel_rfl)))
  rw [hL] at hown
  have HB2 := za3 (toB W hBW)
  rw [zd3 hz rfl hdf hkp]
  clear hf hV hX hkp hdone hL cB cX cA sB sB2 hbs hlow toB ofB
  generalize hv2 : a'.tmps.getD 2 undef = v2 at hown
  simp only [List.foldl, Option.getD]
  rw [hv2]
  go_wp2
  go_ret
  exact ⟨⟨_, rfl, by rw [za0 HLD]; exact hown.mono hbw1.size⟩, bon hbw1 (za0 HB2)⟩
theorem behind {LA LT : List Bs} {w W w1 : World} {v u : Value} (hb : Below w.heap.size w W) (hv : W.ownsRow w.heap.size 9 1 v LA.length (zcg LA)) (hb1 : Below W.heap.size W w1) (hu : w1.ownsRow W.heap.size 9 1 u LT.length (zcg LT)) (hp : 0 < LT.length) (hl : LA.length + LT.length ≤ 1000000) :
  ∃ (r : Value) (W4 : World), (Builtin.append_ #[25, 25] 25 #[v, u]).run Tryz.prog w1 = .ok r W4 ∧ W4.ownsRow w.heap.size 9 1 r (LA ++ LT).length (zcg (LA ++ LT)) ∧ Below w.heap.size w W4 := by
 have h2 := hv.kept (zaa hb1) (zbw _)
 have hbw : Below w.heap.size w w1 := bon hb hb1
 obtain ⟨g2, cp2, rfl⟩ := zbe hu hp
 obtain ⟨g3, cp3, W5, E2, hL2⟩ := Left.appends h2 hbw.size hl hp (SRow.of_owns hu)
 exact ⟨_, W5, E2, by simpa using hL2.1, hbw.trans hL2.2.1⟩
theorem tolds_11 (A N : Int) (S : ByteArray) (pt pn : Option Addr) (nt nn ct cn c m : Nat) (w : World) (g o : Nat) (L0 : List Bs) (A' K' N' : Int) (S' : ByteArray) (qn qe q3 : Option Addr) (n1 c1 n2 c2 n3 c3 : Nat) (hp : 0 < L0.length) (hl : L0.length ≤ 300000) (LT LA : List Bs) (hLT : 0 < LT.length) (hlT : LT.length ≤ 300000) (hm : m ≤ c) (hLA : LA = if K' = 9 then zeb L0 else L0)
  (a0 : w.cell? ⟨g, o, none⟩ = some (.int .i64 A')) (a1 : w.cell? ⟨g, o + 1, none⟩ = some (.int .i64 K')) (a2 : w.cell? ⟨g, o + 2, none⟩ = some (.int .i64 N')) (a3 : w.cell? ⟨g, o + 3, none⟩ = some (.string S')) (a4 : w.cell? ⟨g, o + 4, none⟩ = some (.slice qn n1 c1)) (a5 : w.cell? ⟨g, o + 5, none⟩ = some (.slice qe n2 c2)) (a6 : w.cell? ⟨g, o + 6, none⟩ = some (.slice q3 n3 c3))
  (CT : ∀ W, Below w.heap.size w W → Leaves 51 #[.slice (zie g o c) m c] W LT)
  (CL : ∀ W, Below w.heap.size w W → Leaves 50 #[.agg #[.int .i64 A', .int .i64 K', .int .i64 N', .string S', .slice qn n1 c1, .slice qe n2 c2, .slice q3 n3 c3], .int .i64 7] W L0) :
  zdh A 11 N S pt pn (some ⟨g, o, none⟩) nt nn (m + 1) ct cn (c + 1) w (LA ++ LT) := by
 have hg := za2 a0
 have hb0 : Below w.heap.size w (w.alloc (zbm A 11 N S pt pn (some ⟨g, o, none⟩) nt nn (m + 1) ct cn (c + 1))) := al1 _ _
 have e0 := (hb0.cell (p := ⟨g, _, none⟩) hg).trans a0
 have e1 := (hb0.cell (p := ⟨g, _, none⟩) hg).trans a1
 have e2 := (hb0.cell (p := ⟨g, _, none⟩) hg).trans a2
 have e3 := (hb0.cell (p := ⟨g, _, none⟩) hg).trans a3
 have e4 := (hb0.cell (p := ⟨g, _, none⟩) hg).trans a4
 have e5 := (hb0.cell (p := ⟨g, _, none⟩) hg).trans a5
 have e6 := (hb0.cell (p := ⟨g, _, none⟩) hg).trans a6
 have HC := za3 (CL _ hb0)
 have HCT := za3 CT
 have HB := za3 hb0
 have A1 := za3 a1
 have HLA := za3 hLA
 obtain ⟨L, hLd⟩ : ∃ L, L = LA ++ LT := ⟨_, rfl⟩
 rw [← hLd]
 have HLD := za3 hLd
 have m1 : (m : Int) ≤ (c : Int) := by omega
 have m2 : (1 : Int) ≤ (m : Int) + 1 := by omega
 clear CL CT a0 a1 a2 a3 a4 a5 a6 hb0 hLA hLd
 go_enter Tryz.func10, Tryz.ntmps10
 go_wp2_with fail
 refine (za0 HC).mono ?_
 rintro _ w1 ⟨⟨u1, rfl, hu1⟩, hb1⟩
 obtain ⟨d0, d1, d2, d3, d4, d5, d6⟩ := zam hb1
 have hbw := bon (za0 HB) hb1
 have f1 := (hbw.cell (p := ⟨g, _, none⟩) (za2 (za0 A1))).trans (za0 A1)
 obtain ⟨g2, cp2, rfl⟩ := zbe hu1 hp
 have HB1 := za3 hb1
 have HO1 := za3 hu1
 clear HC e0 e1 e2 e3 e4 e5 e6
 by_cases hk : K' = 9
 ·subst hk
  obtain ⟨v2, W4, E2, v3, W5, E3, ho5, hb5⟩ := aside (g0 := w1.heap.size) hb1 rfl hu1 hp (by omega) rfl
  obtain ⟨x0, x1, x2, x3, x4, x5, x6⟩ := zam hb5
  obtain ⟨g5, cp5, rfl⟩ := zbe ho5 (by simp [zeb])
  have HE2 := za3 E2
  have HE3 := za3 E3
  have HO5 := za3 ho5
  have HB5 := za3 hb5
  have HL5 : Hid (LA = zeb L0) := by show _ = _; rw [za0 HLA, if_pos rfl]
  clear E2 E3 ho5 hb5 hu1 hb1 hbw HLA HO1 HB1
  by_cases hc : c = 0
  ·obtain rfl := hc
   obtain rfl : m = 0 := by omega
   rw [show zie g o 0 = some ⟨g, o, none⟩ from rfl] at HCT
   go_wp2_with (first
    | (at_builtin; refine za4 rfl (.tmp 130) (.tmp 131) 25 rfl rfl rfl (za0 HE2) ?_; clear HE2)
    | (at_builtin; refine za4 rfl (.tmp 132) (.tmp 133) 25 rfl rfl rfl (za0 HE3) ?_; clear HE3))
   refine (za0 HCT W5 (bon (za0 HB) (za0 HB5))).mono ?_
   rintro _ w2 ⟨⟨u2, rfl, hu2⟩, hb2⟩
   obtain ⟨g6, cp6, rfl⟩ := zbe hu2 hLT
   obtain ⟨v6, W6, E6, ho6, hb6⟩ := behind (za0 HB5) (za0 HO5) hb2 hu2 hLT (by simp [zeb]; omega)
   have HE6 := za3 E6
   have HO6 := za3 (ho6.mono (za0 HB).size)
   have HB6 := za3 (bon (za0 HB) hb6)
   clear E6 ho6 hb6 hu2
   go_wp2_with (at_builtin; refine za4 rfl (.tmp 135) (.tmp 139) 25 rfl rfl rfl (za0 HE6) ?_; clear HE6)
   go_ret
   exact ⟨⟨_, rfl, by rw [za0 HLD, za0 HL5]; exact za0 HO6⟩, za0 HB6⟩
  ·rw [show zie g o c = some ⟨g, o + 7, none⟩ from if_neg hc] at HCT
   go_wp2_with (first
    | (at_builtin; refine za4 rfl (.tmp 130) (.tmp 131) 25 rfl rfl rfl (za0 HE2) ?_; clear HE2)
    | (at_builtin; refine za4 rfl (.tmp 132) (.tmp 133) 25 rfl rfl rfl (za0 HE3) ?_; clear HE3))
   refine (za0 HCT W5 (bon (za0 HB) (za0 HB5))).mono ?_
   rintro _ w2 ⟨⟨u2, rfl, hu2⟩, hb2⟩
   obtain ⟨g6, cp6, rfl⟩ := zbe hu2 hLT
   obtain ⟨v6, W6, E6, ho6, hb6⟩ := behind (za0 HB5) (za0 HO5) hb2 hu2 hLT (by simp [zeb]; omega)
   have HE6 := za3 E6
   have HO6 := za3 (ho6.mono (za0 HB).size)
   have HB6 := za3 (bon (za0 HB) hb6)
   clear E6 ho6 hb6 hu2
   go_wp2_with (at_builtin; refine za4 rfl (.tmp 135) (.tmp 139) 25 rfl rfl rfl (za0 HE6) ?_; clear HE6)
   go_ret
   exact ⟨⟨_, rfl, by rw [za0 HLD, za0 HL5]; exact za0 HO6⟩, za0 HB6⟩
 ·have hk9 : (K' == 9) = false := beq_eq_false_iff_ne.2 hk
  have HL5 : Hid (LA = L0) := by show _ = _; rw [za0 HLA, if_neg hk]
  clear hk HLA hu1 hb1 hbw
  by_cases hc : c = 0
  ·obtain rfl := hc
   obtain rfl : m = 0 := by omega
   rw [show zie g o 0 = some ⟨g, o, none⟩ from rfl] at HCT
   go_wp2_with fail
   refine (za0 HCT w1 (bon (za0 HB) (za0 HB1))).mono ?_
   rintro _ w2 ⟨⟨u2, rfl, hu2⟩, hb2⟩
   obtain ⟨g6, cp6, rfl⟩ := zbe hu2 hLT
   obtain ⟨v6, W6, E6, ho6, hb6⟩ := behind (za0 HB1) (za0 HO1) hb2 hu2 hLT (by omega)
   have HE6 := za3 E6
   have HO6 := za3 (ho6.mono (za0 HB).size)
   have HB6 := za3 (bon (za0 HB) hb6)
   clear E6 ho6 hb6 hu2
   go_wp2_with (at_builtin; refine za4 rfl (.tmp 135) (.tmp 139) 25 rfl rfl rfl (za0 HE6) ?_; clear HE6)
   go_ret
   exact ⟨⟨_, rfl, by rw [za0 HLD, za0 HL5]; exact za0 HO6⟩, za0 HB6⟩
  ·rw [show zie g o c = some ⟨g, o + 7, none⟩ from if_neg hc] at HCT
   go_wp2_with fail
   refine (za0 HCT w1 (bon (za0 HB) (za0 HB1))).mono ?_
   rintro _ w2 ⟨⟨u2, rfl, hu2⟩, hb2⟩
   obtain ⟨g6, cp6, rfl⟩ := zbe hu2 hLT
   obtain ⟨v6, W6, E6, ho6, hb6⟩ := behind (za0 HB1) (za0 HO1) hb2 hu2 hLT (by omega)
   have HE6 := za3 E6
   have HO6 := za3 (ho6.mono (za0 HB).size)
   have HB6 := za3 (bon (za0 HB) hb6)
   clear E6 ho6 hb6 hu2
   go_wp2_with (at_builtin; refine za4 rfl (.tmp 135) (.tmp 139) 25 rfl rfl rfl (za0 HE6) ?_; clear HE6)
   go_ret
   exact ⟨⟨_, rfl, by rw [za0 HLD, za0 HL5]; exact za0 HO6⟩, za0 HB6⟩
end Go.Proofs.YtmpbbmfbgcpplaaGreatDoor
