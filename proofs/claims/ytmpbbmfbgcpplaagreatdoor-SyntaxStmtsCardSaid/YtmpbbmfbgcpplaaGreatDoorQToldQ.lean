import Derived.Test.YtmpbbmfbgcpplaaGreatDoorQTypedG
import Derived.Test.YtmpbbmfbgcpplaaGreatDoorQToldP
set_option maxHeartbeats 2000000
set_option maxRecDepth 100000
namespace Go.Proofs.YtmpbbmfbgcpplaaGreatDoor
open Go Go.RowKit Lx
section
variable {o : Oper} {a : Act} {w : World} {K : Act → World → Prop} {Q : Exit → Act → World → Prop}
theorem zbo {x : Operand} {b i : Nat} (hi : i < 7) (ho : o.op = .fieldAddr 28 x i) (hx : a.eval x = .pointer (some ⟨b, 0, none⟩)) (h : K (a.put o.dst (.pointer (some ⟨b, i, none⟩))) w) : o.wp Tryz.prog a w K Q := by
 unfold Oper.wp
 match i, hi with
 | 0, _ => simp only [execOp, ho, hx]; go_simp; exact h
 | 1, _ => simp only [execOp, ho, hx]; go_simp; exact h
 | 2, _ => simp only [execOp, ho, hx]; go_simp; exact h
 | 3, _ => simp only [execOp, ho, hx]; go_simp; exact h
 | 4, _ => simp only [execOp, ho, hx]; go_simp; exact h
 | 5, _ => simp only [execOp, ho, hx]; go_simp; exact h
 | 6, _ => simp only [execOp, ho, hx]; go_simp; exact h
theorem zdx {x : Operand} {b i : Nat} {p : Option Addr} {n c : Nat} (ho : o.op = .load 26 x) (hx : a.eval x = .pointer (some ⟨b, i, none⟩)) (h0 : w.cell? ⟨b, i, none⟩ = some (.slice p n c)) (h : K (a.put o.dst (.slice p n c)) w) : o.wp Tryz.prog a w K Q := by
 unfold Oper.wp; simp only [execOp, ho, hx]; go_simp
 exact h
theorem zdm {x y : Operand} {g e : Nat} {n c k : Nat} (ho : o.op = .indexAddr 26 x y) (hx : a.eval x = .slice (some ⟨g, e, none⟩) n c) (hy : a.eval y = .int .i64 (k : Int)) (hk : (k : Int) < (n : Int)) (h : K (a.put o.dst (.pointer (some ⟨g, e + k * 7, none⟩))) w) : o.wp Tryz.prog a w K Q := by
 unfold Oper.wp; simp only [execOp, ho, hx, hy]; go_simp
 exact h
theorem zed {x : Operand} {b i : Nat} {c0 c1 c2 c3 c4 c5 c6 : Value} (ho : o.op = .load 28 x) (hx : a.eval x = .pointer (some ⟨b, i, none⟩)) (h0 : w.cell? ⟨b, i, none⟩ = some c0 ∧ w.cell? ⟨b, i + 1, none⟩ = some c1 ∧ w.cell? ⟨b, i + 2, none⟩ = some c2 ∧ w.cell? ⟨b, i + 3, none⟩ = some c3 ∧ w.cell? ⟨b, i + 4, none⟩ = some c4 ∧ w.cell? ⟨b, i + 5, none⟩ = some c5 ∧ w.cell? ⟨b, i + 6, none⟩ = some c6) (h : K (a.put o.dst (.agg #[c0, c1, c2, c3, c4, c5, c6])) w) : o.wp Tryz.prog a w K Q := by
 obtain ⟨h0, h1, h2, h3, h4, h5, h6⟩ := h0
 unfold Oper.wp; simp only [execOp, ho, hx]; go_simp
 exact h
theorem zgj {x y : Operand} {s t : ByteArray} (ho : o.op = .buildSlice 25 2 #[(0, x), (1, y)]) (hx : a.eval x = .string s) (hy : a.eval y = .string t) (h : K (a.put o.dst (.slice (some ⟨w.heap.size, 0, none⟩) 2 2)) (w.alloc (.cells #[.string s, .string t] 9))) : o.wp Tryz.prog a w K Q := by
 unfold Oper.wp
 simp only [execOp, ho, List.map_toArray, List.map_cons, List.map_nil, hx, hy]
 go_simp
 exact h
end
theorem zfo (args : Array Value) (w : World) : Sem.run Tryz.prog (callFunc 50 args) w = .ok (.enter 50 args) w := by kernel_rfl
theorem args_enter (args : Array Value) (w : World) : Sem.run Tryz.prog (callFunc 51 args) w = .ok (.enter 51 args) w := by kernel_rfl
theorem told_enter (args : Array Value) (w : World) : Sem.run Tryz.prog (callFunc 10 args) w = .ok (.enter 10 args) w := by kernel_rfl
theorem sign_enter (args : Array Value) (w : World) : Sem.run Tryz.prog (callFunc 53 args) w = .ok (.enter 53 args) w := by kernel_rfl
theorem src2 (W : World) (s t : Bs) : SRow (W.alloc (.cells #[.string ⟨s.toArray⟩, .string ⟨t.toArray⟩] 9)) (.slice (some ⟨W.heap.size, 0, none⟩) 2 2) [s, t] ∧ ∀ g, (Value.slice (some ⟨W.heap.size, 0, none⟩) 2 2).ownBlock = some g → W.heap.size ≤ g ∧ g < (W.alloc (.cells #[.string ⟨s.toArray⟩, .string ⟨t.toArray⟩] 9)).heap.size :=
 ⟨SRow.of_owns (zkb W s t), fun g hg => (zkb W s t).lt g hg⟩
def v30 (b g o : Nat) (vp vx : Value) (s : ByteArray) : List (Option Value) := [some (.pointer (some ⟨b, 6, none⟩)), some (vp), some (.pointer (some ⟨g, o + 0 * 7, none⟩)), some (vx), none, some (.pointer (some ⟨b, 3, none⟩)), some (.string s), none, none, none]
theorem tolds_9 (A N : Int) (S : Bs) (pt pn : Option Addr) (nt nn ct cn cp : Nat) (w : World) (g o : Nat) (L0 : List Bs) (A' K' N' : Int) (S' : ByteArray) (qn qe q3 : Option Addr) (n1 c1 n2 c2 n3 c3 : Nat) (hp : 0 < L0.length) (hl : L0.length ≤ 300000)
  (a0 : w.cell? ⟨g, o, none⟩ = some (.int .i64 A')) (a1 : w.cell? ⟨g, o + 1, none⟩ = some (.int .i64 K')) (a2 : w.cell? ⟨g, o + 2, none⟩ = some (.int .i64 N')) (a3 : w.cell? ⟨g, o + 3, none⟩ = some (.string S')) (a4 : w.cell? ⟨g, o + 4, none⟩ = some (.slice qn n1 c1)) (a5 : w.cell? ⟨g, o + 5, none⟩ = some (.slice qe n2 c2)) (a6 : w.cell? ⟨g, o + 6, none⟩ = some (.slice q3 n3 c3))
  (CL : ∀ W, Below w.heap.size w W → Leaves 50 #[.agg #[.int .i64 A', .int .i64 K', .int .i64 N', .string S', .slice qn n1 c1, .slice qe n2 c2, .slice q3 n3 c3], .int .i64 7] W L0) :
  zdh A 9 N ⟨S.toArray⟩ pt pn (some ⟨g, o, none⟩) nt nn 1 ct cn cp w (L0 ++ [[46], S]) := by
 have hg := za2 a0
 obtain ⟨L, hLd⟩ : ∃ L, L = (L0 ++ [[46], S]) := ⟨_, rfl⟩
 rw [← hLd]
 have HLD := za3 hLd
 clear hLd
 obtain ⟨w1, hw1⟩ : ∃ w1, w1 = w.alloc (zbm A 9 N ⟨S.toArray⟩ pt pn (some ⟨g, o, none⟩) nt nn 1 ct cn cp) := ⟨_, rfl⟩
 have HW1 := za3 hw1
 have hbw1 : Below w.heap.size w w1 := by rw [hw1]; exact al1 _ _
 have hB7 : ∀ W, Below w1.heap.size w1 W → _ := fun W (h : Below w1.heap.size w1 W) => zam (w := w) (A := A) (K := 9) (N := N) (S := ⟨S.toArray⟩) (pt := pt) (pn := pn) (pp := some ⟨g, o, none⟩) (nt := nt) (nn := nn) (np := 1) (ct := ct) (cn := cn) (cp := cp) (wr := W) (by rw [← za0 HW1]; exact h)
 obtain ⟨B, hBd⟩ : ∃ B : World → Prop, B = fun W => Below w1.heap.size w1 W := ⟨_, rfl⟩
 have toB : ∀ W, B W → Below w1.heap.size w1 W := fun W h => by rw [hBd] at h; exact h
 have ofB : ∀ W, Below w1.heap.size w1 W → B W := fun W h => by rw [hBd]; exact h
 have sB : ∀ W W', B W → Below W.heap.size W W' → B W' := fun W W' h hb => ofB _ (bon (toB _ h) hb)
 have sB2 : ∀ W W', B W → Below w1.heap.size W W' → B W' := fun W W' h hb => ofB _ ((toB _ h).trans hb)
 have hbs : ∀ W, B W → w1.heap.size ≤ W.heap.size := fun W h => (toB W h).size
 have hlow : ∀ W, B W → Below w.heap.size w W := fun W h => bon hbw1 (toB W h)
 have cB : ∀ W, B W → _ := fun W h => hB7 W (toB W h)
 have cX : ∀ W, B W → W.cell? ⟨g, o, none⟩ = some (.int .i64 A') ∧ W.cell? ⟨g, o + 1, none⟩ = some (.int .i64 K') ∧ W.cell? ⟨g, o + 2, none⟩ = some (.int .i64 N') ∧ W.cell? ⟨g, o + 3, none⟩ = some (.string S') ∧ W.cell? ⟨g, o + 4, none⟩ = some (.slice qn n1 c1) ∧ W.cell? ⟨g, o + 5, none⟩ = some (.slice qe n2 c2) ∧ W.cell? ⟨g, o + 6, none⟩ = some (.slice q3 n3 c3) := fun W h => ⟨((hlow W h).cell (p := ⟨g, _, none⟩) hg).trans a0, ((hlow W h).cell (p := ⟨g, _, none⟩) hg).trans a1, ((hlow W h).cell (p := ⟨g, _, none⟩) hg).trans a2, ((hlow W h).cell (p := ⟨g, _, none⟩) hg).trans a3, ((hlow W h).cell (p := ⟨g, _, none⟩) hg).trans a4, ((hlow W h).cell (p := ⟨g, _, none⟩) hg).trans a5, ((hlow W h).cell (p := ⟨g, _, none⟩) hg).trans a6⟩
 have cA : ∀ W, B W → Leaves 50 #[.agg #[.int .i64 A', .int .i64 K', .int .i64 N', .string S', .slice qn n1 c1, .slice qe n2 c2, .slice q3 n3 c3], .int .i64 7] W L0 := fun W h => CL W (hlow W h)
 clear CL a0 a1 a2 a3 a4 a5 a6 hB7 hw1
 go_enter Tryz.func10, Tryz.ntmps10
 go_wp2_with fail
 rw [← za0 HW1]
 refine zbq (n := 199) (by kernel_rfl) (by kernel_rfl) (by kernel_rfl) rfl B (VP (v30 w.heap.size g o (.slice (some ⟨g, o, none⟩) 1 cp) (.agg #[.int .i64 A', .int .i64 K', .int .i64 N', .string S', .slice qn n1 c1, .slice qe n2 c2, .slice q3 n3 c3]) ⟨S.toArray⟩)) (XCh w1.heap.size 4 9 none L0 [(8, 7, [[46], S])])
  (ofB _ (zad (Below.refl _ _))) (XCh.init (fun v hv => by cases hv)) ?each ?fin
 case each =>
  refine ⟨?_, ?_, ?_, ?_, ?_, ?_, ?_, ?_, ?_, ?_, trivial⟩
  ·exact YGoal.plain sB (by decide) (by decide) (by simp) (fun a' W f hz hkp hlt hBW hno down dep => ⟨za1 rfl, zbo (by decide) rfl (show a'.eval (.tmp 1) = Value.pointer (some ⟨w.heap.size, 0, none⟩) from hkp 1 (by kernel_rfl)) ⟨_, rfl, Below.refl _ _, rfl⟩⟩)
  ·exact YGoal.plain sB (by decide) (by decide) (by simp) (fun a' W f hz hkp hlt hBW hno down dep => ⟨za1 rfl, zdx rfl (dep 0 92 _ (by kernel_rfl) (by kernel_rfl) rfl) (cB W hBW).2.2.2.2.2.2 ⟨_, rfl, Below.refl _ _, rfl⟩⟩)
  ·exact YGoal.plain sB (by decide) (by decide) (by simp) (fun a' W f hz hkp hlt hBW hno down dep => ⟨za1 rfl, zdm (k := 0) rfl (dep 1 93 _ (by kernel_rfl) (by kernel_rfl) rfl) rfl (by simp) ⟨_, rfl, Below.refl _ _, rfl⟩⟩)
  ·exact YGoal.plain sB (by decide) (by decide) (by simp) (fun a' W f hz hkp hlt hBW hno down dep => ⟨za1 rfl, zed rfl (dep 2 94 _ (by kernel_rfl) (by kernel_rfl) rfl) (cX W hBW) ⟨_, rfl, Below.refl _ _, rfl⟩⟩)
  ·refine YGoal.fresh sB hbs (by decide) (by simp) rfl (fun f down hno => ?_) (fun a' W hz hkp hBW dep => ⟨za1 rfl, zfp rfl (dep 3 95 _ (by kernel_rfl) (by kernel_rfl) rfl) rfl zfo ((cA W hBW).mono fun e w' ⟨⟨u, he, h1⟩, hb⟩ => ⟨u, he, u, rfl, hb, h1⟩)⟩)
   have e8 := za7 down (i := 8) (j := 4) (by kernel_rfl) hno
   have e9 := za7 down (i := 9) (j := 8) (by kernel_rfl) e8
   exact ⟨e9, by simp [e8]⟩
  ·exact YGoal.plain sB (by decide) (by decide) (by simp) (fun a' W f hz hkp hlt hBW hno down dep => ⟨za1 rfl, zbo (by decide) rfl (show a'.eval (.tmp 1) = Value.pointer (some ⟨w.heap.size, 0, none⟩) from hkp 1 (by kernel_rfl)) ⟨_, rfl, Below.refl _ _, rfl⟩⟩)
  ·exact YGoal.plain sB (by decide) (by decide) (by simp) (fun a' W f hz hkp hlt hBW hno down dep => ⟨za1 rfl, zfi rfl (dep 5 97 _ (by kernel_rfl) (by kernel_rfl) rfl) (cB W hBW).2.2.2.1 ⟨_, rfl, Below.refl _ _, rfl⟩⟩)
  ·exact YGoal.src (M := [[46], S]) sB (by decide) (by decide) (by simp) rfl (fun a' W hz hkp hBW dep => ⟨za1 rfl, zgj (s := ⟨#[46]⟩) rfl rfl (dep 6 98 _ (by kernel_rfl) (by kernel_rfl) rfl) ⟨_, rfl, al1 _ _, src2 W [46] S⟩⟩)
  ·refine YGoal.app (q := 4) (s := 7) (Lq := L0) (M := [[46], S]) sB2 hbs (by decide) rfl rfl rfl rfl (by simp) (by simp) (by simp; omega) (by simp) (by kernel_rfl) (by kernel_rfl) (by kernel_rfl) (by kernel_rfl) (fun f v down hno hq => ?_)
   have e9 := za7 down (i := 9) (j := 8) (by kernel_rfl) hno
   exact ⟨e9, by simp [zao, zav, hq, hno], by simp [zah, hno], fun x => ⟨by simp [zao, zav, zbx, hq], by simp [zah, zbx]⟩⟩
  ·refine YGoal.last (q := 8) (by decide) (by simp) rfl rfl rfl (by kernel_rfl) (by kernel_rfl) (fun f v down hq => ?_)
   obtain ⟨v4, e4⟩ := Option.ne_none_iff_exists'.1 (down 8 4 (by kernel_rfl) (by rw [hq]; simp))
   simp [zao, zav, hq, e4]
 case fin =>
  intro a' W f hz hdf hkp hBW hf hV hX
  have hdone : (∃ v, f 4 = some v) ∧ (∃ v, f 8 = some v) := ⟨⟨_, hf 4 96 (by kernel_rfl)⟩, ⟨_, hf 8 100 (by kernel_rfl)⟩⟩
  have hL : zah f L0 [(8, 7, [[46], S])] = (L0 ++ [[46], S]) := by
   obtain ⟨⟨_, _⟩, ⟨_, e8⟩⟩ := hdone
   simp [zah, e8]
  obtain ⟨hown, _⟩ := hX.2.2 _ (hX.1 _ (hf 9 2 (by kernel_rfl)))
  rw [hL] at hown
  have HB2 := za3 (toB W hBW)
  rw [zd3 hz rfl hdf hkp]
  clear hf hV hX hkp hdone hL cB cX cA sB sB2 hbs hlow toB ofB
  generalize hv2 : a'.tmps.getD 2 undef = v2 at hown
  simp only [List.foldl, Option.getD]
  rw [hv2]
  go_wp2
  go_ret
  exact ⟨⟨_, rfl, by rw [za0 HLD]; exact hown.mono hbw1.size⟩, bon hbw1 (za0 HB2)⟩
def v39 (b g o : Nat) (vp vx : Value) (gt ot : Nat) (vt vy : Value) : List (Option Value) := [some (.pointer (some ⟨b, 6, none⟩)), some (vp), some (.pointer (some ⟨g, o + 0 * 7, none⟩)), some (vx), none, none, none, some (.pointer (some ⟨b, 4, none⟩)), some (vt), some (.pointer (some ⟨gt, ot + 0 * 5, none⟩)), some (vy), none, none, none]
theorem tolds_12 (A N : Int) (S : ByteArray) (pn : Option Addr) (nn ct cn cp : Nat) (w : World) (g o : Nat) (L0 : List Bs) (A' K' N' : Int) (S' : ByteArray) (qn qe q3 : Option Addr) (n1 c1 n2 c2 n3 c3 : Nat) (hp : 0 < L0.length) (hl : L0.length ≤ 300000) (gt ot : Nat) (LT : List Bs) (kt : Int) (st : ByteArray) (tn te tp : Option Addr) (m1 d1 m2 d2 m3 d3 : Nat) (hLT : 0 < LT.length) (hlT : LT.length ≤ 300000)
  (a0 : w.cell? ⟨g, o, none⟩ = some (.int .i64 A')) (a1 : w.cell? ⟨g, o + 1, none⟩ = some (.int .i64 K')) (a2 : w.cell? ⟨g, o + 2, none⟩ = some (.int .i64 N')) (a3 : w.cell? ⟨g, o + 3, none⟩ = some (.string S')) (a4 : w.cell? ⟨g, o + 4, none⟩ = some (.slice qn n1 c1)) (a5 : w.cell? ⟨g, o + 5, none⟩ = some (.slice qe n2 c2)) (a6 : w.cell? ⟨g, o + 6, none⟩ = some (.slice q3 n3 c3))
  (t0 : w.cell? ⟨gt, ot, none⟩ = some (.int .i64 kt)) (t1 : w.cell? ⟨gt, ot + 1, none⟩ = some (.string st)) (t2 : w.cell? ⟨gt, ot + 2, none⟩ = some (.slice tn m1 d1)) (t3 : w.cell? ⟨gt, ot + 3, none⟩ = some (.slice te m2 d2)) (t4 : w.cell? ⟨gt, ot + 4, none⟩ = some (.slice tp m3 d3))
  (CT : ∀ W, Below w.heap.size w W → Leaves 49 #[.agg #[.int .i64 kt, .string st, .slice tn m1 d1, .slice te m2 d2, .slice tp m3 d3]] W LT)
  (CL : ∀ W, Below w.heap.size w W → Leaves 50 #[.agg #[.int .i64 A', .int .i64 K', .int .i64 N', .string S', .slice qn n1 c1, .slice qe n2 c2, .slice q3 n3 c3], .int .i64 7] W L0) :
  zdh A 12 N S (some ⟨gt, ot, none⟩) pn (some ⟨g, o, none⟩) 1 nn 1 ct cn cp w (L0 ++ [[116, 111]] ++ LT) := by
 have hg := za2 a0
 obtain ⟨L, hLd⟩ : ∃ L, L = (L0 ++ [[116, 111]] ++ LT) := ⟨_, rfl⟩
 rw [← hLd]
 have HLD := za3 hLd
 clear hLd
 obtain ⟨w1, hw1⟩ : ∃ w1, w1 = w.alloc (zbm A 12 N S (some ⟨gt, ot, none⟩) pn (some ⟨g, o, none⟩) 1 nn 1 ct cn cp) := ⟨_, rfl⟩
 have HW1 := za3 hw1
 have hbw1 : Below w.heap.size w w1 := by rw [hw1]; exact al1 _ _
 have hB7 : ∀ W, Below w1.heap.size w1 W → _ := fun W (h : Below w1.heap.size w1 W) => zam (w := w) (A := A) (K := 12) (N := N) (S := S) (pt := (some ⟨gt, ot, none⟩)) (pn := pn) (pp := some ⟨g, o, none⟩) (nt := 1) (nn := nn) (np := 1) (ct := ct) (cn := cn) (cp := cp) (wr := W) (by rw [← za0 HW1]; exact h)
 obtain ⟨B, hBd⟩ : ∃ B : World → Prop, B = fun W => Below w1.heap.size w1 W := ⟨_, rfl⟩
 have toB : ∀ W, B W → Below w1.heap.size w1 W := fun W h => by rw [hBd] at h; exact h
 have ofB : ∀ W, Below w1.heap.size w1 W → B W := fun W h => by rw [hBd]; exact h
 have sB : ∀ W W', B W → Below W.heap.size W W' → B W' := fun W W' h hb => ofB _ (bon (toB _ h) hb)
 have sB2 : ∀ W W', B W → Below w1.heap.size W W' → B W' := fun W W' h hb => ofB _ ((toB _ h).trans hb)
 have hbs : ∀ W, B W → w1.heap.size ≤ W.heap.size := fun W h => (toB W h).size
 have hlow : ∀ W, B W → Below w.heap.size w W := fun W h => bon hbw1 (toB W h)
 have cB : ∀ W, B W → _ := fun W h => hB7 W (toB W h)
 have cX : ∀ W, B W → W.cell? ⟨g, o, none⟩ = some (.int .i64 A') ∧ W.cell? ⟨g, o + 1, none⟩ = some (.int .i64 K') ∧ W.cell? ⟨g, o + 2, none⟩ = some (.int .i64 N') ∧ W.cell? ⟨g, o + 3, none⟩ = some (.string S') ∧ W.cell? ⟨g, o + 4, none⟩ = some (.slice qn n1 c1) ∧ W.cell? ⟨g, o + 5, none⟩ = some (.slice qe n2 c2) ∧ W.cell? ⟨g, o + 6, none⟩ = some (.slice q3 n3 c3) := fun W h => ⟨((hlow W h).cell (p := ⟨g, _, none⟩) hg).trans a0, ((hlow W h).cell (p := ⟨g, _, none⟩) hg).trans a1, ((hlow W h).cell (p := ⟨g, _, none⟩) hg).trans a2, ((hlow W h).cell (p := ⟨g, _, none⟩) hg).trans a3, ((hlow W h).cell (p := ⟨g, _, none⟩) hg).trans a4, ((hlow W h).cell (p := ⟨g, _, none⟩) hg).trans a5, ((hlow W h).cell (p := ⟨g, _, none⟩) hg).trans a6⟩
 have cA : ∀ W, B W → Leaves 50 #[.agg #[.int .i64 A', .int .i64 K', .int .i64 N', .string S', .slice qn n1 c1, .slice qe n2 c2, .slice q3 n3 c3], .int .i64 7] W L0 := fun W h => CL W (hlow W h)
 have hgt := za2 t0
 have cT : ∀ W, B W → W.cell? ⟨gt, ot, none⟩ = some (.int .i64 kt) ∧ W.cell? ⟨gt, ot + 1, none⟩ = some (.string st) ∧ W.cell? ⟨gt, ot + 2, none⟩ = some (.slice tn m1 d1) ∧ W.cell? ⟨gt, ot + 3, none⟩ = some (.slice te m2 d2) ∧ W.cell? ⟨gt, ot + 4, none⟩ = some (.slice tp m3 d3) := fun W h => ⟨((hlow W h).cell (p := ⟨gt, _, none⟩) hgt).trans t0, ((hlow W h).cell (p := ⟨gt, _, none⟩) hgt).trans t1, ((hlow W h).cell (p := ⟨gt, _, none⟩) hgt).trans t2, ((hlow W h).cell (p := ⟨gt, _, none⟩) hgt).trans t3, ((hlow W h).cell (p := ⟨gt, _, none⟩) hgt).trans t4⟩
 have cY : ∀ W, B W → Leaves 49 #[.agg #[.int .i64 kt, .string st, .slice tn m1 d1, .slice te m2 d2, .slice tp m3 d3]] W LT := fun W h => CT W (hlow W h)
 clear CL a0 a1 a2 a3 a4 a5 a6 hB7 hw1 CT t0 t1 t2 t3 t4
 go_enter Tryz.func10, Tryz.ntmps10
 go_wp2_with fail
 rw [← za0 HW1]
 refine zbq (n := 199) (by kernel_rfl) (by kernel_rfl) (by kernel_rfl) rfl B (VP (v39 w.heap.size g o (.slice (some ⟨g, o, none⟩) 1 cp) (.agg #[.int .i64 A', .int .i64 K', .int .i64 N', .string S', .slice qn n1 c1, .slice qe n2 c2, .slice q3 n3 c3]) gt ot (.slice (some ⟨gt, ot, none⟩) 1 ct) (.agg #[.int .i64 kt, .string st, .slice tn m1 d1, .slice te m2 d2, .slice tp m3 d3]))) (XCh w1.heap.size 4 13 none L0 [(6, 5, [[116, 111]]), (12, 11, LT)])
  (ofB _ (zad (Below.refl _ _))) (XCh.init (fun v hv => by cases hv)) ?each ?fin
 case each =>
  refine ⟨?_, ?_, ?_, ?_, ?_, ?_, ?_, ?_, ?_, ?_, ?_, ?_, ?_, ?_, trivial⟩
  ·exact YGoal.plain sB (by decide) (by decide) (by simp) (fun a' W f hz hkp hlt hBW hno down dep => ⟨za1 rfl, zbo (by decide) rfl (show a'.eval (.tmp 1) = Value.pointer (some ⟨w.heap.size, 0, none⟩) from hkp 1 (by kernel_rfl)) ⟨_, rfl, Below.refl _ _, rfl⟩⟩)
  ·exact YGoal.plain sB (by decide) (by decide) (by simp) (fun a' W f hz hkp hlt hBW hno down dep => ⟨za1 rfl, zdx rfl (dep 0 143 _ (by kernel_rfl) (by kernel_rfl) rfl) (cB W hBW).2.2.2.2.2.2 ⟨_, rfl, Below.refl _ _, rfl⟩⟩)
  ·exact YGoal.plain sB (by decide) (by decide) (by simp) (fun a' W f hz hkp hlt hBW hno down dep => ⟨za1 rfl, zdm (k := 0) rfl (dep 1 144 _ (by kernel_rfl) (by kernel_rfl) rfl) rfl (by simp) ⟨_, rfl, Below.refl _ _, rfl⟩⟩)
  ·exact YGoal.plain sB (by decide) (by decide) (by simp) (fun a' W f hz hkp hlt hBW hno down dep => ⟨za1 rfl, zed rfl (dep 2 145 _ (by kernel_rfl) (by kernel_rfl) rfl) (cX W hBW) ⟨_, rfl, Below.refl _ _, rfl⟩⟩)
  ·refine YGoal.fresh sB hbs (by decide) (by simp) rfl (fun f down hno => ?_) (fun a' W hz hkp hBW dep => ⟨za1 rfl, zfp rfl (dep 3 146 _ (by kernel_rfl) (by kernel_rfl) rfl) rfl zfo ((cA W hBW).mono fun e w' ⟨⟨u, he, h1⟩, hb⟩ => ⟨u, he, u, rfl, hb, h1⟩)⟩)
   have e6 := za7 down (i := 6) (j := 4) (by kernel_rfl) hno
   have e12 := za7 down (i := 12) (j := 6) (by kernel_rfl) e6
   have e13 := za7 down (i := 13) (j := 12) (by kernel_rfl) e12
   exact ⟨e13, by simp [e6, e12]⟩
  ·exact YGoal.src (M := [[116, 111]]) sB (by decide) (by decide) (by simp) rfl (fun a' W hz hkp hBW dep => ⟨za1 rfl, zcy (s := ⟨#[116, 111]⟩) rfl rfl ⟨_, rfl, al1 _ _, src1 W [116, 111]⟩⟩)
  ·refine YGoal.app (q := 4) (s := 5) (Lq := L0) (M := [[116, 111]]) sB2 hbs (by decide) rfl rfl rfl rfl (by simp) (by simp) (by simp; omega) (by simp) (by kernel_rfl) (by kernel_rfl) (by kernel_rfl) (by kernel_rfl) (fun f v down hno hq => ?_)
   have e12 := za7 down (i := 12) (j := 6) (by kernel_rfl) hno
   have e13 := za7 down (i := 13) (j := 12) (by kernel_rfl) e12
   exact ⟨e13, by simp [zao, zav, hq, hno], by simp [zah, hno], fun x => ⟨by simp [zao, zav, zbx, hq, e12], by simp [zah, zbx, e12]⟩⟩
  ·exact YGoal.plain sB (by decide) (by decide) (by simp) (fun a' W f hz hkp hlt hBW hno down dep => ⟨za1 rfl, zbo (by decide) rfl (show a'.eval (.tmp 1) = Value.pointer (some ⟨w.heap.size, 0, none⟩) from hkp 1 (by kernel_rfl)) ⟨_, rfl, Below.refl _ _, rfl⟩⟩)
  ·exact YGoal.plain sB (by decide) (by decide) (by simp) (fun a' W f hz hkp hlt hBW hno down dep => ⟨za1 rfl, zjl rfl (dep 7 150 _ (by kernel_rfl) (by kernel_rfl) rfl) (cB W hBW).2.2.2.2.1 ⟨_, rfl, Below.refl _ _, rfl⟩⟩)
  ·exact YGoal.plain sB (by decide) (by decide) (by simp) (fun a' W f hz hkp hlt hBW hno down dep => ⟨za1 rfl, zhg (k := 0) rfl (dep 8 151 _ (by kernel_rfl) (by kernel_rfl) rfl) rfl (by simp) ⟨_, rfl, Below.refl _ _, rfl⟩⟩)
  ·exact YGoal.plain sB (by decide) (by decide) (by simp) (fun a' W f hz hkp hlt hBW hno down dep => ⟨za1 rfl, zlg rfl (dep 9 152 _ (by kernel_rfl) (by kernel_rfl) rfl) (cT W hBW).1 (cT W hBW).2.1 (cT W hBW).2.2.1 (cT W hBW).2.2.2.1 (cT W hBW).2.2.2.2 ⟨_, rfl, Below.refl _ _, rfl⟩⟩)
  ·exact YGoal.src (M := LT) sB (by decide) (by decide) (by simp) rfl (fun a' W hz hkp hBW dep => ⟨za1 rfl, zcw rfl (dep 10 153 _ (by kernel_rfl) (by kernel_rfl) rfl) zhc ((cY W hBW).mono fun e w' ⟨⟨u, he, h1⟩, hb⟩ => ⟨u, he, u, rfl, hb, SRow.of_owns h1, fun g hg => h1.lt g hg⟩)⟩)
  ·refine YGoal.app (q := 6) (s := 11) (Lq := (L0 ++ [[116, 111]])) (M := LT) sB2 hbs (by decide) rfl rfl rfl rfl (by simp) hLT (by simp; omega) (by simp) (by kernel_rfl) (by kernel_rfl) (by kernel_rfl) (by kernel_rfl) (fun f v down hno hq => ?_)
   obtain ⟨v4, e4⟩ := Option.ne_none_iff_exists'.1 (down 6 4 (by kernel_rfl) (by rw [hq]; simp))
   have e13 := za7 down (i := 13) (j := 12) (by kernel_rfl) hno
   exact ⟨e13, by simp [zao, zav, e4, hq, hno], by simp [zah, hq, hno], fun x => ⟨by simp [zao, zav, zbx, e4, hq], by simp [zah, zbx, hq]⟩⟩
  ·refine YGoal.last (q := 12) (by decide) (by simp) rfl rfl rfl (by kernel_rfl) (by kernel_rfl) (fun f v down hq => ?_)
   obtain ⟨v6, e6⟩ := Option.ne_none_iff_exists'.1 (down 12 6 (by kernel_rfl) (by rw [hq]; simp))
   obtain ⟨v4, e4⟩ := Option.ne_none_iff_exists'.1 (down 6 4 (by kernel_rfl) (by rw [e6]; simp))
   simp [zao, zav, hq, e4, e6]
 case fin =>
  intro a' W f hz hdf hkp hBW hf hV hX
  have hdone : (∃ v, f 4 = some v) ∧ (∃ v, f 6 = some v) ∧ (∃ v, f 12 = some v) := ⟨⟨_, hf 4 147 (by kernel_rfl)⟩, ⟨_, hf 6 149 (by kernel_rfl)⟩, ⟨_, hf 12 155 (by kernel_rfl)⟩⟩
  have hL : zah f L0 [(6, 5, [[116, 111]]), (12, 11, LT)] = (L0 ++ [[116, 111]] ++ LT) := by
   obtain ⟨⟨_, _⟩, ⟨_, e6⟩, ⟨_, e12⟩⟩ := hdone
   simp [zah, e6, e12]
  obtain ⟨hown, _⟩ := hX.2.2 _ (hX.1 _ (hf 13 2 (by kernel_rfl)))
  rw [hL] at hown
  have HB2 := za3 (toB W hBW)
  rw [zd3 hz rfl hdf hkp]
  clear hf hV hX hkp hdone hL cB cX cA sB sB2 hbs hlow toB ofB
  generalize hv2 : a'.tmps.getD 2 undef = v2 at hown
  simp only [List.foldl, Option.getD]
  rw [hv2]
  go_wp2
  go_ret
  exact ⟨⟨_, rfl, by rw [za0 HLD]; exact hown.mono hbw1.size⟩, bon hbw1 (za0 HB2)⟩
section
variable {o : Oper} {a : Act} {w : World} {K : Act → World → Prop} {Q : Exit → Act → World → Prop}
theorem op_loadI {x : Operand} {b i : Nat} {n : Int} (ho : o.op = .load 3 x) (hx : a.eval x = .pointer (some ⟨b, i, none⟩)) (h0 : w.cell? ⟨b, i, none⟩ = some (.int .i64 n)) (h : K (a.put o.dst (.int .i64 n)) w) : o.wp Tryz.prog a w K Q := by
 unfold Oper.wp; simp only [execOp, ho, hx]; go_simp
 exact h
theorem op_addI {x : Operand} {n : Int} (ho : o.op = .binOp .add 3 x (.const (.int .i64 1)) 3) (hx : a.eval x = .int .i64 n) (h0 : 0 ≤ n) (h1 : n ≤ 1000000) (h : K (a.put o.dst (.int .i64 (n + 1))) w) : o.wp Tryz.prog a w K Q := by
 have hy : a.eval (.const (.int .i64 1)) = .int .i64 1 := rfl
 unfold Oper.wp; simp only [execOp, ho, hx, hy]; simp [go_sem]
 rw [show IntKind.i64.wrap (n + 1) = n + 1 by rw [IntKind.wrap_i64]; omega]
 exact h
end
def v48 (b g o : Nat) (vp vx vy : Value) (lv lf kk : Int) (sg : ByteArray) : List (Option Value) := [some (.pointer (some ⟨b, 6, none⟩)), some (vp), some (.pointer (some ⟨g, o + 0 * 7, none⟩)), some (vx), some (.int .i64 lf), none, some (.pointer (some ⟨b, 1, none⟩)), some (.int .i64 kk), some (.string sg), none, none, some (.pointer (some ⟨b, 6, none⟩)), some (vp), some (.pointer (some ⟨g, o + 1 * 7, none⟩)), some (vy), some (.int .i64 lv), some (.int .i64 (lv + 1)), none, none, none]
theorem tolds_two3 (A K N : Int) (S : ByteArray) (sg : Bs) (pt pn : Option Addr) (nt nn ct cn cp : Nat) (w : World) (g o : Nat) (L0 : List Bs) (A' K' N' : Int) (S' : ByteArray) (qn qe q3 : Option Addr) (n1 c1 n2 c2 n3 c3 : Nat) (hp : 0 < L0.length) (hl : L0.length ≤ 300000) (LT : List Bs) (A2 K2 N2 : Int) (S2 : ByteArray) (rn re r3 : Option Addr) (m1 d1 m2 d2 m3 d3 : Nat) (hLT : 0 < LT.length) (hlT : LT.length ≤ 300000) (k1 : 15 ≤ K) (k2 : K ≤ 21) (hlv : zbj K = 3) (hsg : signS K = sg)
  (a0 : w.cell? ⟨g, o, none⟩ = some (.int .i64 A')) (a1 : w.cell? ⟨g, o + 1, none⟩ = some (.int .i64 K')) (a2 : w.cell? ⟨g, o + 2, none⟩ = some (.int .i64 N')) (a3 : w.cell? ⟨g, o + 3, none⟩ = some (.string S')) (a4 : w.cell? ⟨g, o + 4, none⟩ = some (.slice qn n1 c1)) (a5 : w.cell? ⟨g, o + 5, none⟩ = some (.slice qe n2 c2)) (a6 : w.cell? ⟨g, o + 6, none⟩ = some (.slice q3 n3 c3))
  (b0 : w.cell? ⟨g, o + 7, none⟩ = some (.int .i64 A2)) (b1 : w.cell? ⟨g, o + 7 + 1, none⟩ = some (.int .i64 K2)) (b2 : w.cell? ⟨g, o + 7 + 2, none⟩ = some (.int .i64 N2)) (b3 : w.cell? ⟨g, o + 7 + 3, none⟩ = some (.string S2)) (b4 : w.cell? ⟨g, o + 7 + 4, none⟩ = some (.slice rn m1 d1)) (b5 : w.cell? ⟨g, o + 7 + 5, none⟩ = some (.slice re m2 d2)) (b6 : w.cell? ⟨g, o + 7 + 6, none⟩ = some (.slice r3 m3 d3))
  (CL : ∀ W, Below w.heap.size w W → Leaves 50 #[.agg #[.int .i64 A', .int .i64 K', .int .i64 N', .string S', .slice qn n1 c1, .slice qe n2 c2, .slice q3 n3 c3], .int .i64 4] W L0)
  (CL2 : ∀ W, Below w.heap.size w W → Leaves 50 #[.agg #[.int .i64 A2, .int .i64 K2, .int .i64 N2, .string S2, .slice rn m1 d1, .slice re m2 d2, .slice r3 m3 d3], .int .i64 (3 + 1)] W LT) :
  zdh A K N S pt pn (some ⟨g, o, none⟩) nt nn 2 ct cn cp w (L0 ++ [sg] ++ LT) := by
 have hg := za2 a0
 obtain ⟨L, hLd⟩ : ∃ L, L = L0 ++ [sg] ++ LT := ⟨_, rfl⟩
 rw [← hLd]
 have HLD := za3 hLd
 clear hLd
 have LV : Hid (∀ W, Calls Tryz.prog 52 #[.int .i64 K] W fun e w' => e = .returned (.int .i64 3) ∧ W = w') := fun W => by rw [← hlv]; exact zj0 K W (by omega) k2
 have cG : ∀ W, Calls Tryz.prog 53 #[.int .i64 K] W fun e w' => e = .returned (.string ⟨sg.toArray⟩) ∧ W = w' := fun W => by rw [← hsg]; exact rsign_any K W k1 k2
 have kq1 : (K == 1) = false := beq_eq_false_iff_ne.2 (by omega)
 have kq2 : (K == 2) = false := beq_eq_false_iff_ne.2 (by omega)
 have kq3 : (K == 3) = false := beq_eq_false_iff_ne.2 (by omega)
 have kq4 : (K == 4) = false := beq_eq_false_iff_ne.2 (by omega)
 have kq5 : (K == 5) = false := beq_eq_false_iff_ne.2 (by omega)
 have kq6 : (K == 6) = false := beq_eq_false_iff_ne.2 (by omega)
 have kq7 : (K == 7) = false := beq_eq_false_iff_ne.2 (by omega)
 have kq8 : (K == 8) = false := beq_eq_false_iff_ne.2 (by omega)
 have kq9 : (K == 9) = false := beq_eq_false_iff_ne.2 (by omega)
 have kq10 : (K == 10) = false := beq_eq_false_iff_ne.2 (by omega)
 have kq11 : (K == 11) = false := beq_eq_false_iff_ne.2 (by omega)
 have kq12 : (K == 12) = false := beq_eq_false_iff_ne.2 (by omega)
 have kq13 : (K == 13) = false := beq_eq_false_iff_ne.2 (by omega)
 have kq14 : (K == 14) = false := beq_eq_false_iff_ne.2 (by omega)
 obtain ⟨w1, hw1⟩ : ∃ w1, w1 = w.alloc (zbm A K N S pt pn (some ⟨g, o, none⟩) nt nn 2 ct cn cp) := ⟨_, rfl⟩
 have HW1 := za3 hw1
 have hbw1 : Below w.heap.size w w1 := by rw [hw1]; exact al1 _ _
 have hB7 : ∀ W, Below w1.heap.size w1 W → _ := fun W (h : Below w1.heap.size w1 W) => zam (w := w) (A := A) (K := K) (N := N) (S := S) (pt := pt) (pn := pn) (pp := some ⟨g, o, none⟩) (nt := nt) (nn := nn) (np := 2) (ct := ct) (cn := cn) (cp := cp) (wr := W) (by rw [← za0 HW1]; exact h)
 obtain ⟨B, hBd⟩ : ∃ B : World → Prop, B = fun W => Below w1.heap.size w1 W := ⟨_, rfl⟩
 have toB : ∀ W, B W → Below w1.heap.size w1 W := fun W h => by rw [hBd] at h; exact h
 have ofB : ∀ W, Below w1.heap.size w1 W → B W := fun W h => by rw [hBd]; exact h
 have sB : ∀ W W', B W → Below W.heap.size W W' → B W' := fun W W' h hb => ofB _ (bon (toB _ h) hb)
 have sB2 : ∀ W W', B W → Below w1.heap.size W W' → B W' := fun W W' h hb => ofB _ ((toB _ h).trans hb)
 have hbs : ∀ W, B W → w1.heap.size ≤ W.heap.size := fun W h => (toB W h).size
 have hlow : ∀ W, B W → Below w.heap.size w W := fun W h => bon hbw1 (toB W h)
 have cB : ∀ W, B W → _ := fun W h => hB7 W (toB W h)
 have cc : ∀ W, B W → ∀ i v, w.cell? ⟨g, i, none⟩ = some v → W.cell? ⟨g, i, none⟩ = some v := fun W h i v e => ((hlow W h).cell (p := ⟨g, _, none⟩) hg).trans e
 have cX : ∀ W, B W → W.cell? ⟨g, o, none⟩ = some (.int .i64 A') ∧ W.cell? ⟨g, o + 1, none⟩ = some (.int .i64 K') ∧ W.cell? ⟨g, o + 2, none⟩ = some (.int .i64 N') ∧ W.cell? ⟨g, o + 3, none⟩ = some (.string S') ∧ W.cell? ⟨g, o + 4, none⟩ = some (.slice qn n1 c1) ∧ W.cell? ⟨g, o + 5, none⟩ = some (.slice qe n2 c2) ∧ W.cell? ⟨g, o + 6, none⟩ = some (.slice q3 n3 c3) := fun W h => ⟨cc W h _ _ a0, cc W h _ _ a1, cc W h _ _ a2, cc W h _ _ a3, cc W h _ _ a4, cc W h _ _ a5, cc W h _ _ a6⟩
 have cX2 : ∀ W, B W → W.cell? ⟨g, o + 7, none⟩ = some (.int .i64 A2) ∧ W.cell? ⟨g, o + 7 + 1, none⟩ = some (.int .i64 K2) ∧ W.cell? ⟨g, o + 7 + 2, none⟩ = some (.int .i64 N2) ∧ W.cell? ⟨g, o + 7 + 3, none⟩ = some (.string S2) ∧ W.cell? ⟨g, o + 7 + 4, none⟩ = some (.slice rn m1 d1) ∧ W.cell? ⟨g, o + 7 + 5, none⟩ = some (.slice re m2 d2) ∧ W.cell? ⟨g, o + 7 + 6, none⟩ = some (.slice r3 m3 d3) := fun W h => ⟨cc W h _ _ b0, cc W h _ _ b1, cc W h _ _ b2, cc W h _ _ b3, cc W h _ _ b4, cc W h _ _ b5, cc W h _ _ b6⟩
 have cA : ∀ W, B W → Leaves 50 #[.agg #[.int .i64 A', .int .i64 K', .int .i64 N', .string S', .slice qn n1 c1, .slice qe n2 c2, .slice q3 n3 c3], .int .i64 4] W L0 := fun W h => CL W (hlow W h)
 have cA2 : ∀ W, B W → Leaves 50 #[.agg #[.int .i64 A2, .int .i64 K2, .int .i64 N2, .string S2, .slice rn m1 d1, .slice re m2 d2, .slice r3 m3 d3], .int .i64 (3 + 1)] W LT := fun W h => CL2 W (hlow W h)
 clear CL CL2 cc a0 a1 a2 a3 a4 a5 a6 b0 b1 b2 b3 b4 b5 b6 hB7 hw1 hlv hsg
 go_enter Tryz.func10, Tryz.ntmps10
 go_wp2_with fail
 refine (za0 LV _).mono ?_
 rintro _ w9 ⟨rfl, rfl⟩
 go_wp2_with fail
 rw [← za0 HW1]
 refine zbq (n := 199) (by kernel_rfl) (by kernel_rfl) (by kernel_rfl) rfl B (VP (v48 w.heap.size g o (.slice (some ⟨g, o, none⟩) 2 cp) (.agg #[.int .i64 A', .int .i64 K', .int .i64 N', .string S', .slice qn n1 c1, .slice qe n2 c2, .slice q3 n3 c3]) (.agg #[.int .i64 A2, .int .i64 K2, .int .i64 N2, .string S2, .slice rn m1 d1, .slice re m2 d2, .slice r3 m3 d3]) 3 4 K ⟨sg.toArray⟩)) (XCh w1.heap.size 5 19 none L0 [(10, 9, [sg]), (18, 17, LT)])
  (ofB _ (zad (Below.refl _ _))) (XCh.init (fun v hv => by cases hv)) ?each ?fin
 case each =>
  refine ⟨?_, ?_, ?_, ?_, ?_, ?_, ?_, ?_, ?_, ?_, ?_, ?_, ?_, ?_, ?_, ?_, ?_, ?_, ?_, ?_, trivial⟩
  ·exact YGoal.plain sB (by decide) (by decide) (by simp) (fun a' W f hz hkp hlt hBW hno down dep => ⟨za1 rfl, zbo (by decide) rfl (show a'.eval (.tmp 1) = Value.pointer (some ⟨w.heap.size, 0, none⟩) from hkp 1 (by kernel_rfl)) ⟨_, rfl, Below.refl _ _, rfl⟩⟩)
  ·exact YGoal.plain sB (by decide) (by decide) (by simp) (fun a' W f hz hkp hlt hBW hno down dep => ⟨za1 rfl, zdx rfl (dep 0 180 _ (by kernel_rfl) (by kernel_rfl) rfl) (cB W hBW).2.2.2.2.2.2 ⟨_, rfl, Below.refl _ _, rfl⟩⟩)
  ·exact YGoal.plain sB (by decide) (by decide) (by simp) (fun a' W f hz hkp hlt hBW hno down dep => ⟨za1 rfl, zdm (k := 0) rfl (dep 1 181 _ (by kernel_rfl) (by kernel_rfl) rfl) rfl (by simp) ⟨_, rfl, Below.refl _ _, rfl⟩⟩)
  ·exact YGoal.plain sB (by decide) (by decide) (by simp) (fun a' W f hz hkp hlt hBW hno down dep => ⟨za1 rfl, zed rfl (dep 2 182 _ (by kernel_rfl) (by kernel_rfl) rfl) (cX W hBW) ⟨_, rfl, Below.refl _ _, rfl⟩⟩)
  ·exact YGoal.plain sB (by decide) (by decide) (by simp) (fun a' W f hz hkp hlt hBW hno down dep => ⟨za1 rfl, zbl rfl (show a'.eval (.tmp 7) = Value.int .i64 4 from hkp 7 (by kernel_rfl)) ⟨_, rfl, Below.refl _ _, rfl⟩⟩)
  ·refine YGoal.fresh sB hbs (by decide) (by simp) rfl (fun f down hno => ?_) (fun a' W hz hkp hBW dep => ⟨za1 rfl, zfp rfl (dep 3 183 _ (by kernel_rfl) (by kernel_rfl) rfl) (dep 4 184 _ (by kernel_rfl) (by kernel_rfl) rfl) zfo ((cA W hBW).mono fun e w' ⟨⟨u, he, h1⟩, hb⟩ => ⟨u, he, u, rfl, hb, h1⟩)⟩)
   have e10 := za7 down (i := 10) (j := 5) (by kernel_rfl) hno
   have e18 := za7 down (i := 18) (j := 10) (by kernel_rfl) e10
   have e19 := za7 down (i := 19) (j := 18) (by kernel_rfl) e18
   exact ⟨e19, by simp [e10, e18]⟩
  ·exact YGoal.plain sB (by decide) (by decide) (by simp) (fun a' W f hz hkp hlt hBW hno down dep => ⟨za1 rfl, zbo (by decide) rfl (show a'.eval (.tmp 1) = Value.pointer (some ⟨w.heap.size, 0, none⟩) from hkp 1 (by kernel_rfl)) ⟨_, rfl, Below.refl _ _, rfl⟩⟩)
  ·exact YGoal.plain sB (by decide) (by decide) (by simp) (fun a' W f hz hkp hlt hBW hno down dep => ⟨za1 rfl, op_loadI rfl (dep 6 186 _ (by kernel_rfl) (by kernel_rfl) rfl) (cB W hBW).2.1 ⟨_, rfl, Below.refl _ _, rfl⟩⟩)
  ·exact YGoal.plain sB (by decide) (by decide) (by simp) (fun a' W f hz hkp hlt hBW hno down dep => ⟨za1 rfl, zcw rfl (dep 7 187 _ (by kernel_rfl) (by kernel_rfl) rfl) sign_enter ((cG W).mono fun e w' ⟨he, hw⟩ => by obtain rfl := hw; exact ⟨_, he, _, rfl, Below.refl _ _, rfl⟩)⟩)
  ·exact YGoal.src (M := [sg]) sB (by decide) (by decide) (by simp) rfl (fun a' W hz hkp hBW dep => ⟨za1 rfl, zcy rfl (dep 8 188 _ (by kernel_rfl) (by kernel_rfl) rfl) ⟨_, rfl, al1 _ _, src1 W sg⟩⟩)
  ·refine YGoal.app (q := 5) (s := 9) (Lq := L0) (M := [sg]) sB2 hbs (by decide) rfl rfl rfl rfl (by simp) (by simp) (by simp; omega) (by simp) (by kernel_rfl) (by kernel_rfl) (by kernel_rfl) (by kernel_rfl) (fun f v down hno hq => ?_)
   have e18 := za7 down (i := 18) (j := 10) (by kernel_rfl) hno
   have e19 := za7 down (i := 19) (j := 18) (by kernel_rfl) e18
   exact ⟨e19, by simp [zao, zav, hq, hno], by simp [zah, hno], fun x => ⟨by simp [zao, zav, zbx, hq, e18], by simp [zah, zbx, e18]⟩⟩
  ·exact YGoal.plain sB (by decide) (by decide) (by simp) (fun a' W f hz hkp hlt hBW hno down dep => ⟨za1 rfl, zbo (by decide) rfl (show a'.eval (.tmp 1) = Value.pointer (some ⟨w.heap.size, 0, none⟩) from hkp 1 (by kernel_rfl)) ⟨_, rfl, Below.refl _ _, rfl⟩⟩)
  ·exact YGoal.plain sB (by decide) (by decide) (by simp) (fun a' W f hz hkp hlt hBW hno down dep => ⟨za1 rfl, zdx rfl (dep 11 191 _ (by kernel_rfl) (by kernel_rfl) rfl) (cB W hBW).2.2.2.2.2.2 ⟨_, rfl, Below.refl _ _, rfl⟩⟩)
  ·exact YGoal.plain sB (by decide) (by decide) (by simp) (fun a' W f hz hkp hlt hBW hno down dep => ⟨za1 rfl, zdm (k := 1) rfl (dep 12 192 _ (by kernel_rfl) (by kernel_rfl) rfl) rfl (by simp) ⟨_, rfl, Below.refl _ _, rfl⟩⟩)
  ·exact YGoal.plain sB (by decide) (by decide) (by simp) (fun a' W f hz hkp hlt hBW hno down dep => ⟨za1 rfl, zed rfl (dep 13 193 _ (by kernel_rfl) (by kernel_rfl) rfl) (cX2 W hBW) ⟨_, rfl, Below.refl _ _, rfl⟩⟩)
  ·exact YGoal.plain sB (by decide) (by decide) (by simp) (fun a' W f hz hkp hlt hBW hno down dep => ⟨za1 rfl, zbl rfl (show a'.eval (.tmp 6) = Value.int .i64 3 from hkp 6 (by kernel_rfl)) ⟨_, rfl, Below.refl _ _, rfl⟩⟩)
  ·exact YGoal.plain sB (by decide) (by decide) (by simp) (fun a' W f hz hkp hlt hBW hno down dep => ⟨za1 rfl, op_addI rfl (dep 15 195 _ (by kernel_rfl) (by kernel_rfl) rfl) (by omega) (by omega) ⟨_, rfl, Below.refl _ _, rfl⟩⟩)
  ·exact YGoal.src (M := LT) sB (by decide) (by decide) (by simp) rfl (fun a' W hz hkp hBW dep => ⟨za1 rfl, zfp rfl (dep 14 194 _ (by kernel_rfl) (by kernel_rfl) rfl) (dep 16 196 _ (by kernel_rfl) (by kernel_rfl) rfl) zfo ((cA2 W hBW).mono fun e w' ⟨⟨u, he, h1⟩, hb⟩ => ⟨u, he, u, rfl, hb, SRow.of_owns h1, fun g hg => h1.lt g hg⟩)⟩)
  ·refine YGoal.app (q := 10) (s := 17) (Lq := (L0 ++ [sg])) (M := LT) sB2 hbs (by decide) rfl rfl rfl rfl (by simp) hLT (by simp; omega) (by simp) (by kernel_rfl) (by kernel_rfl) (by kernel_rfl) (by kernel_rfl) (fun f v down hno hq => ?_)
   obtain ⟨v5, e5⟩ := Option.ne_none_iff_exists'.1 (down 10 5 (by kernel_rfl) (by rw [hq]; simp))
   have e19 := za7 down (i := 19) (j := 18) (by kernel_rfl) hno
   exact ⟨e19, by simp [zao, zav, e5, hq, hno], by simp [zah, hq, hno], fun x => ⟨by simp [zao, zav, zbx, e5, hq], by simp [zah, zbx, hq]⟩⟩
  ·refine YGoal.last (q := 18) (by decide) (by simp) rfl rfl rfl (by kernel_rfl) (by kernel_rfl) (fun f v down hq => ?_)
   obtain ⟨v10, e10⟩ := Option.ne_none_iff_exists'.1 (down 18 10 (by kernel_rfl) (by rw [hq]; simp))
   obtain ⟨v5, e5⟩ := Option.ne_none_iff_exists'.1 (down 10 5 (by kernel_rfl) (by rw [e10]; simp))
   simp [zao, zav, hq, e5, e10]
 case fin =>
  intro a' W f hz hdf hkp hBW hf hV hX
  have hdone : (∃ v, f 5 = some v) ∧ (∃ v, f 10 = some v) ∧ (∃ v, f 18 = some v) := ⟨⟨_, hf 5 185 (by kernel_rfl)⟩, ⟨_, hf 10 190 (by kernel_rfl)⟩, ⟨_, hf 18 198 (by kernel_rfl)⟩⟩
  have hL : zah f L0 [(10, 9, [sg]), (18, 17, LT)] = (L0 ++ [sg] ++ LT) := by
   obtain ⟨⟨_, _⟩, ⟨_, e10⟩, ⟨_, e18⟩⟩ := hdone
   simp [zah, e10, e18]
  obtain ⟨hown, _⟩ := hX.2.2 _ (hX.1 _ (hf 19 2 (by kernel_rfl)))
  rw [hL] at hown
  have HB2 := za3 (toB W hBW)
  rw [zd3 hz rfl hdf hkp]
  clear hf hV hX hkp hdone hL cB cX cA cX2 cA2 cG sB sB2 hbs hlow toB ofB
  generalize hv2 : a'.tmps.getD 2 undef = v2 at hown
  simp only [List.foldl, Option.getD]
  rw [hv2]
  go_wp2
  go_ret
  exact ⟨⟨_, rfl, by rw [za0 HLD]; exact hown.mono hbw1.size⟩, bon hbw1 (za0 HB2)⟩
theorem tolds_two (A K N : Int) (lv : Int) (S : ByteArray) (sg : Bs) (pt pn : Option Addr) (nt nn ct cn cp : Nat) (w : World) (g o : Nat) (L0 : List Bs) (A' K' N' : Int) (S' : ByteArray) (qn qe q3 : Option Addr) (n1 c1 n2 c2 n3 c3 : Nat) (hp : 0 < L0.length) (hl : L0.length ≤ 300000) (LT : List Bs) (A2 K2 N2 : Int) (S2 : ByteArray) (rn re r3 : Option Addr) (m1 d1 m2 d2 m3 d3 : Nat) (hLT : 0 < LT.length) (hlT : LT.length ≤ 300000) (k1 : 15 ≤ K) (k2 : K ≤ 21) (hlv : zbj K = lv) (lv0 : 0 ≤ lv) (lv1 : lv ≤ 1000) (lv3 : (lv == 3) = false) (hsg : signS K = sg)
  (a0 : w.cell? ⟨g, o, none⟩ = some (.int .i64 A')) (a1 : w.cell? ⟨g, o + 1, none⟩ = some (.int .i64 K')) (a2 : w.cell? ⟨g, o + 2, none⟩ = some (.int .i64 N')) (a3 : w.cell? ⟨g, o + 3, none⟩ = some (.string S')) (a4 : w.cell? ⟨g, o + 4, none⟩ = some (.slice qn n1 c1)) (a5 : w.cell? ⟨g, o + 5, none⟩ = some (.slice qe n2 c2)) (a6 : w.cell? ⟨g, o + 6, none⟩ = some (.slice q3 n3 c3))
  (b0 : w.cell? ⟨g, o + 7, none⟩ = some (.int .i64 A2)) (b1 : w.cell? ⟨g, o + 7 + 1, none⟩ = some (.int .i64 K2)) (b2 : w.cell? ⟨g, o + 7 + 2, none⟩ = some (.int .i64 N2)) (b3 : w.cell? ⟨g, o + 7 + 3, none⟩ = some (.string S2)) (b4 : w.cell? ⟨g, o + 7 + 4, none⟩ = some (.slice rn m1 d1)) (b5 : w.cell? ⟨g, o + 7 + 5, none⟩ = some (.slice re m2 d2)) (b6 : w.cell? ⟨g, o + 7 + 6, none⟩ = some (.slice r3 m3 d3))
  (CL : ∀ W, Below w.heap.size w W → Leaves 50 #[.agg #[.int .i64 A', .int .i64 K', .int .i64 N', .string S', .slice qn n1 c1, .slice qe n2 c2, .slice q3 n3 c3], .int .i64 lv] W L0)
  (CL2 : ∀ W, Below w.heap.size w W → Leaves 50 #[.agg #[.int .i64 A2, .int .i64 K2, .int .i64 N2, .string S2, .slice rn m1 d1, .slice re m2 d2, .slice r3 m3 d3], .int .i64 (lv + 1)] W LT) :
  zdh A K N S pt pn (some ⟨g, o, none⟩) nt nn 2 ct cn cp w (L0 ++ [sg] ++ LT) := by
 have hg := za2 a0
 obtain ⟨L, hLd⟩ : ∃ L, L = L0 ++ [sg] ++ LT := ⟨_, rfl⟩
 rw [← hLd]
 have HLD := za3 hLd
 clear hLd
 have LV : Hid (∀ W, Calls Tryz.prog 52 #[.int .i64 K] W fun e w' => e = .returned (.int .i64 lv) ∧ W = w') := fun W => by rw [← hlv]; exact zj0 K W (by omega) k2
 have cG : ∀ W, Calls Tryz.prog 53 #[.int .i64 K] W fun e w' => e = .returned (.string ⟨sg.toArray⟩) ∧ W = w' := fun W => by rw [← hsg]; exact rsign_any K W k1 k2
 have kq1 : (K == 1) = false := beq_eq_false_iff_ne.2 (by omega)
 have kq2 : (K == 2) = false := beq_eq_false_iff_ne.2 (by omega)
 have kq3 : (K == 3) = false := beq_eq_false_iff_ne.2 (by omega)
 have kq4 : (K == 4) = false := beq_eq_false_iff_ne.2 (by omega)
 have kq5 : (K == 5) = false := beq_eq_false_iff_ne.2 (by omega)
 have kq6 : (K == 6) = false := beq_eq_false_iff_ne.2 (by omega)
 have kq7 : (K == 7) = false := beq_eq_false_iff_ne.2 (by omega)
 have kq8 : (K == 8) = false := beq_eq_false_iff_ne.2 (by omega)
 have kq9 : (K == 9) = false := beq_eq_false_iff_ne.2 (by omega)
 have kq10 : (K == 10) = false := beq_eq_false_iff_ne.2 (by omega)
 have kq11 : (K == 11) = false := beq_eq_false_iff_ne.2 (by omega)
 have kq12 : (K == 12) = false := beq_eq_false_iff_ne.2 (by omega)
 have kq13 : (K == 13) = false := beq_eq_false_iff_ne.2 (by omega)
 have kq14 : (K == 14) = false := beq_eq_false_iff_ne.2 (by omega)
 obtain ⟨w1, hw1⟩ : ∃ w1, w1 = w.alloc (zbm A K N S pt pn (some ⟨g, o, none⟩) nt nn 2 ct cn cp) := ⟨_, rfl⟩
 have HW1 := za3 hw1
 have hbw1 : Below w.heap.size w w1 := by rw [hw1]; exact al1 _ _
 have hB7 : ∀ W, Below w1.heap.size w1 W → _ := fun W (h : Below w1.heap.size w1 W) => zam (w := w) (A := A) (K := K) (N := N) (S := S) (pt := pt) (pn := pn) (pp := some ⟨g, o, none⟩) (nt := nt) (nn := nn) (np := 2) (ct := ct) (cn := cn) (cp := cp) (wr := W) (by rw [← za0 HW1]; exact h)
 obtain ⟨B, hBd⟩ : ∃ B : World → Prop, B = fun W => Below w1.heap.size w1 W := ⟨_, rfl⟩
 have toB : ∀ W, B W → Below w1.heap.size w1 W := fun W h => by rw [hBd] at h; exact h
 have ofB : ∀ W, Below w1.heap.size w1 W → B W := fun W h => by rw [hBd]; exact h
 have sB : ∀ W W', B W → Below W.heap.size W W' → B W' := fun W W' h hb => ofB _ (bon (toB _ h) hb)
 have sB2 : ∀ W W', B W → Below w1.heap.size W W' → B W' := fun W W' h hb => ofB _ ((toB _ h).trans hb)
 have hbs : ∀ W, B W → w1.heap.size ≤ W.heap.size := fun W h => (toB W h).size
 have hlow : ∀ W, B W → Below w.heap.size w W := fun W h => bon hbw1 (toB W h)
 have cB : ∀ W, B W → _ := fun W h => hB7 W (toB W h)
 have cc : ∀ W, B W → ∀ i v, w.cell? ⟨g, i, none⟩ = some v → W.cell? ⟨g, i, none⟩ = some v := fun W h i v e => ((hlow W h).cell (p := ⟨g, _, none⟩) hg).trans e
 have cX : ∀ W, B W → W.cell? ⟨g, o, none⟩ = some (.int .i64 A') ∧ W.cell? ⟨g, o + 1, none⟩ = some (.int .i64 K') ∧ W.cell? ⟨g, o + 2, none⟩ = some (.int .i64 N') ∧ W.cell? ⟨g, o + 3, none⟩ = some (.string S') ∧ W.cell? ⟨g, o + 4, none⟩ = some (.slice qn n1 c1) ∧ W.cell? ⟨g, o + 5, none⟩ = some (.slice qe n2 c2) ∧ W.cell? ⟨g, o + 6, none⟩ = some (.slice q3 n3 c3) := fun W h => ⟨cc W h _ _ a0, cc W h _ _ a1, cc W h _ _ a2, cc W h _ _ a3, cc W h _ _ a4, cc W h _ _ a5, cc W h _ _ a6⟩
 have cX2 : ∀ W, B W → W.cell? ⟨g, o + 7, none⟩ = some (.int .i64 A2) ∧ W.cell? ⟨g, o + 7 + 1, none⟩ = some (.int .i64 K2) ∧ W.cell? ⟨g, o + 7 + 2, none⟩ = some (.int .i64 N2) ∧ W.cell? ⟨g, o + 7 + 3, none⟩ = some (.string S2) ∧ W.cell? ⟨g, o + 7 + 4, none⟩ = some (.slice rn m1 d1) ∧ W.cell? ⟨g, o + 7 + 5, none⟩ = some (.slice re m2 d2) ∧ W.cell? ⟨g, o + 7 + 6, none⟩ = some (.slice r3 m3 d3) := fun W h => ⟨cc W h _ _ b0, cc W h _ _ b1, cc W h _ _ b2, cc W h _ _ b3, cc W h _ _ b4, cc W h _ _ b5, cc W h _ _ b6⟩
 have cA : ∀ W, B W → Leaves 50 #[.agg #[.int .i64 A', .int .i64 K', .int .i64 N', .string S', .slice qn n1 c1, .slice qe n2 c2, .slice q3 n3 c3], .int .i64 lv] W L0 := fun W h => CL W (hlow W h)
 have cA2 : ∀ W, B W → Leaves 50 #[.agg #[.int .i64 A2, .int .i64 K2, .int .i64 N2, .string S2, .slice rn m1 d1, .slice re m2 d2, .slice r3 m3 d3], .int .i64 (lv + 1)] W LT := fun W h => CL2 W (hlow W h)
 clear CL CL2 cc a0 a1 a2 a3 a4 a5 a6 b0 b1 b2 b3 b4 b5 b6 hB7 hw1 hlv hsg
 go_enter Tryz.func10, Tryz.ntmps10
 go_wp2_with fail
 refine (za0 LV _).mono ?_
 rintro _ w9 ⟨rfl, rfl⟩
 go_wp2_with fail
 rw [← za0 HW1]
 refine zbq (n := 199) (by kernel_rfl) (by kernel_rfl) (by kernel_rfl) rfl B (VP (v48 w.heap.size g o (.slice (some ⟨g, o, none⟩) 2 cp) (.agg #[.int .i64 A', .int .i64 K', .int .i64 N', .string S', .slice qn n1 c1, .slice qe n2 c2, .slice q3 n3 c3]) (.agg #[.int .i64 A2, .int .i64 K2, .int .i64 N2, .string S2, .slice rn m1 d1, .slice re m2 d2, .slice r3 m3 d3]) lv lv K ⟨sg.toArray⟩)) (XCh w1.heap.size 5 19 none L0 [(10, 9, [sg]), (18, 17, LT)])
  (ofB _ (zad (Below.refl _ _))) (XCh.init (fun v hv => by cases hv)) ?each ?fin
 case each =>
  refine ⟨?_, ?_, ?_, ?_, ?_, ?_, ?_, ?_, ?_, ?_, ?_, ?_, ?_, ?_, ?_, ?_, ?_, ?_, ?_, ?_, trivial⟩
  ·exact YGoal.plain sB (by decide) (by decide) (by simp) (fun a' W f hz hkp hlt hBW hno down dep => ⟨za1 rfl, zbo (by decide) rfl (show a'.eval (.tmp 1) = Value.pointer (some ⟨w.heap.size, 0, none⟩) from hkp 1 (by kernel_rfl)) ⟨_, rfl, Below.refl _ _, rfl⟩⟩)
  ·exact YGoal.plain sB (by decide) (by decide) (by simp) (fun a' W f hz hkp hlt hBW hno down dep => ⟨za1 rfl, zdx rfl (dep 0 180 _ (by kernel_rfl) (by kernel_rfl) rfl) (cB W hBW).2.2.2.2.2.2 ⟨_, rfl, Below.refl _ _, rfl⟩⟩)
  ·exact YGoal.plain sB (by decide) (by decide) (by simp) (fun a' W f hz hkp hlt hBW hno down dep => ⟨za1 rfl, zdm (k := 0) rfl (dep 1 181 _ (by kernel_rfl) (by kernel_rfl) rfl) rfl (by simp) ⟨_, rfl, Below.refl _ _, rfl⟩⟩)
  ·exact YGoal.plain sB (by decide) (by decide) (by simp) (fun a' W f hz hkp hlt hBW hno down dep => ⟨za1 rfl, zed rfl (dep 2 182 _ (by kernel_rfl) (by kernel_rfl) rfl) (cX W hBW) ⟨_, rfl, Below.refl _ _, rfl⟩⟩)
  ·exact YGoal.plain sB (by decide) (by decide) (by simp) (fun a' W f hz hkp hlt hBW hno down dep => ⟨za1 rfl, zbl rfl (show a'.eval (.tmp 7) = Value.int .i64 lv from hkp 7 (by kernel_rfl)) ⟨_, rfl, Below.refl _ _, rfl⟩⟩)
  ·refine YGoal.fresh sB hbs (by decide) (by simp) rfl (fun f down hno => ?_) (fun a' W hz hkp hBW dep => ⟨za1 rfl, zfp rfl (dep 3 183 _ (by kernel_rfl) (by kernel_rfl) rfl) (dep 4 184 _ (by kernel_rfl) (by kernel_rfl) rfl) zfo ((cA W hBW).mono fun e w' ⟨⟨u, he, h1⟩, hb⟩ => ⟨u, he, u, rfl, hb, h1⟩)⟩)
   have e10 := za7 down (i := 10) (j := 5) (by kernel_rfl) hno
   have e18 := za7 down (i := 18) (j := 10) (by kernel_rfl) e10
   have e19 := za7 down (i := 19) (j := 18) (by kernel_rfl) e18
   exact ⟨e19, by simp [e10, e18]⟩
  ·exact YGoal.plain sB (by decide) (by decide) (by simp) (fun a' W f hz hkp hlt hBW hno down dep => ⟨za1 rfl, zbo (by decide) rfl (show a'.eval (.tmp 1) = Value.pointer (some ⟨w.heap.size, 0, none⟩) from hkp 1 (by kernel_rfl)) ⟨_, rfl, Below.refl _ _, rfl⟩⟩)
  ·exact YGoal.plain sB (by decide) (by decide) (by simp) (fun a' W f hz hkp hlt hBW hno down dep => ⟨za1 rfl, op_loadI rfl (dep 6 186 _ (by kernel_rfl) (by kernel_rfl) rfl) (cB W hBW).2.1 ⟨_, rfl, Below.refl _ _, rfl⟩⟩)
  ·exact YGoal.plain sB (by decide) (by decide) (by simp) (fun a' W f hz hkp hlt hBW hno down dep => ⟨za1 rfl, zcw rfl (dep 7 187 _ (by kernel_rfl) (by kernel_rfl) rfl) sign_enter ((cG W).mono fun e w' ⟨he, hw⟩ => by obtain rfl := hw; exact ⟨_, he, _, rfl, Below.refl _ _, rfl⟩)⟩)
  ·exact YGoal.src (M := [sg]) sB (by decide) (by decide) (by simp) rfl (fun a' W hz hkp hBW dep => ⟨za1 rfl, zcy rfl (dep 8 188 _ (by kernel_rfl) (by kernel_rfl) rfl) ⟨_, rfl, al1 _ _, src1 W sg⟩⟩)
  ·refine YGoal.app (q := 5) (s := 9) (Lq := L0) (M := [sg]) sB2 hbs (by decide) rfl rfl rfl rfl (by simp) (by simp) (by simp; omega) (by simp) (by kernel_rfl) (by kernel_rfl) (by kernel_rfl) (by kernel_rfl) (fun f v down hno hq => ?_)
   have e18 := za7 down (i := 18) (j := 10) (by kernel_rfl) hno
   have e19 := za7 down (i := 19) (j := 18) (by kernel_rfl) e18
   exact ⟨e19, by simp [zao, zav, hq, hno], by simp [zah, hno], fun x => ⟨by simp [zao, zav, zbx, hq, e18], by simp [zah, zbx, e18]⟩⟩
  ·exact YGoal.plain sB (by decide) (by decide) (by simp) (fun a' W f hz hkp hlt hBW hno down dep => ⟨za1 rfl, zbo (by decide) rfl (show a'.eval (.tmp 1) = Value.pointer (some ⟨w.heap.size, 0, none⟩) from hkp 1 (by kernel_rfl)) ⟨_, rfl, Below.refl _ _, rfl⟩⟩)
  ·exact YGoal.plain sB (by decide) (by decide) (by simp) (fun a' W f hz hkp hlt hBW hno down dep => ⟨za1 rfl, zdx rfl (dep 11 191 _ (by kernel_rfl) (by kernel_rfl) rfl) (cB W hBW).2.2.2.2.2.2 ⟨_, rfl, Below.refl _ _, rfl⟩⟩)
  ·exact YGoal.plain sB (by decide) (by decide) (by simp) (fun a' W f hz hkp hlt hBW hno down dep => ⟨za1 rfl, zdm (k := 1) rfl (dep 12 192 _ (by kernel_rfl) (by kernel_rfl) rfl) rfl (by simp) ⟨_, rfl, Below.refl _ _, rfl⟩⟩)
  ·exact YGoal.plain sB (by decide) (by decide) (by simp) (fun a' W f hz hkp hlt hBW hno down dep => ⟨za1 rfl, zed rfl (dep 13 193 _ (by kernel_rfl) (by kernel_rfl) rfl) (cX2 W hBW) ⟨_, rfl, Below.refl _ _, rfl⟩⟩)
  ·exact YGoal.plain sB (by decide) (by decide) (by simp) (fun a' W f hz hkp hlt hBW hno down dep => ⟨za1 rfl, zbl rfl (show a'.eval (.tmp 6) = Value.int .i64 lv from hkp 6 (by kernel_rfl)) ⟨_, rfl, Below.refl _ _, rfl⟩⟩)
  ·exact YGoal.plain sB (by decide) (by decide) (by simp) (fun a' W f hz hkp hlt hBW hno down dep => ⟨za1 rfl, op_addI rfl (dep 15 195 _ (by kernel_rfl) (by kernel_rfl) rfl) (by omega) (by omega) ⟨_, rfl, Below.refl _ _, rfl⟩⟩)
  ·exact YGoal.src (M := LT) sB (by decide) (by decide) (by simp) rfl (fun a' W hz hkp hBW dep => ⟨za1 rfl, zfp rfl (dep 14 194 _ (by kernel_rfl) (by kernel_rfl) rfl) (dep 16 196 _ (by kernel_rfl) (by kernel_rfl) rfl) zfo ((cA2 W hBW).mono fun e w' ⟨⟨u, he, h1⟩, hb⟩ => ⟨u, he, u, rfl, hb, SRow.of_owns h1, fun g hg => h1.lt g hg⟩)⟩)
  ·refine YGoal.app (q := 10) (s := 17) (Lq := (L0 ++ [sg])) (M := LT) sB2 hbs (by decide) rfl rfl rfl rfl (by simp) hLT (by simp; omega) (by simp) (by kernel_rfl) (by kernel_rfl) (by kernel_rfl) (by kernel_rfl) (fun f v down hno hq => ?_)
   obtain ⟨v5, e5⟩ := Option.ne_none_iff_exists'.1 (down 10 5 (by kernel_rfl) (by rw [hq]; simp))
   have e19 := za7 down (i := 19) (j := 18) (by kernel_rfl) hno
   exact ⟨e19, by simp [zao, zav, e5, hq, hno], by simp [zah, hq, hno], fun x => ⟨by simp [zao, zav, zbx, e5, hq], by simp [zah, zbx, hq]⟩⟩
  ·refine YGoal.last (q := 18) (by decide) (by simp) rfl rfl rfl (by kernel_rfl) (by kernel_rfl) (fun f v down hq => ?_)
   obtain ⟨v10, e10⟩ := Option.ne_none_iff_exists'.1 (down 18 10 (by kernel_rfl) (by rw [hq]; simp))
   obtain ⟨v5, e5⟩ := Option.ne_none_iff_exists'.1 (down 10 5 (by kernel_rfl) (by rw [e10]; simp))
   simp [zao, zav, hq, e5, e10]
 case fin =>
  intro a' W f hz hdf hkp hBW hf hV hX
  have hdone : (∃ v, f 5 = some v) ∧ (∃ v, f 10 = some v) ∧ (∃ v, f 18 = some v) := ⟨⟨_, hf 5 185 (by kernel_rfl)⟩, ⟨_, hf 10 190 (by kernel_rfl)⟩, ⟨_, hf 18 198 (by kernel_rfl)⟩⟩
  have hL : zah f L0 [(10, 9, [sg]), (18, 17, LT)] = (L0 ++ [sg] ++ LT) := by
   obtain ⟨⟨_, _⟩, ⟨_, e10⟩, ⟨_, e18⟩⟩ := hdone
   simp [zah, e10, e18]
  obtain ⟨hown, _⟩ := hX.2.2 _ (hX.1 _ (hf 19 2 (by kernel_rfl)))
  rw [hL] at hown
  have HB2 := za3 (toB W hBW)
  rw [zd3 hz rfl hdf hkp]
  clear hf hV hX hkp hdone hL cB cX cA cX2 cA2 cG sB sB2 hbs hlow toB ofB
  generalize hv2 : a'.tmps.getD 2 undef = v2 at hown
  simp only [List.foldl, Option.getD]
  rw [hv2]
  go_wp2
  go_ret
  exact ⟨⟨_, rfl, by rw [za0 HLD]; exact hown.mono hbw1.size⟩, bon hbw1 (za0 HB2)⟩
end Go.Proofs.YtmpbbmfbgcpplaaGreatDoor
