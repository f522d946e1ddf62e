import Derived.Test.YtmpbbmfbgcpplaaGreatDoorQChainG
import Derived.Test.YtmpbbmfbgcpplaaGreatDoorQRegG
import Derived.Test.YtmpbbmfbgcpplaaGreatDoorQRefD
import Derived.Test.YtmpbbmfbgcpplaaGreatDoorQPartsG
import Derived.Test.YtmpbbmfbgcpplaaGreatDoorQRunsG
set_option maxHeartbeats 4000000
set_option maxRecDepth 100000
namespace Go.Proofs.YtmpbbmfbgcpplaaGreatDoor
open Go Go.RowKit Lx
def tyS (d : Nat) (t : Ty d) : List Bs := (zac d false t).map za5
def sigS (d : Nat) (ts : List (Ty d)) (k : Nat) : List Bs := [40] :: ((List.range k).flatMap fun i => (if 0 < i then [[44]] else []) ++ (ts[i]?.map (tyS d)).getD [])
theorem sigS_succ {d : Nat} {ts : List (Ty d)} {k : Nat} (h : k < ts.length) : sigS d ts (k + 1) = sigS d ts k ++ (if 0 < k then [[44]] else []) ++ tyS d ts[k] := by
 unfold sigS
 rw [List.range_succ, List.flatMap_append]
 simp [h]
def zj1 (d : Nat) : Prop := ∀ (t : Ty d) (v : Value) (w : World), TyValD w d v t → (∃ room, zci d room t = true) → szD d t ≤ 60000 →
 Calls Tryz.prog 49 #[v] w fun e w' => (∃ u, e = .returned u ∧ w'.ownsRow w.heap.size 9 1 u (tyS d t).length (zcg (tyS d t)) ∧ 0 < (tyS d t).length ∧ (tyS d t).length ≤ 5 * szD d t) ∧ Below w.heap.size w w'
theorem zee (w : World) (s : Bs) : (w.alloc (.cells #[.string ⟨s.toArray⟩] 9)).ownsRow w.heap.size 9 1 (.slice (some ⟨w.heap.size, 0, none⟩) 1 1) [s].length (zcg [s]) :=
 ⟨rfl, .inr ⟨w.heap.size, 1, _, rfl, Nat.le_refl _, zaj w _, Nat.le_refl _, by decide, rfl, rfl⟩⟩
theorem zbe {W : World} {base : Nat} {u : Value} {L : List Bs} (h : W.ownsRow base 9 1 u L.length (zcg L)) (hl : 0 < L.length) : ∃ g cap, u = .slice (some ⟨g, 0, none⟩) L.length cap := by
 rcases h.2 with ⟨_, h0⟩ | ⟨g, cap, cur, rfl, _⟩
 ·omega
 ·exact ⟨g, cap, rfl⟩
theorem zbw (o : Option Nat) : o = none ∨ o ≠ none := by cases o <;> simp
theorem Left.grown {base : Nat} {v u : Value} {ns : List Bs} {W W' : World} (h : Left base v W u ns W') : W.grownBy W' v.ownBlock := ⟨h.2.1.os, h.2.1.tape, h.2.1.output, h.2.1.size, h.2.2.1⟩
theorem op_sub1 {o : Oper} {a : Act} {w : World} {K : Act → World → Prop} {Q : Exit → Act → World → Prop} {x : Operand} {n : Nat} (ho : o.op = .binOp .sub 3 x (.const (.int .i64 1)) 3) (hx : a.eval x = .int .i64 (n : Int)) (h0 : 0 < n) (h1 : n ≤ 1000000) (h : K (a.put o.dst (.int .i64 ((n - 1 : Nat) : Int))) w) : o.wp Tryz.prog a w K Q := by
 have hy : a.eval (.const (.int .i64 1)) = .int .i64 1 := rfl
 unfold Oper.wp; simp only [execOp, ho, hx, hy]; simp [go_sem]
 rw [show IntKind.i64.wrap ((n : Int) - 1) = ((n - 1 : Nat) : Int) by rw [IntKind.wrap_i64]; omega]
 exact h
theorem zhc (args : Array Value) (w : World) : Sem.run Tryz.prog (callFunc 49 args) w = .ok (.enter 49 args) w := by kernel_rfl
theorem zlg {o : Oper} {a : Act} {w : World} {K : Act → World → Prop} {Q : Exit → Act → World → Prop} {x : Operand} {b i : Nat} {c0 c1 c2 c3 c4 : Value} (ho : o.op = .load 53 x) (hx : a.eval x = .pointer (some ⟨b, i, none⟩)) (h0 : w.cell? ⟨b, i, none⟩ = some c0) (h1 : w.cell? ⟨b, i + 1, none⟩ = some c1) (h2 : w.cell? ⟨b, i + 2, none⟩ = some c2) (h3 : w.cell? ⟨b, i + 3, none⟩ = some c3) (h4 : w.cell? ⟨b, i + 4, none⟩ = some c4) (h : K (a.put o.dst (.agg #[c0, c1, c2, c3, c4])) w) : o.wp Tryz.prog a w K Q := by
 unfold Oper.wp; simp only [execOp, ho, hx]; go_simp
 exact h
def VS (vo sl p5 tv : Value) (n base : Nat) (L : List Bs) : Nat → Value → World → Prop
 | 0, v, _ => v = vo
 | 3, v, _ => v = sl
 | 4, v, _ => v = sl
 | 5, v, _ => v = .int .i64 (n : Int)
 | 6, v, _ => v = .int .i64 ((n - 1 : Nat) : Int)
 | 7, v, _ => v = p5
 | 8, v, _ => v = tv
 | 10, v, W => W.ownsRow base 9 1 v L.length (zcg L)
 | 11, v, W => W.ownsRow base 9 1 v L.length (zcg L)
 | _, _, _ => True
theorem VS.on {vo sl p5 tv : Value} {n base : Nat} {L : List Bs} (i : Nat) {v : Value} {W W' : World} {row : Option Nat} (h : VS vo sl p5 tv n base L i v W) (hg : W.grownBy W' row) (hi : i = 10 ∨ i = 11 → v.ownBlock = none ∨ v.ownBlock ≠ row) : VS vo sl p5 tv n base L i v W' := by
 match i, h with
 | 0, h => exact h
 | 1, _ => trivial
 | 2, _ => trivial
 | 3, h => exact h
 | 4, h => exact h
 | 5, h => exact h
 | 6, h => exact h
 | 7, h => exact h
 | 8, h => exact h
 | 9, _ => trivial
 | 10, h => exact World.ownsRow.kept h hg (hi (.inl rfl))
 | 11, h => exact World.ownsRow.kept h hg (hi (.inr rfl))
 | _ + 12, _ => trivial
def XS (base : Nat) (vo : Value) (L0 L1 LT : List Bs) (f : Nat → Option Value) (W : World) : Prop :=
 (f 2 = none → W.ownsRow base 9 1 vo L0.length (zcg L0) ∧ (∀ v, f 1 = some v → ∃ g1, v = .slice (some ⟨g1, 0, none⟩) 1 1 ∧ W.heap[g1]? = some (.cells #[.string ⟨#[41]⟩] 9) ∧ vo.ownBlock ≠ some g1) ∧ ∀ u, f 9 = some u → ∀ g, u.ownBlock = some g → vo.ownBlock ≠ some g) ∧
 (f 10 = none → (∀ v, f 2 = some v → W.ownsRow base 9 1 v L1.length (zcg L1) ∧ ∀ u, f 9 = some u → ∀ g, u.ownBlock = some g → v.ownBlock ≠ some g) ∧ ∀ u, f 9 = some u → W.ownsRow base 9 1 u LT.length (zcg LT) ∧ 0 < LT.length ∧ LT.length ≤ 300000)
theorem XS.on {base : Nat} {vo : Value} {L0 L1 LT : List Bs} {f : Nat → Option Value} {i : Nat} {v : Value} {W W' : World} (h1 : 1 ≠ i) (h2 : 2 ≠ i) (h9 : 9 ≠ i) (h10 : 10 ≠ i) (h : XS base vo L0 L1 LT f W) (hb : Below W.heap.size W W') : XS base vo L0 L1 LT (zbx f i v) W' := by
 unfold XS at h ⊢
 rw [za9 _ _ h1, za9 _ _ h2, za9 _ _ h9, za9 _ _ h10]
 have hg := zaa hb
 refine ⟨fun e => ?_, fun e => ?_⟩
 ·obtain ⟨k1, k2, k3⟩ := h.1 e
  refine ⟨k1.kept hg (zbw _), fun x hx => ?_, k3⟩
  obtain ⟨g1, q1, q2, q3⟩ := k2 x hx
  exact ⟨g1, q1, kp hb q2, q3⟩
 ·obtain ⟨k1, k2⟩ := h.2 e
  exact ⟨fun x hx => ⟨(k1 x hx).1.kept hg (zbw _), (k1 x hx).2⟩, fun x hx => ⟨(k2 x hx).1.kept hg (zbw _), (k2 x hx).2⟩⟩
theorem sig_walk (d : Nat) (IH : zj1 d) (p : Option Addr) (c : Nat) (ts : List (Ty d)) (w : World) (hv : TyRow w d (.slice p ts.length c) ts) (hr : ∀ x ∈ ts, ∃ room, zci d room x = true) (hne : 0 < ts.length) (hz : szL d ts ≤ 60000) :
  Calls Tryz.prog 80 #[.slice p ts.length c] w fun e w' => (∃ u, e = .returned u ∧ w'.ownsRow w.heap.size 9 1 u (sigS d ts (ts.length - 1) ++ [[41]] ++ tyS d (ts[ts.length - 1]'(by omega))).length (zcg (sigS d ts (ts.length - 1) ++ [[41]] ++ tyS d (ts[ts.length - 1]'(by omega))))) ∧ Below w.heap.size w w' := by
 obtain ⟨L, hL⟩ : ∃ L, L = sigS d ts (ts.length - 1) ++ [[41]] ++ tyS d (ts[ts.length - 1]'(by omega)) := ⟨_, rfl⟩
 rw [← hL]
 have HL := za3 hL
 have HV := za3 hv
 have HR := za3 hr
 have HI := za3 IH
 have hlts : ts.length ≤ 60000 := Nat.le_trans (Nat.le_trans (zcr _ ts) (zd5 _ ts)) (by omega)
 clear hL hv hr IH
 go_enter Tryz.func80, Tryz.ntmps80
 go_wp2
 go_loopw [3, 4] (fun o i wr => ∃ (k : Nat) (vo : Value), i = .int .i64 k ∧ o = vo ∧ k + 1 ≤ ts.length ∧ Hid (wr.ownsRow w.heap.size 9 1 vo (sigS d ts k).length (zcg (sigS d ts k)) ∧ Below w.heap.size w wr ∧ (sigS d ts k).length ≤ 1 + k + 5 * szL d (ts.take k))) (fun _ i _ => ts.length - (intOf i).toNat)
 case atStart => exact ⟨0, _, rfl, rfl, by omega, zee w [40], (Below.refl _ _).alloc (Nat.le_refl _) _, by simp [sigS, szL]⟩
 case round =>
  obtain ⟨k, vo, rfl, rfl, hk, HO⟩ := hrel
  obtain ⟨ho, hb, hlen⟩ := za0 HO
  obtain ⟨pv, cv, rfl, _⟩ := zaq ho
  by_cases hlt : k + 1 < ts.length
  ·have hlt' : (k : Int) + 1 < (ts.length : Int) := by omega
   have hk' : (k : Int) < (ts.length : Int) := by omega
   obtain ⟨u, ⟨g, o, K', S', qn, qe, q3, n1, c1, n2, c2, n3, c3, rfl, rfl, a0, a1, a2, a3, a4⟩, hu⟩ := (za0 HV).at k (by omega)
   have hsm := zgi (show k < ts.length by omega)
   have hsm2 : szL d (ts.take (k + 1)) ≤ szL d ts := zjx _ _
   have HSS := za3 (sigS_succ (show k < ts.length by omega))
   by_cases hk0 : 0 < k
   ·have hk0' : 0 < (k : Int) := by omega
    obtain ⟨g1, cp1, W4, E, hL1⟩ := Left.append (s := [44]) ho (by have := hb.size; omega) (by omega)
    have HE := za3 E
    have HOW := za3 hL1.1
    have HBW := za3 (hb.trans hL1.2.1)
    have hl2 : (sigS d ts k ++ [[44]]).length = (sigS d ts k).length + 1 := by simp
    have c0 := ((za0 HBW).cell (p := ⟨g, _, none⟩) (za2 a0)).trans a0
    have c1 := ((za0 HBW).cell (p := ⟨g, _, none⟩) (za2 a1)).trans a1
    have c2 := ((za0 HBW).cell (p := ⟨g, _, none⟩) (za2 a2)).trans a2
    have c3 := ((za0 HBW).cell (p := ⟨g, _, none⟩) (za2 a3)).trans a3
    have c4 := ((za0 HBW).cell (p := ⟨g, _, none⟩) (za2 a4)).trans a4
    have CL := za3 (za0 HI ts[k] _ _ (TyValD.below (za0 HBW) hu) (za0 HR _ (by simp)) (by omega))
    rw [if_pos hk0] at HSS
    clear E hL1 a0 a1 a2 a3 a4 hu ho hk0 HO
    go_wp2_with (first
     | (at_builtin; refine za4 rfl (.tmp 15) (.tmp 16) 25 rfl rfl rfl (za0 HE) ?_; clear HE)
     | (go_at_call 49; refine (za0 CL).mono ?_; clear CL; rintro x w1 ⟨⟨u1, rfl, hu1, hpos, hln⟩, hb1⟩; obtain ⟨g2, cp2, rfl⟩ := zbe hu1 hpos; obtain ⟨g3, cp3, W5, E2, hL2⟩ := Left.appends ((za0 HOW).kept (zaa hb1) (zbw _)) (by have := (za0 HBW).size; have := hb1.size; omega) (by omega) hpos (SRow.of_owns hu1); have HE2 := za3 E2)
     | (at_builtin; refine za4 rfl (.tmp 18) (.tmp 23) 25 rfl rfl rfl (za0 HE2) ?_; clear HE2))
    go_roundw
    case rel => exact ⟨k + 1, _, by go_num, rfl, by omega, ⟨(by rw [za0 HSS]; simpa using hL2.1), ((za0 HBW).trans (hb1.mono (za0 HBW).size)).trans hL2.2.1, (by rw [za0 HSS, List.length_append, hl2]; omega)⟩⟩
    case measure => simp [intOf]; omega
   ·have hk0' : (k : Int) ≤ 0 := by omega
    have HOW := za3 ho
    have HBW := za3 hb
    have c0 := ((za0 HBW).cell (p := ⟨g, _, none⟩) (za2 a0)).trans a0
    have c1 := ((za0 HBW).cell (p := ⟨g, _, none⟩) (za2 a1)).trans a1
    have c2 := ((za0 HBW).cell (p := ⟨g, _, none⟩) (za2 a2)).trans a2
    have c3 := ((za0 HBW).cell (p := ⟨g, _, none⟩) (za2 a3)).trans a3
    have c4 := ((za0 HBW).cell (p := ⟨g, _, none⟩) (za2 a4)).trans a4
    have CL := za3 (za0 HI ts[k] _ _ (TyValD.below (za0 HBW) hu) (za0 HR _ (by simp)) (by omega))
    rw [if_neg hk0, List.append_nil] at HSS
    clear a0 a1 a2 a3 a4 hu ho hk0 HO
    go_wp2_with (first
     | (go_at_call 49; refine (za0 CL).mono ?_; clear CL; rintro x w1 ⟨⟨u1, rfl, hu1, hpos, hln⟩, hb1⟩; obtain ⟨g2, cp2, rfl⟩ := zbe hu1 hpos; obtain ⟨g3, cp3, W5, E2, hL2⟩ := Left.appends ((za0 HOW).kept (zaa hb1) (zbw _)) (by have := (za0 HBW).size; have := hb1.size; omega) (by omega) hpos (SRow.of_owns hu1); have HE2 := za3 E2)
     | (at_builtin; refine za4 rfl (.tmp 18) (.tmp 23) 25 rfl rfl rfl (za0 HE2) ?_; clear HE2))
    go_roundw
    case rel => exact ⟨k + 1, _, by go_num, rfl, by omega, ⟨(by rw [za0 HSS]; simpa using hL2.1), ((za0 HBW).trans (hb1.mono (za0 HBW).size)).trans hL2.2.1, (by rw [za0 HSS, List.length_append]; omega)⟩⟩
    case measure => simp [intOf]; omega
  ·obtain rfl : k = ts.length - 1 := by omega
   have hlt' : ¬ ((ts.length - 1 : Nat) : Int) + 1 < (ts.length : Int) := by omega
   obtain ⟨u, ⟨g, o, K', S', qn, qe, q3, n1, c1, n2, c2, n3, c3, rfl, rfl, a0, a1, a2, a3, a4⟩, hu⟩ := (za0 HV).at (ts.length - 1) (by omega)
   have hsm := zgi (show ts.length - 1 < ts.length by omega)
   have hsm2 : szL d (ts.take (ts.length - 1 + 1)) ≤ szL d ts := zjx _ _
   obtain ⟨m, hm⟩ : ∃ m, m = ts.length - 1 := ⟨_, rfl⟩
   obtain ⟨L0, hL0⟩ : ∃ L0, L0 = sigS d ts (ts.length - 1) := ⟨_, rfl⟩
   obtain ⟨LT, hLT⟩ : ∃ LT, LT = tyS d (ts[ts.length - 1]'(by omega)) := ⟨_, rfl⟩
   have hLL := za0 HL
   rw [← hL0, ← hLT] at hLL
   have hll : L0.length ≤ 400000 := by rw [hL0]; omega
   have ho' := ho
   obtain ⟨vo, hvo⟩ : ∃ vo, vo = Value.slice pv (sigS d ts (ts.length - 1)).length cv := ⟨_, rfl⟩
   have HO2 : Hid (wr.ownsRow w.heap.size 9 1 vo L0.length (zcg L0)) := by show World.ownsRow _ _ _ _ _ _ _; rw [hvo, hL0]; exact ho
   obtain ⟨B, hBd⟩ : ∃ B : World → Prop, B = fun W => Below w.heap.size w W := ⟨_, rfl⟩
   have toB : ∀ W, B W → Below w.heap.size w W := fun W h => by rw [hBd] at h; exact h
   have ofB : ∀ W, Below w.heap.size w W → B W := fun W h => by rw [hBd]; exact h
   have cT : ∀ W, B W → Calls Tryz.prog 49 #[.agg #[.int .i64 K', .string S', .slice qn n1 c1, .slice qe n2 c2, .slice q3 n3 c3]] W fun e w' => (∃ u, e = .returned u ∧ w'.ownsRow W.heap.size 9 1 u LT.length (zcg LT) ∧ 0 < LT.length ∧ LT.length ≤ 300000) ∧ Below W.heap.size W w' := fun W h => by
    rw [hLT]
    exact (za0 HI _ _ W (TyValD.below (toB W h) hu) (za0 HR _ (by simp)) (by omega)).mono fun e w' ⟨⟨u, he, h1, h2, h3⟩, hb⟩ => ⟨⟨u, he, h1, h2, by omega⟩, hb⟩
   have cC : ∀ W, B W → W.cell? ⟨g, o + (ts.length - 1) * 5, none⟩ = some (.int .i64 K') ∧ W.cell? ⟨g, o + (ts.length - 1) * 5 + 1, none⟩ = some (.string S') ∧ W.cell? ⟨g, o + (ts.length - 1) * 5 + 2, none⟩ = some (.slice qn n1 c1) ∧ W.cell? ⟨g, o + (ts.length - 1) * 5 + 3, none⟩ = some (.slice qe n2 c2) ∧ W.cell? ⟨g, o + (ts.length - 1) * 5 + 4, none⟩ = some (.slice q3 n3 c3) := fun W h => ⟨((toB W h).cell (p := ⟨g, _, none⟩) (za2 a0)).trans a0, ((toB W h).cell (p := ⟨g, _, none⟩) (za2 a1)).trans a1, ((toB W h).cell (p := ⟨g, _, none⟩) (za2 a2)).trans a2, ((toB W h).cell (p := ⟨g, _, none⟩) (za2 a3)).trans a3, ((toB W h).cell (p := ⟨g, _, none⟩) (za2 a4)).trans a4⟩
   have sB : ∀ W W', B W → Below W.heap.size W W' → B W' := fun W W' h hb => ofB _ (bon (toB _ h) hb)
   have sV : ∀ (i : Nat) (v : Value) (W W' : World), VS vo (.slice (some ⟨g, o, none⟩) ts.length c) (.pointer (some ⟨g, o + (ts.length - 1) * 5, none⟩)) (.agg #[.int .i64 K', .string S', .slice qn n1 c1, .slice qe n2 c2, .slice q3 n3 c3]) ts.length w.heap.size L i v W → Below W.heap.size W W' → VS vo (.slice (some ⟨g, o, none⟩) ts.length c) (.pointer (some ⟨g, o + (ts.length - 1) * 5, none⟩)) (.agg #[.int .i64 K', .string S', .slice qn n1 c1, .slice qe n2 c2, .slice q3 n3 c3]) ts.length w.heap.size L i v W' := fun i v W W' h hb => VS.on i h (zaa hb) fun _ => zbw _
   clear ho ho' HO hlen hsm hsm2 a0 a1 a2 a3 a4 hu HV HL HI HR hL0 hLT
   have HLL := za3 hLL
   clear hLL
   go_wp2_with fail
   refine region_more (n := 36) (by kernel_rfl) (by kernel_rfl) (by kernel_rfl) rfl B (VS vo (.slice (some ⟨g, o, none⟩) ts.length c) (.pointer (some ⟨g, o + (ts.length - 1) * 5, none⟩)) (.agg #[.int .i64 K', .string S', .slice qn n1 c1, .slice qe n2 c2, .slice q3 n3 c3]) ts.length w.heap.size L) (XS w.heap.size vo L0 (L0 ++ [[41]]) LT)
    (ofB _ (zad hb)) ⟨fun _ => ⟨(za0 HO2).drew, (fun _ h => nomatch h), (fun _ h => nomatch h)⟩, fun _ => ⟨(fun _ h => nomatch h), (fun _ h => nomatch h)⟩⟩ ?each ?fin
   case each =>
    refine ⟨?_, ?_, ?_, ?_, ?_, ?_, ?_, ?_, ?_, ?_, ?_, ?_, trivial⟩
    ·exact XGoal.of sB sV (fun f v W W' h hb => XS.on (by decide) (by decide) (by decide) (by decide) h hb) (fun a' W hz hdf hkp hBW dep => ⟨za1 rfl, zbl rfl (show a'.eval (.tmp 3) = vo from (hkp 3 (by kernel_rfl)).trans hvo.symm) ⟨_, rfl, Below.refl _ _, rfl⟩⟩)
    ·refine fun a' W f hz hdf hkp hBW hV hX hno down dep => ⟨za1 rfl, zcy (s := ⟨#[41]⟩) rfl rfl ⟨_, rfl, sB _ _ hBW (al1 _ _), trivial, fun j x hj => sV j x _ _ (hV j x hj) (al1 _ _), ?_⟩⟩
     have hg := zaa (al1 W (.cells #[.string ⟨#[41]⟩] 9))
     unfold XS at hX ⊢
     rw [za9 f _ (show 2 ≠ 1 by decide), za9 f _ (show 9 ≠ 1 by decide), za9 f _ (show 10 ≠ 1 by decide)]
     refine ⟨fun e => ?_, fun e => ⟨fun x hx => ⟨((hX.2 e).1 x hx).1.kept hg (zbw _), ((hX.2 e).1 x hx).2⟩, fun x hx => ⟨((hX.2 e).2 x hx).1.kept hg (zbw _), ((hX.2 e).2 x hx).2⟩⟩⟩
     obtain ⟨k1, _, k3⟩ := hX.1 e
     refine ⟨k1.kept hg (zbw _), fun x hx => ?_, k3⟩
     rw [zat] at hx
     obtain rfl := Option.some.inj hx
     exact ⟨_, rfl, hp1 W _, fun e' => by have := (k1.lt _ e').2; omega⟩
    ·intro a' W f hz hdf hkp hBW hV hX hno down dep
     obtain ⟨k1, k2, k3⟩ := hX.1 hno
     obtain ⟨g1, q1, q2, q3'⟩ := k2 _ (dep 1 26 (by kernel_rfl) (by kernel_rfl))
     obtain ⟨g', cp', W4, E, hLf⟩ := Left.appends (ms := [[41]]) k1 (toB W hBW).size (by simp; omega) (by decide) (srow1 (s := [41]) q2)
     refine ⟨za1 rfl, zi6 rfl (hV 0 _ (dep 0 25 (by kernel_rfl) (by kernel_rfl))) q1 E ⟨_, rfl, ofB _ ((toB _ hBW).trans hLf.2.1), trivial, fun j x hj => VS.on j (hV j x hj) hLf.grown fun hj' => ?_, ?_⟩⟩
     ·exfalso
      have n10 : f 10 ≠ none := by
       rcases hj' with rfl | rfl
       ·rw [hj]; simp
       ·exact down 11 10 (by kernel_rfl) (by rw [hj]; simp)
      exact down 10 2 (by kernel_rfl) n10 hno
     ·unfold XS at hX ⊢
      rw [za9 f _ (show 1 ≠ 2 by decide), za9 f _ (show 9 ≠ 2 by decide), za9 f _ (show 10 ≠ 2 by decide), zat]
      refine ⟨(fun e => nomatch e), fun e => ⟨fun x hx => ?_, fun x hx => ⟨((hX.2 e).2 x hx).1.kept hLf.grown ?_, ((hX.2 e).2 x hx).2⟩⟩⟩
      ·obtain rfl := Option.some.inj hx
       refine ⟨by simpa using hLf.1, fun u hu g2 hg2 e' => ?_⟩
       have hlt2 := (((hX.2 e).2 u hu).1.lt g2 hg2).2
       rcases hLf.2.2.2 with h | h
       ·exact k3 u hu g2 hg2 (h ▸ e')
       ·have := h g2 e'; omega
      ·cases hxb : x.ownBlock with
       | none => exact .inl rfl
       | some g2 => exact .inr fun e' => k3 x hx g2 hxb e'.symm
    ·exact XGoal.of sB sV (fun f v W W' h hb => XS.on (by decide) (by decide) (by decide) (by decide) h hb) (fun a' W hz hdf hkp hBW dep => ⟨za1 rfl, zbl rfl (show a'.eval (.tmp 0) = .slice (some ⟨g, o, none⟩) ts.length c from hkp 0 (by kernel_rfl)) ⟨_, rfl, Below.refl _ _, rfl⟩⟩)
    ·exact XGoal.of sB sV (fun f v W W' h hb => XS.on (by decide) (by decide) (by decide) (by decide) h hb) (fun a' W hz hdf hkp hBW dep => ⟨za1 rfl, zbl rfl (show a'.eval (.tmp 0) = .slice (some ⟨g, o, none⟩) ts.length c from hkp 0 (by kernel_rfl)) ⟨_, rfl, Below.refl _ _, rfl⟩⟩)
    ·exact XGoal.of sB sV (fun f v W W' h hb => XS.on (by decide) (by decide) (by decide) (by decide) h hb) (fun a' W hz hdf hkp hBW dep => ⟨za1 rfl, op_len rfl (dep 4 29 (by kernel_rfl) (by kernel_rfl)) ⟨_, rfl, Below.refl _ _, rfl⟩⟩)
    ·exact XGoal.of sB sV (fun f v W W' h hb => XS.on (by decide) (by decide) (by decide) (by decide) h hb) (fun a' W hz hdf hkp hBW dep => ⟨za1 rfl, op_sub1 rfl (dep 5 30 (by kernel_rfl) (by kernel_rfl)) hne (by omega) ⟨_, rfl, Below.refl _ _, rfl⟩⟩)
    ·exact XGoal.of sB sV (fun f v W W' h hb => XS.on (by decide) (by decide) (by decide) (by decide) h hb) (fun a' W hz hdf hkp hBW dep => ⟨za1 rfl, zhg rfl (dep 3 28 (by kernel_rfl) (by kernel_rfl)) (dep 6 31 (by kernel_rfl) (by kernel_rfl)) (by omega) ⟨_, rfl, Below.refl _ _, rfl⟩⟩)
    ·exact XGoal.of sB sV (fun f v W W' h hb => XS.on (by decide) (by decide) (by decide) (by decide) h hb) (fun a' W hz hdf hkp hBW dep => ⟨za1 rfl, zlg rfl (dep 7 32 (by kernel_rfl) (by kernel_rfl)) (cC W hBW).1 (cC W hBW).2.1 (cC W hBW).2.2.1 (cC W hBW).2.2.2.1 (cC W hBW).2.2.2.2 ⟨_, rfl, Below.refl _ _, rfl⟩⟩)
    ·refine fun a' W f hz hdf hkp hBW hV hX hno down dep => ⟨za1 rfl, zcw rfl (hV 8 _ (dep 8 33 (by kernel_rfl) (by kernel_rfl))) zhc ((cT W hBW).mono fun e w' ⟨⟨u, he, h1, h2, h3⟩, hb⟩ => ⟨u, he, u, rfl, sB _ _ hBW hb, trivial, fun j x hj => sV j x _ _ (hV j x hj) hb, ?_⟩)⟩
     have hg := zaa hb
     unfold XS at hX ⊢
     rw [za9 f _ (show 1 ≠ 9 by decide), za9 f _ (show 2 ≠ 9 by decide), za9 f _ (show 10 ≠ 9 by decide), zat]
     refine ⟨fun e => ?_, fun e => ⟨fun x hx => ⟨((hX.2 e).1 x hx).1.kept hg (zbw _), fun y hy g2 hg2 e' => ?_⟩, fun y hy => ?_⟩⟩
     ·obtain ⟨k1, k2, _⟩ := hX.1 e
      refine ⟨k1.kept hg (zbw _), fun x hx => ?_, fun y hy g2 hg2 e' => ?_⟩
      ·obtain ⟨g1, q1, q2, q3'⟩ := k2 x hx
       exact ⟨g1, q1, kp hb q2, q3'⟩
      ·obtain rfl := Option.some.inj hy
       have := (h1.lt g2 hg2).1
       have := (k1.lt g2 e').2
       omega
     ·obtain rfl := Option.some.inj hy
      have := (h1.lt g2 hg2).1
      have := (((hX.2 e).1 x hx).1.lt g2 e').2
      omega
     ·obtain rfl := Option.some.inj hy
      exact ⟨h1.mono (toB W hBW).size, h2, h3⟩
    ·intro a' W f hz hdf hkp hBW hV hX hno down dep
     obtain ⟨k1, k2⟩ := hX.2 hno
     have q27 := (k1 _ (dep 2 27 (by kernel_rfl) (by kernel_rfl))).1
     obtain ⟨q34, hpos, hlen3⟩ := k2 _ (dep 9 34 (by kernel_rfl) (by kernel_rfl))
     obtain ⟨g2, cp2, e2⟩ := zbe q34 hpos
     rw [e2] at q34
     obtain ⟨g', cp', W4, E, hLf⟩ := Left.appends q27 (toB W hBW).size (by simp; omega) hpos (SRow.of_owns q34)
     refine ⟨za1 rfl, zi6 rfl rfl e2 E ⟨_, rfl, ofB _ ((toB _ hBW).trans hLf.2.1), (by show World.ownsRow _ _ _ _ _ _ _; rw [za0 HLL]; simpa using hLf.1), fun j x hj => VS.on j (hV j x hj) hLf.grown fun hj' => ?_, ?_⟩⟩
     ·exfalso
      rcases hj' with rfl | rfl
      ·rw [hno] at hj; cases hj
      ·exact down 11 10 (by kernel_rfl) (by rw [hj]; simp) hno
     ·unfold XS
      rw [za9 f _ (show 2 ≠ 10 by decide), zat]
      exact ⟨(fun e => by rw [dep 2 27 (by kernel_rfl) (by kernel_rfl)] at e; cases e), (fun e => nomatch e)⟩
    ·exact XGoal.of sB sV (fun f v W W' h hb => XS.on (by decide) (by decide) (by decide) (by decide) h hb) (fun a' W hz hdf hkp hBW dep => ⟨za1 rfl, zk0 rfl rfl ⟨_, rfl, Below.refl _ _, (dep 10 35 (by kernel_rfl) (by kernel_rfl))⟩⟩)
   case fin =>
    intro a' W hz hdf hkp hBW dep
    have h2 : W.ownsRow w.heap.size 9 1 (a'.tmps.getD 2 undef) L.length (zcg L) := dep 11 2 (by kernel_rfl)
    have hbf := toB W hBW
    clear dep hkp cT cC
    go_wp2
    exact bodyPost_ret (v := a'.tmps.getD 2 undef) (by simp [results, Tryz.results80, go_sem, Array.getD_eq_getD_getElem?]) hdf ⟨⟨_, rfl, h2⟩, hbf⟩
theorem sig_toks (d : Nat) (t : Ty (d + 1)) (hn : 0 < t.2.2.2.2.length) : (zac (d + 1) true t).map za5 = sigS d t.2.2.2.2 (t.2.2.2.2.length - 1) ++ [[41]] ++ tyS d (t.2.2.2.2[t.2.2.2.2.length - 1]'(by omega)) := by
 rw [zac]
 simp only [if_true]
 unfold sigS tyS
 rw [List.map_append, List.map_cons, List.map_cons, List.map_flatMap, zb7, zb7]
 rw [List.getElem?_eq_getElem (by omega)]
 simp only [Option.map_some, Option.getD_some, List.append_assoc, List.cons_append, List.nil_append]
 congr 3
 funext i
 rw [List.map_append]
 congr 1
 ·split
  ·simp [zb7]
  ·rfl
 ·cases t.2.2.2.2[i]? <;> simp
end Go.Proofs.YtmpbbmfbgcpplaaGreatDoor
