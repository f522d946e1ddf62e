/-
  signature of package coilref2, walked.
-/
import Derived.Test.YtmpbbmfbgcpplaaGreatDoorQChainG
import Derived.Test.YtmpbbmfbgcpplaaGreatDoorQRegG
import Derived.Test.YtmpbbmfbgcpplaaGreatDoorQRefD
import Derived.Test.YtmpbbmfbgcpplaaGreatDoorQPartsG
import Derived.Test.YtmpbbmfbgcpplaaGreatDoorQRunsG
namespace Go.Proofs.YtmpbbmfbgcpplaaGreatDoor
open Go Go.RowKit Lx

/-- a type's strings. -/
def tyS (d : Nat) (t : Ty d) : List Bs := (tyToks d false t).map tokText
/-- a signature's strings ahead of the k-th part. -/
def sigS (d : Nat) (ts : List (Ty d)) (k : Nat) : List Bs := [40] :: ((List.range k).flatMap fun i => (if 0 < i then [[44]] else []) ++ (ts[i]?.map (tyS d)).getD [])
theorem sigS_succ {d : Nat} {ts : List (Ty d)} {k : Nat} (h : k < ts.length) : sigS d ts (k + 1) = sigS d ts k ++ (if 0 < k then [[44]] else []) ++ tyS d ts[k] := by
  unfold sigS
  rw [List.range_succ, List.flatMap_append]
  simp [h]
def TypedAt (d : Nat) : Prop := ∀ (t : Ty d) (v : Value) (w : World), TyValD w d v t → (∃ room, rightD d room t = true) → szD d t ≤ 60000 →
  Calls Tryz.prog 49 #[v] w fun e w' => (∃ u, e = .returned u ∧ w'.ownsRow w.heap.size 9 1 u (tyS d t).length (strV (tyS d t)) ∧ 0 < (tyS d t).length ∧ (tyS d t).length ≤ 5 * szD d t) ∧ Below w.heap.size w w'
theorem owns_new (w : World) (s : Bs) : (w.alloc (.cells #[.string ⟨s.toArray⟩] 9)).ownsRow w.heap.size 9 1 (.slice (some ⟨w.heap.size, 0, none⟩) 1 1) [s].length (strV [s]) :=
  ⟨rfl, .inr ⟨w.heap.size, 1, _, rfl, Nat.le_refl _, heap_last w _, Nat.le_refl _, by decide, rfl, rfl⟩⟩
theorem owns_form {W : World} {base : Nat} {u : Value} {L : List Bs} (h : W.ownsRow base 9 1 u L.length (strV L)) (hl : 0 < L.length) : ∃ g cap, u = .slice (some ⟨g, 0, none⟩) L.length cap := by
  rcases h.2 with ⟨_, h0⟩ | ⟨g, cap, cur, rfl, _⟩
  · omega
  · exact ⟨g, cap, rfl⟩
theorem own_none (o : Option Nat) : o = none ∨ o ≠ none := by cases o <;> simp
theorem Left.grown {base : Nat} {v u : Value} {ns : List Bs} {W W' : World} (h : Left base v W u ns W') : W.grownBy W' v.ownBlock := ⟨h.2.1.os, h.2.1.tape, h.2.1.output, h.2.1.size, h.2.2.1⟩
theorem op_sub1 {o : Oper} {a : Act} {w : World} {K : Act → World → Prop} {Q : Exit → Act → World → Prop} {x : Operand} {n : Nat} (ho : o.op = .binOp .sub 3 x (.const (.int .i64 1)) 3) (hx : a.eval x = .int .i64 (n : Int)) (h0 : 0 < n) (h1 : n ≤ 1000000) (h : K (a.put o.dst (.int .i64 ((n - 1 : Nat) : Int))) w) : o.wp Tryz.prog a w K Q := by
  have hy : a.eval (.const (.int .i64 1)) = .int .i64 1 := rfl
  unfold Oper.wp; simp only [execOp, ho, hx, hy]; simp [go_sem]
  rw [show IntKind.i64.wrap ((n : Int) - 1) = ((n - 1 : Nat) : Int) by rw [IntKind.wrap_i64]; omega]
  exact h
set_option maxRecDepth 100000 in
theorem typed_enter (args : Array Value) (w : World) : Sem.run Tryz.prog (callFunc 49 args) w = .ok (.enter 49 args) w := by kernel_rfl
theorem op_load5o {o : Oper} {a : Act} {w : World} {K : Act → World → Prop} {Q : Exit → Act → World → Prop} {x : Operand} {b i : Nat} {c0 c1 c2 c3 c4 : Value} (ho : o.op = .load 53 x) (hx : a.eval x = .pointer (some ⟨b, i, none⟩)) (h0 : w.cell? ⟨b, i, none⟩ = some c0) (h1 : w.cell? ⟨b, i + 1, none⟩ = some c1) (h2 : w.cell? ⟨b, i + 2, none⟩ = some c2) (h3 : w.cell? ⟨b, i + 3, none⟩ = some c3) (h4 : w.cell? ⟨b, i + 4, none⟩ = some c4) (h : K (a.put o.dst (.agg #[c0, c1, c2, c3, c4])) w) : o.wp Tryz.prog a w K Q := by
  unfold Oper.wp; simp only [execOp, ho, hx]; go_simp
  exact h
/-- what an operation of signature's last row leaves. -/
def VS (vo sl p5 tv : Value) (n base : Nat) (L : List Bs) : Nat → Value → World → Prop
  | 0, v, _ => v = vo
  | 3, v, _ => v = sl
  | 4, v, _ => v = sl
  | 5, v, _ => v = .int .i64 (n : Int)
  | 6, v, _ => v = .int .i64 ((n - 1 : Nat) : Int)
  | 7, v, _ => v = p5
  | 8, v, _ => v = tv
  | 10, v, W => W.ownsRow base 9 1 v L.length (strV L)
  | 11, v, W => W.ownsRow base 9 1 v L.length (strV L)
  | _, _, _ => True
theorem VS.on {vo sl p5 tv : Value} {n base : Nat} {L : List Bs} (i : Nat) {v : Value} {W W' : World} {row : Option Nat} (h : VS vo sl p5 tv n base L i v W) (hg : W.grownBy W' row) (hi : i = 10 ∨ i = 11 → v.ownBlock = none ∨ v.ownBlock ≠ row) : VS vo sl p5 tv n base L i v W' := by
  match i, h with
  | 0, h => exact h
  | 1, _ => trivial
  | 2, _ => trivial
  | 3, h => exact h
  | 4, h => exact h
  | 5, h => exact h
  | 6, h => exact h
  | 7, h => exact h
  | 8, h => exact h
  | 9, _ => trivial
  | 10, h => exact World.ownsRow.kept h hg (hi (.inl rfl))
  | 11, h => exact World.ownsRow.kept h hg (hi (.inr rfl))
  | _ + 12, _ => trivial
/-- who owns what, between the two appends. -/
def XS (base : Nat) (vo : Value) (L0 L1 LT : List Bs) (f : Nat → Option Value) (W : World) : Prop :=
  (f 2 = none → W.ownsRow base 9 1 vo L0.length (strV L0) ∧ (∀ v, f 1 = some v → ∃ g1, v = .slice (some ⟨g1, 0, none⟩) 1 1 ∧ W.heap[g1]? = some (.cells #[.string ⟨#[41]⟩] 9) ∧ vo.ownBlock ≠ some g1) ∧ ∀ u, f 9 = some u → ∀ g, u.ownBlock = some g → vo.ownBlock ≠ some g) ∧
  (f 10 = none → (∀ v, f 2 = some v → W.ownsRow base 9 1 v L1.length (strV L1) ∧ ∀ u, f 9 = some u → ∀ g, u.ownBlock = some g → v.ownBlock ≠ some g) ∧ ∀ u, f 9 = some u → W.ownsRow base 9 1 u LT.length (strV LT) ∧ 0 < LT.length ∧ LT.length ≤ 300000)
theorem XS.on {base : Nat} {vo : Value} {L0 L1 LT : List Bs} {f : Nat → Option Value} {i : Nat} {v : Value} {W W' : World} (h1 : 1 ≠ i) (h2 : 2 ≠ i) (h9 : 9 ≠ i) (h10 : 10 ≠ i) (h : XS base vo L0 L1 LT f W) (hb : Below W.heap.size W W') : XS base vo L0 L1 LT (updF f i v) W' := by
  unfold XS at h ⊢
  rw [upd_ne _ _ h1, upd_ne _ _ h2, upd_ne _ _ h9, upd_ne _ _ h10]
  have hg := grown_of_below hb
  refine ⟨fun e => ?_, fun e => ?_⟩
  · obtain ⟨k1, k2, k3⟩ := h.1 e
    refine ⟨k1.kept hg (own_none _), fun x hx => ?_, k3⟩
    obtain ⟨g1, q1, q2, q3⟩ := k2 x hx
    exact ⟨g1, q1, kp hb q2, q3⟩
  · obtain ⟨k1, k2⟩ := h.2 e
    exact ⟨fun x hx => ⟨(k1 x hx).1.kept hg (own_none _), (k1 x hx).2⟩, fun x hx => ⟨(k2 x hx).1.kept hg (own_none _), (k2 x hx).2⟩⟩
set_option maxHeartbeats 4000000 in
set_option maxRecDepth 100000 in
theorem sig_walk (d : Nat) (IH : TypedAt d) (p : Option Addr) (c : Nat) (ts : List (Ty d)) (w : World) (hv : TyRow w d (.slice p ts.length c) ts) (hr : ∀ x ∈ ts, ∃ room, rightD d room x = true) (hne : 0 < ts.length) (hz : szL d ts ≤ 60000) :
    Calls Tryz.prog 80 #[.slice p ts.length c] w fun e w' => (∃ u, e = .returned u ∧ w'.ownsRow w.heap.size 9 1 u (sigS d ts (ts.length - 1) ++ [[41]] ++ tyS d (ts[ts.length - 1]'(by omega))).length (strV (sigS d ts (ts.length - 1) ++ [[41]] ++ tyS d (ts[ts.length - 1]'(by omega))))) ∧ Below w.heap.size w w' := by
  obtain ⟨L, hL⟩ : ∃ L, L = sigS d ts (ts.length - 1) ++ [[41]] ++ tyS d (ts[ts.length - 1]'(by omega)) := ⟨_, rfl⟩
  rw [← hL]
  have HL := hide hL
  have HV := hide hv
  have HR := hide hr
  have HI := hide IH
  have hlts : ts.length ≤ 60000 := Nat.le_trans (Nat.le_trans (len_many _ ts) (many_szL _ ts)) (by omega)
  clear hL hv hr IH
  go_enter Tryz.func80, Tryz.ntmps80
  go_wp2
  go_loopw [3, 4] (fun o i wr => ∃ (k : Nat) (vo : Value), i = .int .i64 k ∧ o = vo ∧ k + 1 ≤ ts.length ∧ Hid (wr.ownsRow w.heap.size 9 1 vo (sigS d ts k).length (strV (sigS d ts k)) ∧ Below w.heap.size w wr ∧ (sigS d ts k).length ≤ 1 + k + 5 * szL d (ts.take k))) (fun _ i _ => ts.length - (intOf i).toNat)
  case atStart => exact ⟨0, _, rfl, rfl, by omega, owns_new w [40], (Below.refl _ _).alloc (Nat.le_refl _) _, by simp [sigS, szL]⟩
  case round =>
    obtain ⟨k, vo, rfl, rfl, hk, HO⟩ := hrel
    obtain ⟨ho, hb, hlen⟩ := unhide HO
    obtain ⟨pv, cv, rfl, _⟩ := own_slice ho
    by_cases hlt : k + 1 < ts.length
    · have hlt' : (k : Int) + 1 < (ts.length : Int) := by omega
      have hk' : (k : Int) < (ts.length : Int) := by omega
      obtain ⟨u, ⟨g, o, K', S', qn, qe, q3, n1, c1, n2, c2, n3, c3, rfl, rfl, a0, a1, a2, a3, a4⟩, hu⟩ := (unhide HV).at k (by omega)
      have hsm := szL_take (show k < ts.length by omega)
      have hsm2 : szL d (ts.take (k + 1)) ≤ szL d ts := szL_take_le _ _
      have HSS := hide (sigS_succ (show k < ts.length by omega))
      by_cases hk0 : 0 < k
      · have hk0' : 0 < (k : Int) := by omega
        obtain ⟨g1, cp1, W4, E, hL1⟩ := Left.append (s := [44]) ho (by have := hb.size; omega) (by omega)
        have HE := hide E
        have HOW := hide hL1.1
        have HBW := hide (hb.trans hL1.2.1)
        have hl2 : (sigS d ts k ++ [[44]]).length = (sigS d ts k).length + 1 := by simp
        have c0 := ((unhide HBW).cell (p := ⟨g, _, none⟩) (cell_at a0)).trans a0
        have c1 := ((unhide HBW).cell (p := ⟨g, _, none⟩) (cell_at a1)).trans a1
        have c2 := ((unhide HBW).cell (p := ⟨g, _, none⟩) (cell_at a2)).trans a2
        have c3 := ((unhide HBW).cell (p := ⟨g, _, none⟩) (cell_at a3)).trans a3
        have c4 := ((unhide HBW).cell (p := ⟨g, _, none⟩) (cell_at a4)).trans a4
        have CL := hide (unhide HI ts[k] _ _ (TyValD.below (unhide HBW) hu) (unhide HR _ (by simp)) (by omega))
        rw [if_pos hk0] at HSS
        clear E hL1 a0 a1 a2 a3 a4 hu ho hk0 HO
        go_wp2_with (first
          | (at_builtin; refine wpList_append_ty rfl (.tmp 15) (.tmp 16) 25 rfl rfl rfl (unhide HE) ?_; clear HE)
          | (go_at_call 49; refine (unhide CL).mono ?_; clear CL; rintro x w1 ⟨⟨u1, rfl, hu1, hpos, hln⟩, hb1⟩; obtain ⟨g2, cp2, rfl⟩ := owns_form hu1 hpos; obtain ⟨g3, cp3, W5, E2, hL2⟩ := Left.appends ((unhide HOW).kept (grown_of_below hb1) (own_none _)) (by have := (unhide HBW).size; have := hb1.size; omega) (by omega) hpos (SRow.of_owns hu1); have HE2 := hide E2)
          | (at_builtin; refine wpList_append_ty rfl (.tmp 18) (.tmp 23) 25 rfl rfl rfl (unhide HE2) ?_; clear HE2))
        go_roundw
        case rel => exact ⟨k + 1, _, by go_num, rfl, by omega, ⟨(by rw [unhide HSS]; simpa using hL2.1), ((unhide HBW).trans (hb1.mono (unhide HBW).size)).trans hL2.2.1, (by rw [unhide HSS, List.length_append, hl2]; omega)⟩⟩
        case measure => simp [intOf]; omega
      · have hk0' : (k : Int) ≤ 0 := by omega
        have HOW := hide ho
        have HBW := hide hb
        have c0 := ((unhide HBW).cell (p := ⟨g, _, none⟩) (cell_at a0)).trans a0
        have c1 := ((unhide HBW).cell (p := ⟨g, _, none⟩) (cell_at a1)).trans a1
        have c2 := ((unhide HBW).cell (p := ⟨g, _, none⟩) (cell_at a2)).trans a2
        have c3 := ((unhide HBW).cell (p := ⟨g, _, none⟩) (cell_at a3)).trans a3
        have c4 := ((unhide HBW).cell (p := ⟨g, _, none⟩) (cell_at a4)).trans a4
        have CL := hide (unhide HI ts[k] _ _ (TyValD.below (unhide HBW) hu) (unhide HR _ (by simp)) (by omega))
        rw [if_neg hk0, List.append_nil] at HSS
        clear a0 a1 a2 a3 a4 hu ho hk0 HO
        go_wp2_with (first
          | (go_at_call 49; refine (unhide CL).mono ?_; clear CL; rintro x w1 ⟨⟨u1, rfl, hu1, hpos, hln⟩, hb1⟩; obtain ⟨g2, cp2, rfl⟩ := owns_form hu1 hpos; obtain ⟨g3, cp3, W5, E2, hL2⟩ := Left.appends ((unhide HOW).kept (grown_of_below hb1) (own_none _)) (by have := (unhide HBW).size; have := hb1.size; omega) (by omega) hpos (SRow.of_owns hu1); have HE2 := hide E2)
          | (at_builtin; refine wpList_append_ty rfl (.tmp 18) (.tmp 23) 25 rfl rfl rfl (unhide HE2) ?_; clear HE2))
        go_roundw
        case rel => exact ⟨k + 1, _, by go_num, rfl, by omega, ⟨(by rw [unhide HSS]; simpa using hL2.1), ((unhide HBW).trans (hb1.mono (unhide HBW).size)).trans hL2.2.1, (by rw [unhide HSS, List.length_append]; omega)⟩⟩
        case measure => simp [intOf]; omega
    · obtain rfl : k = ts.length - 1 := by omega
      have hlt' : ¬ ((ts.length - 1 : Nat) : Int) + 1 < (ts.length : Int) := by omega
      obtain ⟨u, ⟨g, o, K', S', qn, qe, q3, n1, c1, n2, c2, n3, c3, rfl, rfl, a0, a1, a2, a3, a4⟩, hu⟩ := (unhide HV).at (ts.length - 1) (by omega)
      have hsm := szL_take (show ts.length - 1 < ts.length by omega)
      have hsm2 : szL d (ts.take (ts.length - 1 + 1)) ≤ szL d ts := szL_take_le _ _
      obtain ⟨m, hm⟩ : ∃ m, m = ts.length - 1 := ⟨_, rfl⟩
      obtain ⟨L0, hL0⟩ : ∃ L0, L0 = sigS d ts (ts.length - 1) := ⟨_, rfl⟩
      obtain ⟨LT, hLT⟩ : ∃ LT, LT = tyS d (ts[ts.length - 1]'(by omega)) := ⟨_, rfl⟩
      have hLL := unhide HL
      rw [← hL0, ← hLT] at hLL
      have hll : L0.length ≤ 400000 := by rw [hL0]; omega
      have ho' := ho
      obtain ⟨vo, hvo⟩ : ∃ vo, vo = Value.slice pv (sigS d ts (ts.length - 1)).length cv := ⟨_, rfl⟩
      have HO2 : Hid (wr.ownsRow w.heap.size 9 1 vo L0.length (strV L0)) := by show World.ownsRow _ _ _ _ _ _ _; rw [hvo, hL0]; exact ho
      obtain ⟨B, hBd⟩ : ∃ B : World → Prop, B = fun W => Below w.heap.size w W := ⟨_, rfl⟩
      have toB : ∀ W, B W → Below w.heap.size w W := fun W h => by rw [hBd] at h; exact h
      have ofB : ∀ W, Below w.heap.size w W → B W := fun W h => by rw [hBd]; exact h
      have cT : ∀ W, B W → Calls Tryz.prog 49 #[.agg #[.int .i64 K', .string S', .slice qn n1 c1, .slice qe n2 c2, .slice q3 n3 c3]] W fun e w' => (∃ u, e = .returned u ∧ w'.ownsRow W.heap.size 9 1 u LT.length (strV LT) ∧ 0 < LT.length ∧ LT.length ≤ 300000) ∧ Below W.heap.size W w' := fun W h => by
        rw [hLT]
        exact (unhide HI _ _ W (TyValD.below (toB W h) hu) (unhide HR _ (by simp)) (by omega)).mono fun e w' ⟨⟨u, he, h1, h2, h3⟩, hb⟩ => ⟨⟨u, he, h1, h2, by omega⟩, hb⟩
      have cC : ∀ W, B W → W.cell? ⟨g, o + (ts.length - 1) * 5, none⟩ = some (.int .i64 K') ∧ W.cell? ⟨g, o + (ts.length - 1) * 5 + 1, none⟩ = some (.string S') ∧ W.cell? ⟨g, o + (ts.length - 1) * 5 + 2, none⟩ = some (.slice qn n1 c1) ∧ W.cell? ⟨g, o + (ts.length - 1) * 5 + 3, none⟩ = some (.slice qe n2 c2) ∧ W.cell? ⟨g, o + (ts.length - 1) * 5 + 4, none⟩ = some (.slice q3 n3 c3) := fun W h => ⟨((toB W h).cell (p := ⟨g, _, none⟩) (cell_at a0)).trans a0, ((toB W h).cell (p := ⟨g, _, none⟩) (cell_at a1)).trans a1, ((toB W h).cell (p := ⟨g, _, none⟩) (cell_at a2)).trans a2, ((toB W h).cell (p := ⟨g, _, none⟩) (cell_at a3)).trans a3, ((toB W h).cell (p := ⟨g, _, none⟩) (cell_at a4)).trans a4⟩
      have sB : ∀ W W', B W → Below W.heap.size W W' → B W' := fun W W' h hb => ofB _ (bon (toB _ h) hb)
      have sV : ∀ (i : Nat) (v : Value) (W W' : World), VS vo (.slice (some ⟨g, o, none⟩) ts.length c) (.pointer (some ⟨g, o + (ts.length - 1) * 5, none⟩)) (.agg #[.int .i64 K', .string S', .slice qn n1 c1, .slice qe n2 c2, .slice q3 n3 c3]) ts.length w.heap.size L i v W → Below W.heap.size W W' → VS vo (.slice (some ⟨g, o, none⟩) ts.length c) (.pointer (some ⟨g, o + (ts.length - 1) * 5, none⟩)) (.agg #[.int .i64 K', .string S', .slice qn n1 c1, .slice qe n2 c2, .slice q3 n3 c3]) ts.length w.heap.size L i v W' := fun i v W W' h hb => VS.on i h (grown_of_below hb) fun _ => own_none _
      clear ho ho' HO hlen hsm hsm2 a0 a1 a2 a3 a4 hu HV HL HI HR hL0 hLT
      have HLL := hide hLL
      clear hLL
      go_wp2_with fail
      refine region_more (n := 36) (by kernel_rfl) (by kernel_rfl) (by kernel_rfl) rfl B (VS vo (.slice (some ⟨g, o, none⟩) ts.length c) (.pointer (some ⟨g, o + (ts.length - 1) * 5, none⟩)) (.agg #[.int .i64 K', .string S', .slice qn n1 c1, .slice qe n2 c2, .slice q3 n3 c3]) ts.length w.heap.size L) (XS w.heap.size vo L0 (L0 ++ [[41]]) LT)
        (ofB _ (below_drew2 hb)) ⟨fun _ => ⟨(unhide HO2).drew, (fun _ h => nomatch h), (fun _ h => nomatch h)⟩, fun _ => ⟨(fun _ h => nomatch h), (fun _ h => nomatch h)⟩⟩ ?each ?fin
      case each =>
        refine ⟨?_, ?_, ?_, ?_, ?_, ?_, ?_, ?_, ?_, ?_, ?_, ?_, trivial⟩
        · exact XGoal.of sB sV (fun f v W W' h hb => XS.on (by decide) (by decide) (by decide) (by decide) h hb) (fun a' W hz hdf hkp hBW dep => ⟨wanted_plain rfl, op_move rfl (show a'.eval (.tmp 3) = vo from (hkp 3 (by kernel_rfl)).trans hvo.symm) ⟨_, rfl, Below.refl _ _, rfl⟩⟩)
        · refine fun a' W f hz hdf hkp hBW hV hX hno down dep => ⟨wanted_plain rfl, op_buildS (s := ⟨#[41]⟩) rfl rfl ⟨_, rfl, sB _ _ hBW (al1 _ _), trivial, fun j x hj => sV j x _ _ (hV j x hj) (al1 _ _), ?_⟩⟩
          have hg := grown_of_below (al1 W (.cells #[.string ⟨#[41]⟩] 9))
          unfold XS at hX ⊢
          rw [upd_ne f _ (show 2 ≠ 1 by decide), upd_ne f _ (show 9 ≠ 1 by decide), upd_ne f _ (show 10 ≠ 1 by decide)]
          refine ⟨fun e => ?_, fun e => ⟨fun x hx => ⟨((hX.2 e).1 x hx).1.kept hg (own_none _), ((hX.2 e).1 x hx).2⟩, fun x hx => ⟨((hX.2 e).2 x hx).1.kept hg (own_none _), ((hX.2 e).2 x hx).2⟩⟩⟩
          obtain ⟨k1, _, k3⟩ := hX.1 e
          refine ⟨k1.kept hg (own_none _), fun x hx => ?_, k3⟩
          rw [upd_same] at hx
          obtain rfl := Option.some.inj hx
          exact ⟨_, rfl, hp1 W _, fun e' => by have := (k1.lt _ e').2; omega⟩
        · intro a' W f hz hdf hkp hBW hV hX hno down dep
          obtain ⟨k1, k2, k3⟩ := hX.1 hno
          obtain ⟨g1, q1, q2, q3'⟩ := k2 _ (dep 1 26 (by kernel_rfl) (by kernel_rfl))
          obtain ⟨g', cp', W4, E, hLf⟩ := Left.appends (ms := [[41]]) k1 (toB W hBW).size (by simp; omega) (by decide) (srow1 (s := [41]) q2)
          refine ⟨wanted_plain rfl, op_append rfl (hV 0 _ (dep 0 25 (by kernel_rfl) (by kernel_rfl))) q1 E ⟨_, rfl, ofB _ ((toB _ hBW).trans hLf.2.1), trivial, fun j x hj => VS.on j (hV j x hj) hLf.grown fun hj' => ?_, ?_⟩⟩
          · exfalso
            have n10 : f 10 ≠ none := by
              rcases hj' with rfl | rfl
              · rw [hj]; simp
              · exact down 11 10 (by kernel_rfl) (by rw [hj]; simp)
            exact down 10 2 (by kernel_rfl) n10 hno
          · unfold XS at hX ⊢
            rw [upd_ne f _ (show 1 ≠ 2 by decide), upd_ne f _ (show 9 ≠ 2 by decide), upd_ne f _ (show 10 ≠ 2 by decide), upd_same]
            refine ⟨(fun e => nomatch e), fun e => ⟨fun x hx => ?_, fun x hx => ⟨((hX.2 e).2 x hx).1.kept hLf.grown ?_, ((hX.2 e).2 x hx).2⟩⟩⟩
            · obtain rfl := Option.some.inj hx
              refine ⟨by simpa using hLf.1, fun u hu g2 hg2 e' => ?_⟩
              have hlt2 := (((hX.2 e).2 u hu).1.lt g2 hg2).2
              rcases hLf.2.2.2 with h | h
              · exact k3 u hu g2 hg2 (h ▸ e')
              · have := h g2 e'; omega
            · cases hxb : x.ownBlock with
              | none => exact .inl rfl
              | some g2 => exact .inr fun e' => k3 x hx g2 hxb e'.symm
        · exact XGoal.of sB sV (fun f v W W' h hb => XS.on (by decide) (by decide) (by decide) (by decide) h hb) (fun a' W hz hdf hkp hBW dep => ⟨wanted_plain rfl, op_move rfl (show a'.eval (.tmp 0) = .slice (some ⟨g, o, none⟩) ts.length c from hkp 0 (by kernel_rfl)) ⟨_, rfl, Below.refl _ _, rfl⟩⟩)
        · exact XGoal.of sB sV (fun f v W W' h hb => XS.on (by decide) (by decide) (by decide) (by decide) h hb) (fun a' W hz hdf hkp hBW dep => ⟨wanted_plain rfl, op_move rfl (show a'.eval (.tmp 0) = .slice (some ⟨g, o, none⟩) ts.length c from hkp 0 (by kernel_rfl)) ⟨_, rfl, Below.refl _ _, rfl⟩⟩)
        · exact XGoal.of sB sV (fun f v W W' h hb => XS.on (by decide) (by decide) (by decide) (by decide) h hb) (fun a' W hz hdf hkp hBW dep => ⟨wanted_plain rfl, op_len rfl (dep 4 29 (by kernel_rfl) (by kernel_rfl)) ⟨_, rfl, Below.refl _ _, rfl⟩⟩)
        · exact XGoal.of sB sV (fun f v W W' h hb => XS.on (by decide) (by decide) (by decide) (by decide) h hb) (fun a' W hz hdf hkp hBW dep => ⟨wanted_plain rfl, op_sub1 rfl (dep 5 30 (by kernel_rfl) (by kernel_rfl)) hne (by omega) ⟨_, rfl, Below.refl _ _, rfl⟩⟩)
        · exact XGoal.of sB sV (fun f v W W' h hb => XS.on (by decide) (by decide) (by decide) (by decide) h hb) (fun a' W hz hdf hkp hBW dep => ⟨wanted_plain rfl, op_index5 rfl (dep 3 28 (by kernel_rfl) (by kernel_rfl)) (dep 6 31 (by kernel_rfl) (by kernel_rfl)) (by omega) ⟨_, rfl, Below.refl _ _, rfl⟩⟩)
        · exact XGoal.of sB sV (fun f v W W' h hb => XS.on (by decide) (by decide) (by decide) (by decide) h hb) (fun a' W hz hdf hkp hBW dep => ⟨wanted_plain rfl, op_load5o rfl (dep 7 32 (by kernel_rfl) (by kernel_rfl)) (cC W hBW).1 (cC W hBW).2.1 (cC W hBW).2.2.1 (cC W hBW).2.2.2.1 (cC W hBW).2.2.2.2 ⟨_, rfl, Below.refl _ _, rfl⟩⟩)
        · refine fun a' W f hz hdf hkp hBW hV hX hno down dep => ⟨wanted_plain rfl, op_call1 rfl (hV 8 _ (dep 8 33 (by kernel_rfl) (by kernel_rfl))) typed_enter ((cT W hBW).mono fun e w' ⟨⟨u, he, h1, h2, h3⟩, hb⟩ => ⟨u, he, u, rfl, sB _ _ hBW hb, trivial, fun j x hj => sV j x _ _ (hV j x hj) hb, ?_⟩)⟩
          have hg := grown_of_below hb
          unfold XS at hX ⊢
          rw [upd_ne f _ (show 1 ≠ 9 by decide), upd_ne f _ (show 2 ≠ 9 by decide), upd_ne f _ (show 10 ≠ 9 by decide), upd_same]
          refine ⟨fun e => ?_, fun e => ⟨fun x hx => ⟨((hX.2 e).1 x hx).1.kept hg (own_none _), fun y hy g2 hg2 e' => ?_⟩, fun y hy => ?_⟩⟩
          · obtain ⟨k1, k2, _⟩ := hX.1 e
            refine ⟨k1.kept hg (own_none _), fun x hx => ?_, fun y hy g2 hg2 e' => ?_⟩
            · obtain ⟨g1, q1, q2, q3'⟩ := k2 x hx
              exact ⟨g1, q1, kp hb q2, q3'⟩
            · obtain rfl := Option.some.inj hy
              have := (h1.lt g2 hg2).1
              have := (k1.lt g2 e').2
              omega
          · obtain rfl := Option.some.inj hy
            have := (h1.lt g2 hg2).1
            have := (((hX.2 e).1 x hx).1.lt g2 e').2
            omega
          · obtain rfl := Option.some.inj hy
            exact ⟨h1.mono (toB W hBW).size, h2, h3⟩
        · intro a' W f hz hdf hkp hBW hV hX hno down dep
          obtain ⟨k1, k2⟩ := hX.2 hno
          have q27 := (k1 _ (dep 2 27 (by kernel_rfl) (by kernel_rfl))).1
          obtain ⟨q34, hpos, hlen3⟩ := k2 _ (dep 9 34 (by kernel_rfl) (by kernel_rfl))
          obtain ⟨g2, cp2, e2⟩ := owns_form q34 hpos
          rw [e2] at q34
          obtain ⟨g', cp', W4, E, hLf⟩ := Left.appends q27 (toB W hBW).size (by simp; omega) hpos (SRow.of_owns q34)
          refine ⟨wanted_plain rfl, op_append rfl rfl e2 E ⟨_, rfl, ofB _ ((toB _ hBW).trans hLf.2.1), (by show World.ownsRow _ _ _ _ _ _ _; rw [unhide HLL]; simpa using hLf.1), fun j x hj => VS.on j (hV j x hj) hLf.grown fun hj' => ?_, ?_⟩⟩
          · exfalso
            rcases hj' with rfl | rfl
            · rw [hno] at hj; cases hj
            · exact down 11 10 (by kernel_rfl) (by rw [hj]; simp) hno
          · unfold XS
            rw [upd_ne f _ (show 2 ≠ 10 by decide), upd_same]
            exact ⟨(fun e => by rw [dep 2 27 (by kernel_rfl) (by kernel_rfl)] at e; cases e), (fun e => nomatch e)⟩
        · exact XGoal.of sB sV (fun f v W W' h hb => XS.on (by decide) (by decide) (by decide) (by decide) h hb) (fun a' W hz hdf hkp hBW dep => ⟨wanted_plain rfl, op_assign rfl rfl ⟨_, rfl, Below.refl _ _, (dep 10 35 (by kernel_rfl) (by kernel_rfl))⟩⟩)
      case fin =>
        intro a' W hz hdf hkp hBW dep
        have h2 : W.ownsRow w.heap.size 9 1 (a'.tmps.getD 2 undef) L.length (strV L) := dep 11 2 (by kernel_rfl)
        have hbf := toB W hBW
        clear dep hkp cT cC
        go_wp2
        exact bodyPost_ret (v := a'.tmps.getD 2 undef) (by simp [results, Tryz.results80, go_sem, Array.getD_eq_getD_getElem?]) hdf ⟨⟨_, rfl, h2⟩, hbf⟩
end Go.Proofs.YtmpbbmfbgcpplaaGreatDoor
/-
  A signature's strings are its tokens' texts. No world.
-/
namespace Go.Proofs.YtmpbbmfbgcpplaaGreatDoor
open Go Go.RowKit Lx

theorem sig_toks (d : Nat) (t : Ty (d + 1)) (hn : 0 < t.2.2.2.2.length) : (tyToks (d + 1) true t).map tokText = sigS d t.2.2.2.2 (t.2.2.2.2.length - 1) ++ [[41]] ++ tyS d (t.2.2.2.2[t.2.2.2.2.length - 1]'(by omega)) := by
  rw [tyToks]
  simp only [if_true]
  unfold sigS tyS
  rw [List.map_append, List.map_cons, List.map_cons, List.map_flatMap, tS_text, tS_text]
  rw [List.getElem?_eq_getElem (by omega)]
  simp only [Option.map_some, Option.getD_some, List.append_assoc, List.cons_append, List.nil_append]
  congr 3
  funext i
  rw [List.map_append]
  congr 1
  · split
    · simp [tS_text]
    · rfl
  · cases t.2.2.2.2[i]? <;> simp
end Go.Proofs.YtmpbbmfbgcpplaaGreatDoor
