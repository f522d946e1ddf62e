import Derived.Test.YtmpbbmfbgcpplaaGreatDoorQSynB
import Derived.Test.YtmpbbmfbgcpplaaGreatDoorQSynA
set_option maxHeartbeats 4000000
set_option maxRecDepth 100000
namespace Go.Proofs.YtmpbbmfbgcpplaaGreatDoor
open Go Go.RowKit Lx
def putT (ts : List Tok) (t : Tok) : List Tok := if ts.length < 32769 then ts ++ [t] else ts
def WrAt (base b : Nat) (T : TypeId) (ts : List Tok) (W : World) : Prop :=
 base ≤ b ∧ T ≠ 142 ∧ ∃ v, Boxed W b T v ∧ W.ownsRow base 142 4 v ts.length (zcx ts)
def Stay (b : Nat) (W W' : World) : Prop := W.heap.size ≤ W'.heap.size ∧ ∀ k o, W.heap[k]? = some o → k ≠ b → (∀ c fz, o ≠ .cells c 142 fz) → W'.heap[k]? = some o
theorem Stay.refl (b : Nat) (W : World) : Stay b W W := ⟨Nat.le_refl _, fun _ _ h _ _ => h⟩
theorem Stay.trans {b : Nat} {U V W : World} (h : Stay b U V) (k : Stay b V W) : Stay b U W := ⟨Nat.le_trans h.1 k.1, fun j o hj hn ho => k.2 j o (h.2 j o hj hn ho) hn ho⟩
theorem Stay.of_below {b : Nat} {W W' : World} (h : Below W.heap.size W W') : Stay b W W' := ⟨h.size, fun k _ hk _ _ => (h.block k (Array.getElem?_eq_some_iff.1 hk).1).trans hk⟩
theorem not_tok {W : World} {base size n k : Nat} {v : Value} {xs : List Value} {o : Obj} (h : W.ownsRow base 142 size v n xs) (hk : W.heap[k]? = some o) (ho : ∀ c fz, o ≠ .cells c 142 fz) : some k ≠ v.ownBlock := by
 rcases h.2 with ⟨rfl, _⟩ | ⟨g, cap, cur, rfl, _, hgb, _⟩
 ·simp [Value.ownBlock]
 ·intro e
  obtain rfl : k = g := by simpa [Value.ownBlock] using e
  rw [hk] at hgb
  exact ho _ _ (by simpa using hgb)
theorem zc6 {P : Program} {ops : Array Oper} {o : Oper} {a : Act} {w : World} {K : Act → World → Prop} {Q : Exit → Act → World → Prop} {E : Prop} (hg : o.guard = none) (s x : Operand) (t : TypeId) (ho : o.op = .call { callee := .builtin .append, args := #[s, x], argTypes := #[t, t] })
  {v u v' : Value} {w' : World} (hs : a.eval s = v) (hx : a.eval x = u) (hr : (Builtin.append_ #[t, t] o.type #[v, u]).run P w = .ok v' w') (h : K (a.put o.dst v') w') : if Region.wanted o (yielded ops a.tmps) = true then Oper.wp P o a w K Q else E := by
 rw [if_pos (by simp [Region.wanted, hg])]
 unfold Oper.wp
 simp [execOp, ho, resolve, invoke, builtin, hs, hx, hr, Result.andThen]
 exact h
theorem ziw (base b : Nat) (T : TypeId) (ts : List Tok) (t : Tok) (w : World) (h : WrAt base b T ts w) (hl : ts.length ≤ 1000000) :
  Calls Tryz.prog 122 #[.pointer (some ⟨b, 0, none⟩), .agg #[.int .i64 (t.1 : Int), .int .i64 t.2.1, .string ⟨t.2.2.1.toArray⟩, .int .i64 t.2.2.2]] w fun e w' => e = .returned (.tuple #[]) ∧ WrAt base b T (putT ts t) w' ∧ Below base w w' ∧ Stay b w w' := by
 obtain ⟨hB, hT, v, hv, hr⟩ := h
 have hc := hv.cell
 have hbl := hv.lt
 obtain ⟨i0, hi, hz0, hz1, hz2⟩ := info_parts info_tok
 obtain ⟨p, c, rfl⟩ : ∃ p c, v = .slice p ts.length c := by
  rcases hr.2 with ⟨rfl, e⟩ | ⟨g, cap, cur, rfl, _⟩
  ·exact ⟨none, 0, by rw [e]⟩
  ·exact ⟨_, _, rfl⟩
 by_cases hlt : ts.length < 32769
 ·have hlt' : (ts.length : Int) < 32769 := by omega
  have HE : Hid (putT ts t = ts ++ [t]) := by show _ = _; rw [putT, if_pos hlt]
  obtain ⟨O, hO⟩ : ∃ O : Obj, O = .cells #[.int .i64 (t.1 : Int), .int .i64 t.2.1, .string ⟨t.2.2.1.toArray⟩, .int .i64 t.2.2.2] 142 := ⟨_, rfl⟩
  have hcx : ∀ j, ((w.alloc O).alloc O).drew.cell? ⟨w.heap.size + 1, j, none⟩ = #[Value.int .i64 (t.1 : Int), .int .i64 t.2.1, .string ⟨t.2.2.1.toArray⟩, .int .i64 t.2.2.2][j]? := fun j => by
   show ((w.alloc O).alloc O).cell? _ = _
   rw [hO, World.cell?_alloc_at _ _ _ _ (by simp)]
  have hrX : ((w.alloc O).alloc O).drew.ownsRow base 142 4 (.slice p ts.length c) ts.length (zcx ts) := ((hr.alloc O).alloc O).drew
  obtain ⟨v', W', E, hown, hgrow, _⟩ := run_append_own (P := Tryz.prog) ((w.alloc O).alloc O).drew base 91 91 142 i0 (.agg #[.int .i64 0, .int .i64 0, .string ⟨#[]⟩, .int .i64 0]) 4 40 Tryz.underlying91 hi hz0 hz1 hz2 rfl (by decide) _ _ _ hrX ⟨w.heap.size + 1, 0, none⟩ 1 1 (zbb t) rfl
   (fun j u hj => by
    rw [Go.WideShapes.add_plain]
    match j, hj with
    | 0, hj => simp [zbb] at hj; subst hj; exact hcx 0
    | 1, hj => simp [zbb] at hj; subst hj; exact hcx 1
    | 2, hj => simp [zbb] at hj; subst hj; exact hcx 2
    | 3, hj => simp [zbb] at hj; subst hj; exact hcx 3
    | j + 4, hj => simp [zbb] at hj)
   (by intro u hu; simp [zbb] at hu; rcases hu with rfl | rfl | rfl | rfl <;> rfl) (by unfold maxLen; omega) (by omega) (by show base ≤ ((w.alloc O).alloc O).heap.size; simp; omega)
  obtain ⟨g', cap', rfl⟩ := ownsRow_succ hown
  obtain ⟨hv1, hv2, hr2, hk2, hb2⟩ := (hv.alloc O).appended hT (hr.alloc O) (by simp; omega) hB (tmp := O) hown ⟨hgrow.os, hgrow.tape, hgrow.output, hgrow.size, hgrow.block⟩
  have hc1 := hv1.cell
  have hf1 := hv1.frozen
  have hbx : Below base w (W'.setCell ⟨b, 0, none⟩ (.slice (some ⟨g', 0, none⟩) (ts.length + 1) cap')) := ((Below.refl _ _).alloc (by omega) O).trans hb2
  have HW : Hid (WrAt base b T (ts ++ [t]) (W'.setCell ⟨b, 0, none⟩ (.slice (some ⟨g', 0, none⟩) (ts.length + 1) cap'))) := ⟨hB, hT, _, hv2, by rw [zhi]; simpa using hr2⟩
  have hst : Stay b w (W'.setCell ⟨b, 0, none⟩ (.slice (some ⟨g', 0, none⟩) (ts.length + 1) cap')) := by
   refine ⟨by have := hgrow.size; simp [World.drew] at this ⊢; omega, fun k o hk hn ho => ?_⟩
   have hkl := (Array.getElem?_eq_some_iff.1 hk).1
   refine (Below.heap_setCell _ _ _ _ hn).trans ((hgrow.block k (by show k < ((w.alloc O).alloc O).heap.size; simp; omega) (not_tok hr hk ho)).trans ?_)
   exact (heap_old2 _ _ _ hkl).trans hk
  have HX := za3 (And.intro hbx hst)
  clear hv1 hv2 hr2 hk2 hb2 hown hgrow hrX hcx hbx hst hv hr
  subst hO
  go_enter Tryz.func122, Tryz.ntmps122
  go_wp2_with fail
  go_region_law (refine zc6 rfl (.tmp 14) (.tmp 16) 91 rfl (by simp [Act.eval]) (by simp [Act.eval]) E ?_)
  all_goals
   go_wp2_with fail
   exact bodyPost_end (v := .tuple #[]) (by simp [results, Tryz.results122, go_sem]) rfl ⟨rfl, (by rw [za0 HE]; exact za0 HW), za0 HX⟩
 ·have hlt' : ¬ (ts.length : Int) < 32769 := by omega
  have HE : Hid (putT ts t = ts) := by show _ = _; rw [putT, if_neg hlt]
  have HV := za3 hv
  have HR := za3 hr
  clear hv hr
  go_enter Tryz.func122, Tryz.ntmps122
  go_wp2
  exact bodyPost_end (v := .tuple #[]) (by simp [results, Tryz.results122, go_sem]) rfl ⟨rfl, (by rw [za0 HE]; exact ⟨hB, hT, _, (za0 HV).alloc _, (za0 HR).alloc _⟩), (Below.refl _ _).alloc (by omega) _, .of_below ((Below.refl _ _).alloc (Nat.le_refl _) _)⟩
theorem wWord_any (base b : Nat) (T : TypeId) (ts : List Tok) (s : Bs) (w : World) (h : WrAt base b T ts w) (hl : ts.length ≤ 1000000) :
  Calls Tryz.prog 89 #[.pointer (some ⟨b, 0, none⟩), .string ⟨s.toArray⟩] w fun e w' => e = .returned (.tuple #[]) ∧ WrAt base b T (putT ts (0, 3, s, 0)) w' ∧ Below base w w' ∧ Stay b w w' := by
 have PT := za3 (ziw base b T ts (0, 3, s, 0) w h hl)
 dsimp only at PT
 clear h
 go_enter Tryz.func89, Tryz.ntmps89
 go_wp2_with (go_at_call 122; refine (za0 PT).mono ?_; clear PT; rintro e w1 ⟨rfl, h1, h2, h3⟩)
 exact bodyPost_end (v := .tuple #[]) (by simp [results, Tryz.results89, go_sem]) rfl ⟨rfl, h1, h2, h3⟩
theorem zdj (base b : Nat) (T : TypeId) (ts : List Tok) (s : Bs) (w : World) (h : WrAt base b T ts w) (hl : ts.length ≤ 1000000) :
  Calls Tryz.prog 87 #[.pointer (some ⟨b, 0, none⟩), .string ⟨s.toArray⟩] w fun e w' => e = .returned (.tuple #[]) ∧ WrAt base b T (putT ts (0, 6, s, 0)) w' ∧ Below base w w' ∧ Stay b w w' := by
 have PT := za3 (ziw base b T ts (0, 6, s, 0) w h hl)
 dsimp only at PT
 clear h
 go_enter Tryz.func87, Tryz.ntmps87
 go_wp2_with (go_at_call 122; refine (za0 PT).mono ?_; clear PT; rintro e w1 ⟨rfl, h1, h2, h3⟩)
 exact bodyPost_end (v := .tuple #[]) (by simp [results, Tryz.results87, go_sem]) rfl ⟨rfl, h1, h2, h3⟩
theorem zhk (base b : Nat) (T : TypeId) (ts : List Tok) (s : Bs) (w : World) (h : WrAt base b T ts w) (hl : ts.length ≤ 1000000) :
  Calls Tryz.prog 104 #[.pointer (some ⟨b, 0, none⟩), .string ⟨s.toArray⟩] w fun e w' => e = .returned (.tuple #[]) ∧ WrAt base b T (putT ts (0, 1, s, 0)) w' ∧ Below base w w' ∧ Stay b w w' := by
 have PT := za3 (ziw base b T ts (0, 1, s, 0) w h hl)
 dsimp only at PT
 clear h
 go_enter Tryz.func104, Tryz.ntmps104
 go_wp2_with (go_at_call 122; refine (za0 PT).mono ?_; clear PT; rintro e w1 ⟨rfl, h1, h2, h3⟩)
 exact bodyPost_end (v := .tuple #[]) (by simp [results, Tryz.results104, go_sem]) rfl ⟨rfl, h1, h2, h3⟩
theorem wTypeName_any (base b : Nat) (T : TypeId) (ts : List Tok) (s : Bs) (w : World) (h : WrAt base b T ts w) (hl : ts.length ≤ 1000000) :
  Calls Tryz.prog 101 #[.pointer (some ⟨b, 0, none⟩), .string ⟨s.toArray⟩] w fun e w' => e = .returned (.tuple #[]) ∧ WrAt base b T (putT ts (0, 2, s, 0)) w' ∧ Below base w w' ∧ Stay b w w' := by
 have PT := za3 (ziw base b T ts (0, 2, s, 0) w h hl)
 dsimp only at PT
 clear h
 go_enter Tryz.func101, Tryz.ntmps101
 go_wp2_with (go_at_call 122; refine (za0 PT).mono ?_; clear PT; rintro e w1 ⟨rfl, h1, h2, h3⟩)
 exact bodyPost_end (v := .tuple #[]) (by simp [results, Tryz.results101, go_sem]) rfl ⟨rfl, h1, h2, h3⟩
theorem wQuoted_any (base b : Nat) (T : TypeId) (ts : List Tok) (s : Bs) (w : World) (h : WrAt base b T ts w) (hl : ts.length ≤ 1000000) :
  Calls Tryz.prog 124 #[.pointer (some ⟨b, 0, none⟩), .string ⟨s.toArray⟩] w fun e w' => e = .returned (.tuple #[]) ∧ WrAt base b T (putT ts (0, 5, s, 0)) w' ∧ Below base w w' ∧ Stay b w w' := by
 have PT := za3 (ziw base b T ts (0, 5, s, 0) w h hl)
 dsimp only at PT
 clear h
 go_enter Tryz.func124, Tryz.ntmps124
 go_wp2_with (go_at_call 122; refine (za0 PT).mono ?_; clear PT; rintro e w1 ⟨rfl, h1, h2, h3⟩)
 exact bodyPost_end (v := .tuple #[]) (by simp [results, Tryz.results124, go_sem]) rfl ⟨rfl, h1, h2, h3⟩
theorem wNumber_any (base b : Nat) (T : TypeId) (ts : List Tok) (n : Int) (w : World) (h : WrAt base b T ts w) (hl : ts.length ≤ 1000000) :
  Calls Tryz.prog 123 #[.pointer (some ⟨b, 0, none⟩), .int .i64 n] w fun e w' => e = .returned (.tuple #[]) ∧ WrAt base b T (putT ts (0, 4, [], n)) w' ∧ Below base w w' ∧ Stay b w w' := by
 have PT := za3 (ziw base b T ts (0, 4, [], n) w h hl)
 dsimp only at PT
 clear h
 go_enter Tryz.func123, Tryz.ntmps123
 go_wp2_with (go_at_call 122; refine (za0 PT).mono ?_; clear PT; rintro e w1 ⟨rfl, h1, h2, h3⟩)
 exact bodyPost_end (v := .tuple #[]) (by simp [results, Tryz.results123, go_sem]) rfl ⟨rfl, h1, h2, h3⟩
def tW (s : Bs) : Tok := (0, 3, s, 0)
def tS (s : Bs) : Tok := (0, 6, s, 0)
def tN (s : Bs) : Tok := (0, 1, s, 0)
def tT (s : Bs) : Tok := (0, 2, s, 0)
def zar (ts l : List Tok) : List Tok := l.foldl putT ts
theorem za6 (ts l m : List Tok) : zar ts (l ++ m) = zar (zar ts l) m := by rw [zar, List.foldl_append]; rfl
theorem zal (ts l : List Tok) (t : Tok) : zar ts (t :: l) = zar (putT ts t) l := rfl
theorem zbf (ts : List Tok) : zar ts [] = ts := rfl
def zac : (d : Nat) → Bool → Ty d → List Tok
 | 0, _, t => nomatch t
 | d + 1, sg, t =>
  let part (i : Nat) (s : Bool) : List Tok := ((t.2.2.2.2)[i]?.map (zac d s)).getD []
  let sig : List Tok := tS [40] :: ((List.range (t.2.2.2.2.length - 1)).flatMap fun i => (if 0 < i then [tS [44]] else []) ++ part i false) ++ tS [41] :: part (t.2.2.2.2.length - 1) false
  if sg = true then sig
  else if t.1 = 1 then [tW [105, 110, 116]]
  else if t.1 = 2 then [tW [98, 111, 111, 108]]
  else if t.1 = 3 then [tW [116, 101, 120, 116]]
  else if t.1 = 4 then [tT t.2.1]
  else if t.1 = 5 then tS [42] :: part 0 false
  else if t.1 = 6 then tS [123] :: ((List.range t.2.2.1.length).flatMap fun i => (if t.2.2.2.1.getD i false = true then [tW [101, 109, 98, 101, 100]] else []) ++ tN (t.2.2.1.getD i []) :: part i false ++ [tS [59]]) ++ [tS [125]]
  else if t.1 = 7 then tW [102, 110] :: sig
  else if t.1 = 8 then tW [105, 110, 116, 101, 114, 102, 97, 99, 101] :: tS [123] :: ((List.range t.2.2.1.length).flatMap fun i => tN (t.2.2.1.getD i []) :: part i true ++ [tS [59]]) ++ [tS [125]]
  else []
theorem zcs {ts : List Tok} (t : Tok) (h : ts.length ≤ 32769) : (putT ts t).length ≤ 32769 := by
 unfold putT; split
 ·simp; omega
 ·exact h
theorem zbu : ∀ (l ts : List Tok), ts.length ≤ 32769 → (zar ts l).length ≤ 32769
 | [], _, h => h
 | t :: l, _, h => zbu l _ (zcs t h)
def zk8 (nm : Nat → Bs) (em : Nat → Bool) (tk : Nat → List Tok) (i : Nat) : List Tok := (if em i = true then [tW [101, 109, 98, 101, 100]] else []) ++ tN (nm i) :: (tk i ++ [tS [59]])
theorem zlx (ts : List Tok) (f : Nat → List Tok) (k : Nat) : zar ts ((List.range (k + 1)).flatMap f) = zar (zar ts ((List.range k).flatMap f)) (f k) := by
 rw [List.range_succ, List.flatMap_append, za6, List.flatMap_singleton]
theorem fields_run (w0 : World) (b : Nat) (T : TypeId) (ts : List Tok) (K : Int) (l : ByteArray) (q : Nat) (pn pe pp : Option Addr) (cn ce cp : Nat) (w : World) (nm : Nat → Bs) (em : Nat → Bool) (tk : Nat → List Tok)
  (hw : WrAt w0.heap.size b T ts w) (hts : ts.length ≤ 32769) (hb0 : Below w0.heap.size w0 w) (hq : q ≤ 1000000)
  (hN : ∀ k, k < q → ∃ g o, pn = some ⟨g, o, none⟩ ∧ w0.cell? ⟨g, o + k, none⟩ = some (.string ⟨(nm k).toArray⟩))
  (hE : ∀ k, k < q → ∃ g o, pe = some ⟨g, o, none⟩ ∧ w0.cell? ⟨g, o + k, none⟩ = some (.bool (em k)))
  (hP : ∀ k, k < q → ∃ (g o : Nat) (K' : Int) (l' : ByteArray) (p1 p2 p3 : Option Addr) (n1 n2 n3 c1 c2 c3 : Nat), pp = some ⟨g, o, none⟩ ∧ w0.cell? ⟨g, o + k * 5, none⟩ = some (.int .i64 K') ∧ w0.cell? ⟨g, o + k * 5 + 1, none⟩ = some (.string l') ∧
   w0.cell? ⟨g, o + k * 5 + 2, none⟩ = some (.slice p1 n1 c1) ∧ w0.cell? ⟨g, o + k * 5 + 3, none⟩ = some (.slice p2 n2 c2) ∧ w0.cell? ⟨g, o + k * 5 + 4, none⟩ = some (.slice p3 n3 c3) ∧
   ∀ ts' W, WrAt w0.heap.size b T ts' W → ts'.length ≤ 32769 → Below w0.heap.size w0 W → Calls Tryz.prog 77 #[.pointer (some ⟨b, 0, none⟩), .agg #[.int .i64 K', .string l', .slice p1 n1 c1, .slice p2 n2 c2, .slice p3 n3 c3]] W fun e w' => e = .returned (.tuple #[]) ∧ WrAt w0.heap.size b T (zar ts' (tk k)) w' ∧ Below w0.heap.size W w' ∧ Stay b W w') :
  Calls Tryz.prog 110 #[.pointer (some ⟨b, 0, none⟩), .agg #[.int .i64 K, .string l, .slice pn q cn, .slice pe q ce, .slice pp q cp]] w fun e w' => e = .returned (.tuple #[]) ∧ WrAt w0.heap.size b T (zar ts ((List.range q).flatMap (zk8 nm em tk))) w' ∧ Below w0.heap.size w w' ∧ Stay b w w' := by
 obtain ⟨O, hO⟩ : ∃ O : Obj, O = .cells #[.int .i64 K, .string l, .slice pn q cn, .slice pe q ce, .slice pp q cp] 53 := ⟨_, rfl⟩
 have hbl : b < w.heap.size := by obtain ⟨_, _, v, h, _⟩ := hw; exact h.lt
 have hne : w.heap.size ≠ b := by omega
 have HBX : Hid (∀ W : World, W.heap[w.heap.size]? = some O → W.cell? ⟨w.heap.size, 3, none⟩ = some (.slice pe q ce) ∧ W.cell? ⟨w.heap.size, 4, none⟩ = some (.slice pp q cp)) := fun W h => by
  rw [hO] at h
  exact ⟨by rw [Lib.cell_of_heap h]; rfl, by rw [Lib.cell_of_heap h]; rfl⟩
 have HO0 := za3 (zaj w O)
 have HN0 : Hid (∀ c fz, O ≠ .cells c 142 fz) := by show ∀ c fz, _; rw [hO]; intro c fz e; injection e with _ e _; exact absurd e (by decide)
 have HW0 : Hid (WrAt w0.heap.size b T ts (w.alloc O)) := by obtain ⟨h1, h2, v, h3, h4⟩ := hw; exact ⟨h1, h2, v, h3.alloc O, h4.alloc O⟩
 have HN := za3 hN
 have HE := za3 hE
 have HP := za3 hP
 have HB := za3 hb0
 have hsz := hb0.size
 clear hN hE hP hw hb0
 go_enter Tryz.func110, Tryz.ntmps110
 go_wp2
 rw [← hO]
 clear hO
 go_loopw [9] (fun i wr => ∃ k : Nat, i = .int .i64 k ∧ k ≤ q ∧ Hid (WrAt w0.heap.size b T (zar ts ((List.range k).flatMap (zk8 nm em tk))) wr) ∧ Hid (Below w0.heap.size w wr) ∧ Hid (Stay b w wr) ∧ Hid (wr.heap[w.heap.size]? = some O)) (fun i _ => q - (intOf i).toNat)
 case atStart => exact ⟨0, rfl, by omega, za0 HW0, (Below.refl _ _).alloc hsz O, .of_below ((Below.refl _ _).alloc (Nat.le_refl _) O), za0 HO0⟩
 case round =>
  obtain ⟨k, rfl, hk, HWr, HBr, HSr, HOr⟩ := hrel
  by_cases hlt : k < q
  ·have hlt' : (k : Int) < (q : Int) := by omega
   obtain ⟨gn, on, rfl, an⟩ := za0 HN k hlt
   obtain ⟨ge, oe, rfl, ae⟩ := za0 HE k hlt
   obtain ⟨gp, op, K', l', p1, p2, p3, n1, n2, n3, c1, c2, c3, rfl, a0, a1, a2, a3, a4, wt⟩ := za0 HP k hlt
   have WT := za3 wt
   have HK := za3 (zlx ts (zk8 nm em tk) k)
   have hl0 : (zar ts ((List.range k).flatMap (zk8 nm em tk))).length ≤ 32769 := zbu _ _ hts
   obtain ⟨ts1, hts1⟩ : ∃ x, x = zar ts ((List.range k).flatMap (zk8 nm em tk)) := ⟨_, rfl⟩
   rw [← hts1] at HWr HK hl0
   have HZr := (za0 HB).trans (za0 HBr)
   have FF : Hid (∀ W : World, Below w0.heap.size w0 W → W.heap[w.heap.size]? = some O → W.cell? ⟨w.heap.size, 3, none⟩ = some (.slice (some ⟨ge, oe, none⟩) q ce) ∧ W.cell? ⟨w.heap.size, 4, none⟩ = some (.slice (some ⟨gp, op, none⟩) q cp) ∧ W.cell? ⟨gn, on + k, none⟩ = some (.string ⟨(nm k).toArray⟩) ∧ W.cell? ⟨ge, oe + k, none⟩ = some (.bool (em k)) ∧
     W.cell? ⟨gp, op + k * 5, none⟩ = some (.int .i64 K') ∧ W.cell? ⟨gp, op + k * 5 + 1, none⟩ = some (.string l') ∧ W.cell? ⟨gp, op + k * 5 + 2, none⟩ = some (.slice p1 n1 c1) ∧ W.cell? ⟨gp, op + k * 5 + 3, none⟩ = some (.slice p2 n2 c2) ∧ W.cell? ⟨gp, op + k * 5 + 4, none⟩ = some (.slice p3 n3 c3)) := fun W h1 h2 =>
    ⟨(za0 HBX W h2).1, (za0 HBX W h2).2, (h1.cell (p := ⟨gn, _, none⟩) (za2 an)).trans an, (h1.cell (p := ⟨ge, _, none⟩) (za2 ae)).trans ae, (h1.cell (p := ⟨gp, _, none⟩) (za2 a0)).trans a0, (h1.cell (p := ⟨gp, _, none⟩) (za2 a1)).trans a1, (h1.cell (p := ⟨gp, _, none⟩) (za2 a2)).trans a2, (h1.cell (p := ⟨gp, _, none⟩) (za2 a3)).trans a3, (h1.cell (p := ⟨gp, _, none⟩) (za2 a4)).trans a4⟩
   clear an ae a0 a1 a2 a3 a4 wt hts1 hts HW0 HO0 HN HE HP HBX
   obtain ⟨m0, m1, m2, m3, m4, m5, m6, m7, m8⟩ := za0 FF wr HZr (za0 HOr)
   rw [zk8] at HK
   by_cases he : em k = true
   ·rw [he] at m3 FF
    rw [if_pos he, za6, zal, za6, zal, zbf, zal, zbf] at HK
    go_wp2_with (first
     | (go_at_call 89; refine (wWord_any w0.heap.size b T _ [101, 109, 98, 101, 100] _ (za0 HWr) (by omega)).mono ?_; rintro x wa ⟨rfl, HW_wa, hB_wa, hS_wa⟩; have HZ_wa := (HZr).trans hB_wa; have HO_wa := hS_wa.2 _ _ (za0 HOr) hne (za0 HN0); obtain ⟨m0, m1, m2, m3, m4, m5, m6, m7, m8⟩ := za0 FF wa HZ_wa HO_wa)
     | (go_at_call 104; refine (zhk w0.heap.size b T _ (nm k) _ HW_wa (Nat.le_trans (zcs _ hl0) (by omega))).mono ?_; rintro x wb ⟨rfl, HW_wb, hB_wb, hS_wb⟩; have HZ_wb := (HZ_wa).trans hB_wb; have HO_wb := hS_wb.2 _ _ HO_wa hne (za0 HN0); obtain ⟨m0, m1, m2, m3, m4, m5, m6, m7, m8⟩ := za0 FF wb HZ_wb HO_wb)
     | (go_at_call 77; refine (za0 WT _ _ HW_wb (zcs _ (zcs _ hl0)) HZ_wb).mono ?_; rintro x wc ⟨rfl, HW_wc, hB_wc, hS_wc⟩; have HZ_wc := (HZ_wb).trans hB_wc; have HO_wc := hS_wc.2 _ _ HO_wb hne (za0 HN0); obtain ⟨m0, m1, m2, m3, m4, m5, m6, m7, m8⟩ := za0 FF wc HZ_wc HO_wc)
     | (go_at_call 87; refine (zdj w0.heap.size b T _ [59] _ HW_wc (Nat.le_trans (zbu _ _ (zcs _ (zcs _ hl0))) (by omega))).mono ?_; rintro x wd ⟨rfl, HW_wd, hB_wd, hS_wd⟩; have HZ_wd := (HZ_wc).trans hB_wd; have HO_wd := hS_wd.2 _ _ HO_wc hne (za0 HN0); obtain ⟨m0, m1, m2, m3, m4, m5, m6, m7, m8⟩ := za0 FF wd HZ_wd HO_wd))
    go_roundw
    case rel => exact ⟨k + 1, by go_num, by omega, (by rw [za0 HK]; exact HW_wd), (za0 HBr).trans (hB_wa.trans (hB_wb.trans (hB_wc.trans hB_wd))), (za0 HSr).trans (hS_wa.trans (hS_wb.trans (hS_wc.trans hS_wd))), HO_wd⟩
    case measure => simp [intOf]; omega
   ·have he := (Bool.not_eq_true _).mp he
    rw [he] at m3 FF
    rw [if_neg (by rw [he]; simp), List.nil_append, zal, za6, zal, zbf] at HK
    go_wp2_with (first
     | (go_at_call 104; refine (zhk w0.heap.size b T _ (nm k) _ (za0 HWr) (by omega)).mono ?_; rintro x wb ⟨rfl, HW_wb, hB_wb, hS_wb⟩; have HZ_wb := (HZr).trans hB_wb; have HO_wb := hS_wb.2 _ _ (za0 HOr) hne (za0 HN0); obtain ⟨m0, m1, m2, m3, m4, m5, m6, m7, m8⟩ := za0 FF wb HZ_wb HO_wb)
     | (go_at_call 77; refine (za0 WT _ _ HW_wb (zcs _ hl0) HZ_wb).mono ?_; rintro x wc ⟨rfl, HW_wc, hB_wc, hS_wc⟩; have HZ_wc := (HZ_wb).trans hB_wc; have HO_wc := hS_wc.2 _ _ HO_wb hne (za0 HN0); obtain ⟨m0, m1, m2, m3, m4, m5, m6, m7, m8⟩ := za0 FF wc HZ_wc HO_wc)
     | (go_at_call 87; refine (zdj w0.heap.size b T _ [59] _ HW_wc (Nat.le_trans (zbu _ _ (zcs _ hl0)) (by omega))).mono ?_; rintro x wd ⟨rfl, HW_wd, hB_wd, hS_wd⟩; have HZ_wd := (HZ_wc).trans hB_wd; have HO_wd := hS_wd.2 _ _ HO_wc hne (za0 HN0); obtain ⟨m0, m1, m2, m3, m4, m5, m6, m7, m8⟩ := za0 FF wd HZ_wd HO_wd))
    go_roundw
    case rel => exact ⟨k + 1, by go_num, by omega, (by rw [za0 HK]; exact HW_wd), (za0 HBr).trans (hB_wb.trans (hB_wc.trans hB_wd)), (za0 HSr).trans (hS_wb.trans (hS_wc.trans hS_wd)), HO_wd⟩
    case measure => simp [intOf]; omega
  ·obtain rfl : k = q := by omega
   go_wp2
   exact bodyPost_end (v := .tuple #[]) (by simp [results, Tryz.results110, go_sem]) rfl ⟨rfl, za0 HWr, za0 HBr, za0 HSr⟩
def zh8 (nm : Nat → Bs) (tk : Nat → List Tok) (i : Nat) : List Tok := tN (nm i) :: (tk i ++ [tS [59]])
theorem methods_run (w0 : World) (b : Nat) (T : TypeId) (ts : List Tok) (K : Int) (l : ByteArray) (q e : Nat) (pn pe pp : Option Addr) (cn ce cp : Nat) (w : World) (nm : Nat → Bs) (tk : Nat → List Tok)
  (hw : WrAt w0.heap.size b T ts w) (hts : ts.length ≤ 32769) (hb0 : Below w0.heap.size w0 w) (hq : q ≤ 1000000)
  (hN : ∀ k, k < q → ∃ g o, pn = some ⟨g, o, none⟩ ∧ w0.cell? ⟨g, o + k, none⟩ = some (.string ⟨(nm k).toArray⟩))
  (hP : ∀ k, k < q → ∃ (g o : Nat) (K' : Int) (l' : ByteArray) (p1 p2 p3 : Option Addr) (n1 n2 n3 c1 c2 c3 : Nat), pp = some ⟨g, o, none⟩ ∧ w0.cell? ⟨g, o + k * 5, none⟩ = some (.int .i64 K') ∧ w0.cell? ⟨g, o + k * 5 + 1, none⟩ = some (.string l') ∧
   w0.cell? ⟨g, o + k * 5 + 2, none⟩ = some (.slice p1 n1 c1) ∧ w0.cell? ⟨g, o + k * 5 + 3, none⟩ = some (.slice p2 n2 c2) ∧ w0.cell? ⟨g, o + k * 5 + 4, none⟩ = some (.slice p3 n3 c3) ∧
   ∀ ts' W, WrAt w0.heap.size b T ts' W → ts'.length ≤ 32769 → Below w0.heap.size w0 W → Calls Tryz.prog 111 #[.pointer (some ⟨b, 0, none⟩), .agg #[.int .i64 K', .string l', .slice p1 n1 c1, .slice p2 n2 c2, .slice p3 n3 c3]] W fun e w' => e = .returned (.tuple #[]) ∧ WrAt w0.heap.size b T (zar ts' (tk k)) w' ∧ Below w0.heap.size W w' ∧ Stay b W w') :
  Calls Tryz.prog 113 #[.pointer (some ⟨b, 0, none⟩), .agg #[.int .i64 K, .string l, .slice pn q cn, .slice pe e ce, .slice pp q cp]] w fun e w' => e = .returned (.tuple #[]) ∧ WrAt w0.heap.size b T (zar ts ((List.range q).flatMap (zh8 nm tk))) w' ∧ Below w0.heap.size w w' ∧ Stay b w w' := by
 obtain ⟨O, hO⟩ : ∃ O : Obj, O = .cells #[.int .i64 K, .string l, .slice pn q cn, .slice pe e ce, .slice pp q cp] 53 := ⟨_, rfl⟩
 have hbl : b < w.heap.size := by obtain ⟨_, _, v, h, _⟩ := hw; exact h.lt
 have hne : w.heap.size ≠ b := by omega
 have HBX : Hid (∀ W : World, W.heap[w.heap.size]? = some O → W.cell? ⟨w.heap.size, 4, none⟩ = some (.slice pp q cp)) := fun W h => by
  rw [hO] at h
  rw [Lib.cell_of_heap h]; rfl
 have HO0 := za3 (zaj w O)
 have HN0 : Hid (∀ c fz, O ≠ .cells c 142 fz) := by show ∀ c fz, _; rw [hO]; intro c fz e; injection e with _ e _; exact absurd e (by decide)
 have HW0 : Hid (WrAt w0.heap.size b T ts (w.alloc O)) := by obtain ⟨h1, h2, v, h3, h4⟩ := hw; exact ⟨h1, h2, v, h3.alloc O, h4.alloc O⟩
 have HN := za3 hN
 have HP := za3 hP
 have HB := za3 hb0
 have hsz := hb0.size
 clear hN hP hw hb0
 go_enter Tryz.func113, Tryz.ntmps113
 go_wp2
 rw [← hO]
 clear hO
 go_loopw [9] (fun i wr => ∃ k : Nat, i = .int .i64 k ∧ k ≤ q ∧ Hid (WrAt w0.heap.size b T (zar ts ((List.range k).flatMap (zh8 nm tk))) wr) ∧ Hid (Below w0.heap.size w wr) ∧ Hid (Stay b w wr) ∧ Hid (wr.heap[w.heap.size]? = some O)) (fun i _ => q - (intOf i).toNat)
 case atStart => exact ⟨0, rfl, by omega, za0 HW0, (Below.refl _ _).alloc hsz O, .of_below ((Below.refl _ _).alloc (Nat.le_refl _) O), za0 HO0⟩
 case round =>
  obtain ⟨k, rfl, hk, HWr, HBr, HSr, HOr⟩ := hrel
  by_cases hlt : k < q
  ·have hlt' : (k : Int) < (q : Int) := by omega
   obtain ⟨gn, on, rfl, an⟩ := za0 HN k hlt
   obtain ⟨gp, op, K', l', p1, p2, p3, n1, n2, n3, c1, c2, c3, rfl, a0, a1, a2, a3, a4, wt⟩ := za0 HP k hlt
   have WT := za3 wt
   have HK := za3 (zlx ts (zh8 nm tk) k)
   have hl0 : (zar ts ((List.range k).flatMap (zh8 nm tk))).length ≤ 32769 := zbu _ _ hts
   obtain ⟨ts1, hts1⟩ : ∃ x, x = zar ts ((List.range k).flatMap (zh8 nm tk)) := ⟨_, rfl⟩
   rw [← hts1] at HWr HK hl0
   have HZr := (za0 HB).trans (za0 HBr)
   have FF : Hid (∀ W : World, Below w0.heap.size w0 W → W.heap[w.heap.size]? = some O → W.cell? ⟨w.heap.size, 4, none⟩ = some (.slice (some ⟨gp, op, none⟩) q cp) ∧ W.cell? ⟨gn, on + k, none⟩ = some (.string ⟨(nm k).toArray⟩) ∧
     W.cell? ⟨gp, op + k * 5, none⟩ = some (.int .i64 K') ∧ W.cell? ⟨gp, op + k * 5 + 1, none⟩ = some (.string l') ∧ W.cell? ⟨gp, op + k * 5 + 2, none⟩ = some (.slice p1 n1 c1) ∧ W.cell? ⟨gp, op + k * 5 + 3, none⟩ = some (.slice p2 n2 c2) ∧ W.cell? ⟨gp, op + k * 5 + 4, none⟩ = some (.slice p3 n3 c3)) := fun W h1 h2 =>
    ⟨za0 HBX W h2, (h1.cell (p := ⟨gn, _, none⟩) (za2 an)).trans an, (h1.cell (p := ⟨gp, _, none⟩) (za2 a0)).trans a0, (h1.cell (p := ⟨gp, _, none⟩) (za2 a1)).trans a1, (h1.cell (p := ⟨gp, _, none⟩) (za2 a2)).trans a2, (h1.cell (p := ⟨gp, _, none⟩) (za2 a3)).trans a3, (h1.cell (p := ⟨gp, _, none⟩) (za2 a4)).trans a4⟩
   clear an a0 a1 a2 a3 a4 wt hts1 hts HW0 HO0 HN HP HBX
   obtain ⟨m0, m1, m2, m3, m4, m5, m6⟩ := za0 FF wr HZr (za0 HOr)
   rw [zh8] at HK
   ·rw [zal, za6, zal, zbf] at HK
    go_wp2_with (first
     | (go_at_call 104; refine (zhk w0.heap.size b T _ (nm k) _ (za0 HWr) (by omega)).mono ?_; rintro x wb ⟨rfl, HW_wb, hB_wb, hS_wb⟩; have HZ_wb := (HZr).trans hB_wb; have HO_wb := hS_wb.2 _ _ (za0 HOr) hne (za0 HN0); obtain ⟨m0, m1, m2, m3, m4, m5, m6⟩ := za0 FF wb HZ_wb HO_wb)
     | (go_at_call 111; refine (za0 WT _ _ HW_wb (zcs _ hl0) HZ_wb).mono ?_; rintro x wc ⟨rfl, HW_wc, hB_wc, hS_wc⟩; have HZ_wc := (HZ_wb).trans hB_wc; have HO_wc := hS_wc.2 _ _ HO_wb hne (za0 HN0); obtain ⟨m0, m1, m2, m3, m4, m5, m6⟩ := za0 FF wc HZ_wc HO_wc)
     | (go_at_call 87; refine (zdj w0.heap.size b T _ [59] _ HW_wc (Nat.le_trans (zbu _ _ (zcs _ hl0)) (by omega))).mono ?_; rintro x wd ⟨rfl, HW_wd, hB_wd, hS_wd⟩; have HZ_wd := (HZ_wc).trans hB_wd; have HO_wd := hS_wd.2 _ _ HO_wc hne (za0 HN0); obtain ⟨m0, m1, m2, m3, m4, m5, m6⟩ := za0 FF wd HZ_wd HO_wd))
    go_roundw
    case rel => exact ⟨k + 1, by go_num, by omega, (by rw [za0 HK]; exact HW_wd), (za0 HBr).trans (hB_wb.trans (hB_wc.trans hB_wd)), (za0 HSr).trans (hS_wb.trans (hS_wc.trans hS_wd)), HO_wd⟩
    case measure => simp [intOf]; omega
  ·obtain rfl : k = q := by omega
   go_wp2
   exact bodyPost_end (v := .tuple #[]) (by simp [results, Tryz.results113, go_sem]) rfl ⟨rfl, za0 HWr, za0 HBr, za0 HSr⟩
end Go.Proofs.YtmpbbmfbgcpplaaGreatDoor
