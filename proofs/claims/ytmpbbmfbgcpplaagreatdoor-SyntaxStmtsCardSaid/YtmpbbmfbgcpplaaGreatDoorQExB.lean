import Derived.Test.YtmpbbmfbgcpplaaGreatDoorQExA
set_option maxHeartbeats 4000000
set_option maxRecDepth 100000
namespace Go.Proofs.YtmpbbmfbgcpplaaGreatDoor
open Go Go.RowKit Lx
theorem zhj (k : Int) (s : Bs) (w : World) (hs : s.length ≤ 35184372088832) (ht : Tab w) (h5 : 4 ≤ w.heap.size) :
  Calls Tryz.prog 116 #[.int .i64 k, .string ⟨s.toArray⟩] w fun e w' => e = .returned (.bool (zis k s)) ∧ Below w.heap.size w w' := by
 have IT := za3 (zft k s w hs ht h5)
 clear hs ht
 by_cases h : k = 0
 ·subst h
  clear IT
  rcases s with _ | ⟨c, r⟩
  all_goals
   go_enter Tryz.func116, Tryz.ntmps116
   go_wp2
   go_ret
   refine ⟨?_, Below.refl _ _⟩
   simp [zis]
 ·have HZ : Hid (zis k s = zc8 k s) := by show _ = _; rw [zis, if_neg h]
  rw [za0 HZ]
  clear HZ
  go_enter Tryz.func116, Tryz.ntmps116
  go_wp2_with (go_at_call 102; refine (za0 IT).mono ?_; clear IT; rintro x w1 ⟨rfl, hb1⟩)
  go_ret
  exact ⟨rfl, hb1⟩
theorem zh4 (named : Bool) (A K N : Int) (S : ByteArray) (ns : List Bs) (pt pn pp : Option Addr) (nt q ct cn cp : Nat) (w : World) (hv : SRow w (.slice pn ns.length cn) ns) (hl : ns.length ≤ 1000000) (hs : ∀ s ∈ ns, s.length ≤ 35184372088832) (_hq : q ≤ 1000000) (ht : Tab w) (h5 : 4 ≤ w.heap.size) :
  Calls Tryz.prog 117 #[.bool named, .agg #[.int .i64 A, .int .i64 K, .int .i64 N, .string S, .slice pt nt ct, .slice pn ns.length cn, .slice pp q cp]] w fun e w' => e = .returned (.bool (zdq named ns q)) ∧ Below w.heap.size w w' := by
 obtain ⟨O, hO⟩ : ∃ O : Obj, O = .cells #[.int .i64 A, .int .i64 K, .int .i64 N, .string S, .slice pt nt ct, .slice pn ns.length cn, .slice pp q cp] 28 := ⟨_, rfl⟩
 have hb : Below w.heap.size w (w.alloc O) := (Below.refl _ _).alloc (Nat.le_refl _) O
 have RN : Hid (∀ m, m = ns.length → Calls Tryz.prog 137 #[.slice pn m cn] (w.alloc O) fun e w' => e = .returned (.bool (zc9 ns)) ∧ Below w.heap.size w w') := fun m hm => hm ▸ (zh5 _ _ (w.alloc O) (hv.below hb) hl hs (ht.below hb h5) (by simp; omega)).mono fun _ _ h => ⟨h.1, hb.trans (h.2.mono (by simp))⟩
 have HB := za3 hb
 obtain ⟨z, hz⟩ : ∃ z, z = zc9 ns := ⟨_, rfl⟩
 have HZ : Hid (zdq named ns q = if named = true then decide (ns.length = q) && z else decide (ns.length = 0)) := by rw [hz]; rfl
 rw [← hz] at RN
 rw [za0 HZ]
 rw [hO] at RN HB
 obtain ⟨n, hn⟩ : ∃ n, n = ns.length := ⟨_, rfl⟩
 rw [← hn] at RN hl HB ⊢
 clear hz HZ hO hv hs ht hb hn
 cases named
 ·go_enter Tryz.func117, Tryz.ntmps117
  go_wp2
  go_ret
  exact ⟨by simp [nb0], za0 HB⟩
 ·by_cases hq : n = q
  ·subst hq
   go_enter Tryz.func117, Tryz.ntmps117
   go_wp2_with (go_at_call 137; refine (za0 RN _ rfl).mono ?_; clear RN; rintro x w1 ⟨rfl, hb1⟩)
   go_ret
   exact ⟨by simp, hb1⟩
  ·have hq' : ¬ (n : Int) = (q : Int) := by omega
   go_enter Tryz.func117, Tryz.ntmps117
   go_wp2
   go_ret
   exact ⟨by simp, za0 HB⟩
theorem zh2 (A K N : Int) (S : ByteArray) (pt pn pp : Option Addr) (nt n q ct cn cp : Nat) (w : World) (_hq : q ≤ 1000000) (_ht : nt ≤ 1000000) (says mostN types least most : Int) (named ok b1 b2 : Bool)
  (hS : ∀ W, Calls Tryz.prog 115 #[.int .i64 K] W fun e w' => e = .returned (.tuple #[.agg #[.int .i64 says, .int .i64 mostN, .int .i64 types, .bool named, .int .i64 least, .int .i64 most], .bool ok]) ∧ Below W.heap.size W w')
  (h1 : ∀ W, Below w.heap.size w W → Calls Tryz.prog 116 #[.int .i64 says, .string S] W fun e w' => e = .returned (.bool b1) ∧ Below W.heap.size W w')
  (h2 : ∀ W m k, m = n → k = q → Below w.heap.size w W → Calls Tryz.prog 117 #[.bool named, .agg #[.int .i64 A, .int .i64 K, .int .i64 N, .string S, .slice pt nt ct, .slice pn m cn, .slice pp k cp]] W fun e w' => e = .returned (.bool b2) ∧ Below W.heap.size W w') :
  Calls Tryz.prog 81 #[.agg #[.int .i64 A, .int .i64 K, .int .i64 N, .string S, .slice pt nt ct, .slice pn n cn, .slice pp q cp]] w fun e w' => e = .returned (.bool (ok && decide (0 ≤ N) && decide (N ≤ mostN) && decide ((nt : Int) = types) && decide (least ≤ (q : Int)) && decide ((q : Int) ≤ most) && b1 && b2)) ∧ Below w.heap.size w w' := by
 obtain ⟨O, hO⟩ : ∃ O : Obj, O = .cells #[.int .i64 A, .int .i64 K, .int .i64 N, .string S, .slice pt nt ct, .slice pn n cn, .slice pp q cp] 28 := ⟨_, rfl⟩
 obtain ⟨P, hP⟩ : ∃ P : Obj, P = .cells #[.int .i64 says, .int .i64 mostN, .int .i64 types, .bool named, .int .i64 least, .int .i64 most] 157 := ⟨_, rfl⟩
 have hb : Below w.heap.size w (w.alloc O) := (Below.refl _ _).alloc (Nat.le_refl _) O
 have SH : Hid (Calls Tryz.prog 115 #[.int .i64 K] (w.alloc O) fun e w1 => e = .returned (.tuple #[.agg #[.int .i64 says, .int .i64 mostN, .int .i64 types, .bool named, .int .i64 least, .int .i64 most], .bool ok]) ∧ Below w.heap.size w (w1.alloc P) ∧ w.heap.size < w1.heap.size ∧
   (w1.alloc P).heap[w.heap.size]? = some O ∧ (w1.alloc P).heap[w1.heap.size]? = some P) := (hS (w.alloc O)).mono fun e w1 ⟨h, hb1⟩ => by
  have hs := hb1.size
  simp at hs
  have hbw : Below w.heap.size w w1 := hb.trans (hb1.mono (by simp))
  have hO1 : w1.heap[w.heap.size]? = some O := (hb1.block _ (by simp)).trans (zaj _ _)
  exact ⟨h, hbw.alloc (by omega) P, by omega, (((Below.refl w1.heap.size w1).alloc (Nat.le_refl _) P).block _ (by omega)).trans hO1, zaj _ _⟩
 have CL : Hid (∀ (W : World) (g : Nat), W.heap[w.heap.size]? = some O → W.heap[g]? = some P → W.cell? ⟨w.heap.size, 0, none⟩ = some (.int .i64 A) ∧ W.cell? ⟨w.heap.size, 1, none⟩ = some (.int .i64 K) ∧ W.cell? ⟨w.heap.size, 2, none⟩ = some (.int .i64 N) ∧ W.cell? ⟨w.heap.size, 3, none⟩ = some (.string S) ∧ W.cell? ⟨w.heap.size, 4, none⟩ = some (.slice pt nt ct) ∧ W.cell? ⟨w.heap.size, 5, none⟩ = some (.slice pn n cn) ∧ W.cell? ⟨w.heap.size, 6, none⟩ = some (.slice pp q cp) ∧
   W.cell? ⟨g, 0, none⟩ = some (.int .i64 says) ∧ W.cell? ⟨g, 1, none⟩ = some (.int .i64 mostN) ∧ W.cell? ⟨g, 2, none⟩ = some (.int .i64 types) ∧ W.cell? ⟨g, 3, none⟩ = some (.bool named) ∧ W.cell? ⟨g, 4, none⟩ = some (.int .i64 least) ∧ W.cell? ⟨g, 5, none⟩ = some (.int .i64 most)) := fun W g a b => by
  rw [hO] at a
  rw [hP] at b
  exact ⟨by rw [Lib.cell_of_heap a]; rfl, by rw [Lib.cell_of_heap a]; rfl, by rw [Lib.cell_of_heap a]; rfl, by rw [Lib.cell_of_heap a]; rfl, by rw [Lib.cell_of_heap a]; rfl, by rw [Lib.cell_of_heap a]; rfl, by rw [Lib.cell_of_heap a]; rfl, by rw [Lib.cell_of_heap b]; rfl, by rw [Lib.cell_of_heap b]; rfl, by rw [Lib.cell_of_heap b]; rfl, by rw [Lib.cell_of_heap b]; rfl, by rw [Lib.cell_of_heap b]; rfl, by rw [Lib.cell_of_heap b]; rfl⟩
 have S1 := za3 h1
 have S2 := za3 h2
 rw [hO] at SH CL
 rw [hP] at SH CL
 clear h1 h2 hS hb hO hP
 have BB : Hid (∀ w1 w2 : World, Below w.heap.size w w1 → Below w1.heap.size w1 w2 → Below w.heap.size w w2) := fun w1 w2 a b => a.trans (b.mono a.size)
 cases ok
 ·go_enter Tryz.func81, Tryz.ntmps81
  go_wp2_with (first
   | (go_at_call 115; refine (za0 SH).mono ?_; clear SH; rintro x w1 ⟨rfl, hb1, hlt, hO1, hP1⟩; obtain ⟨c0, c1, c2, c3, c4, c5, c6, d0, d1, d2, d3, d4, d5⟩ := za0 CL _ _ hO1 hP1)
   | (go_at_call 116; refine (za0 S1 _ hb1).mono ?_; clear S1; rintro x w2 ⟨rfl, hb2⟩; have hO2 := (hb2.block _ (by simp; omega)).trans hO1; have hP2 := (hb2.block _ (by simp)).trans hP1; obtain ⟨c0, c1, c2, c3, c4, c5, c6, d0, d1, d2, d3, d4, d5⟩ := za0 CL _ _ hO2 hP2)
   | (go_at_call 117; refine (za0 S2 _ _ _ rfl rfl (hb1.trans (hb2.mono (by simp; omega)))).mono ?_; clear S2; rintro x w3 ⟨rfl, hb3⟩; have hs2 := hb2.size))
  go_ret
  exact ⟨by simp, hb1⟩
 by_cases g1 : N < 0
 ·go_enter Tryz.func81, Tryz.ntmps81
  go_wp2_with (first
   | (go_at_call 115; refine (za0 SH).mono ?_; clear SH; rintro x w1 ⟨rfl, hb1, hlt, hO1, hP1⟩; obtain ⟨c0, c1, c2, c3, c4, c5, c6, d0, d1, d2, d3, d4, d5⟩ := za0 CL _ _ hO1 hP1)
   | (go_at_call 116; refine (za0 S1 _ hb1).mono ?_; clear S1; rintro x w2 ⟨rfl, hb2⟩; have hO2 := (hb2.block _ (by simp; omega)).trans hO1; have hP2 := (hb2.block _ (by simp)).trans hP1; obtain ⟨c0, c1, c2, c3, c4, c5, c6, d0, d1, d2, d3, d4, d5⟩ := za0 CL _ _ hO2 hP2)
   | (go_at_call 117; refine (za0 S2 _ _ _ rfl rfl (hb1.trans (hb2.mono (by simp; omega)))).mono ?_; clear S2; rintro x w3 ⟨rfl, hb3⟩; have hs2 := hb2.size))
  go_ret
  exact ⟨by rw [decide_eq_false (show ¬ 0 ≤ N by omega)]; simp, hb1⟩
 by_cases g2 : mostN < N
 ·go_enter Tryz.func81, Tryz.ntmps81
  go_wp2_with (first
   | (go_at_call 115; refine (za0 SH).mono ?_; clear SH; rintro x w1 ⟨rfl, hb1, hlt, hO1, hP1⟩; obtain ⟨c0, c1, c2, c3, c4, c5, c6, d0, d1, d2, d3, d4, d5⟩ := za0 CL _ _ hO1 hP1)
   | (go_at_call 116; refine (za0 S1 _ hb1).mono ?_; clear S1; rintro x w2 ⟨rfl, hb2⟩; have hO2 := (hb2.block _ (by simp; omega)).trans hO1; have hP2 := (hb2.block _ (by simp)).trans hP1; obtain ⟨c0, c1, c2, c3, c4, c5, c6, d0, d1, d2, d3, d4, d5⟩ := za0 CL _ _ hO2 hP2)
   | (go_at_call 117; refine (za0 S2 _ _ _ rfl rfl (hb1.trans (hb2.mono (by simp; omega)))).mono ?_; clear S2; rintro x w3 ⟨rfl, hb3⟩; have hs2 := hb2.size))
  go_ret
  exact ⟨by rw [decide_eq_false (show ¬ N ≤ mostN by omega)]; simp, hb1⟩
 by_cases g3 : (nt : Int) = types
 rotate_left
 ·have g3' : ((nt : Int) == types) = false := beq_eq_false_iff_ne.2 g3
  have g3'' : ((nt : Int) != types) = true := bne_iff_ne.2 g3
  go_enter Tryz.func81, Tryz.ntmps81
  go_wp2_with (first
   | (go_at_call 115; refine (za0 SH).mono ?_; clear SH; rintro x w1 ⟨rfl, hb1, hlt, hO1, hP1⟩; obtain ⟨c0, c1, c2, c3, c4, c5, c6, d0, d1, d2, d3, d4, d5⟩ := za0 CL _ _ hO1 hP1)
   | (go_at_call 116; refine (za0 S1 _ hb1).mono ?_; clear S1; rintro x w2 ⟨rfl, hb2⟩; have hO2 := (hb2.block _ (by simp; omega)).trans hO1; have hP2 := (hb2.block _ (by simp)).trans hP1; obtain ⟨c0, c1, c2, c3, c4, c5, c6, d0, d1, d2, d3, d4, d5⟩ := za0 CL _ _ hO2 hP2)
   | (go_at_call 117; refine (za0 S2 _ _ _ rfl rfl (hb1.trans (hb2.mono (by simp; omega)))).mono ?_; clear S2; rintro x w3 ⟨rfl, hb3⟩; have hs2 := hb2.size))
  all_goals
   go_ret
   exact ⟨by rw [decide_eq_false g3]; simp, hb1⟩
 by_cases g4 : (q : Int) < least
 ·go_enter Tryz.func81, Tryz.ntmps81
  go_wp2_with (first
   | (go_at_call 115; refine (za0 SH).mono ?_; clear SH; rintro x w1 ⟨rfl, hb1, hlt, hO1, hP1⟩; obtain ⟨c0, c1, c2, c3, c4, c5, c6, d0, d1, d2, d3, d4, d5⟩ := za0 CL _ _ hO1 hP1)
   | (go_at_call 116; refine (za0 S1 _ hb1).mono ?_; clear S1; rintro x w2 ⟨rfl, hb2⟩; have hO2 := (hb2.block _ (by simp; omega)).trans hO1; have hP2 := (hb2.block _ (by simp)).trans hP1; obtain ⟨c0, c1, c2, c3, c4, c5, c6, d0, d1, d2, d3, d4, d5⟩ := za0 CL _ _ hO2 hP2)
   | (go_at_call 117; refine (za0 S2 _ _ _ rfl rfl (hb1.trans (hb2.mono (by simp; omega)))).mono ?_; clear S2; rintro x w3 ⟨rfl, hb3⟩; have hs2 := hb2.size))
  go_ret
  exact ⟨by rw [decide_eq_false (show ¬ least ≤ (q : Int) by omega)]; simp, hb1⟩
 by_cases g5 : most < (q : Int)
 ·go_enter Tryz.func81, Tryz.ntmps81
  go_wp2_with (first
   | (go_at_call 115; refine (za0 SH).mono ?_; clear SH; rintro x w1 ⟨rfl, hb1, hlt, hO1, hP1⟩; obtain ⟨c0, c1, c2, c3, c4, c5, c6, d0, d1, d2, d3, d4, d5⟩ := za0 CL _ _ hO1 hP1)
   | (go_at_call 116; refine (za0 S1 _ hb1).mono ?_; clear S1; rintro x w2 ⟨rfl, hb2⟩; have hO2 := (hb2.block _ (by simp; omega)).trans hO1; have hP2 := (hb2.block _ (by simp)).trans hP1; obtain ⟨c0, c1, c2, c3, c4, c5, c6, d0, d1, d2, d3, d4, d5⟩ := za0 CL _ _ hO2 hP2)
   | (go_at_call 117; refine (za0 S2 _ _ _ rfl rfl (hb1.trans (hb2.mono (by simp; omega)))).mono ?_; clear S2; rintro x w3 ⟨rfl, hb3⟩; have hs2 := hb2.size))
  go_ret
  exact ⟨by rw [decide_eq_false (show ¬ (q : Int) ≤ most by omega)]; simp, hb1⟩
 have k1 : 0 ≤ N := by omega
 have k2 : N ≤ mostN := by omega
 have k4 : least ≤ (q : Int) := by omega
 have k5 : (q : Int) ≤ most := by omega
 cases b1
 ·go_enter Tryz.func81, Tryz.ntmps81
  go_wp2_with (first
   | (go_at_call 115; refine (za0 SH).mono ?_; clear SH; rintro x w1 ⟨rfl, hb1, hlt, hO1, hP1⟩; obtain ⟨c0, c1, c2, c3, c4, c5, c6, d0, d1, d2, d3, d4, d5⟩ := za0 CL _ _ hO1 hP1)
   | (go_at_call 116; refine (za0 S1 _ hb1).mono ?_; clear S1; rintro x w2 ⟨rfl, hb2⟩; have hO2 := (hb2.block _ (by simp; omega)).trans hO1; have hP2 := (hb2.block _ (by simp)).trans hP1; obtain ⟨c0, c1, c2, c3, c4, c5, c6, d0, d1, d2, d3, d4, d5⟩ := za0 CL _ _ hO2 hP2)
   | (go_at_call 117; refine (za0 S2 _ _ _ rfl rfl (hb1.trans (hb2.mono (by simp; omega)))).mono ?_; clear S2; rintro x w3 ⟨rfl, hb3⟩; have hs2 := hb2.size))
  go_ret
  exact ⟨by simp, za0 BB _ _ hb1 hb2⟩
 ·go_enter Tryz.func81, Tryz.ntmps81
  go_wp2_with (first
   | (go_at_call 115; refine (za0 SH).mono ?_; clear SH; rintro x w1 ⟨rfl, hb1, hlt, hO1, hP1⟩; obtain ⟨c0, c1, c2, c3, c4, c5, c6, d0, d1, d2, d3, d4, d5⟩ := za0 CL _ _ hO1 hP1)
   | (go_at_call 116; refine (za0 S1 _ hb1).mono ?_; clear S1; rintro x w2 ⟨rfl, hb2⟩; have hO2 := (hb2.block _ (by simp; omega)).trans hO1; have hP2 := (hb2.block _ (by simp)).trans hP1; obtain ⟨c0, c1, c2, c3, c4, c5, c6, d0, d1, d2, d3, d4, d5⟩ := za0 CL _ _ hO2 hP2)
   | (go_at_call 117; refine (za0 S2 _ _ _ rfl rfl (hb1.trans (hb2.mono (by simp; omega)))).mono ?_; clear S2; rintro x w3 ⟨rfl, hb3⟩; have hs2 := hb2.size))
  go_ret
  exact ⟨by simp [k1, k2, g3, k4, k5], za0 BB _ _ (za0 BB _ _ hb1 hb2) hb3⟩
theorem zh3 (D d : Nat) (v : Value) (x : Ex D (d + 1)) (w : World) (hv : ExVal w D d v x) (hs : zgx D d x) (ht : Tab w) (h5 : 4 ≤ w.heap.size) :
  Calls Tryz.prog 81 #[v] w fun e w' => e = .returned (.bool (zc4 D d x)) ∧ Below w.heap.size w w' := by
 obtain ⟨pt, pn, pp, ct, cn, cp, rfl, r1, r2, r3⟩ := hv
 obtain ⟨s1, s2, s3, s4, s5, s6, s7⟩ := hs
 have hsh := fun W => shapeOf_any (zfn x) W
 rw [zjt] at hsh
 rcases hx : zce (zfn x) with _ | ⟨says, mostN, types, named, least, most⟩
 ·rw [hx] at hsh
  refine (zh2 _ _ _ _ _ _ _ _ _ _ ct cn cp w s6 s2 _ _ _ _ _ _ _ (zis 0 (xS x)) (zdq false (xNs x) (xPs x).length) hsh (fun W hW => zhj 0 _ W s1 (ht.below hW h5) (by have := hW.size; omega))
   (fun W m k hm hk hW => by subst hm; subst hk; exact zh4 false _ _ _ _ _ _ _ _ _ _ _ _ _ W (r2.below hW) s4 s5 s6 (ht.below hW h5) (by have := hW.size; omega))).mono ?_
  rintro e w' ⟨rfl, hb⟩
  exact ⟨by simp [zc4, hx], hb⟩
 ·rw [hx] at hsh
  refine (zh2 _ _ _ _ _ _ _ _ _ _ ct cn cp w s6 s2 _ _ _ _ _ _ _ (zis says (xS x)) (zdq named (xNs x) (xPs x).length) hsh (fun W hW => zhj says _ W s1 (ht.below hW h5) (by have := hW.size; omega))
   (fun W m k hm hk hW => by subst hm; subst hk; exact zh4 named _ _ _ _ _ _ _ _ _ _ _ _ _ W (r2.below hW) s4 s5 s6 (ht.below hW h5) (by have := hW.size; omega))).mono ?_
  rintro e w' ⟨rfl, hb⟩
  exact ⟨by simp [zc4, hx], hb⟩
def RightXAt (D d : Nat) : Prop := ∀ (v : Value) (x : Ex D (d + 1)) (room : Int) (w : World), ExVal w D d v x → zgx D d x → ExFits D d (xPs x) → 0 ≤ room → room ≤ 1000000 → Tab w → 4 ≤ w.heap.size →
 Calls Tryz.prog 54 #[v, .int .i64 room] w fun e w' => e = .returned (.bool (zbi D (d + 1) room x)) ∧ Below w.heap.size w w'
def RightXPart (w0 : World) (pp : Option Addr) (k : Nat) (f : Int → Bool) : Prop :=
 ∃ (g o : Nat) (A K N : Int) (S : ByteArray) (p1 p2 p3 : Option Addr) (n1 n2 n3 c1 c2 c3 : Nat), pp = some ⟨g, o, none⟩ ∧ w0.cell? ⟨g, o + k * 7, none⟩ = some (.int .i64 A) ∧ w0.cell? ⟨g, o + k * 7 + 1, none⟩ = some (.int .i64 K) ∧ w0.cell? ⟨g, o + k * 7 + 2, none⟩ = some (.int .i64 N) ∧ w0.cell? ⟨g, o + k * 7 + 3, none⟩ = some (.string S) ∧
   w0.cell? ⟨g, o + k * 7 + 4, none⟩ = some (.slice p1 n1 c1) ∧ w0.cell? ⟨g, o + k * 7 + 5, none⟩ = some (.slice p2 n2 c2) ∧ w0.cell? ⟨g, o + k * 7 + 6, none⟩ = some (.slice p3 n3 c3) ∧
   ∀ (room : Int) (W : World), 0 ≤ room → room ≤ 1000000 → Below w0.heap.size w0 W → Calls Tryz.prog 54 #[.agg #[.int .i64 A, .int .i64 K, .int .i64 N, .string S, .slice p1 n1 c1, .slice p2 n2 c2, .slice p3 n3 c3], .int .i64 room] W fun e w' => e = .returned (.bool (f room)) ∧ Below W.heap.size W w'
theorem zif (A K N : Int) (S : ByteArray) (pt pn pp : Option Addr) (nt n q ct cn cp : Nat) (room : Int) (w : World) (hq : q ≤ 1000000) (h0 : 0 ≤ room) (h1 : room ≤ 1000000) (b1 b2 : Bool) (f : Nat → Int → Bool)
  (hS : ∀ W, Below w.heap.size w W → Calls Tryz.prog 81 #[.agg #[.int .i64 A, .int .i64 K, .int .i64 N, .string S, .slice pt nt ct, .slice pn n cn, .slice pp q cp]] W fun e w' => e = .returned (.bool b1) ∧ Below W.heap.size W w')
  (hT : ∀ W, Below w.heap.size w W → Calls Tryz.prog 82 #[.slice pt nt ct, .int .i64 64] W fun e w' => e = .returned (.bool b2) ∧ Below W.heap.size W w')
  (hP : ∀ k, k < q → RightXPart w pp k (f k)) :
  Calls Tryz.prog 54 #[.agg #[.int .i64 A, .int .i64 K, .int .i64 N, .string S, .slice pt nt ct, .slice pn n cn, .slice pp q cp], .int .i64 room] w fun e w' => e = .returned (.bool (!decide (room = 0) && b1 && b2 && zkq q fun i => f i (room - if i = 0 ∧ zea K = true then 0 else 1))) ∧ Below w.heap.size w w' := by
 obtain ⟨O, hO⟩ : ∃ O : Obj, O = .cells #[.int .i64 A, .int .i64 K, .int .i64 N, .string S, .slice pt nt ct, .slice pn n cn, .slice pp q cp] 28 := ⟨_, rfl⟩
 have hb : Below w.heap.size w (w.alloc O) := (Below.refl _ _).alloc (Nat.le_refl _) O
 have CL : Hid (∀ W : World, W.heap[w.heap.size]? = some O → W.cell? ⟨w.heap.size, 0, none⟩ = some (.int .i64 A) ∧ W.cell? ⟨w.heap.size, 1, none⟩ = some (.int .i64 K) ∧ W.cell? ⟨w.heap.size, 2, none⟩ = some (.int .i64 N) ∧ W.cell? ⟨w.heap.size, 3, none⟩ = some (.string S) ∧ W.cell? ⟨w.heap.size, 4, none⟩ = some (.slice pt nt ct) ∧ W.cell? ⟨w.heap.size, 5, none⟩ = some (.slice pn n cn) ∧ W.cell? ⟨w.heap.size, 6, none⟩ = some (.slice pp q cp)) := fun W a => by
  rw [hO] at a
  exact ⟨by rw [Lib.cell_of_heap a]; rfl, by rw [Lib.cell_of_heap a]; rfl, by rw [Lib.cell_of_heap a]; rfl, by rw [Lib.cell_of_heap a]; rfl, by rw [Lib.cell_of_heap a]; rfl, by rw [Lib.cell_of_heap a]; rfl, by rw [Lib.cell_of_heap a]; rfl⟩
 have SH : Hid (Calls Tryz.prog 81 #[.agg #[.int .i64 A, .int .i64 K, .int .i64 N, .string S, .slice pt nt ct, .slice pn n cn, .slice pp q cp]] (w.alloc (.cells #[.int .i64 A, .int .i64 K, .int .i64 N, .string S, .slice pt nt ct, .slice pn n cn, .slice pp q cp] 28)) fun e w' => e = .returned (.bool b1) ∧ Below w.heap.size w w' ∧ w'.heap[w.heap.size]? = some O) := by
  show Calls _ _ _ _ _
  rw [← hO]
  exact (hS _ hb).mono fun e w' ⟨h, hb'⟩ => ⟨h, hb.trans (hb'.mono (by simp)), (hb'.block _ (by simp)).trans (zaj _ _)⟩
 have ST : Hid (∀ W, Below w.heap.size w W → W.heap[w.heap.size]? = some O → Calls Tryz.prog 82 #[.slice pt nt ct, .int .i64 64] W fun e w' => e = .returned (.bool b2) ∧ Below w.heap.size w w' ∧ w'.heap[w.heap.size]? = some O) := fun W hW ho =>
  (hT _ hW).mono fun e w' ⟨h, hb'⟩ => ⟨h, hW.trans (hb'.mono hW.size), (hb'.block _ (Array.getElem?_eq_some_iff.1 ho).1).trans ho⟩
 have HP := za3 hP
 have HB := za3 hb
 rw [hO] at HB
 clear hS hT hP hb
 by_cases hr : room = 0
 ·subst hr
  clear SH ST HP CL hO
  go_enter Tryz.func54, Tryz.ntmps54
  go_wp2
  go_ret
  exact ⟨by simp, za0 HB⟩
 have hrb : (!decide (room = 0)) = true := by simp [hr]
 rw [hrb, Bool.true_and]
 cases b1
 ·go_enter Tryz.func54, Tryz.ntmps54
  go_wp2_with (go_at_call 81; refine (za0 SH).mono ?_; clear SH; rintro x w1 ⟨rfl, hb1, hO1⟩)
  go_ret
  exact ⟨by simp, hb1⟩
 cases b2
 ·go_enter Tryz.func54, Tryz.ntmps54
  go_wp2_with (first
   | (go_at_call 81; refine (za0 SH).mono ?_; clear SH; rintro x w1 ⟨rfl, hb1, hO1⟩; obtain ⟨c0, c1, c2, c3, c4, c5, c6⟩ := za0 CL _ hO1)
   | (go_at_call 82; refine (za0 ST _ hb1 hO1).mono ?_; clear ST; rintro x w2 ⟨rfl, hb2, hO2⟩))
  go_ret
  exact ⟨by simp, hb2⟩
 rw [Bool.true_and, Bool.true_and]
 obtain ⟨F, hF⟩ : ∃ F : Nat → Bool, F = fun i => f i (room - if i = 0 ∧ zea K = true then 0 else 1) := ⟨_, rfl⟩
 rw [← hF]
 have LD := za3 (fun W => zg1 K W)
 have HF := za3 hF
 have HO := za3 hO
 clear hO hF hrb
 go_enter Tryz.func54, Tryz.ntmps54
 go_wp2_with (first
  | (go_at_call 81; refine (za0 SH).mono ?_; clear SH; rintro x w1 ⟨rfl, hb1, hO1⟩; obtain ⟨c0, c1, c2, c3, c4, c5, c6⟩ := za0 CL _ hO1)
  | (go_at_call 82; refine (za0 ST _ hb1 hO1).mono ?_; clear ST; rintro x w2 ⟨rfl, hb2, hO2⟩; obtain ⟨c0, c1, c2, c3, c4, c5, c6⟩ := za0 CL _ hO2))
 have hr0 : (room == 0) = false := beq_eq_false_iff_ne.2 hr
 simp only [hr0]
 go_loopw [24] (fun i wr => ∃ k : Nat, i = .int .i64 k ∧ k ≤ q ∧ Hid (zkq k F = true) ∧ Below w.heap.size w wr ∧ Hid (wr.heap[w.heap.size]? = some O)) (fun i _ => q - (intOf i).toNat)
 case atStart => exact ⟨0, rfl, by omega, rfl, hb2, hO2⟩
 case round =>
  obtain ⟨k, rfl, hk, HM, hbr, HOr⟩ := hrel
  by_cases hlt : k < q
  ·have hlt' : (k : Int) < (q : Int) := by omega
   obtain ⟨g, o, A', K', N', S', p1, p2, p3, n1, n2, n3, d1, d2, d3, rfl, a0, a1, a2, a3, a4, a5, a6, wt⟩ := za0 HP k hlt
   have m0 := (hbr.cell (p := ⟨g, _, none⟩) (za2 a0)).trans a0
   have m1 := (hbr.cell (p := ⟨g, _, none⟩) (za2 a1)).trans a1
   have m2 := (hbr.cell (p := ⟨g, _, none⟩) (za2 a2)).trans a2
   have m3 := (hbr.cell (p := ⟨g, _, none⟩) (za2 a3)).trans a3
   have m4 := (hbr.cell (p := ⟨g, _, none⟩) (za2 a4)).trans a4
   have m5 := (hbr.cell (p := ⟨g, _, none⟩) (za2 a5)).trans a5
   have m6 := (hbr.cell (p := ⟨g, _, none⟩) (za2 a6)).trans a6
   have RX := za3 wt
   have hbo := hbr.size
   have HO1 := za3 (And.intro (za0 CL _ (za0 HOr)).2.1 (zaj wr (.cells #[.int .i64 A', .int .i64 K', .int .i64 N', .string S', .slice p1 n1 d1, .slice p2 n2 d2, .slice p3 n3 d3] 28)))
   have HW := za3 (hbr.alloc hbo (.cells #[.int .i64 A', .int .i64 K', .int .i64 N', .string S', .slice p1 n1 d1, .slice p2 n2 d2, .slice p3 n3 d3] 28))
   have HOa : Hid ((wr.alloc (.cells #[.int .i64 A', .int .i64 K', .int .i64 N', .string S', .slice p1 n1 d1, .slice p2 n2 d2, .slice p3 n3 d3] 28)).heap[w.heap.size]? = some O) := (((Below.refl wr.heap.size wr).alloc (Nat.le_refl _) _).block _ (Array.getElem?_eq_some_iff.1 (za0 HOr)).1).trans (za0 HOr)
   obtain ⟨x0, x1, x2, x3, x4, x5, x6⟩ := za0 CL _ (za0 HOr)
   obtain ⟨y0, y1, y2, y3, y4, y5, y6⟩ := za0 CL _ (za0 HOa)
   have HK : Hid (zkq (k + 1) F = (zkq k F && F k)) := zko k F
   have HN : Hid (F k = false → zkq q F = false) := fun h => allB_no hlt h
   clear a0 a1 a2 a3 a4 a5 a6 wt HP
   have hFk : F k = f k (room - if k = 0 ∧ zea K = true then 0 else 1) := by rw [za0 HF]
   have e1 : IntKind.i64.wrap (room - 1) = room - 1 := by rw [IntKind.wrap_i64]; omega
   by_cases hk0 : k = 0
   ·obtain rfl : k = 0 := hk0
    simp only [Nat.zero_mul, Nat.add_zero] at m0 m1 m2 m3 m4 m5 m6
    by_cases hl : zea K = true
    ·rw [hl] at LD
     rw [if_pos ⟨rfl, hl⟩, Int.sub_zero] at hFk
     clear hl
     obtain ⟨z, hz⟩ : ∃ z, z = f 0 (room) := ⟨_, rfl⟩
     have RC := za3 (za0 RX (room) _ (by omega) (by omega) (za0 HW))
     rw [← hz] at RC hFk
     have HFk := za3 hFk
     clear hz RX hFk
     cases z
     ·go_wp2_with (first | (go_at_call 83; refine (za0 LD _).mono ?_; clear LD; rintro x w4 ⟨rfl, rfl⟩) | (go_at_call 54; refine (za0 RC).mono ?_; clear RC; rintro x w3 ⟨rfl, hb3⟩; have HO3 := (hb3.block _ (Array.getElem?_eq_some_iff.1 (za0 HOa)).1).trans (za0 HOa)))
      go_ret
      exact ⟨by rw [za0 HN (za0 HFk)]; rfl, (za0 HW).trans (hb3.mono (by simp; omega))⟩
     ·go_wp2_with (first | (go_at_call 83; refine (za0 LD _).mono ?_; clear LD; rintro x w4 ⟨rfl, rfl⟩) | (go_at_call 54; refine (za0 RC).mono ?_; clear RC; rintro x w3 ⟨rfl, hb3⟩; have HO3 := (hb3.block _ (Array.getElem?_eq_some_iff.1 (za0 HOa)).1).trans (za0 HOa)))
      go_roundw
      case rel => exact ⟨1, by go_num, by omega, (by rw [za0 HK, za0 HM, za0 HFk]; rfl), (za0 HW).trans (hb3.mono (by simp; omega)), HO3⟩
      case measure => simp [intOf]; omega
    ·have hl := (Bool.not_eq_true _).mp hl
     rw [hl] at LD
     rw [if_neg (by rw [hl]; simp)] at hFk
     clear hl
     obtain ⟨z, hz⟩ : ∃ z, z = f 0 (room - 1) := ⟨_, rfl⟩
     have RC := za3 (za0 RX (room - 1) _ (by omega) (by omega) (za0 HW))
     rw [← hz] at RC hFk
     have HFk := za3 hFk
     clear hz RX hFk
     cases z
     ·go_wp2_with (first | (go_at_call 83; refine (za0 LD _).mono ?_; clear LD; rintro x w4 ⟨rfl, rfl⟩) | (go_at_call 54; refine (za0 RC).mono ?_; clear RC; rintro x w3 ⟨rfl, hb3⟩; have HO3 := (hb3.block _ (Array.getElem?_eq_some_iff.1 (za0 HOa)).1).trans (za0 HOa)))
      go_ret
      exact ⟨by rw [za0 HN (za0 HFk)]; rfl, (za0 HW).trans (hb3.mono (by simp; omega))⟩
     ·go_wp2_with (first | (go_at_call 83; refine (za0 LD _).mono ?_; clear LD; rintro x w4 ⟨rfl, rfl⟩) | (go_at_call 54; refine (za0 RC).mono ?_; clear RC; rintro x w3 ⟨rfl, hb3⟩; have HO3 := (hb3.block _ (Array.getElem?_eq_some_iff.1 (za0 HOa)).1).trans (za0 HOa)))
      go_roundw
      case rel => exact ⟨1, by go_num, by omega, (by rw [za0 HK, za0 HM, za0 HFk]; rfl), (za0 HW).trans (hb3.mono (by simp; omega)), HO3⟩
      case measure => simp [intOf]; omega
   ·have hk0' : ¬ (k : Int) = 0 := by omega
    rw [if_neg (fun h => hk0 h.1)] at hFk
    obtain ⟨z, hz⟩ : ∃ z, z = f k (room - 1) := ⟨_, rfl⟩
    have RC := za3 (za0 RX (room - 1) _ (by omega) (by omega) (za0 HW))
    rw [← hz] at RC hFk
    have HFk := za3 hFk
    clear hz RX hFk
    cases z
    ·go_wp2_with ((go_at_call 54; refine (za0 RC).mono ?_; clear RC; rintro x w3 ⟨rfl, hb3⟩; have HO3 := (hb3.block _ (Array.getElem?_eq_some_iff.1 (za0 HOa)).1).trans (za0 HOa)))
     go_ret
     exact ⟨by rw [za0 HN (za0 HFk)]; rfl, (za0 HW).trans (hb3.mono (by simp; omega))⟩
    ·go_wp2_with ((go_at_call 54; refine (za0 RC).mono ?_; clear RC; rintro x w3 ⟨rfl, hb3⟩; have HO3 := (hb3.block _ (Array.getElem?_eq_some_iff.1 (za0 HOa)).1).trans (za0 HOa)))
     go_roundw
     case rel => exact ⟨k + 1, by go_num, by omega, (by rw [za0 HK, za0 HM, za0 HFk]; rfl), (za0 HW).trans (hb3.mono (by simp; omega)), HO3⟩
     case measure => simp [intOf]; omega
  ·obtain rfl : k = q := by omega
   go_wp2
   go_ret
   exact ⟨by rw [za0 HM]; rfl, hbr⟩
theorem zfl (D : Nat) : ∀ d, RightXAt D d
 | 0 => fun v x room w hv hs _ h0 h1 ht h5 => by
  obtain ⟨pt, pn, pp, ct, cn, cp, rfl, r1, r2, r3⟩ := id hv
  have hq : xPs x = [] := by
   rcases hx : xPs x with _ | ⟨y, _⟩
   ·rfl
   ·exact nomatch y
  exact (zif _ _ _ _ pt pn pp _ _ _ ct cn cp room w hs.2.2.2.2.2.1 h0 h1 _ _ (fun i r => ((xPs x)[i]?.map (zbi D 0 r)).getD true) (fun W hW => zh3 D 0 _ x W (hv.below hW) hs (ht.below hW h5) (by have := hW.size; omega))
   (fun W hW => zd7 D _ _ 64 W (TyRow.below hW D r1) hs.2.2.1 (by omega) (by omega) (ht.below hW h5) (by have := hW.size; omega)) (fun k hk => by rw [hq] at hk; simp at hk)).mono fun e w' h => h
 | d + 1 => fun v x room w hv hs hf h0 h1 ht h5 => by
  obtain ⟨pt, pn, pp, ct, cn, cp, rfl, r1, r2, r3⟩ := id hv
  refine (zif _ _ _ _ pt pn pp _ _ _ ct cn cp room w hs.2.2.2.2.2.1 h0 h1 _ _ (fun i r => ((xPs x)[i]?.map (zbi D (d + 1) r)).getD true) (fun W hW => zh3 D (d + 1) _ x W (hv.below hW) hs (ht.below hW h5) (by have := hW.size; omega))
   (fun W hW => zd7 D _ _ 64 W (TyRow.below hW D r1) hs.2.2.1 (by omega) (by omega) (ht.below hW h5) (by have := hW.size; omega)) (fun k hk => ?_)).mono fun e w' h => h
  obtain ⟨p, c, e, hp⟩ := r3
  injection e with e1 e2 e3
  subst e1
  have hk' : (xPs x)[k]? = some (xPs x)[k] := by simp
  obtain ⟨g, o, vt, vn, vp, rfl, a0, a1, a2, a3, a4, a5, a6, q1, q2, q3⟩ := hp k _ hk'
  obtain ⟨f1, f2⟩ := hf.2 _ (List.mem_of_getElem? hk')
  obtain ⟨p1, c1, rfl⟩ := q1.slice
  obtain ⟨p2, c2, rfl, h2⟩ := q2
  obtain ⟨p3, c3, rfl⟩ := q3.slice
  refine ⟨g, o, _, _, _, _, _, _, _, _, _, _, _, _, _, rfl, a0, a1, a2, a3, a4, a5, a6, fun r W hr0 hr1 hW => ?_⟩
  rw [hk']
  exact zfl D d _ _ r W (ExVal.below (w := w) ⟨p1, p2, p3, c1, c2, c3, rfl, q1, ⟨p2, c2, rfl, h2⟩, q3⟩ hW) f1 f2 hr0 hr1 (ht.below hW h5) (by have := hW.size; omega)
end Go.Proofs.YtmpbbmfbgcpplaaGreatDoor
