import Derived.Test.YtmpbbmfbgcpplaaGreatDoorQTypedG
import Derived.Test.YtmpbbmfbgcpplaaGreatDoorQXRef
import Derived.Test.YtmpbbmfbgcpplaaGreatDoorQSizeG
import Derived.Test.YtmpbbmfbgcpplaaGreatDoorQRefC
set_option maxHeartbeats 1000000
set_option maxRecDepth 100000
namespace Go.Proofs.YtmpbbmfbgcpplaaGreatDoor
open Go Go.RowKit Lx
theorem zj0 (K : Int) (w : World) (h1 : 1 ≤ K) (h2 : K ≤ 21) : Calls Tryz.prog 52 #[.int .i64 K] w fun e w' => e = .returned (.int .i64 (zbj K)) ∧ w = w' := by
 rcases kinds h1 h2 with h | h | h | h | h | h | h | h | h | h | h | h | h | h | h | h | h | h | h | h | h
 all_goals
  subst h
  go_enter Tryz.func52, Tryz.ntmps52
  go_wp2
  go_ret
  exact ⟨rfl, rfl⟩
def signS (K : Int) : Bs := if K = 15 then [42] else if K = 16 then [43] else if K = 17 then [45] else if K = 18 then [61, 61] else if K = 19 then [60] else if K = 20 then [97, 110, 100] else [111, 114]
theorem rsign_any (K : Int) (w : World) (h1 : 15 ≤ K) (h2 : K ≤ 21) : Calls Tryz.prog 53 #[.int .i64 K] w fun e w' => e = .returned (.string ⟨(signS K).toArray⟩) ∧ w = w' := by
 have hk : K = 15 ∨ K = 16 ∨ K = 17 ∨ K = 18 ∨ K = 19 ∨ K = 20 ∨ K = 21 := by omega
 rcases hk with h | h | h | h | h | h | h
 all_goals
  subst h
  go_enter Tryz.func53, Tryz.ntmps53
  go_wp2
  go_ret
  exact ⟨rfl, rfl⟩
theorem sign_text {K : Int} (h1 : 15 ≤ K) (h2 : K ≤ 21) : (zja K).map za5 = [signS K] := by
 have hk : K = 15 ∨ K = 16 ∨ K = 17 ∨ K = 18 ∨ K = 19 ∨ K = 20 ∨ K = 21 := by omega
 rcases hk with h | h | h | h | h | h | h <;> subst h <;> decide +kernel
def zeb (L : List Bs) : List Bs := ([40] :: L) ++ [[41]]
def zdp (K a : Int) (L : List Bs) : List Bs := if zbj K < a then zeb L else L
theorem aside {L : List Bs} {w W w1 : World} {g0 : Nat} {u : Value} (hb : Below w.heap.size w W) (hg : g0 = W.heap.size) (hu : W.ownsRow w.heap.size 9 1 u L.length (zcg L)) (hp : 0 < L.length) (hl : L.length ≤ 900000) (he : w1 = W.alloc (.cells #[.string ⟨#[40]⟩] 9)) :
  ∃ (v : Value) (W4 : World), (Builtin.append_ #[25, 25] 25 #[.slice (some ⟨g0, 0, none⟩) 1 1, u]).run Tryz.prog w1 = .ok v W4 ∧
   ∃ (v2 : Value) (W5 : World), (Builtin.append_ #[25, 25] 25 #[v, .slice (some ⟨W4.heap.size, 0, none⟩) 1 1]).run Tryz.prog (W4.alloc (.cells #[.string ⟨#[41]⟩] 9)) = .ok v2 W5 ∧ W5.ownsRow w.heap.size 9 1 v2 (zeb L).length (zcg (zeb L)) ∧ Below w.heap.size w W5 := by
 subst hg he
 have hbw : Below w.heap.size w (W.alloc (.cells #[.string ⟨#[40]⟩] 9)) := bon hb (al1 _ _)
 obtain ⟨g2, cp2, rfl⟩ := zbe hu hp
 have h1 := (zee W [40]).mono hb.size
 obtain ⟨g3, cp3, W5, E2, hL2⟩ := Left.appends h1 hbw.size (by simp; omega) hp (SRow.of_owns (hu.alloc _))
 have hb5 := hbw.trans hL2.2.1
 have h3 : W5.ownsRow w.heap.size 9 1 (.slice (some ⟨g3, 0, none⟩) ([[40]].length + L.length) cp3) ([40] :: L).length (zcg ([40] :: L)) := hL2.1
 obtain ⟨g4, cp4, W6, E3, hL3⟩ := Left.append (s := [41]) h3 hb5.size (by simp; omega)
 exact ⟨_, W5, E2, _, W6, E3, by simpa [zeb] using hL3.1, hb5.trans hL3.2.1⟩
theorem at_any (A K N : Int) (S : ByteArray) (pt pn pp : Option Addr) (nt nn np ct cn cp : Nat) (a : Int) (L : List Bs) (w : World) (k1 : 1 ≤ K) (k2 : K ≤ 21) (hp : 0 < L.length) (hl : L.length ≤ 900000)
  (CL : ∀ W, Below w.heap.size w W → Leaves 10 #[.agg #[.int .i64 A, .int .i64 K, .int .i64 N, .string S, .slice pt nt ct, .slice pn nn cn, .slice pp np cp]] W L) :
  Leaves 50 #[.agg #[.int .i64 A, .int .i64 K, .int .i64 N, .string S, .slice pt nt ct, .slice pn nn cn, .slice pp np cp], .int .i64 a] w (zdp K a L) := by
 have hb0 : Below w.heap.size w (w.alloc (zbm A K N S pt pn pp nt nn np ct cn cp)) := al1 _ _
 have HC := za3 (CL _ hb0)
 have HB := za3 hb0
 have LV := za3 (fun W => zj0 K W k1 k2)
 obtain ⟨M, hM⟩ : ∃ M, M = zdp K a L := ⟨_, rfl⟩
 rw [← hM]
 have HM := za3 hM
 clear CL hb0 hM
 obtain ⟨lv, hlv⟩ : ∃ lv, lv = zbj K := ⟨_, rfl⟩
 rw [← hlv] at LV
 by_cases hlt : lv < a
 ·have HM2 : Hid (M = zeb L) := by show _ = _; rw [za0 HM, zdp, if_pos (by rw [← hlv]; exact hlt)]
  clear HM hlv
  go_enter Tryz.func50, Tryz.ntmps50
  go_wp2_with fail
  refine (za0 HC).mono ?_
  rintro x w1 ⟨⟨u1, rfl, hu1⟩, hb1⟩
  obtain ⟨d0, d1, d2, d3, d4, d5, d6⟩ := zam hb1
  obtain ⟨g2, cp2, rfl⟩ := zbe hu1 hp
  have hbw := bon (za0 HB) hb1
  obtain ⟨v2, W4, E2, v3, W5, E3, ho5, hb5⟩ := aside (g0 := w1.heap.size) hbw rfl (hu1.mono (za0 HB).size) hp hl rfl
  have HE2 := za3 E2
  have HE3 := za3 E3
  clear E2 E3 HC hbw
  go_wp2_with (first
   | (go_at_call 52; refine (za0 LV _).mono ?_; clear LV; rintro x w9 ⟨rfl, rfl⟩)
   | (at_builtin; refine za4 rfl (.tmp 13) (.tmp 14) 25 rfl rfl rfl (za0 HE2) ?_; clear HE2)
   | (at_builtin; refine za4 rfl (.tmp 15) (.tmp 16) 25 rfl rfl rfl (za0 HE3) ?_; clear HE3))
  go_ret
  exact ⟨⟨_, rfl, by rw [za0 HM2]; exact ho5⟩, hb5⟩
 ·have HM2 : Hid (M = L) := by show _ = _; rw [za0 HM, zdp, if_neg (by rw [← hlv]; exact hlt)]
  clear HM hlv
  go_enter Tryz.func50, Tryz.ntmps50
  go_wp2_with fail
  refine (za0 HC).mono ?_
  rintro x w1 ⟨⟨u1, rfl, hu1⟩, hb1⟩
  obtain ⟨d0, d1, d2, d3, d4, d5, d6⟩ := zam hb1
  obtain ⟨g2, cp2, rfl⟩ := zbe hu1 hp
  have hbw := bon (za0 HB) hb1
  have ho5 := hu1.mono (za0 HB).size
  clear HC
  go_wp2_with (go_at_call 52; refine (za0 LV _).mono ?_; clear LV; rintro x w9 ⟨rfl, rfl⟩)
  go_ret
  exact ⟨⟨_, rfl, by rw [za0 HM2]; exact ho5⟩, hbw⟩
def zjb (L : Nat → List Bs) (k : Nat) : List Bs := [40] :: ((List.range k).flatMap fun i => (if 0 < i then [[44]] else []) ++ L i)
theorem zjv (L : Nat → List Bs) (k : Nat) : zjb L (k + 1) = zjb L k ++ (if 0 < k then [[44]] else []) ++ L k := by
 unfold zjb
 rw [List.range_succ, List.flatMap_append, List.flatMap_cons, List.flatMap_nil, List.append_nil, List.cons_append, List.cons_append, List.append_assoc]
theorem argS_le (L : Nat → List Bs) {k n : Nat} (h : k ≤ n) : (zjb L k).length ≤ (zjb L n).length := by
 induction n with
 | zero => rw [Nat.le_zero.1 h]; exact Nat.le_refl _
 | succ n ih =>
  rcases Nat.eq_or_lt_of_le h with e | e
  ·rw [e]; exact Nat.le_refl _
  ·have := ih (by omega)
   rw [zjv, List.length_append, List.length_append]; omega
theorem rargs_any (p : Option Addr) (n c : Nat) (L : Nat → List Bs) (w : World) (hn : n ≤ 100000) (hl : (zjb L n).length ≤ 400000)
  (HV0 : ∀ k, k < n → ∃ u, ExCell w p k u ∧ 0 < (L k).length ∧ ∀ W, Below w.heap.size w W → Leaves 10 #[u] W (L k)) :
  Leaves 51 #[.slice p n c] w (zjb L n ++ [[41]]) := by
 have HV := za3 HV0
 have HL := za3 (fun k (h : k ≤ n) => argS_le L h)
 clear HV0
 go_enter Tryz.func51, Tryz.ntmps51
 go_wp2
 go_loopw [3, 4] (fun o i wr => ∃ (k : Nat) (vo : Value), i = .int .i64 k ∧ o = vo ∧ k ≤ n ∧ Hid (wr.ownsRow w.heap.size 9 1 vo (zjb L k).length (zcg (zjb L k)) ∧ Below w.heap.size w wr)) (fun _ i _ => n - (intOf i).toNat)
 case atStart => exact ⟨0, _, rfl, rfl, by omega, zee w [40], (Below.refl _ _).alloc (Nat.le_refl _) _⟩
 case round =>
  obtain ⟨k, vo, rfl, rfl, hk, HO⟩ := hrel
  obtain ⟨ho, hb⟩ := za0 HO
  obtain ⟨pv, cv, rfl, _⟩ := zaq ho
  have hl1 := za0 HL k hk
  by_cases hlt : k < n
  ·have hlt' : (k : Int) < (n : Int) := by omega
   have hl2 := za0 HL (k + 1) hlt
   obtain ⟨u, ⟨g, o, A', K', N', S', qn, qe, q3, n1, c1, n2, c2, n3, c3, rfl, rfl, a0, a1, a2, a3, a4, a5, a6⟩, hpos, HI⟩ := za0 HV k hlt
   have HSS := za3 (zjv L k)
   have hls : (zjb L (k + 1)).length = (zjb L k).length + (if 0 < k then 1 else 0) + (L k).length := by
    rw [zjv, List.length_append, List.length_append]
    split <;> rfl
   by_cases hk0 : 0 < k
   ·have hk0' : 0 < (k : Int) := by omega
    rw [if_pos hk0] at hls
    obtain ⟨g1, cp1, W4, E, hL1⟩ := Left.append (s := [44]) ho (by have := hb.size; omega) (by omega)
    have HE := za3 E
    have HOW := za3 hL1.1
    have HBW := za3 (hb.trans hL1.2.1)
    have b0 := ((za0 HBW).cell (p := ⟨g, _, none⟩) (za2 a0)).trans a0
    have b1 := ((za0 HBW).cell (p := ⟨g, _, none⟩) (za2 a1)).trans a1
    have b2 := ((za0 HBW).cell (p := ⟨g, _, none⟩) (za2 a2)).trans a2
    have b3 := ((za0 HBW).cell (p := ⟨g, _, none⟩) (za2 a3)).trans a3
    have b4 := ((za0 HBW).cell (p := ⟨g, _, none⟩) (za2 a4)).trans a4
    have b5 := ((za0 HBW).cell (p := ⟨g, _, none⟩) (za2 a5)).trans a5
    have b6 := ((za0 HBW).cell (p := ⟨g, _, none⟩) (za2 a6)).trans a6
    have CL := za3 (HI W4 (za0 HBW))
    have hl3 : (zjb L k ++ [[44]]).length + (L k).length ≤ 1000000 := by simp; omega
    have HPO := za3 hpos
    have HL3 := za3 hl3
    rw [if_pos hk0] at HSS
    clear E hL1 a0 a1 a2 a3 a4 a5 a6 HI ho hk0 HO hls hl1 hl2 hpos hl3
    go_wp2_with (first
     | (at_builtin; refine za4 rfl (.tmp 14) (.tmp 15) 25 rfl rfl rfl (za0 HE) ?_; clear HE)
     | (go_at_call 10; refine (za0 CL).mono ?_; clear CL; rintro x w1 ⟨⟨u1, rfl, hu1⟩, hb1⟩; obtain ⟨g2, cp2, rfl⟩ := zbe hu1 (za0 HPO); obtain ⟨g3, cp3, W5, E2, hL2⟩ := Left.appends ((za0 HOW).kept (zaa hb1) (zbw _)) (by have := (za0 HBW).size; have := hb1.size; omega) (za0 HL3) (za0 HPO) (SRow.of_owns hu1); have HE2 := za3 E2)
     | (at_builtin; refine za4 rfl (.tmp 17) (.tmp 22) 25 rfl rfl rfl (za0 HE2) ?_; clear HE2))
    go_roundw
    case rel => exact ⟨k + 1, _, by go_num, rfl, by omega, ⟨(by rw [za0 HSS]; simpa using hL2.1), ((za0 HBW).trans (hb1.mono (za0 HBW).size)).trans hL2.2.1⟩⟩
    case measure => simp [intOf]; omega
   ·have hk0' : (k : Int) ≤ 0 := by omega
    have HOW := za3 ho
    have HBW := za3 hb
    rw [if_neg hk0] at hls
    have b0 := ((za0 HBW).cell (p := ⟨g, _, none⟩) (za2 a0)).trans a0
    have b1 := ((za0 HBW).cell (p := ⟨g, _, none⟩) (za2 a1)).trans a1
    have b2 := ((za0 HBW).cell (p := ⟨g, _, none⟩) (za2 a2)).trans a2
    have b3 := ((za0 HBW).cell (p := ⟨g, _, none⟩) (za2 a3)).trans a3
    have b4 := ((za0 HBW).cell (p := ⟨g, _, none⟩) (za2 a4)).trans a4
    have b5 := ((za0 HBW).cell (p := ⟨g, _, none⟩) (za2 a5)).trans a5
    have b6 := ((za0 HBW).cell (p := ⟨g, _, none⟩) (za2 a6)).trans a6
    have CL := za3 (HI wr (za0 HBW))
    have HPO := za3 hpos
    have HL3 : Hid ((zjb L k).length + (L k).length ≤ 1000000) := by show _ ≤ _; omega
    rw [if_neg hk0, List.append_nil] at HSS
    clear a0 a1 a2 a3 a4 a5 a6 HI ho hk0 HO hls hl1 hl2 hpos
    go_wp2_with (first
     | (go_at_call 10; refine (za0 CL).mono ?_; clear CL; rintro x w1 ⟨⟨u1, rfl, hu1⟩, hb1⟩; obtain ⟨g2, cp2, rfl⟩ := zbe hu1 (za0 HPO); obtain ⟨g3, cp3, W5, E2, hL2⟩ := Left.appends ((za0 HOW).kept (zaa hb1) (zbw _)) (by have := (za0 HBW).size; have := hb1.size; omega) (za0 HL3) (za0 HPO) (SRow.of_owns hu1); have HE2 := za3 E2)
     | (at_builtin; refine za4 rfl (.tmp 17) (.tmp 22) 25 rfl rfl rfl (za0 HE2) ?_; clear HE2))
    go_roundw
    case rel => exact ⟨k + 1, _, by go_num, rfl, by omega, ⟨(by rw [za0 HSS]; simpa using hL2.1), ((za0 HBW).trans (hb1.mono (za0 HBW).size)).trans hL2.2.1⟩⟩
    case measure => simp [intOf]; omega
  ·obtain rfl : k = n := by omega
   have hlt' : ¬ (k : Int) < (k : Int) := by omega
   obtain ⟨g1, cp1, W4, E, hL1⟩ := Left.append (s := [41]) ho (by have := hb.size; omega) (by omega)
   have HE := za3 E
   have hb4 := hb.trans hL1.2.1
   have ho4 := hL1.1
   clear E hL1 ho HO hl1 HV HL
   go_wp2_with (at_builtin; refine za4 rfl (.tmp 24) (.tmp 25) 25 rfl rfl rfl (za0 HE) ?_; clear HE)
   go_ret
   exact ⟨⟨_, rfl, by simpa using ho4⟩, hb4⟩
abbrev zdh (A K N : Int) (S : ByteArray) (pt pn pp : Option Addr) (nt nn np ct cn cp : Nat) (w : World) (L : List Bs) : Prop :=
 Leaves 10 #[.agg #[.int .i64 A, .int .i64 K, .int .i64 N, .string S, .slice pt nt ct, .slice pn nn cn, .slice pp np cp]] w L
theorem owns_at {w W : World} (hb : Below w.heap.size w W) (s : Bs) (g : Nat) (hg : g = W.heap.size) : (W.alloc (.cells #[.string ⟨s.toArray⟩] 9)).ownsRow w.heap.size 9 1 (.slice (some ⟨g, 0, none⟩) 1 1) [s].length (zcg [s]) := by
 subst hg
 exact (zee W s).mono hb.size
theorem tolds_4 (A N : Int) (S : Bs) (pt pn pp : Option Addr) (nt nn np ct cn cp : Nat) (w : World) : zdh A 4 N ⟨S.toArray⟩ pt pn pp nt nn np ct cn cp w [S] := by
 have HO := za3 (zdl w (zbm A 4 N ⟨S.toArray⟩ pt pn pp nt nn np ct cn cp) S)
 go_enter Tryz.func10, Tryz.ntmps10
 go_wp2
 go_ret
 exact ⟨⟨_, rfl, za0 HO⟩, al2 _ _ _⟩
theorem tolds_5 (A N : Int) (S : ByteArray) (pt pn pp : Option Addr) (nt nn np ct cn cp : Nat) (w : World) : zdh A 5 N S pt pn pp nt nn np ct cn cp w [[115, 101, 108, 102]] := by
 have HO := za3 (zdl w (zbm A 5 N S pt pn pp nt nn np ct cn cp) [115, 101, 108, 102])
 go_enter Tryz.func10, Tryz.ntmps10
 go_wp2
 go_ret
 exact ⟨⟨_, rfl, za0 HO⟩, al2 _ _ _⟩
theorem tolds_3t (A : Int) (S : ByteArray) (pt pn pp : Option Addr) (nt nn np ct cn cp : Nat) (w : World) : zdh A 3 1 S pt pn pp nt nn np ct cn cp w [[116, 114, 117, 101]] := by
 have HO := za3 (zdl w (zbm A 3 1 S pt pn pp nt nn np ct cn cp) [116, 114, 117, 101])
 go_enter Tryz.func10, Tryz.ntmps10
 go_wp2
 go_ret
 exact ⟨⟨_, rfl, za0 HO⟩, al2 _ _ _⟩
theorem tolds_3f (A : Int) (S : ByteArray) (pt pn pp : Option Addr) (nt nn np ct cn cp : Nat) (w : World) : zdh A 3 0 S pt pn pp nt nn np ct cn cp w [[102, 97, 108, 115, 101]] := by
 have HO := za3 (zdl w (zbm A 3 0 S pt pn pp nt nn np ct cn cp) [102, 97, 108, 115, 101])
 go_enter Tryz.func10, Tryz.ntmps10
 go_wp2
 go_ret
 exact ⟨⟨_, rfl, za0 HO⟩, al2 _ _ _⟩
theorem tolds_1 (A : Int) (n : Nat) (S : ByteArray) (pt pn pp : Option Addr) (nt nn np ct cn cp : Nat) (w : World) (hn : n ≤ 9223372036854775807) : zdh A 1 (n : Int) S pt pn pp nt nn np ct cn cp w [Lib.decDigits n] := by
 have hb0 : Below w.heap.size w (w.alloc (zbm A 1 (n : Int) S pt pn pp nt nn np ct cn cp)) := al1 _ _
 have HB := za3 hb0
 have DG := za3 (Digits_any n hn (w.alloc (zbm A 1 (n : Int) S pt pn pp nt nn np ct cn cp)))
 generalize Lib.decDigits n = ds at DG ⊢
 clear hb0 hn
 go_enter Tryz.func10, Tryz.ntmps10
 go_wp2_with fail
 refine (za0 DG).mono ?_
 rintro _ w1 ⟨rfl, hb1⟩
 have hbw := bon (za0 HB) hb1
 have HO := za3 (owns_at hbw ds w1.heap.size rfl)
 have HB2 := za3 (bon hbw (al1 w1 (.cells #[.string ⟨ds.toArray⟩] 9)))
 clear hbw hb1 DG HB
 go_wp2_with fail
 go_ret
 exact ⟨⟨_, rfl, za0 HO⟩, za0 HB2⟩
theorem tolds_2 (A N : Int) (S : Bs) (pt pn pp : Option Addr) (nt nn np ct cn cp : Nat) (w : World) (hs : S.length ≤ 60000) : zdh A 2 N ⟨S.toArray⟩ pt pn pp nt nn np ct cn cp w [quote S] := by
 have QU : Hid (∀ W, Calls Tryz.prog 48 #[.string ⟨S.toArray⟩] W fun e w' => e = .returned (.string ⟨(quote S).toArray⟩) ∧ W = w') := fun W => by
  have := rQuote_any ⟨S.toArray⟩ W (by show S.toArray.size ≤ _; simp; omega)
  simpa using this
 have HO := za3 (zdl w (zbm A 2 N ⟨S.toArray⟩ pt pn pp nt nn np ct cn cp) (quote S))
 generalize quote S = ds at QU HO ⊢
 go_enter Tryz.func10, Tryz.ntmps10
 go_wp2_with fail
 refine (za0 QU _).mono ?_
 rintro _ w1 ⟨rfl, rfl⟩
 go_wp2_with fail
 go_ret
 exact ⟨⟨_, rfl, za0 HO⟩, al2 _ _ _⟩
theorem tolds_13 (A N : Int) (S : ByteArray) (pt pn : Option Addr) (nt nn ct cn cp : Nat) (w : World) (g o : Nat) (L : List Bs) (A' K' N' : Int) (S' : ByteArray) (qn qe q3 : Option Addr) (n1 c1 n2 c2 n3 c3 : Nat) (hp : 0 < L.length) (hl : L.length ≤ 900000)
  (a0 : w.cell? ⟨g, o, none⟩ = some (.int .i64 A')) (a1 : w.cell? ⟨g, o + 1, none⟩ = some (.int .i64 K')) (a2 : w.cell? ⟨g, o + 2, none⟩ = some (.int .i64 N')) (a3 : w.cell? ⟨g, o + 3, none⟩ = some (.string S')) (a4 : w.cell? ⟨g, o + 4, none⟩ = some (.slice qn n1 c1)) (a5 : w.cell? ⟨g, o + 5, none⟩ = some (.slice qe n2 c2)) (a6 : w.cell? ⟨g, o + 6, none⟩ = some (.slice q3 n3 c3))
  (CL : ∀ W, Below w.heap.size w W → Leaves 50 #[.agg #[.int .i64 A', .int .i64 K', .int .i64 N', .string S', .slice qn n1 c1, .slice qe n2 c2, .slice q3 n3 c3], .int .i64 6] W L) :
  zdh A 13 N S pt pn (some ⟨g, o, none⟩) nt nn 1 ct cn cp w ([45] :: L) := by
 have hg := za2 a0
 have hb0 : Below w.heap.size w (w.alloc (zbm A 13 N S pt pn (some ⟨g, o, none⟩) nt nn 1 ct cn cp)) := al1 _ _
 have hb2 : Below w.heap.size w ((w.alloc (zbm A 13 N S pt pn (some ⟨g, o, none⟩) nt nn 1 ct cn cp)).alloc (.cells #[.string ⟨#[45]⟩] 9)) := al2 _ _ _
 have e0 := (hb2.cell (p := ⟨g, _, none⟩) hg).trans a0
 have e1 := (hb2.cell (p := ⟨g, _, none⟩) hg).trans a1
 have e2 := (hb2.cell (p := ⟨g, _, none⟩) hg).trans a2
 have e3 := (hb2.cell (p := ⟨g, _, none⟩) hg).trans a3
 have e4 := (hb2.cell (p := ⟨g, _, none⟩) hg).trans a4
 have e5 := (hb2.cell (p := ⟨g, _, none⟩) hg).trans a5
 have e6 := (hb2.cell (p := ⟨g, _, none⟩) hg).trans a6
 have HC := za3 (CL _ hb2)
 have HB := za3 hb0
 clear CL a0 a1 a2 a3 a4 a5 a6 hb0 hb2
 go_enter Tryz.func10, Tryz.ntmps10
 go_wp2_with (first
  | (go_at_call 50; refine (za0 HC).mono ?_; clear HC; rintro x w1 ⟨⟨u1, rfl, hu1⟩, hb1⟩; obtain ⟨v2, W4, E2, ho4, hb4⟩ := ahead (s := [45]) (g0 := w.heap.size + 1) (za0 HB) (by simp) hb1 hu1 hp hl; have HE2 := za3 E2)
  | (at_builtin; refine za4 rfl (.tmp 158) (.tmp 163) 25 rfl rfl rfl (za0 HE2) ?_; clear HE2))
 go_ret
 exact ⟨⟨_, rfl, ho4⟩, hb4⟩
theorem tolds_14 (A N : Int) (S : ByteArray) (pt pn : Option Addr) (nt nn ct cn cp : Nat) (w : World) (g o : Nat) (L : List Bs) (A' K' N' : Int) (S' : ByteArray) (qn qe q3 : Option Addr) (n1 c1 n2 c2 n3 c3 : Nat) (hp : 0 < L.length) (hl : L.length ≤ 900000)
  (a0 : w.cell? ⟨g, o, none⟩ = some (.int .i64 A')) (a1 : w.cell? ⟨g, o + 1, none⟩ = some (.int .i64 K')) (a2 : w.cell? ⟨g, o + 2, none⟩ = some (.int .i64 N')) (a3 : w.cell? ⟨g, o + 3, none⟩ = some (.string S')) (a4 : w.cell? ⟨g, o + 4, none⟩ = some (.slice qn n1 c1)) (a5 : w.cell? ⟨g, o + 5, none⟩ = some (.slice qe n2 c2)) (a6 : w.cell? ⟨g, o + 6, none⟩ = some (.slice q3 n3 c3))
  (CL : ∀ W, Below w.heap.size w W → Leaves 50 #[.agg #[.int .i64 A', .int .i64 K', .int .i64 N', .string S', .slice qn n1 c1, .slice qe n2 c2, .slice q3 n3 c3], .int .i64 6] W L) :
  zdh A 14 N S pt pn (some ⟨g, o, none⟩) nt nn 1 ct cn cp w ([110, 111, 116] :: L) := by
 have hg := za2 a0
 have hb0 : Below w.heap.size w (w.alloc (zbm A 14 N S pt pn (some ⟨g, o, none⟩) nt nn 1 ct cn cp)) := al1 _ _
 have hb2 : Below w.heap.size w ((w.alloc (zbm A 14 N S pt pn (some ⟨g, o, none⟩) nt nn 1 ct cn cp)).alloc (.cells #[.string ⟨#[110, 111, 116]⟩] 9)) := al2 _ _ _
 have e0 := (hb2.cell (p := ⟨g, _, none⟩) hg).trans a0
 have e1 := (hb2.cell (p := ⟨g, _, none⟩) hg).trans a1
 have e2 := (hb2.cell (p := ⟨g, _, none⟩) hg).trans a2
 have e3 := (hb2.cell (p := ⟨g, _, none⟩) hg).trans a3
 have e4 := (hb2.cell (p := ⟨g, _, none⟩) hg).trans a4
 have e5 := (hb2.cell (p := ⟨g, _, none⟩) hg).trans a5
 have e6 := (hb2.cell (p := ⟨g, _, none⟩) hg).trans a6
 have HC := za3 (CL _ hb2)
 have HB := za3 hb0
 clear CL a0 a1 a2 a3 a4 a5 a6 hb0 hb2
 go_enter Tryz.func10, Tryz.ntmps10
 go_wp2_with (first
  | (go_at_call 50; refine (za0 HC).mono ?_; clear HC; rintro x w1 ⟨⟨u1, rfl, hu1⟩, hb1⟩; obtain ⟨v2, W4, E2, ho4, hb4⟩ := ahead (s := [110, 111, 116]) (g0 := w.heap.size + 1) (za0 HB) (by simp) hb1 hu1 hp hl; have HE2 := za3 E2)
  | (at_builtin; refine za4 rfl (.tmp 167) (.tmp 172) 25 rfl rfl rfl (za0 HE2) ?_; clear HE2))
 go_ret
 exact ⟨⟨_, rfl, ho4⟩, hb4⟩
theorem tolds_6 (A N : Int) (S : ByteArray) (pn pp : Option Addr) (nn np ct cn cp : Nat) (w : World) (g o : Nat) (L : List Bs) (K' : Int) (S' : ByteArray) (qn qe q3 : Option Addr) (n1 c1 n2 c2 n3 c3 : Nat) (hp : 0 < L.length) (hl : L.length ≤ 900000)
  (a0 : w.cell? ⟨g, o, none⟩ = some (.int .i64 K')) (a1 : w.cell? ⟨g, o + 1, none⟩ = some (.string S')) (a2 : w.cell? ⟨g, o + 2, none⟩ = some (.slice qn n1 c1)) (a3 : w.cell? ⟨g, o + 3, none⟩ = some (.slice qe n2 c2)) (a4 : w.cell? ⟨g, o + 4, none⟩ = some (.slice q3 n3 c3))
  (CL : ∀ W, Below w.heap.size w W → Leaves 49 #[.agg #[.int .i64 K', .string S', .slice qn n1 c1, .slice qe n2 c2, .slice q3 n3 c3]] W L) :
  zdh A 6 N S (some ⟨g, o, none⟩) pn pp 1 nn np ct cn cp w ([110, 105, 108] :: L) := by
 have hg := za2 a0
 have hb0 : Below w.heap.size w (w.alloc (zbm A 6 N S (some ⟨g, o, none⟩) pn pp 1 nn np ct cn cp)) := al1 _ _
 have hb2 : Below w.heap.size w ((w.alloc (zbm A 6 N S (some ⟨g, o, none⟩) pn pp 1 nn np ct cn cp)).alloc (.cells #[.string ⟨#[110, 105, 108]⟩] 9)) := al2 _ _ _
 have e0 := (hb2.cell (p := ⟨g, _, none⟩) hg).trans a0
 have e1 := (hb2.cell (p := ⟨g, _, none⟩) hg).trans a1
 have e2 := (hb2.cell (p := ⟨g, _, none⟩) hg).trans a2
 have e3 := (hb2.cell (p := ⟨g, _, none⟩) hg).trans a3
 have e4 := (hb2.cell (p := ⟨g, _, none⟩) hg).trans a4
 have HC := za3 (CL _ hb2)
 have HB := za3 hb0
 clear CL a0 a1 a2 a3 a4 hb0 hb2
 go_enter Tryz.func10, Tryz.ntmps10
 go_wp2_with (first
  | (go_at_call 49; refine (za0 HC).mono ?_; clear HC; rintro x w1 ⟨⟨u1, rfl, hu1⟩, hb1⟩; obtain ⟨v2, W4, E2, ho4, hb4⟩ := ahead (s := [110, 105, 108]) (g0 := w.heap.size + 1) (za0 HB) (by simp) hb1 hu1 hp hl; have HE2 := za3 E2)
  | (at_builtin; refine za4 rfl (.tmp 39) (.tmp 44) 25 rfl rfl rfl (za0 HE2) ?_; clear HE2))
 go_ret
 exact ⟨⟨_, rfl, ho4⟩, hb4⟩
end Go.Proofs.YtmpbbmfbgcpplaaGreatDoor
