import Derived.Test.YtmpbbmfbgcpplaaGreatDoorQSynE
set_option maxHeartbeats 4000000
set_option maxRecDepth 100000
namespace Go.Proofs.YtmpbbmfbgcpplaaGreatDoor
open Go Go.RowKit Lx
def Ex (D : Nat) : Nat → Type
 | 0 => Empty
 | d + 1 => Int × Int × Int × Bs × List (Ty D) × List Bs × List (Ex D d)
abbrev xAt {D d : Nat} (x : Ex D (d + 1)) : Int := x.1
abbrev zfn {D d : Nat} (x : Ex D (d + 1)) : Int := x.2.1
abbrev xN {D d : Nat} (x : Ex D (d + 1)) : Int := x.2.2.1
abbrev xS {D d : Nat} (x : Ex D (d + 1)) : Bs := x.2.2.2.1
abbrev xT {D d : Nat} (x : Ex D (d + 1)) : List (Ty D) := x.2.2.2.2.1
abbrev xNs {D d : Nat} (x : Ex D (d + 1)) : List Bs := x.2.2.2.2.2.1
abbrev xPs {D d : Nat} (x : Ex D (d + 1)) : List (Ex D d) := x.2.2.2.2.2.2
def ExRow (W : World) (D : Nat) : (d : Nat) → Value → List (Ex D d) → Prop
 | 0, v, _ => ∃ (p : Option Addr) (c : Nat), v = .slice p 0 c
 | d + 1, v, xs => ∃ (p : Option Addr) (c : Nat), v = .slice p xs.length c ∧ ∀ j x, xs[j]? = some x → ∃ (g o : Nat) (vt vn vp : Value), p = some ⟨g, o, none⟩ ∧
   W.cell? ⟨g, o + j * 7, none⟩ = some (.int .i64 (xAt x)) ∧ W.cell? ⟨g, o + j * 7 + 1, none⟩ = some (.int .i64 (zfn x)) ∧ W.cell? ⟨g, o + j * 7 + 2, none⟩ = some (.int .i64 (xN x)) ∧ W.cell? ⟨g, o + j * 7 + 3, none⟩ = some (.string ⟨(xS x).toArray⟩) ∧
   W.cell? ⟨g, o + j * 7 + 4, none⟩ = some vt ∧ W.cell? ⟨g, o + j * 7 + 5, none⟩ = some vn ∧ W.cell? ⟨g, o + j * 7 + 6, none⟩ = some vp ∧
   TyRow W D vt (xT x) ∧ SRow W vn (xNs x) ∧ ExRow W D d vp (xPs x)
def ExVal (W : World) (D d : Nat) (v : Value) (x : Ex D (d + 1)) : Prop :=
 ∃ (pt pn pp : Option Addr) (ct cn cp : Nat), v = .agg #[.int .i64 (xAt x), .int .i64 (zfn x), .int .i64 (xN x), .string ⟨(xS x).toArray⟩, .slice pt (xT x).length ct, .slice pn (xNs x).length cn, .slice pp (xPs x).length cp] ∧
  TyRow W D (.slice pt (xT x).length ct) (xT x) ∧ SRow W (.slice pn (xNs x).length cn) (xNs x) ∧ ExRow W D d (.slice pp (xPs x).length cp) (xPs x)
theorem ExRow.below {w w' : World} {D : Nat} (hb : Below w.heap.size w w') : ∀ (d : Nat) {v : Value} {xs : List (Ex D d)}, ExRow w D d v xs → ExRow w' D d v xs
 | 0, _, _, h => h
 | d + 1, v, xs, h => by
  obtain ⟨p, c, rfl, hp⟩ := h
  refine ⟨p, c, rfl, fun j t ht => ?_⟩
  obtain ⟨g, o, vt, vn, vp, rfl, a0, a1, a2, a3, a4, a5, a6, r1, r2, r3⟩ := hp j t ht
  have hg := za2 a0
  exact ⟨g, o, vt, vn, vp, rfl, (hb.cell (p := ⟨g, _, none⟩) hg).trans a0, (hb.cell (p := ⟨g, _, none⟩) hg).trans a1, (hb.cell (p := ⟨g, _, none⟩) hg).trans a2, (hb.cell (p := ⟨g, _, none⟩) hg).trans a3, (hb.cell (p := ⟨g, _, none⟩) hg).trans a4, (hb.cell (p := ⟨g, _, none⟩) hg).trans a5, (hb.cell (p := ⟨g, _, none⟩) hg).trans a6, TyRow.below hb D r1, r2.below hb, ExRow.below hb d r3⟩
theorem ExVal.below {w w' : World} {D d : Nat} {v : Value} {x : Ex D (d + 1)} (h : ExVal w D d v x) (hb : Below w.heap.size w w') : ExVal w' D d v x := by
 obtain ⟨pt, pn, pp, ct, cn, cp, rfl, r1, r2, r3⟩ := h
 exact ⟨pt, pn, pp, ct, cn, cp, rfl, TyRow.below hb D r1, r2.below hb, ExRow.below hb d r3⟩
theorem ExRow.slice {w : World} {D : Nat} : ∀ {d : Nat} {v : Value} {xs : List (Ex D d)}, ExRow w D d v xs → ∃ (p : Option Addr) (c : Nat), v = .slice p xs.length c
 | 0, _, [], h => h
 | 0, _, t :: _, _ => nomatch t
 | _ + 1, _, _, ⟨p, c, e, _⟩ => ⟨p, c, e⟩
def zgx (D d : Nat) (x : Ex D (d + 1)) : Prop :=
 (xS x).length ≤ 35184372088832 ∧ (xT x).length ≤ 1000000 ∧ zck D (xT x) ∧ (xNs x).length ≤ 1000000 ∧ (∀ s ∈ xNs x, s.length ≤ 35184372088832) ∧ (xPs x).length ≤ 1000000 ∧ -9223372036854775808 ≤ xN x ∧ xN x ≤ 9223372036854775807
def ExFits (D : Nat) : (d : Nat) → List (Ex D d) → Prop
 | 0, _ => True
 | d + 1, xs => xs.length ≤ 1000000 ∧ ∀ x ∈ xs, zgx D d x ∧ ExFits D d (xPs x)
def zce (K : Int) : Option (Int × Int × Int × Bool × Int × Int) :=
 if K = 1 then some (0, 9223372036854775807, 0, false, 0, 0)
 else if K = 2 then some (5, 0, 0, false, 0, 0)
 else if K = 3 then some (0, 1, 0, false, 0, 0)
 else if K = 4 then some (1, 0, 0, false, 0, 0)
 else if K = 5 then some (0, 0, 0, false, 0, 0)
 else if K = 6 then some (0, 0, 1, false, 0, 0)
 else if K = 7 ∨ K = 8 then some (2, 0, 0, true, 0, 9223372036854775807)
 else if K = 9 then some (1, 0, 0, false, 1, 1)
 else if K = 10 then some (1, 0, 0, false, 1, 9223372036854775807)
 else if K = 11 then some (0, 0, 0, false, 1, 9223372036854775807)
 else if K = 12 then some (0, 0, 1, false, 1, 1)
 else if K = 13 ∨ K = 14 then some (0, 0, 0, false, 1, 1)
 else if 15 ≤ K ∧ K ≤ 21 then some (0, 0, 0, false, 2, 2)
 else none
def twoB (K : Int) : Bool := decide (15 ≤ K) && decide (K ≤ 21)
def zea (K : Int) : Bool := decide (K = 9) || decide (K = 10) || decide (K = 11) || decide (K = 12) || twoB K
def zis (k : Int) (s : Bs) : Bool := if k = 0 then s.isEmpty else zc8 k s
def zdq (named : Bool) (ns : List Bs) (q : Nat) : Bool := if named = true then decide (ns.length = q) && zc9 ns else decide (ns.length = 0)
def zc4 (D d : Nat) (x : Ex D (d + 1)) : Bool :=
 match zce (zfn x) with
 | none => false
 | some (says, mostN, types, named, least, most) =>
  decide (0 ≤ xN x) && decide (xN x ≤ mostN) && decide (((xT x).length : Int) = types) && decide (least ≤ ((xPs x).length : Int)) && decide (((xPs x).length : Int) ≤ most) && zis says (xS x) && zdq named (xNs x) (xPs x).length
def zkq (n : Nat) (f : Nat → Bool) : Bool := (List.range n).all f
theorem zko (n : Nat) (f : Nat → Bool) : zkq (n + 1) f = (zkq n f && f n) := by simp [zkq, List.range_succ]
theorem allB_no {n k : Nat} {f : Nat → Bool} (h : k < n) (hf : f k = false) : zkq n f = false := by
 rw [zkq, List.all_eq_false]; exact ⟨k, List.mem_range.2 h, by rw [hf]; simp⟩
def zbi (D : Nat) : (d : Nat) → Int → Ex D d → Bool
 | 0, _, _ => true
 | d + 1, room, x => !decide (room = 0) && zc4 D d x && zak D 64 (xT x) && zkq (xPs x).length fun i => ((xPs x)[i]?.map (zbi D d (room - if i = 0 ∧ zea (zfn x) = true then 0 else 1))).getD true
def zbj (K : Int) : Int :=
 if K = 21 then 1 else if K = 20 then 2 else if K = 18 ∨ K = 19 then 3 else if K = 16 ∨ K = 17 then 4 else if K = 15 then 5 else if K = 13 ∨ K = 14 then 6 else if K = 12 ∨ K = 9 ∨ K = 10 ∨ K = 11 then 7 else 8
def zeq (tk : List Tok) : List Tok := tS [40] :: (tk ++ [tS [41]])
def zaz (K asked : Int) (tk : List Tok) : List Tok := if zbj K < asked then zeq tk else tk
def zja (K : Int) : List Tok :=
 if K = 15 then [tS [42]] else if K = 16 then [tS [43]] else if K = 17 then [tS [45]] else if K = 18 then [tS [61, 61]] else if K = 19 then [tS [60]] else if K = 20 then [tW [97, 110, 100]] else if K = 21 then [tW [111, 114]] else []
def zd0 (D : Nat) : (d : Nat) → Ex D d → Int
 | 0, x => nomatch x
 | _ + 1, x => zfn x
def zfy (n : Nat) (tk : Nat → List Tok) : List Tok := tS [40] :: ((List.range n).flatMap (zcu tk) ++ [tS [41]])
def litT (S : Bs) (n : Nat) (nm : Nat → Bs) (tk : Nat → List Tok) : List Tok := tT S :: tS [123] :: ((List.range n).flatMap (zcu fun i => tN (nm i) :: tS [58] :: tk i) ++ [tS [125]])
theorem zh9 (K : Int) (w : World) : Calls Tryz.prog 84 #[.int .i64 K] w fun e w' => e = .returned (.bool (twoB K)) ∧ w' = w := by
 by_cases h1 : 15 ≤ K <;> by_cases h2 : K ≤ 21
 all_goals
  go_enter Tryz.func84, Tryz.ntmps84
  go_wp2
  go_ret
  exact ⟨by simp [twoB, h1, h2], rfl⟩
theorem zg1 (K : Int) (w : World) : Calls Tryz.prog 83 #[.int .i64 K] w fun e w' => e = .returned (.bool (zea K)) ∧ w' = w := by
 have TW := za3 (zh9 K w)
 obtain ⟨z, hz⟩ : ∃ z, z = twoB K := ⟨_, rfl⟩
 have HZ : Hid (zea K = (decide (K = 9) || decide (K = 10) || decide (K = 11) || decide (K = 12) || z)) := by rw [hz]; rfl
 rw [← hz] at TW
 clear hz
 have hk : K = 9 ∨ K = 10 ∨ K = 11 ∨ K = 12 ∨ (K ≠ 9 ∧ K ≠ 10 ∧ K ≠ 11 ∧ K ≠ 12) := by omega
 rcases hk with rfl | rfl | rfl | rfl | ⟨h1, h2, h3, h4⟩
 all_goals
  go_enter Tryz.func83, Tryz.ntmps83
  go_wp2_with (go_at_call 84; refine (za0 TW).mono ?_; clear TW; rintro x w1 ⟨rfl, rfl⟩)
  go_ret
  exact ⟨by rw [za0 HZ]; simp [*], rfl⟩
theorem level_any (K : Int) (w : World) : Calls Tryz.prog 118 #[.int .i64 K] w fun e w' => e = .returned (.int .i64 (zbj K)) ∧ w' = w := by
 have hk : K = 21 ∨ K = 20 ∨ K = 18 ∨ K = 19 ∨ K = 16 ∨ K = 17 ∨ K = 15 ∨ K = 13 ∨ K = 14 ∨ K = 12 ∨ K = 9 ∨ K = 10 ∨ K = 11 ∨ (K ≠ 21 ∧ K ≠ 20 ∧ K ≠ 18 ∧ K ≠ 19 ∧ K ≠ 16 ∧ K ≠ 17 ∧ K ≠ 15 ∧ K ≠ 13 ∧ K ≠ 14 ∧ K ≠ 12 ∧ K ≠ 9 ∧ K ≠ 10 ∧ K ≠ 11) := by omega
 rcases hk with rfl | rfl | rfl | rfl | rfl | rfl | rfl | rfl | rfl | rfl | rfl | rfl | rfl | ⟨h1, h2, h3, h4, h5, h6, h7, h8, h9, h10, h11, h12, h13⟩
 all_goals
  go_enter Tryz.func118, Tryz.ntmps118
  go_wp2
  go_ret
  exact ⟨by simp [zbj, *], rfl⟩
def zjt (K : Int) : Value :=
 match zce K with
 | some (says, mostN, types, named, least, most) => .tuple #[.agg #[.int .i64 says, .int .i64 mostN, .int .i64 types, .bool named, .int .i64 least, .int .i64 most], .bool true]
 | none => .tuple #[.agg #[.int .i64 0, .int .i64 0, .int .i64 0, .bool false, .int .i64 2, .int .i64 2], .bool false]
theorem shapeOf_any (K : Int) (w : World) : Calls Tryz.prog 115 #[.int .i64 K] w fun e w' => e = .returned (zjt K) ∧ Below w.heap.size w w' := by
 have TW := za3 (fun W => zh9 K W)
 have hk : K = 1 ∨ K = 2 ∨ K = 3 ∨ K = 4 ∨ K = 5 ∨ K = 6 ∨ K = 7 ∨ K = 8 ∨ K = 9 ∨ K = 10 ∨ K = 11 ∨ K = 12 ∨ K = 13 ∨ K = 14 ∨ (K ≠ 1 ∧ K ≠ 2 ∧ K ≠ 3 ∧ K ≠ 4 ∧ K ≠ 5 ∧ K ≠ 6 ∧ K ≠ 7 ∧ K ≠ 8 ∧ K ≠ 9 ∧ K ≠ 10 ∧ K ≠ 11 ∧ K ≠ 12 ∧ K ≠ 13 ∧ K ≠ 14) := by omega
 rcases hk with rfl | rfl | rfl | rfl | rfl | rfl | rfl | rfl | rfl | rfl | rfl | rfl | rfl | rfl | ⟨h1, h2, h3, h4, h5, h6, h7, h8, h9, h10, h11, h12, h13, h14⟩
 rotate_right 1
 ·obtain ⟨z, hz⟩ : ∃ z, z = twoB K := ⟨_, rfl⟩
  have HZ : Hid (zjt K = .tuple #[.agg #[.int .i64 0, .int .i64 0, .int .i64 0, .bool false, .int .i64 2, .int .i64 2], .bool z]) := by
   show _ = _
   rw [hz, zjt, zce, twoB]
   by_cases a : 15 ≤ K <;> by_cases b : K ≤ 21 <;> simp [*]
  rw [← hz] at TW
  rw [za0 HZ]
  clear hz HZ
  go_enter Tryz.func115, Tryz.ntmps115
  go_wp2_with (go_at_call 84; refine (za0 TW _).mono ?_; clear TW; rintro x w1 ⟨rfl, rfl⟩)
  exact bodyPost_ret (v := .tuple #[.agg #[.int .i64 0, .int .i64 0, .int .i64 0, .bool false, .int .i64 2, .int .i64 2], .bool z]) (by simp [results, Tryz.results115, go_sem]) rfl ⟨rfl, (Below.refl _ _).alloc (Nat.le_refl _) _⟩
 all_goals
  go_enter Tryz.func115, Tryz.ntmps115
  go_wp2
  exact bodyPost_ret (by simp [results, Tryz.results115, go_sem]; rfl) rfl ⟨rfl, (Below.refl _ _).alloc (Nat.le_refl _) _⟩
end Go.Proofs.YtmpbbmfbgcpplaaGreatDoor
