import Derived.Test.YtmpbbmfbgcpplaaGreatDoorQRefD
import Derived.Test.YtmpbbmfbgcpplaaGreatDoorQExA
import Derived.Test.YtmpbbmfbgcpplaaGreatDoorQSizeG
import Derived.Test.YtmpbbmfbgcpplaaGreatDoorQXOwn
import Derived.Deep.DeepCutAuto
import Derived.Deep.CutBlock
import Derived.Deep.LoopGhost
set_option maxHeartbeats 1000000
set_option maxRecDepth 100000
namespace Go.Proofs.YtmpbbmfbgcpplaaGreatDoor
open Go Go.RowKit Lx
def zjo (K : Int) : Int × Int × Int × Int :=
 if K = 2 then (0, 0, 0, 115)
 else if K = 4 then (0, 0, 0, 110)
 else if K = 6 then (0, 0, 1, 45)
 else if K = 7 ∨ K = 8 then (-1, -1, 0, 84)
 else if K = 9 then (1, 0, 0, 110)
 else if K = 10 then (-2, 0, 0, 110)
 else if K = 11 then (-2, 0, 0, 45)
 else if K = 12 then (1, 0, 1, 45)
 else if K = 13 ∨ K = 14 then (1, 0, 0, 45)
 else if K = 1 ∨ K = 3 ∨ K = 5 then (0, 0, 0, 45)
 else (2, 0, 0, 45)
theorem kinds {K : Int} (h1 : 1 ≤ K) (h2 : K ≤ 21) : K = 1 ∨ K = 2 ∨ K = 3 ∨ K = 4 ∨ K = 5 ∨ K = 6 ∨ K = 7 ∨ K = 8 ∨ K = 9 ∨ K = 10 ∨ K = 11 ∨ K = 12 ∨ K = 13 ∨ K = 14 ∨ K = 15 ∨ K = 16 ∨ K = 17 ∨ K = 18 ∨ K = 19 ∨ K = 20 ∨ K = 21 := by omega
theorem rshape_of (K p n t h : Int) (w : World) (h1 : 1 ≤ K) (h2 : K ≤ 21) (hs : zjo K = (p, n, t, h)) : Calls Tryz.prog 42 #[.int .i64 K] w fun e w' => e = .returned (.tuple #[.int .i64 p, .int .i64 n, .int .i64 t, .int .u8 h]) ∧ w = w' := by
 rcases kinds h1 h2 with h | h | h | h | h | h | h | h | h | h | h | h | h | h | h | h | h | h | h | h | h
 all_goals
  subst h
  cases hs
  go_enter Tryz.func42, Tryz.ntmps42
  go_wp2
  exact bodyPost_ret (by simp [results, Tryz.results42, go_sem]) rfl ⟨rfl, rfl⟩
theorem rfirst_any (K : Int) (w : World) (h1 : 1 ≤ K) (h2 : K ≤ 21) : Calls Tryz.prog 46 #[.int .i64 K] w fun e w' => e = .returned (.bool (zea K)) ∧ w = w' := by
 rcases kinds h1 h2 with h | h | h | h | h | h | h | h | h | h | h | h | h | h | h | h | h | h | h | h | h
 all_goals
  subst h
  go_enter Tryz.func46, Tryz.ntmps46
  go_wp2
  go_ret
  exact ⟨rfl, rfl⟩
def zg5 (how : Int) (s : Bs) : Bool := if how = 110 then zc8 1 s else if how = 84 then zc8 2 s else if how = 115 then zc8 5 s else s.isEmpty
theorem isTok5 (s : Bs) : zc8 5 s = zb3 s := by rw [zc8, sound, if_neg (by simp), if_neg (by simp), if_pos rfl]; simp
theorem rsaid_s (s : ByteArray) (w : World) (hs : s.size ≤ 1000000) : Calls Tryz.prog 43 #[.string s, .int .u8 115] w fun e w' => e = .returned (.bool (zb3 s.data.toList)) ∧ w = w' := by
 obtain ⟨r, hr⟩ : ∃ r, r = zb3 s.data.toList := ⟨_, rfl⟩
 rw [← hr]
 have HR := za3 hr
 clear hr
 go_enter Tryz.func43, Tryz.ntmps43
 go_wp2
 go_loop [5] (fun i => ∃ k : Nat, k ≤ s.size ∧ i = .int .i64 k ∧ Hid (zb3 s.data.toList = zb3 (s.data.toList.drop k))) (fun i => s.size - (intOf i).toNat)
 case atStart => exact ⟨0, by omega, rfl, rfl⟩
 case round =>
  obtain ⟨k, hk, rfl, HK⟩ := hrel
  by_cases hlt : k < s.size
  ·have hd := drop_cons s k hlt
   have e := za0 HK
   rw [hd, zcl] at e
   have hlt' : (k : Int) < (s.size : Int) := by omega
   have hsy : sayB s[k] = ((s[k].toNat : Int) == 10 || zcn (s[k].toNat : Int)) := by
    rw [sayB]
    congr 1
    rw [Bool.eq_iff_iff, beq_iff_eq, beq_iff_eq]
    constructor
    ·intro h; rw [h]; rfl
    ·intro h; exact zcp (n := 10) (by decide) h
   by_cases hb : ((s[k].toNat : Int) == 10 || zcn (s[k].toNat : Int)) = true
   ·have HN : Hid (zb3 s.data.toList = zb3 (s.data.toList.drop (k + 1))) := by
     show _ = _
     rw [e, hsy, hb]; rfl
    clear e hd HK hsy
    go_wp2_with (go_at_call 79; refine (zi4 _ _).mono ?_; rintro e w' ⟨rfl, rfl⟩; rw [hb])
    go_round
    case rel => exact ⟨k + 1, by omega, by go_num, HN⟩
    case measure => simp [intOf]; omega
   ·have hb := (Bool.not_eq_true _).mp hb
    have hno : Hid (r = false) := by
     show _ = _
     rw [za0 HR, e, hsy, hb]; simp
    clear e hd HK hsy
    go_wp2_with (go_at_call 79; refine (zi4 _ _).mono ?_; rintro e w' ⟨rfl, rfl⟩; rw [hb])
    go_ret
    exact ⟨by rw [za0 hno]; rfl, rfl⟩
  ·have hy : Hid (r = true) := by
    have e := za0 HK
    rw [List.drop_of_length_le (i := k) (by simp; omega)] at e
    exact (za0 HR).trans e
   clear HK
   go_wp2
   go_ret
   exact ⟨by rw [za0 hy]; rfl, rfl⟩
theorem rsaid2_any (s : Bs) (how : Int) (w : World) (hs : s.length ≤ 60000) (hh : how = 110 ∨ how = 84 ∨ how = 115 ∨ how = 45) : Calls Tryz.prog 43 #[.string ⟨s.toArray⟩, .int .u8 how] w fun e w' => e = .returned (.bool (zg5 how s)) ∧ Below w.heap.size w w' := by
 rcases hh with h | h | h | h
 ·subst h
  have SM := za3 (zlh s w hs)
  have e : zg5 110 s = zc8 1 s := rfl
  rw [e]
  clear e
  generalize zc8 1 s = r at SM ⊢
  go_enter Tryz.func43, Tryz.ntmps43
  go_wp2_with (go_at_call 61; refine (za0 SM).mono ?_; clear SM; rintro x w1 ⟨rfl, hb1⟩)
  go_ret
  exact ⟨rfl, hb1⟩
 ·subst h
  have SM := za3 (Great_any s w hs)
  have e : zg5 84 s = zc8 2 s := rfl
  rw [e]
  clear e
  generalize zc8 2 s = r at SM ⊢
  go_enter Tryz.func43, Tryz.ntmps43
  go_wp2_with (go_at_call 68; refine (za0 SM).mono ?_; clear SM; rintro x w1 ⟨rfl, hb1⟩)
  go_ret
  exact ⟨rfl, hb1⟩
 ·subst h
  have e : zg5 115 s = zb3 (⟨s.toArray⟩ : ByteArray).data.toList := by
   show zc8 5 s = _
   rw [isTok5]
  rw [e]
  exact (rsaid_s ⟨s.toArray⟩ w (by show s.toArray.size ≤ _; simp; omega)).mono fun e w' ⟨h1, h2⟩ => ⟨h1, by rw [← h2]; exact Below.refl _ _⟩
 ·subst h
  have e : zg5 45 s = s.isEmpty := rfl
  rw [e]
  clear e
  by_cases hS : s = []
  ·subst hS
   go_enter Tryz.func43, Tryz.ntmps43
   go_wp2
   go_ret
   exact ⟨rfl, Below.refl _ _⟩
  ·have hne := bs_ne hS
   have he : Hid (s.isEmpty = false) := by
    show _ = _
    cases s with
    | nil => exact absurd rfl hS
    | cons => rfl
   have hne2 : ((⟨s.toArray⟩ : ByteArray).toList == []) = false := by simpa using hne
   obtain ⟨X, hX⟩ : ∃ X : ByteArray, X = ⟨s.toArray⟩ := ⟨_, rfl⟩
   rw [← hX] at hne2
   rw [← hX, za0 he]
   clear hX hS hne he
   go_enter Tryz.func43, Tryz.ntmps43
   go_wp2
   go_ret
   exact ⟨rfl, Below.refl _ _⟩
def zc1 (p n t h : Int) (S : Bs) (nt np : Nat) (ns : List Bs) : Bool :=
 (if 0 ≤ p then decide ((np : Int) = p) else if p = -2 then decide (1 ≤ np) else decide (np = ns.length)) && (if 0 ≤ n then decide (ns.length = 0) else true) && decide ((nt : Int) = t) && zg5 h S && zc9 ns
def zid (K N : Int) : Bool := decide (N = 0) || ((decide (K = 1) || decide (K = 3)) && decide (0 ≤ N) && (!decide (K = 3) || decide (N ≤ 1)))
theorem names_nil (ns : List Bs) (h : ns.length = 0) : zc9 ns = true := by
 obtain rfl := List.eq_nil_of_length_eq_zero h
 rfl
theorem shaped_ref {D d : Nat} {A K N : Int} {S : Bs} {ts : List (Ty D)} {ns : List Bs} {ps : List (Ex D d)} {p n t h : Int} (h1 : 1 ≤ K) (h2 : K ≤ 21) (hs : zjo K = (p, n, t, h)) (b1 : N ≤ 9223372036854775807) (b2 : ps.length ≤ 1000000) :
  zc4 D d (A, K, N, S, ts, ns, ps) = (zc1 p n t h S ts.length ps.length ns && zid K N) := by
 have hb := names_nil ns
 generalize hnb : zc9 ns = nb at hb
 generalize hq : ps.length = q at b2
 generalize hl : ns.length = l at hb
 generalize ht : ts.length = m
 generalize hsd : zg5 h S = sb
 have key : ∀ (says mostN types : Int) (named : Bool) (least most : Int), zce K = some (says, mostN, types, named, least, most) → zis says S = sb → zc4 D d (A, K, N, S, ts, ns, ps) = (decide (0 ≤ N) && decide (N ≤ mostN) && decide ((m : Int) = types) && decide (least ≤ (q : Int)) && decide ((q : Int) ≤ most) && sb && (if named = true then decide (l = q) && nb else decide (l = 0))) := by
  intro says mostN types named least most e e2
  have e3 : zc4 D d (A, K, N, S, ts, ns, ps) = (match zce K with | none => false | some (says, mostN, types, named, least, most) => decide (0 ≤ N) && decide (N ≤ mostN) && decide ((ts.length : Int) = types) && decide (least ≤ (ps.length : Int)) && decide ((ps.length : Int) ≤ most) && zis says S && zdq named ns ps.length) := rfl
  rw [e3, e]
  dsimp only
  rw [e2, hq, ht]
  unfold zdq
  rw [hnb, hl]
 unfold zc1
 rw [hnb, hl, hsd]
 rcases kinds h1 h2 with e | e | e | e | e | e | e | e | e | e | e | e | e | e | e | e | e | e | e | e | e
 all_goals
  subst e
  cases hs
  rw [key _ _ _ _ _ _ rfl (by rw [← hsd]; rfl)]
  clear key hsd hnb hl hq ht
  unfold zid
  rw [Bool.eq_iff_iff]
  cases sb <;> cases nb <;> simp at hb ⊢ <;> try omega
def FitX (D : Nat) : (d : Nat) → Ex D d → Prop
 | 0, _ => True
 | d + 1, x => zgx D d x ∧ ExFits D d (xPs x)
theorem ExFits.at : ∀ {D d : Nat} {xs : List (Ex D d)}, ExFits D d xs → ∀ x ∈ xs, FitX D d x
 | _, 0, _, _, _, _ => trivial
 | _, _ + 1, _, h, x, hx => h.2 x hx
theorem shape_class {K p n t h : Int} (h1 : 1 ≤ K) (h2 : K ≤ 21) (hs : zjo K = (p, n, t, h)) : ((0 ≤ p ∧ n = 0) ∨ (p = -2 ∧ n = 0) ∨ (p = -1 ∧ n = -1)) ∧ (h = 110 ∨ h = 84 ∨ h = 115 ∨ h = 45) := by
 rcases kinds h1 h2 with e | e | e | e | e | e | e | e | e | e | e | e | e | e | e | e | e | e | e | e | e
 all_goals
  subst e
  cases hs
  decide
theorem shape_none {D d : Nat} {A K N : Int} {S : Bs} {ts : List (Ty D)} {ns : List Bs} {ps : List (Ex D d)} (h : K < 1 ∨ 21 < K) : zc4 D d (A, K, N, S, ts, ns, ps) = false := by
 have e : zce K = none := by
  unfold zce
  repeat rw [if_neg (by omega)]
 have e3 : zc4 D d (A, K, N, S, ts, ns, ps) = (match zce K with | none => false | some (says, mostN, types, named, least, most) => decide (0 ≤ N) && decide (N ≤ mostN) && decide ((ts.length : Int) = types) && decide (least ≤ (ps.length : Int)) && decide ((ps.length : Int) ≤ most) && zis says S && zdq named ns ps.length) := rfl
 rw [e3, e]
theorem beqf {a b : Int} (h : a ≠ b) : (a == b) = false ∧ (a != b) = true := ⟨beq_eq_false_iff_ne.2 h, by rw [bne, beq_eq_false_iff_ne.2 h]; rfl⟩
def zlv (D d : Nat) : Prop := ∀ (x : Ex D d) (v : Value) (room : Nat) (w : World), ExValD w D d v x → szX D d x ≤ 60000 → FitX D d x → room ≤ 1000 →
 Calls Tryz.prog 9 #[v, .int .i64 (room : Int)] w fun e w' => e = .returned (.bool (zbi D d room x)) ∧ Below w.heap.size w w'
theorem rrightx_step (D d : Nat) (IH : zlv D d) : zlv D (d + 1) := fun x v room w hv hz hfit hroom => by
 obtain ⟨pt, pn, pp, ct, cn, cp, rfl, r1, r2, r3⟩ := hv
 obtain ⟨A, K, N, S, ts, ns, xs⟩ := x
 have hz' : 1 + S.length + ns.length + zgs ns + szL D ts + ze9 D d xs ≤ 60000 := hz
 have hfs := hfit.2
 have hb1 : N ≤ 9223372036854775807 := hfit.1.2.2.2.2.2.2.2
 dsimp only [xAt, zfn, xN, xS, xT, xNs, xPs] at *
 have hlt := Nat.le_trans (zcr _ ts) (zd5 _ ts)
 have hlx := zl7 xs
 obtain ⟨ans, hans⟩ : ∃ ans, ans = zbi D (d + 1) room (A, K, N, S, ts, ns, xs) := ⟨_, rfl⟩
 rw [← hans]
 have hdef : ans = (!decide ((room : Int) = 0) && zc4 D d (A, K, N, S, ts, ns, xs) && zak D 64 ts && zkq xs.length fun i => (xs[i]?.map (zbi D d ((room : Int) - if i = 0 ∧ zea K = true then 0 else 1))).getD true) := hans
 clear hans
 obtain ⟨X, hX⟩ : ∃ X : ByteArray, X = ⟨S.toArray⟩ := ⟨_, rfl⟩
 rw [← hX]
 have HA : Hid (Below w.heap.size w (w.alloc (zbm A K N X pt pn pp ts.length ns.length xs.length ct cn cp))) := (Below.refl _ _).alloc (Nat.le_refl _) _
 by_cases h0 : room = 0
 ·subst h0
  have HF : Hid (ans = false) := by show _ = _; rw [hdef]; rfl
  clear hdef hX r1 r2 r3 IH hfs hfit hz hz'
  go_enter Tryz.func9, Tryz.ntmps9
  go_wp2
  go_ret
  exact ⟨by rw [za0 HF]; rfl, za0 HA⟩
 obtain ⟨h0', h0''⟩ := beqf (show (room : Int) ≠ 0 by omega)
 by_cases hK : K < 1 ∨ 21 < K
 ·have HF : Hid (ans = false) := by show _ = _; rw [hdef, shape_none hK, Bool.and_false]; rfl
  clear hdef hX r1 r2 r3 IH hfs hfit hz hz' h0
  have hK2 : K < 1 ∨ (¬ K < 1 ∧ 21 < K) := by omega
  rcases hK2 with hk | ⟨hk, hk2⟩
  all_goals
   go_enter Tryz.func9, Tryz.ntmps9
   go_wp2
   go_ret
   exact ⟨by rw [za0 HF]; rfl, za0 HA⟩
 have k1 : 1 ≤ K := by omega
 have k2 : K ≤ 21 := by omega
 obtain ⟨p, n, t, h, hs⟩ : ∃ p n t h, zjo K = (p, n, t, h) := ⟨_, _, _, _, rfl⟩
 obtain ⟨hcl, hh⟩ := shape_class k1 k2 hs
 obtain ⟨F, hF⟩ : ∃ F, F = zc1 p n t h S ts.length xs.length ns := ⟨_, rfl⟩
 obtain ⟨G, hG⟩ : ∃ G, G = zid K N := ⟨_, rfl⟩
 obtain ⟨b3, hb3⟩ : ∃ b, b = zak D 64 ts := ⟨_, rfl⟩
 obtain ⟨b4, hb4⟩ : ∃ b, b = zkq xs.length fun i => (xs[i]?.map (zbi D d ((room : Int) - if i = 0 ∧ zea K = true then 0 else 1))).getD true := ⟨_, rfl⟩
 have HANS : Hid (ans = (F && G && b3 && b4)) := by
  show _ = _
  rw [hdef, shaped_ref k1 k2 hs hb1 (by omega), ← hF, ← hG, ← hb3, ← hb4, show (!decide ((room : Int) = 0)) = true by simp; omega, Bool.true_and]
 have SH := za3 (rshape_of K p n t h (w.alloc (zbm A K N X pt pn pp ts.length ns.length xs.length ct cn cp)) k1 k2 hs)
 have HS : Hid (∀ W, Calls Tryz.prog 43 #[.string X, .int .u8 h] W fun e w' => e = .returned (.bool (zg5 h S)) ∧ Below W.heap.size W w') := fun W => by
  rw [hX]
  exact rsaid2_any S h W (by omega) hh
 have HAP : Hid (∀ W, Below w.heap.size w W → Calls Tryz.prog 44 #[.slice pn ns.length cn] W fun e w' => e = .returned (.bool (zc9 ns)) ∧ Below W.heap.size W w') := fun W hW => Apart_any _ ns W (r2.below hW) (by omega) fun s hs => by have := sum_mem hs; omega
 have HR1 := za3 r1
 have HR3 := za3 r3
 have HFS := za3 hfs
 have HI := za3 IH
 have HB3 := za3 hb3
 have HB4 := za3 hb4
 have HG := za3 hG
 have hrm : 1 ≤ room := by omega
 have hsz1 : szL D ts ≤ 60000 := by omega
 have hsz2 : ze9 D d xs ≤ 60000 := by omega
 clear hdef hX r1 r2 r3 IH hfs hfit hz hz' h0 hK hb3 hb4 hG hs
 go_enter Tryz.func9, Tryz.ntmps9
 go_upto_region 4 with (go_at_call 42; refine (za0 SH).mono ?_; clear SH; rintro x w1 ⟨rfl, rfl⟩)
 go_cut [93] (fun c wx => ∃ Wy : World, c = .bool (!F) ∧ Wy = wx ∧ Hid (Below (w.alloc (zbm A K N X pt pn pp ts.length ns.length xs.length ct cn cp)).heap.size (w.alloc (zbm A K N X pt pn pp ts.length ns.length xs.length ct cn cp)) Wy))
 case first =>
  clear HR1 HR3 HFS HI HB3 HB4 HG HANS
  have HFD := za3 hF
  clear hF
  rcases hcl with ⟨hp, hn⟩ | ⟨hp, hn⟩ | ⟨hp, hn⟩
  ·subst hn
   by_cases c1 : (xs.length : Int) = p
   ·have c1' : p = (xs.length : Int) := c1.symm
    clear c1
    subst c1'
    by_cases c2 : ns.length = 0
    ·have c2a : ((ns.length : Int) == 0) = true := by rw [c2]; rfl
     have c2b : ((ns.length : Int) != 0) = false := by rw [c2]; rfl
     have HC2 := za3 c2
     clear c2
     by_cases c3 : (ts.length : Int) = t
     ·have HSD := za3 (rfl : zg5 h S = zg5 h S)
      obtain ⟨sb, hsb⟩ : ∃ sb, sb = zg5 h S := ⟨_, rfl⟩
      have HS2 := za3 (za0 HS (w.alloc (zbm A K N X pt pn pp ts.length ns.length xs.length ct cn cp)))
      rw [← hsb] at HS2
      obtain ⟨nb, hnb⟩ : ∃ nb, nb = zc9 ns := ⟨_, rfl⟩
      rw [← hnb] at HAP
      have HV : Hid (F = (sb && nb)) := by
       show _ = _
       rw [za0 HFD, zc1, ← hsb, ← hnb]
       simp [c3, za0 HC2]
      have c3' : t = (ts.length : Int) := c3.symm
      clear c3 hsb hnb HSD HFD HS
      subst c3'
      cases sb
      ·go_wp2_with (go_at_call 43; refine (za0 HS2).mono ?_; clear HS2; rintro x w1 ⟨rfl, hb1⟩)
       go_meet
       case rel => exact ⟨_, by rw [za0 HV]; rfl, rfl, hb1⟩
      ·go_wp2_with (first
        | (go_at_call 43; refine (za0 HS2).mono ?_; clear HS2; rintro x w1 ⟨rfl, hb1⟩; obtain ⟨d0, d1, d2, d3, d4, d5, d6⟩ := zam hb1; have AP := za3 (za0 HAP w1 ((za0 HA).trans (hb1.mono (za0 HA).size))))
        | (go_at_call 44; refine (za0 AP).mono ?_; clear AP; rintro x w2 ⟨rfl, hb2⟩))
       go_meet
       case rel => exact ⟨_, by rw [za0 HV]; rfl, rfl, hb1.trans (hb2.mono hb1.size)⟩
     ·obtain ⟨c3a, c3b⟩ := beqf c3
      have HV : Hid (F = false) := by
       show _ = _
       rw [za0 HFD, zc1]
       simp [c3, za0 HC2]
      clear c3 HFD
      go_wp2_with fail
      go_meet
      case rel => exact ⟨_, by rw [za0 HV]; rfl, rfl, Below.refl _ _⟩
    ·obtain ⟨c2a, c2b⟩ := beqf (show (ns.length : Int) ≠ 0 by omega)
     have HV : Hid (F = false) := by
      show _ = _
      rw [za0 HFD, zc1]
      simp [c2]
     clear c2 HFD
     go_wp2_with fail
     go_meet
     case rel => exact ⟨_, by rw [za0 HV]; rfl, rfl, Below.refl _ _⟩
   ·obtain ⟨c1a, c1b⟩ := beqf c1
    have HV : Hid (F = false) := by
     show _ = _
     rw [za0 HFD, zc1]
     simp [c1, hp]
    clear c1 HFD
    go_wp2_with fail
    go_meet
    case rel => exact ⟨_, by rw [za0 HV]; rfl, rfl, Below.refl _ _⟩
  ·subst hp hn
   by_cases c1 : 1 ≤ xs.length
   ·have c1a : ¬ (xs.length : Int) < 1 := by omega
    have HC1 := za3 c1
    clear c1
    by_cases c2 : ns.length = 0
    ·have c2a : ((ns.length : Int) == 0) = true := by rw [c2]; rfl
     have c2b : ((ns.length : Int) != 0) = false := by rw [c2]; rfl
     have HC2 := za3 c2
     clear c2
     by_cases c3 : (ts.length : Int) = t
     ·have HSD := za3 (rfl : zg5 h S = zg5 h S)
      obtain ⟨sb, hsb⟩ : ∃ sb, sb = zg5 h S := ⟨_, rfl⟩
      have HS2 := za3 (za0 HS (w.alloc (zbm A K N X pt pn pp ts.length ns.length xs.length ct cn cp)))
      rw [← hsb] at HS2
      obtain ⟨nb, hnb⟩ : ∃ nb, nb = zc9 ns := ⟨_, rfl⟩
      rw [← hnb] at HAP
      have HV : Hid (F = (sb && nb)) := by
       show _ = _
       rw [za0 HFD, zc1, ← hsb, ← hnb]
       simp [c3, za0 HC2, za0 HC1]
      have c3' : t = (ts.length : Int) := c3.symm
      clear c3 hsb hnb HSD HFD HS
      subst c3'
      cases sb
      ·go_wp2_with (go_at_call 43; refine (za0 HS2).mono ?_; clear HS2; rintro x w1 ⟨rfl, hb1⟩)
       go_meet
       case rel => exact ⟨_, by rw [za0 HV]; rfl, rfl, hb1⟩
      ·go_wp2_with (first
        | (go_at_call 43; refine (za0 HS2).mono ?_; clear HS2; rintro x w1 ⟨rfl, hb1⟩; obtain ⟨d0, d1, d2, d3, d4, d5, d6⟩ := zam hb1; have AP := za3 (za0 HAP w1 ((za0 HA).trans (hb1.mono (za0 HA).size))))
        | (go_at_call 44; refine (za0 AP).mono ?_; clear AP; rintro x w2 ⟨rfl, hb2⟩))
       go_meet
       case rel => exact ⟨_, by rw [za0 HV]; rfl, rfl, hb1.trans (hb2.mono hb1.size)⟩
     ·obtain ⟨c3a, c3b⟩ := beqf c3
      have HV : Hid (F = false) := by
       show _ = _
       rw [za0 HFD, zc1]
       simp [c3, za0 HC2, za0 HC1]
      clear c3 HFD
      go_wp2_with fail
      go_meet
      case rel => exact ⟨_, by rw [za0 HV]; rfl, rfl, Below.refl _ _⟩
    ·obtain ⟨c2a, c2b⟩ := beqf (show (ns.length : Int) ≠ 0 by omega)
     have HV : Hid (F = false) := by
      show _ = _
      rw [za0 HFD, zc1]
      simp [c2, za0 HC1]
     clear c2 HFD
     go_wp2_with fail
     go_meet
     case rel => exact ⟨_, by rw [za0 HV]; rfl, rfl, Below.refl _ _⟩
   ·have c1a : (xs.length : Int) < 1 := by omega
    have HV : Hid (F = false) := by
     show _ = _
     rw [za0 HFD, zc1]
     simp [show xs.length = 0 by omega]
    clear c1 HFD
    go_wp2_with fail
    go_meet
    case rel => exact ⟨_, by rw [za0 HV]; rfl, rfl, Below.refl _ _⟩
  ·subst hp hn
   by_cases c1 : xs.length = ns.length
   ·have c1a : ((xs.length : Int) == (ns.length : Int)) = true := by rw [c1]; exact beq_self_eq_true _
    have c1b : ((xs.length : Int) != (ns.length : Int)) = false := by rw [bne, c1a]; rfl
    have HC1 := za3 c1
    clear c1
    by_cases c3 : (ts.length : Int) = t
    ·have HSD := za3 (rfl : zg5 h S = zg5 h S)
     obtain ⟨sb, hsb⟩ : ∃ sb, sb = zg5 h S := ⟨_, rfl⟩
     have HS2 := za3 (za0 HS (w.alloc (zbm A K N X pt pn pp ts.length ns.length xs.length ct cn cp)))
     rw [← hsb] at HS2
     obtain ⟨nb, hnb⟩ : ∃ nb, nb = zc9 ns := ⟨_, rfl⟩
     rw [← hnb] at HAP
     have HV : Hid (F = (sb && nb)) := by
      show _ = _
      rw [za0 HFD, zc1, ← hsb, ← hnb]
      simp [c3, za0 HC1]
     have c3' : t = (ts.length : Int) := c3.symm
     clear c3 hsb hnb HSD HFD HS
     subst c3'
     cases sb
     ·go_wp2_with (go_at_call 43; refine (za0 HS2).mono ?_; clear HS2; rintro x w1 ⟨rfl, hb1⟩)
      go_meet
      case rel => exact ⟨_, by rw [za0 HV]; rfl, rfl, hb1⟩
     ·go_wp2_with (first
       | (go_at_call 43; refine (za0 HS2).mono ?_; clear HS2; rintro x w1 ⟨rfl, hb1⟩; obtain ⟨d0, d1, d2, d3, d4, d5, d6⟩ := zam hb1; have AP := za3 (za0 HAP w1 ((za0 HA).trans (hb1.mono (za0 HA).size))))
       | (go_at_call 44; refine (za0 AP).mono ?_; clear AP; rintro x w2 ⟨rfl, hb2⟩))
      go_meet
      case rel => exact ⟨_, by rw [za0 HV]; rfl, rfl, hb1.trans (hb2.mono hb1.size)⟩
    ·obtain ⟨c3a, c3b⟩ := beqf c3
     have HV : Hid (F = false) := by
      show _ = _
      rw [za0 HFD, zc1]
      simp [c3, za0 HC1]
     clear c3 HFD
     go_wp2_with fail
     go_meet
     case rel => exact ⟨_, by rw [za0 HV]; rfl, rfl, Below.refl _ _⟩
   ·obtain ⟨c1a, c1b⟩ := beqf (show (xs.length : Int) ≠ (ns.length : Int) by omega)
    have HV : Hid (F = false) := by
     show _ = _
     rw [za0 HFD, zc1]
     simp [c1]
    clear c1 HFD
    go_wp2_with fail
    go_meet
    case rel => exact ⟨_, by rw [za0 HV]; rfl, rfl, Below.refl _ _⟩
 case rest =>
  obtain ⟨Wy, rfl, rfl, HBy⟩ := hcut
  clear HS HAP hF hcl hh
  have hby := za3 ((za0 HA).trans ((za0 HBy).mono (za0 HA).size))
  obtain ⟨d0, d1, d2, d3, d4, d5, d6⟩ := zam (za0 HBy)
  cases F
  ·have HF : Hid (ans = false) := by show _ = _; rw [za0 HANS]; rfl
   clear HANS HR1 HR3 HFS HI HB3 HB4 HG
   go_wp2_with fail
   go_ret
   exact ⟨by rw [za0 HF]; rfl, za0 hby⟩
  rw [show (!true) = false from rfl]
  go_upto_region 6 with fail
  go_cut [121] (fun c wx => c = .bool (!G) ∧ Wy = wx)
  case first =>
   clear HR1 HR3 HFS HI HB3 HB4 HANS
   by_cases n0 : N = 0
   ·subst n0
    have HV : Hid (G = true) := by show _ = _; rw [za0 HG]; rfl
    go_wp2_with fail
    go_meet
    case rel => exact ⟨by rw [za0 HV]; rfl, rfl⟩
   obtain ⟨n0a, n0b⟩ := beqf n0
   by_cases q1 : K = 1
   ·subst q1
    by_cases n1 : N < 0
    ·have HV : Hid (G = false) := by show _ = _; rw [za0 HG, zid]; simp; omega
     clear HG
     go_wp2_with fail
     go_meet
     case rel => exact ⟨by rw [za0 HV]; rfl, rfl⟩
    ·have HV : Hid (G = true) := by show _ = _; rw [za0 HG, zid]; simp; omega
     clear HG
     go_wp2_with fail
     go_meet
     case rel => exact ⟨by rw [za0 HV]; rfl, rfl⟩
   obtain ⟨q1a, q1b⟩ := beqf q1
   by_cases q3 : K = 3
   ·subst q3
    have hc : N < 0 ∨ (¬ N < 0 ∧ 1 < N) ∨ (¬ N < 0 ∧ ¬ 1 < N) := by omega
    rcases hc with n1 | ⟨n1, n2⟩ | ⟨n1, n2⟩
    ·have HV : Hid (G = false) := by show _ = _; rw [za0 HG, zid]; simp; omega
     clear HG
     go_wp2_with fail
     go_meet
     case rel => exact ⟨by rw [za0 HV]; rfl, rfl⟩
    ·have HV : Hid (G = false) := by show _ = _; rw [za0 HG, zid]; simp; omega
     clear HG
     go_wp2_with fail
     go_meet
     case rel => exact ⟨by rw [za0 HV]; rfl, rfl⟩
    ·have HV : Hid (G = true) := by show _ = _; rw [za0 HG, zid]; simp; omega
     clear HG
     go_wp2_with fail
     go_meet
     case rel => exact ⟨by rw [za0 HV]; rfl, rfl⟩
   obtain ⟨q3a, q3b⟩ := beqf q3
   have HV : Hid (G = false) := by show _ = _; rw [za0 HG, zid]; simp [n0, q1, q3]
   clear HG
   go_wp2_with fail
   go_meet
   case rel => exact ⟨by rw [za0 HV]; rfl, rfl⟩
  case rest =>
   obtain ⟨rfl, rfl⟩ := hcut
   clear HG
   cases G
   ·have HF : Hid (ans = false) := by show _ = _; rw [za0 HANS]; rfl
    clear HANS HR1 HR3 HFS HI HB3 HB4
    go_wp2_with fail
    go_ret
    exact ⟨by rw [za0 HF]; rfl, za0 hby⟩
   rw [show (!true) = false from rfl]
   obtain ⟨lb, hlb⟩ : ∃ lb, lb = zea K := ⟨_, rfl⟩
   have FI : Hid (∀ W, Calls Tryz.prog 46 #[.int .i64 K] W fun e w' => e = .returned (.bool lb) ∧ W = w') := fun W => by rw [hlb]; exact rfirst_any K W k1 k2
   obtain ⟨f, hf⟩ : ∃ f : Nat → Bool, f = fun i => (xs[i]?.map (zbi D d ((room : Int) - if i = 0 ∧ zea K = true then 0 else 1))).getD true := ⟨_, rfl⟩
   have HFK : Hid (∀ k (hk : k < xs.length), f k = zbi D d ((room : Int) - if k = 0 ∧ lb = true then 0 else 1) xs[k]) := fun k hk => by
    rw [hf, hlb]
    show (xs[k]?.map _).getD true = _
    rw [List.getElem?_eq_getElem hk]; rfl
   rw [← hf] at HB4
   clear hf hlb d0 d1 d2 d3 d4 d5 d6
   go_wp2_with fail
   go_loopw [9] (fun i wr => ∃ k : Nat, i = .int .i64 k ∧ k ≤ ts.length ∧ Hid (Below (w.alloc (zbm A K N X pt pn pp ts.length ns.length xs.length ct cn cp)).heap.size (w.alloc (zbm A K N X pt pn pp ts.length ns.length xs.length ct cn cp)) wr) ∧ Hid (b3 = zak D 64 (ts.drop k))) (fun i _ => ts.length - (intOf i).toNat)
   case atStart => exact ⟨0, rfl, by omega, za0 HBy, za0 HB3⟩
   case round =>
    clear HBy hby
    obtain ⟨k, rfl, hk, HB, HE⟩ := hrel
    obtain ⟨d0, d1, d2, d3, d4, d5, d6⟩ := zam (za0 HB)
    have hbw := za3 ((za0 HA).trans ((za0 HB).mono (za0 HA).size))
    by_cases hlt2 : k < ts.length
    ·have hlt' : (k : Int) < (ts.length : Int) := by omega
     obtain ⟨u, ⟨g, o, K', S', qn, qe, q3, n1, c1, n2, c2, n3, c3, rfl, rfl, a0, a1, a2, a3, a4⟩, hu⟩ := (za0 HR1).at k hlt2
     have e0 := ((za0 hbw).cell (p := ⟨g, _, none⟩) (za2 a0)).trans a0
     have e1 := ((za0 hbw).cell (p := ⟨g, _, none⟩) (za2 a1)).trans a1
     have e2 := ((za0 hbw).cell (p := ⟨g, _, none⟩) (za2 a2)).trans a2
     have e3 := ((za0 hbw).cell (p := ⟨g, _, none⟩) (za2 a3)).trans a3
     have e4 := ((za0 hbw).cell (p := ⟨g, _, none⟩) (za2 a4)).trans a4
     have hsm := ze6 (List.getElem_mem hlt2)
     obtain ⟨r, hr'⟩ : ∃ r, r = zci D 64 ts[k] := ⟨_, rfl⟩
     have CLH : Hid (Calls Tryz.prog 45 #[.agg #[.int .i64 K', .string S', .slice qn n1 c1, .slice qe n2 c2, .slice q3 n3 c3], .int .i64 64] wr fun e w' => e = .returned (.bool r) ∧ Below wr.heap.size wr w') := by rw [hr']; exact zio D ts[k] _ 64 wr (TyValD.below (za0 hbw) hu) (by omega) (by omega)
     have HTH := za3 (rights_at (room := 64) hlt2)
     rw [← hr'] at HTH
     clear hr' hsm a0 a1 a2 a3 a4 hu HR3 HFS HI HB4 FI HFK
     cases r
     ·have HF : Hid (ans = false) := by show _ = _; rw [za0 HANS, za0 HE, za0 HTH, Bool.false_and, Bool.and_false]; rfl
      clear HANS HE HTH HB3 HR1
      go_wp2_with (go_at_call 45; refine (za0 CLH).mono ?_; clear CLH; rintro x w1 ⟨rfl, hb1⟩)
      go_ret
      exact ⟨by rw [za0 HF]; rfl, bon' (za0 hbw) hb1⟩
     ·have HE2 : Hid (b3 = zak D 64 (ts.drop (k + 1))) := by show _ = _; rw [za0 HE, za0 HTH, Bool.true_and]
      clear HANS HE HTH HB3 HR1
      go_wp2_with (go_at_call 45; refine (za0 CLH).mono ?_; clear CLH; rintro x w1 ⟨rfl, hb1⟩)
      go_roundw
      case rel => exact ⟨k + 1, by go_num, by omega, bon' (za0 HB) hb1, za0 HE2⟩
      case measure => simp [intOf]; omega
    ·obtain rfl : k = ts.length := by omega
     have HB3t : Hid (b3 = true) := by show _ = _; rw [za0 HE, List.drop_length, zin]
     have hlt' : ¬ (ts.length : Int) < (ts.length : Int) := by omega
     clear HE HB3 hk hlt2 HR1
     go_wp2_with fail
     go_loopw [10] (fun i wr => ∃ k : Nat, i = .int .i64 k ∧ k ≤ xs.length ∧ Hid (Below (w.alloc (zbm A K N X pt pn pp ts.length ns.length xs.length ct cn cp)).heap.size (w.alloc (zbm A K N X pt pn pp ts.length ns.length xs.length ct cn cp)) wr) ∧ Hid (zkq k f = true)) (fun i _ => xs.length - (intOf i).toNat)
     case atStart => exact ⟨0, rfl, by omega, za0 HB, (by show _ = _; rfl)⟩
     case round =>
      clear HB hbw d0 d1 d2 d3 d4 d5 d6
      obtain ⟨k, rfl, hk, HB, HE⟩ := hrel
      obtain ⟨d0, d1, d2, d3, d4, d5, d6⟩ := zam (za0 HB)
      have hbw := za3 ((za0 HA).trans ((za0 HB).mono (za0 HA).size))
      by_cases hlt2 : k < xs.length
      ·have hlt'' : (k : Int) < (xs.length : Int) := by omega
       obtain ⟨u, ⟨g, o, A', K', N', S', qn, qe, q3, n1, c1, n2, c2, n3, c3, rfl, rfl, a0, a1, a2, a3, a4, a5, a6⟩, hu⟩ := (za0 HR3).at k hlt2
       have e0 := ((za0 hbw).cell (p := ⟨g, _, none⟩) (za2 a0)).trans a0
       have e1 := ((za0 hbw).cell (p := ⟨g, _, none⟩) (za2 a1)).trans a1
       have e2 := ((za0 hbw).cell (p := ⟨g, _, none⟩) (za2 a2)).trans a2
       have e3 := ((za0 hbw).cell (p := ⟨g, _, none⟩) (za2 a3)).trans a3
       have e4 := ((za0 hbw).cell (p := ⟨g, _, none⟩) (za2 a4)).trans a4
       have e5 := ((za0 hbw).cell (p := ⟨g, _, none⟩) (za2 a5)).trans a5
       have e6 := ((za0 hbw).cell (p := ⟨g, _, none⟩) (za2 a6)).trans a6
       have hsm := zku (List.getElem_mem hlt2)
       have hft := (za0 HFS).at xs[k] (List.getElem_mem hlt2)
       obtain ⟨r, hr'⟩ : ∃ r, r = f k := ⟨_, rfl⟩
       have CL : ∀ (dn : Nat) (a : Int), a = dn → dn ≤ 1000 → a = (room : Int) - (if k = 0 ∧ lb = true then 0 else 1) → Hid (Calls Tryz.prog 9 #[.agg #[.int .i64 A', .int .i64 K', .int .i64 N', .string S', .slice qn n1 c1, .slice qe n2 c2, .slice q3 n3 c3], .int .i64 a] wr fun e w' => e = .returned (.bool r) ∧ Below wr.heap.size wr w') := fun dn a ha hd he => by
        have := za0 HI xs[k] _ dn wr (ExValD.below (za0 hbw) hu) (by omega) hft hd
        rw [hr', za0 HFK k hlt2, ← he, ha]
        exact this
       have HN : Hid (f k = false → ans = false) := fun h => by rw [za0 HANS, za0 HB4, allB_no hlt2 h, Bool.and_false]
       have HY : Hid (f k = true → zkq (k + 1) f = true) := fun h => by rw [zko, za0 HE, h]; rfl
       rw [← hr'] at HN HY
       clear a0 a1 a2 a3 a4 a5 a6 hu hsm hft HFS HI HFK HB4 HR3 HANS HE hr'
       have hc : (k = 0 ∧ lb = true) ∨ (k = 0 ∧ lb = false) ∨ k ≠ 0 := by cases lb <;> simp <;> omega
       rcases hc with ⟨hk0, hlb⟩ | ⟨hk0, hlb⟩ | hk0
       ·have CLX := CL room room rfl hroom (by simp [hk0, hlb])
        have z1 : ((k : Int) == 0) = true := by rw [hk0]; rfl
        clear hk0 CL
        subst hlb
        cases r
        ·have HF : Hid (ans = false) := za0 HN rfl
         clear HN HY
         go_wp2_with fail
         refine (za0 FI _).mono ?_
         rintro x w9 ⟨rfl, rfl⟩
         go_wp2_with fail
         refine (za0 CLX).mono ?_
         rintro x w1 ⟨rfl, hbn⟩
         clear CLX
         go_wp2_with fail
         go_ret
         exact ⟨by rw [za0 HF]; rfl, bon' (za0 hbw) hbn⟩
        ·have HE2 := za3 (za0 HY rfl)
         clear HN HY
         go_wp2_with fail
         refine (za0 FI _).mono ?_
         rintro x w9 ⟨rfl, rfl⟩
         go_wp2_with fail
         refine (za0 CLX).mono ?_
         rintro x w1 ⟨rfl, hbn⟩
         clear CLX
         go_wp2_with fail
         go_roundw
         case rel => exact ⟨k + 1, by go_num, by omega, bon' (za0 HB) hbn, za0 HE2⟩
         case measure => simp [intOf]; omega
       ·have CLX := CL (room - 1) ((room : Int) - 1) (by omega) (by omega) (by simp [hlb])
        have z1 : ((k : Int) == 0) = true := by rw [hk0]; rfl
        clear hk0 CL
        subst hlb
        cases r
        ·have HF : Hid (ans = false) := za0 HN rfl
         clear HN HY
         go_wp2_with fail
         refine (za0 FI _).mono ?_
         rintro x w9 ⟨rfl, rfl⟩
         go_wp2_with fail
         refine (za0 CLX).mono ?_
         rintro x w1 ⟨rfl, hbn⟩
         clear CLX
         go_wp2_with fail
         go_ret
         exact ⟨by rw [za0 HF]; rfl, bon' (za0 hbw) hbn⟩
        ·have HE2 := za3 (za0 HY rfl)
         clear HN HY
         go_wp2_with fail
         refine (za0 FI _).mono ?_
         rintro x w9 ⟨rfl, rfl⟩
         go_wp2_with fail
         refine (za0 CLX).mono ?_
         rintro x w1 ⟨rfl, hbn⟩
         clear CLX
         go_wp2_with fail
         go_roundw
         case rel => exact ⟨k + 1, by go_num, by omega, bon' (za0 HB) hbn, za0 HE2⟩
         case measure => simp [intOf]; omega
       ·have CLX := CL (room - 1) ((room : Int) - 1) (by omega) (by omega) (by simp [hk0])
        obtain ⟨z1, z2⟩ := beqf (show (k : Int) ≠ 0 by omega)
        clear hk0 FI CL
        cases r
        ·have HF : Hid (ans = false) := za0 HN rfl
         clear HN HY
         go_wp2_with fail
         refine (za0 CLX).mono ?_
         rintro x w1 ⟨rfl, hbn⟩
         clear CLX
         go_wp2_with fail
         go_ret
         exact ⟨by rw [za0 HF]; rfl, bon' (za0 hbw) hbn⟩
        ·have HE2 := za3 (za0 HY rfl)
         clear HN HY
         go_wp2_with fail
         refine (za0 CLX).mono ?_
         rintro x w1 ⟨rfl, hbn⟩
         clear CLX
         go_wp2_with fail
         go_roundw
         case rel => exact ⟨k + 1, by go_num, by omega, bon' (za0 HB) hbn, za0 HE2⟩
         case measure => simp [intOf]; omega
      ·obtain rfl : k = xs.length := by omega
       have HF : Hid (ans = true) := by show _ = _; rw [za0 HANS, za0 HB3t, za0 HB4, za0 HE]; rfl
       have hlt'' : ¬ (xs.length : Int) < (xs.length : Int) := by omega
       clear HANS HB3t HB4 HE HR3 HFS HI FI HFK
       go_wp2_with fail
       go_ret
       exact ⟨by rw [za0 HF]; rfl, za0 hbw⟩
theorem zk7 (D : Nat) : ∀ d, zlv D d
 | 0 => fun t => nomatch t
 | d + 1 => rrightx_step D d (zk7 D d)
end Go.Proofs.YtmpbbmfbgcpplaaGreatDoor
