import Derived.Test.YtmpbbmfbgcpplaaGreatDoorQRefC
import Derived.Test.YtmpbbmfbgcpplaaGreatDoorQEqG
import Derived.Test.YtmpbbmfbgcpplaaGreatDoorQSynB
import Derived.Test.YtmpbbmfbgcpplaaGreatDoorQKeepG
import Derived.Deep.DeepCutAuto
set_option maxHeartbeats 8000000
set_option maxRecDepth 100000
namespace Go.Proofs.YtmpbbmfbgcpplaaGreatDoor
open Go Go.RowKit Lx
theorem bon' {u v w : World} (h : Below u.heap.size u v) (k : Below v.heap.size v w) : Below u.heap.size u w := h.trans (k.mono h.size)
theorem isTok_data (k : Int) (s : Bs) : sound (0, k, (⟨s.toArray⟩ : ByteArray).data.toList, 0) = zc8 k s := by show sound (0, k, s.toArray.toList, 0) = _; rw [List.toList_toArray]; rfl
theorem Great_any (s : Bs) (w : World) (hs : s.length ≤ 60000) : Calls Tryz.prog 68 #[.string ⟨s.toArray⟩] w fun e w' => e = .returned (.bool (zc8 2 s)) ∧ Below w.heap.size w w' := by
 have ON : Hid (Calls Tryz.prog 93 #[.agg #[.int .i64 0, .int .i64 2, .string ⟨s.toArray⟩, .int .i64 0]] w fun e w' => ∃ X : ByteArray, e = .returned (.tuple #[.string X, .bool (zc8 2 s)]) ∧ Below w.heap.size w w') :=
  (rOne_any 0 2 0 ⟨s.toArray⟩ w (by show s.toArray.size ≤ _; simpa using hs) (by decide)).mono fun e w' ⟨X, he, _, hb⟩ => ⟨X, by rw [he, isTok_data], hb⟩
 generalize zc8 2 s = r at ON ⊢
 go_enter Tryz.func68, Tryz.ntmps68
 go_wp2_with (go_at_call 93; refine (za0 ON).mono ?_; clear ON; rintro x w1 ⟨X, rfl, hb1⟩)
 go_ret
 exact ⟨rfl, hb1⟩
theorem zlh (s : Bs) (w : World) (hs : s.length ≤ 60000) : Calls Tryz.prog 61 #[.string ⟨s.toArray⟩] w fun e w' => e = .returned (.bool (zc8 1 s)) ∧ Below w.heap.size w w' := by
 have ON : Hid (Calls Tryz.prog 93 #[.agg #[.int .i64 0, .int .i64 1, .string ⟨s.toArray⟩, .int .i64 0]] w fun e w' => ∃ X : ByteArray, e = .returned (.tuple #[.string X, .bool (zc8 1 s)]) ∧ Below w.heap.size w w') :=
  (rOne_any 0 1 0 ⟨s.toArray⟩ w (by show s.toArray.size ≤ _; simpa using hs) (by decide)).mono fun e w' ⟨X, he, _, hb⟩ => ⟨X, by rw [he, isTok_data], hb⟩
 generalize zc8 1 s = r at ON ⊢
 go_enter Tryz.func61, Tryz.ntmps61
 go_wp2_with (go_at_call 93; refine (za0 ON).mono ?_; clear ON; rintro x w1 ⟨X, rfl, hb1⟩)
 go_ret
 exact ⟨rfl, hb1⟩
theorem zj5 (ss : List Bs) : zc9 ss = true ↔ (∀ s ∈ ss, zc8 1 s = true) ∧ ss.Nodup := by simp [zc9]
theorem nodup_take {ss : List Bs} {k : Nat} (h : k < ss.length) : (ss.take (k + 1)).Nodup ↔ (ss.take k).Nodup ∧ ∀ j (hj : j < k), ss[j] ≠ ss[k] := by
 rw [List.take_succ_eq_append_getElem h, List.nodup_append]
 constructor
 ·rintro ⟨h1, _, h3⟩
  refine ⟨h1, fun j hj e => ?_⟩
  exact h3 ss[j] (List.mem_take_iff_getElem.2 ⟨j, by omega, rfl⟩) ss[k] (by simp) e
 ·rintro ⟨h1, h2⟩
  refine ⟨h1, by simp, fun a ha b hb => ?_⟩
  obtain ⟨j, hj, rfl⟩ := List.mem_take_iff_getElem.1 ha
  rw [List.mem_singleton.1 hb]
  exact h2 j (by omega)
theorem Apart_any (v : Value) (ss : List Bs) (w : World) (hv : SRow w v ss) (hl : ss.length ≤ 1000000) (hs : ∀ s ∈ ss, s.length ≤ 60000) :
  Calls Tryz.prog 44 #[v] w fun e w' => e = .returned (.bool (zc9 ss)) ∧ Below w.heap.size w w' := by
 obtain ⟨p, c, rfl, hp⟩ := hv
 have HP : Hid (∀ k (hk : k < ss.length), ∃ g o, p = some ⟨g, o, none⟩ ∧ w.cell? ⟨g, o + k, none⟩ = some (.string ⟨ss[k].toArray⟩)) := fun k hk => hp k ss[k] (by simp)
 have HS : Hid (∀ k (hk : k < ss.length) W, Calls Tryz.prog 61 #[.string ⟨ss[k].toArray⟩] W fun e w' => e = .returned (.bool (zc8 1 ss[k])) ∧ Below W.heap.size W w') := fun k hk W => zlh _ W (hs _ (by simp))
 clear hp hs
 go_enter Tryz.func44, Tryz.ntmps44
 go_wp2
 go_loopw [3] (fun i wr => ∃ k : Nat, i = .int .i64 k ∧ k ≤ ss.length ∧ Hid (Below w.heap.size w wr) ∧ Hid ((∀ s ∈ ss.take k, zc8 1 s = true) ∧ (ss.take k).Nodup)) (fun i _ => ss.length - (intOf i).toNat)
 case atStart => exact ⟨0, rfl, by omega, Below.refl _ _, ⟨by simp, by simp⟩⟩
 case round =>
  obtain ⟨k, rfl, hk, HB, HE⟩ := hrel
  by_cases hlt : k < ss.length
  ·obtain ⟨g, o, rfl, a0⟩ := za0 HP k hlt
   have hlt' : (k : Int) < (ss.length : Int) := by omega
   have b0 := ((za0 HB).cell (p := ⟨g, _, none⟩) (za2 a0)).trans a0
   have SM := za3 (za0 HS k hlt wr)
   clear HS
   have hin : ss[k] ∈ ss := by simp
   by_cases ht : zc8 1 ss[k] = true
   ·rw [ht] at SM
    go_wp2_with (go_at_call 61; refine (za0 SM).mono ?_; clear SM; rintro x w1 ⟨rfl, hb1⟩)
    go_loopw [4] (fun i wr => ∃ j nd : Nat, i = .int .i64 j ∧ j ≤ k ∧ wr = w1.drewN nd ∧ Hid (∀ i (hi : i < j) (hk : i < ss.length), ss[i] ≠ ss[k])) (fun i _ => k - (intOf i).toNat)
    case atStart => exact ⟨0, 0, rfl, by omega, rfl, fun i hi => by omega⟩
    case round =>
     obtain ⟨j, nd, rfl, hj, rfl, HN⟩ := hrel
     have hbw := za3 (bon' (za0 HB) hb1)
     by_cases hjk : j < k
     ·have hjk' : (j : Int) < (k : Int) := by omega
      have hjl : j < ss.length := by omega
      have hjl' : (j : Int) < (ss.length : Int) := by omega
      obtain ⟨g', o', e, a1⟩ := za0 HP j hjl
      obtain ⟨rfl, rfl⟩ : g = g' ∧ o = o' := by simpa using e
      have c0 := ((za0 hbw).cell (p := ⟨g, _, none⟩) (za2 a0)).trans a0
      have c1 := ((za0 hbw).cell (p := ⟨g, _, none⟩) (za2 a1)).trans a1
      by_cases hxy : ss[k] = ss[j]
      ·have HF : Hid (zc9 ss = false) := by
        show _ = _
        rw [← Bool.not_eq_true, zj5]
        rintro ⟨_, hn⟩
        exact ((nodup_take hlt).1 (hn.sublist (List.take_sublist _ _))).2 j hjk hxy.symm
       rw [← hxy] at c1
       clear a0 a1 hxy
       go_wp2
       go_quiet (fail)
       go_wp2
       go_ret
       exact ⟨by rw [za0 HF]; rfl, below_drewN (below_drewN (za0 hbw) _) _⟩
      ·have hne := bs_ne hxy
       have HX := za3 hxy
       obtain ⟨X, hX⟩ : ∃ X : ByteArray, X = ⟨ss[k].toArray⟩ := ⟨_, rfl⟩
       obtain ⟨Y, hY⟩ : ∃ Y : ByteArray, Y = ⟨ss[j].toArray⟩ := ⟨_, rfl⟩
       rw [← hX, ← hY] at hne
       rw [← hX] at c0
       rw [← hY] at c1
       clear hX hY a0 a1 hxy b0
       go_wp2
       go_quiet (fail)
       go_wp2
       go_roundw
       case rel => exact ⟨j + 1, nd + nq, by go_num, by omega, by simp [World.drewN], (by
        show ∀ i (hi : i < j + 1) (hk : i < ss.length), ss[i] ≠ ss[k]
        intro i hi hil
        rcases Nat.lt_or_ge i j with h | h
        ·exact za0 HN i h hil
        ·obtain rfl : i = j := by omega
         exact fun e => za0 HX e.symm)⟩
       case measure => simp [intOf]; omega
     ·have HX : Hid ((∀ s ∈ ss.take (k + 1), zc8 1 s = true) ∧ (ss.take (k + 1)).Nodup) := by
       refine ⟨fun s hs => ?_, (nodup_take hlt).2 ⟨(za0 HE).2, fun i hi => za0 HN i (by omega) (by omega)⟩⟩
       rw [List.take_succ_eq_append_getElem hlt, List.mem_append] at hs
       rcases hs with hs | hs
       ·exact (za0 HE).1 s hs
       ·rw [List.mem_singleton.1 hs]; exact ht
      go_wp2
      go_roundw
      case rel => exact ⟨k + 1, by go_num, by omega, below_drewN (za0 hbw) _, HX⟩
      case measure => simp [intOf]; omega
   ·have HF : Hid (zc9 ss = false) := by
     show _ = _
     rw [← Bool.not_eq_true, zj5]
     rintro ⟨h, _⟩
     exact ht (h _ hin)
    rw [(Bool.not_eq_true _).mp ht] at SM
    go_wp2_with (go_at_call 61; refine (za0 SM).mono ?_; clear SM; rintro x w1 ⟨rfl, hb1⟩)
    go_ret
    exact ⟨by rw [za0 HF]; rfl, bon' (za0 HB) hb1⟩
  ·have HT : Hid (zc9 ss = true) := (zj5 ss).2 (by
    have := za0 HE
    rwa [List.take_of_length_le (by omega)] at this)
   go_wp2
   go_ret
   exact ⟨by rw [za0 HT]; rfl, za0 HB⟩
def kindD : (d : Nat) → Ty d → Int
 | 0, _ => 0
 | _ + 1, t => t.1
def zci (d : Nat) (room : Int) (t : Ty d) : Bool := zak d room [t]
theorem zfv (d : Nat) (room : Int) (t : Ty (d + 1)) : zci (d + 1) room t = zeh d room t := by
 rw [zci, zak, List.all_cons, List.all_nil, Bool.and_true]; rfl
theorem rights_at : ∀ {d : Nat} {room : Int} {ts : List (Ty d)} {k : Nat} (h : k < ts.length), zak d room (ts.drop k) = (zci d room ts[k] && zak d room (ts.drop (k + 1)))
 | 0, _, ts, _, h => by
  match ts, h with
  | t :: _, _ => exact nomatch t
 | d + 1, room, ts, k, h => by rw [zkp h, zfv]
theorem zin : ∀ (d : Nat) (room : Int), zak d room [] = true
 | 0, _ => by rw [zak]
 | _ + 1, _ => by rw [zak]; rfl
theorem fns_at : ∀ {d : Nat} {ts : List (Ty d)} {k : Nat} (h : k < ts.length), fnsB d (ts.drop k) = ((kindD d ts[k] == 7) && fnsB d (ts.drop (k + 1)))
 | 0, ts, _, h => by
  match ts, h with
  | t :: _, _ => exact nomatch t
 | d + 1, ts, k, h => by rw [fns_drop h]; rfl
theorem fns_nil : ∀ (d : Nat), fnsB d [] = true
 | 0 => by rw [fnsB]
 | _ + 1 => by rw [fnsB]; rfl
theorem zlu : ∀ {d : Nat} {W : World} {t : Ty d} {K : Int} {a b c e : Value}, TyValD W d (.agg #[.int .i64 K, a, b, c, e]) t → K = kindD d t
 | 0, _, t, _, _, _, _, _, _ => nomatch t
 | d + 1, W, t, K, a, b, c, e, h => by
  obtain ⟨pn, pe, pp, cn, ce, cp, h1, _⟩ := h
  injection h1 with h2
  have := congrArg (fun (x : Array Value) => x[0]?) h2
  have h3 : K = t.1 := by simpa using this
  exact h3
theorem nadd0 (a b c : Nat) : ((a : Int) + (b : Int) + (c : Int) == 0) = (decide (a = 0) && decide (b = 0) && decide (c = 0)) := by
 by_cases h1 : a = 0 <;> by_cases h2 : b = 0 <;> by_cases h3 : c = 0 <;> simp [h1, h2, h3] <;> omega
def RRightAt (d : Nat) : Prop := ∀ (t : Ty d) (v : Value) (room : Nat) (w : World), TyValD w d v t → szD d t ≤ 60000 → room ≤ 1000 →
 Calls Tryz.prog 45 #[v, .int .i64 (room : Int)] w fun e w' => e = .returned (.bool (zci d room t)) ∧ Below w.heap.size w w'
theorem sum_mem {ms : List Bs} {s : Bs} (h : s ∈ ms) : s.length ≤ zgs ms := by
 induction ms with
 | nil => cases h
 | cons x r ih =>
  rcases List.mem_cons.1 h with rfl | h
  ·simp [zgs]
  ·have := ih h
   simp only [zgs, List.map_cons, List.sum_cons] at this ⊢
   omega
theorem rright_step (d : Nat) (IH : RRightAt d) : RRightAt (d + 1) := fun t v room w hv hz hr => by
 obtain ⟨pn, pe, pp, cn, ce, cp, rfl, r1, r2, r3⟩ := hv
 obtain ⟨ans, hans⟩ : ∃ ans, ans = zci (d + 1) room t := ⟨_, rfl⟩
 rw [← hans]
 rw [zfv, zeh] at hans
 obtain ⟨K, S, ms, es, ts⟩ := t
 have hz' : 1 + S.length + ms.length + es.length + zgs ms + szL d ts ≤ 60000 := hz
 dsimp only at *
 have hlts : ts.length ≤ 60000 := Nat.le_trans (Nat.le_trans (zcr _ ts) (zd5 _ ts)) (by omega)
 have HG : Hid (∀ W, Calls Tryz.prog 68 #[.string ⟨S.toArray⟩] W fun e w' => e = .returned (.bool (zc8 2 S)) ∧ Below W.heap.size W w') := fun W => Great_any S W (by omega)
 have HP : Hid (∀ W m, m = ms.length → Below w.heap.size w W → Calls Tryz.prog 44 #[.slice pn m cn] W fun e w' => e = .returned (.bool (zc9 ms)) ∧ Below W.heap.size W w') := fun W m hm hW => by
  subst hm
  exact Apart_any _ ms W (r1.below hW) (by omega) fun s hs => by have := sum_mem hs; omega
 obtain ⟨b1, hb1⟩ : ∃ b, b = zc8 2 S := ⟨_, rfl⟩
 obtain ⟨b2, hb2⟩ : ∃ b, b = zc9 ms := ⟨_, rfl⟩
 obtain ⟨b3, hb3⟩ : ∃ b, b = fnsB d ts := ⟨_, rfl⟩
 obtain ⟨b4, hb4⟩ : ∃ b, b = zak d ((room : Int) - 1) ts := ⟨_, rfl⟩
 obtain rfl : ans = (decide (0 < (room : Int)) && zaw K S ms.length es.length ts.length b1 b2 b3 && b4) := by rw [hb1, hb2, hb3, hb4]; exact hans
 clear hans
 rw [← hb1] at HG
 rw [← hb2] at HP
 have HB3 := za3 hb3
 have HB4 := za3 hb4
 have HI := za3 IH
 have HR3 := za3 r3
 have HA : Hid (Below w.heap.size w (w.alloc (ze7 K ⟨S.toArray⟩ pn pe pp ms.length es.length ts.length cn ce cp))) := (Below.refl _ _).alloc (Nat.le_refl _) _
 clear hb1 hb2 hb3 hb4 IH r1 r2 r3 hz
 have hml : ms.length ≤ 60000 := by omega
 have hel : es.length ≤ 60000 := by omega
 have hsz : szL d ts ≤ 60000 := by omega
 obtain ⟨nn, hnn⟩ : ∃ nn, nn = ms.length := ⟨_, rfl⟩
 obtain ⟨ne, hne⟩ : ∃ ne, ne = es.length := ⟨_, rfl⟩
 rw [← hnn] at HP HA hml ⊢
 rw [← hne] at HA hel ⊢
 clear hnn hne hz'
 go_enter Tryz.func45, Tryz.ntmps45
 by_cases h0 : room = 0
 ·subst h0
  go_wp2
  go_ret
  exact ⟨rfl, za0 HA⟩
 have h0' : ((room : Int) == 0) = false := beq_eq_false_iff_ne.2 (by omega)
 have hpos : decide (0 < (room : Int)) = true := decide_eq_true (by omega)
 rw [hpos, Bool.true_and]
 go_wp2
 go_loopw [5] (fun i wr => ∃ k : Nat, i = .int .i64 k ∧ k ≤ ts.length ∧ Hid (Below (w.alloc (ze7 K ⟨S.toArray⟩ pn pe pp nn ne ts.length cn ce cp)).heap.size (w.alloc (ze7 K ⟨S.toArray⟩ pn pe pp nn ne ts.length cn ce cp)) wr) ∧ Hid (b4 = zak d ((room : Int) - 1) (ts.drop k))) (fun i _ => ts.length - (intOf i).toNat)
 case atStart => exact ⟨0, rfl, by omega, Below.refl _ _, za0 HB4⟩
 case round =>
  obtain ⟨k, rfl, hk, HB, HE⟩ := hrel
  obtain ⟨d0, d1, d2, d3, d4⟩ := zek (za0 HB)
  have hbw := za3 ((za0 HA).trans ((za0 HB).mono (za0 HA).size))
  by_cases hlt : k < ts.length
  ·have hlt' : (k : Int) < (ts.length : Int) := by omega
   obtain ⟨u, ⟨g, o, K', S', qn, qe, q3, n1, c1, n2, c2, n3, c3, rfl, rfl, a0, a1, a2, a3, a4⟩, hu⟩ := (za0 HR3).at k hlt
   have e0 := ((za0 hbw).cell (p := ⟨g, _, none⟩) (za2 a0)).trans a0
   have e1 := ((za0 hbw).cell (p := ⟨g, _, none⟩) (za2 a1)).trans a1
   have e2 := ((za0 hbw).cell (p := ⟨g, _, none⟩) (za2 a2)).trans a2
   have e3 := ((za0 hbw).cell (p := ⟨g, _, none⟩) (za2 a3)).trans a3
   have e4 := ((za0 hbw).cell (p := ⟨g, _, none⟩) (za2 a4)).trans a4
   have hsm := zgi hlt
   have hsm2 : szD d ts[k] ≤ szL d ts := by
    have : szL d ts = szL d (ts.take (k + 1)) + szL d (ts.drop (k + 1)) := by unfold szL; rw [← List.sum_append, ← List.map_append, List.take_append_drop]
    omega
   have hroom : ((room - 1 : Nat) : Int) = (room : Int) - 1 := by omega
   have CL := za0 HI ts[k] _ (room - 1) wr (TyValD.below (za0 hbw) hu) (by omega) (by omega)
   rw [hroom] at CL
   have HT := rights_at (room := (room : Int) - 1) hlt
   obtain ⟨r, hr'⟩ : ∃ r, r = zci d ((room : Int) - 1) ts[k] := ⟨_, rfl⟩
   rw [← hr'] at CL HT
   have CLH := za3 CL
   have HTH := za3 HT
   clear CL HT hr' hsm hsm2 hroom a0 a1 a2 a3 a4 hu
   cases r
   ·go_wp2_with (go_at_call 45; refine (za0 CLH).mono ?_; clear CLH; rintro x w1 ⟨rfl, hb1⟩)
    go_ret
    exact ⟨by rw [za0 HE, za0 HTH, Bool.false_and, Bool.and_false]; rfl, bon' (za0 hbw) hb1⟩
   ·go_wp2_with (go_at_call 45; refine (za0 CLH).mono ?_; clear CLH; rintro x w1 ⟨rfl, hb1⟩)
    go_roundw
    case rel => exact ⟨k + 1, by go_num, by omega, bon' (za0 HB) hb1, (by show _ = _; rw [za0 HE, za0 HTH, Bool.true_and])⟩
    case measure => simp [intOf]; omega
  ·obtain rfl : k = ts.length := by omega
   have h4 : b4 = true := by rw [za0 HE, List.drop_length, zin]
   subst h4
   have hlt' : ¬ (ts.length : Int) < (ts.length : Int) := by omega
   clear HE HB4 hk hlt HI
   obtain ⟨X, hX⟩ : ∃ X : ByteArray, X = ⟨S.toArray⟩ := ⟨_, rfl⟩
   have hXe : S = [] → X = ⟨#[]⟩ := fun h => by rw [hX, h]
   have hXn : S ≠ [] → (X.toList == []) = false := fun h => by
    have h2 := bs_ne h
    rw [← hX] at h2
    simpa using h2
   rw [← hX] at HG
   have D1 : wr.cell? ⟨w.heap.size, 1, none⟩ = some (.string X) := by rw [hX]; exact d1
   clear d1
   go_upto_region 8 with fail
   go_cut [6] (fun o wx => o = .bool (S.isEmpty && decide (nn = 0) && decide (ne = 0)) ∧ wr = wx)
   case first =>
    by_cases hS : S = []
    ·obtain rfl := hXe hS
     have HSe : Hid (S.isEmpty = true) := by show _ = _; rw [hS]; rfl
     clear hXe hXn hX hS
     by_cases hn : nn = 0
     ·subst hn
      go_wp2
      go_meet
      case rel => exact ⟨by rw [za0 HSe, ← nb0 ne]; rfl, rfl⟩
     ·have hn' : ((nn : Int) == 0) = false := by rw [nb0, decide_eq_false hn]
      go_wp2
      go_meet
      case rel => exact ⟨by rw [decide_eq_false hn, Bool.and_false, Bool.false_and], rfl⟩
    ·have hne := hXn hS
     have HSe : Hid (S.isEmpty = false) := by
      show _ = _
      cases S with
      | nil => exact absurd rfl hS
      | cons => rfl
     clear hXe hXn hX hS
     go_wp2
     go_meet
     case rel => exact ⟨by rw [za0 HSe]; rfl, rfl⟩
   case rest =>
    obtain ⟨rfl, rfl⟩ := hcut
    obtain ⟨bb, hbb⟩ : ∃ bb, bb = (S.isEmpty && decide (nn = 0) && decide (ne = 0)) := ⟨_, rfl⟩
    rw [← hbb]
    have HBB := za3 hbb
    have HXX := za3 hX
    have HXE := za3 hXe
    have HXN := za3 hXn
    clear hbb hX hXe hXn
    have hk : (K = 1 ∨ K = 2 ∨ K = 3) ∨ K = 4 ∨ K = 5 ∨ K = 6 ∨ K = 7 ∨ K = 8 ∨ (K ≠ 1 ∧ K ≠ 2 ∧ K ≠ 3 ∧ K ≠ 4 ∧ K ≠ 5 ∧ K ≠ 6 ∧ K ≠ 7 ∧ K ≠ 8) := by omega
    rcases hk with h | rfl | rfl | rfl | rfl | rfl | ⟨k1, k2, k3, k4, k5, k6, k7, k8⟩
    ·have HF : Hid (zaw K S nn ne ts.length b1 b2 b3 = (bb && ((ts.length : Int) == 0))) := by
      show _ = _
      rw [za0 HBB, nb0, zaw]
      rcases h with rfl | rfl | rfl <;> cases S.isEmpty <;> simp
     rcases h with rfl | rfl | rfl <;> cases bb
     all_goals
      go_wp2
      go_ret
      exact ⟨by rw [za0 HF]; first | rfl | (rw [Bool.and_true]; rfl) | simp, za0 hbw⟩
    ·cases b1
     ·have HF : Hid (zaw 4 S nn ne ts.length false b2 b3 = false) := by show _ = _; simp [zaw]
      go_wp2_with (go_at_call 68; refine (za0 HG _).mono ?_; clear HG; rintro x w1 ⟨rfl, hb1⟩)
      go_ret
      exact ⟨by rw [za0 HF]; first | rfl | (rw [Bool.and_true]; rfl) | simp, bon' (za0 hbw) hb1⟩
     ·have HF : Hid (zaw 4 S nn ne ts.length true b2 b3 = ((nn : Int) + (ne : Int) + (ts.length : Int) == 0)) := by show _ = _; rw [nadd0]; simp [zaw]
      go_wp2_with (go_at_call 68; refine (za0 HG _).mono ?_; clear HG; rintro x w1 ⟨rfl, hb1⟩; obtain ⟨f0, f1, f2, f3, f4⟩ := zek (bon' (za0 HB) hb1))
      go_ret
      exact ⟨by rw [za0 HF]; first | rfl | (rw [Bool.and_true]; rfl) | simp, bon' (za0 hbw) hb1⟩
    ·have HF : Hid (zaw 5 S nn ne ts.length b1 b2 b3 = (bb && ((ts.length : Int) == 1))) := by
      show _ = _
      rw [za0 HBB, nb1, zaw]
      cases S.isEmpty <;> simp
     cases bb
     all_goals
      go_wp2
      go_ret
      exact ⟨by rw [za0 HF]; first | rfl | (rw [Bool.and_true]; rfl) | simp, za0 hbw⟩
    ·by_cases hS : S = []
     ·obtain rfl := za0 HXE hS
      have HSe : Hid (S.isEmpty = true) := by show _ = _; rw [hS]; rfl
      clear HXE HXN HXX hS
      by_cases hn : (nn : Int) = (ts.length : Int)
      ·have hn' : ((nn : Int) == (ts.length : Int)) = true := beq_iff_eq.2 hn
       by_cases he : (ne : Int) = (ts.length : Int)
       ·have he' : ((ne : Int) == (ts.length : Int)) = true := beq_iff_eq.2 he
        have HF : Hid (zaw 6 S nn ne ts.length b1 b2 b3 = b2) := by
         show _ = _
         have z1 : decide (nn = ts.length) = true := decide_eq_true (by omega)
         have z2 : decide (ne = ts.length) = true := decide_eq_true (by omega)
         simp [zaw, za0 HSe, z1, z2]
         try omega
        clear hn he
        go_wp2_with (go_at_call 44; refine (za0 HP _ _ rfl (za0 hbw)).mono ?_; clear HP; rintro x w1 ⟨rfl, hb1⟩)
        go_ret
        exact ⟨by rw [za0 HF]; first | rfl | (rw [Bool.and_true]; rfl) | simp, bon' (za0 hbw) hb1⟩
       ·have he' : ((ne : Int) == (ts.length : Int)) = false := beq_eq_false_iff_ne.2 he
        have HF : Hid (zaw 6 S nn ne ts.length b1 b2 b3 = false) := by
         show _ = _
         have z2 : decide (ne = ts.length) = false := decide_eq_false (by omega)
         simp [zaw, z2]
         try omega
        clear hn he
        go_wp2
        go_ret
        exact ⟨by rw [za0 HF]; first | rfl | (rw [Bool.and_true]; rfl) | simp, za0 hbw⟩
      ·have hn' : ((nn : Int) == (ts.length : Int)) = false := beq_eq_false_iff_ne.2 hn
       have HF : Hid (zaw 6 S nn ne ts.length b1 b2 b3 = false) := by
        show _ = _
        have z1 : decide (nn = ts.length) = false := decide_eq_false (by omega)
        simp [zaw, z1]
        try omega
       clear hn
       go_wp2
       go_ret
       exact ⟨by rw [za0 HF]; first | rfl | (rw [Bool.and_true]; rfl) | simp, za0 hbw⟩
     ·have hne := za0 HXN hS
      have HF : Hid (zaw 6 S nn ne ts.length b1 b2 b3 = false) := by
       show _ = _
       have hSe : S.isEmpty = false := by
        cases S with
        | nil => exact absurd rfl hS
        | cons => rfl
       simp [zaw, hSe]
      clear HXE HXN HXX hS
      go_wp2
      go_ret
      exact ⟨by rw [za0 HF]; first | rfl | (rw [Bool.and_true]; rfl) | simp, za0 hbw⟩
    ·have HF : Hid (zaw 7 S nn ne ts.length b1 b2 b3 = (bb && decide ((0 : Int) < (ts.length : Int)))) := by
      show _ = _
      rw [za0 HBB, zaw]
      have : decide (1 ≤ ts.length) = decide ((0 : Int) < (ts.length : Int)) := decide_eq_decide.2 (by omega)
      cases S.isEmpty <;> simp [this]
     cases bb
     all_goals
      go_wp2
      go_ret
      exact ⟨by rw [za0 HF]; first | rfl | (rw [Bool.and_true]; rfl) | simp, za0 hbw⟩
    ·go_wp2
     go_loopw [7] (fun i wx => ∃ k : Nat, i = .int .i64 k ∧ k ≤ ts.length ∧ wx = wr ∧ Hid (b3 = fnsB d (ts.drop k))) (fun i _ => ts.length - (intOf i).toNat)
     case atStart => exact ⟨0, rfl, by omega, rfl, za0 HB3⟩
     case round =>
     obtain ⟨k, rfl, hk, rfl, HE⟩ := hrel
     by_cases hlt : k < ts.length
     ·have hlt2 : (k : Int) < (ts.length : Int) := by omega
      obtain ⟨u, ⟨g, o, K', S', qn, qe, q3, n1, c1, n2, c2, n3, c3, rfl, rfl, a0, a1, a2, a3, a4⟩, hu⟩ := (za0 HR3).at k hlt
      have e0 := ((za0 hbw).cell (p := ⟨g, _, none⟩) (za2 a0)).trans a0
      have HT := fns_at hlt
      rw [← zlu hu] at HT
      have HTH := za3 HT
      clear HT a0 a1 a2 a3 a4 hu
      by_cases h7 : K' = 7
      ·subst h7
       go_wp2
       go_roundw
       case rel => exact ⟨k + 1, by go_num, by omega, by trivial, (by show _ = _; rw [za0 HE, za0 HTH]; rfl)⟩
       case measure => simp [intOf]; omega
      ·have h7' : (K' == 7) = false := beq_eq_false_iff_ne.2 h7
       have h7'' : (K' != 7) = true := by rw [bne, h7']; rfl
       have HF : Hid (zaw 8 S nn ne ts.length b1 b2 b3 = false) := by
        show _ = _
        have z : b3 = false := by rw [za0 HE, za0 HTH, h7']; rfl
        rw [z]; simp [zaw]
       clear HTH
       go_wp2
       go_ret
       exact ⟨by rw [za0 HF]; first | rfl | (rw [Bool.and_true]; rfl) | simp, za0 hbw⟩
     obtain rfl : k = ts.length := by omega
     have h3 : b3 = true := by rw [za0 HE, List.drop_length, fns_nil]
     subst h3
     clear HE HB3 hk hlt
     by_cases hS : S = []
     ·obtain rfl := za0 HXE hS
      have HSe : Hid (S.isEmpty = true) := by show _ = _; rw [hS]; rfl
      clear HXE HXN HXX hS
      by_cases hn : (nn : Int) = (ts.length : Int)
      ·have hn' : ((nn : Int) == (ts.length : Int)) = true := beq_iff_eq.2 hn
       by_cases he : (ne : Int) = 0
       ·have he' : ((ne : Int) == 0) = true := beq_iff_eq.2 he
        have HF : Hid (zaw 8 S nn ne ts.length b1 b2 true = b2) := by
         show _ = _
         have z1 : decide (nn = ts.length) = true := decide_eq_true (by omega)
         have z2 : decide (ne = 0) = true := decide_eq_true (by omega)
         simp [zaw, za0 HSe, z1, z2]
         try omega
        clear hn he
        go_wp2_with (go_at_call 44; refine (za0 HP _ _ rfl (za0 hbw)).mono ?_; clear HP; rintro x w1 ⟨rfl, hb1⟩)
        go_ret
        exact ⟨by rw [za0 HF]; first | rfl | (rw [Bool.and_true]; rfl) | simp, bon' (za0 hbw) hb1⟩
       ·have he' : ((ne : Int) == 0) = false := beq_eq_false_iff_ne.2 he
        have HF : Hid (zaw 8 S nn ne ts.length b1 b2 true = false) := by
         show _ = _
         have z2 : decide (ne = 0) = false := decide_eq_false (by omega)
         simp [zaw, z2]
         try omega
        clear hn he
        go_wp2
        go_ret
        exact ⟨by rw [za0 HF]; first | rfl | (rw [Bool.and_true]; rfl) | simp, za0 hbw⟩
      ·have hn' : ((nn : Int) == (ts.length : Int)) = false := beq_eq_false_iff_ne.2 hn
       have HF : Hid (zaw 8 S nn ne ts.length b1 b2 true = false) := by
        show _ = _
        have z1 : decide (nn = ts.length) = false := decide_eq_false (by omega)
        simp [zaw, z1]
        try omega
       clear hn
       go_wp2
       go_ret
       exact ⟨by rw [za0 HF]; first | rfl | (rw [Bool.and_true]; rfl) | simp, za0 hbw⟩
     ·have hne := za0 HXN hS
      have HF : Hid (zaw 8 S nn ne ts.length b1 b2 true = false) := by
       show _ = _
       have hSe : S.isEmpty = false := by
        cases S with
        | nil => exact absurd rfl hS
        | cons => rfl
       simp [zaw, hSe]
      clear HXE HXN HXX hS
      go_wp2
      go_ret
      exact ⟨by rw [za0 HF]; first | rfl | (rw [Bool.and_true]; rfl) | simp, za0 hbw⟩
    ·have HF : Hid (zaw K S nn ne ts.length b1 b2 b3 = false) := by
      show _ = _
      rw [zaw]
      simp [k1, k2, k3, k4, k5, k6, k7, k8]
     have q1 : (K == 1) = false := beq_eq_false_iff_ne.2 k1
     have q2 : (K == 2) = false := beq_eq_false_iff_ne.2 k2
     have q3 : (K == 3) = false := beq_eq_false_iff_ne.2 k3
     have q4 : (K == 4) = false := beq_eq_false_iff_ne.2 k4
     have q5 : (K == 5) = false := beq_eq_false_iff_ne.2 k5
     have q6 : (K == 6) = false := beq_eq_false_iff_ne.2 k6
     have q7 : (K == 7) = false := beq_eq_false_iff_ne.2 k7
     have q8 : (K == 8) = false := beq_eq_false_iff_ne.2 k8
     go_wp2
     go_ret
     exact ⟨by rw [za0 HF]; first | rfl | (rw [Bool.and_true]; rfl) | simp, za0 hbw⟩
theorem zio : ∀ d, RRightAt d
 | 0 => fun t => nomatch t
 | d + 1 => rright_step d (zio d)
end Go.Proofs.YtmpbbmfbgcpplaaGreatDoor
