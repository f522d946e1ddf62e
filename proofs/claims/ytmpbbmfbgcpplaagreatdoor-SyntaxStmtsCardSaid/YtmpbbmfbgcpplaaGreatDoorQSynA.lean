import Derived.Test.YtmpbbmfbgcpplaaGreatDoorQLexA
import Derived.Laws.StructEq
import Derived.RegionTactic
import Derived.Maps.OwnSet
set_option maxHeartbeats 2000000
set_option maxRecDepth 100000
namespace Go.Proofs.YtmpbbmfbgcpplaaGreatDoor
open Go Go.RowKit Lx
def Ty : Nat → Type
 | 0 => Empty
 | d + 1 => Int × Bs × List Bs × List Bool × List (Ty d)
def nodes : (d : Nat) → List (Ty d) → Nat
 | 0, _ => 0
 | _ + 1, [] => 0
 | d + 1, t :: r => (if t.1 = 4 then 0 else 1) + nodes d t.2.2.2.2 + nodes (d + 1) r
def many : (d : Nat) → List (Ty d) → Nat
 | 0, _ => 0
 | _ + 1, [] => 0
 | d + 1, t :: r => 1 + many d t.2.2.2.2 + many (d + 1) r
def deep : (d : Nat) → List (Ty d) → Nat
 | 0, _ => 0
 | _ + 1, [] => 0
 | d + 1, t :: r => max (1 + deep d t.2.2.2.2) (deep (d + 1) r)
theorem zgn : ∀ (d : Nat) (ts : List (Ty d)), nodes d ts ≤ many d ts
 | 0, _ => by simp [nodes]
 | _ + 1, [] => by simp [nodes]
 | d + 1, t :: r => by
  have h1 := zgn d t.2.2.2.2
  have h2 := zgn (d + 1) r
  rw [nodes, many]
  split <;> omega
theorem zhm : ∀ (d : Nat) (ts : List (Ty d)), deep d ts ≤ many d ts
 | 0, _ => by simp [deep]
 | _ + 1, [] => by simp [deep]
 | d + 1, t :: r => by
  have h1 := zhm d t.2.2.2.2
  have h2 := zhm (d + 1) r
  rw [deep, many]
  omega
theorem zcr : ∀ (d : Nat) (ts : List (Ty d)), ts.length ≤ many d ts
 | 0, [] => by simp
 | 0, t :: _ => nomatch t
 | _ + 1, [] => by simp
 | d + 1, t :: r => by
  have h2 := zcr (d + 1) r
  rw [many, List.length_cons]
  omega
theorem zj7 : ∀ (d : Nat) (a b : List (Ty d)), nodes d (a ++ b) = nodes d a + nodes d b
 | 0, _, _ => by simp [nodes]
 | _ + 1, [], _ => by simp [nodes]
 | d + 1, t :: r, b => by
  rw [List.cons_append, nodes, nodes, zj7 (d + 1) r b]
  omega
theorem zhe : ∀ (d : Nat) (a b : List (Ty d)), many d (a ++ b) = many d a + many d b
 | 0, _, _ => by simp [many]
 | _ + 1, [], _ => by simp [many]
 | d + 1, t :: r, b => by
  rw [List.cons_append, many, many, zhe (d + 1) r b]
  omega
theorem zl2 : ∀ (d : Nat) (a b : List (Ty d)), deep d (a ++ b) = max (deep d a) (deep d b)
 | 0, _, _ => by simp [deep]
 | _ + 1, [], _ => by simp [deep]
 | d + 1, t :: r, b => by
  rw [List.cons_append, deep, deep, zl2 (d + 1) r b]
  omega
def SRow (W : World) (v : Value) (ss : List Bs) : Prop :=
 ∃ (p : Option Addr) (c : Nat), v = .slice p ss.length c ∧ ∀ j t, ss[j]? = some t → ∃ g o, p = some ⟨g, o, none⟩ ∧ W.cell? ⟨g, o + j, none⟩ = some (.string ⟨t.toArray⟩)
def BRow (W : World) (v : Value) (bs : List Bool) : Prop :=
 ∃ (p : Option Addr) (c : Nat), v = .slice p bs.length c ∧ ∀ j t, bs[j]? = some t → ∃ g o, p = some ⟨g, o, none⟩ ∧ W.cell? ⟨g, o + j, none⟩ = some (.bool t)
def TyRow (W : World) : (d : Nat) → Value → List (Ty d) → Prop
 | 0, v, _ => ∃ (p : Option Addr) (c : Nat), v = .slice p 0 c
 | d + 1, v, ts => ∃ (p : Option Addr) (c : Nat), v = .slice p ts.length c ∧ ∀ j t, ts[j]? = some t → ∃ (g o : Nat) (vn ve vp : Value), p = some ⟨g, o, none⟩ ∧
   W.cell? ⟨g, o + j * 5, none⟩ = some (.int .i64 t.1) ∧ W.cell? ⟨g, o + j * 5 + 1, none⟩ = some (.string ⟨t.2.1.toArray⟩) ∧
   W.cell? ⟨g, o + j * 5 + 2, none⟩ = some vn ∧ W.cell? ⟨g, o + j * 5 + 3, none⟩ = some ve ∧ W.cell? ⟨g, o + j * 5 + 4, none⟩ = some vp ∧
   SRow W vn t.2.2.1 ∧ BRow W ve t.2.2.2.1 ∧ TyRow W d vp t.2.2.2.2
theorem za2 {w : World} {b o : Nat} {v : Value} (h : w.cell? ⟨b, o, none⟩ = some v) : b < w.heap.size := by
 rcases Nat.lt_or_ge b w.heap.size with h' | h'
 ·exact h'
 ·simp [World.cell?, Array.getElem?_eq_none h'] at h
theorem SRow.below {w w' : World} {v : Value} {ss : List Bs} (h : SRow w v ss) (hb : Below w.heap.size w w') : SRow w' v ss := by
 obtain ⟨p, c, rfl, hp⟩ := h
 refine ⟨p, c, rfl, fun j t ht => ?_⟩
 obtain ⟨g, o, rfl, a0⟩ := hp j t ht
 exact ⟨g, o, rfl, (hb.cell (p := ⟨g, _, none⟩) (za2 a0)).trans a0⟩
theorem BRow.below {w w' : World} {v : Value} {ss : List Bool} (h : BRow w v ss) (hb : Below w.heap.size w w') : BRow w' v ss := by
 obtain ⟨p, c, rfl, hp⟩ := h
 refine ⟨p, c, rfl, fun j t ht => ?_⟩
 obtain ⟨g, o, rfl, a0⟩ := hp j t ht
 exact ⟨g, o, rfl, (hb.cell (p := ⟨g, _, none⟩) (za2 a0)).trans a0⟩
theorem TyRow.below {w w' : World} (hb : Below w.heap.size w w') : ∀ (d : Nat) {v : Value} {ts : List (Ty d)}, TyRow w d v ts → TyRow w' d v ts
 | 0, _, _, h => h
 | d + 1, v, ts, h => by
  obtain ⟨p, c, rfl, hp⟩ := h
  refine ⟨p, c, rfl, fun j t ht => ?_⟩
  obtain ⟨g, o, vn, ve, vp, rfl, a0, a1, a2, a3, a4, r1, r2, r3⟩ := hp j t ht
  have hg := za2 a0
  exact ⟨g, o, vn, ve, vp, rfl, (hb.cell (p := ⟨g, _, none⟩) hg).trans a0, (hb.cell (p := ⟨g, _, none⟩) hg).trans a1, (hb.cell (p := ⟨g, _, none⟩) hg).trans a2, (hb.cell (p := ⟨g, _, none⟩) hg).trans a3, (hb.cell (p := ⟨g, _, none⟩) hg).trans a4, r1.below hb, r2.below hb, TyRow.below hb d r3⟩
theorem TyRow.slice {w : World} : ∀ {d : Nat} {v : Value} {ts : List (Ty d)}, TyRow w d v ts → ∃ (p : Option Addr) (c : Nat), v = .slice p ts.length c
 | 0, _, [], h => h
 | 0, _, t :: _, _ => nomatch t
 | _ + 1, _, _, ⟨p, c, e, _⟩ => ⟨p, c, e⟩
open Go Go.RowKit Go.Maps Lx
def keyB (s : Bs) : Lit := .string s
def setB (ss : List Bs) : DataW Unit := setOf (.agg []) (ss.map keyB)
theorem keyB_lit (s : Bs) : WideAt.IsKeyLit (keyB s) := by simp [WideAt.IsKeyLit, keyB]
theorem keys_lit (ss : List Bs) : ∀ x ∈ ss.map keyB, WideAt.IsKeyLit x := by
 intro x hx
 obtain ⟨s, _, rfl⟩ := List.mem_map.1 hx
 exact keyB_lit s
theorem zjz (ss : List Bs) (s : Bs) : setB (ss ++ [s]) = (setB ss).put (keyB s) (.agg []) := by
 rw [setB, List.map_append, List.map_cons, List.map_nil, setOf_snoc]; rfl
theorem zji (ss : List Bs) (s : Bs) : has (setB ss) (keyB s) = true ↔ s ∈ ss := by
 rw [setB, has_setOf _ _ _ (keys_lit ss), List.any_eq_true]
 constructor
 ·rintro ⟨x, hx, he⟩
  obtain ⟨t, ht, rfl⟩ := List.mem_map.1 hx
  by_cases h : t = s
  ·exact h ▸ ht
  ·rw [sameKey_ne (fun e => h (by simpa [keyB] using e))] at he
   cases he
 ·intro h
  exact ⟨keyB s, List.mem_map.2 ⟨s, h, rfl⟩, WideAt.sameKey_self (keyB_lit s)⟩
theorem setB_size_snoc (ss : List Bs) (s : Bs) : Maps.size (setB (ss ++ [s])) = if s ∈ ss then Maps.size (setB ss) else Maps.size (setB ss) + 1 := by
 have ht : Tidy (setB ss) := tidy_setOf _ _ (keys_lit ss)
 rw [zjz, size_put ht]
 by_cases h : s ∈ ss
 ·rw [if_pos h, if_pos ((zji ss s).2 h)]
 ·rw [if_neg h, if_neg (fun e => h ((zji ss s).1 e))]
theorem setB_size : ∀ (n : Nat) (ss : List Bs), ss.length = n → (Maps.size (setB ss) = ss.length ↔ ss.Nodup) ∧ Maps.size (setB ss) ≤ ss.length
 | 0, ss, h => by
  obtain rfl := List.length_eq_zero_iff.1 h
  exact ⟨by simp [setB, setOf, Maps.size], by simp [setB, setOf, Maps.size]⟩
 | n + 1, ss, h => by
  rcases List.eq_nil_or_concat ss with rfl | ⟨r, s, rfl⟩
  ·simp at h
  ·rw [List.concat_eq_append] at h ⊢
   have hr : r.length = n := by simpa using h
   obtain ⟨i1, i2⟩ := setB_size n r hr
   rw [setB_size_snoc]
   by_cases hm : s ∈ r
   ·rw [if_pos hm]
    refine ⟨⟨fun e => ?_, fun e => ?_⟩, ?_⟩
    ·simp at e; omega
    ·rw [List.nodup_append] at e
     exact absurd rfl (e.2.2 s hm s (by simp))
    ·simp; omega
   ·rw [if_neg hm]
    refine ⟨⟨fun e => ?_, fun e => ?_⟩, ?_⟩
    ·rw [List.nodup_append]
     refine ⟨i1.1 (by simp at e; omega), by simp, fun a ha b hb => ?_⟩
     rw [List.mem_singleton] at hb
     rintro rfl
     exact hm (hb ▸ ha)
    ·rw [List.nodup_append] at e
     have := i1.2 e.1
     simp; omega
    ·simp; omega
def fnsB : (d : Nat) → List (Ty d) → Bool
 | 0, _ => true
 | _ + 1, ts => ts.all fun t => t.1 == 7
theorem fns_drop {d : Nat} {ts : List (Ty (d + 1))} {k : Nat} (h : k < ts.length) : fnsB (d + 1) (ts.drop k) = ((ts[k].1 == 7) && fnsB (d + 1) (ts.drop (k + 1))) := by
 rw [List.drop_eq_getElem_cons h, fnsB, fnsB, List.all_cons]
theorem functions_any (d : Nat) (v : Value) (ts : List (Ty d)) (w : World) (hv : TyRow w d v ts) (hm : ts.length ≤ 1000000) :
  Calls Tryz.prog 142 #[v] w fun e w' => e = .returned (.bool (fnsB d ts)) ∧ Below w.heap.size w w' := by
 cases d with
 | zero =>
  obtain ⟨p, c, rfl⟩ := hv
  go_enter Tryz.func142, Tryz.ntmps142
  go_wp2
  go_loopw [7] (fun i wr => i = .int .i64 0 ∧ wr = w) (fun _ _ => 0)
  case atStart => exact ⟨rfl, rfl⟩
  case round =>
   obtain ⟨rfl, rfl⟩ := hrel
   go_wp2
   go_ret
   exact ⟨by simp [fnsB], Below.refl _ _⟩
 | succ d =>
  obtain ⟨p, c, rfl, hp⟩ := hv
  have HP := za3 hp
  clear hp
  go_enter Tryz.func142, Tryz.ntmps142
  go_wp2
  go_loopw [7] (fun i wr => ∃ k : Nat, i = .int .i64 k ∧ k ≤ ts.length ∧ Hid (fnsB (d + 1) ts = fnsB (d + 1) (ts.drop k)) ∧ Below w.heap.size w wr) (fun i _ => ts.length - (intOf i).toNat)
  case atStart => exact ⟨0, rfl, by omega, rfl, Below.refl _ _⟩
  case round =>
   obtain ⟨k, rfl, hk, HM, hb⟩ := hrel
   by_cases hlt : k < ts.length
   ·obtain ⟨g, o, vn, ve, vp, rfl, a0, a1, a2, a3, a4, r1, r2, r3⟩ := za0 HP k ts[k] (by simp [hlt])
    have hlt' : (k : Int) < (ts.length : Int) := by omega
    obtain ⟨pn, cn, rfl, _⟩ := r1
    obtain ⟨pe, ce, rfl, _⟩ := r2
    obtain ⟨pp, cp, rfl⟩ := r3.slice
    have hg := za2 a0
    have b0 := (hb.cell (p := ⟨g, _, none⟩) hg).trans a0
    have b1 := (hb.cell (p := ⟨g, _, none⟩) hg).trans a1
    have b2 := (hb.cell (p := ⟨g, _, none⟩) hg).trans a2
    have b3 := (hb.cell (p := ⟨g, _, none⟩) hg).trans a3
    have b4 := (hb.cell (p := ⟨g, _, none⟩) hg).trans a4
    have HB := za3 hb
    have HT := za3 (fns_drop hlt)
    have hsz := hb.size
    clear a0 a1 a2 a3 a4 r3 hb
    by_cases h4 : ts[k].1 = 7
    ·rw [h4] at b0
     go_wp2
     go_roundw
     case rel => exact ⟨k + 1, by go_num, by omega, (by rw [za0 HM, za0 HT, h4]; rfl), (za0 HB).alloc hsz _⟩
     case measure => simp [intOf]; omega
    ·go_wp2
     go_ret
     exact ⟨by rw [za0 HM, za0 HT, beq_eq_false_iff_ne.mpr h4]; rfl, (za0 HB).alloc hsz _⟩
   ·go_wp2
    go_ret
    exact ⟨by rw [za0 HM, List.drop_of_length_le (by omega)]; rfl, hb⟩
theorem nodes_take {d : Nat} {ts : List (Ty (d + 1))} {k : Nat} (h : k < ts.length) : nodes (d + 1) (ts.take (k + 1)) = nodes (d + 1) (ts.take k) + (if ts[k].1 = 4 then 0 else 1) + nodes d ts[k].2.2.2.2 := by
 rw [List.take_succ_eq_append_getElem h, zj7, nodes, nodes]
 omega
theorem many_at {d : Nat} {ts : List (Ty (d + 1))} {k : Nat} (h : k < ts.length) : many (d + 1) (ts.take k) + 1 + many d ts[k].2.2.2.2 ≤ many (d + 1) ts := by
 have e : many (d + 1) ts = many (d + 1) (ts.take (k + 1)) + many (d + 1) (ts.drop (k + 1)) := by rw [← zhe, List.take_append_drop]
 rw [e, List.take_succ_eq_append_getElem h, zhe, many, many]
 omega
theorem Nodes_any : ∀ (d : Nat) (v : Value) (ts : List (Ty d)) (w : World), TyRow w d v ts → many d ts ≤ 1000000 →
  Calls Tryz.prog 33 #[v] w fun e w' => e = .returned (.int .i64 (nodes d ts : Nat)) ∧ Below w.heap.size w w'
 | 0, v, ts, w, hv, _ => by
  obtain ⟨p, c, rfl⟩ := hv
  go_enter Tryz.func33, Tryz.ntmps33
  go_wp2
  go_loopw [3, 8] (fun n i wr => n = .int .i64 0 ∧ i = .int .i64 0 ∧ wr = w) (fun _ _ _ => 0)
  case atStart => exact ⟨rfl, rfl, rfl⟩
  case round =>
   obtain ⟨rfl, rfl, rfl⟩ := hrel
   go_wp2
   go_ret
   exact ⟨by simp [nodes], Below.refl _ _⟩
 | d + 1, v, ts, w, hv, hm => by
  have HV := za3 hv
  obtain ⟨p, c, rfl, hp⟩ := hv
  have HP := za3 hp
  have hlen := zcr _ ts
  clear hp
  go_enter Tryz.func33, Tryz.ntmps33
  go_wp2
  go_loopw [3, 8] (fun n i wr => ∃ k m : Nat, i = .int .i64 k ∧ k ≤ ts.length ∧ n = .int .i64 m ∧ Hid (m = nodes (d + 1) (ts.take k)) ∧ Below w.heap.size w wr) (fun _ i _ => ts.length - (intOf i).toNat)
  case atStart => exact ⟨0, 0, rfl, by omega, rfl, by show _ = _; simp [nodes], Below.refl _ _⟩
  case round =>
   obtain ⟨k, m, rfl, hk, rfl, HM, hb⟩ := hrel
   by_cases hlt : k < ts.length
   ·obtain ⟨g, o, vn, ve, vp, rfl, a0, a1, a2, a3, a4, r1, r2, r3⟩ := za0 HP k ts[k] (by simp [hlt])
    have hlt' : (k : Int) < (ts.length : Int) := by omega
    obtain ⟨pn, cn, rfl, _⟩ := r1
    obtain ⟨pe, ce, rfl, _⟩ := r2
    obtain ⟨pp, cp, rfl⟩ := r3.slice
    have hg := za2 a0
    have b0 := (hb.cell (p := ⟨g, _, none⟩) hg).trans a0
    have b1 := (hb.cell (p := ⟨g, _, none⟩) hg).trans a1
    have b2 := (hb.cell (p := ⟨g, _, none⟩) hg).trans a2
    have b3 := (hb.cell (p := ⟨g, _, none⟩) hg).trans a3
    have b4 := (hb.cell (p := ⟨g, _, none⟩) hg).trans a4
    have HB := za3 hb
    have HA := za3 (many_at hlt)
    have HT := za3 (nodes_take hlt)
    have hml : m ≤ 1000000 := by have := za0 HM; have := zgn _ (ts.take k); have := za0 HA; omega
    have hnl : nodes d ts[k].2.2.2.2 ≤ 1000000 := by have := zgn _ ts[k].2.2.2.2; have := za0 HA; omega
    have hsz := hb.size
    obtain ⟨z, hz⟩ : ∃ z, z = nodes d ts[k].2.2.2.2 := ⟨_, rfl⟩
    have IH : Hid (∀ W, Below w.heap.size w W → Calls Tryz.prog 33 #[.slice pp ts[k].2.2.2.2.length cp] W fun e w' => e = .returned (.int .i64 (z : Nat)) ∧ Below W.heap.size W w') := fun W hW => by
     rw [hz]; exact Nodes_any d _ _ W (TyRow.below hW d r3) (by have := za0 HA; omega)
    clear a0 a1 a2 a3 a4 r3 hb
    have b0' := b0
    by_cases h4 : ts[k].1 = 4
    ·rw [h4] at b0
     go_wp2_with (go_at_call 33; refine (za0 IH _ ((za0 HB).alloc hsz _)).mono ?_; clear IH; rintro e w1 ⟨rfl, hb1⟩)
     go_roundw
     case rel => exact ⟨k + 1, m + z, by go_num, by omega, by go_num, (by have := za0 HT; rw [if_pos h4] at this; rw [za0 HM, hz]; show _ = _; omega), ((za0 HB).alloc hsz _).trans (hb1.mono (by simp; omega))⟩
     case measure => simp [intOf]; omega
    ·go_wp2_with (go_at_call 33; refine (za0 IH _ ((za0 HB).alloc hsz _)).mono ?_; clear IH; rintro e w1 ⟨rfl, hb1⟩)
     go_roundw
     case rel => exact ⟨k + 1, m + 1 + z, by go_num, by omega, by go_num, (by have := za0 HT; rw [if_neg h4] at this; rw [za0 HM, hz]; show _ = _; omega), ((za0 HB).alloc hsz _).trans (hb1.mono (by simp; omega))⟩
     case measure => simp [intOf]; omega
   ·go_wp2
    go_ret
    exact ⟨by rw [za0 HM, List.take_of_length_le (by omega)]; rfl, hb⟩
theorem deep_take {d : Nat} {ts : List (Ty (d + 1))} {k : Nat} (h : k < ts.length) : deep (d + 1) (ts.take (k + 1)) = max (deep (d + 1) (ts.take k)) (1 + deep d ts[k].2.2.2.2) := by
 rw [List.take_succ_eq_append_getElem h, zl2, deep, deep]
 omega
theorem zke : ∀ (d : Nat) (v : Value) (ts : List (Ty d)) (w : World), TyRow w d v ts → many d ts ≤ 1000000 →
  Calls Tryz.prog 36 #[v] w fun e w' => e = .returned (.int .i64 (deep d ts : Nat)) ∧ Below w.heap.size w w'
 | 0, v, ts, w, hv, _ => by
  obtain ⟨p, c, rfl⟩ := hv
  go_enter Tryz.func36, Tryz.ntmps36
  go_wp2
  go_loopw [3, 8] (fun n i wr => n = .int .i64 0 ∧ i = .int .i64 0 ∧ wr = w) (fun _ _ _ => 0)
  case atStart => exact ⟨rfl, rfl, rfl⟩
  case round =>
   obtain ⟨rfl, rfl, rfl⟩ := hrel
   go_wp2
   go_ret
   exact ⟨by simp [deep], Below.refl _ _⟩
 | d + 1, v, ts, w, hv, hm => by
  have HV := za3 hv
  obtain ⟨p, c, rfl, hp⟩ := hv
  have HP := za3 hp
  have hlen := zcr _ ts
  clear hp
  go_enter Tryz.func36, Tryz.ntmps36
  go_wp2
  go_loopw [3, 8] (fun n i wr => ∃ k m : Nat, i = .int .i64 k ∧ k ≤ ts.length ∧ n = .int .i64 m ∧ Hid (m = deep (d + 1) (ts.take k)) ∧ Below w.heap.size w wr) (fun _ i _ => ts.length - (intOf i).toNat)
  case atStart => exact ⟨0, 0, rfl, by omega, rfl, by show _ = _; simp [deep], Below.refl _ _⟩
  case round =>
   obtain ⟨k, m, rfl, hk, rfl, HM, hb⟩ := hrel
   by_cases hlt : k < ts.length
   ·obtain ⟨g, o, vn, ve, vp, rfl, a0, a1, a2, a3, a4, r1, r2, r3⟩ := za0 HP k ts[k] (by simp [hlt])
    have hlt' : (k : Int) < (ts.length : Int) := by omega
    obtain ⟨pn, cn, rfl, _⟩ := r1
    obtain ⟨pe, ce, rfl, _⟩ := r2
    obtain ⟨pp, cp, rfl⟩ := r3.slice
    have hg := za2 a0
    have b0 := (hb.cell (p := ⟨g, _, none⟩) hg).trans a0
    have b1 := (hb.cell (p := ⟨g, _, none⟩) hg).trans a1
    have b2 := (hb.cell (p := ⟨g, _, none⟩) hg).trans a2
    have b3 := (hb.cell (p := ⟨g, _, none⟩) hg).trans a3
    have b4 := (hb.cell (p := ⟨g, _, none⟩) hg).trans a4
    have HB := za3 hb
    have HA := za3 (many_at hlt)
    have HT := za3 (deep_take hlt)
    have hml : m ≤ 1000000 := by have := za0 HM; have := zhm _ (ts.take k); have := za0 HA; omega
    have hnl : deep d ts[k].2.2.2.2 ≤ 1000000 := by have := zhm _ ts[k].2.2.2.2; have := za0 HA; omega
    have hsz := hb.size
    obtain ⟨z, hz⟩ : ∃ z, z = deep d ts[k].2.2.2.2 := ⟨_, rfl⟩
    have IH : Hid (∀ W, Below w.heap.size w W → Calls Tryz.prog 36 #[.slice pp ts[k].2.2.2.2.length cp] W fun e w' => e = .returned (.int .i64 (z : Nat)) ∧ Below W.heap.size W w') := fun W hW => by
     rw [hz]; exact zke d _ _ W (TyRow.below hW d r3) (by have := za0 HA; omega)
    clear a0 a1 a2 a3 a4 r3 hb
    go_wp2_with (go_at_call 36; refine (za0 IH _ ((za0 HB).alloc hsz _)).mono ?_; clear IH; rintro e w1 ⟨rfl, hb1⟩)
    go_roundw
    case rel => exact ⟨k + 1, max m (1 + deep d ts[k].2.2.2.2), by go_num, by omega, (by congr 1; omega), (by have := za0 HT; rw [za0 HM]; show _ = _; omega), ((za0 HB).alloc hsz _).trans (hb1.mono (by simp; omega))⟩
    case measure => simp [intOf]; omega
   ·go_wp2
    go_ret
    exact ⟨by rw [za0 HM, List.take_of_length_le (by omega)]; rfl, hb⟩
end Go.Proofs.YtmpbbmfbgcpplaaGreatDoor
