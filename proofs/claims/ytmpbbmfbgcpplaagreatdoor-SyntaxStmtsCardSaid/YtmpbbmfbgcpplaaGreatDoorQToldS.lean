import Derived.Test.YtmpbbmfbgcpplaaGreatDoorQTypesPure
import Derived.Test.YtmpbbmfbgcpplaaGreatDoorQExF
import Derived.Test.YtmpbbmfbgcpplaaGreatDoorQSizeG
import Derived.Test.YtmpbbmfbgcpplaaGreatDoorQPartsG
import Derived.Test.YtmpbbmfbgcpplaaGreatDoorQXOwn
import Derived.Test.YtmpbbmfbgcpplaaGreatDoorQToldR
import Derived.Test.YtmpbbmfbgcpplaaGreatDoorQTypedG
import Derived.Deep.DeepCutAuto
import Derived.Deep.CutBlock
set_option maxHeartbeats 1000000
set_option maxRecDepth 100000
namespace Go.Proofs.YtmpbbmfbgcpplaaGreatDoor
open Go Go.RowKit Lx
theorem level_one (K : Int) : 1 ≤ zbj K := by
 unfold zbj
 repeat' split
 all_goals decide
theorem zhx (K : Int) (tk : List Tok) : zaz K 1 tk = tk := by
 have := level_one K
 rw [zaz, if_neg (by omega)]
theorem cn_part (K a : Int) (tk : List Tok) : cn (zaz K a tk) ≤ cn tk + 2 := by
 unfold zaz zeq
 split
 ·rw [zag, zan, zag, zb8]; omega
 ·omega
theorem cn_aside (tk : List Tok) : cn (zeq tk) = cn tk + 2 := by
 unfold zeq
 rw [zag, zan, zag, zb8]; omega
theorem cn_oper (K : Int) : cn (zja K) ≤ 1 := by
 unfold zja
 repeat' split
 all_goals first | exact Nat.le_refl _ | exact Nat.zero_le _
theorem cn_comma (f : Nat → List Tok) (i : Nat) : cn (zcu f i) ≤ 1 + cn (f i) := by
 unfold zcu
 rw [zan]
 split
 ·rw [zag, zb8]; omega
 ·rw [zb8]; omega
theorem exT_cnt {K N : Int} {S : Bs} {nm : Nat → Bs} {q : Nat} {Ks : Nat → Int} {tk : Nat → List Tok} {typ : List Tok} {g : Nat → Nat} {G T : Nat} (h0 : ∀ i, cn (tk i) ≤ g i) (h1 : ∀ i, i < q → cn (tk i) + 3 ≤ g i) (hG : ∀ n, ((List.range n).map g).sum ≤ G) (hT : cn typ ≤ 4 * T) :
  cn (exT K N S nm q Ks tk typ) ≤ 6 + G + 4 * T := by
 have g1 := hG 1
 have g2 := hG 2
 simp only [List.range_one, List.map_cons, List.map_nil, List.sum_cons, List.sum_nil, show List.range 2 = [0, 1] from rfl] at g1 g2
 have z0 := h0 0
 have z1 := h0 1
 have hp := fun i a => cn_part (Ks i) a (tk i)
 have hargs : cn (zfy (q - 1) (fun k => zaz (Ks (k + 1)) 1 (tk (k + 1)))) + cn (tk 0) + (if 0 < q then 3 else 0) ≤ 2 + G := by
  unfold zfy
  rw [zag, zan, zj2, zag, zb8]
  have e1 : ((List.range (q - 1)).map fun i => cn (zcu (fun k => zaz (Ks (k + 1)) 1 (tk (k + 1))) i)).sum ≤ ((List.range (q - 1)).map fun i => g (i + 1)).sum := zfw fun i hi => by
   have := cn_comma (fun k => zaz (Ks (k + 1)) 1 (tk (k + 1))) i
   rw [zhx] at this
   have := h1 (i + 1) (by omega)
   omega
  rcases Nat.eq_zero_or_pos q with hq | hq
  ·subst hq
   simp at e1 ⊢
   omega
  ·rw [if_pos hq]
   have e2 := hG q
   obtain ⟨m, rfl⟩ : ∃ m, q = m + 1 := ⟨q - 1, by omega⟩
   rw [List.range_succ_eq_map, List.map_cons, List.sum_cons, List.map_map] at e2
   have e3 : ((List.range m).map (g ∘ Nat.succ)).sum = ((List.range (m + 1 - 1)).map fun i => g (i + 1)).sum := rfl
   have := h1 0 hq
   omega
 have hlit : cn (litT S q nm (fun k => zaz (Ks k) 1 (tk k))) ≤ 3 + G := by
  unfold litT
  rw [zag, zag, zan, zj2, zag, zb8]
  have e1 : ((List.range q).map fun i => cn (zcu (fun i => tN (nm i) :: tS [58] :: (fun k => zaz (Ks k) 1 (tk k)) i) i)).sum ≤ ((List.range q).map g).sum := zfw fun i hi => by
   have := cn_comma (fun i => tN (nm i) :: tS [58] :: (fun k => zaz (Ks k) 1 (tk k)) i) i
   have h2 : cn ((fun i => tN (nm i) :: tS [58] :: (fun k => zaz (Ks k) 1 (tk k)) i) i) = 2 + cn (tk i) := by
    show cn (tN (nm i) :: tS [58] :: zaz (Ks i) 1 (tk i)) = _
    rw [zag, zag, zhx]; omega
   rw [h2] at this
   have := h1 i hi
   omega
  have e2 := hG q
  omega
 rw [exT]
 by_cases k0 : twoB K = true
 ·rw [if_pos k0, zan, zan]
  have a1 := hp 0 (if K = 18 ∨ K = 19 then zbj K + 1 else zbj K)
  have a2 := hp 1 (zbj K + 1)
  have a3 := cn_oper K
  omega
 rw [if_neg k0]
 by_cases k1 : K = 12
 ·rw [if_pos k1, zan, zag]
  have a1 := hp 0 7
  omega
 rw [if_neg k1]
 by_cases k2 : K = 9
 ·rw [if_pos k2, zan, zag, zag, zb8]
  have a1 := hp 0 7
  omega
 rw [if_neg k2]
 by_cases k3 : K = 10
 ·rw [if_pos k3, zan, zag, zag]
  have a1 := hp 0 7
  split at hargs <;> omega
 rw [if_neg k3]
 by_cases k4 : K = 11
 ·rw [if_pos k4, zan]
  have a1 := hp 0 7
  have a2 := cn_aside (tk 0)
  have a3 : cn (if Ks 0 = 9 then zeq (tk 0) else zaz (Ks 0) 7 (tk 0)) ≤ cn (tk 0) + 2 := by split <;> omega
  omega
 rw [if_neg k4]
 by_cases k5 : K = 13
 ·rw [if_pos k5, zag]
  have a1 := hp 0 6
  omega
 rw [if_neg k5]
 by_cases k6 : K = 14
 ·rw [if_pos k6, zag]
  have a1 := hp 0 6
  omega
 rw [if_neg k6]
 by_cases k7 : K = 1
 ·rw [if_pos k7, zag, zb8]; omega
 rw [if_neg k7]
 by_cases k8 : K = 2
 ·rw [if_pos k8, zag, zb8]; omega
 rw [if_neg k8]
 by_cases k9 : K = 3
 ·rw [if_pos k9, zag, zb8]; omega
 rw [if_neg k9]
 by_cases k10 : K = 4
 ·rw [if_pos k10, zag, zb8]; omega
 rw [if_neg k10]
 by_cases k11 : K = 5
 ·rw [if_pos k11, zag, zb8]; omega
 rw [if_neg k11]
 by_cases k12 : K = 6
 ·rw [if_pos k12, zag]; omega
 rw [if_neg k12]
 by_cases k13 : K = 7
 ·rw [if_pos k13]; omega
 rw [if_neg k13]
 by_cases k14 : K = 8
 ·rw [if_pos k14, zag]; omega
 rw [if_neg k14, zb8]; omega
theorem ex_cnt (D : Nat) : ∀ (d : Nat) (x : Ex D d), cn (zij D d x) + 3 ≤ 9 * szX D d x
 | 0, x => nomatch x
 | d + 1, x => by
  obtain ⟨A, K, N, S, ts, ns, xs⟩ := x
  have hsz : szX D (d + 1) (A, K, N, S, ts, ns, xs) = 1 + S.length + ns.length + zgs ns + szL D ts + (xs.map (szX D d)).sum := rfl
  rw [hsz]
  have h := exT_cnt (K := K) (N := N) (S := S) (nm := fun i => ns.getD i []) (q := xs.length) (Ks := fun i => (xs[i]?.map (zd0 D d)).getD 0) (tk := fun i => (xs[i]?.map (zij D d)).getD []) (typ := (ts[0]?.map (zac D false)).getD []) (g := fun i => (xs[i]?.map fun u => 9 * szX D d u).getD 0) (G := 9 * (xs.map (szX D d)).sum) (T := szL D ts) (fun i => ?_) (fun i hi => ?_) (fun n => ?_) ?_
  ·exact Nat.le_trans (Nat.add_le_add_right h 3) (by omega)
  ·rcases e : xs[i]? with _ | u
   ·exact Nat.le_refl _
   ·have := ex_cnt D d u
    exact (show cn (zij D d u) ≤ 9 * szX D d u by omega)
  ·have e : xs[i]? = some xs[i] := by simp
   show cn ((xs[i]?.map (zij D d)).getD []) + 3 ≤ (xs[i]?.map fun u => 9 * szX D d u).getD 0
   rw [e]
   exact ex_cnt D d xs[i]
  ·refine Nat.le_trans (zgu xs (fun u => 9 * szX D d u) n) ?_
   clear hsz
   induction xs with
   | nil => simp
   | cons x r ih => simp only [List.map_cons, List.sum_cons]; omega
  ·rcases e : ts[0]? with _ | u
   ·exact Nat.zero_le _
   ·have h1 := zi8 D false u
    have h2 : szD D u ≤ szL D ts := ze6 (List.mem_of_getElem? e)
    exact (show cn (zac D false u) ≤ 4 * szL D ts by omega)
def Sh (B : Nat) (ts : List Tok) : Prop := ∀ t ∈ ts, (za5 t).length ≤ B
section
variable {B : Nat}
theorem zby : Sh B [] := fun _ h => nomatch h
theorem zil {t : Tok} {b : List Tok} (h : (za5 t).length ≤ B) (k : Sh B b) : Sh B (t :: b) := fun u hu => by
 rcases List.mem_cons.1 hu with rfl | hu
 ·exact h
 ·exact k u hu
theorem zb5 {a b : List Tok} (h : Sh B a) (k : Sh B b) : Sh B (a ++ b) := fun t ht => by
 rcases List.mem_append.1 ht with h1 | h1
 ·exact h t h1
 ·exact k t h1
theorem sh_flat {α : Type} {l : List α} {f : α → List Tok} (h : ∀ a ∈ l, Sh B (f a)) : Sh B (l.flatMap f) := fun t ht => by
 obtain ⟨a, ha, hat⟩ := List.mem_flatMap.1 ht
 exact h a ha t hat
theorem sh_opt {α : Type} {l : List α} {i : Nat} {f : α → List Tok} (h : ∀ a ∈ l, Sh B (f a)) : Sh B ((l[i]?.map f).getD []) := by
 rcases hi : l[i]? with _ | a
 ·exact zby
 ·exact h a (List.mem_of_getElem? hi)
theorem sh_S {s : Bs} {b : List Tok} (h : s.length ≤ B) (k : Sh B b) : Sh B (tS s :: b) := zil (by rw [zb7]; exact h) k
theorem sh_W {s : Bs} {b : List Tok} (h : s.length ≤ B) (k : Sh B b) : Sh B (tW s :: b) := zil (by rw [zcb]; exact h) k
theorem sh_N {s : Bs} {b : List Tok} (h : s.length ≤ B) (k : Sh B b) : Sh B (tN s :: b) := zil (by rw [zfr]; exact h) k
theorem sh_T {s : Bs} {b : List Tok} (h : s.length ≤ B) (k : Sh B b) : Sh B (tT s :: b) := zil (by rw [show za5 (tT s) = s from by rw [zay (show (2 : Int) ≠ 4 by decide) (show (2 : Int) ≠ 5 by decide)]; rfl]; exact h) k
theorem sh_aside {tk : List Tok} (hB : 25 ≤ B) (h : Sh B tk) : Sh B (zeq tk) := by
 have : 1 ≤ B := by omega
 exact sh_S this (zb5 h (sh_S this zby))
theorem sh_part {K a : Int} {tk : List Tok} (hB : 25 ≤ B) (h : Sh B tk) : Sh B (zaz K a tk) := by
 unfold zaz; split
 ·exact sh_aside hB h
 ·exact h
theorem sh_commas {n : Nat} {f : Nat → List Tok} (hB : 25 ≤ B) (h : ∀ i, Sh B (f i)) : Sh B ((List.range n).flatMap (zcu f)) := sh_flat fun i _ => by
 have : 1 ≤ B := by omega
 unfold zcu; split
 ·exact zb5 (sh_S this zby) (h i)
 ·exact zb5 zby (h i)
theorem sh_args {n : Nat} {f : Nat → List Tok} (hB : 25 ≤ B) (h : ∀ i, Sh B (f i)) : Sh B (zfy n f) := by
 have : 1 ≤ B := by omega
 exact sh_S this (zb5 (sh_commas hB h) (sh_S this zby))
theorem sh_lit {S : Bs} {n : Nat} {nm : Nat → Bs} {f : Nat → List Tok} (hB : 25 ≤ B) (hS : S.length ≤ B) (hn : ∀ i, (nm i).length ≤ B) (h : ∀ i, Sh B (f i)) : Sh B (litT S n nm f) := by
 have : 1 ≤ B := by omega
 exact sh_T hS (sh_S this (zb5 (sh_commas hB fun i => sh_N (hn i) (sh_S this (h i))) (sh_S this zby)))
theorem sh_oper (hB : 25 ≤ B) (K : Int) : Sh B (zja K) := by
 have h1 : 1 ≤ B := by omega
 have h2 : 2 ≤ B := by omega
 have h3 : 3 ≤ B := by omega
 unfold zja
 repeat' split
 all_goals first | exact sh_S h1 zby | exact sh_S h2 zby | exact sh_W h3 zby | exact sh_W h2 zby | exact zby
theorem sh_ite {p : Prop} [Decidable p] {a b : List Tok} (ha : Sh B a) (hb : Sh B b) : Sh B (if p then a else b) := by
 by_cases h : p
 ·rw [if_pos h]; exact ha
 ·rw [if_neg h]; exact hb
theorem escs_le : ∀ s : Bs, (zgw s).length ≤ 2 * s.length
 | [] => by simp [zgw]
 | c :: r => by
  have h1 := escs_le r
  have h2 := esc1_len c
  rw [zct, List.length_append, List.length_cons]
  omega
theorem exT_short {K N : Int} {S : Bs} {nm : Nat → Bs} {q : Nat} {Ks : Nat → Int} {tk : Nat → List Tok} {typ : List Tok} (hB : 25 ≤ B) (hS : 2 * S.length + 2 ≤ B) (hN : K = 1 → (za5 (0, 4, [], N)).length ≤ B) (hn : ∀ i, (nm i).length ≤ B) (ht : ∀ i, Sh B (tk i)) (hty : Sh B typ) : Sh B (exT K N S nm q Ks tk typ) := by
 have hp := fun i a => sh_part (K := Ks i) (a := a) hB (ht i)
 have h1 : 1 ≤ B := by omega
 have h2 : 2 ≤ B := by omega
 have h3 : 3 ≤ B := by omega
 have h4 : 4 ≤ B := by omega
 have h5 : 5 ≤ B := by omega
 have hS' : S.length ≤ B := by omega
 rw [exT]
 by_cases k0 : twoB K = true
 ·rw [if_pos k0]
  exact zb5 (zb5 (hp _ _) (sh_oper hB _)) (hp _ _)
 rw [if_neg k0]
 by_cases k1 : K = 12
 ·rw [if_pos k1]
  exact zb5 (hp _ _) (sh_W h2 hty)
 rw [if_neg k1]
 by_cases k2 : K = 9
 ·rw [if_pos k2]
  exact zb5 (hp _ _) (sh_S h1 (sh_N hS' zby))
 rw [if_neg k2]
 by_cases k3 : K = 10
 ·rw [if_pos k3]
  exact zb5 (hp _ _) (sh_S h1 (sh_N hS' (sh_args hB fun i => hp _ _)))
 rw [if_neg k3]
 by_cases k4 : K = 11
 ·rw [if_pos k4]
  exact zb5 (sh_ite (sh_aside hB (ht 0)) (hp _ _)) (sh_args hB fun i => hp _ _)
 rw [if_neg k4]
 by_cases k5 : K = 13
 ·rw [if_pos k5]
  exact sh_S h1 (hp _ _)
 rw [if_neg k5]
 by_cases k6 : K = 14
 ·rw [if_pos k6]
  exact sh_W h3 (hp _ _)
 rw [if_neg k6]
 by_cases k7 : K = 1
 ·rw [if_pos k7]
  exact zil (hN k7) zby
 rw [if_neg k7]
 by_cases k8 : K = 2
 ·rw [if_pos k8]
  refine zil ?_ zby
  have := escs_le S
  rw [zcq, quote, List.length_cons, List.length_append, List.length_cons, List.length_nil]
  omega
 rw [if_neg k8]
 by_cases k9 : K = 3
 ·rw [if_pos k9]
  by_cases z : N = 0
  ·rw [if_pos z]; exact sh_W h5 zby
  ·rw [if_neg z]; exact sh_W h4 zby
 rw [if_neg k9]
 by_cases k10 : K = 4
 ·rw [if_pos k10]
  exact sh_N hS' zby
 rw [if_neg k10]
 by_cases k11 : K = 5
 ·rw [if_pos k11]
  exact sh_W h4 zby
 rw [if_neg k11]
 by_cases k12 : K = 6
 ·rw [if_pos k12]
  exact sh_W h3 hty
 rw [if_neg k12]
 by_cases k13 : K = 7
 ·rw [if_pos k13]
  exact sh_lit hB hS' hn fun i => hp _ _
 rw [if_neg k13]
 by_cases k14 : K = 8
 ·rw [if_pos k14]
  exact sh_W h3 (sh_lit hB hS' hn fun i => hp _ _)
 rw [if_neg k14]
 exact zby
end
theorem ze1 {D d : Nat} {x : Ex D (d + 1)} (h : ∃ room, zbi D (d + 1) room x = true) : zc4 D d x = true ∧ zak D 64 (xT x) = true ∧ ∀ u ∈ xPs x, ∃ room, zbi D d room u = true := by
 obtain ⟨room, h⟩ := h
 rw [zbi] at h
 simp only [Bool.and_eq_true] at h
 obtain ⟨⟨⟨_, h1⟩, h2⟩, h3⟩ := h
 refine ⟨h1, h2, fun u hu => ?_⟩
 obtain ⟨i, hi, rfl⟩ := List.getElem_of_mem hu
 rw [zkq, List.all_eq_true] at h3
 have := h3 i (List.mem_range.2 hi)
 rw [List.getElem?_eq_getElem hi] at this
 exact ⟨_, this⟩
theorem zds {D d : Nat} {x : Ex D (d + 1)} (h : zc4 D d x = true) : 0 ≤ xN x ∧ xN x ≤ 9223372036854775807 ∧ 1 ≤ zfn x ∧ zfn x ≤ 21 := by
 unfold zc4 at h
 generalize zfn x = K at h ⊢
 generalize xN x = N at h ⊢
 unfold zce at h
 by_cases k : 1 ≤ K ∧ K ≤ 21
 ·have hk : K = 1 ∨ K = 2 ∨ K = 3 ∨ K = 4 ∨ K = 5 ∨ K = 6 ∨ K = 7 ∨ K = 8 ∨ K = 9 ∨ K = 10 ∨ K = 11 ∨ K = 12 ∨ K = 13 ∨ K = 14 ∨ K = 15 ∨ K = 16 ∨ K = 17 ∨ K = 18 ∨ K = 19 ∨ K = 20 ∨ K = 21 := by omega
  rcases hk with e | e | e | e | e | e | e | e | e | e | e | e | e | e | e | e | e | e | e | e | e
  all_goals
   subst e
   simp only [Int.reduceEq, if_true, if_false, or_self, or_true, true_or, Int.reduceLE, and_self, Bool.and_eq_true, decide_eq_true_eq] at h
   omega
 ·exfalso
  rw [if_neg (by omega), if_neg (by omega), if_neg (by omega), if_neg (by omega), if_neg (by omega), if_neg (by omega), if_neg (by omega), if_neg (by omega), if_neg (by omega), if_neg (by omega), if_neg (by omega), if_neg (by omega), if_neg (by omega)] at h
  cases h
theorem spaced_in {l : List Tok} {t : Tok} (h : t ∈ l) : (za5 t).length ≤ (zfd l).length := by
 induction l with
 | nil => cases h
 | cons x r ih =>
  rw [zfu]
  simp only [List.length_cons, List.length_append]
  rcases List.mem_cons.1 h with rfl | h
  ·omega
  ·have := ih h; omega
theorem ty_short {D Z : Nat} {ts : List (Ty D)} (h : szL D ts ≤ Z) : Sh (20 * Z + 25) ((ts[0]?.map (zac D false)).getD []) := sh_opt fun a ha t ht => by
 have h1 := spaced_in ht
 have h2 := toks_len D false a
 have h3 : szD D a ≤ szL D ts := ze6 ha
 unfold fl at h2
 omega
theorem ex_short (D Z : Nat) : ∀ (d : Nat) (x : Ex D d), (∃ room, zbi D d room x = true) → szX D d x ≤ Z → Sh (20 * Z + 25) (zij D d x)
 | 0, x, _, _ => nomatch x
 | d + 1, x, hr, hz => by
  obtain ⟨h1, _, h3⟩ := ze1 hr
  obtain ⟨n0, n1, _, _⟩ := zds h1
  obtain ⟨A, K, N, S, ts, ns, xs⟩ := x
  have hsz : 1 + S.length + ns.length + zgs ns + szL D ts + (xs.map (szX D d)).sum ≤ Z := hz
  refine exT_short (by omega) (show 2 * S.length + 2 ≤ _ by omega) (fun _ => ?_) (fun i => ?_) (fun i => ?_) (ty_short (show szL D ts ≤ Z by omega))
  ·obtain ⟨u, hu⟩ : ∃ u : Nat, N = (u : Int) := ⟨N.toNat, by have : 0 ≤ N := n0; omega⟩
   have n1' : N ≤ 9223372036854775807 := n1
   show (za5 (0, 4, [], N)).length ≤ _
   rw [hu, zdw, Lib.decDigits_length]
   have := Lib.nDigits_le20 u (by omega)
   omega
  ·have := zjq (i := i) (n := Z) (l := ns) fun s hs => by have := sumL_mem hs; omega
   exact Nat.le_trans this (by omega)
  ·refine sh_opt fun a ha => ex_short D Z d a (h3 a ha) ?_
   have : szX D d a ≤ (xs.map (szX D d)).sum := zet (List.mem_map.2 ⟨a, ha, rfl⟩)
   omega
theorem snd_aside {tk : List Tok} (h : tk.all sound = true) : (zeq tk).all sound = true := by
 unfold zeq
 rw [List.all_cons, List.all_append, h]
 decide +kernel
theorem snd_part {K a : Int} {tk : List Tok} (h : tk.all sound = true) : (zaz K a tk).all sound = true := by
 unfold zaz; split
 ·exact snd_aside h
 ·exact h
theorem zcz {a b : List Tok} (h : a.all sound = true) (k : b.all sound = true) : (a ++ b).all sound = true := by rw [List.all_append, h, k]; rfl
theorem zb0 {t : Tok} {b : List Tok} (h : sound t = true) (k : b.all sound = true) : (t :: b).all sound = true := by rw [List.all_cons, h, k]; rfl
theorem snd_commas {n : Nat} {f : Nat → List Tok} (h : ∀ i, i < n → (f i).all sound = true) : ((List.range n).flatMap (zcu f)).all sound = true := zgg fun i hi => by
 unfold zcu
 rw [List.all_append, h i hi]
 split <;> decide +kernel
theorem snd_args {n : Nat} {f : Nat → List Tok} (h : ∀ i, i < n → (f i).all sound = true) : (zfy n f).all sound = true :=
 zb0 (by decide +kernel) (zcz (snd_commas h) (by decide +kernel))
theorem snd_lit {S : Bs} {n : Nat} {nm : Nat → Bs} {f : Nat → List Tok} (hS : sound (tT S) = true) (hn : ∀ i, i < n → sound (tN (nm i)) = true) (h : ∀ i, i < n → (f i).all sound = true) : (litT S n nm f).all sound = true :=
 zb0 hS (zb0 (by decide +kernel) (zcz (snd_commas fun i hi => zb0 (hn i hi) (zb0 (by decide +kernel) (h i hi))) (by decide +kernel)))
theorem snd_oper (K : Int) : (zja K).all sound = true := by
 unfold zja
 repeat' split
 all_goals first | decide +kernel | rfl
theorem snd_ite {p : Prop} [Decidable p] {a b : List Tok} (ha : a.all sound = true) (hb : b.all sound = true) : (if p then a else b).all sound = true := by
 by_cases h : p
 ·rw [if_pos h]; exact ha
 ·rw [if_neg h]; exact hb
theorem exT_sound {K N : Int} {S : Bs} {nm : Nat → Bs} {q : Nat} {Ks : Nat → Int} {tk : Nat → List Tok} {typ : List Tok} (hN : 0 ≤ N) (h2 : K = 2 → sound (0, 5, S, 0) = true) (h4 : K = 4 ∨ K = 9 ∨ K = 10 → sound (tN S) = true) (h7 : K = 7 ∨ K = 8 → sound (tT S) = true ∧ ∀ i, i < q → sound (tN (nm i)) = true) (ht : ∀ i, (tk i).all sound = true) (hty : typ.all sound = true) : (exT K N S nm q Ks tk typ).all sound = true := by
 have hp := fun i a => snd_part (K := Ks i) (a := a) (ht i)
 rw [exT]
 by_cases k0 : twoB K = true
 ·rw [if_pos k0]
  exact zcz (zcz (hp _ _) (snd_oper _)) (hp _ _)
 rw [if_neg k0]
 by_cases k1 : K = 12
 ·rw [if_pos k1]
  exact zcz (hp _ _) (zb0 (by decide +kernel) hty)
 rw [if_neg k1]
 by_cases k2 : K = 9
 ·rw [if_pos k2]
  exact zcz (hp _ _) (zb0 (by decide +kernel) (zb0 (h4 (.inr (.inl k2))) rfl))
 rw [if_neg k2]
 by_cases k3 : K = 10
 ·rw [if_pos k3]
  exact zcz (hp _ _) (zb0 (by decide +kernel) (zb0 (h4 (.inr (.inr k3))) (snd_args fun i _ => hp _ _)))
 rw [if_neg k3]
 by_cases k4 : K = 11
 ·rw [if_pos k4]
  exact zcz (snd_ite (snd_aside (ht 0)) (hp _ _)) (snd_args fun i _ => hp _ _)
 rw [if_neg k4]
 by_cases k5 : K = 13
 ·rw [if_pos k5]
  exact zb0 (by decide +kernel) (hp _ _)
 rw [if_neg k5]
 by_cases k6 : K = 14
 ·rw [if_pos k6]
  exact zb0 (by decide +kernel) (hp _ _)
 rw [if_neg k6]
 by_cases k7 : K = 1
 ·rw [if_pos k7]
  exact zb0 (by simp [sound, hN]) rfl
 rw [if_neg k7]
 by_cases k8 : K = 2
 ·rw [if_pos k8]
  exact zb0 (h2 k8) rfl
 rw [if_neg k8]
 by_cases k9 : K = 3
 ·rw [if_pos k9]
  by_cases z : N = 0
  ·rw [if_pos z]; decide +kernel
  ·rw [if_neg z]; decide +kernel
 rw [if_neg k9]
 by_cases k10 : K = 4
 ·rw [if_pos k10]
  exact zb0 (h4 (.inl k10)) rfl
 rw [if_neg k10]
 by_cases k11 : K = 5
 ·rw [if_pos k11]
  decide +kernel
 rw [if_neg k11]
 by_cases k12 : K = 6
 ·rw [if_pos k12]
  exact zb0 (by decide +kernel) hty
 rw [if_neg k12]
 by_cases k13 : K = 7
 ·rw [if_pos k13]
  exact snd_lit (h7 (.inl k13)).1 (h7 (.inl k13)).2 fun i _ => hp _ _
 rw [if_neg k13]
 by_cases k14 : K = 8
 ·rw [if_pos k14]
  exact zb0 (by decide +kernel) (snd_lit (h7 (.inr k14)).1 (h7 (.inr k14)).2 fun i _ => hp _ _)
 rw [if_neg k14]
 rfl
theorem zh6 {D d : Nat} {A K N : Int} {S : Bs} {ts : List (Ty D)} {ns : List Bs} {xs : List (Ex D d)} (h : zc4 D d (A, K, N, S, ts, ns, xs) = true) :
  (K = 2 → zc8 5 S = true) ∧ (K = 4 ∨ K = 9 ∨ K = 10 → zc8 1 S = true) ∧ (K = 7 ∨ K = 8 → zc8 2 S = true ∧ ns.length = xs.length ∧ zc9 ns = true) ∧ (K = 6 ∨ K = 12 → ts.length = 1) ∧ (K = 9 ∨ K = 12 ∨ K = 13 ∨ K = 14 → xs.length = 1) ∧ (K = 10 ∨ K = 11 → 1 ≤ xs.length) ∧ (15 ≤ K → xs.length = 2) ∧ (K = 3 → N = 0 ∨ N = 1) := by
 have hk := (zds h).2.2
 have k1 : 1 ≤ K := hk.1
 have k2 : K ≤ 21 := hk.2
 clear hk
 have e3 : zc4 D d (A, K, N, S, ts, ns, xs) = (match zce K with | none => false | some (says, mostN, types, named, least, most) => decide (0 ≤ N) && decide (N ≤ mostN) && decide ((ts.length : Int) = types) && decide (least ≤ (xs.length : Int)) && decide ((xs.length : Int) ≤ most) && zis says S && zdq named ns xs.length) := rfl
 rw [e3] at h
 clear e3
 have hk : K = 1 ∨ K = 2 ∨ K = 3 ∨ K = 4 ∨ K = 5 ∨ K = 6 ∨ K = 7 ∨ K = 8 ∨ K = 9 ∨ K = 10 ∨ K = 11 ∨ K = 12 ∨ K = 13 ∨ K = 14 ∨ K = 15 ∨ K = 16 ∨ K = 17 ∨ K = 18 ∨ K = 19 ∨ K = 20 ∨ K = 21 := by omega
 generalize xs.length = q at h ⊢
 generalize ts.length = m at h ⊢
 rcases hk with e | e | e | e | e | e | e | e | e | e | e | e | e | e | e | e | e | e | e | e | e
 all_goals
  subst e
  simp [zce, zis, zdq] at h
  refine ⟨?_, ?_, ?_, ?_, ?_, ?_, ?_, ?_⟩ <;> first | (intro hh; omega) | (intro hh; simp_all; done) | (simp; done) | (simp_all; omega)
theorem ex_sound (D : Nat) : ∀ (d : Nat) (x : Ex D d), (∃ room, zbi D d room x = true) → (zij D d x).all sound = true
 | 0, x, _ => nomatch x
 | d + 1, x, hr => by
  obtain ⟨h1, h2, h3⟩ := ze1 hr
  obtain ⟨n0, _, _, _⟩ := zds h1
  obtain ⟨A, K, N, S, ts, ns, xs⟩ := x
  obtain ⟨s2, s4, s7, _⟩ := zh6 h1
  refine exT_sound n0 s2 s4 (fun hk => ⟨(s7 hk).1, fun i hi => ?_⟩) (fun i => zgp fun a ha => ex_sound D d a (h3 a ha)) (zgp fun a ha => zj3 D false a 64 (zf9 h2 a ha))
  obtain ⟨_, e, hn⟩ := s7 hk
  unfold zc9 at hn
  rw [Bool.and_eq_true, List.all_eq_true] at hn
  have hi' : i < ns.length := by rw [e]; exact hi
  have := hn.1 ns[i] (by simp)
  show sound (tN (ns.getD i [])) = true
  rw [List.getD_eq_getElem?_getD, List.getElem?_eq_getElem hi']
  exact this
def exS (D d : Nat) (x : Ex D d) : List Bs := (zij D d x).map za5
theorem zl5 (D d : Nat) (x : Ex D d) : (exS D d x).length + 3 ≤ 9 * szX D d x := by
 have := ex_cnt D d x
 rw [exS, List.length_map]
 exact this
def zfx (hd : List Bs) (ns : List Bs) (LS : Nat → List Bs) (k : Nat) : List Bs := hd ++ (List.range k).flatMap fun i => (if 0 < i then [[44]] else []) ++ [ns.getD i [], [58]] ++ LS i
theorem zg4 (hd : List Bs) (ns : List Bs) (LS : Nat → List Bs) (k : Nat) : zfx hd ns LS (k + 1) = zfx hd ns LS k ++ (if 0 < k then [[44]] else []) ++ [ns.getD k [], [58]] ++ LS k := by
 unfold zfx
 rw [List.range_succ, List.flatMap_append]
 simp
theorem litS_le (hd : List Bs) (ns : List Bs) (LS : Nat → List Bs) {k n : Nat} (h : k ≤ n) : (zfx hd ns LS k).length ≤ (zfx hd ns LS n).length := by
 induction n with
 | zero => rw [Nat.le_zero.1 h]; exact Nat.le_refl _
 | succ n ih =>
  rcases Nat.eq_or_lt_of_le h with e | e
  ·rw [e]; exact Nat.le_refl _
  ·have := ih (by omega)
   rw [zg4, List.length_append, List.length_append, List.length_append]; omega
theorem aside_map (tk : List Tok) : (zeq tk).map za5 = zeb (tk.map za5) := by
 unfold zeq zeb
 rw [List.map_cons, List.map_append, List.map_cons, List.map_nil, zb7, zb7]
 rfl
theorem zda (K a : Int) (tk : List Tok) : (zaz K a tk).map za5 = zdp K a (tk.map za5) := by
 unfold zaz zdp
 split
 ·exact aside_map tk
 ·rfl
theorem comma_map (f : Nat → List Tok) (i : Nat) : (zcu f i).map za5 = (if 0 < i then [[44]] else []) ++ (f i).map za5 := by
 unfold zcu
 rw [List.map_append]
 split
 ·rw [List.map_cons, List.map_nil, zb7]
 ·rfl
theorem args_map (n : Nat) (Ks : Nat → Int) (tk : Nat → List Tok) : (zfy n (fun k => zaz (Ks (k + 1)) 1 (tk (k + 1)))).map za5 = zjb (fun i => (tk (i + 1)).map za5) n ++ [[41]] := by
 unfold zfy zjb
 rw [List.map_cons, List.map_append, List.map_flatMap, List.map_cons, List.map_nil, zb7, zb7, List.cons_append]
 congr 3
 funext i
 rw [comma_map, zhx]
theorem lit_map (S : Bs) (n : Nat) (ns : List Bs) (Ks : Nat → Int) (tk : Nat → List Tok) : (litT S n (fun i => ns.getD i []) (fun k => zaz (Ks k) 1 (tk k))).map za5 = zfx [S, [123]] ns (fun i => (tk i).map za5) n ++ [[125]] := by
 unfold litT zfx
 rw [List.map_cons, List.map_cons, List.map_append, List.map_flatMap, List.map_cons, List.map_nil, zb7, zb7, tT_text]
 show _ :: _ :: _ = _ :: _ :: _
 congr 4
 funext i
 rw [comma_map, List.map_cons, List.map_cons, zfr, zb7, List.append_assoc]
 show _ ++ _ :: _ :: (zaz (Ks i) 1 (tk i)).map za5 = _
 rw [zhx]
 rfl
section
variable {N : Int} {S : Bs} {nm : Nat → Bs} {q : Nat} {Ks : Nat → Int} {tk : Nat → List Tok} {typ : List Tok}
theorem exM_1 (n : Nat) : (exT 1 (n : Int) S nm q Ks tk typ).map za5 = [Lib.decDigits n] := by
 show [za5 (0, 4, [], (n : Int))] = _
 rw [zdw]
theorem exM_2 : (exT 2 N S nm q Ks tk typ).map za5 = [quote S] := by
 show [za5 (0, 5, S, 0)] = _
 rw [zcq]
theorem exM_3t : (exT 3 1 S nm q Ks tk typ).map za5 = [[116, 114, 117, 101]] := by
 show [za5 (tW [116, 114, 117, 101])] = _
 rw [zcb]
theorem exM_3f : (exT 3 0 S nm q Ks tk typ).map za5 = [[102, 97, 108, 115, 101]] := by
 show [za5 (tW [102, 97, 108, 115, 101])] = _
 rw [zcb]
theorem exM_4 : (exT 4 N S nm q Ks tk typ).map za5 = [S] := by
 show [za5 (tN S)] = _
 rw [zfr]
theorem exM_5 : (exT 5 N S nm q Ks tk typ).map za5 = [[115, 101, 108, 102]] := by
 show [za5 (tW [115, 101, 108, 102])] = _
 rw [zcb]
theorem exM_6 : (exT 6 N S nm q Ks tk typ).map za5 = [110, 105, 108] :: typ.map za5 := by
 show za5 (tW [110, 105, 108]) :: typ.map za5 = _
 rw [zcb]
theorem exM_7 {ns : List Bs} : (exT 7 N S (fun i => ns.getD i []) q Ks tk typ).map za5 = zfx [S, [123]] ns (fun i => (tk i).map za5) q ++ [[125]] := lit_map S q ns Ks tk
theorem exM_8 {ns : List Bs} : (exT 8 N S (fun i => ns.getD i []) q Ks tk typ).map za5 = zfx [[110, 101, 119], S, [123]] ns (fun i => (tk i).map za5) q ++ [[125]] := by
 show za5 (tW [110, 101, 119]) :: (litT S q (fun i => ns.getD i []) (fun k => zaz (Ks k) 1 (tk k))).map za5 = _
 rw [zcb, lit_map]
 rfl
theorem exM_9 : (exT 9 N S nm q Ks tk typ).map za5 = zdp (Ks 0) 7 ((tk 0).map za5) ++ [[46], S] := by
 show (zaz (Ks 0) 7 (tk 0) ++ [tS [46], tN S]).map za5 = _
 rw [List.map_append, zda, List.map_cons, List.map_cons, List.map_nil, zb7, zfr]
theorem exM_10 : (exT 10 N S nm q Ks tk typ).map za5 = zdp (Ks 0) 7 ((tk 0).map za5) ++ [[46], S] ++ (zjb (fun i => (tk (i + 1)).map za5) (q - 1) ++ [[41]]) := by
 show (zaz (Ks 0) 7 (tk 0) ++ tS [46] :: tN S :: zfy (q - 1) (fun k => zaz (Ks (k + 1)) 1 (tk (k + 1)))).map za5 = _
 rw [List.map_append, zda, List.map_cons, List.map_cons, args_map, zb7, zfr, List.append_assoc]
 rfl
theorem exM_11 : (exT 11 N S nm q Ks tk typ).map za5 = (if Ks 0 = 9 then zeb (zdp (Ks 0) 7 ((tk 0).map za5)) else zdp (Ks 0) 7 ((tk 0).map za5)) ++ (zjb (fun i => (tk (i + 1)).map za5) (q - 1) ++ [[41]]) := by
 show ((if Ks 0 = 9 then zeq (tk 0) else zaz (Ks 0) 7 (tk 0)) ++ zfy (q - 1) (fun k => zaz (Ks (k + 1)) 1 (tk (k + 1)))).map za5 = _
 rw [List.map_append, args_map]
 by_cases h : Ks 0 = 9
 ·rw [if_pos h, if_pos h, aside_map, h, zdp, if_neg (show ¬ zbj 9 < 7 by decide)]
 ·rw [if_neg h, if_neg h, zda]
theorem exM_12 : (exT 12 N S nm q Ks tk typ).map za5 = zdp (Ks 0) 7 ((tk 0).map za5) ++ [[116, 111]] ++ typ.map za5 := by
 show (zaz (Ks 0) 7 (tk 0) ++ tW [116, 111] :: typ).map za5 = _
 rw [List.map_append, zda, List.map_cons, zcb, List.append_assoc]
 rfl
theorem exM_13 : (exT 13 N S nm q Ks tk typ).map za5 = [45] :: zdp (Ks 0) 6 ((tk 0).map za5) := by
 show za5 (tS [45]) :: (zaz (Ks 0) 6 (tk 0)).map za5 = _
 rw [zda, zb7]
theorem exM_14 : (exT 14 N S nm q Ks tk typ).map za5 = [110, 111, 116] :: zdp (Ks 0) 6 ((tk 0).map za5) := by
 show za5 (tW [110, 111, 116]) :: (zaz (Ks 0) 6 (tk 0)).map za5 = _
 rw [zda, zcb]
theorem exM_two {K : Int} (h1 : 15 ≤ K) (h2 : K ≤ 21) : (exT K N S nm q Ks tk typ).map za5 = zdp (Ks 0) (if K = 18 ∨ K = 19 then zbj K + 1 else zbj K) ((tk 0).map za5) ++ [signS K] ++ zdp (Ks 1) (zbj K + 1) ((tk 1).map za5) := by
 have h0 : twoB K = true := by simp [twoB, h1, h2]
 rw [exT, if_pos h0, List.map_append, List.map_append, zda, zda, sign_text h1 h2]
end
theorem exS_of (D d : Nat) (A K N : Int) (S : Bs) (ts : List (Ty D)) (ns : List Bs) (xs : List (Ex D d)) : exS D (d + 1) (A, K, N, S, ts, ns, xs) = (exT K N S (fun i => ns.getD i []) xs.length (fun i => (xs[i]?.map (zd0 D d)).getD 0) (fun i => (xs[i]?.map (zij D d)).getD []) ((ts[0]?.map (zac D false)).getD [])).map za5 := rfl
theorem asideS_pos (L : List Bs) : 0 < (zeb L).length := by simp [zeb]
theorem zel {K a : Int} {L : List Bs} (h : 0 < L.length) : 0 < (zdp K a L).length := by
 unfold zdp; split
 ·exact asideS_pos L
 ·exact h
theorem zih (K a : Int) (L : List Bs) : (zdp K a L).length ≤ L.length + 2 := by
 unfold zdp; split
 ·simp [zeb]
 ·omega
theorem exS_pos {D d : Nat} {x : Ex D (d + 1)} (h : zc4 D d x = true) : 0 < (exS D (d + 1) x).length := by
 obtain ⟨_, _, k1, k2⟩ := zds h
 obtain ⟨A, K, N, S, ts, ns, xs⟩ := x
 obtain ⟨_, _, _, _, _, _, _, h3⟩ := zh6 h
 have n0 : 0 ≤ N := (zds h).1
 change 1 ≤ K at k1
 change K ≤ 21 at k2
 rw [exS_of]
 by_cases k15 : 15 ≤ K
 ·rw [exM_two k15 k2, List.length_append, List.length_append, List.length_cons]; omega
 ·have hk : K = 1 ∨ K = 2 ∨ K = 3 ∨ K = 4 ∨ K = 5 ∨ K = 6 ∨ K = 7 ∨ K = 8 ∨ K = 9 ∨ K = 10 ∨ K = 11 ∨ K = 12 ∨ K = 13 ∨ K = 14 := by omega
  rcases hk with e | e | e | e | e | e | e | e | e | e | e | e | e | e
  ·subst e
   obtain ⟨n, rfl⟩ : ∃ n : Nat, N = (n : Int) := ⟨N.toNat, by omega⟩
   rw [exM_1]; simp
  ·subst e; rw [exM_2]; simp
  ·subst e
   rcases h3 rfl with e | e <;> subst e
   ·rw [exM_3f]; simp
   ·rw [exM_3t]; simp
  ·subst e; rw [exM_4]; simp
  ·subst e; rw [exM_5]; simp
  ·subst e; rw [exM_6]; simp
  ·subst e; rw [exM_7]; simp
  ·subst e; rw [exM_8]; simp
  ·subst e; rw [exM_9, List.length_append, List.length_cons]; omega
  ·subst e; rw [exM_10, List.length_append, List.length_append, List.length_append, List.length_cons]; omega
  ·subst e; rw [exM_11, List.length_append, List.length_append, List.length_cons]; omega
  ·subst e; rw [exM_12, List.length_append, List.length_append, List.length_cons]; omega
  ·subst e; rw [exM_13]; simp
  ·subst e; rw [exM_14]; simp
theorem zec : ∀ {D d : Nat} {x : Ex D d}, (∃ room, zbi D d room x = true) → 0 < (exS D d x).length
 | _, 0, x, _ => nomatch x
 | _, _ + 1, _, h => exS_pos (ze1 h).1
theorem exKind_in : ∀ {D d : Nat} {x : Ex D d}, (∃ room, zbi D d room x = true) → 1 ≤ zd0 D d x ∧ zd0 D d x ≤ 21
 | _, 0, x, _ => nomatch x
 | _, _ + 1, _, h => (zds (ze1 h).1).2.2
theorem EV.at {w : World} {D : Nat} : ∀ {d : Nat} {pp : Option Addr} {cp : Nat} {xs : List (Ex D d)}, ExRow w D d (.slice pp xs.length cp) xs → ExCap w D d (.slice pp xs.length cp) xs → ∀ (k : Nat) (hk : k < xs.length), ∃ v, ExCell w pp k v ∧ EV w D d v xs[k]
 | 0, _, _, xs, _, _, k, hk => by
  match xs, hk with
  | t :: _, _ => exact nomatch t
 | d + 1, pp, cp, xs, h, hc, k, hk => by
  obtain ⟨v, h1, h2⟩ := ExRow.at h k hk
  refine ⟨v, h1, h2, ?_⟩
  obtain ⟨g, o, A, K, N, S, pt, pn, p3, nt, ct, nn, cn, n3, c3, rfl, rfl, a0, a1, a2, a3, a4, a5, a6⟩ := h1
  obtain ⟨p, c, e, _, hp⟩ := hc
  injection e with e1 e2 e3
  subst e1
  obtain ⟨g', o', vp, e, b6, r⟩ := hp k xs[k] (by simp)
  obtain ⟨rfl, rfl⟩ : g = g' ∧ o = o' := by simpa using e
  obtain rfl : Value.slice p3 n3 c3 = vp := Option.some.inj (a6.symm.trans b6)
  exact ⟨_, _, _, _, _, _, _, rfl, r⟩
theorem cap_le {w : World} {D : Nat} : ∀ {d : Nat} {pp : Option Addr} {cp : Nat} {xs : List (Ex D d)}, ExCap w D d (.slice pp xs.length cp) xs → xs.length ≤ cp
 | 0, _, _, [], _ => by simp
 | 0, _, _, t :: _, _ => nomatch t
 | d + 1, pp, cp, xs, h => by
  obtain ⟨p, c, e, hl, _⟩ := h
  injection e with e1 e2 e3
  omega
theorem ev_kind {w : World} {D : Nat} : ∀ {d : Nat} {A K N : Int} {S : ByteArray} {v4 v5 v6 : Value} {x : Ex D d}, ExValD w D d (.agg #[.int .i64 A, .int .i64 K, .int .i64 N, .string S, v4, v5, v6]) x → K = zd0 D d x
 | 0, _, _, _, _, _, _, _, x, _ => nomatch x
 | d + 1, _, K, _, _, _, _, _, x, h => by
  obtain ⟨pt, pn, pp, ct, cn, cp, e, _⟩ := h
  injection e with e
  have := congrArg (fun a : Array Value => a[1]?) e
  have h2 : Value.int .i64 K = .int .i64 (zfn x) := by simpa using this
  injection h2
theorem excell_rest {w : World} {g o k : Nat} {u : Value} (h : ExCell w (some ⟨g, o, none⟩) (k + 1) u) : ExCell w (some ⟨g, o + 7, none⟩) k u := by
 obtain ⟨g', o', A, K, N, S, pt, pn, p3, nt, ct, nn, cn, n3, c3, e, rfl, a0, a1, a2, a3, a4, a5, a6⟩ := h
 obtain ⟨rfl, rfl⟩ : g = g' ∧ o = o' := by simpa using e
 have e7 : o + (k + 1) * 7 = o + 7 + k * 7 := by omega
 rw [e7] at a0 a1 a2 a3 a4 a5 a6
 exact ⟨g, o + 7, A, K, N, S, pt, pn, p3, nt, ct, nn, cn, n3, c3, rfl, rfl, a0, a1, a2, a3, a4, a5, a6⟩
def vL27 (b k gn on gp op : Nat) (vn : Value) (s : ByteArray) (vp vx : Value) : List (Option Value) := [none, some (.pointer (some ⟨b, 5, none⟩)), some (vn), some (.int .i64 (k : Int)), some (.pointer (some ⟨gn, on + k, none⟩)), some (.string s), none, none, some (.pointer (some ⟨b, 6, none⟩)), some (vp), some (.int .i64 (k : Int)), some (.pointer (some ⟨gp, op + k * 7, none⟩)), some (vx), none, none, none]
theorem tolds_7 (A N : Int) (S : Bs) (pt pn pp : Option Addr) (nt n ct cn cp : Nat) (w : World) (ns : List Bs) (LS : Nat → List Bs) (hn : n = ns.length) (hn1 : n ≤ 60000) (hl : (zfx [S, [123]] ns LS n).length ≤ 300000)
  (hN : SRow w (.slice pn n cn) ns)
  (hP : ∀ k, k < n → ∃ u, ExCell w pp k u ∧ 0 < (LS k).length ∧ ∀ W, Below w.heap.size w W → Leaves 10 #[u] W (LS k)) :
  zdh A 7 N ⟨S.toArray⟩ pt pn pp nt n n ct cn cp w (zfx [S, [123]] ns LS n ++ [[125]]) := by
 obtain ⟨hd, hhd⟩ : ∃ hd : List Bs, hd = [S, [123]] := ⟨_, rfl⟩
 rw [← hhd] at hl ⊢
 have HHD := za3 hhd
 obtain ⟨L, hL⟩ : ∃ L, L = zfx hd ns LS n ++ [[125]] := ⟨_, rfl⟩
 have HNN := za3 hn
 clear hn
 rw [← hL]
 have HL := za3 hL
 have HP := za3 hP
 have HN := za3 hN
 have HS := za3 hl
 obtain ⟨w1, hw1⟩ : ∃ w1, w1 = w.alloc (zbm A 7 N ⟨S.toArray⟩ pt pn pp nt n n ct cn cp) := ⟨_, rfl⟩
 have HW1 := za3 hw1
 have hbw1 : Hid (Below w.heap.size w w1) := by rw [hw1]; exact al1 _ _
 have hB7 : Hid (∀ W, Below w1.heap.size w1 W → W.cell? ⟨w.heap.size, 0, none⟩ = some (.int .i64 A) ∧ W.cell? ⟨w.heap.size, 1, none⟩ = some (.int .i64 7) ∧ W.cell? ⟨w.heap.size, 2, none⟩ = some (.int .i64 N) ∧ W.cell? ⟨w.heap.size, 3, none⟩ = some (.string ⟨S.toArray⟩) ∧ W.cell? ⟨w.heap.size, 4, none⟩ = some (.slice pt nt ct) ∧ W.cell? ⟨w.heap.size, 5, none⟩ = some (.slice pn n cn) ∧ W.cell? ⟨w.heap.size, 6, none⟩ = some (.slice pp n cp)) := fun W h => zam (by rw [← za0 HW1]; exact h)
 clear hL hP hN hl hhd hw1
 go_enter Tryz.func10, Tryz.ntmps10
 go_upto_region 18 with fail
 go_cut [3] (fun o wx => ∃ (vo : Value) (Wy : World), vo = o ∧ Wy = wx ∧ Hid (Wy.ownsRow w1.heap.size 9 1 vo ([] : List Bs).length (zcg ([] : List Bs))) ∧ Hid (Below w1.heap.size w1 Wy))
 case first =>
  go_wp2_with fail
  go_meet
  case rel => exact ⟨_, _, rfl, rfl, World.ownsRow_nil _ _ _ _, (by show Below _ _ _; rw [za0 HW1]; exact Below.refl _ _)⟩
 case rest =>
  obtain ⟨vo, Wa, rfl, rfl, HOa, HBa⟩ := hcut
  obtain ⟨d0, d1, d2, d3, d4, d5, d6⟩ := za0 hB7 _ (za0 HBa)
  go_upto_region 21 with fail
  go_cut [3] (fun o wx => ∃ (vo : Value) (Wy : World), vo = o ∧ Wy = wx ∧ Hid (Wy.ownsRow w1.heap.size 9 1 vo (hd).length (zcg (hd))) ∧ Hid (Below w1.heap.size w1 Wy))
  case first =>
   have hbA := za0 HBa
   obtain ⟨g1, cp1, W2, E1, hL1⟩ := Left.appends (base := w1.heap.size) (v := vo) (ns := []) (ms := [S, [123]]) (w := Wa.alloc (.cells #[.string ⟨S.toArray⟩, .string ⟨#[123]⟩] 9)) ((za0 HOa).alloc _) (Nat.le_trans hbA.size (al1 Wa _).size) (by simp) (by simp) (src2 Wa S [123]).1
   have HE1 := za3 E1
   have HR : Hid (W2.ownsRow w1.heap.size 9 1 (.slice (some ⟨g1, 0, none⟩) (([] : List Bs).length + [S, [123]].length) cp1) hd.length (zcg hd)) := by rw [za0 HHD]; exact hL1.1
   have HR2 := za3 ((hbA.alloc hbA.size _).trans hL1.2.1)
   clear E1 hL1 hbA
   go_wp2_with (at_builtin; refine za4 rfl (.tmp 55) (.tmp 58) 25 rfl rfl rfl (za0 HE1) ?_; clear HE1)
   go_meet
   case rel => exact ⟨_, _, rfl, rfl, za0 HR, za0 HR2⟩
  case rest =>
   obtain ⟨vo, Wb, rfl, rfl, HOb, HBb⟩ := hcut
   clear d0 d1 d2 d3 d4 d5 d6 HOa HBa
   go_wp2_with fail
   go_loopw [3, 4] (fun o i wr => ∃ (k : Nat) (vo : Value), i = .int .i64 k ∧ vo = o ∧ k ≤ n ∧ Hid (wr.ownsRow w1.heap.size 9 1 vo (zfx hd ns LS k).length (zcg (zfx hd ns LS k)) ∧ Below w1.heap.size w1 wr)) (fun _ i _ => n - (intOf i).toNat)
   case atStart => exact ⟨0, _, rfl, rfl, by omega, (by rw [show zfx hd ns LS 0 = hd from by simp [zfx]]; exact za0 HOb), za0 HBb⟩
   case round =>
    obtain ⟨k, vo, rfl, rfl, hk, HO⟩ := hrel
    obtain ⟨ho, hb⟩ := za0 HO
    have hl1 := litS_le hd ns LS hk
    have hl3 := za0 HS
    obtain ⟨d0, d1, d2, d3, d4, d5, d6⟩ := za0 hB7 _ hb
    by_cases hlt : k < n
    ·have hlt' : (k : Int) < (n : Int) := by omega
     have hkn : (k : Int) < (n : Int) := by omega
     have hl2 := litS_le hd ns LS (show k + 1 ≤ n by omega)
     have HSS := za3 (zg4 hd ns LS k)
     have hls : (zfx hd ns LS (k + 1)).length = (zfx hd ns LS k).length + (if 0 < k then 1 else 0) + 2 + (LS k).length := by
      rw [zg4, List.length_append, List.length_append, List.length_append]
      split <;> rfl
     obtain ⟨cm, hcm⟩ : ∃ cm : List Bs, cm = if 0 < k then [[44]] else [] := ⟨_, rfl⟩
     rw [← hcm] at HSS
     have hcl : cm.length ≤ 1 := by rw [hcm]; split <;> simp
     have HCM := za3 hcm
     clear hcm
     have HLS := za3 (show (zfx hd ns LS k).length + 2 + (LS k).length ≤ 300000 by split at hls <;> omega)
     clear hls hl1 hl2 hl3
     go_upto_if 68 with fail
     go_cut [3] (fun o wx => ∃ (vo : Value) (Wy : World), vo = o ∧ Wy = wx ∧ Hid (Wy.ownsRow w1.heap.size 9 1 vo (zfx hd ns LS k ++ cm).length (zcg (zfx hd ns LS k ++ cm))) ∧ Hid (Below w1.heap.size w1 Wy))
     case first =>
      obtain ⟨pv, cv, rfl, _⟩ := zaq ho
      by_cases hk0 : 0 < k
      ·have hk0' : 0 < (k : Int) := by omega
       obtain ⟨g1, cp1, W4, E, hL1⟩ := Left.append (s := [44]) ho hb.size (by have := za0 HLS; omega)
       have HE := za3 E
       have HR := za3 hL1.1
       have HR2 := za3 (hb.trans hL1.2.1)
       have HC2 : Hid (cm = [[44]]) := by show _ = _; rw [za0 HCM, if_pos hk0]
       clear E hL1 hk0 HO ho hb
       go_wp2_with (at_builtin; refine za4 rfl (.tmp 69) (.tmp 70) 25 rfl rfl rfl (za0 HE) ?_; clear HE)
       go_meet
       case rel => exact ⟨_, _, rfl, rfl, (by rw [za0 HC2]; exact za3 (by simpa using za0 HR)), za0 HR2⟩
      ·have hk0' : (k : Int) ≤ 0 := by omega
       have HC2 : Hid (cm = []) := by show _ = _; rw [za0 HCM, if_neg hk0]
       have HR := za3 ho
       have HR2 := za3 hb
       clear hk0 HO ho hb
       go_wp2_with fail
       go_meet
       case rel => exact ⟨_, _, rfl, rfl, (by rw [za0 HC2, List.append_nil]; exact za0 HR), za0 HR2⟩
     case rest =>
      obtain ⟨vo, Wy, rfl, rfl, HO2, HBy⟩ := hcut
      clear HO ho hb d0 d1 d2 d3 d4 d5 d6
      obtain ⟨u, ⟨gp, op, A', K', N', S', qn, qe, q3, n1, c1, n2, c2, n3, c3, rfl, rfl, a0, a1, a2, a3, a4, a5, a6⟩, hLT, CS⟩ := za0 HP k hlt
      obtain ⟨pn', cn', e', hNc⟩ := za0 HN
      injection e' with e1 e2 e3
      subst e1
      clear e2 e3
      obtain ⟨gn, on, rfl, aN⟩ := hNc k (ns[k]'(by have := za0 HNN; omega)) (by simp)
      have hnm : ns[k]'(by have := za0 HNN; omega) = ns.getD k [] := by rw [List.getD_eq_getElem?_getD, List.getElem?_eq_getElem (by have := za0 HNN; omega)]; rfl
      rw [hnm] at aN
      obtain ⟨L0, hL0⟩ : ∃ L0, L0 = zfx hd ns LS k ++ cm := ⟨_, rfl⟩
      have hl0 : L0.length ≤ 300001 := by rw [hL0, List.length_append]; have := za0 HLS; omega
      obtain ⟨LT, hLTd⟩ : ∃ LT, LT = LS k := ⟨_, rfl⟩
      obtain ⟨nm, hnmd⟩ : ∃ nm, nm = ns.getD k [] := ⟨_, rfl⟩
      rw [← hL0, ← hLTd, ← hnmd] at HSS
      rw [← hL0] at HO2
      rw [← hLTd] at CS hLT HLS
      rw [← hnmd] at aN
      have hlT : LT.length ≤ 300000 := by have := za0 HLS; omega
      have hg0 := za2 a0
      obtain ⟨B, hBd⟩ : ∃ B : World → Prop, B = fun W => Below w1.heap.size w1 W := ⟨_, rfl⟩
      have toB : ∀ W, B W → Below w1.heap.size w1 W := fun W h => by rw [hBd] at h; exact h
      have ofB : ∀ W, Below w1.heap.size w1 W → B W := fun W h => by rw [hBd]; exact h
      have sB : ∀ W W', B W → Below W.heap.size W W' → B W' := fun W W' h hb => ofB _ (bon (toB _ h) hb)
      have sB2 : ∀ W W', B W → Below w1.heap.size W W' → B W' := fun W W' h hb => ofB _ ((toB _ h).trans hb)
      have hbs : ∀ W, B W → w1.heap.size ≤ W.heap.size := fun W h => (toB W h).size
      have hlow : ∀ W, B W → Below w.heap.size w W := fun W h => bon (za0 hbw1) (toB W h)
      have cB : ∀ W, B W → _ := fun W h => za0 hB7 W (toB W h)
      have cN : ∀ W, B W → W.cell? ⟨gn, on + k, none⟩ = some (.string ⟨nm.toArray⟩) := fun W h => ((hlow W h).cell (p := ⟨gn, _, none⟩) (za2 aN)).trans aN
      have cc : ∀ W, B W → ∀ i v, w.cell? ⟨gp, i, none⟩ = some v → W.cell? ⟨gp, i, none⟩ = some v := fun W h i v e => ((hlow W h).cell (p := ⟨gp, _, none⟩) hg0).trans e
      have cX : ∀ W, B W → W.cell? ⟨gp, op + k * 7, none⟩ = some (.int .i64 A') ∧ W.cell? ⟨gp, op + k * 7 + 1, none⟩ = some (.int .i64 K') ∧ W.cell? ⟨gp, op + k * 7 + 2, none⟩ = some (.int .i64 N') ∧ W.cell? ⟨gp, op + k * 7 + 3, none⟩ = some (.string S') ∧ W.cell? ⟨gp, op + k * 7 + 4, none⟩ = some (.slice qn n1 c1) ∧ W.cell? ⟨gp, op + k * 7 + 5, none⟩ = some (.slice qe n2 c2) ∧ W.cell? ⟨gp, op + k * 7 + 6, none⟩ = some (.slice q3 n3 c3) := fun W h => ⟨cc W h _ _ a0, cc W h _ _ a1, cc W h _ _ a2, cc W h _ _ a3, cc W h _ _ a4, cc W h _ _ a5, cc W h _ _ a6⟩
      have cS : ∀ W, B W → Leaves 10 #[.agg #[.int .i64 A', .int .i64 K', .int .i64 N', .string S', .slice qn n1 c1, .slice qe n2 c2, .slice q3 n3 c3]] W LT := fun W h => CS W (hlow W h)
      clear CS HP HN hNc hL0 hLTd hnmd aN HL HS hnm cc a0 a1 a2 a3 a4 a5 a6 HCM hcl HLS
      go_wp2_with fail
      refine zbq (n := 199) (by kernel_rfl) (by kernel_rfl) (by kernel_rfl) rfl B (VP (vL27 w.heap.size k gn on gp op (.slice (some ⟨gn, on, none⟩) n cn) ⟨nm.toArray⟩ (.slice (some ⟨gp, op, none⟩) n cp) (.agg #[.int .i64 A', .int .i64 K', .int .i64 N', .string S', .slice qn n1 c1, .slice qe n2 c2, .slice q3 n3 c3]))) (XCh w1.heap.size 0 15 (some vo) L0 [(7, 6, [nm, [58]]), (14, 13, LT)])
       (ofB _ (zad (za0 HBy))) (XCh.init (fun v hv => Option.some.inj hv ▸ (za0 HO2).drew)) ?each ?fin
      case each =>
       refine ⟨?_, ?_, ?_, ?_, ?_, ?_, ?_, ?_, ?_, ?_, ?_, ?_, ?_, ?_, ?_, ?_, trivial⟩
       ·refine YGoal.start rfl (by decide) (by simp) rfl rfl rfl (fun f down hno => ?_) (fun a' f hkp hlt hzn => ?_)
        ·have e7 := za7 down (i := 7) (j := 0) (by kernel_rfl) hno
         have e14 := za7 down (i := 14) (j := 7) (by kernel_rfl) e7
         have e15 := za7 down (i := 15) (j := 14) (by kernel_rfl) e14
         exact ⟨e15, by simp [e7, e14]⟩
        ·exact hlt 3 15 (by kernel_rfl) hzn
       ·exact YGoal.plain sB (by decide) (by decide) (by simp) (fun a' W f hz hkp hlt hBW hno down dep => ⟨za1 rfl, zbo (by decide) rfl (show a'.eval (.tmp 1) = Value.pointer (some ⟨w.heap.size, 0, none⟩) from hkp 1 (by kernel_rfl)) ⟨_, rfl, Below.refl _ _, rfl⟩⟩)
       ·exact YGoal.plain sB (by decide) (by decide) (by simp) (fun a' W f hz hkp hlt hBW hno down dep => ⟨za1 rfl, zjs rfl (dep 1 73 _ (by kernel_rfl) (by kernel_rfl) rfl) (cB W hBW).2.2.2.2.2.1 ⟨_, rfl, Below.refl _ _, rfl⟩⟩)
       ·exact YGoal.plain sB (by decide) (by decide) (by simp) (fun a' W f hz hkp hlt hBW hno down dep => ⟨za1 rfl, zbl rfl (show a'.eval (.tmp 4) = Value.int .i64 (k : Int) from hkp 4 (by kernel_rfl)) ⟨_, rfl, Below.refl _ _, rfl⟩⟩)
       ·exact YGoal.plain sB (by decide) (by decide) (by simp) (fun a' W f hz hkp hlt hBW hno down dep => ⟨za1 rfl, zhv rfl (dep 2 74 _ (by kernel_rfl) (by kernel_rfl) rfl) (dep 3 75 _ (by kernel_rfl) (by kernel_rfl) rfl) hkn ⟨_, rfl, Below.refl _ _, rfl⟩⟩)
       ·exact YGoal.plain sB (by decide) (by decide) (by simp) (fun a' W f hz hkp hlt hBW hno down dep => ⟨za1 rfl, zfi rfl (dep 4 76 _ (by kernel_rfl) (by kernel_rfl) rfl) (cN W hBW) ⟨_, rfl, Below.refl _ _, rfl⟩⟩)
       ·exact YGoal.src (M := [nm, [58]]) sB (by decide) (by decide) (by simp) rfl (fun a' W hz hkp hBW dep => ⟨za1 rfl, zgj (t := ⟨#[58]⟩) rfl (dep 5 77 _ (by kernel_rfl) (by kernel_rfl) rfl) rfl ⟨_, rfl, al1 _ _, src2 W nm [58]⟩⟩)
       ·refine YGoal.app (q := 0) (s := 6) (Lq := L0) (M := [nm, [58]]) sB2 hbs (by decide) rfl rfl rfl rfl (by simp) (by simp) (by simp; omega) (by simp) (by kernel_rfl) (by kernel_rfl) (by kernel_rfl) (by kernel_rfl) (fun f v down hno hq => ?_)
        have e14 := za7 down (i := 14) (j := 7) (by kernel_rfl) hno
        have e15 := za7 down (i := 15) (j := 14) (by kernel_rfl) e14
        exact ⟨e15, by simp [zao, zav, hq, hno], by simp [zah, hno], fun x => ⟨by simp [zao, zav, zbx, hq, e14], by simp [zah, zbx, e14]⟩⟩
       ·exact YGoal.plain sB (by decide) (by decide) (by simp) (fun a' W f hz hkp hlt hBW hno down dep => ⟨za1 rfl, zbo (by decide) rfl (show a'.eval (.tmp 1) = Value.pointer (some ⟨w.heap.size, 0, none⟩) from hkp 1 (by kernel_rfl)) ⟨_, rfl, Below.refl _ _, rfl⟩⟩)
       ·exact YGoal.plain sB (by decide) (by decide) (by simp) (fun a' W f hz hkp hlt hBW hno down dep => ⟨za1 rfl, zdx rfl (dep 8 80 _ (by kernel_rfl) (by kernel_rfl) rfl) (cB W hBW).2.2.2.2.2.2 ⟨_, rfl, Below.refl _ _, rfl⟩⟩)
       ·exact YGoal.plain sB (by decide) (by decide) (by simp) (fun a' W f hz hkp hlt hBW hno down dep => ⟨za1 rfl, zbl rfl (show a'.eval (.tmp 4) = Value.int .i64 (k : Int) from hkp 4 (by kernel_rfl)) ⟨_, rfl, Below.refl _ _, rfl⟩⟩)
       ·exact YGoal.plain sB (by decide) (by decide) (by simp) (fun a' W f hz hkp hlt hBW hno down dep => ⟨za1 rfl, zdm rfl (dep 9 81 _ (by kernel_rfl) (by kernel_rfl) rfl) (dep 10 82 _ (by kernel_rfl) (by kernel_rfl) rfl) hkn ⟨_, rfl, Below.refl _ _, rfl⟩⟩)
       ·exact YGoal.plain sB (by decide) (by decide) (by simp) (fun a' W f hz hkp hlt hBW hno down dep => ⟨za1 rfl, zed rfl (dep 11 83 _ (by kernel_rfl) (by kernel_rfl) rfl) (cX W hBW) ⟨_, rfl, Below.refl _ _, rfl⟩⟩)
       ·exact YGoal.src (M := LT) sB (by decide) (by decide) (by simp) rfl (fun a' W hz hkp hBW dep => ⟨za1 rfl, zcw rfl (dep 12 84 _ (by kernel_rfl) (by kernel_rfl) rfl) told_enter ((cS W hBW).mono fun e w' ⟨⟨u, he, h1⟩, hb⟩ => ⟨u, he, u, rfl, hb, SRow.of_owns h1, fun g hg => h1.lt g hg⟩)⟩)
       ·refine YGoal.app (q := 7) (s := 13) (Lq := (L0 ++ [nm, [58]])) (M := LT) sB2 hbs (by decide) rfl rfl rfl rfl (by simp) hLT (by simp; omega) (by simp) (by kernel_rfl) (by kernel_rfl) (by kernel_rfl) (by kernel_rfl) (fun f v down hno hq => ?_)
        obtain ⟨v0, e0⟩ := Option.ne_none_iff_exists'.1 (down 7 0 (by kernel_rfl) (by rw [hq]; simp))
        have e15 := za7 down (i := 15) (j := 14) (by kernel_rfl) hno
        exact ⟨e15, by simp [zao, zav, e0, hq, hno], by simp [zah, hq, hno], fun x => ⟨by simp [zao, zav, zbx, e0, hq], by simp [zah, zbx, hq]⟩⟩
       ·refine YGoal.last (q := 14) (by decide) (by simp) rfl rfl rfl (by kernel_rfl) (by kernel_rfl) (fun f v down hq => ?_)
        obtain ⟨v7, e7⟩ := Option.ne_none_iff_exists'.1 (down 14 7 (by kernel_rfl) (by rw [hq]; simp))
        obtain ⟨v0, e0⟩ := Option.ne_none_iff_exists'.1 (down 7 0 (by kernel_rfl) (by rw [e7]; simp))
        simp [zao, zav, hq, e0, e7]
      case fin =>
       intro a' W f hz hdf hkp hBW hf hV hX
       have hdone : (∃ v, f 0 = some v) ∧ (∃ v, f 7 = some v) ∧ (∃ v, f 14 = some v) := ⟨⟨_, hf 0 72 (by kernel_rfl)⟩, ⟨_, hf 7 79 (by kernel_rfl)⟩, ⟨_, hf 14 86 (by kernel_rfl)⟩⟩
       have hL : zah f L0 [(7, 6, [nm, [58]]), (14, 13, LT)] = (L0 ++ [nm, [58]] ++ LT) := by
        obtain ⟨⟨_, _⟩, ⟨_, e7⟩, ⟨_, e14⟩⟩ := hdone
        simp [zah, e7, e14]
       obtain ⟨hown, _⟩ := hX.2.2 _ (hX.1 _ (hf 15 3 (by kernel_rfl)))
       rw [hL] at hown
       have HB2 := za3 (toB W hBW)
       rw [zd3 hz rfl hdf hkp]
       clear hf hV hX hkp hdone hL cB cN cX cS sB sB2 hbs hlow toB ofB
       generalize hv3 : a'.tmps.getD 3 undef = v3 at hown
       simp only [List.foldl, Option.getD]
       rw [hv3]
       go_wp2
       go_roundw
       case rel => exact ⟨k + 1, _, by go_num, rfl, by omega, (by rw [za0 HSS]; exact hown), za0 HB2⟩
       case measure => simp [intOf]; omega
    ·obtain rfl : k = n := by omega
     have hlt' : ¬ (k : Int) < (k : Int) := by omega
     obtain ⟨g1, cp1, W4, E, hL1⟩ := Left.append (s := [125]) ho hb.size (by omega)
     have HE := za3 E
     have HO4 := za3 (hL1.1.mono (za0 hbw1).size)
     have HB4 := za3 (bon (za0 hbw1) (hb.trans hL1.2.1))
     clear E hB7 hl1 hl3 HO HP HN hL1 hb
     obtain ⟨pv, cv, rfl, _⟩ := zaq ho
     clear ho
     go_wp2_with (at_builtin; refine za4 rfl (.tmp 87) (.tmp 88) 25 rfl rfl rfl (za0 HE) ?_; clear HE)
     go_ret
     exact ⟨⟨_, rfl, by rw [za0 HL]; simpa using za0 HO4⟩, za0 HB4⟩
theorem tolds_8 (A N : Int) (S : Bs) (pt pn pp : Option Addr) (nt n ct cn cp : Nat) (w : World) (ns : List Bs) (LS : Nat → List Bs) (hn : n = ns.length) (hn1 : n ≤ 60000) (hl : (zfx [[110, 101, 119], S, [123]] ns LS n).length ≤ 300000)
  (hN : SRow w (.slice pn n cn) ns)
  (hP : ∀ k, k < n → ∃ u, ExCell w pp k u ∧ 0 < (LS k).length ∧ ∀ W, Below w.heap.size w W → Leaves 10 #[u] W (LS k)) :
  zdh A 8 N ⟨S.toArray⟩ pt pn pp nt n n ct cn cp w (zfx [[110, 101, 119], S, [123]] ns LS n ++ [[125]]) := by
 obtain ⟨hd, hhd⟩ : ∃ hd : List Bs, hd = [[110, 101, 119], S, [123]] := ⟨_, rfl⟩
 rw [← hhd] at hl ⊢
 have HHD := za3 hhd
 obtain ⟨L, hL⟩ : ∃ L, L = zfx hd ns LS n ++ [[125]] := ⟨_, rfl⟩
 have HNN := za3 hn
 clear hn
 rw [← hL]
 have HL := za3 hL
 have HP := za3 hP
 have HN := za3 hN
 have HS := za3 hl
 obtain ⟨w1, hw1⟩ : ∃ w1, w1 = w.alloc (zbm A 8 N ⟨S.toArray⟩ pt pn pp nt n n ct cn cp) := ⟨_, rfl⟩
 have HW1 := za3 hw1
 have hbw1 : Hid (Below w.heap.size w w1) := by rw [hw1]; exact al1 _ _
 have hB7 : Hid (∀ W, Below w1.heap.size w1 W → W.cell? ⟨w.heap.size, 0, none⟩ = some (.int .i64 A) ∧ W.cell? ⟨w.heap.size, 1, none⟩ = some (.int .i64 8) ∧ W.cell? ⟨w.heap.size, 2, none⟩ = some (.int .i64 N) ∧ W.cell? ⟨w.heap.size, 3, none⟩ = some (.string ⟨S.toArray⟩) ∧ W.cell? ⟨w.heap.size, 4, none⟩ = some (.slice pt nt ct) ∧ W.cell? ⟨w.heap.size, 5, none⟩ = some (.slice pn n cn) ∧ W.cell? ⟨w.heap.size, 6, none⟩ = some (.slice pp n cp)) := fun W h => zam (by rw [← za0 HW1]; exact h)
 clear hL hP hN hl hhd hw1
 go_enter Tryz.func10, Tryz.ntmps10
 go_upto_region 18 with fail
 go_cut [3] (fun o wx => ∃ (vo : Value) (Wy : World), vo = o ∧ Wy = wx ∧ Hid (Wy.ownsRow w1.heap.size 9 1 vo ([] : List Bs).length (zcg ([] : List Bs))) ∧ Hid (Below w1.heap.size w1 Wy))
 case first =>
  go_wp2_with fail
  go_meet
  case rel => exact ⟨_, _, rfl, rfl, World.ownsRow_nil _ _ _ _, (by show Below _ _ _; rw [za0 HW1]; exact Below.refl _ _)⟩
 case rest =>
  obtain ⟨vo, Wa, rfl, rfl, HOa, HBa⟩ := hcut
  obtain ⟨d0, d1, d2, d3, d4, d5, d6⟩ := za0 hB7 _ (za0 HBa)
  go_upto_if 51 with fail
  go_cut [3] (fun o wx => ∃ (vo : Value) (Wy : World), vo = o ∧ Wy = wx ∧ Hid (Wy.ownsRow w1.heap.size 9 1 vo ([[110, 101, 119]] : List Bs).length (zcg ([[110, 101, 119]] : List Bs))) ∧ Hid (Below w1.heap.size w1 Wy))
  case first =>
   obtain ⟨g1, cp1, W4, E, hL1⟩ := Left.append (s := [110, 101, 119]) (za0 HOa) (za0 HBa).size (by simp)
   have HE := za3 E
   have HR := za3 hL1.1
   have HR2 := za3 ((za0 HBa).trans hL1.2.1)
   clear E hL1
   go_wp2_with (at_builtin; refine za4 rfl (.tmp 52) (.tmp 53) 25 rfl rfl rfl (za0 HE) ?_; clear HE)
   go_meet
   case rel => exact ⟨_, _, rfl, rfl, za0 HR, za0 HR2⟩
  case rest =>
  clear HOa HBa d0 d1 d2 d3 d4 d5 d6
  obtain ⟨vo, Wa, rfl, rfl, HOa, HBa⟩ := hcut
  obtain ⟨d0, d1, d2, d3, d4, d5, d6⟩ := za0 hB7 _ (za0 HBa)
  go_upto_region 21 with fail
  go_cut [3] (fun o wx => ∃ (vo : Value) (Wy : World), vo = o ∧ Wy = wx ∧ Hid (Wy.ownsRow w1.heap.size 9 1 vo (hd).length (zcg (hd))) ∧ Hid (Below w1.heap.size w1 Wy))
  case first =>
   have hbA := za0 HBa
   obtain ⟨g1, cp1, W2, E1, hL1⟩ := Left.appends (base := w1.heap.size) (v := vo) (ns := [[110, 101, 119]]) (ms := [S, [123]]) (w := Wa.alloc (.cells #[.string ⟨S.toArray⟩, .string ⟨#[123]⟩] 9)) ((za0 HOa).alloc _) (Nat.le_trans hbA.size (al1 Wa _).size) (by simp) (by simp) (src2 Wa S [123]).1
   have HE1 := za3 E1
   have HR : Hid (W2.ownsRow w1.heap.size 9 1 (.slice (some ⟨g1, 0, none⟩) (([[110, 101, 119]] : List Bs).length + [S, [123]].length) cp1) hd.length (zcg hd)) := by rw [za0 HHD]; exact hL1.1
   have HR2 := za3 ((hbA.alloc hbA.size _).trans hL1.2.1)
   clear E1 hL1 hbA
   go_wp2_with (at_builtin; refine za4 rfl (.tmp 55) (.tmp 58) 25 rfl rfl rfl (za0 HE1) ?_; clear HE1)
   go_meet
   case rel => exact ⟨_, _, rfl, rfl, za0 HR, za0 HR2⟩
  case rest =>
   obtain ⟨vo, Wb, rfl, rfl, HOb, HBb⟩ := hcut
   clear d0 d1 d2 d3 d4 d5 d6 HOa HBa
   go_wp2_with fail
   go_loopw [3, 4] (fun o i wr => ∃ (k : Nat) (vo : Value), i = .int .i64 k ∧ vo = o ∧ k ≤ n ∧ Hid (wr.ownsRow w1.heap.size 9 1 vo (zfx hd ns LS k).length (zcg (zfx hd ns LS k)) ∧ Below w1.heap.size w1 wr)) (fun _ i _ => n - (intOf i).toNat)
   case atStart => exact ⟨0, _, rfl, rfl, by omega, (by rw [show zfx hd ns LS 0 = hd from by simp [zfx]]; exact za0 HOb), za0 HBb⟩
   case round =>
    obtain ⟨k, vo, rfl, rfl, hk, HO⟩ := hrel
    obtain ⟨ho, hb⟩ := za0 HO
    have hl1 := litS_le hd ns LS hk
    have hl3 := za0 HS
    obtain ⟨d0, d1, d2, d3, d4, d5, d6⟩ := za0 hB7 _ hb
    by_cases hlt : k < n
    ·have hlt' : (k : Int) < (n : Int) := by omega
     have hkn : (k : Int) < (n : Int) := by omega
     have hl2 := litS_le hd ns LS (show k + 1 ≤ n by omega)
     have HSS := za3 (zg4 hd ns LS k)
     have hls : (zfx hd ns LS (k + 1)).length = (zfx hd ns LS k).length + (if 0 < k then 1 else 0) + 2 + (LS k).length := by
      rw [zg4, List.length_append, List.length_append, List.length_append]
      split <;> rfl
     obtain ⟨cm, hcm⟩ : ∃ cm : List Bs, cm = if 0 < k then [[44]] else [] := ⟨_, rfl⟩
     rw [← hcm] at HSS
     have hcl : cm.length ≤ 1 := by rw [hcm]; split <;> simp
     have HCM := za3 hcm
     clear hcm
     have HLS := za3 (show (zfx hd ns LS k).length + 2 + (LS k).length ≤ 300000 by split at hls <;> omega)
     clear hls hl1 hl2 hl3
     go_upto_if 68 with fail
     go_cut [3] (fun o wx => ∃ (vo : Value) (Wy : World), vo = o ∧ Wy = wx ∧ Hid (Wy.ownsRow w1.heap.size 9 1 vo (zfx hd ns LS k ++ cm).length (zcg (zfx hd ns LS k ++ cm))) ∧ Hid (Below w1.heap.size w1 Wy))
     case first =>
      obtain ⟨pv, cv, rfl, _⟩ := zaq ho
      by_cases hk0 : 0 < k
      ·have hk0' : 0 < (k : Int) := by omega
       obtain ⟨g1, cp1, W4, E, hL1⟩ := Left.append (s := [44]) ho hb.size (by have := za0 HLS; omega)
       have HE := za3 E
       have HR := za3 hL1.1
       have HR2 := za3 (hb.trans hL1.2.1)
       have HC2 : Hid (cm = [[44]]) := by show _ = _; rw [za0 HCM, if_pos hk0]
       clear E hL1 hk0 HO ho hb
       go_wp2_with (at_builtin; refine za4 rfl (.tmp 69) (.tmp 70) 25 rfl rfl rfl (za0 HE) ?_; clear HE)
       go_meet
       case rel => exact ⟨_, _, rfl, rfl, (by rw [za0 HC2]; exact za3 (by simpa using za0 HR)), za0 HR2⟩
      ·have hk0' : (k : Int) ≤ 0 := by omega
       have HC2 : Hid (cm = []) := by show _ = _; rw [za0 HCM, if_neg hk0]
       have HR := za3 ho
       have HR2 := za3 hb
       clear hk0 HO ho hb
       go_wp2_with fail
       go_meet
       case rel => exact ⟨_, _, rfl, rfl, (by rw [za0 HC2, List.append_nil]; exact za0 HR), za0 HR2⟩
     case rest =>
      obtain ⟨vo, Wy, rfl, rfl, HO2, HBy⟩ := hcut
      clear HO ho hb d0 d1 d2 d3 d4 d5 d6
      obtain ⟨u, ⟨gp, op, A', K', N', S', qn, qe, q3, n1, c1, n2, c2, n3, c3, rfl, rfl, a0, a1, a2, a3, a4, a5, a6⟩, hLT, CS⟩ := za0 HP k hlt
      obtain ⟨pn', cn', e', hNc⟩ := za0 HN
      injection e' with e1 e2 e3
      subst e1
      clear e2 e3
      obtain ⟨gn, on, rfl, aN⟩ := hNc k (ns[k]'(by have := za0 HNN; omega)) (by simp)
      have hnm : ns[k]'(by have := za0 HNN; omega) = ns.getD k [] := by rw [List.getD_eq_getElem?_getD, List.getElem?_eq_getElem (by have := za0 HNN; omega)]; rfl
      rw [hnm] at aN
      obtain ⟨L0, hL0⟩ : ∃ L0, L0 = zfx hd ns LS k ++ cm := ⟨_, rfl⟩
      have hl0 : L0.length ≤ 300001 := by rw [hL0, List.length_append]; have := za0 HLS; omega
      obtain ⟨LT, hLTd⟩ : ∃ LT, LT = LS k := ⟨_, rfl⟩
      obtain ⟨nm, hnmd⟩ : ∃ nm, nm = ns.getD k [] := ⟨_, rfl⟩
      rw [← hL0, ← hLTd, ← hnmd] at HSS
      rw [← hL0] at HO2
      rw [← hLTd] at CS hLT HLS
      rw [← hnmd] at aN
      have hlT : LT.length ≤ 300000 := by have := za0 HLS; omega
      have hg0 := za2 a0
      obtain ⟨B, hBd⟩ : ∃ B : World → Prop, B = fun W => Below w1.heap.size w1 W := ⟨_, rfl⟩
      have toB : ∀ W, B W → Below w1.heap.size w1 W := fun W h => by rw [hBd] at h; exact h
      have ofB : ∀ W, Below w1.heap.size w1 W → B W := fun W h => by rw [hBd]; exact h
      have sB : ∀ W W', B W → Below W.heap.size W W' → B W' := fun W W' h hb => ofB _ (bon (toB _ h) hb)
      have sB2 : ∀ W W', B W → Below w1.heap.size W W' → B W' := fun W W' h hb => ofB _ ((toB _ h).trans hb)
      have hbs : ∀ W, B W → w1.heap.size ≤ W.heap.size := fun W h => (toB W h).size
      have hlow : ∀ W, B W → Below w.heap.size w W := fun W h => bon (za0 hbw1) (toB W h)
      have cB : ∀ W, B W → _ := fun W h => za0 hB7 W (toB W h)
      have cN : ∀ W, B W → W.cell? ⟨gn, on + k, none⟩ = some (.string ⟨nm.toArray⟩) := fun W h => ((hlow W h).cell (p := ⟨gn, _, none⟩) (za2 aN)).trans aN
      have cc : ∀ W, B W → ∀ i v, w.cell? ⟨gp, i, none⟩ = some v → W.cell? ⟨gp, i, none⟩ = some v := fun W h i v e => ((hlow W h).cell (p := ⟨gp, _, none⟩) hg0).trans e
      have cX : ∀ W, B W → W.cell? ⟨gp, op + k * 7, none⟩ = some (.int .i64 A') ∧ W.cell? ⟨gp, op + k * 7 + 1, none⟩ = some (.int .i64 K') ∧ W.cell? ⟨gp, op + k * 7 + 2, none⟩ = some (.int .i64 N') ∧ W.cell? ⟨gp, op + k * 7 + 3, none⟩ = some (.string S') ∧ W.cell? ⟨gp, op + k * 7 + 4, none⟩ = some (.slice qn n1 c1) ∧ W.cell? ⟨gp, op + k * 7 + 5, none⟩ = some (.slice qe n2 c2) ∧ W.cell? ⟨gp, op + k * 7 + 6, none⟩ = some (.slice q3 n3 c3) := fun W h => ⟨cc W h _ _ a0, cc W h _ _ a1, cc W h _ _ a2, cc W h _ _ a3, cc W h _ _ a4, cc W h _ _ a5, cc W h _ _ a6⟩
      have cS : ∀ W, B W → Leaves 10 #[.agg #[.int .i64 A', .int .i64 K', .int .i64 N', .string S', .slice qn n1 c1, .slice qe n2 c2, .slice q3 n3 c3]] W LT := fun W h => CS W (hlow W h)
      clear CS HP HN hNc hL0 hLTd hnmd aN HL HS hnm cc a0 a1 a2 a3 a4 a5 a6 HCM hcl HLS
      go_wp2_with fail
      refine zbq (n := 199) (by kernel_rfl) (by kernel_rfl) (by kernel_rfl) rfl B (VP (vL27 w.heap.size k gn on gp op (.slice (some ⟨gn, on, none⟩) n cn) ⟨nm.toArray⟩ (.slice (some ⟨gp, op, none⟩) n cp) (.agg #[.int .i64 A', .int .i64 K', .int .i64 N', .string S', .slice qn n1 c1, .slice qe n2 c2, .slice q3 n3 c3]))) (XCh w1.heap.size 0 15 (some vo) L0 [(7, 6, [nm, [58]]), (14, 13, LT)])
       (ofB _ (zad (za0 HBy))) (XCh.init (fun v hv => Option.some.inj hv ▸ (za0 HO2).drew)) ?each ?fin
      case each =>
       refine ⟨?_, ?_, ?_, ?_, ?_, ?_, ?_, ?_, ?_, ?_, ?_, ?_, ?_, ?_, ?_, ?_, trivial⟩
       ·refine YGoal.start rfl (by decide) (by simp) rfl rfl rfl (fun f down hno => ?_) (fun a' f hkp hlt hzn => ?_)
        ·have e7 := za7 down (i := 7) (j := 0) (by kernel_rfl) hno
         have e14 := za7 down (i := 14) (j := 7) (by kernel_rfl) e7
         have e15 := za7 down (i := 15) (j := 14) (by kernel_rfl) e14
         exact ⟨e15, by simp [e7, e14]⟩
        ·exact hlt 3 15 (by kernel_rfl) hzn
       ·exact YGoal.plain sB (by decide) (by decide) (by simp) (fun a' W f hz hkp hlt hBW hno down dep => ⟨za1 rfl, zbo (by decide) rfl (show a'.eval (.tmp 1) = Value.pointer (some ⟨w.heap.size, 0, none⟩) from hkp 1 (by kernel_rfl)) ⟨_, rfl, Below.refl _ _, rfl⟩⟩)
       ·exact YGoal.plain sB (by decide) (by decide) (by simp) (fun a' W f hz hkp hlt hBW hno down dep => ⟨za1 rfl, zjs rfl (dep 1 73 _ (by kernel_rfl) (by kernel_rfl) rfl) (cB W hBW).2.2.2.2.2.1 ⟨_, rfl, Below.refl _ _, rfl⟩⟩)
       ·exact YGoal.plain sB (by decide) (by decide) (by simp) (fun a' W f hz hkp hlt hBW hno down dep => ⟨za1 rfl, zbl rfl (show a'.eval (.tmp 4) = Value.int .i64 (k : Int) from hkp 4 (by kernel_rfl)) ⟨_, rfl, Below.refl _ _, rfl⟩⟩)
       ·exact YGoal.plain sB (by decide) (by decide) (by simp) (fun a' W f hz hkp hlt hBW hno down dep => ⟨za1 rfl, zhv rfl (dep 2 74 _ (by kernel_rfl) (by kernel_rfl) rfl) (dep 3 75 _ (by kernel_rfl) (by kernel_rfl) rfl) hkn ⟨_, rfl, Below.refl _ _, rfl⟩⟩)
       ·exact YGoal.plain sB (by decide) (by decide) (by simp) (fun a' W f hz hkp hlt hBW hno down dep => ⟨za1 rfl, zfi rfl (dep 4 76 _ (by kernel_rfl) (by kernel_rfl) rfl) (cN W hBW) ⟨_, rfl, Below.refl _ _, rfl⟩⟩)
       ·exact YGoal.src (M := [nm, [58]]) sB (by decide) (by decide) (by simp) rfl (fun a' W hz hkp hBW dep => ⟨za1 rfl, zgj (t := ⟨#[58]⟩) rfl (dep 5 77 _ (by kernel_rfl) (by kernel_rfl) rfl) rfl ⟨_, rfl, al1 _ _, src2 W nm [58]⟩⟩)
       ·refine YGoal.app (q := 0) (s := 6) (Lq := L0) (M := [nm, [58]]) sB2 hbs (by decide) rfl rfl rfl rfl (by simp) (by simp) (by simp; omega) (by simp) (by kernel_rfl) (by kernel_rfl) (by kernel_rfl) (by kernel_rfl) (fun f v down hno hq => ?_)
        have e14 := za7 down (i := 14) (j := 7) (by kernel_rfl) hno
        have e15 := za7 down (i := 15) (j := 14) (by kernel_rfl) e14
        exact ⟨e15, by simp [zao, zav, hq, hno], by simp [zah, hno], fun x => ⟨by simp [zao, zav, zbx, hq, e14], by simp [zah, zbx, e14]⟩⟩
       ·exact YGoal.plain sB (by decide) (by decide) (by simp) (fun a' W f hz hkp hlt hBW hno down dep => ⟨za1 rfl, zbo (by decide) rfl (show a'.eval (.tmp 1) = Value.pointer (some ⟨w.heap.size, 0, none⟩) from hkp 1 (by kernel_rfl)) ⟨_, rfl, Below.refl _ _, rfl⟩⟩)
       ·exact YGoal.plain sB (by decide) (by decide) (by simp) (fun a' W f hz hkp hlt hBW hno down dep => ⟨za1 rfl, zdx rfl (dep 8 80 _ (by kernel_rfl) (by kernel_rfl) rfl) (cB W hBW).2.2.2.2.2.2 ⟨_, rfl, Below.refl _ _, rfl⟩⟩)
       ·exact YGoal.plain sB (by decide) (by decide) (by simp) (fun a' W f hz hkp hlt hBW hno down dep => ⟨za1 rfl, zbl rfl (show a'.eval (.tmp 4) = Value.int .i64 (k : Int) from hkp 4 (by kernel_rfl)) ⟨_, rfl, Below.refl _ _, rfl⟩⟩)
       ·exact YGoal.plain sB (by decide) (by decide) (by simp) (fun a' W f hz hkp hlt hBW hno down dep => ⟨za1 rfl, zdm rfl (dep 9 81 _ (by kernel_rfl) (by kernel_rfl) rfl) (dep 10 82 _ (by kernel_rfl) (by kernel_rfl) rfl) hkn ⟨_, rfl, Below.refl _ _, rfl⟩⟩)
       ·exact YGoal.plain sB (by decide) (by decide) (by simp) (fun a' W f hz hkp hlt hBW hno down dep => ⟨za1 rfl, zed rfl (dep 11 83 _ (by kernel_rfl) (by kernel_rfl) rfl) (cX W hBW) ⟨_, rfl, Below.refl _ _, rfl⟩⟩)
       ·exact YGoal.src (M := LT) sB (by decide) (by decide) (by simp) rfl (fun a' W hz hkp hBW dep => ⟨za1 rfl, zcw rfl (dep 12 84 _ (by kernel_rfl) (by kernel_rfl) rfl) told_enter ((cS W hBW).mono fun e w' ⟨⟨u, he, h1⟩, hb⟩ => ⟨u, he, u, rfl, hb, SRow.of_owns h1, fun g hg => h1.lt g hg⟩)⟩)
       ·refine YGoal.app (q := 7) (s := 13) (Lq := (L0 ++ [nm, [58]])) (M := LT) sB2 hbs (by decide) rfl rfl rfl rfl (by simp) hLT (by simp; omega) (by simp) (by kernel_rfl) (by kernel_rfl) (by kernel_rfl) (by kernel_rfl) (fun f v down hno hq => ?_)
        obtain ⟨v0, e0⟩ := Option.ne_none_iff_exists'.1 (down 7 0 (by kernel_rfl) (by rw [hq]; simp))
        have e15 := za7 down (i := 15) (j := 14) (by kernel_rfl) hno
        exact ⟨e15, by simp [zao, zav, e0, hq, hno], by simp [zah, hq, hno], fun x => ⟨by simp [zao, zav, zbx, e0, hq], by simp [zah, zbx, hq]⟩⟩
       ·refine YGoal.last (q := 14) (by decide) (by simp) rfl rfl rfl (by kernel_rfl) (by kernel_rfl) (fun f v down hq => ?_)
        obtain ⟨v7, e7⟩ := Option.ne_none_iff_exists'.1 (down 14 7 (by kernel_rfl) (by rw [hq]; simp))
        obtain ⟨v0, e0⟩ := Option.ne_none_iff_exists'.1 (down 7 0 (by kernel_rfl) (by rw [e7]; simp))
        simp [zao, zav, hq, e0, e7]
      case fin =>
       intro a' W f hz hdf hkp hBW hf hV hX
       have hdone : (∃ v, f 0 = some v) ∧ (∃ v, f 7 = some v) ∧ (∃ v, f 14 = some v) := ⟨⟨_, hf 0 72 (by kernel_rfl)⟩, ⟨_, hf 7 79 (by kernel_rfl)⟩, ⟨_, hf 14 86 (by kernel_rfl)⟩⟩
       have hL : zah f L0 [(7, 6, [nm, [58]]), (14, 13, LT)] = (L0 ++ [nm, [58]] ++ LT) := by
        obtain ⟨⟨_, _⟩, ⟨_, e7⟩, ⟨_, e14⟩⟩ := hdone
        simp [zah, e7, e14]
       obtain ⟨hown, _⟩ := hX.2.2 _ (hX.1 _ (hf 15 3 (by kernel_rfl)))
       rw [hL] at hown
       have HB2 := za3 (toB W hBW)
       rw [zd3 hz rfl hdf hkp]
       clear hf hV hX hkp hdone hL cB cN cX cS sB sB2 hbs hlow toB ofB
       generalize hv3 : a'.tmps.getD 3 undef = v3 at hown
       simp only [List.foldl, Option.getD]
       rw [hv3]
       go_wp2
       go_roundw
       case rel => exact ⟨k + 1, _, by go_num, rfl, by omega, (by rw [za0 HSS]; exact hown), za0 HB2⟩
       case measure => simp [intOf]; omega
    ·obtain rfl : k = n := by omega
     have hlt' : ¬ (k : Int) < (k : Int) := by omega
     obtain ⟨g1, cp1, W4, E, hL1⟩ := Left.append (s := [125]) ho hb.size (by omega)
     have HE := za3 E
     have HO4 := za3 (hL1.1.mono (za0 hbw1).size)
     have HB4 := za3 (bon (za0 hbw1) (hb.trans hL1.2.1))
     clear E hB7 hl1 hl3 HO HP HN hL1 hb
     obtain ⟨pv, cv, rfl, _⟩ := zaq ho
     clear ho
     go_wp2_with (at_builtin; refine za4 rfl (.tmp 87) (.tmp 88) 25 rfl rfl rfl (za0 HE) ?_; clear HE)
     go_ret
     exact ⟨⟨_, rfl, by rw [za0 HL]; simpa using za0 HO4⟩, za0 HB4⟩
def ToldAt (D d : Nat) : Prop := ∀ (x : Ex D d) (v : Value) (w : World), EV w D d v x → (∃ room, zbi D d room x = true) → szX D d x ≤ 30000 → Leaves 10 #[v] w (exS D d x)
theorem zk4 {D d : Nat} (IH : ToldAt D d) {x : Ex D d} {w : World} {A K N : Int} {S : ByteArray} {pt pn pp : Option Addr} {nt nn np ct cn cp : Nat} (hv : EV w D d (.agg #[.int .i64 A, .int .i64 K, .int .i64 N, .string S, .slice pt nt ct, .slice pn nn cn, .slice pp np cp]) x) (hr : ∃ room, zbi D d room x = true) (hz : szX D d x ≤ 30000) (a : Int) :
  ∀ W, Below w.heap.size w W → Leaves 50 #[.agg #[.int .i64 A, .int .i64 K, .int .i64 N, .string S, .slice pt nt ct, .slice pn nn cn, .slice pp np cp], .int .i64 a] W (zdp (zd0 D d x) a (exS D d x)) := fun W hW => by
 obtain ⟨k1, k2⟩ := exKind_in hr
 have hle := zl5 D d x
 rw [← ev_kind hv.1] at k1 k2 ⊢
 exact at_any A K N S pt pn pp nt nn np ct cn cp a _ W k1 k2 (zec hr) (by omega) fun W' hW' => IH x _ W' (hv.below (bon hW hW')) hr hz
theorem exS_sum (D d : Nat) (xs : List (Ex D d)) (n : Nat) : ((List.range n).map fun i => ((xs[i]?.map (exS D d)).getD []).length + 3 * (xs[i]?.map fun _ => 1).getD 0).sum ≤ 9 * ze9 D d xs := by
 have e : ∀ i, i < n → ((xs[i]?.map (exS D d)).getD []).length + 3 * (xs[i]?.map fun _ => 1).getD 0 ≤ (xs[i]?.map fun u => 9 * szX D d u).getD 0 := fun i _ => by
  rcases xs[i]? with _ | u
  ·simp
  ·have := zl5 D d u
   simpa using this
 refine Nat.le_trans (zfw e) (Nat.le_trans (zgu xs (fun u => 9 * szX D d u) n) ?_)
 clear e
 induction xs with
 | nil => simp [ze9]
 | cons x r ih => simp only [ze9, List.map_cons, List.sum_cons] at ih ⊢; omega
theorem len_flat (g : Nat → List Bs) : ∀ n, ((List.range n).flatMap g).length = ((List.range n).map fun i => (g i).length).sum
 | 0 => rfl
 | n + 1 => by
  have ih := len_flat g n
  rw [List.range_succ, List.flatMap_append, List.length_append, ih, List.map_append, List.sum_append]
  simp
theorem litS_len (hd ns : List Bs) {D d : Nat} (xs : List (Ex D d)) (n : Nat) (hn : n ≤ xs.length) : (zfx hd ns (fun i => (xs[i]?.map (exS D d)).getD []) n).length ≤ hd.length + 9 * ze9 D d xs := by
 unfold zfx
 rw [List.length_append, len_flat]
 dsimp only
 have h := exS_sum D d xs n
 have h2 : ((List.range n).map fun i => ((if 0 < i then [[44]] else []) ++ [ns.getD i [], [58]] ++ (xs[i]?.map (exS D d)).getD []).length).sum ≤ ((List.range n).map fun i => ((xs[i]?.map (exS D d)).getD []).length + 3 * (xs[i]?.map fun _ => 1).getD 0).sum := zfw fun i hi => by
  have e : xs[i]? = some (xs[i]'(by omega)) := by simp
  rw [List.length_append, List.length_append, e]
  simp only [Option.map_some, Option.getD_some]
  split <;> simp <;> omega
 omega
theorem argS_len {D d : Nat} (xs : List (Ex D d)) (n : Nat) (hn : n ≤ xs.length) : (zjb (fun i => (xs[i]?.map (exS D d)).getD []) n).length ≤ 1 + 9 * ze9 D d xs := by
 unfold zjb
 rw [List.length_cons, len_flat]
 dsimp only
 have h := exS_sum D d xs n
 have h2 : ((List.range n).map fun i => ((if 0 < i then [[44]] else []) ++ (xs[i]?.map (exS D d)).getD []).length).sum ≤ ((List.range n).map fun i => ((xs[i]?.map (exS D d)).getD []).length + 3 * (xs[i]?.map fun _ => 1).getD 0).sum := zfw fun i hi => by
  have e : xs[i]? = some (xs[i]'(by omega)) := by simp
  rw [List.length_append, e]
  simp only [Option.map_some, Option.getD_some]
  split <;> simp <;> omega
 omega
theorem zfc {D d : Nat} (xs : List (Ex D d)) (i : Nat) : (((xs[i]?.map (zij D d)).getD []).map za5) = (xs[i]?.map (exS D d)).getD [] := by
 cases xs[i]? <;> rfl
theorem typ_strs {D : Nat} (t : Ty D) : (((([t] : List (Ty D))[0]?.map (zac D false)).getD []).map za5) = tyS D t := rfl
theorem len_two {α : Type} {l : List α} (h : l.length = 2) : ∃ a b, l = [a, b] := by
 match l, h with
 | [a, b], _ => exact ⟨a, b, rfl⟩
theorem ExCell.below {w W : World} {p : Option Addr} {k : Nat} {u : Value} (h : ExCell w p k u) (hb : Below w.heap.size w W) : ExCell W p k u := by
 obtain ⟨g, o, A, K, N, S, pt, pn, p3, nt, ct, nn, cn, n3, c3, rfl, rfl, a0, a1, a2, a3, a4, a5, a6⟩ := h
 exact ⟨g, o, A, K, N, S, pt, pn, p3, nt, ct, nn, cn, n3, c3, rfl, rfl, (hb.cell (p := ⟨g, _, none⟩) (za2 a0)).trans a0, (hb.cell (p := ⟨g, _, none⟩) (za2 a1)).trans a1, (hb.cell (p := ⟨g, _, none⟩) (za2 a2)).trans a2, (hb.cell (p := ⟨g, _, none⟩) (za2 a3)).trans a3, (hb.cell (p := ⟨g, _, none⟩) (za2 a4)).trans a4, (hb.cell (p := ⟨g, _, none⟩) (za2 a5)).trans a5, (hb.cell (p := ⟨g, _, none⟩) (za2 a6)).trans a6⟩
theorem told_step (D d : Nat) (IH : ToldAt D d) : ToldAt D (d + 1) := fun x v w hv hr hz => by
 obtain ⟨⟨pt, pn, pp, ct, cn, cp, rfl, r1, r2, r3⟩, _, _, _, _, _, _, vp, ev, rc⟩ := hv
 obtain ⟨hsh, hty, hps⟩ := ze1 hr
 obtain ⟨n0, n1, k1, k2⟩ := zds hsh
 obtain ⟨A, K, N, S, ts, ns, xs⟩ := x
 obtain ⟨_, _, s7, s6, s1, s10, s15, s3⟩ := zh6 hsh
 have hzz : 1 + S.length + ns.length + zgs ns + szL D ts + ze9 D d xs ≤ 30000 := hz
 dsimp only [xAt, zfn, xN, xS, xT, xNs, xPs] at *
 have evp : Value.slice pp xs.length cp = vp := by
  injection ev with e1
  have := congrArg (fun (x : Array Value) => x[6]?) e1
  simpa using this
 subst evp
 clear ev
 have hmem : ∀ u ∈ xs, szX D d u ≤ 30000 := fun u hu => by have := zku hu; omega
 have typ : ∀ t, ts = [t] → ∃ (g o : Nat) (K' : Int) (S' : ByteArray) (qn qe q3 : Option Addr) (n1 c1 n2 c2 n3 c3 : Nat), pt = some ⟨g, o, none⟩ ∧ w.cell? ⟨g, o, none⟩ = some (.int .i64 K') ∧ w.cell? ⟨g, o + 1, none⟩ = some (.string S') ∧ w.cell? ⟨g, o + 2, none⟩ = some (.slice qn n1 c1) ∧ w.cell? ⟨g, o + 3, none⟩ = some (.slice qe n2 c2) ∧ w.cell? ⟨g, o + 4, none⟩ = some (.slice q3 n3 c3) ∧ 0 < (tyS D t).length ∧ (tyS D t).length ≤ 300000 ∧ ∀ W, Below w.heap.size w W → Leaves 49 #[.agg #[.int .i64 K', .string S', .slice qn n1 c1, .slice qe n2 c2, .slice q3 n3 c3]] W (tyS D t) := fun t ht => by
  subst ht
  obtain ⟨x, ⟨g, o, K', S', qn, qe, q3, n1, c1, n2, c2, n3, c3, rfl, rfl, a0, a1, a2, a3, a4⟩, hx⟩ := TyRow.at r1 0 (by simp)
  simp only [Nat.zero_mul, Nat.add_zero] at a0 a1 a2 a3 a4
  have hrt : ∃ room, zci D room t = true := ⟨_, zf9 hty t (by simp)⟩
  have hle := tyS_le D t
  have hsz : szL D [t] = szD D t := by simp [szL]
  exact ⟨g, o, K', S', qn, qe, q3, n1, c1, n2, c2, n3, c3, rfl, a0, a1, a2, a3, a4, zl3 hrt, by omega, fun W hW => (typed_any D t _ W (TyValD.below hW hx) hrt (by omega)).mono fun e w' ⟨⟨u, he, ho, _⟩, hb⟩ => ⟨⟨u, he, ho⟩, hb⟩⟩
 rw [exS_of]
 show zdh A K N ⟨S.toArray⟩ pt pn pp ts.length ns.length xs.length ct cn cp w _
 by_cases k15 : 15 ≤ K
 ·obtain ⟨x0, x1, rfl⟩ := len_two (s15 k15)
  obtain ⟨u0, ⟨g, o, A', K', N', S', qn, qe, q3, n1, c1, n2, c2, n3, c3, rfl, rfl, a0, a1, a2, a3, a4, a5, a6⟩, h0⟩ := EV.at r3 rc 0 (by simp)
  obtain ⟨u1, ⟨g', o', A2, K2, N2, S2, rn, re, r4, m1, d1, m2, d2, m3, d3, e, rfl, b0, b1, b2, b3, b4, b5, b6⟩, h1⟩ := EV.at r3 rc 1 (by simp)
  obtain ⟨rfl, rfl⟩ : g = g' ∧ o = o' := by simpa using e
  clear e
  simp only [Nat.zero_mul, Nat.add_zero] at a0 a1 a2 a3 a4 a5 a6
  simp only [Nat.one_mul] at b0 b1 b2 b3 b4 b5 b6
  have p0 := zk4 IH (x := x0) h0 (hps x0 (by simp)) (hmem x0 (by simp))
  have p1 := zk4 IH (x := x1) h1 (hps x1 (by simp)) (hmem x1 (by simp))
  have l0 := zl5 D d x0
  have l1 := zl5 D d x1
  have z0 := hmem x0 (by simp)
  have z1 := hmem x1 (by simp)
  have q0 := zec (hps x0 (by simp))
  have q1 := zec (hps x1 (by simp))
  rw [exM_two k15 k2]
  show zdh A K N ⟨S.toArray⟩ pt pn (some ⟨g, o, none⟩) ts.length ns.length 2 ct cn cp w (zdp (zd0 D d x0) (if K = 18 ∨ K = 19 then zbj K + 1 else zbj K) (exS D d x0) ++ [signS K] ++ zdp (zd0 D d x1) (zbj K + 1) (exS D d x1))
  have y0 := fun a => zih (zd0 D d x0) a (exS D d x0)
  have y1 := fun a => zih (zd0 D d x1) a (exS D d x1)
  by_cases k3 : K = 18 ∨ K = 19
  ·have hlv : zbj K = 3 := by rcases k3 with e | e <;> subst e <;> rfl
   rw [if_pos k3, hlv]
   exact tolds_two3 A K N _ _ pt pn _ _ ct cn cp w g o _ A' K' N' S' qn qe q3 n1 c1 n2 c2 n3 c3 (zel q0) (by have := y0 (3 + 1); omega) _ A2 K2 N2 S2 rn re r4 m1 d1 m2 d2 m3 d3 (zel q1) (by have := y1 (3 + 1); omega) k15 k2 hlv rfl a0 a1 a2 a3 a4 a5 a6 b0 b1 b2 b3 b4 b5 b6 (p0 4) (p1 (3 + 1))
  ·rw [if_neg k3]
   have hlv : 0 ≤ zbj K ∧ zbj K ≤ 1000 ∧ (zbj K == 3) = false := by
    have hk : K = 15 ∨ K = 16 ∨ K = 17 ∨ K = 20 ∨ K = 21 := by omega
    rcases hk with e | e | e | e | e <;> subst e <;> decide
   obtain ⟨lv0, lv1, lv3⟩ := hlv
   exact tolds_two A K N (zbj K) _ _ pt pn _ _ ct cn cp w g o _ A' K' N' S' qn qe q3 n1 c1 n2 c2 n3 c3 (zel q0) (by have := y0 (zbj K); omega) _ A2 K2 N2 S2 rn re r4 m1 d1 m2 d2 m3 d3 (zel q1) (by have := y1 (zbj K + 1); omega) k15 k2 rfl lv0 lv1 lv3 rfl a0 a1 a2 a3 a4 a5 a6 b0 b1 b2 b3 b4 b5 b6 (p0 _) (p1 _)
 have one : ∀ x0, xs = [x0] → ∃ (g o : Nat) (A' K' N' : Int) (S' : ByteArray) (qn qe q3 : Option Addr) (n1 c1 n2 c2 n3 c3 : Nat), pp = some ⟨g, o, none⟩ ∧ w.cell? ⟨g, o, none⟩ = some (.int .i64 A') ∧ w.cell? ⟨g, o + 1, none⟩ = some (.int .i64 K') ∧ w.cell? ⟨g, o + 2, none⟩ = some (.int .i64 N') ∧ w.cell? ⟨g, o + 3, none⟩ = some (.string S') ∧ w.cell? ⟨g, o + 4, none⟩ = some (.slice qn n1 c1) ∧ w.cell? ⟨g, o + 5, none⟩ = some (.slice qe n2 c2) ∧ w.cell? ⟨g, o + 6, none⟩ = some (.slice q3 n3 c3) ∧ (∀ a, 0 < (zdp (zd0 D d x0) a (exS D d x0)).length ∧ (zdp (zd0 D d x0) a (exS D d x0)).length ≤ 300000) ∧
   ∀ a W, Below w.heap.size w W → Leaves 50 #[.agg #[.int .i64 A', .int .i64 K', .int .i64 N', .string S', .slice qn n1 c1, .slice qe n2 c2, .slice q3 n3 c3], .int .i64 a] W (zdp (zd0 D d x0) a (exS D d x0)) := fun x0 he => by
  subst he
  obtain ⟨u0, ⟨g, o, A', K', N', S', qn, qe, q3, n1, c1, n2, c2, n3, c3, rfl, rfl, a0, a1, a2, a3, a4, a5, a6⟩, h0⟩ := EV.at r3 rc 0 (by simp)
  simp only [Nat.zero_mul, Nat.add_zero] at a0 a1 a2 a3 a4 a5 a6
  have l0 := zl5 D d x0
  have z0 := hmem x0 (by simp)
  refine ⟨g, o, A', K', N', S', qn, qe, q3, n1, c1, n2, c2, n3, c3, rfl, a0, a1, a2, a3, a4, a5, a6, fun a => ⟨zel (zec (hps x0 (by simp))), ?_⟩, fun a => zk4 IH (x := x0) h0 (hps x0 (by simp)) z0 a⟩
  have := zih (zd0 D d x0) a (exS D d x0)
  omega
 have hk : K = 1 ∨ K = 2 ∨ K = 3 ∨ K = 4 ∨ K = 5 ∨ K = 6 ∨ K = 7 ∨ K = 8 ∨ K = 9 ∨ K = 10 ∨ K = 11 ∨ K = 12 ∨ K = 13 ∨ K = 14 := by omega
 have lits : ns.length = xs.length → ∀ k, k < ns.length → ∃ u, ExCell w pp k u ∧ 0 < ((xs[k]?.map (exS D d)).getD []).length ∧ ∀ W, Below w.heap.size w W → Leaves 10 #[u] W ((xs[k]?.map (exS D d)).getD []) := fun hl k hk => by
  have hk' : k < xs.length := by omega
  have e : xs[k]? = some xs[k] := by simp
  obtain ⟨u, c, h⟩ := EV.at r3 rc k hk'
  rw [e]
  exact ⟨u, c, zec (hps _ (by simp)), fun W hW => IH _ u W (h.below hW) (hps _ (by simp)) (hmem _ (by simp))⟩
 have rest : ∀ x0 r g o, xs = x0 :: r → pp = some ⟨g, o, none⟩ → ∀ k, k < r.length → ∃ u, ExCell w (some ⟨g, o + 7, none⟩) k u ∧ 0 < ((r[k]?.map (exS D d)).getD []).length ∧ ∀ W, Below w.heap.size w W → Leaves 10 #[u] W ((r[k]?.map (exS D d)).getD []) := fun x0 r g o hx hp k hk => by
  subst hx hp
  have e : r[k]? = some r[k] := by simp
  obtain ⟨u, c, h⟩ := EV.at r3 rc (k + 1) (by simp; omega)
  rw [e]
  have hm : r[k] ∈ x0 :: r := List.mem_cons_of_mem _ (by simp)
  exact ⟨u, excell_rest c, zec (hps _ hm), fun W hW => IH _ u W (h.below hW) (hps _ hm) (hmem _ hm)⟩
 have hcap := cap_le rc
 rcases hk with e | e | e | e | e | e | e | e | e | e | e | e | e | e
 ·subst e
  obtain ⟨n, rfl⟩ : ∃ n : Nat, N = (n : Int) := ⟨N.toNat, by omega⟩
  rw [exM_1]; exact tolds_1 A n _ pt pn pp _ _ _ ct cn cp w (by omega)
 ·subst e; rw [exM_2]; exact tolds_2 A N S pt pn pp _ _ _ ct cn cp w (by omega)
 ·subst e
  rcases s3 rfl with e | e <;> subst e
  ·rw [exM_3f]; exact tolds_3f A _ pt pn pp _ _ _ ct cn cp w
  ·rw [exM_3t]; exact tolds_3t A _ pt pn pp _ _ _ ct cn cp w
 ·subst e; rw [exM_4]; exact tolds_4 A N S pt pn pp _ _ _ ct cn cp w
 ·subst e; rw [exM_5]; exact tolds_5 A N _ pt pn pp _ _ _ ct cn cp w
 ·subst e
  obtain ⟨t, rfl⟩ := List.length_eq_one_iff.1 (s6 (.inl rfl))
  obtain ⟨g, o, K', S', qn, qe, q3, n1, c1, n2, c2, n3, c3, rfl, a0, a1, a2, a3, a4, hp, hl, CL⟩ := typ t rfl
  rw [exM_6, typ_strs]
  exact tolds_6 A N _ pn pp _ _ ct cn cp w g o _ K' S' qn qe q3 n1 c1 n2 c2 n3 c3 hp (by omega) a0 a1 a2 a3 a4 CL
 ·subst e
  obtain ⟨_, hl, _⟩ := s7 (.inl rfl)
  have h1 := litS_len [S, [123]] ns xs ns.length (by omega)
  rw [exM_7]
  simp only [zfc]
  rw [← hl]
  exact tolds_7 A N S pt pn pp _ ns.length ct cn cp w ns _ rfl (by omega) (by simp at h1 ⊢; omega) r2 (lits hl)
 ·subst e
  obtain ⟨_, hl, _⟩ := s7 (.inr rfl)
  have h1 := litS_len [[110, 101, 119], S, [123]] ns xs ns.length (by omega)
  rw [exM_8]
  simp only [zfc]
  rw [← hl]
  exact tolds_8 A N S pt pn pp _ ns.length ct cn cp w ns _ rfl (by omega) (by simp at h1 ⊢; omega) r2 (lits hl)
 ·subst e
  obtain ⟨x0, rfl⟩ := List.length_eq_one_iff.1 (s1 (.inl rfl))
  obtain ⟨g, o, A', K', N', S', qn, qe, q3, n1, c1, n2, c2, n3, c3, rfl, a0, a1, a2, a3, a4, a5, a6, hp, CL⟩ := one x0 rfl
  rw [exM_9]
  exact tolds_9 A N S pt pn _ _ ct cn cp w g o _ A' K' N' S' qn qe q3 n1 c1 n2 c2 n3 c3 (hp 7).1 (hp 7).2 a0 a1 a2 a3 a4 a5 a6 (CL 7)
 ·subst e
  obtain ⟨x0, r, rfl⟩ : ∃ x0 r, xs = x0 :: r := by
   cases xs with
   | nil => have := s10 (.inl rfl); simp at this
   | cons a b => exact ⟨a, b, rfl⟩
  obtain ⟨u0, ⟨g, o, A', K', N', S', qn, qe, q3, n1, c1, n2, c2, n3, c3, rfl, rfl, a0, a1, a2, a3, a4, a5, a6⟩, h0⟩ := EV.at r3 rc 0 (by simp)
  simp only [Nat.zero_mul, Nat.add_zero] at a0 a1 a2 a3 a4 a5 a6
  obtain ⟨c, rfl⟩ : ∃ c, cp = c + 1 := ⟨cp - 1, by simp at hcap; omega⟩
  have hm : r.length ≤ c := by simp at hcap; omega
  have l0 := zl5 D d x0
  have z0 := hmem x0 (by simp)
  have y0 := zih (zd0 D d x0) 7 (exS D d x0)
  have hzr : ze9 D d (x0 :: r) = szX D d x0 + ze9 D d r := by simp [ze9]
  have la := argS_len r r.length (Nat.le_refl _)
  have lr := zl7 r
  rw [exM_10]
  exact tolds_10 A N S pt pn _ _ ct cn c r.length w g o _ A' K' N' S' qn qe q3 n1 c1 n2 c2 n3 c3 (zel (zec (hps x0 (by simp)))) (show (zdp (zd0 D d x0) 7 (exS D d x0)).length ≤ 300000 by omega) _ (by simp) (show (zjb (fun i => (((x0 :: r)[i + 1]?.map (zij D d)).getD []).map za5) r.length ++ [[41]]).length ≤ 300000 by simp only [zfc, List.getElem?_cons_succ]; rw [List.length_append]; simp; omega) hm a0 a1 a2 a3 a4 a5 a6
   (fun W hW => by
    show Leaves 51 #[.slice (zie g o c) r.length c] W (zjb (fun i => (((x0 :: r)[i + 1]?.map (zij D d)).getD []).map za5) r.length ++ [[41]])
    simp only [zfc, List.getElem?_cons_succ]
    refine rest_args hm (by omega) (by omega) fun k hk => ?_
    obtain ⟨u, hc, hq, hL⟩ := rest x0 r g o rfl rfl k hk
    exact ⟨u, hc.below hW, hq, fun W' hW' => hL W' (bon hW hW')⟩)
   (zk4 IH (x := x0) h0 (hps x0 (by simp)) z0 7)
 ·subst e
  obtain ⟨x0, r, rfl⟩ : ∃ x0 r, xs = x0 :: r := by
   cases xs with
   | nil => have := s10 (.inr rfl); simp at this
   | cons a b => exact ⟨a, b, rfl⟩
  obtain ⟨u0, ⟨g, o, A', K', N', S', qn, qe, q3, n1, c1, n2, c2, n3, c3, rfl, rfl, a0, a1, a2, a3, a4, a5, a6⟩, h0⟩ := EV.at r3 rc 0 (by simp)
  simp only [Nat.zero_mul, Nat.add_zero] at a0 a1 a2 a3 a4 a5 a6
  obtain ⟨c, rfl⟩ : ∃ c, cp = c + 1 := ⟨cp - 1, by simp at hcap; omega⟩
  have hm : r.length ≤ c := by simp at hcap; omega
  have l0 := zl5 D d x0
  have z0 := hmem x0 (by simp)
  have y0 := zih (zd0 D d x0) 7 (exS D d x0)
  have hzr : ze9 D d (x0 :: r) = szX D d x0 + ze9 D d r := by simp [ze9]
  have la := argS_len r r.length (Nat.le_refl _)
  have lr := zl7 r
  have hk' : K' = zd0 D d x0 := ev_kind h0.1
  rw [exM_11]
  exact tolds_11 A N _ pt pn _ _ ct cn c r.length w g o _ A' K' N' S' qn qe q3 n1 c1 n2 c2 n3 c3 (zel (zec (hps x0 (by simp)))) (show (zdp (zd0 D d x0) 7 (exS D d x0)).length ≤ 300000 by omega) _ _ (by simp) (show (zjb (fun i => (((x0 :: r)[i + 1]?.map (zij D d)).getD []).map za5) r.length ++ [[41]]).length ≤ 300000 by simp only [zfc, List.getElem?_cons_succ]; rw [List.length_append]; simp; omega) hm (by rw [hk']; rfl) a0 a1 a2 a3 a4 a5 a6
   (fun W hW => by
    show Leaves 51 #[.slice (zie g o c) r.length c] W (zjb (fun i => (((x0 :: r)[i + 1]?.map (zij D d)).getD []).map za5) r.length ++ [[41]])
    simp only [zfc, List.getElem?_cons_succ]
    refine rest_args hm (by omega) (by omega) fun k hk => ?_
    obtain ⟨u, hc, hq, hL⟩ := rest x0 r g o rfl rfl k hk
    exact ⟨u, hc.below hW, hq, fun W' hW' => hL W' (bon hW hW')⟩)
   (zk4 IH (x := x0) h0 (hps x0 (by simp)) z0 7)
 ·subst e
  obtain ⟨x0, rfl⟩ := List.length_eq_one_iff.1 (s1 (.inr (.inl rfl)))
  obtain ⟨t, rfl⟩ := List.length_eq_one_iff.1 (s6 (.inr rfl))
  obtain ⟨g, o, A', K', N', S', qn, qe, q3, n1, c1, n2, c2, n3, c3, rfl, a0, a1, a2, a3, a4, a5, a6, hp, CL⟩ := one x0 rfl
  obtain ⟨gt, ot, kt, st, tn, te, tp, m1, d1, m2, d2, m3, d3, rfl, t0, t1, t2, t3, t4, hpt, hlt, CT⟩ := typ t rfl
  rw [exM_12, typ_strs]
  exact tolds_12 A N _ pn _ ct cn cp w g o _ A' K' N' S' qn qe q3 n1 c1 n2 c2 n3 c3 (hp 7).1 (hp 7).2 gt ot _ kt st tn te tp m1 d1 m2 d2 m3 d3 hpt hlt a0 a1 a2 a3 a4 a5 a6 t0 t1 t2 t3 t4 CT (CL 7)
 ·subst e
  obtain ⟨x0, rfl⟩ := List.length_eq_one_iff.1 (s1 (.inr (.inr (.inl rfl))))
  obtain ⟨g, o, A', K', N', S', qn, qe, q3, n1, c1, n2, c2, n3, c3, rfl, a0, a1, a2, a3, a4, a5, a6, hp, CL⟩ := one x0 rfl
  rw [exM_13]
  exact tolds_13 A N _ pt pn _ _ ct cn cp w g o _ A' K' N' S' qn qe q3 n1 c1 n2 c2 n3 c3 (hp 6).1 (by have := (hp 6).2; exact Nat.le_trans this (by decide)) a0 a1 a2 a3 a4 a5 a6 (CL 6)
 ·subst e
  obtain ⟨x0, rfl⟩ := List.length_eq_one_iff.1 (s1 (.inr (.inr (.inr rfl))))
  obtain ⟨g, o, A', K', N', S', qn, qe, q3, n1, c1, n2, c2, n3, c3, rfl, a0, a1, a2, a3, a4, a5, a6, hp, CL⟩ := one x0 rfl
  rw [exM_14]
  exact tolds_14 A N _ pt pn _ _ ct cn cp w g o _ A' K' N' S' qn qe q3 n1 c1 n2 c2 n3 c3 (hp 6).1 (by have := (hp 6).2; exact Nat.le_trans this (by decide)) a0 a1 a2 a3 a4 a5 a6 (CL 6)
theorem told_any (D : Nat) : ∀ d, ToldAt D d
 | 0 => fun x => nomatch x
 | d + 1 => told_step D d (told_any D d)
end Go.Proofs.YtmpbbmfbgcpplaaGreatDoor
