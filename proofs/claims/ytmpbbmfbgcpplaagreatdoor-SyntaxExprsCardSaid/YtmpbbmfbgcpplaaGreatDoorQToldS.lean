/-
  An expression's tokens: how many, how long, sound. No world.
-/
import Derived.Test.YtmpbbmfbgcpplaaGreatDoorQTypesPure
import Derived.Test.YtmpbbmfbgcpplaaGreatDoorQExF
import Derived.Test.YtmpbbmfbgcpplaaGreatDoorQSizeG
import Derived.Test.YtmpbbmfbgcpplaaGreatDoorQPartsG
import Derived.Test.YtmpbbmfbgcpplaaGreatDoorQXOwn
import Derived.Test.YtmpbbmfbgcpplaaGreatDoorQToldR
import Derived.Test.YtmpbbmfbgcpplaaGreatDoorQTypedG
import Derived.Deep.DeepCutAuto
import Derived.Deep.CutBlock
namespace Go.Proofs.YtmpbbmfbgcpplaaGreatDoor
open Go Go.RowKit Lx

theorem level_one (K : Int) : 1 ≤ levelI K := by
  unfold levelI
  repeat' split
  all_goals decide
theorem partT_one (K : Int) (tk : List Tok) : partT K 1 tk = tk := by
  have := level_one K
  rw [partT, if_neg (by omega)]
theorem cn_part (K a : Int) (tk : List Tok) : cn (partT K a tk) ≤ cn tk + 2 := by
  unfold partT asideT
  split
  · rw [cn_cons, cn_append, cn_cons, cn_nil]; omega
  · omega
theorem cn_aside (tk : List Tok) : cn (asideT tk) = cn tk + 2 := by
  unfold asideT
  rw [cn_cons, cn_append, cn_cons, cn_nil]; omega
theorem cn_oper (K : Int) : cn (operT K) ≤ 1 := by
  unfold operT
  repeat' split
  all_goals first | exact Nat.le_refl _ | exact Nat.zero_le _
theorem cn_comma (f : Nat → List Tok) (i : Nat) : cn (commaT f i) ≤ 1 + cn (f i) := by
  unfold commaT
  rw [cn_append]
  split
  · rw [cn_cons, cn_nil]; omega
  · rw [cn_nil]; omega
theorem exT_cnt {K N : Int} {S : Bs} {nm : Nat → Bs} {q : Nat} {Ks : Nat → Int} {tk : Nat → List Tok} {typ : List Tok} {g : Nat → Nat} {G T : Nat} (h0 : ∀ i, cn (tk i) ≤ g i) (h1 : ∀ i, i < q → cn (tk i) + 3 ≤ g i) (hG : ∀ n, ((List.range n).map g).sum ≤ G) (hT : cn typ ≤ 4 * T) :
    cn (exT K N S nm q Ks tk typ) ≤ 6 + G + 4 * T := by
  have g1 := hG 1
  have g2 := hG 2
  simp only [List.range_one, List.map_cons, List.map_nil, List.sum_cons, List.sum_nil, show List.range 2 = [0, 1] from rfl] at g1 g2
  have z0 := h0 0
  have z1 := h0 1
  have hp := fun i a => cn_part (Ks i) a (tk i)
  have hargs : cn (argsT (q - 1) (fun k => partT (Ks (k + 1)) 1 (tk (k + 1)))) + cn (tk 0) + (if 0 < q then 3 else 0) ≤ 2 + G := by
    unfold argsT
    rw [cn_cons, cn_append, cn_flat, cn_cons, cn_nil]
    have e1 : ((List.range (q - 1)).map fun i => cn (commaT (fun k => partT (Ks (k + 1)) 1 (tk (k + 1))) i)).sum ≤ ((List.range (q - 1)).map fun i => g (i + 1)).sum := sum_le fun i hi => by
      have := cn_comma (fun k => partT (Ks (k + 1)) 1 (tk (k + 1))) i
      rw [partT_one] at this
      have := h1 (i + 1) (by omega)
      omega
    rcases Nat.eq_zero_or_pos q with hq | hq
    · subst hq
      simp at e1 ⊢
      omega
    · rw [if_pos hq]
      have e2 := hG q
      obtain ⟨m, rfl⟩ : ∃ m, q = m + 1 := ⟨q - 1, by omega⟩
      rw [List.range_succ_eq_map, List.map_cons, List.sum_cons, List.map_map] at e2
      have e3 : ((List.range m).map (g ∘ Nat.succ)).sum = ((List.range (m + 1 - 1)).map fun i => g (i + 1)).sum := rfl
      have := h1 0 hq
      omega
  have hlit : cn (litT S q nm (fun k => partT (Ks k) 1 (tk k))) ≤ 3 + G := by
    unfold litT
    rw [cn_cons, cn_cons, cn_append, cn_flat, cn_cons, cn_nil]
    have e1 : ((List.range q).map fun i => cn (commaT (fun i => tN (nm i) :: tS [58] :: (fun k => partT (Ks k) 1 (tk k)) i) i)).sum ≤ ((List.range q).map g).sum := sum_le fun i hi => by
      have := cn_comma (fun i => tN (nm i) :: tS [58] :: (fun k => partT (Ks k) 1 (tk k)) i) i
      have h2 : cn ((fun i => tN (nm i) :: tS [58] :: (fun k => partT (Ks k) 1 (tk k)) i) i) = 2 + cn (tk i) := by
        show cn (tN (nm i) :: tS [58] :: partT (Ks i) 1 (tk i)) = _
        rw [cn_cons, cn_cons, partT_one]; omega
      rw [h2] at this
      have := h1 i hi
      omega
    have e2 := hG q
    omega
  rw [exT]
  by_cases k0 : twoB K = true
  · rw [if_pos k0, cn_append, cn_append]
    have a1 := hp 0 (if K = 18 ∨ K = 19 then levelI K + 1 else levelI K)
    have a2 := hp 1 (levelI K + 1)
    have a3 := cn_oper K
    omega
  rw [if_neg k0]
  by_cases k1 : K = 12
  · rw [if_pos k1, cn_append, cn_cons]
    have a1 := hp 0 7
    omega
  rw [if_neg k1]
  by_cases k2 : K = 9
  · rw [if_pos k2, cn_append, cn_cons, cn_cons, cn_nil]
    have a1 := hp 0 7
    omega
  rw [if_neg k2]
  by_cases k3 : K = 10
  · rw [if_pos k3, cn_append, cn_cons, cn_cons]
    have a1 := hp 0 7
    split at hargs <;> omega
  rw [if_neg k3]
  by_cases k4 : K = 11
  · rw [if_pos k4, cn_append]
    have a1 := hp 0 7
    have a2 := cn_aside (tk 0)
    have a3 : cn (if Ks 0 = 9 then asideT (tk 0) else partT (Ks 0) 7 (tk 0)) ≤ cn (tk 0) + 2 := by split <;> omega
    omega
  rw [if_neg k4]
  by_cases k5 : K = 13
  · rw [if_pos k5, cn_cons]
    have a1 := hp 0 6
    omega
  rw [if_neg k5]
  by_cases k6 : K = 14
  · rw [if_pos k6, cn_cons]
    have a1 := hp 0 6
    omega
  rw [if_neg k6]
  by_cases k7 : K = 1
  · rw [if_pos k7, cn_cons, cn_nil]; omega
  rw [if_neg k7]
  by_cases k8 : K = 2
  · rw [if_pos k8, cn_cons, cn_nil]; omega
  rw [if_neg k8]
  by_cases k9 : K = 3
  · rw [if_pos k9, cn_cons, cn_nil]; omega
  rw [if_neg k9]
  by_cases k10 : K = 4
  · rw [if_pos k10, cn_cons, cn_nil]; omega
  rw [if_neg k10]
  by_cases k11 : K = 5
  · rw [if_pos k11, cn_cons, cn_nil]; omega
  rw [if_neg k11]
  by_cases k12 : K = 6
  · rw [if_pos k12, cn_cons]; omega
  rw [if_neg k12]
  by_cases k13 : K = 7
  · rw [if_pos k13]; omega
  rw [if_neg k13]
  by_cases k14 : K = 8
  · rw [if_pos k14, cn_cons]; omega
  rw [if_neg k14, cn_nil]; omega
/-- an expression has no more than nine tokens for each part and byte of it. -/
theorem ex_cnt (D : Nat) : ∀ (d : Nat) (x : Ex D d), cn (exTk D d x) + 3 ≤ 9 * szX D d x
  | 0, x => nomatch x
  | d + 1, x => by
    obtain ⟨A, K, N, S, ts, ns, xs⟩ := x
    have hsz : szX D (d + 1) (A, K, N, S, ts, ns, xs) = 1 + S.length + ns.length + sumL ns + szL D ts + (xs.map (szX D d)).sum := rfl
    rw [hsz]
    have h := exT_cnt (K := K) (N := N) (S := S) (nm := fun i => ns.getD i []) (q := xs.length) (Ks := fun i => (xs[i]?.map (exKind D d)).getD 0) (tk := fun i => (xs[i]?.map (exTk D d)).getD []) (typ := (ts[0]?.map (tyToks D false)).getD []) (g := fun i => (xs[i]?.map fun u => 9 * szX D d u).getD 0) (G := 9 * (xs.map (szX D d)).sum) (T := szL D ts) (fun i => ?_) (fun i hi => ?_) (fun n => ?_) ?_
    · exact Nat.le_trans (Nat.add_le_add_right h 3) (by omega)
    · rcases e : xs[i]? with _ | u
      · exact Nat.le_refl _
      · have := ex_cnt D d u
        exact (show cn (exTk D d u) ≤ 9 * szX D d u by omega)
    · have e : xs[i]? = some xs[i] := by simp
      show cn ((xs[i]?.map (exTk D d)).getD []) + 3 ≤ (xs[i]?.map fun u => 9 * szX D d u).getD 0
      rw [e]
      exact ex_cnt D d xs[i]
    · refine Nat.le_trans (part_sum xs (fun u => 9 * szX D d u) n) ?_
      clear hsz
      induction xs with
      | nil => simp
      | cons x r ih => simp only [List.map_cons, List.sum_cons]; omega
    · rcases e : ts[0]? with _ | u
      · exact Nat.zero_le _
      · have h1 := toks_cnt D false u
        have h2 : szD D u ≤ szL D ts := szL_mem (List.mem_of_getElem? e)
        exact (show cn (tyToks D false u) ≤ 4 * szL D ts by omega)
/-- no token's text is longer. -/
def Sh (B : Nat) (ts : List Tok) : Prop := ∀ t ∈ ts, (tokText t).length ≤ B
section
variable {B : Nat}
theorem sh_nil : Sh B [] := fun _ h => nomatch h
theorem sh_cons {t : Tok} {b : List Tok} (h : (tokText t).length ≤ B) (k : Sh B b) : Sh B (t :: b) := fun u hu => by
  rcases List.mem_cons.1 hu with rfl | hu
  · exact h
  · exact k u hu
theorem sh_append {a b : List Tok} (h : Sh B a) (k : Sh B b) : Sh B (a ++ b) := fun t ht => by
  rcases List.mem_append.1 ht with h1 | h1
  · exact h t h1
  · exact k t h1
theorem sh_flat {α : Type} {l : List α} {f : α → List Tok} (h : ∀ a ∈ l, Sh B (f a)) : Sh B (l.flatMap f) := fun t ht => by
  obtain ⟨a, ha, hat⟩ := List.mem_flatMap.1 ht
  exact h a ha t hat
theorem sh_opt {α : Type} {l : List α} {i : Nat} {f : α → List Tok} (h : ∀ a ∈ l, Sh B (f a)) : Sh B ((l[i]?.map f).getD []) := by
  rcases hi : l[i]? with _ | a
  · exact sh_nil
  · exact h a (List.mem_of_getElem? hi)
theorem sh_S {s : Bs} {b : List Tok} (h : s.length ≤ B) (k : Sh B b) : Sh B (tS s :: b) := sh_cons (by rw [tS_text]; exact h) k
theorem sh_W {s : Bs} {b : List Tok} (h : s.length ≤ B) (k : Sh B b) : Sh B (tW s :: b) := sh_cons (by rw [tW_text]; exact h) k
theorem sh_N {s : Bs} {b : List Tok} (h : s.length ≤ B) (k : Sh B b) : Sh B (tN s :: b) := sh_cons (by rw [tN_text]; exact h) k
theorem sh_T {s : Bs} {b : List Tok} (h : s.length ≤ B) (k : Sh B b) : Sh B (tT s :: b) := sh_cons (by rw [show tokText (tT s) = s from by rw [tokText_own (show (2 : Int) ≠ 4 by decide) (show (2 : Int) ≠ 5 by decide)]; rfl]; exact h) k
theorem sh_aside {tk : List Tok} (hB : 25 ≤ B) (h : Sh B tk) : Sh B (asideT tk) := by
  have : 1 ≤ B := by omega
  exact sh_S this (sh_append h (sh_S this sh_nil))
theorem sh_part {K a : Int} {tk : List Tok} (hB : 25 ≤ B) (h : Sh B tk) : Sh B (partT K a tk) := by
  unfold partT; split
  · exact sh_aside hB h
  · exact h
theorem sh_commas {n : Nat} {f : Nat → List Tok} (hB : 25 ≤ B) (h : ∀ i, Sh B (f i)) : Sh B ((List.range n).flatMap (commaT f)) := sh_flat fun i _ => by
  have : 1 ≤ B := by omega
  unfold commaT; split
  · exact sh_append (sh_S this sh_nil) (h i)
  · exact sh_append sh_nil (h i)
theorem sh_args {n : Nat} {f : Nat → List Tok} (hB : 25 ≤ B) (h : ∀ i, Sh B (f i)) : Sh B (argsT n f) := by
  have : 1 ≤ B := by omega
  exact sh_S this (sh_append (sh_commas hB h) (sh_S this sh_nil))
theorem sh_lit {S : Bs} {n : Nat} {nm : Nat → Bs} {f : Nat → List Tok} (hB : 25 ≤ B) (hS : S.length ≤ B) (hn : ∀ i, (nm i).length ≤ B) (h : ∀ i, Sh B (f i)) : Sh B (litT S n nm f) := by
  have : 1 ≤ B := by omega
  exact sh_T hS (sh_S this (sh_append (sh_commas hB fun i => sh_N (hn i) (sh_S this (h i))) (sh_S this sh_nil)))
theorem sh_oper (hB : 25 ≤ B) (K : Int) : Sh B (operT K) := by
  have h1 : 1 ≤ B := by omega
  have h2 : 2 ≤ B := by omega
  have h3 : 3 ≤ B := by omega
  unfold operT
  repeat' split
  all_goals first | exact sh_S h1 sh_nil | exact sh_S h2 sh_nil | exact sh_W h3 sh_nil | exact sh_W h2 sh_nil | exact sh_nil
theorem sh_ite {p : Prop} [Decidable p] {a b : List Tok} (ha : Sh B a) (hb : Sh B b) : Sh B (if p then a else b) := by
  by_cases h : p
  · rw [if_pos h]; exact ha
  · rw [if_neg h]; exact hb
theorem escs_le : ∀ s : Bs, (escs s).length ≤ 2 * s.length
  | [] => by simp [escs]
  | c :: r => by
    have h1 := escs_le r
    have h2 := esc1_len c
    rw [escs_cons, List.length_append, List.length_cons]
    omega
theorem exT_short {K N : Int} {S : Bs} {nm : Nat → Bs} {q : Nat} {Ks : Nat → Int} {tk : Nat → List Tok} {typ : List Tok} (hB : 25 ≤ B) (hS : 2 * S.length + 2 ≤ B) (hN : K = 1 → (tokText (0, 4, [], N)).length ≤ B) (hn : ∀ i, (nm i).length ≤ B) (ht : ∀ i, Sh B (tk i)) (hty : Sh B typ) : Sh B (exT K N S nm q Ks tk typ) := by
  have hp := fun i a => sh_part (K := Ks i) (a := a) hB (ht i)
  have h1 : 1 ≤ B := by omega
  have h2 : 2 ≤ B := by omega
  have h3 : 3 ≤ B := by omega
  have h4 : 4 ≤ B := by omega
  have h5 : 5 ≤ B := by omega
  have hS' : S.length ≤ B := by omega
  rw [exT]
  by_cases k0 : twoB K = true
  · rw [if_pos k0]
    exact sh_append (sh_append (hp _ _) (sh_oper hB _)) (hp _ _)
  rw [if_neg k0]
  by_cases k1 : K = 12
  · rw [if_pos k1]
    exact sh_append (hp _ _) (sh_W h2 hty)
  rw [if_neg k1]
  by_cases k2 : K = 9
  · rw [if_pos k2]
    exact sh_append (hp _ _) (sh_S h1 (sh_N hS' sh_nil))
  rw [if_neg k2]
  by_cases k3 : K = 10
  · rw [if_pos k3]
    exact sh_append (hp _ _) (sh_S h1 (sh_N hS' (sh_args hB fun i => hp _ _)))
  rw [if_neg k3]
  by_cases k4 : K = 11
  · rw [if_pos k4]
    exact sh_append (sh_ite (sh_aside hB (ht 0)) (hp _ _)) (sh_args hB fun i => hp _ _)
  rw [if_neg k4]
  by_cases k5 : K = 13
  · rw [if_pos k5]
    exact sh_S h1 (hp _ _)
  rw [if_neg k5]
  by_cases k6 : K = 14
  · rw [if_pos k6]
    exact sh_W h3 (hp _ _)
  rw [if_neg k6]
  by_cases k7 : K = 1
  · rw [if_pos k7]
    exact sh_cons (hN k7) sh_nil
  rw [if_neg k7]
  by_cases k8 : K = 2
  · rw [if_pos k8]
    refine sh_cons ?_ sh_nil
    have := escs_le S
    rw [tokText_quote, quote, List.length_cons, List.length_append, List.length_cons, List.length_nil]
    omega
  rw [if_neg k8]
  by_cases k9 : K = 3
  · rw [if_pos k9]
    by_cases z : N = 0
    · rw [if_pos z]; exact sh_W h5 sh_nil
    · rw [if_neg z]; exact sh_W h4 sh_nil
  rw [if_neg k9]
  by_cases k10 : K = 4
  · rw [if_pos k10]
    exact sh_N hS' sh_nil
  rw [if_neg k10]
  by_cases k11 : K = 5
  · rw [if_pos k11]
    exact sh_W h4 sh_nil
  rw [if_neg k11]
  by_cases k12 : K = 6
  · rw [if_pos k12]
    exact sh_W h3 hty
  rw [if_neg k12]
  by_cases k13 : K = 7
  · rw [if_pos k13]
    exact sh_lit hB hS' hn fun i => hp _ _
  rw [if_neg k13]
  by_cases k14 : K = 8
  · rw [if_pos k14]
    exact sh_W h3 (sh_lit hB hS' hn fun i => hp _ _)
  rw [if_neg k14]
  exact sh_nil
end
/-- a right expression: its kind's shape, its types and its parts right. -/
theorem rightX_parts {D d : Nat} {x : Ex D (d + 1)} (h : ∃ room, rightX D (d + 1) room x = true) : shapedXB D d x = true ∧ rightsB D 64 (xT x) = true ∧ ∀ u ∈ xPs x, ∃ room, rightX D d room u = true := by
  obtain ⟨room, h⟩ := h
  rw [rightX] at h
  simp only [Bool.and_eq_true] at h
  obtain ⟨⟨⟨_, h1⟩, h2⟩, h3⟩ := h
  refine ⟨h1, h2, fun u hu => ?_⟩
  obtain ⟨i, hi, rfl⟩ := List.getElem_of_mem hu
  rw [allB, List.all_eq_true] at h3
  have := h3 i (List.mem_range.2 hi)
  rw [List.getElem?_eq_getElem hi] at this
  exact ⟨_, this⟩
theorem shaped_num {D d : Nat} {x : Ex D (d + 1)} (h : shapedXB D d x = true) : 0 ≤ xN x ∧ xN x ≤ 9223372036854775807 ∧ 1 ≤ xKind x ∧ xKind x ≤ 21 := by
  unfold shapedXB at h
  generalize xKind x = K at h ⊢
  generalize xN x = N at h ⊢
  unfold shapeX at h
  by_cases k : 1 ≤ K ∧ K ≤ 21
  · have hk : K = 1 ∨ K = 2 ∨ K = 3 ∨ K = 4 ∨ K = 5 ∨ K = 6 ∨ K = 7 ∨ K = 8 ∨ K = 9 ∨ K = 10 ∨ K = 11 ∨ K = 12 ∨ K = 13 ∨ K = 14 ∨ K = 15 ∨ K = 16 ∨ K = 17 ∨ K = 18 ∨ K = 19 ∨ K = 20 ∨ K = 21 := by omega
    rcases hk with e | e | e | e | e | e | e | e | e | e | e | e | e | e | e | e | e | e | e | e | e
    all_goals
      subst e
      simp only [Int.reduceEq, if_true, if_false, or_self, or_true, true_or, Int.reduceLE, and_self, Bool.and_eq_true, decide_eq_true_eq] at h
      omega
  · exfalso
    rw [if_neg (by omega), if_neg (by omega), if_neg (by omega), if_neg (by omega), if_neg (by omega), if_neg (by omega), if_neg (by omega), if_neg (by omega), if_neg (by omega), if_neg (by omega), if_neg (by omega), if_neg (by omega), if_neg (by omega)] at h
    cases h
theorem spaced_in {l : List Tok} {t : Tok} (h : t ∈ l) : (tokText t).length ≤ (spaced l).length := by
  induction l with
  | nil => cases h
  | cons x r ih =>
    rw [spaced_cons]
    simp only [List.length_cons, List.length_append]
    rcases List.mem_cons.1 h with rfl | h
    · omega
    · have := ih h; omega
theorem ty_short {D Z : Nat} {ts : List (Ty D)} (h : szL D ts ≤ Z) : Sh (20 * Z + 25) ((ts[0]?.map (tyToks D false)).getD []) := sh_opt fun a ha t ht => by
  have h1 := spaced_in ht
  have h2 := toks_len D false a
  have h3 : szD D a ≤ szL D ts := szL_mem ha
  unfold fl at h2
  omega
/-- no token of a right expression is long. -/
theorem ex_short (D Z : Nat) : ∀ (d : Nat) (x : Ex D d), (∃ room, rightX D d room x = true) → szX D d x ≤ Z → Sh (20 * Z + 25) (exTk D d x)
  | 0, x, _, _ => nomatch x
  | d + 1, x, hr, hz => by
    obtain ⟨h1, _, h3⟩ := rightX_parts hr
    obtain ⟨n0, n1, _, _⟩ := shaped_num h1
    obtain ⟨A, K, N, S, ts, ns, xs⟩ := x
    have hsz : 1 + S.length + ns.length + sumL ns + szL D ts + (xs.map (szX D d)).sum ≤ Z := hz
    refine exT_short (by omega) (show 2 * S.length + 2 ≤ _ by omega) (fun _ => ?_) (fun i => ?_) (fun i => ?_) (ty_short (show szL D ts ≤ Z by omega))
    · obtain ⟨u, hu⟩ : ∃ u : Nat, N = (u : Int) := ⟨N.toNat, by have : 0 ≤ N := n0; omega⟩
      have n1' : N ≤ 9223372036854775807 := n1
      show (tokText (0, 4, [], N)).length ≤ _
      rw [hu, tokText_num, Lib.decDigits_length]
      have := Lib.nDigits_le20 u (by omega)
      omega
    · have := getD_len (i := i) (n := Z) (l := ns) fun s hs => by have := sumL_mem hs; omega
      exact Nat.le_trans this (by omega)
    · refine sh_opt fun a ha => ex_short D Z d a (h3 a ha) ?_
      have : szX D d a ≤ (xs.map (szX D d)).sum := mem_sum (List.mem_map.2 ⟨a, ha, rfl⟩)
      omega
theorem snd_aside {tk : List Tok} (h : tk.all sound = true) : (asideT tk).all sound = true := by
  unfold asideT
  rw [List.all_cons, List.all_append, h]
  decide +kernel
theorem snd_part {K a : Int} {tk : List Tok} (h : tk.all sound = true) : (partT K a tk).all sound = true := by
  unfold partT; split
  · exact snd_aside h
  · exact h
theorem snd_app {a b : List Tok} (h : a.all sound = true) (k : b.all sound = true) : (a ++ b).all sound = true := by rw [List.all_append, h, k]; rfl
theorem snd_cons {t : Tok} {b : List Tok} (h : sound t = true) (k : b.all sound = true) : (t :: b).all sound = true := by rw [List.all_cons, h, k]; rfl
theorem snd_commas {n : Nat} {f : Nat → List Tok} (h : ∀ i, i < n → (f i).all sound = true) : ((List.range n).flatMap (commaT f)).all sound = true := flat_sound fun i hi => by
  unfold commaT
  rw [List.all_append, h i hi]
  split <;> decide +kernel
theorem snd_args {n : Nat} {f : Nat → List Tok} (h : ∀ i, i < n → (f i).all sound = true) : (argsT n f).all sound = true :=
  snd_cons (by decide +kernel) (snd_app (snd_commas h) (by decide +kernel))
theorem snd_lit {S : Bs} {n : Nat} {nm : Nat → Bs} {f : Nat → List Tok} (hS : sound (tT S) = true) (hn : ∀ i, i < n → sound (tN (nm i)) = true) (h : ∀ i, i < n → (f i).all sound = true) : (litT S n nm f).all sound = true :=
  snd_cons hS (snd_cons (by decide +kernel) (snd_app (snd_commas fun i hi => snd_cons (hn i hi) (snd_cons (by decide +kernel) (h i hi))) (by decide +kernel)))
theorem snd_oper (K : Int) : (operT K).all sound = true := by
  unfold operT
  repeat' split
  all_goals first | decide +kernel | rfl
theorem snd_ite {p : Prop} [Decidable p] {a b : List Tok} (ha : a.all sound = true) (hb : b.all sound = true) : (if p then a else b).all sound = true := by
  by_cases h : p
  · rw [if_pos h]; exact ha
  · rw [if_neg h]; exact hb
theorem exT_sound {K N : Int} {S : Bs} {nm : Nat → Bs} {q : Nat} {Ks : Nat → Int} {tk : Nat → List Tok} {typ : List Tok} (hN : 0 ≤ N) (h2 : K = 2 → sound (0, 5, S, 0) = true) (h4 : K = 4 ∨ K = 9 ∨ K = 10 → sound (tN S) = true) (h7 : K = 7 ∨ K = 8 → sound (tT S) = true ∧ ∀ i, i < q → sound (tN (nm i)) = true) (ht : ∀ i, (tk i).all sound = true) (hty : typ.all sound = true) : (exT K N S nm q Ks tk typ).all sound = true := by
  have hp := fun i a => snd_part (K := Ks i) (a := a) (ht i)
  rw [exT]
  by_cases k0 : twoB K = true
  · rw [if_pos k0]
    exact snd_app (snd_app (hp _ _) (snd_oper _)) (hp _ _)
  rw [if_neg k0]
  by_cases k1 : K = 12
  · rw [if_pos k1]
    exact snd_app (hp _ _) (snd_cons (by decide +kernel) hty)
  rw [if_neg k1]
  by_cases k2 : K = 9
  · rw [if_pos k2]
    exact snd_app (hp _ _) (snd_cons (by decide +kernel) (snd_cons (h4 (.inr (.inl k2))) rfl))
  rw [if_neg k2]
  by_cases k3 : K = 10
  · rw [if_pos k3]
    exact snd_app (hp _ _) (snd_cons (by decide +kernel) (snd_cons (h4 (.inr (.inr k3))) (snd_args fun i _ => hp _ _)))
  rw [if_neg k3]
  by_cases k4 : K = 11
  · rw [if_pos k4]
    exact snd_app (snd_ite (snd_aside (ht 0)) (hp _ _)) (snd_args fun i _ => hp _ _)
  rw [if_neg k4]
  by_cases k5 : K = 13
  · rw [if_pos k5]
    exact snd_cons (by decide +kernel) (hp _ _)
  rw [if_neg k5]
  by_cases k6 : K = 14
  · rw [if_pos k6]
    exact snd_cons (by decide +kernel) (hp _ _)
  rw [if_neg k6]
  by_cases k7 : K = 1
  · rw [if_pos k7]
    exact snd_cons (by simp [sound, hN]) rfl
  rw [if_neg k7]
  by_cases k8 : K = 2
  · rw [if_pos k8]
    exact snd_cons (h2 k8) rfl
  rw [if_neg k8]
  by_cases k9 : K = 3
  · rw [if_pos k9]
    by_cases z : N = 0
    · rw [if_pos z]; decide +kernel
    · rw [if_neg z]; decide +kernel
  rw [if_neg k9]
  by_cases k10 : K = 4
  · rw [if_pos k10]
    exact snd_cons (h4 (.inl k10)) rfl
  rw [if_neg k10]
  by_cases k11 : K = 5
  · rw [if_pos k11]
    decide +kernel
  rw [if_neg k11]
  by_cases k12 : K = 6
  · rw [if_pos k12]
    exact snd_cons (by decide +kernel) hty
  rw [if_neg k12]
  by_cases k13 : K = 7
  · rw [if_pos k13]
    exact snd_lit (h7 (.inl k13)).1 (h7 (.inl k13)).2 fun i _ => hp _ _
  rw [if_neg k13]
  by_cases k14 : K = 8
  · rw [if_pos k14]
    exact snd_cons (by decide +kernel) (snd_lit (h7 (.inr k14)).1 (h7 (.inr k14)).2 fun i _ => hp _ _)
  rw [if_neg k14]
  rfl
/-- what a right expression's shape says of its text, its names and its parts, by kinds. -/
theorem shaped_says {D d : Nat} {A K N : Int} {S : Bs} {ts : List (Ty D)} {ns : List Bs} {xs : List (Ex D d)} (h : shapedXB D d (A, K, N, S, ts, ns, xs) = true) :
    (K = 2 → isTok 5 S = true) ∧ (K = 4 ∨ K = 9 ∨ K = 10 → isTok 1 S = true) ∧ (K = 7 ∨ K = 8 → isTok 2 S = true ∧ ns.length = xs.length ∧ namesB ns = true) ∧ (K = 6 ∨ K = 12 → ts.length = 1) ∧ (K = 9 ∨ K = 12 ∨ K = 13 ∨ K = 14 → xs.length = 1) ∧ (K = 10 ∨ K = 11 → 1 ≤ xs.length) ∧ (15 ≤ K → xs.length = 2) ∧ (K = 3 → N = 0 ∨ N = 1) := by
  have hk := (shaped_num h).2.2
  have k1 : 1 ≤ K := hk.1
  have k2 : K ≤ 21 := hk.2
  clear hk
  have e3 : shapedXB D d (A, K, N, S, ts, ns, xs) = (match shapeX K with | none => false | some (says, mostN, types, named, least, most) => decide (0 ≤ N) && decide (N ≤ mostN) && decide ((ts.length : Int) = types) && decide (least ≤ (xs.length : Int)) && decide ((xs.length : Int) ≤ most) && saysB says S && namesRB named ns xs.length) := rfl
  rw [e3] at h
  clear e3
  have hk : K = 1 ∨ K = 2 ∨ K = 3 ∨ K = 4 ∨ K = 5 ∨ K = 6 ∨ K = 7 ∨ K = 8 ∨ K = 9 ∨ K = 10 ∨ K = 11 ∨ K = 12 ∨ K = 13 ∨ K = 14 ∨ K = 15 ∨ K = 16 ∨ K = 17 ∨ K = 18 ∨ K = 19 ∨ K = 20 ∨ K = 21 := by omega
  generalize xs.length = q at h ⊢
  generalize ts.length = m at h ⊢
  rcases hk with e | e | e | e | e | e | e | e | e | e | e | e | e | e | e | e | e | e | e | e | e
  all_goals
    subst e
    simp [shapeX, saysB, namesRB] at h
    refine ⟨?_, ?_, ?_, ?_, ?_, ?_, ?_, ?_⟩ <;> first | (intro hh; omega) | (intro hh; simp_all; done) | (simp; done) | (simp_all; omega)
/-- a right expression's tokens are sound. -/
theorem ex_sound (D : Nat) : ∀ (d : Nat) (x : Ex D d), (∃ room, rightX D d room x = true) → (exTk D d x).all sound = true
  | 0, x, _ => nomatch x
  | d + 1, x, hr => by
    obtain ⟨h1, h2, h3⟩ := rightX_parts hr
    obtain ⟨n0, _, _, _⟩ := shaped_num h1
    obtain ⟨A, K, N, S, ts, ns, xs⟩ := x
    obtain ⟨s2, s4, s7, _⟩ := shaped_says h1
    refine exT_sound n0 s2 s4 (fun hk => ⟨(s7 hk).1, fun i hi => ?_⟩) (fun i => part_sound fun a ha => ex_sound D d a (h3 a ha)) (part_sound fun a ha => toks_sound D false a 64 (rights_mem h2 a ha))
    obtain ⟨_, e, hn⟩ := s7 hk
    unfold namesB at hn
    rw [Bool.and_eq_true, List.all_eq_true] at hn
    have hi' : i < ns.length := by rw [e]; exact hi
    have := hn.1 ns[i] (by simp)
    show sound (tN (ns.getD i [])) = true
    rw [List.getD_eq_getElem?_getD, List.getElem?_eq_getElem hi']
    exact this
/-- an expression's strings. -/
def exS (D d : Nat) (x : Ex D d) : List Bs := (exTk D d x).map tokText
/-- the reference's text of a right expression is the program's. -/
theorem ex_text {D d : Nat} {x : Ex D (d + 1)} (h : rightX D (d + 1) 64 x = true) : textOf (exS D (d + 1) x) = exprAns D d x := by
  rw [exprAns, if_pos h]
  exact text_join (ex_sound D (d + 1) x ⟨_, h⟩)
theorem exS_le (D d : Nat) (x : Ex D d) : (exS D d x).length + 3 ≤ 9 * szX D d x := by
  have := ex_cnt D d x
  rw [exS, List.length_map]
  exact this
theorem exS_short {D d : Nat} {x : Ex D d} (hr : ∃ room, rightX D d room x = true) {s : Bs} (h : s ∈ exS D d x) : s.length ≤ 20 * szX D d x + 25 := by
  obtain ⟨t, ht, rfl⟩ := List.mem_map.1 h
  exact ex_short D _ d x hr (Nat.le_refl _) t ht
end Go.Proofs.YtmpbbmfbgcpplaaGreatDoor
/-
  An expression's strings, kind by kind; an expression and its room as they lie. No walk.
-/
namespace Go.Proofs.YtmpbbmfbgcpplaaGreatDoor
open Go Go.RowKit Lx

/-- a record's strings up to its k-th field. -/
def litS (hd : List Bs) (ns : List Bs) (LS : Nat → List Bs) (k : Nat) : List Bs := hd ++ (List.range k).flatMap fun i => (if 0 < i then [[44]] else []) ++ [ns.getD i [], [58]] ++ LS i
theorem litS_succ (hd : List Bs) (ns : List Bs) (LS : Nat → List Bs) (k : Nat) : litS hd ns LS (k + 1) = litS hd ns LS k ++ (if 0 < k then [[44]] else []) ++ [ns.getD k [], [58]] ++ LS k := by
  unfold litS
  rw [List.range_succ, List.flatMap_append]
  simp
theorem litS_le (hd : List Bs) (ns : List Bs) (LS : Nat → List Bs) {k n : Nat} (h : k ≤ n) : (litS hd ns LS k).length ≤ (litS hd ns LS n).length := by
  induction n with
  | zero => rw [Nat.le_zero.1 h]; exact Nat.le_refl _
  | succ n ih =>
    rcases Nat.eq_or_lt_of_le h with e | e
    · rw [e]; exact Nat.le_refl _
    · have := ih (by omega)
      rw [litS_succ, List.length_append, List.length_append, List.length_append]; omega
theorem aside_map (tk : List Tok) : (asideT tk).map tokText = asideS (tk.map tokText) := by
  unfold asideT asideS
  rw [List.map_cons, List.map_append, List.map_cons, List.map_nil, tS_text, tS_text]
  rfl
theorem part_texts (K a : Int) (tk : List Tok) : (partT K a tk).map tokText = partS K a (tk.map tokText) := by
  unfold partT partS
  split
  · exact aside_map tk
  · rfl
theorem comma_map (f : Nat → List Tok) (i : Nat) : (commaT f i).map tokText = (if 0 < i then [[44]] else []) ++ (f i).map tokText := by
  unfold commaT
  rw [List.map_append]
  split
  · rw [List.map_cons, List.map_nil, tS_text]
  · rfl
theorem args_map (n : Nat) (Ks : Nat → Int) (tk : Nat → List Tok) : (argsT n (fun k => partT (Ks (k + 1)) 1 (tk (k + 1)))).map tokText = argS (fun i => (tk (i + 1)).map tokText) n ++ [[41]] := by
  unfold argsT argS
  rw [List.map_cons, List.map_append, List.map_flatMap, List.map_cons, List.map_nil, tS_text, tS_text, List.cons_append]
  congr 3
  funext i
  rw [comma_map, partT_one]
theorem lit_map (S : Bs) (n : Nat) (ns : List Bs) (Ks : Nat → Int) (tk : Nat → List Tok) : (litT S n (fun i => ns.getD i []) (fun k => partT (Ks k) 1 (tk k))).map tokText = litS [S, [123]] ns (fun i => (tk i).map tokText) n ++ [[125]] := by
  unfold litT litS
  rw [List.map_cons, List.map_cons, List.map_append, List.map_flatMap, List.map_cons, List.map_nil, tS_text, tS_text, tT_text]
  show _ :: _ :: _ = _ :: _ :: _
  congr 4
  funext i
  rw [comma_map, List.map_cons, List.map_cons, tN_text, tS_text, List.append_assoc]
  show _ ++ _ :: _ :: (partT (Ks i) 1 (tk i)).map tokText = _
  rw [partT_one]
  rfl
section
variable {N : Int} {S : Bs} {nm : Nat → Bs} {q : Nat} {Ks : Nat → Int} {tk : Nat → List Tok} {typ : List Tok}
theorem exM_1 (n : Nat) : (exT 1 (n : Int) S nm q Ks tk typ).map tokText = [Lib.decDigits n] := by
  show [tokText (0, 4, [], (n : Int))] = _
  rw [tokText_num]
theorem exM_2 : (exT 2 N S nm q Ks tk typ).map tokText = [quote S] := by
  show [tokText (0, 5, S, 0)] = _
  rw [tokText_quote]
theorem exM_3t : (exT 3 1 S nm q Ks tk typ).map tokText = [[116, 114, 117, 101]] := by
  show [tokText (tW [116, 114, 117, 101])] = _
  rw [tW_text]
theorem exM_3f : (exT 3 0 S nm q Ks tk typ).map tokText = [[102, 97, 108, 115, 101]] := by
  show [tokText (tW [102, 97, 108, 115, 101])] = _
  rw [tW_text]
theorem exM_4 : (exT 4 N S nm q Ks tk typ).map tokText = [S] := by
  show [tokText (tN S)] = _
  rw [tN_text]
theorem exM_5 : (exT 5 N S nm q Ks tk typ).map tokText = [[115, 101, 108, 102]] := by
  show [tokText (tW [115, 101, 108, 102])] = _
  rw [tW_text]
theorem exM_6 : (exT 6 N S nm q Ks tk typ).map tokText = [110, 105, 108] :: typ.map tokText := by
  show tokText (tW [110, 105, 108]) :: typ.map tokText = _
  rw [tW_text]
theorem exM_7 {ns : List Bs} : (exT 7 N S (fun i => ns.getD i []) q Ks tk typ).map tokText = litS [S, [123]] ns (fun i => (tk i).map tokText) q ++ [[125]] := lit_map S q ns Ks tk
theorem exM_8 {ns : List Bs} : (exT 8 N S (fun i => ns.getD i []) q Ks tk typ).map tokText = litS [[110, 101, 119], S, [123]] ns (fun i => (tk i).map tokText) q ++ [[125]] := by
  show tokText (tW [110, 101, 119]) :: (litT S q (fun i => ns.getD i []) (fun k => partT (Ks k) 1 (tk k))).map tokText = _
  rw [tW_text, lit_map]
  rfl
theorem exM_9 : (exT 9 N S nm q Ks tk typ).map tokText = partS (Ks 0) 7 ((tk 0).map tokText) ++ [[46], S] := by
  show (partT (Ks 0) 7 (tk 0) ++ [tS [46], tN S]).map tokText = _
  rw [List.map_append, part_texts, List.map_cons, List.map_cons, List.map_nil, tS_text, tN_text]
theorem exM_10 : (exT 10 N S nm q Ks tk typ).map tokText = partS (Ks 0) 7 ((tk 0).map tokText) ++ [[46], S] ++ (argS (fun i => (tk (i + 1)).map tokText) (q - 1) ++ [[41]]) := by
  show (partT (Ks 0) 7 (tk 0) ++ tS [46] :: tN S :: argsT (q - 1) (fun k => partT (Ks (k + 1)) 1 (tk (k + 1)))).map tokText = _
  rw [List.map_append, part_texts, List.map_cons, List.map_cons, args_map, tS_text, tN_text, List.append_assoc]
  rfl
theorem exM_11 : (exT 11 N S nm q Ks tk typ).map tokText = (if Ks 0 = 9 then asideS (partS (Ks 0) 7 ((tk 0).map tokText)) else partS (Ks 0) 7 ((tk 0).map tokText)) ++ (argS (fun i => (tk (i + 1)).map tokText) (q - 1) ++ [[41]]) := by
  show ((if Ks 0 = 9 then asideT (tk 0) else partT (Ks 0) 7 (tk 0)) ++ argsT (q - 1) (fun k => partT (Ks (k + 1)) 1 (tk (k + 1)))).map tokText = _
  rw [List.map_append, args_map]
  by_cases h : Ks 0 = 9
  · rw [if_pos h, if_pos h, aside_map, h, partS, if_neg (show ¬ levelI 9 < 7 by decide)]
  · rw [if_neg h, if_neg h, part_texts]
theorem exM_12 : (exT 12 N S nm q Ks tk typ).map tokText = partS (Ks 0) 7 ((tk 0).map tokText) ++ [[116, 111]] ++ typ.map tokText := by
  show (partT (Ks 0) 7 (tk 0) ++ tW [116, 111] :: typ).map tokText = _
  rw [List.map_append, part_texts, List.map_cons, tW_text, List.append_assoc]
  rfl
theorem exM_13 : (exT 13 N S nm q Ks tk typ).map tokText = [45] :: partS (Ks 0) 6 ((tk 0).map tokText) := by
  show tokText (tS [45]) :: (partT (Ks 0) 6 (tk 0)).map tokText = _
  rw [part_texts, tS_text]
theorem exM_14 : (exT 14 N S nm q Ks tk typ).map tokText = [110, 111, 116] :: partS (Ks 0) 6 ((tk 0).map tokText) := by
  show tokText (tW [110, 111, 116]) :: (partT (Ks 0) 6 (tk 0)).map tokText = _
  rw [part_texts, tW_text]
theorem exM_two {K : Int} (h1 : 15 ≤ K) (h2 : K ≤ 21) : (exT K N S nm q Ks tk typ).map tokText = partS (Ks 0) (if K = 18 ∨ K = 19 then levelI K + 1 else levelI K) ((tk 0).map tokText) ++ [signS K] ++ partS (Ks 1) (levelI K + 1) ((tk 1).map tokText) := by
  have h0 : twoB K = true := by simp [twoB, h1, h2]
  rw [exT, if_pos h0, List.map_append, List.map_append, part_texts, part_texts, sign_text h1 h2]
end
theorem exS_of (D d : Nat) (A K N : Int) (S : Bs) (ts : List (Ty D)) (ns : List Bs) (xs : List (Ex D d)) : exS D (d + 1) (A, K, N, S, ts, ns, xs) = (exT K N S (fun i => ns.getD i []) xs.length (fun i => (xs[i]?.map (exKind D d)).getD 0) (fun i => (xs[i]?.map (exTk D d)).getD []) ((ts[0]?.map (tyToks D false)).getD [])).map tokText := rfl
theorem asideS_pos (L : List Bs) : 0 < (asideS L).length := by simp [asideS]
theorem partS_pos {K a : Int} {L : List Bs} (h : 0 < L.length) : 0 < (partS K a L).length := by
  unfold partS; split
  · exact asideS_pos L
  · exact h
theorem partS_le (K a : Int) (L : List Bs) : (partS K a L).length ≤ L.length + 2 := by
  unfold partS; split
  · simp [asideS]
  · omega
/-- a right expression has a string. -/
theorem exS_pos {D d : Nat} {x : Ex D (d + 1)} (h : shapedXB D d x = true) : 0 < (exS D (d + 1) x).length := by
  obtain ⟨_, _, k1, k2⟩ := shaped_num h
  obtain ⟨A, K, N, S, ts, ns, xs⟩ := x
  obtain ⟨_, _, _, _, _, _, _, h3⟩ := shaped_says h
  have n0 : 0 ≤ N := (shaped_num h).1
  change 1 ≤ K at k1
  change K ≤ 21 at k2
  rw [exS_of]
  by_cases k15 : 15 ≤ K
  · rw [exM_two k15 k2, List.length_append, List.length_append, List.length_cons]; omega
  · have hk : K = 1 ∨ K = 2 ∨ K = 3 ∨ K = 4 ∨ K = 5 ∨ K = 6 ∨ K = 7 ∨ K = 8 ∨ K = 9 ∨ K = 10 ∨ K = 11 ∨ K = 12 ∨ K = 13 ∨ K = 14 := by omega
    rcases hk with e | e | e | e | e | e | e | e | e | e | e | e | e | e
    · subst e
      obtain ⟨n, rfl⟩ : ∃ n : Nat, N = (n : Int) := ⟨N.toNat, by omega⟩
      rw [exM_1]; simp
    · subst e; rw [exM_2]; simp
    · subst e
      rcases h3 rfl with e | e <;> subst e
      · rw [exM_3f]; simp
      · rw [exM_3t]; simp
    · subst e; rw [exM_4]; simp
    · subst e; rw [exM_5]; simp
    · subst e; rw [exM_6]; simp
    · subst e; rw [exM_7]; simp
    · subst e; rw [exM_8]; simp
    · subst e; rw [exM_9, List.length_append, List.length_cons]; omega
    · subst e; rw [exM_10, List.length_append, List.length_append, List.length_append, List.length_cons]; omega
    · subst e; rw [exM_11, List.length_append, List.length_append, List.length_cons]; omega
    · subst e; rw [exM_12, List.length_append, List.length_append, List.length_cons]; omega
    · subst e; rw [exM_13]; simp
    · subst e; rw [exM_14]; simp
theorem exS_pos' : ∀ {D d : Nat} {x : Ex D d}, (∃ room, rightX D d room x = true) → 0 < (exS D d x).length
  | _, 0, x, _ => nomatch x
  | _, _ + 1, _, h => exS_pos (rightX_parts h).1
theorem exKind_in : ∀ {D d : Nat} {x : Ex D d}, (∃ room, rightX D d room x = true) → 1 ≤ exKind D d x ∧ exKind D d x ≤ 21
  | _, 0, x, _ => nomatch x
  | _, _ + 1, _, h => (shaped_num (rightX_parts h).1).2.2
/-- an expression of a slice as it lies, with its room. -/
theorem EV.at {w : World} {D : Nat} : ∀ {d : Nat} {pp : Option Addr} {cp : Nat} {xs : List (Ex D d)}, ExRow w D d (.slice pp xs.length cp) xs → ExCap w D d (.slice pp xs.length cp) xs → ∀ (k : Nat) (hk : k < xs.length), ∃ v, ExCell w pp k v ∧ EV w D d v xs[k]
  | 0, _, _, xs, _, _, k, hk => by
    match xs, hk with
    | t :: _, _ => exact nomatch t
  | d + 1, pp, cp, xs, h, hc, k, hk => by
    obtain ⟨v, h1, h2⟩ := ExRow.at h k hk
    refine ⟨v, h1, h2, ?_⟩
    obtain ⟨g, o, A, K, N, S, pt, pn, p3, nt, ct, nn, cn, n3, c3, rfl, rfl, a0, a1, a2, a3, a4, a5, a6⟩ := h1
    obtain ⟨p, c, e, _, hp⟩ := hc
    injection e with e1 e2 e3
    subst e1
    obtain ⟨g', o', vp, e, b6, r⟩ := hp k xs[k] (by simp)
    obtain ⟨rfl, rfl⟩ : g = g' ∧ o = o' := by simpa using e
    obtain rfl : Value.slice p3 n3 c3 = vp := Option.some.inj (a6.symm.trans b6)
    exact ⟨_, _, _, _, _, _, _, rfl, r⟩
theorem cap_le {w : World} {D : Nat} : ∀ {d : Nat} {pp : Option Addr} {cp : Nat} {xs : List (Ex D d)}, ExCap w D d (.slice pp xs.length cp) xs → xs.length ≤ cp
  | 0, _, _, [], _ => by simp
  | 0, _, _, t :: _, _ => nomatch t
  | d + 1, pp, cp, xs, h => by
    obtain ⟨p, c, e, hl, _⟩ := h
    injection e with e1 e2 e3
    omega
theorem ev_kind {w : World} {D : Nat} : ∀ {d : Nat} {A K N : Int} {S : ByteArray} {v4 v5 v6 : Value} {x : Ex D d}, ExValD w D d (.agg #[.int .i64 A, .int .i64 K, .int .i64 N, .string S, v4, v5, v6]) x → K = exKind D d x
  | 0, _, _, _, _, _, _, _, x, _ => nomatch x
  | d + 1, _, K, _, _, _, _, _, x, h => by
    obtain ⟨pt, pn, pp, ct, cn, cp, e, _⟩ := h
    injection e with e
    have := congrArg (fun a : Array Value => a[1]?) e
    have h2 : Value.int .i64 K = .int .i64 (xKind x) := by simpa using this
    injection h2
theorem excell_rest {w : World} {g o k : Nat} {u : Value} (h : ExCell w (some ⟨g, o, none⟩) (k + 1) u) : ExCell w (some ⟨g, o + 7, none⟩) k u := by
  obtain ⟨g', o', A, K, N, S, pt, pn, p3, nt, ct, nn, cn, n3, c3, e, rfl, a0, a1, a2, a3, a4, a5, a6⟩ := h
  obtain ⟨rfl, rfl⟩ : g = g' ∧ o = o' := by simpa using e
  have e7 : o + (k + 1) * 7 = o + 7 + k * 7 := by omega
  rw [e7] at a0 a1 a2 a3 a4 a5 a6
  exact ⟨g, o + 7, A, K, N, S, pt, pn, p3, nt, ct, nn, cn, n3, c3, rfl, rfl, a0, a1, a2, a3, a4, a5, a6⟩
end Go.Proofs.YtmpbbmfbgcpplaaGreatDoor
/-
  Told of package coilref2, walked: records.
-/
namespace Go.Proofs.YtmpbbmfbgcpplaaGreatDoor
open Go Go.RowKit Lx

def vL27 (b k gn on gp op : Nat) (vn : Value) (s : ByteArray) (vp vx : Value) : List (Option Value) := [none, some (.pointer (some ⟨b, 5, none⟩)), some (vn), some (.int .i64 (k : Int)), some (.pointer (some ⟨gn, on + k, none⟩)), some (.string s), none, none, some (.pointer (some ⟨b, 6, none⟩)), some (vp), some (.int .i64 (k : Int)), some (.pointer (some ⟨gp, op + k * 7, none⟩)), some (vx), none, none, none]
set_option maxHeartbeats 1000000 in
set_option maxRecDepth 100000 in
theorem tolds_7 (A N : Int) (S : Bs) (pt pn pp : Option Addr) (nt n ct cn cp : Nat) (w : World) (ns : List Bs) (LS : Nat → List Bs) (hn : n = ns.length) (hn1 : n ≤ 60000) (hl : (litS [S, [123]] ns LS n).length ≤ 300000)
    (hN : SRow w (.slice pn n cn) ns)
    (hP : ∀ k, k < n → ∃ u, ExCell w pp k u ∧ 0 < (LS k).length ∧ ∀ W, Below w.heap.size w W → Leaves 10 #[u] W (LS k)) :
    ToldTo A 7 N ⟨S.toArray⟩ pt pn pp nt n n ct cn cp w (litS [S, [123]] ns LS n ++ [[125]]) := by
  obtain ⟨hd, hhd⟩ : ∃ hd : List Bs, hd = [S, [123]] := ⟨_, rfl⟩
  rw [← hhd] at hl ⊢
  have HHD := hide hhd
  obtain ⟨L, hL⟩ : ∃ L, L = litS hd ns LS n ++ [[125]] := ⟨_, rfl⟩
  have HNN := hide hn
  clear hn
  rw [← hL]
  have HL := hide hL
  have HP := hide hP
  have HN := hide hN
  have HS := hide hl
  obtain ⟨w1, hw1⟩ : ∃ w1, w1 = w.alloc (exBox A 7 N ⟨S.toArray⟩ pt pn pp nt n n ct cn cp) := ⟨_, rfl⟩
  have HW1 := hide hw1
  have hbw1 : Hid (Below w.heap.size w w1) := by rw [hw1]; exact al1 _ _
  have hB7 : Hid (∀ W, Below w1.heap.size w1 W → W.cell? ⟨w.heap.size, 0, none⟩ = some (.int .i64 A) ∧ W.cell? ⟨w.heap.size, 1, none⟩ = some (.int .i64 7) ∧ W.cell? ⟨w.heap.size, 2, none⟩ = some (.int .i64 N) ∧ W.cell? ⟨w.heap.size, 3, none⟩ = some (.string ⟨S.toArray⟩) ∧ W.cell? ⟨w.heap.size, 4, none⟩ = some (.slice pt nt ct) ∧ W.cell? ⟨w.heap.size, 5, none⟩ = some (.slice pn n cn) ∧ W.cell? ⟨w.heap.size, 6, none⟩ = some (.slice pp n cp)) := fun W h => exbox_cells (by rw [← unhide HW1]; exact h)
  clear hL hP hN hl hhd hw1
  go_enter Tryz.func10, Tryz.ntmps10
  go_upto_region 18 with fail
  go_cut [3] (fun o wx => ∃ (vo : Value) (Wy : World), vo = o ∧ Wy = wx ∧ Hid (Wy.ownsRow w1.heap.size 9 1 vo ([] : List Bs).length (strV ([] : List Bs))) ∧ Hid (Below w1.heap.size w1 Wy))
  case first =>
    go_wp2_with fail
    go_meet
    case rel => exact ⟨_, _, rfl, rfl, World.ownsRow_nil _ _ _ _, (by show Below _ _ _; rw [unhide HW1]; exact Below.refl _ _)⟩
  case rest =>
    obtain ⟨vo, Wa, rfl, rfl, HOa, HBa⟩ := hcut
    obtain ⟨d0, d1, d2, d3, d4, d5, d6⟩ := unhide hB7 _ (unhide HBa)
    go_upto_region 21 with fail
    go_cut [3] (fun o wx => ∃ (vo : Value) (Wy : World), vo = o ∧ Wy = wx ∧ Hid (Wy.ownsRow w1.heap.size 9 1 vo (hd).length (strV (hd))) ∧ Hid (Below w1.heap.size w1 Wy))
    case first =>
      have hbA := unhide HBa
      obtain ⟨g1, cp1, W2, E1, hL1⟩ := Left.appends (base := w1.heap.size) (v := vo) (ns := []) (ms := [S, [123]]) (w := Wa.alloc (.cells #[.string ⟨S.toArray⟩, .string ⟨#[123]⟩] 9)) ((unhide HOa).alloc _) (Nat.le_trans hbA.size (al1 Wa _).size) (by simp) (by simp) (src2 Wa S [123]).1
      have HE1 := hide E1
      have HR : Hid (W2.ownsRow w1.heap.size 9 1 (.slice (some ⟨g1, 0, none⟩) (([] : List Bs).length + [S, [123]].length) cp1) hd.length (strV hd)) := by rw [unhide HHD]; exact hL1.1
      have HR2 := hide ((hbA.alloc hbA.size _).trans hL1.2.1)
      clear E1 hL1 hbA
      go_wp2_with (at_builtin; refine wpList_append_ty rfl (.tmp 55) (.tmp 58) 25 rfl rfl rfl (unhide HE1) ?_; clear HE1)
      go_meet
      case rel => exact ⟨_, _, rfl, rfl, unhide HR, unhide HR2⟩
    case rest =>
      obtain ⟨vo, Wb, rfl, rfl, HOb, HBb⟩ := hcut
      clear d0 d1 d2 d3 d4 d5 d6 HOa HBa
      go_wp2_with fail
      go_loopw [3, 4] (fun o i wr => ∃ (k : Nat) (vo : Value), i = .int .i64 k ∧ vo = o ∧ k ≤ n ∧ Hid (wr.ownsRow w1.heap.size 9 1 vo (litS hd ns LS k).length (strV (litS hd ns LS k)) ∧ Below w1.heap.size w1 wr)) (fun _ i _ => n - (intOf i).toNat)
      case atStart => exact ⟨0, _, rfl, rfl, by omega, (by rw [show litS hd ns LS 0 = hd from by simp [litS]]; exact unhide HOb), unhide HBb⟩
      case round =>
        obtain ⟨k, vo, rfl, rfl, hk, HO⟩ := hrel
        obtain ⟨ho, hb⟩ := unhide HO
        have hl1 := litS_le hd ns LS hk
        have hl3 := unhide HS
        obtain ⟨d0, d1, d2, d3, d4, d5, d6⟩ := unhide hB7 _ hb
        by_cases hlt : k < n
        · have hlt' : (k : Int) < (n : Int) := by omega
          have hkn : (k : Int) < (n : Int) := by omega
          have hl2 := litS_le hd ns LS (show k + 1 ≤ n by omega)
          have HSS := hide (litS_succ hd ns LS k)
          have hls : (litS hd ns LS (k + 1)).length = (litS hd ns LS k).length + (if 0 < k then 1 else 0) + 2 + (LS k).length := by
            rw [litS_succ, List.length_append, List.length_append, List.length_append]
            split <;> rfl
          obtain ⟨cm, hcm⟩ : ∃ cm : List Bs, cm = if 0 < k then [[44]] else [] := ⟨_, rfl⟩
          rw [← hcm] at HSS
          have hcl : cm.length ≤ 1 := by rw [hcm]; split <;> simp
          have HCM := hide hcm
          clear hcm
          have HLS := hide (show (litS hd ns LS k).length + 2 + (LS k).length ≤ 300000 by split at hls <;> omega)
          clear hls hl1 hl2 hl3
          go_upto_if 68 with fail
          go_cut [3] (fun o wx => ∃ (vo : Value) (Wy : World), vo = o ∧ Wy = wx ∧ Hid (Wy.ownsRow w1.heap.size 9 1 vo (litS hd ns LS k ++ cm).length (strV (litS hd ns LS k ++ cm))) ∧ Hid (Below w1.heap.size w1 Wy))
          case first =>
            obtain ⟨pv, cv, rfl, _⟩ := own_slice ho
            by_cases hk0 : 0 < k
            · have hk0' : 0 < (k : Int) := by omega
              obtain ⟨g1, cp1, W4, E, hL1⟩ := Left.append (s := [44]) ho hb.size (by have := unhide HLS; omega)
              have HE := hide E
              have HR := hide hL1.1
              have HR2 := hide (hb.trans hL1.2.1)
              have HC2 : Hid (cm = [[44]]) := by show _ = _; rw [unhide HCM, if_pos hk0]
              clear E hL1 hk0 HO ho hb
              go_wp2_with (at_builtin; refine wpList_append_ty rfl (.tmp 69) (.tmp 70) 25 rfl rfl rfl (unhide HE) ?_; clear HE)
              go_meet
              case rel => exact ⟨_, _, rfl, rfl, (by rw [unhide HC2]; exact hide (by simpa using unhide HR)), unhide HR2⟩
            · have hk0' : (k : Int) ≤ 0 := by omega
              have HC2 : Hid (cm = []) := by show _ = _; rw [unhide HCM, if_neg hk0]
              have HR := hide ho
              have HR2 := hide hb
              clear hk0 HO ho hb
              go_wp2_with fail
              go_meet
              case rel => exact ⟨_, _, rfl, rfl, (by rw [unhide HC2, List.append_nil]; exact unhide HR), unhide HR2⟩
          case rest =>
            obtain ⟨vo, Wy, rfl, rfl, HO2, HBy⟩ := hcut
            clear HO ho hb d0 d1 d2 d3 d4 d5 d6
            obtain ⟨u, ⟨gp, op, A', K', N', S', qn, qe, q3, n1, c1, n2, c2, n3, c3, rfl, rfl, a0, a1, a2, a3, a4, a5, a6⟩, hLT, CS⟩ := unhide HP k hlt
            obtain ⟨pn', cn', e', hNc⟩ := unhide HN
            injection e' with e1 e2 e3
            subst e1
            clear e2 e3
            obtain ⟨gn, on, rfl, aN⟩ := hNc k (ns[k]'(by have := unhide HNN; omega)) (by simp)
            have hnm : ns[k]'(by have := unhide HNN; omega) = ns.getD k [] := by rw [List.getD_eq_getElem?_getD, List.getElem?_eq_getElem (by have := unhide HNN; omega)]; rfl
            rw [hnm] at aN
            obtain ⟨L0, hL0⟩ : ∃ L0, L0 = litS hd ns LS k ++ cm := ⟨_, rfl⟩
            have hl0 : L0.length ≤ 300001 := by rw [hL0, List.length_append]; have := unhide HLS; omega
            obtain ⟨LT, hLTd⟩ : ∃ LT, LT = LS k := ⟨_, rfl⟩
            obtain ⟨nm, hnmd⟩ : ∃ nm, nm = ns.getD k [] := ⟨_, rfl⟩
            rw [← hL0, ← hLTd, ← hnmd] at HSS
            rw [← hL0] at HO2
            rw [← hLTd] at CS hLT HLS
            rw [← hnmd] at aN
            have hlT : LT.length ≤ 300000 := by have := unhide HLS; omega
            have hg0 := cell_at a0
            obtain ⟨B, hBd⟩ : ∃ B : World → Prop, B = fun W => Below w1.heap.size w1 W := ⟨_, rfl⟩
            have toB : ∀ W, B W → Below w1.heap.size w1 W := fun W h => by rw [hBd] at h; exact h
            have ofB : ∀ W, Below w1.heap.size w1 W → B W := fun W h => by rw [hBd]; exact h
            have sB : ∀ W W', B W → Below W.heap.size W W' → B W' := fun W W' h hb => ofB _ (bon (toB _ h) hb)
            have sB2 : ∀ W W', B W → Below w1.heap.size W W' → B W' := fun W W' h hb => ofB _ ((toB _ h).trans hb)
            have hbs : ∀ W, B W → w1.heap.size ≤ W.heap.size := fun W h => (toB W h).size
            have hlow : ∀ W, B W → Below w.heap.size w W := fun W h => bon (unhide hbw1) (toB W h)
            have cB : ∀ W, B W → _ := fun W h => unhide hB7 W (toB W h)
            have cN : ∀ W, B W → W.cell? ⟨gn, on + k, none⟩ = some (.string ⟨nm.toArray⟩) := fun W h => ((hlow W h).cell (p := ⟨gn, _, none⟩) (cell_at aN)).trans aN
            have cc : ∀ W, B W → ∀ i v, w.cell? ⟨gp, i, none⟩ = some v → W.cell? ⟨gp, i, none⟩ = some v := fun W h i v e => ((hlow W h).cell (p := ⟨gp, _, none⟩) hg0).trans e
            have cX : ∀ W, B W → W.cell? ⟨gp, op + k * 7, none⟩ = some (.int .i64 A') ∧ W.cell? ⟨gp, op + k * 7 + 1, none⟩ = some (.int .i64 K') ∧ W.cell? ⟨gp, op + k * 7 + 2, none⟩ = some (.int .i64 N') ∧ W.cell? ⟨gp, op + k * 7 + 3, none⟩ = some (.string S') ∧ W.cell? ⟨gp, op + k * 7 + 4, none⟩ = some (.slice qn n1 c1) ∧ W.cell? ⟨gp, op + k * 7 + 5, none⟩ = some (.slice qe n2 c2) ∧ W.cell? ⟨gp, op + k * 7 + 6, none⟩ = some (.slice q3 n3 c3) := fun W h => ⟨cc W h _ _ a0, cc W h _ _ a1, cc W h _ _ a2, cc W h _ _ a3, cc W h _ _ a4, cc W h _ _ a5, cc W h _ _ a6⟩
            have cS : ∀ W, B W → Leaves 10 #[.agg #[.int .i64 A', .int .i64 K', .int .i64 N', .string S', .slice qn n1 c1, .slice qe n2 c2, .slice q3 n3 c3]] W LT := fun W h => CS W (hlow W h)
            clear CS HP HN hNc hL0 hLTd hnmd aN HL HS hnm cc a0 a1 a2 a3 a4 a5 a6 HCM hcl HLS
            go_wp2_with fail
            refine region_late (n := 199) (by kernel_rfl) (by kernel_rfl) (by kernel_rfl) rfl B (VP (vL27 w.heap.size k gn on gp op (.slice (some ⟨gn, on, none⟩) n cn) ⟨nm.toArray⟩ (.slice (some ⟨gp, op, none⟩) n cp) (.agg #[.int .i64 A', .int .i64 K', .int .i64 N', .string S', .slice qn n1 c1, .slice qe n2 c2, .slice q3 n3 c3]))) (XCh w1.heap.size 0 15 (some vo) L0 [(7, 6, [nm, [58]]), (14, 13, LT)])
              (ofB _ (below_drew2 (unhide HBy))) (XCh.init (fun v hv => Option.some.inj hv ▸ (unhide HO2).drew)) ?each ?fin
            case each =>
              refine ⟨?_, ?_, ?_, ?_, ?_, ?_, ?_, ?_, ?_, ?_, ?_, ?_, ?_, ?_, ?_, ?_, trivial⟩
              · refine YGoal.start rfl (by decide) (by simp) rfl rfl rfl (fun f down hno => ?_) (fun a' f hkp hlt hzn => ?_)
                · have e7 := none_of down (i := 7) (j := 0) (by kernel_rfl) hno
                  have e14 := none_of down (i := 14) (j := 7) (by kernel_rfl) e7
                  have e15 := none_of down (i := 15) (j := 14) (by kernel_rfl) e14
                  exact ⟨e15, by simp [e7, e14]⟩
                · exact hlt 3 15 (by kernel_rfl) hzn
              · exact YGoal.plain sB (by decide) (by decide) (by simp) (fun a' W f hz hkp hlt hBW hno down dep => ⟨wanted_plain rfl, op_field7 (by decide) rfl (show a'.eval (.tmp 1) = Value.pointer (some ⟨w.heap.size, 0, none⟩) from hkp 1 (by kernel_rfl)) ⟨_, rfl, Below.refl _ _, rfl⟩⟩)
              · exact YGoal.plain sB (by decide) (by decide) (by simp) (fun a' W f hz hkp hlt hBW hno down dep => ⟨wanted_plain rfl, op_loadL rfl (dep 1 73 _ (by kernel_rfl) (by kernel_rfl) rfl) (cB W hBW).2.2.2.2.2.1 ⟨_, rfl, Below.refl _ _, rfl⟩⟩)
              · exact YGoal.plain sB (by decide) (by decide) (by simp) (fun a' W f hz hkp hlt hBW hno down dep => ⟨wanted_plain rfl, op_move rfl (show a'.eval (.tmp 4) = Value.int .i64 (k : Int) from hkp 4 (by kernel_rfl)) ⟨_, rfl, Below.refl _ _, rfl⟩⟩)
              · exact YGoal.plain sB (by decide) (by decide) (by simp) (fun a' W f hz hkp hlt hBW hno down dep => ⟨wanted_plain rfl, op_index1 rfl (dep 2 74 _ (by kernel_rfl) (by kernel_rfl) rfl) (dep 3 75 _ (by kernel_rfl) (by kernel_rfl) rfl) hkn ⟨_, rfl, Below.refl _ _, rfl⟩⟩)
              · exact YGoal.plain sB (by decide) (by decide) (by simp) (fun a' W f hz hkp hlt hBW hno down dep => ⟨wanted_plain rfl, op_loadS rfl (dep 4 76 _ (by kernel_rfl) (by kernel_rfl) rfl) (cN W hBW) ⟨_, rfl, Below.refl _ _, rfl⟩⟩)
              · exact YGoal.src (M := [nm, [58]]) sB (by decide) (by decide) (by simp) rfl (fun a' W hz hkp hBW dep => ⟨wanted_plain rfl, op_buildS2 (t := ⟨#[58]⟩) rfl (dep 5 77 _ (by kernel_rfl) (by kernel_rfl) rfl) rfl ⟨_, rfl, al1 _ _, src2 W nm [58]⟩⟩)
              · refine YGoal.app (q := 0) (s := 6) (Lq := L0) (M := [nm, [58]]) sB2 hbs (by decide) rfl rfl rfl rfl (by simp) (by simp) (by simp; omega) (by simp) (by kernel_rfl) (by kernel_rfl) (by kernel_rfl) (by kernel_rfl) (fun f v down hno hq => ?_)
                have e14 := none_of down (i := 14) (j := 7) (by kernel_rfl) hno
                have e15 := none_of down (i := 15) (j := 14) (by kernel_rfl) e14
                exact ⟨e15, by simp [headO, headV, hq, hno], by simp [headL, hno], fun x => ⟨by simp [headO, headV, updF, hq, e14], by simp [headL, updF, e14]⟩⟩
              · exact YGoal.plain sB (by decide) (by decide) (by simp) (fun a' W f hz hkp hlt hBW hno down dep => ⟨wanted_plain rfl, op_field7 (by decide) rfl (show a'.eval (.tmp 1) = Value.pointer (some ⟨w.heap.size, 0, none⟩) from hkp 1 (by kernel_rfl)) ⟨_, rfl, Below.refl _ _, rfl⟩⟩)
              · exact YGoal.plain sB (by decide) (by decide) (by simp) (fun a' W f hz hkp hlt hBW hno down dep => ⟨wanted_plain rfl, op_loadE rfl (dep 8 80 _ (by kernel_rfl) (by kernel_rfl) rfl) (cB W hBW).2.2.2.2.2.2 ⟨_, rfl, Below.refl _ _, rfl⟩⟩)
              · exact YGoal.plain sB (by decide) (by decide) (by simp) (fun a' W f hz hkp hlt hBW hno down dep => ⟨wanted_plain rfl, op_move rfl (show a'.eval (.tmp 4) = Value.int .i64 (k : Int) from hkp 4 (by kernel_rfl)) ⟨_, rfl, Below.refl _ _, rfl⟩⟩)
              · exact YGoal.plain sB (by decide) (by decide) (by simp) (fun a' W f hz hkp hlt hBW hno down dep => ⟨wanted_plain rfl, op_index7 rfl (dep 9 81 _ (by kernel_rfl) (by kernel_rfl) rfl) (dep 10 82 _ (by kernel_rfl) (by kernel_rfl) rfl) hkn ⟨_, rfl, Below.refl _ _, rfl⟩⟩)
              · exact YGoal.plain sB (by decide) (by decide) (by simp) (fun a' W f hz hkp hlt hBW hno down dep => ⟨wanted_plain rfl, op_load7 rfl (dep 11 83 _ (by kernel_rfl) (by kernel_rfl) rfl) (cX W hBW) ⟨_, rfl, Below.refl _ _, rfl⟩⟩)
              · exact YGoal.src (M := LT) sB (by decide) (by decide) (by simp) rfl (fun a' W hz hkp hBW dep => ⟨wanted_plain rfl, op_call1 rfl (dep 12 84 _ (by kernel_rfl) (by kernel_rfl) rfl) told_enter ((cS W hBW).mono fun e w' ⟨⟨u, he, h1⟩, hb⟩ => ⟨u, he, u, rfl, hb, SRow.of_owns h1, fun g hg => h1.lt g hg⟩)⟩)
              · refine YGoal.app (q := 7) (s := 13) (Lq := (L0 ++ [nm, [58]])) (M := LT) sB2 hbs (by decide) rfl rfl rfl rfl (by simp) hLT (by simp; omega) (by simp) (by kernel_rfl) (by kernel_rfl) (by kernel_rfl) (by kernel_rfl) (fun f v down hno hq => ?_)
                obtain ⟨v0, e0⟩ := Option.ne_none_iff_exists'.1 (down 7 0 (by kernel_rfl) (by rw [hq]; simp))
                have e15 := none_of down (i := 15) (j := 14) (by kernel_rfl) hno
                exact ⟨e15, by simp [headO, headV, e0, hq, hno], by simp [headL, hq, hno], fun x => ⟨by simp [headO, headV, updF, e0, hq], by simp [headL, updF, hq]⟩⟩
              · refine YGoal.last (q := 14) (by decide) (by simp) rfl rfl rfl (by kernel_rfl) (by kernel_rfl) (fun f v down hq => ?_)
                obtain ⟨v7, e7⟩ := Option.ne_none_iff_exists'.1 (down 14 7 (by kernel_rfl) (by rw [hq]; simp))
                obtain ⟨v0, e0⟩ := Option.ne_none_iff_exists'.1 (down 7 0 (by kernel_rfl) (by rw [e7]; simp))
                simp [headO, headV, hq, e0, e7]
            case fin =>
              intro a' W f hz hdf hkp hBW hf hV hX
              have hdone : (∃ v, f 0 = some v) ∧ (∃ v, f 7 = some v) ∧ (∃ v, f 14 = some v) := ⟨⟨_, hf 0 72 (by kernel_rfl)⟩, ⟨_, hf 7 79 (by kernel_rfl)⟩, ⟨_, hf 14 86 (by kernel_rfl)⟩⟩
              have hL : headL f L0 [(7, 6, [nm, [58]]), (14, 13, LT)] = (L0 ++ [nm, [58]] ++ LT) := by
                obtain ⟨⟨_, _⟩, ⟨_, e7⟩, ⟨_, e14⟩⟩ := hdone
                simp [headL, e7, e14]
              obtain ⟨hown, _⟩ := hX.2.2 _ (hX.1 _ (hf 15 3 (by kernel_rfl)))
              rw [hL] at hown
              have HB2 := hide (toB W hBW)
              rw [act_puts hz rfl hdf hkp]
              clear hf hV hX hkp hdone hL cB cN cX cS sB sB2 hbs hlow toB ofB
              generalize hv3 : a'.tmps.getD 3 undef = v3 at hown
              simp only [List.foldl, Option.getD]
              rw [hv3]
              go_wp2
              go_roundw
              case rel => exact ⟨k + 1, _, by go_num, rfl, by omega, (by rw [unhide HSS]; exact hown), unhide HB2⟩
              case measure => simp [intOf]; omega
        · obtain rfl : k = n := by omega
          have hlt' : ¬ (k : Int) < (k : Int) := by omega
          obtain ⟨g1, cp1, W4, E, hL1⟩ := Left.append (s := [125]) ho hb.size (by omega)
          have HE := hide E
          have HO4 := hide (hL1.1.mono (unhide hbw1).size)
          have HB4 := hide (bon (unhide hbw1) (hb.trans hL1.2.1))
          clear E hB7 hl1 hl3 HO HP HN hL1 hb
          obtain ⟨pv, cv, rfl, _⟩ := own_slice ho
          clear ho
          go_wp2_with (at_builtin; refine wpList_append_ty rfl (.tmp 87) (.tmp 88) 25 rfl rfl rfl (unhide HE) ?_; clear HE)
          go_ret
          exact ⟨⟨_, rfl, by rw [unhide HL]; simpa using unhide HO4⟩, unhide HB4⟩
set_option maxHeartbeats 1000000 in
set_option maxRecDepth 100000 in
theorem tolds_8 (A N : Int) (S : Bs) (pt pn pp : Option Addr) (nt n ct cn cp : Nat) (w : World) (ns : List Bs) (LS : Nat → List Bs) (hn : n = ns.length) (hn1 : n ≤ 60000) (hl : (litS [[110, 101, 119], S, [123]] ns LS n).length ≤ 300000)
    (hN : SRow w (.slice pn n cn) ns)
    (hP : ∀ k, k < n → ∃ u, ExCell w pp k u ∧ 0 < (LS k).length ∧ ∀ W, Below w.heap.size w W → Leaves 10 #[u] W (LS k)) :
    ToldTo A 8 N ⟨S.toArray⟩ pt pn pp nt n n ct cn cp w (litS [[110, 101, 119], S, [123]] ns LS n ++ [[125]]) := by
  obtain ⟨hd, hhd⟩ : ∃ hd : List Bs, hd = [[110, 101, 119], S, [123]] := ⟨_, rfl⟩
  rw [← hhd] at hl ⊢
  have HHD := hide hhd
  obtain ⟨L, hL⟩ : ∃ L, L = litS hd ns LS n ++ [[125]] := ⟨_, rfl⟩
  have HNN := hide hn
  clear hn
  rw [← hL]
  have HL := hide hL
  have HP := hide hP
  have HN := hide hN
  have HS := hide hl
  obtain ⟨w1, hw1⟩ : ∃ w1, w1 = w.alloc (exBox A 8 N ⟨S.toArray⟩ pt pn pp nt n n ct cn cp) := ⟨_, rfl⟩
  have HW1 := hide hw1
  have hbw1 : Hid (Below w.heap.size w w1) := by rw [hw1]; exact al1 _ _
  have hB7 : Hid (∀ W, Below w1.heap.size w1 W → W.cell? ⟨w.heap.size, 0, none⟩ = some (.int .i64 A) ∧ W.cell? ⟨w.heap.size, 1, none⟩ = some (.int .i64 8) ∧ W.cell? ⟨w.heap.size, 2, none⟩ = some (.int .i64 N) ∧ W.cell? ⟨w.heap.size, 3, none⟩ = some (.string ⟨S.toArray⟩) ∧ W.cell? ⟨w.heap.size, 4, none⟩ = some (.slice pt nt ct) ∧ W.cell? ⟨w.heap.size, 5, none⟩ = some (.slice pn n cn) ∧ W.cell? ⟨w.heap.size, 6, none⟩ = some (.slice pp n cp)) := fun W h => exbox_cells (by rw [← unhide HW1]; exact h)
  clear hL hP hN hl hhd hw1
  go_enter Tryz.func10, Tryz.ntmps10
  go_upto_region 18 with fail
  go_cut [3] (fun o wx => ∃ (vo : Value) (Wy : World), vo = o ∧ Wy = wx ∧ Hid (Wy.ownsRow w1.heap.size 9 1 vo ([] : List Bs).length (strV ([] : List Bs))) ∧ Hid (Below w1.heap.size w1 Wy))
  case first =>
    go_wp2_with fail
    go_meet
    case rel => exact ⟨_, _, rfl, rfl, World.ownsRow_nil _ _ _ _, (by show Below _ _ _; rw [unhide HW1]; exact Below.refl _ _)⟩
  case rest =>
    obtain ⟨vo, Wa, rfl, rfl, HOa, HBa⟩ := hcut
    obtain ⟨d0, d1, d2, d3, d4, d5, d6⟩ := unhide hB7 _ (unhide HBa)
    go_upto_if 51 with fail
    go_cut [3] (fun o wx => ∃ (vo : Value) (Wy : World), vo = o ∧ Wy = wx ∧ Hid (Wy.ownsRow w1.heap.size 9 1 vo ([[110, 101, 119]] : List Bs).length (strV ([[110, 101, 119]] : List Bs))) ∧ Hid (Below w1.heap.size w1 Wy))
    case first =>
      obtain ⟨g1, cp1, W4, E, hL1⟩ := Left.append (s := [110, 101, 119]) (unhide HOa) (unhide HBa).size (by simp)
      have HE := hide E
      have HR := hide hL1.1
      have HR2 := hide ((unhide HBa).trans hL1.2.1)
      clear E hL1
      go_wp2_with (at_builtin; refine wpList_append_ty rfl (.tmp 52) (.tmp 53) 25 rfl rfl rfl (unhide HE) ?_; clear HE)
      go_meet
      case rel => exact ⟨_, _, rfl, rfl, unhide HR, unhide HR2⟩
    case rest =>
    clear HOa HBa d0 d1 d2 d3 d4 d5 d6
    obtain ⟨vo, Wa, rfl, rfl, HOa, HBa⟩ := hcut
    obtain ⟨d0, d1, d2, d3, d4, d5, d6⟩ := unhide hB7 _ (unhide HBa)
    go_upto_region 21 with fail
    go_cut [3] (fun o wx => ∃ (vo : Value) (Wy : World), vo = o ∧ Wy = wx ∧ Hid (Wy.ownsRow w1.heap.size 9 1 vo (hd).length (strV (hd))) ∧ Hid (Below w1.heap.size w1 Wy))
    case first =>
      have hbA := unhide HBa
      obtain ⟨g1, cp1, W2, E1, hL1⟩ := Left.appends (base := w1.heap.size) (v := vo) (ns := [[110, 101, 119]]) (ms := [S, [123]]) (w := Wa.alloc (.cells #[.string ⟨S.toArray⟩, .string ⟨#[123]⟩] 9)) ((unhide HOa).alloc _) (Nat.le_trans hbA.size (al1 Wa _).size) (by simp) (by simp) (src2 Wa S [123]).1
      have HE1 := hide E1
      have HR : Hid (W2.ownsRow w1.heap.size 9 1 (.slice (some ⟨g1, 0, none⟩) (([[110, 101, 119]] : List Bs).length + [S, [123]].length) cp1) hd.length (strV hd)) := by rw [unhide HHD]; exact hL1.1
      have HR2 := hide ((hbA.alloc hbA.size _).trans hL1.2.1)
      clear E1 hL1 hbA
      go_wp2_with (at_builtin; refine wpList_append_ty rfl (.tmp 55) (.tmp 58) 25 rfl rfl rfl (unhide HE1) ?_; clear HE1)
      go_meet
      case rel => exact ⟨_, _, rfl, rfl, unhide HR, unhide HR2⟩
    case rest =>
      obtain ⟨vo, Wb, rfl, rfl, HOb, HBb⟩ := hcut
      clear d0 d1 d2 d3 d4 d5 d6 HOa HBa
      go_wp2_with fail
      go_loopw [3, 4] (fun o i wr => ∃ (k : Nat) (vo : Value), i = .int .i64 k ∧ vo = o ∧ k ≤ n ∧ Hid (wr.ownsRow w1.heap.size 9 1 vo (litS hd ns LS k).length (strV (litS hd ns LS k)) ∧ Below w1.heap.size w1 wr)) (fun _ i _ => n - (intOf i).toNat)
      case atStart => exact ⟨0, _, rfl, rfl, by omega, (by rw [show litS hd ns LS 0 = hd from by simp [litS]]; exact unhide HOb), unhide HBb⟩
      case round =>
        obtain ⟨k, vo, rfl, rfl, hk, HO⟩ := hrel
        obtain ⟨ho, hb⟩ := unhide HO
        have hl1 := litS_le hd ns LS hk
        have hl3 := unhide HS
        obtain ⟨d0, d1, d2, d3, d4, d5, d6⟩ := unhide hB7 _ hb
        by_cases hlt : k < n
        · have hlt' : (k : Int) < (n : Int) := by omega
          have hkn : (k : Int) < (n : Int) := by omega
          have hl2 := litS_le hd ns LS (show k + 1 ≤ n by omega)
          have HSS := hide (litS_succ hd ns LS k)
          have hls : (litS hd ns LS (k + 1)).length = (litS hd ns LS k).length + (if 0 < k then 1 else 0) + 2 + (LS k).length := by
            rw [litS_succ, List.length_append, List.length_append, List.length_append]
            split <;> rfl
          obtain ⟨cm, hcm⟩ : ∃ cm : List Bs, cm = if 0 < k then [[44]] else [] := ⟨_, rfl⟩
          rw [← hcm] at HSS
          have hcl : cm.length ≤ 1 := by rw [hcm]; split <;> simp
          have HCM := hide hcm
          clear hcm
          have HLS := hide (show (litS hd ns LS k).length + 2 + (LS k).length ≤ 300000 by split at hls <;> omega)
          clear hls hl1 hl2 hl3
          go_upto_if 68 with fail
          go_cut [3] (fun o wx => ∃ (vo : Value) (Wy : World), vo = o ∧ Wy = wx ∧ Hid (Wy.ownsRow w1.heap.size 9 1 vo (litS hd ns LS k ++ cm).length (strV (litS hd ns LS k ++ cm))) ∧ Hid (Below w1.heap.size w1 Wy))
          case first =>
            obtain ⟨pv, cv, rfl, _⟩ := own_slice ho
            by_cases hk0 : 0 < k
            · have hk0' : 0 < (k : Int) := by omega
              obtain ⟨g1, cp1, W4, E, hL1⟩ := Left.append (s := [44]) ho hb.size (by have := unhide HLS; omega)
              have HE := hide E
              have HR := hide hL1.1
              have HR2 := hide (hb.trans hL1.2.1)
              have HC2 : Hid (cm = [[44]]) := by show _ = _; rw [unhide HCM, if_pos hk0]
              clear E hL1 hk0 HO ho hb
              go_wp2_with (at_builtin; refine wpList_append_ty rfl (.tmp 69) (.tmp 70) 25 rfl rfl rfl (unhide HE) ?_; clear HE)
              go_meet
              case rel => exact ⟨_, _, rfl, rfl, (by rw [unhide HC2]; exact hide (by simpa using unhide HR)), unhide HR2⟩
            · have hk0' : (k : Int) ≤ 0 := by omega
              have HC2 : Hid (cm = []) := by show _ = _; rw [unhide HCM, if_neg hk0]
              have HR := hide ho
              have HR2 := hide hb
              clear hk0 HO ho hb
              go_wp2_with fail
              go_meet
              case rel => exact ⟨_, _, rfl, rfl, (by rw [unhide HC2, List.append_nil]; exact unhide HR), unhide HR2⟩
          case rest =>
            obtain ⟨vo, Wy, rfl, rfl, HO2, HBy⟩ := hcut
            clear HO ho hb d0 d1 d2 d3 d4 d5 d6
            obtain ⟨u, ⟨gp, op, A', K', N', S', qn, qe, q3, n1, c1, n2, c2, n3, c3, rfl, rfl, a0, a1, a2, a3, a4, a5, a6⟩, hLT, CS⟩ := unhide HP k hlt
            obtain ⟨pn', cn', e', hNc⟩ := unhide HN
            injection e' with e1 e2 e3
            subst e1
            clear e2 e3
            obtain ⟨gn, on, rfl, aN⟩ := hNc k (ns[k]'(by have := unhide HNN; omega)) (by simp)
            have hnm : ns[k]'(by have := unhide HNN; omega) = ns.getD k [] := by rw [List.getD_eq_getElem?_getD, List.getElem?_eq_getElem (by have := unhide HNN; omega)]; rfl
            rw [hnm] at aN
            obtain ⟨L0, hL0⟩ : ∃ L0, L0 = litS hd ns LS k ++ cm := ⟨_, rfl⟩
            have hl0 : L0.length ≤ 300001 := by rw [hL0, List.length_append]; have := unhide HLS; omega
            obtain ⟨LT, hLTd⟩ : ∃ LT, LT = LS k := ⟨_, rfl⟩
            obtain ⟨nm, hnmd⟩ : ∃ nm, nm = ns.getD k [] := ⟨_, rfl⟩
            rw [← hL0, ← hLTd, ← hnmd] at HSS
            rw [← hL0] at HO2
            rw [← hLTd] at CS hLT HLS
            rw [← hnmd] at aN
            have hlT : LT.length ≤ 300000 := by have := unhide HLS; omega
            have hg0 := cell_at a0
            obtain ⟨B, hBd⟩ : ∃ B : World → Prop, B = fun W => Below w1.heap.size w1 W := ⟨_, rfl⟩
            have toB : ∀ W, B W → Below w1.heap.size w1 W := fun W h => by rw [hBd] at h; exact h
            have ofB : ∀ W, Below w1.heap.size w1 W → B W := fun W h => by rw [hBd]; exact h
            have sB : ∀ W W', B W → Below W.heap.size W W' → B W' := fun W W' h hb => ofB _ (bon (toB _ h) hb)
            have sB2 : ∀ W W', B W → Below w1.heap.size W W' → B W' := fun W W' h hb => ofB _ ((toB _ h).trans hb)
            have hbs : ∀ W, B W → w1.heap.size ≤ W.heap.size := fun W h => (toB W h).size
            have hlow : ∀ W, B W → Below w.heap.size w W := fun W h => bon (unhide hbw1) (toB W h)
            have cB : ∀ W, B W → _ := fun W h => unhide hB7 W (toB W h)
            have cN : ∀ W, B W → W.cell? ⟨gn, on + k, none⟩ = some (.string ⟨nm.toArray⟩) := fun W h => ((hlow W h).cell (p := ⟨gn, _, none⟩) (cell_at aN)).trans aN
            have cc : ∀ W, B W → ∀ i v, w.cell? ⟨gp, i, none⟩ = some v → W.cell? ⟨gp, i, none⟩ = some v := fun W h i v e => ((hlow W h).cell (p := ⟨gp, _, none⟩) hg0).trans e
            have cX : ∀ W, B W → W.cell? ⟨gp, op + k * 7, none⟩ = some (.int .i64 A') ∧ W.cell? ⟨gp, op + k * 7 + 1, none⟩ = some (.int .i64 K') ∧ W.cell? ⟨gp, op + k * 7 + 2, none⟩ = some (.int .i64 N') ∧ W.cell? ⟨gp, op + k * 7 + 3, none⟩ = some (.string S') ∧ W.cell? ⟨gp, op + k * 7 + 4, none⟩ = some (.slice qn n1 c1) ∧ W.cell? ⟨gp, op + k * 7 + 5, none⟩ = some (.slice qe n2 c2) ∧ W.cell? ⟨gp, op + k * 7 + 6, none⟩ = some (.slice q3 n3 c3) := fun W h => ⟨cc W h _ _ a0, cc W h _ _ a1, cc W h _ _ a2, cc W h _ _ a3, cc W h _ _ a4, cc W h _ _ a5, cc W h _ _ a6⟩
            have cS : ∀ W, B W → Leaves 10 #[.agg #[.int .i64 A', .int .i64 K', .int .i64 N', .string S', .slice qn n1 c1, .slice qe n2 c2, .slice q3 n3 c3]] W LT := fun W h => CS W (hlow W h)
            clear CS HP HN hNc hL0 hLTd hnmd aN HL HS hnm cc a0 a1 a2 a3 a4 a5 a6 HCM hcl HLS
            go_wp2_with fail
            refine region_late (n := 199) (by kernel_rfl) (by kernel_rfl) (by kernel_rfl) rfl B (VP (vL27 w.heap.size k gn on gp op (.slice (some ⟨gn, on, none⟩) n cn) ⟨nm.toArray⟩ (.slice (some ⟨gp, op, none⟩) n cp) (.agg #[.int .i64 A', .int .i64 K', .int .i64 N', .string S', .slice qn n1 c1, .slice qe n2 c2, .slice q3 n3 c3]))) (XCh w1.heap.size 0 15 (some vo) L0 [(7, 6, [nm, [58]]), (14, 13, LT)])
              (ofB _ (below_drew2 (unhide HBy))) (XCh.init (fun v hv => Option.some.inj hv ▸ (unhide HO2).drew)) ?each ?fin
            case each =>
              refine ⟨?_, ?_, ?_, ?_, ?_, ?_, ?_, ?_, ?_, ?_, ?_, ?_, ?_, ?_, ?_, ?_, trivial⟩
              · refine YGoal.start rfl (by decide) (by simp) rfl rfl rfl (fun f down hno => ?_) (fun a' f hkp hlt hzn => ?_)
                · have e7 := none_of down (i := 7) (j := 0) (by kernel_rfl) hno
                  have e14 := none_of down (i := 14) (j := 7) (by kernel_rfl) e7
                  have e15 := none_of down (i := 15) (j := 14) (by kernel_rfl) e14
                  exact ⟨e15, by simp [e7, e14]⟩
                · exact hlt 3 15 (by kernel_rfl) hzn
              · exact YGoal.plain sB (by decide) (by decide) (by simp) (fun a' W f hz hkp hlt hBW hno down dep => ⟨wanted_plain rfl, op_field7 (by decide) rfl (show a'.eval (.tmp 1) = Value.pointer (some ⟨w.heap.size, 0, none⟩) from hkp 1 (by kernel_rfl)) ⟨_, rfl, Below.refl _ _, rfl⟩⟩)
              · exact YGoal.plain sB (by decide) (by decide) (by simp) (fun a' W f hz hkp hlt hBW hno down dep => ⟨wanted_plain rfl, op_loadL rfl (dep 1 73 _ (by kernel_rfl) (by kernel_rfl) rfl) (cB W hBW).2.2.2.2.2.1 ⟨_, rfl, Below.refl _ _, rfl⟩⟩)
              · exact YGoal.plain sB (by decide) (by decide) (by simp) (fun a' W f hz hkp hlt hBW hno down dep => ⟨wanted_plain rfl, op_move rfl (show a'.eval (.tmp 4) = Value.int .i64 (k : Int) from hkp 4 (by kernel_rfl)) ⟨_, rfl, Below.refl _ _, rfl⟩⟩)
              · exact YGoal.plain sB (by decide) (by decide) (by simp) (fun a' W f hz hkp hlt hBW hno down dep => ⟨wanted_plain rfl, op_index1 rfl (dep 2 74 _ (by kernel_rfl) (by kernel_rfl) rfl) (dep 3 75 _ (by kernel_rfl) (by kernel_rfl) rfl) hkn ⟨_, rfl, Below.refl _ _, rfl⟩⟩)
              · exact YGoal.plain sB (by decide) (by decide) (by simp) (fun a' W f hz hkp hlt hBW hno down dep => ⟨wanted_plain rfl, op_loadS rfl (dep 4 76 _ (by kernel_rfl) (by kernel_rfl) rfl) (cN W hBW) ⟨_, rfl, Below.refl _ _, rfl⟩⟩)
              · exact YGoal.src (M := [nm, [58]]) sB (by decide) (by decide) (by simp) rfl (fun a' W hz hkp hBW dep => ⟨wanted_plain rfl, op_buildS2 (t := ⟨#[58]⟩) rfl (dep 5 77 _ (by kernel_rfl) (by kernel_rfl) rfl) rfl ⟨_, rfl, al1 _ _, src2 W nm [58]⟩⟩)
              · refine YGoal.app (q := 0) (s := 6) (Lq := L0) (M := [nm, [58]]) sB2 hbs (by decide) rfl rfl rfl rfl (by simp) (by simp) (by simp; omega) (by simp) (by kernel_rfl) (by kernel_rfl) (by kernel_rfl) (by kernel_rfl) (fun f v down hno hq => ?_)
                have e14 := none_of down (i := 14) (j := 7) (by kernel_rfl) hno
                have e15 := none_of down (i := 15) (j := 14) (by kernel_rfl) e14
                exact ⟨e15, by simp [headO, headV, hq, hno], by simp [headL, hno], fun x => ⟨by simp [headO, headV, updF, hq, e14], by simp [headL, updF, e14]⟩⟩
              · exact YGoal.plain sB (by decide) (by decide) (by simp) (fun a' W f hz hkp hlt hBW hno down dep => ⟨wanted_plain rfl, op_field7 (by decide) rfl (show a'.eval (.tmp 1) = Value.pointer (some ⟨w.heap.size, 0, none⟩) from hkp 1 (by kernel_rfl)) ⟨_, rfl, Below.refl _ _, rfl⟩⟩)
              · exact YGoal.plain sB (by decide) (by decide) (by simp) (fun a' W f hz hkp hlt hBW hno down dep => ⟨wanted_plain rfl, op_loadE rfl (dep 8 80 _ (by kernel_rfl) (by kernel_rfl) rfl) (cB W hBW).2.2.2.2.2.2 ⟨_, rfl, Below.refl _ _, rfl⟩⟩)
              · exact YGoal.plain sB (by decide) (by decide) (by simp) (fun a' W f hz hkp hlt hBW hno down dep => ⟨wanted_plain rfl, op_move rfl (show a'.eval (.tmp 4) = Value.int .i64 (k : Int) from hkp 4 (by kernel_rfl)) ⟨_, rfl, Below.refl _ _, rfl⟩⟩)
              · exact YGoal.plain sB (by decide) (by decide) (by simp) (fun a' W f hz hkp hlt hBW hno down dep => ⟨wanted_plain rfl, op_index7 rfl (dep 9 81 _ (by kernel_rfl) (by kernel_rfl) rfl) (dep 10 82 _ (by kernel_rfl) (by kernel_rfl) rfl) hkn ⟨_, rfl, Below.refl _ _, rfl⟩⟩)
              · exact YGoal.plain sB (by decide) (by decide) (by simp) (fun a' W f hz hkp hlt hBW hno down dep => ⟨wanted_plain rfl, op_load7 rfl (dep 11 83 _ (by kernel_rfl) (by kernel_rfl) rfl) (cX W hBW) ⟨_, rfl, Below.refl _ _, rfl⟩⟩)
              · exact YGoal.src (M := LT) sB (by decide) (by decide) (by simp) rfl (fun a' W hz hkp hBW dep => ⟨wanted_plain rfl, op_call1 rfl (dep 12 84 _ (by kernel_rfl) (by kernel_rfl) rfl) told_enter ((cS W hBW).mono fun e w' ⟨⟨u, he, h1⟩, hb⟩ => ⟨u, he, u, rfl, hb, SRow.of_owns h1, fun g hg => h1.lt g hg⟩)⟩)
              · refine YGoal.app (q := 7) (s := 13) (Lq := (L0 ++ [nm, [58]])) (M := LT) sB2 hbs (by decide) rfl rfl rfl rfl (by simp) hLT (by simp; omega) (by simp) (by kernel_rfl) (by kernel_rfl) (by kernel_rfl) (by kernel_rfl) (fun f v down hno hq => ?_)
                obtain ⟨v0, e0⟩ := Option.ne_none_iff_exists'.1 (down 7 0 (by kernel_rfl) (by rw [hq]; simp))
                have e15 := none_of down (i := 15) (j := 14) (by kernel_rfl) hno
                exact ⟨e15, by simp [headO, headV, e0, hq, hno], by simp [headL, hq, hno], fun x => ⟨by simp [headO, headV, updF, e0, hq], by simp [headL, updF, hq]⟩⟩
              · refine YGoal.last (q := 14) (by decide) (by simp) rfl rfl rfl (by kernel_rfl) (by kernel_rfl) (fun f v down hq => ?_)
                obtain ⟨v7, e7⟩ := Option.ne_none_iff_exists'.1 (down 14 7 (by kernel_rfl) (by rw [hq]; simp))
                obtain ⟨v0, e0⟩ := Option.ne_none_iff_exists'.1 (down 7 0 (by kernel_rfl) (by rw [e7]; simp))
                simp [headO, headV, hq, e0, e7]
            case fin =>
              intro a' W f hz hdf hkp hBW hf hV hX
              have hdone : (∃ v, f 0 = some v) ∧ (∃ v, f 7 = some v) ∧ (∃ v, f 14 = some v) := ⟨⟨_, hf 0 72 (by kernel_rfl)⟩, ⟨_, hf 7 79 (by kernel_rfl)⟩, ⟨_, hf 14 86 (by kernel_rfl)⟩⟩
              have hL : headL f L0 [(7, 6, [nm, [58]]), (14, 13, LT)] = (L0 ++ [nm, [58]] ++ LT) := by
                obtain ⟨⟨_, _⟩, ⟨_, e7⟩, ⟨_, e14⟩⟩ := hdone
                simp [headL, e7, e14]
              obtain ⟨hown, _⟩ := hX.2.2 _ (hX.1 _ (hf 15 3 (by kernel_rfl)))
              rw [hL] at hown
              have HB2 := hide (toB W hBW)
              rw [act_puts hz rfl hdf hkp]
              clear hf hV hX hkp hdone hL cB cN cX cS sB sB2 hbs hlow toB ofB
              generalize hv3 : a'.tmps.getD 3 undef = v3 at hown
              simp only [List.foldl, Option.getD]
              rw [hv3]
              go_wp2
              go_roundw
              case rel => exact ⟨k + 1, _, by go_num, rfl, by omega, (by rw [unhide HSS]; exact hown), unhide HB2⟩
              case measure => simp [intOf]; omega
        · obtain rfl : k = n := by omega
          have hlt' : ¬ (k : Int) < (k : Int) := by omega
          obtain ⟨g1, cp1, W4, E, hL1⟩ := Left.append (s := [125]) ho hb.size (by omega)
          have HE := hide E
          have HO4 := hide (hL1.1.mono (unhide hbw1).size)
          have HB4 := hide (bon (unhide hbw1) (hb.trans hL1.2.1))
          clear E hB7 hl1 hl3 HO HP HN hL1 hb
          obtain ⟨pv, cv, rfl, _⟩ := own_slice ho
          clear ho
          go_wp2_with (at_builtin; refine wpList_append_ty rfl (.tmp 87) (.tmp 88) 25 rfl rfl rfl (unhide HE) ?_; clear HE)
          go_ret
          exact ⟨⟨_, rfl, by rw [unhide HL]; simpa using unhide HO4⟩, unhide HB4⟩
end Go.Proofs.YtmpbbmfbgcpplaaGreatDoor
/-
  Told of package coilref2, at every right expression.
-/
namespace Go.Proofs.YtmpbbmfbgcpplaaGreatDoor
open Go Go.RowKit Lx

def ToldAt (D d : Nat) : Prop := ∀ (x : Ex D d) (v : Value) (w : World), EV w D d v x → (∃ room, rightX D d room x = true) → szX D d x ≤ 30000 → Leaves 10 #[v] w (exS D d x)
/-- a part where a level is asked. -/
theorem at_part {D d : Nat} (IH : ToldAt D d) {x : Ex D d} {w : World} {A K N : Int} {S : ByteArray} {pt pn pp : Option Addr} {nt nn np ct cn cp : Nat} (hv : EV w D d (.agg #[.int .i64 A, .int .i64 K, .int .i64 N, .string S, .slice pt nt ct, .slice pn nn cn, .slice pp np cp]) x) (hr : ∃ room, rightX D d room x = true) (hz : szX D d x ≤ 30000) (a : Int) :
    ∀ W, Below w.heap.size w W → Leaves 50 #[.agg #[.int .i64 A, .int .i64 K, .int .i64 N, .string S, .slice pt nt ct, .slice pn nn cn, .slice pp np cp], .int .i64 a] W (partS (exKind D d x) a (exS D d x)) := fun W hW => by
  obtain ⟨k1, k2⟩ := exKind_in hr
  have hle := exS_le D d x
  rw [← ev_kind hv.1] at k1 k2 ⊢
  exact at_any A K N S pt pn pp nt nn np ct cn cp a _ W k1 k2 (exS_pos' hr) (by omega) fun W' hW' => IH x _ W' (hv.below (bon hW hW')) hr hz
theorem exS_sum (D d : Nat) (xs : List (Ex D d)) (n : Nat) : ((List.range n).map fun i => ((xs[i]?.map (exS D d)).getD []).length + 3 * (xs[i]?.map fun _ => 1).getD 0).sum ≤ 9 * szXL D d xs := by
  have e : ∀ i, i < n → ((xs[i]?.map (exS D d)).getD []).length + 3 * (xs[i]?.map fun _ => 1).getD 0 ≤ (xs[i]?.map fun u => 9 * szX D d u).getD 0 := fun i _ => by
    rcases xs[i]? with _ | u
    · simp
    · have := exS_le D d u
      simpa using this
  refine Nat.le_trans (sum_le e) (Nat.le_trans (part_sum xs (fun u => 9 * szX D d u) n) ?_)
  clear e
  induction xs with
  | nil => simp [szXL]
  | cons x r ih => simp only [szXL, List.map_cons, List.sum_cons] at ih ⊢; omega
theorem len_flat (g : Nat → List Bs) : ∀ n, ((List.range n).flatMap g).length = ((List.range n).map fun i => (g i).length).sum
  | 0 => rfl
  | n + 1 => by
    have ih := len_flat g n
    rw [List.range_succ, List.flatMap_append, List.length_append, ih, List.map_append, List.sum_append]
    simp
theorem litS_len (hd ns : List Bs) {D d : Nat} (xs : List (Ex D d)) (n : Nat) (hn : n ≤ xs.length) : (litS hd ns (fun i => (xs[i]?.map (exS D d)).getD []) n).length ≤ hd.length + 9 * szXL D d xs := by
  unfold litS
  rw [List.length_append, len_flat]
  dsimp only
  have h := exS_sum D d xs n
  have h2 : ((List.range n).map fun i => ((if 0 < i then [[44]] else []) ++ [ns.getD i [], [58]] ++ (xs[i]?.map (exS D d)).getD []).length).sum ≤ ((List.range n).map fun i => ((xs[i]?.map (exS D d)).getD []).length + 3 * (xs[i]?.map fun _ => 1).getD 0).sum := sum_le fun i hi => by
    have e : xs[i]? = some (xs[i]'(by omega)) := by simp
    rw [List.length_append, List.length_append, e]
    simp only [Option.map_some, Option.getD_some]
    split <;> simp <;> omega
  omega
theorem argS_len {D d : Nat} (xs : List (Ex D d)) (n : Nat) (hn : n ≤ xs.length) : (argS (fun i => (xs[i]?.map (exS D d)).getD []) n).length ≤ 1 + 9 * szXL D d xs := by
  unfold argS
  rw [List.length_cons, len_flat]
  dsimp only
  have h := exS_sum D d xs n
  have h2 : ((List.range n).map fun i => ((if 0 < i then [[44]] else []) ++ (xs[i]?.map (exS D d)).getD []).length).sum ≤ ((List.range n).map fun i => ((xs[i]?.map (exS D d)).getD []).length + 3 * (xs[i]?.map fun _ => 1).getD 0).sum := sum_le fun i hi => by
    have e : xs[i]? = some (xs[i]'(by omega)) := by simp
    rw [List.length_append, e]
    simp only [Option.map_some, Option.getD_some]
    split <;> simp <;> omega
  omega
theorem part_strs {D d : Nat} (xs : List (Ex D d)) (i : Nat) : (((xs[i]?.map (exTk D d)).getD []).map tokText) = (xs[i]?.map (exS D d)).getD [] := by
  cases xs[i]? <;> rfl
theorem typ_strs {D : Nat} (t : Ty D) : (((([t] : List (Ty D))[0]?.map (tyToks D false)).getD []).map tokText) = tyS D t := rfl
theorem len_two {α : Type} {l : List α} (h : l.length = 2) : ∃ a b, l = [a, b] := by
  match l, h with
  | [a, b], _ => exact ⟨a, b, rfl⟩
theorem ExCell.below {w W : World} {p : Option Addr} {k : Nat} {u : Value} (h : ExCell w p k u) (hb : Below w.heap.size w W) : ExCell W p k u := by
  obtain ⟨g, o, A, K, N, S, pt, pn, p3, nt, ct, nn, cn, n3, c3, rfl, rfl, a0, a1, a2, a3, a4, a5, a6⟩ := h
  exact ⟨g, o, A, K, N, S, pt, pn, p3, nt, ct, nn, cn, n3, c3, rfl, rfl, (hb.cell (p := ⟨g, _, none⟩) (cell_at a0)).trans a0, (hb.cell (p := ⟨g, _, none⟩) (cell_at a1)).trans a1, (hb.cell (p := ⟨g, _, none⟩) (cell_at a2)).trans a2, (hb.cell (p := ⟨g, _, none⟩) (cell_at a3)).trans a3, (hb.cell (p := ⟨g, _, none⟩) (cell_at a4)).trans a4, (hb.cell (p := ⟨g, _, none⟩) (cell_at a5)).trans a5, (hb.cell (p := ⟨g, _, none⟩) (cell_at a6)).trans a6⟩
set_option maxHeartbeats 1000000 in
theorem told_step (D d : Nat) (IH : ToldAt D d) : ToldAt D (d + 1) := fun x v w hv hr hz => by
  obtain ⟨⟨pt, pn, pp, ct, cn, cp, rfl, r1, r2, r3⟩, _, _, _, _, _, _, vp, ev, rc⟩ := hv
  obtain ⟨hsh, hty, hps⟩ := rightX_parts hr
  obtain ⟨n0, n1, k1, k2⟩ := shaped_num hsh
  obtain ⟨A, K, N, S, ts, ns, xs⟩ := x
  obtain ⟨_, _, s7, s6, s1, s10, s15, s3⟩ := shaped_says hsh
  have hzz : 1 + S.length + ns.length + sumL ns + szL D ts + szXL D d xs ≤ 30000 := hz
  dsimp only [xAt, xKind, xN, xS, xT, xNs, xPs] at *
  have evp : Value.slice pp xs.length cp = vp := by
    injection ev with e1
    have := congrArg (fun (x : Array Value) => x[6]?) e1
    simpa using this
  subst evp
  clear ev
  have hmem : ∀ u ∈ xs, szX D d u ≤ 30000 := fun u hu => by have := szX_mem hu; omega
  have typ : ∀ t, ts = [t] → ∃ (g o : Nat) (K' : Int) (S' : ByteArray) (qn qe q3 : Option Addr) (n1 c1 n2 c2 n3 c3 : Nat), pt = some ⟨g, o, none⟩ ∧ w.cell? ⟨g, o, none⟩ = some (.int .i64 K') ∧ w.cell? ⟨g, o + 1, none⟩ = some (.string S') ∧ w.cell? ⟨g, o + 2, none⟩ = some (.slice qn n1 c1) ∧ w.cell? ⟨g, o + 3, none⟩ = some (.slice qe n2 c2) ∧ w.cell? ⟨g, o + 4, none⟩ = some (.slice q3 n3 c3) ∧ 0 < (tyS D t).length ∧ (tyS D t).length ≤ 300000 ∧ ∀ W, Below w.heap.size w W → Leaves 49 #[.agg #[.int .i64 K', .string S', .slice qn n1 c1, .slice qe n2 c2, .slice q3 n3 c3]] W (tyS D t) := fun t ht => by
    subst ht
    obtain ⟨x, ⟨g, o, K', S', qn, qe, q3, n1, c1, n2, c2, n3, c3, rfl, rfl, a0, a1, a2, a3, a4⟩, hx⟩ := TyRow.at r1 0 (by simp)
    simp only [Nat.zero_mul, Nat.add_zero] at a0 a1 a2 a3 a4
    have hrt : ∃ room, rightD D room t = true := ⟨_, rights_mem hty t (by simp)⟩
    have hle := tyS_le D t
    have hsz : szL D [t] = szD D t := by simp [szL]
    exact ⟨g, o, K', S', qn, qe, q3, n1, c1, n2, c2, n3, c3, rfl, a0, a1, a2, a3, a4, tyS_pos hrt, by omega, fun W hW => (typed_any D t _ W (TyValD.below hW hx) hrt (by omega)).mono fun e w' ⟨⟨u, he, ho, _⟩, hb⟩ => ⟨⟨u, he, ho⟩, hb⟩⟩
  rw [exS_of]
  show ToldTo A K N ⟨S.toArray⟩ pt pn pp ts.length ns.length xs.length ct cn cp w _
  by_cases k15 : 15 ≤ K
  · obtain ⟨x0, x1, rfl⟩ := len_two (s15 k15)
    obtain ⟨u0, ⟨g, o, A', K', N', S', qn, qe, q3, n1, c1, n2, c2, n3, c3, rfl, rfl, a0, a1, a2, a3, a4, a5, a6⟩, h0⟩ := EV.at r3 rc 0 (by simp)
    obtain ⟨u1, ⟨g', o', A2, K2, N2, S2, rn, re, r4, m1, d1, m2, d2, m3, d3, e, rfl, b0, b1, b2, b3, b4, b5, b6⟩, h1⟩ := EV.at r3 rc 1 (by simp)
    obtain ⟨rfl, rfl⟩ : g = g' ∧ o = o' := by simpa using e
    clear e
    simp only [Nat.zero_mul, Nat.add_zero] at a0 a1 a2 a3 a4 a5 a6
    simp only [Nat.one_mul] at b0 b1 b2 b3 b4 b5 b6
    have p0 := at_part IH (x := x0) h0 (hps x0 (by simp)) (hmem x0 (by simp))
    have p1 := at_part IH (x := x1) h1 (hps x1 (by simp)) (hmem x1 (by simp))
    have l0 := exS_le D d x0
    have l1 := exS_le D d x1
    have z0 := hmem x0 (by simp)
    have z1 := hmem x1 (by simp)
    have q0 := exS_pos' (hps x0 (by simp))
    have q1 := exS_pos' (hps x1 (by simp))
    rw [exM_two k15 k2]
    show ToldTo A K N ⟨S.toArray⟩ pt pn (some ⟨g, o, none⟩) ts.length ns.length 2 ct cn cp w (partS (exKind D d x0) (if K = 18 ∨ K = 19 then levelI K + 1 else levelI K) (exS D d x0) ++ [signS K] ++ partS (exKind D d x1) (levelI K + 1) (exS D d x1))
    have y0 := fun a => partS_le (exKind D d x0) a (exS D d x0)
    have y1 := fun a => partS_le (exKind D d x1) a (exS D d x1)
    by_cases k3 : K = 18 ∨ K = 19
    · have hlv : levelI K = 3 := by rcases k3 with e | e <;> subst e <;> rfl
      rw [if_pos k3, hlv]
      exact tolds_two3 A K N _ _ pt pn _ _ ct cn cp w g o _ A' K' N' S' qn qe q3 n1 c1 n2 c2 n3 c3 (partS_pos q0) (by have := y0 (3 + 1); omega) _ A2 K2 N2 S2 rn re r4 m1 d1 m2 d2 m3 d3 (partS_pos q1) (by have := y1 (3 + 1); omega) k15 k2 hlv rfl a0 a1 a2 a3 a4 a5 a6 b0 b1 b2 b3 b4 b5 b6 (p0 4) (p1 (3 + 1))
    · rw [if_neg k3]
      have hlv : 0 ≤ levelI K ∧ levelI K ≤ 1000 ∧ (levelI K == 3) = false := by
        have hk : K = 15 ∨ K = 16 ∨ K = 17 ∨ K = 20 ∨ K = 21 := by omega
        rcases hk with e | e | e | e | e <;> subst e <;> decide
      obtain ⟨lv0, lv1, lv3⟩ := hlv
      exact tolds_two A K N (levelI K) _ _ pt pn _ _ ct cn cp w g o _ A' K' N' S' qn qe q3 n1 c1 n2 c2 n3 c3 (partS_pos q0) (by have := y0 (levelI K); omega) _ A2 K2 N2 S2 rn re r4 m1 d1 m2 d2 m3 d3 (partS_pos q1) (by have := y1 (levelI K + 1); omega) k15 k2 rfl lv0 lv1 lv3 rfl a0 a1 a2 a3 a4 a5 a6 b0 b1 b2 b3 b4 b5 b6 (p0 _) (p1 _)
  have one : ∀ x0, xs = [x0] → ∃ (g o : Nat) (A' K' N' : Int) (S' : ByteArray) (qn qe q3 : Option Addr) (n1 c1 n2 c2 n3 c3 : Nat), pp = some ⟨g, o, none⟩ ∧ w.cell? ⟨g, o, none⟩ = some (.int .i64 A') ∧ w.cell? ⟨g, o + 1, none⟩ = some (.int .i64 K') ∧ w.cell? ⟨g, o + 2, none⟩ = some (.int .i64 N') ∧ w.cell? ⟨g, o + 3, none⟩ = some (.string S') ∧ w.cell? ⟨g, o + 4, none⟩ = some (.slice qn n1 c1) ∧ w.cell? ⟨g, o + 5, none⟩ = some (.slice qe n2 c2) ∧ w.cell? ⟨g, o + 6, none⟩ = some (.slice q3 n3 c3) ∧ (∀ a, 0 < (partS (exKind D d x0) a (exS D d x0)).length ∧ (partS (exKind D d x0) a (exS D d x0)).length ≤ 300000) ∧
      ∀ a W, Below w.heap.size w W → Leaves 50 #[.agg #[.int .i64 A', .int .i64 K', .int .i64 N', .string S', .slice qn n1 c1, .slice qe n2 c2, .slice q3 n3 c3], .int .i64 a] W (partS (exKind D d x0) a (exS D d x0)) := fun x0 he => by
    subst he
    obtain ⟨u0, ⟨g, o, A', K', N', S', qn, qe, q3, n1, c1, n2, c2, n3, c3, rfl, rfl, a0, a1, a2, a3, a4, a5, a6⟩, h0⟩ := EV.at r3 rc 0 (by simp)
    simp only [Nat.zero_mul, Nat.add_zero] at a0 a1 a2 a3 a4 a5 a6
    have l0 := exS_le D d x0
    have z0 := hmem x0 (by simp)
    refine ⟨g, o, A', K', N', S', qn, qe, q3, n1, c1, n2, c2, n3, c3, rfl, a0, a1, a2, a3, a4, a5, a6, fun a => ⟨partS_pos (exS_pos' (hps x0 (by simp))), ?_⟩, fun a => at_part IH (x := x0) h0 (hps x0 (by simp)) z0 a⟩
    have := partS_le (exKind D d x0) a (exS D d x0)
    omega
  have hk : K = 1 ∨ K = 2 ∨ K = 3 ∨ K = 4 ∨ K = 5 ∨ K = 6 ∨ K = 7 ∨ K = 8 ∨ K = 9 ∨ K = 10 ∨ K = 11 ∨ K = 12 ∨ K = 13 ∨ K = 14 := by omega
  have lits : ns.length = xs.length → ∀ k, k < ns.length → ∃ u, ExCell w pp k u ∧ 0 < ((xs[k]?.map (exS D d)).getD []).length ∧ ∀ W, Below w.heap.size w W → Leaves 10 #[u] W ((xs[k]?.map (exS D d)).getD []) := fun hl k hk => by
    have hk' : k < xs.length := by omega
    have e : xs[k]? = some xs[k] := by simp
    obtain ⟨u, c, h⟩ := EV.at r3 rc k hk'
    rw [e]
    exact ⟨u, c, exS_pos' (hps _ (by simp)), fun W hW => IH _ u W (h.below hW) (hps _ (by simp)) (hmem _ (by simp))⟩
  have rest : ∀ x0 r g o, xs = x0 :: r → pp = some ⟨g, o, none⟩ → ∀ k, k < r.length → ∃ u, ExCell w (some ⟨g, o + 7, none⟩) k u ∧ 0 < ((r[k]?.map (exS D d)).getD []).length ∧ ∀ W, Below w.heap.size w W → Leaves 10 #[u] W ((r[k]?.map (exS D d)).getD []) := fun x0 r g o hx hp k hk => by
    subst hx hp
    have e : r[k]? = some r[k] := by simp
    obtain ⟨u, c, h⟩ := EV.at r3 rc (k + 1) (by simp; omega)
    rw [e]
    have hm : r[k] ∈ x0 :: r := List.mem_cons_of_mem _ (by simp)
    exact ⟨u, excell_rest c, exS_pos' (hps _ hm), fun W hW => IH _ u W (h.below hW) (hps _ hm) (hmem _ hm)⟩
  have hcap := cap_le rc
  rcases hk with e | e | e | e | e | e | e | e | e | e | e | e | e | e
  · subst e
    obtain ⟨n, rfl⟩ : ∃ n : Nat, N = (n : Int) := ⟨N.toNat, by omega⟩
    rw [exM_1]; exact tolds_1 A n _ pt pn pp _ _ _ ct cn cp w (by omega)
  · subst e; rw [exM_2]; exact tolds_2 A N S pt pn pp _ _ _ ct cn cp w (by omega)
  · subst e
    rcases s3 rfl with e | e <;> subst e
    · rw [exM_3f]; exact tolds_3f A _ pt pn pp _ _ _ ct cn cp w
    · rw [exM_3t]; exact tolds_3t A _ pt pn pp _ _ _ ct cn cp w
  · subst e; rw [exM_4]; exact tolds_4 A N S pt pn pp _ _ _ ct cn cp w
  · subst e; rw [exM_5]; exact tolds_5 A N _ pt pn pp _ _ _ ct cn cp w
  · subst e
    obtain ⟨t, rfl⟩ := List.length_eq_one_iff.1 (s6 (.inl rfl))
    obtain ⟨g, o, K', S', qn, qe, q3, n1, c1, n2, c2, n3, c3, rfl, a0, a1, a2, a3, a4, hp, hl, CL⟩ := typ t rfl
    rw [exM_6, typ_strs]
    exact tolds_6 A N _ pn pp _ _ ct cn cp w g o _ K' S' qn qe q3 n1 c1 n2 c2 n3 c3 hp (by omega) a0 a1 a2 a3 a4 CL
  · subst e
    obtain ⟨_, hl, _⟩ := s7 (.inl rfl)
    have h1 := litS_len [S, [123]] ns xs ns.length (by omega)
    rw [exM_7]
    simp only [part_strs]
    rw [← hl]
    exact tolds_7 A N S pt pn pp _ ns.length ct cn cp w ns _ rfl (by omega) (by simp at h1 ⊢; omega) r2 (lits hl)
  · subst e
    obtain ⟨_, hl, _⟩ := s7 (.inr rfl)
    have h1 := litS_len [[110, 101, 119], S, [123]] ns xs ns.length (by omega)
    rw [exM_8]
    simp only [part_strs]
    rw [← hl]
    exact tolds_8 A N S pt pn pp _ ns.length ct cn cp w ns _ rfl (by omega) (by simp at h1 ⊢; omega) r2 (lits hl)
  · subst e
    obtain ⟨x0, rfl⟩ := List.length_eq_one_iff.1 (s1 (.inl rfl))
    obtain ⟨g, o, A', K', N', S', qn, qe, q3, n1, c1, n2, c2, n3, c3, rfl, a0, a1, a2, a3, a4, a5, a6, hp, CL⟩ := one x0 rfl
    rw [exM_9]
    exact tolds_9 A N S pt pn _ _ ct cn cp w g o _ A' K' N' S' qn qe q3 n1 c1 n2 c2 n3 c3 (hp 7).1 (hp 7).2 a0 a1 a2 a3 a4 a5 a6 (CL 7)
  · subst e
    obtain ⟨x0, r, rfl⟩ : ∃ x0 r, xs = x0 :: r := by
      cases xs with
      | nil => have := s10 (.inl rfl); simp at this
      | cons a b => exact ⟨a, b, rfl⟩
    obtain ⟨u0, ⟨g, o, A', K', N', S', qn, qe, q3, n1, c1, n2, c2, n3, c3, rfl, rfl, a0, a1, a2, a3, a4, a5, a6⟩, h0⟩ := EV.at r3 rc 0 (by simp)
    simp only [Nat.zero_mul, Nat.add_zero] at a0 a1 a2 a3 a4 a5 a6
    obtain ⟨c, rfl⟩ : ∃ c, cp = c + 1 := ⟨cp - 1, by simp at hcap; omega⟩
    have hm : r.length ≤ c := by simp at hcap; omega
    have l0 := exS_le D d x0
    have z0 := hmem x0 (by simp)
    have y0 := partS_le (exKind D d x0) 7 (exS D d x0)
    have hzr : szXL D d (x0 :: r) = szX D d x0 + szXL D d r := by simp [szXL]
    have la := argS_len r r.length (Nat.le_refl _)
    have lr := len_szX r
    rw [exM_10]
    exact tolds_10 A N S pt pn _ _ ct cn c r.length w g o _ A' K' N' S' qn qe q3 n1 c1 n2 c2 n3 c3 (partS_pos (exS_pos' (hps x0 (by simp)))) (show (partS (exKind D d x0) 7 (exS D d x0)).length ≤ 300000 by omega) _ (by simp) (show (argS (fun i => (((x0 :: r)[i + 1]?.map (exTk D d)).getD []).map tokText) r.length ++ [[41]]).length ≤ 300000 by simp only [part_strs, List.getElem?_cons_succ]; rw [List.length_append]; simp; omega) hm a0 a1 a2 a3 a4 a5 a6
      (fun W hW => by
        show Leaves 51 #[.slice (restP g o c) r.length c] W (argS (fun i => (((x0 :: r)[i + 1]?.map (exTk D d)).getD []).map tokText) r.length ++ [[41]])
        simp only [part_strs, List.getElem?_cons_succ]
        refine rest_args hm (by omega) (by omega) fun k hk => ?_
        obtain ⟨u, hc, hq, hL⟩ := rest x0 r g o rfl rfl k hk
        exact ⟨u, hc.below hW, hq, fun W' hW' => hL W' (bon hW hW')⟩)
      (at_part IH (x := x0) h0 (hps x0 (by simp)) z0 7)
  · subst e
    obtain ⟨x0, r, rfl⟩ : ∃ x0 r, xs = x0 :: r := by
      cases xs with
      | nil => have := s10 (.inr rfl); simp at this
      | cons a b => exact ⟨a, b, rfl⟩
    obtain ⟨u0, ⟨g, o, A', K', N', S', qn, qe, q3, n1, c1, n2, c2, n3, c3, rfl, rfl, a0, a1, a2, a3, a4, a5, a6⟩, h0⟩ := EV.at r3 rc 0 (by simp)
    simp only [Nat.zero_mul, Nat.add_zero] at a0 a1 a2 a3 a4 a5 a6
    obtain ⟨c, rfl⟩ : ∃ c, cp = c + 1 := ⟨cp - 1, by simp at hcap; omega⟩
    have hm : r.length ≤ c := by simp at hcap; omega
    have l0 := exS_le D d x0
    have z0 := hmem x0 (by simp)
    have y0 := partS_le (exKind D d x0) 7 (exS D d x0)
    have hzr : szXL D d (x0 :: r) = szX D d x0 + szXL D d r := by simp [szXL]
    have la := argS_len r r.length (Nat.le_refl _)
    have lr := len_szX r
    have hk' : K' = exKind D d x0 := ev_kind h0.1
    rw [exM_11]
    exact tolds_11 A N _ pt pn _ _ ct cn c r.length w g o _ A' K' N' S' qn qe q3 n1 c1 n2 c2 n3 c3 (partS_pos (exS_pos' (hps x0 (by simp)))) (show (partS (exKind D d x0) 7 (exS D d x0)).length ≤ 300000 by omega) _ _ (by simp) (show (argS (fun i => (((x0 :: r)[i + 1]?.map (exTk D d)).getD []).map tokText) r.length ++ [[41]]).length ≤ 300000 by simp only [part_strs, List.getElem?_cons_succ]; rw [List.length_append]; simp; omega) hm (by rw [hk']; rfl) a0 a1 a2 a3 a4 a5 a6
      (fun W hW => by
        show Leaves 51 #[.slice (restP g o c) r.length c] W (argS (fun i => (((x0 :: r)[i + 1]?.map (exTk D d)).getD []).map tokText) r.length ++ [[41]])
        simp only [part_strs, List.getElem?_cons_succ]
        refine rest_args hm (by omega) (by omega) fun k hk => ?_
        obtain ⟨u, hc, hq, hL⟩ := rest x0 r g o rfl rfl k hk
        exact ⟨u, hc.below hW, hq, fun W' hW' => hL W' (bon hW hW')⟩)
      (at_part IH (x := x0) h0 (hps x0 (by simp)) z0 7)
  · subst e
    obtain ⟨x0, rfl⟩ := List.length_eq_one_iff.1 (s1 (.inr (.inl rfl)))
    obtain ⟨t, rfl⟩ := List.length_eq_one_iff.1 (s6 (.inr rfl))
    obtain ⟨g, o, A', K', N', S', qn, qe, q3, n1, c1, n2, c2, n3, c3, rfl, a0, a1, a2, a3, a4, a5, a6, hp, CL⟩ := one x0 rfl
    obtain ⟨gt, ot, kt, st, tn, te, tp, m1, d1, m2, d2, m3, d3, rfl, t0, t1, t2, t3, t4, hpt, hlt, CT⟩ := typ t rfl
    rw [exM_12, typ_strs]
    exact tolds_12 A N _ pn _ ct cn cp w g o _ A' K' N' S' qn qe q3 n1 c1 n2 c2 n3 c3 (hp 7).1 (hp 7).2 gt ot _ kt st tn te tp m1 d1 m2 d2 m3 d3 hpt hlt a0 a1 a2 a3 a4 a5 a6 t0 t1 t2 t3 t4 CT (CL 7)
  · subst e
    obtain ⟨x0, rfl⟩ := List.length_eq_one_iff.1 (s1 (.inr (.inr (.inl rfl))))
    obtain ⟨g, o, A', K', N', S', qn, qe, q3, n1, c1, n2, c2, n3, c3, rfl, a0, a1, a2, a3, a4, a5, a6, hp, CL⟩ := one x0 rfl
    rw [exM_13]
    exact tolds_13 A N _ pt pn _ _ ct cn cp w g o _ A' K' N' S' qn qe q3 n1 c1 n2 c2 n3 c3 (hp 6).1 (by have := (hp 6).2; exact Nat.le_trans this (by decide)) a0 a1 a2 a3 a4 a5 a6 (CL 6)
  · subst e
    obtain ⟨x0, rfl⟩ := List.length_eq_one_iff.1 (s1 (.inr (.inr (.inr rfl))))
    obtain ⟨g, o, A', K', N', S', qn, qe, q3, n1, c1, n2, c2, n3, c3, rfl, a0, a1, a2, a3, a4, a5, a6, hp, CL⟩ := one x0 rfl
    rw [exM_14]
    exact tolds_14 A N _ pt pn _ _ ct cn cp w g o _ A' K' N' S' qn qe q3 n1 c1 n2 c2 n3 c3 (hp 6).1 (by have := (hp 6).2; exact Nat.le_trans this (by decide)) a0 a1 a2 a3 a4 a5 a6 (CL 6)
/-- Told at every right expression. -/
theorem told_any (D : Nat) : ∀ d, ToldAt D d
  | 0 => fun x => nomatch x
  | d + 1 => told_step D d (told_any D d)
end Go.Proofs.YtmpbbmfbgcpplaaGreatDoor
