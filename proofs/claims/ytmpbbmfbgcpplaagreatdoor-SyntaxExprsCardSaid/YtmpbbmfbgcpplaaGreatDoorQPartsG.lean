/-
  Texts of types that are put together of others: plain laws on tokens. No world.
-/
import Derived.Test.YtmpbbmfbgcpplaaGreatDoorQKeepG
import Derived.Test.YtmpbbmfbgcpplaaGreatDoorQSynE
import Derived.Test.YtmpbbmfbgcpplaaGreatDoorQLaws6
namespace Go.Proofs.YtmpbbmfbgcpplaaGreatDoor
open Go Go.RowKit Lx

theorem spaced_cons (t : Tok) (r : List Tok) : spaced (t :: r) = 32 :: (tokText t ++ spaced r) := by simp [spaced]
theorem spaced_append (a b : List Tok) : spaced (a ++ b) = spaced a ++ spaced b := by simp [spaced]
end Go.Proofs.YtmpbbmfbgcpplaaGreatDoor
/-
  How long a type's text is: plain laws. No world.
-/
namespace Go.Proofs.YtmpbbmfbgcpplaaGreatDoor
open Go Go.RowKit Lx

/-- how many bytes tokens take, a blank ahead of each. -/
def fl (l : List Tok) : Nat := (spaced l).length
theorem fl_append (a b : List Tok) : fl (a ++ b) = fl a + fl b := by rw [fl, spaced_append, List.length_append]; rfl
theorem fl_cons (t : Tok) (r : List Tok) : fl (t :: r) = 1 + (tokText t).length + fl r := by rw [fl, spaced_cons]; simp [fl]; omega
theorem fl_nil : fl [] = 0 := rfl
theorem fl_flat (g : Nat → List Tok) : ∀ n, fl ((List.range n).flatMap g) = ((List.range n).map fun i => fl (g i)).sum
  | 0 => rfl
  | n + 1 => by
    have ih := fl_flat g n
    rw [List.range_succ, List.flatMap_append, fl_append, ih, List.map_append, List.sum_append]
    simp
theorem range_part {α : Type} (ps : List α) (g : α → Nat) : ∀ n, ((List.range n).map fun i => (ps[i]?.map g).getD 0).sum = ((ps.take n).map g).sum
  | 0 => by simp
  | n + 1 => by
    rw [List.range_succ, List.map_append, List.sum_append, range_part ps g n, List.take_add_one, List.map_append, List.sum_append]
    rcases h : ps[n]? with _ | x <;> simp [h]
theorem take_sum (l : List Nat) (n : Nat) : (l.take n).sum ≤ l.sum := by
  have : l.sum = (l.take n).sum + (l.drop n).sum := by rw [← List.sum_append, List.take_append_drop]
  omega
theorem part_sum {α : Type} (ps : List α) (g : α → Nat) (n : Nat) : ((List.range n).map fun i => (ps[i]?.map g).getD 0).sum ≤ (ps.map g).sum := by
  rw [range_part, List.map_take]
  exact take_sum _ _
theorem sum_le {n : Nat} {f g : Nat → Nat} (h : ∀ i, i < n → f i ≤ g i) : ((List.range n).map f).sum ≤ ((List.range n).map g).sum := by
  induction n with
  | zero => simp
  | succ n ih =>
    have h1 := ih (fun i hi => h i (by omega))
    have h2 := h n (by omega)
    rw [List.range_succ, List.map_append, List.sum_append, List.map_append, List.sum_append]
    simp only [List.map_cons, List.map_nil, List.sum_cons, List.sum_nil]
    omega
theorem sum_add (n : Nat) (f g : Nat → Nat) : ((List.range n).map fun i => f i + g i).sum = ((List.range n).map f).sum + ((List.range n).map g).sum := by
  induction n with
  | zero => simp
  | succ n ih =>
    rw [List.range_succ, List.map_append, List.sum_append, List.map_append, List.sum_append, List.map_append, List.sum_append, ih]
    simp only [List.map_cons, List.map_nil, List.sum_cons, List.sum_nil]
    omega
theorem sum_const (n c : Nat) : ((List.range n).map fun _ => c).sum = n * c := by
  induction n with
  | zero => simp
  | succ n ih =>
    rw [List.range_succ, List.map_append, List.sum_append, ih, Nat.succ_mul]
    simp
theorem getD_sum (ns : List Bs) (n : Nat) : ((List.range n).map fun i => (ns.getD i []).length).sum ≤ sumL ns := by
  have := part_sum ns List.length n
  refine Nat.le_trans (sum_le fun i _ => ?_) this
  rw [List.getD_eq_getElem?_getD]
  rcases ns[i]? with _ | x <;> simp
theorem txt_s (s : Bs) : (tokText (tS s)).length = s.length := by rw [tokText_own (show (6 : Int) ≠ 4 by decide) (show (6 : Int) ≠ 5 by decide)]; rfl
theorem txt_w (s : Bs) : (tokText (tW s)).length = s.length := by rw [tokText_own (show (3 : Int) ≠ 4 by decide) (show (3 : Int) ≠ 5 by decide)]; rfl
theorem txt_n (s : Bs) : (tokText (tN s)).length = s.length := by rw [tokText_own (show (1 : Int) ≠ 4 by decide) (show (1 : Int) ≠ 5 by decide)]; rfl
theorem txt_t (s : Bs) : (tokText (tT s)).length = s.length := by rw [tokText_own (show (2 : Int) ≠ 4 by decide) (show (2 : Int) ≠ 5 by decide)]; rfl
/-- a type's text takes no more than twenty bytes for each part and byte of it. -/
theorem toks_len : ∀ (d : Nat) (sg : Bool) (t : Ty d), fl (tyToks d sg t) + 2 ≤ 20 * szD d t
  | 0, _, t => nomatch t
  | d + 1, sg, t => by
    obtain ⟨K, S, ns, es, ps⟩ := t
    have hsz : szD (d + 1) (K, S, ns, es, ps) = 1 + S.length + ns.length + es.length + sumL ns + (ps.map (szD d)).sum := rfl
    rw [hsz]
    have hpart : ∀ (i : Nat) (s : Bool), fl ((ps[i]?.map (tyToks d s)).getD []) + (ps[i]?.map fun _ => 2).getD 0 ≤ (ps[i]?.map fun u => 20 * szD d u).getD 0 := fun i s => by
      rcases h : ps[i]? with _ | u
      · simp [fl_nil]
      · simpa using toks_len d s u
    have hsum : ∀ n, ((List.range n).map fun i => (ps[i]?.map fun u => 20 * szD d u).getD 0).sum ≤ 20 * (ps.map (szD d)).sum := fun n => by
      refine Nat.le_trans (part_sum ps (fun u => 20 * szD d u) n) ?_
      clear hsz hpart
      induction ps with
      | nil => simp
      | cons x r ih => simp only [List.map_cons, List.sum_cons]; omega
    have hsig : fl (tS [40] :: ((List.range (ps.length - 1)).flatMap fun i => (if 0 < i then [tS [44]] else []) ++ (ps[i]?.map (tyToks d false)).getD []) ++ tS [41] :: (ps[ps.length - 1]?.map (tyToks d false)).getD []) ≤ 4 + 20 * (ps.map (szD d)).sum := by
      rw [List.cons_append, fl_cons, fl_append, fl_cons, fl_flat, txt_s, txt_s]
      rcases Nat.eq_zero_or_pos ps.length with h0 | h0
      · have : ps = [] := List.eq_nil_of_length_eq_zero h0
        subst this
        simp [fl_nil]
      · have h1 : ((List.range (ps.length - 1)).map fun i => fl ((if 0 < i then [tS [44]] else []) ++ (ps[i]?.map (tyToks d false)).getD [])).sum ≤ ((List.range (ps.length - 1)).map fun i => (ps[i]?.map fun u => 20 * szD d u).getD 0).sum := sum_le fun i hi => by
          have h2 := hpart i false
          have h3 : ps[i]? = some ps[i] := by simp
          rw [h3] at h2 ⊢
          simp only [Option.map_some, Option.getD_some] at h2 ⊢
          rw [fl_append]
          split
          · rw [fl_cons, fl_nil, txt_s]; simp; omega
          · rw [fl_nil]; omega
        have h4 := hpart (ps.length - 1) false
        have h5 := hsum (ps.length - 1 + 1)
        rw [List.range_succ, List.map_append, List.sum_append] at h5
        simp only [List.map_cons, List.map_nil, List.sum_cons, List.sum_nil] at h5
        simp only [List.length_cons, List.length_nil]
        omega
    show fl (if sg = true then _ else if K = 1 then _ else if K = 2 then _ else if K = 3 then _ else if K = 4 then _ else if K = 5 then _ else if K = 6 then _ else if K = 7 then _ else if K = 8 then _ else []) + 2 ≤ _
    by_cases hc0 : sg = true
    · rw [if_pos hc0]
      have := hsig; dsimp only at this ⊢; omega
    rw [if_neg hc0]
    by_cases hc1 : K = 1
    · rw [if_pos hc1]
      rw [fl_cons, fl_nil, txt_w]; simp only [List.length_cons, List.length_nil]; omega
    rw [if_neg hc1]
    by_cases hc2 : K = 2
    · rw [if_pos hc2]
      rw [fl_cons, fl_nil, txt_w]; simp only [List.length_cons, List.length_nil]; omega
    rw [if_neg hc2]
    by_cases hc3 : K = 3
    · rw [if_pos hc3]
      rw [fl_cons, fl_nil, txt_w]; simp only [List.length_cons, List.length_nil]; omega
    rw [if_neg hc3]
    by_cases hc4 : K = 4
    · rw [if_pos hc4]
      rw [fl_cons, fl_nil, txt_t]; dsimp only; omega
    rw [if_neg hc4]
    by_cases hc5 : K = 5
    · rw [if_pos hc5]
      have h1 := hpart 0 false
      have h2 := hsum 1
      simp only [List.range_one, List.map_cons, List.map_nil, List.sum_cons, List.sum_nil] at h2
      rw [fl_cons, txt_s]
      simp only [List.length_cons, List.length_nil]
      omega
    rw [if_neg hc5]
    by_cases hc6 : K = 6
    · rw [if_pos hc6]
      rw [List.cons_append, fl_cons, fl_append, fl_flat, fl_cons, fl_nil, txt_s, txt_s]
      have h1 : ((List.range ns.length).map fun i => fl ((if es.getD i false = true then [tW [101, 109, 98, 101, 100]] else []) ++ tN (ns.getD i []) :: (ps[i]?.map (tyToks d false)).getD [] ++ [tS [59]])).sum ≤ ((List.range ns.length).map fun i => 9 + ((ns.getD i []).length + (ps[i]?.map fun u => 20 * szD d u).getD 0)).sum := sum_le fun i hi => by
        have h2 := hpart i false
        rw [fl_append, fl_append, fl_cons, fl_cons, fl_nil, txt_n, txt_s]
        split
        · rw [fl_cons, fl_nil, txt_w]; simp only [List.length_cons, List.length_nil]; omega
        · rw [fl_nil]; simp only [List.length_cons, List.length_nil]; omega
      rw [sum_add, sum_add, sum_const] at h1
      have h3 := getD_sum ns ns.length
      have h4 := hsum ns.length
      simp only [List.length_cons, List.length_nil]
      omega
    rw [if_neg hc6]
    by_cases hc7 : K = 7
    · rw [if_pos hc7]
      rw [fl_cons, txt_w]
      have := hsig
      simp only [List.length_cons, List.length_nil]
      omega
    rw [if_neg hc7]
    by_cases hc8 : K = 8
    · rw [if_pos hc8]
      rw [List.cons_append, List.cons_append, fl_cons, fl_cons, fl_append, fl_flat, fl_cons, fl_nil, txt_s, txt_s, txt_w]
      have h1 : ((List.range ns.length).map fun i => fl (tN (ns.getD i []) :: (ps[i]?.map (tyToks d true)).getD [] ++ [tS [59]])).sum ≤ ((List.range ns.length).map fun i => 9 + ((ns.getD i []).length + (ps[i]?.map fun u => 20 * szD d u).getD 0)).sum := sum_le fun i hi => by
        have h2 := hpart i true
        rw [fl_append, fl_cons, fl_cons, fl_nil, txt_n, txt_s]
        simp only [List.length_cons, List.length_nil]; omega
      rw [sum_add, sum_add, sum_const] at h1
      have h3 := getD_sum ns ns.length
      have h4 := hsum ns.length
      simp only [List.length_cons, List.length_nil]
      omega
    rw [if_neg hc8]
    rw [fl_nil]; omega
end Go.Proofs.YtmpbbmfbgcpplaaGreatDoor
/-
  How many tokens a type has: plain laws. No world.
-/
namespace Go.Proofs.YtmpbbmfbgcpplaaGreatDoor
open Go Go.RowKit Lx

def cn (l : List Tok) : Nat := l.length
theorem cn_append (a b : List Tok) : cn (a ++ b) = cn a + cn b := List.length_append
theorem cn_cons (t : Tok) (r : List Tok) : cn (t :: r) = 1 + cn r := by rw [cn, List.length_cons, cn]; omega
theorem cn_nil : cn [] = 0 := rfl
theorem cn_flat (g : Nat → List Tok) : ∀ n, cn ((List.range n).flatMap g) = ((List.range n).map fun i => cn (g i)).sum
  | 0 => rfl
  | n + 1 => by
    have ih := cn_flat g n
    rw [List.range_succ, List.flatMap_append, cn_append, ih, List.map_append, List.sum_append]
    simp
/-- a type has no more than four tokens for each part and byte of it. -/
theorem toks_cnt : ∀ (d : Nat) (sg : Bool) (t : Ty d), cn (tyToks d sg t) + 1 ≤ 4 * szD d t
  | 0, _, t => nomatch t
  | d + 1, sg, t => by
    obtain ⟨K, S, ns, es, ps⟩ := t
    have hsz : szD (d + 1) (K, S, ns, es, ps) = 1 + S.length + ns.length + es.length + sumL ns + (ps.map (szD d)).sum := rfl
    rw [hsz]
    have hpart : ∀ (i : Nat) (s : Bool), cn ((ps[i]?.map (tyToks d s)).getD []) + (ps[i]?.map fun _ => 1).getD 0 ≤ (ps[i]?.map fun u => 4 * szD d u).getD 0 := fun i s => by
      rcases h : ps[i]? with _ | u
      · simp [cn_nil]
      · simpa using toks_cnt d s u
    have hsum : ∀ n, ((List.range n).map fun i => (ps[i]?.map fun u => 4 * szD d u).getD 0).sum ≤ 4 * (ps.map (szD d)).sum := fun n => by
      refine Nat.le_trans (part_sum ps (fun u => 4 * szD d u) n) ?_
      clear hsz hpart
      induction ps with
      | nil => simp
      | cons x r ih => simp only [List.map_cons, List.sum_cons]; omega
    have hsig : cn (tS [40] :: ((List.range (ps.length - 1)).flatMap fun i => (if 0 < i then [tS [44]] else []) ++ (ps[i]?.map (tyToks d false)).getD []) ++ tS [41] :: (ps[ps.length - 1]?.map (tyToks d false)).getD []) ≤ 2 + 4 * (ps.map (szD d)).sum := by
      rw [List.cons_append, cn_cons, cn_append, cn_cons, cn_flat]
      rcases Nat.eq_zero_or_pos ps.length with h0 | h0
      · have : ps = [] := List.eq_nil_of_length_eq_zero h0
        subst this
        simp [cn_nil]
      · have h1 : ((List.range (ps.length - 1)).map fun i => cn ((if 0 < i then [tS [44]] else []) ++ (ps[i]?.map (tyToks d false)).getD [])).sum ≤ ((List.range (ps.length - 1)).map fun i => (ps[i]?.map fun u => 4 * szD d u).getD 0).sum := sum_le fun i hi => by
          have h2 := hpart i false
          have h3 : ps[i]? = some ps[i] := by simp
          rw [h3] at h2 ⊢
          simp only [Option.map_some, Option.getD_some] at h2 ⊢
          rw [cn_append]
          split
          · rw [cn_cons, cn_nil]; omega
          · rw [cn_nil]; omega
        have h4 := hpart (ps.length - 1) false
        have h5 := hsum (ps.length - 1 + 1)
        rw [List.range_succ, List.map_append, List.sum_append] at h5
        simp only [List.map_cons, List.map_nil, List.sum_cons, List.sum_nil] at h5
        omega
    show cn (if sg = true then _ else if K = 1 then _ else if K = 2 then _ else if K = 3 then _ else if K = 4 then _ else if K = 5 then _ else if K = 6 then _ else if K = 7 then _ else if K = 8 then _ else []) + 1 ≤ _
    by_cases hc0 : sg = true
    · rw [if_pos hc0]
      have := hsig; dsimp only at this ⊢; omega
    rw [if_neg hc0]
    by_cases hc1 : K = 1
    · rw [if_pos hc1]
      rw [cn_cons, cn_nil]; omega
    rw [if_neg hc1]
    by_cases hc2 : K = 2
    · rw [if_pos hc2]
      rw [cn_cons, cn_nil]; omega
    rw [if_neg hc2]
    by_cases hc3 : K = 3
    · rw [if_pos hc3]
      rw [cn_cons, cn_nil]; omega
    rw [if_neg hc3]
    by_cases hc4 : K = 4
    · rw [if_pos hc4]
      rw [cn_cons, cn_nil]; omega
    rw [if_neg hc4]
    by_cases hc5 : K = 5
    · rw [if_pos hc5]
      have h1 := hpart 0 false
      have h2 := hsum 1
      simp only [List.range_one, List.map_cons, List.map_nil, List.sum_cons, List.sum_nil] at h2
      rw [cn_cons]
      dsimp only
      omega
    rw [if_neg hc5]
    by_cases hc6 : K = 6
    · rw [if_pos hc6]
      rw [List.cons_append, cn_cons, cn_append, cn_flat, cn_cons, cn_nil]
      have h1 : ((List.range ns.length).map fun i => cn ((if es.getD i false = true then [tW [101, 109, 98, 101, 100]] else []) ++ tN (ns.getD i []) :: (ps[i]?.map (tyToks d false)).getD [] ++ [tS [59]])).sum ≤ ((List.range ns.length).map fun i => 3 + ((ns.getD i []).length + (ps[i]?.map fun u => 4 * szD d u).getD 0)).sum := sum_le fun i hi => by
        have h2 := hpart i false
        rw [cn_append, cn_append, cn_cons, cn_cons, cn_nil]
        split
        · rw [cn_cons, cn_nil]; omega
        · rw [cn_nil]; omega
      rw [sum_add, sum_add, sum_const] at h1
      have h3 := getD_sum ns ns.length
      have h4 := hsum ns.length
      dsimp only
      omega
    rw [if_neg hc6]
    by_cases hc7 : K = 7
    · rw [if_pos hc7]
      rw [cn_cons]
      have := hsig
      dsimp only
      omega
    rw [if_neg hc7]
    by_cases hc8 : K = 8
    · rw [if_pos hc8]
      rw [List.cons_append, List.cons_append, cn_cons, cn_cons, cn_append, cn_flat, cn_cons, cn_nil]
      have h1 : ((List.range ns.length).map fun i => cn (tN (ns.getD i []) :: (ps[i]?.map (tyToks d true)).getD [] ++ [tS [59]])).sum ≤ ((List.range ns.length).map fun i => 3 + ((ns.getD i []).length + (ps[i]?.map fun u => 4 * szD d u).getD 0)).sum := sum_le fun i hi => by
        have h2 := hpart i true
        rw [cn_append, cn_cons, cn_cons, cn_nil]
        omega
      rw [sum_add, sum_add, sum_const] at h1
      have h3 := getD_sum ns ns.length
      have h4 := hsum ns.length
      dsimp only
      omega
    rw [if_neg hc8]
    rw [cn_nil]; omega
end Go.Proofs.YtmpbbmfbgcpplaaGreatDoor
/-
  The text of a pointer to, a function of, a record of and an interface of types whose texts are known: plain laws. No world.
-/
namespace Go.Proofs.YtmpbbmfbgcpplaaGreatDoor
open Go Go.RowKit Lx

theorem shaped_kind {d : Nat} {t : Ty (d + 1)} (h : shapedB d t = true) : t.1 = 1 ∨ t.1 = 2 ∨ t.1 = 3 ∨ t.1 = 4 ∨ t.1 = 5 ∨ t.1 = 6 ∨ t.1 = 7 ∨ t.1 = 8 := by
  apply Decidable.byContradiction
  intro hk
  rw [shapedB, shapeF] at h
  by_cases h0 : t.1 ≠ 4 ∧ t.2.1.isEmpty = false
  · rw [if_pos h0] at h; cases h
  · rw [if_neg h0, if_neg (by omega), if_neg (by omega), if_neg (by omega), if_neg (by omega), if_neg (by omega), if_neg (by omega)] at h
    cases h
theorem toks_ne' {d : Nat} {t : Ty (d + 1)} (h : shapedB d t = true) (sg : Bool) (hsg : sg = false) : tyToks (d + 1) sg t ≠ [] := by
  have hk := shaped_kind h
  obtain ⟨K, S, ns, es, ps⟩ := t
  show (if sg = true then _ else if K = 1 then _ else if K = 2 then _ else if K = 3 then _ else if K = 4 then _ else if K = 5 then _ else if K = 6 then _ else if K = 7 then _ else if K = 8 then _ else []) ≠ []
  dsimp only at hk
  rw [if_neg (by rw [hsg]; simp)]
  by_cases h1 : K = 1
  · rw [if_pos h1]; simp
  rw [if_neg h1]
  by_cases h2 : K = 2
  · rw [if_pos h2]; simp
  rw [if_neg h2]
  by_cases h3 : K = 3
  · rw [if_pos h3]; simp
  rw [if_neg h3]
  by_cases h4 : K = 4
  · rw [if_pos h4]; simp
  rw [if_neg h4]
  by_cases h5 : K = 5
  · rw [if_pos h5]; simp
  rw [if_neg h5]
  by_cases h6 : K = 6
  · rw [if_pos h6]; simp
  rw [if_neg h6]
  by_cases h7 : K = 7
  · rw [if_pos h7]; simp
  rw [if_neg h7, if_pos (by omega)]; simp
theorem toks_ne {d : Nat} {t : Ty (d + 1)} (h : shapedB d t = true) : tyToks (d + 1) false t ≠ [] := toks_ne' h false rfl
theorem tS_text (s : Bs) : tokText (tS s) = s := by rw [tokText_own (show (6 : Int) ≠ 4 by decide) (show (6 : Int) ≠ 5 by decide)]; rfl
theorem tW_text (s : Bs) : tokText (tW s) = s := by rw [tokText_own (show (3 : Int) ≠ 4 by decide) (show (3 : Int) ≠ 5 by decide)]; rfl
theorem tN_text (s : Bs) : tokText (tN s) = s := by rw [tokText_own (show (1 : Int) ≠ 4 by decide) (show (1 : Int) ≠ 5 by decide)]; rfl
end Go.Proofs.YtmpbbmfbgcpplaaGreatDoor
