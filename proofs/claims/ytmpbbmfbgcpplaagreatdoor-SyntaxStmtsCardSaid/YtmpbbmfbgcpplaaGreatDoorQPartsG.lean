import Derived.Test.YtmpbbmfbgcpplaaGreatDoorQKeepG
import Derived.Test.YtmpbbmfbgcpplaaGreatDoorQSynE
import Derived.Test.YtmpbbmfbgcpplaaGreatDoorQLaws6
namespace Go.Proofs.YtmpbbmfbgcpplaaGreatDoor
open Go Go.RowKit Lx
theorem zfu (t : Tok) (r : List Tok) : zfd (t :: r) = 32 :: (za5 t ++ zfd r) := by simp [zfd]
theorem spaced_append (a b : List Tok) : zfd (a ++ b) = zfd a ++ zfd b := by simp [zfd]
def fl (l : List Tok) : Nat := (zfd l).length
theorem ze0 (a b : List Tok) : fl (a ++ b) = fl a + fl b := by rw [fl, spaced_append, List.length_append]; rfl
theorem zco (t : Tok) (r : List Tok) : fl (t :: r) = 1 + (za5 t).length + fl r := by rw [fl, zfu]; simp [fl]; omega
theorem zer : fl [] = 0 := rfl
theorem fl_flat (g : Nat → List Tok) : ∀ n, fl ((List.range n).flatMap g) = ((List.range n).map fun i => fl (g i)).sum
 | 0 => rfl
 | n + 1 => by
  have ih := fl_flat g n
  rw [List.range_succ, List.flatMap_append, ze0, ih, List.map_append, List.sum_append]
  simp
theorem ziu {α : Type} (ps : List α) (g : α → Nat) : ∀ n, ((List.range n).map fun i => (ps[i]?.map g).getD 0).sum = ((ps.take n).map g).sum
 | 0 => by simp
 | n + 1 => by
  rw [List.range_succ, List.map_append, List.sum_append, ziu ps g n, List.take_add_one, List.map_append, List.sum_append]
  rcases h : ps[n]? with _ | x <;> simp [h]
theorem take_sum (l : List Nat) (n : Nat) : (l.take n).sum ≤ l.sum := by
 have : l.sum = (l.take n).sum + (l.drop n).sum := by rw [← List.sum_append, List.take_append_drop]
 omega
theorem zgu {α : Type} (ps : List α) (g : α → Nat) (n : Nat) : ((List.range n).map fun i => (ps[i]?.map g).getD 0).sum ≤ (ps.map g).sum := by
 rw [ziu, List.map_take]
 exact take_sum _ _
theorem zfw {n : Nat} {f g : Nat → Nat} (h : ∀ i, i < n → f i ≤ g i) : ((List.range n).map f).sum ≤ ((List.range n).map g).sum := by
 induction n with
 | zero => simp
 | succ n ih =>
  have h1 := ih (fun i hi => h i (by omega))
  have h2 := h n (by omega)
  rw [List.range_succ, List.map_append, List.sum_append, List.map_append, List.sum_append]
  simp only [List.map_cons, List.map_nil, List.sum_cons, List.sum_nil]
  omega
theorem sum_add (n : Nat) (f g : Nat → Nat) : ((List.range n).map fun i => f i + g i).sum = ((List.range n).map f).sum + ((List.range n).map g).sum := by
 induction n with
 | zero => simp
 | succ n ih =>
  rw [List.range_succ, List.map_append, List.sum_append, List.map_append, List.sum_append, List.map_append, List.sum_append, ih]
  simp only [List.map_cons, List.map_nil, List.sum_cons, List.sum_nil]
  omega
theorem zhr (n c : Nat) : ((List.range n).map fun _ => c).sum = n * c := by
 induction n with
 | zero => simp
 | succ n ih =>
  rw [List.range_succ, List.map_append, List.sum_append, ih, Nat.succ_mul]
  simp
theorem zjj (ns : List Bs) (n : Nat) : ((List.range n).map fun i => (ns.getD i []).length).sum ≤ zgs ns := by
 have := zgu ns List.length n
 refine Nat.le_trans (zfw fun i _ => ?_) this
 rw [List.getD_eq_getElem?_getD]
 rcases ns[i]? with _ | x <;> simp
theorem txt_s (s : Bs) : (za5 (tS s)).length = s.length := by rw [zay (show (6 : Int) ≠ 4 by decide) (show (6 : Int) ≠ 5 by decide)]; rfl
theorem txt_w (s : Bs) : (za5 (tW s)).length = s.length := by rw [zay (show (3 : Int) ≠ 4 by decide) (show (3 : Int) ≠ 5 by decide)]; rfl
theorem txt_n (s : Bs) : (za5 (tN s)).length = s.length := by rw [zay (show (1 : Int) ≠ 4 by decide) (show (1 : Int) ≠ 5 by decide)]; rfl
theorem txt_t (s : Bs) : (za5 (tT s)).length = s.length := by rw [zay (show (2 : Int) ≠ 4 by decide) (show (2 : Int) ≠ 5 by decide)]; rfl
theorem toks_len : ∀ (d : Nat) (sg : Bool) (t : Ty d), fl (zac d sg t) + 2 ≤ 20 * szD d t
 | 0, _, t => nomatch t
 | d + 1, sg, t => by
  obtain ⟨K, S, ns, es, ps⟩ := t
  have hsz : szD (d + 1) (K, S, ns, es, ps) = 1 + S.length + ns.length + es.length + zgs ns + (ps.map (szD d)).sum := rfl
  rw [hsz]
  have hpart : ∀ (i : Nat) (s : Bool), fl ((ps[i]?.map (zac d s)).getD []) + (ps[i]?.map fun _ => 2).getD 0 ≤ (ps[i]?.map fun u => 20 * szD d u).getD 0 := fun i s => by
   rcases h : ps[i]? with _ | u
   ·simp [zer]
   ·simpa using toks_len d s u
  have hsum : ∀ n, ((List.range n).map fun i => (ps[i]?.map fun u => 20 * szD d u).getD 0).sum ≤ 20 * (ps.map (szD d)).sum := fun n => by
   refine Nat.le_trans (zgu ps (fun u => 20 * szD d u) n) ?_
   clear hsz hpart
   induction ps with
   | nil => simp
   | cons x r ih => simp only [List.map_cons, List.sum_cons]; omega
  have hsig : fl (tS [40] :: ((List.range (ps.length - 1)).flatMap fun i => (if 0 < i then [tS [44]] else []) ++ (ps[i]?.map (zac d false)).getD []) ++ tS [41] :: (ps[ps.length - 1]?.map (zac d false)).getD []) ≤ 4 + 20 * (ps.map (szD d)).sum := by
   rw [List.cons_append, zco, ze0, zco, fl_flat, txt_s, txt_s]
   rcases Nat.eq_zero_or_pos ps.length with h0 | h0
   ·have : ps = [] := List.eq_nil_of_length_eq_zero h0
    subst this
    simp [zer]
   ·have h1 : ((List.range (ps.length - 1)).map fun i => fl ((if 0 < i then [tS [44]] else []) ++ (ps[i]?.map (zac d false)).getD [])).sum ≤ ((List.range (ps.length - 1)).map fun i => (ps[i]?.map fun u => 20 * szD d u).getD 0).sum := zfw fun i hi => by
     have h2 := hpart i false
     have h3 : ps[i]? = some ps[i] := by simp
     rw [h3] at h2 ⊢
     simp only [Option.map_some, Option.getD_some] at h2 ⊢
     rw [ze0]
     split
     ·rw [zco, zer, txt_s]; simp; omega
     ·rw [zer]; omega
    have h4 := hpart (ps.length - 1) false
    have h5 := hsum (ps.length - 1 + 1)
    rw [List.range_succ, List.map_append, List.sum_append] at h5
    simp only [List.map_cons, List.map_nil, List.sum_cons, List.sum_nil] at h5
    simp only [List.length_cons, List.length_nil]
    omega
  show fl (if sg = true then _ else if K = 1 then _ else if K = 2 then _ else if K = 3 then _ else if K = 4 then _ else if K = 5 then _ else if K = 6 then _ else if K = 7 then _ else if K = 8 then _ else []) + 2 ≤ _
  by_cases hc0 : sg = true
  ·rw [if_pos hc0]
   have := hsig; dsimp only at this ⊢; omega
  rw [if_neg hc0]
  by_cases hc1 : K = 1
  ·rw [if_pos hc1]
   rw [zco, zer, txt_w]; simp only [List.length_cons, List.length_nil]; omega
  rw [if_neg hc1]
  by_cases hc2 : K = 2
  ·rw [if_pos hc2]
   rw [zco, zer, txt_w]; simp only [List.length_cons, List.length_nil]; omega
  rw [if_neg hc2]
  by_cases hc3 : K = 3
  ·rw [if_pos hc3]
   rw [zco, zer, txt_w]; simp only [List.length_cons, List.length_nil]; omega
  rw [if_neg hc3]
  by_cases hc4 : K = 4
  ·rw [if_pos hc4]
   rw [zco, zer, txt_t]; dsimp only; omega
  rw [if_neg hc4]
  by_cases hc5 : K = 5
  ·rw [if_pos hc5]
   have h1 := hpart 0 false
   have h2 := hsum 1
   simp only [List.range_one, List.map_cons, List.map_nil, List.sum_cons, List.sum_nil] at h2
   rw [zco, txt_s]
   simp only [List.length_cons, List.length_nil]
   omega
  rw [if_neg hc5]
  by_cases hc6 : K = 6
  ·rw [if_pos hc6]
   rw [List.cons_append, zco, ze0, fl_flat, zco, zer, txt_s, txt_s]
   have h1 : ((List.range ns.length).map fun i => fl ((if es.getD i false = true then [tW [101, 109, 98, 101, 100]] else []) ++ tN (ns.getD i []) :: (ps[i]?.map (zac d false)).getD [] ++ [tS [59]])).sum ≤ ((List.range ns.length).map fun i => 9 + ((ns.getD i []).length + (ps[i]?.map fun u => 20 * szD d u).getD 0)).sum := zfw fun i hi => by
    have h2 := hpart i false
    rw [ze0, ze0, zco, zco, zer, txt_n, txt_s]
    split
    ·rw [zco, zer, txt_w]; simp only [List.length_cons, List.length_nil]; omega
    ·rw [zer]; simp only [List.length_cons, List.length_nil]; omega
   rw [sum_add, sum_add, zhr] at h1
   have h3 := zjj ns ns.length
   have h4 := hsum ns.length
   simp only [List.length_cons, List.length_nil]
   omega
  rw [if_neg hc6]
  by_cases hc7 : K = 7
  ·rw [if_pos hc7]
   rw [zco, txt_w]
   have := hsig
   simp only [List.length_cons, List.length_nil]
   omega
  rw [if_neg hc7]
  by_cases hc8 : K = 8
  ·rw [if_pos hc8]
   rw [List.cons_append, List.cons_append, zco, zco, ze0, fl_flat, zco, zer, txt_s, txt_s, txt_w]
   have h1 : ((List.range ns.length).map fun i => fl (tN (ns.getD i []) :: (ps[i]?.map (zac d true)).getD [] ++ [tS [59]])).sum ≤ ((List.range ns.length).map fun i => 9 + ((ns.getD i []).length + (ps[i]?.map fun u => 20 * szD d u).getD 0)).sum := zfw fun i hi => by
    have h2 := hpart i true
    rw [ze0, zco, zco, zer, txt_n, txt_s]
    simp only [List.length_cons, List.length_nil]; omega
   rw [sum_add, sum_add, zhr] at h1
   have h3 := zjj ns ns.length
   have h4 := hsum ns.length
   simp only [List.length_cons, List.length_nil]
   omega
  rw [if_neg hc8]
  rw [zer]; omega
def cn (l : List Tok) : Nat := l.length
theorem zan (a b : List Tok) : cn (a ++ b) = cn a + cn b := List.length_append
theorem zag (t : Tok) (r : List Tok) : cn (t :: r) = 1 + cn r := by rw [cn, List.length_cons, cn]; omega
theorem zb8 : cn [] = 0 := rfl
theorem zj2 (g : Nat → List Tok) : ∀ n, cn ((List.range n).flatMap g) = ((List.range n).map fun i => cn (g i)).sum
 | 0 => rfl
 | n + 1 => by
  have ih := zj2 g n
  rw [List.range_succ, List.flatMap_append, zan, ih, List.map_append, List.sum_append]
  simp
theorem zi8 : ∀ (d : Nat) (sg : Bool) (t : Ty d), cn (zac d sg t) + 1 ≤ 4 * szD d t
 | 0, _, t => nomatch t
 | d + 1, sg, t => by
  obtain ⟨K, S, ns, es, ps⟩ := t
  have hsz : szD (d + 1) (K, S, ns, es, ps) = 1 + S.length + ns.length + es.length + zgs ns + (ps.map (szD d)).sum := rfl
  rw [hsz]
  have hpart : ∀ (i : Nat) (s : Bool), cn ((ps[i]?.map (zac d s)).getD []) + (ps[i]?.map fun _ => 1).getD 0 ≤ (ps[i]?.map fun u => 4 * szD d u).getD 0 := fun i s => by
   rcases h : ps[i]? with _ | u
   ·simp [zb8]
   ·simpa using zi8 d s u
  have hsum : ∀ n, ((List.range n).map fun i => (ps[i]?.map fun u => 4 * szD d u).getD 0).sum ≤ 4 * (ps.map (szD d)).sum := fun n => by
   refine Nat.le_trans (zgu ps (fun u => 4 * szD d u) n) ?_
   clear hsz hpart
   induction ps with
   | nil => simp
   | cons x r ih => simp only [List.map_cons, List.sum_cons]; omega
  have hsig : cn (tS [40] :: ((List.range (ps.length - 1)).flatMap fun i => (if 0 < i then [tS [44]] else []) ++ (ps[i]?.map (zac d false)).getD []) ++ tS [41] :: (ps[ps.length - 1]?.map (zac d false)).getD []) ≤ 2 + 4 * (ps.map (szD d)).sum := by
   rw [List.cons_append, zag, zan, zag, zj2]
   rcases Nat.eq_zero_or_pos ps.length with h0 | h0
   ·have : ps = [] := List.eq_nil_of_length_eq_zero h0
    subst this
    simp [zb8]
   ·have h1 : ((List.range (ps.length - 1)).map fun i => cn ((if 0 < i then [tS [44]] else []) ++ (ps[i]?.map (zac d false)).getD [])).sum ≤ ((List.range (ps.length - 1)).map fun i => (ps[i]?.map fun u => 4 * szD d u).getD 0).sum := zfw fun i hi => by
     have h2 := hpart i false
     have h3 : ps[i]? = some ps[i] := by simp
     rw [h3] at h2 ⊢
     simp only [Option.map_some, Option.getD_some] at h2 ⊢
     rw [zan]
     split
     ·rw [zag, zb8]; omega
     ·rw [zb8]; omega
    have h4 := hpart (ps.length - 1) false
    have h5 := hsum (ps.length - 1 + 1)
    rw [List.range_succ, List.map_append, List.sum_append] at h5
    simp only [List.map_cons, List.map_nil, List.sum_cons, List.sum_nil] at h5
    omega
  show cn (if sg = true then _ else if K = 1 then _ else if K = 2 then _ else if K = 3 then _ else if K = 4 then _ else if K = 5 then _ else if K = 6 then _ else if K = 7 then _ else if K = 8 then _ else []) + 1 ≤ _
  by_cases hc0 : sg = true
  ·rw [if_pos hc0]
   have := hsig; dsimp only at this ⊢; omega
  rw [if_neg hc0]
  by_cases hc1 : K = 1
  ·rw [if_pos hc1]
   rw [zag, zb8]; omega
  rw [if_neg hc1]
  by_cases hc2 : K = 2
  ·rw [if_pos hc2]
   rw [zag, zb8]; omega
  rw [if_neg hc2]
  by_cases hc3 : K = 3
  ·rw [if_pos hc3]
   rw [zag, zb8]; omega
  rw [if_neg hc3]
  by_cases hc4 : K = 4
  ·rw [if_pos hc4]
   rw [zag, zb8]; omega
  rw [if_neg hc4]
  by_cases hc5 : K = 5
  ·rw [if_pos hc5]
   have h1 := hpart 0 false
   have h2 := hsum 1
   simp only [List.range_one, List.map_cons, List.map_nil, List.sum_cons, List.sum_nil] at h2
   rw [zag]
   dsimp only
   omega
  rw [if_neg hc5]
  by_cases hc6 : K = 6
  ·rw [if_pos hc6]
   rw [List.cons_append, zag, zan, zj2, zag, zb8]
   have h1 : ((List.range ns.length).map fun i => cn ((if es.getD i false = true then [tW [101, 109, 98, 101, 100]] else []) ++ tN (ns.getD i []) :: (ps[i]?.map (zac d false)).getD [] ++ [tS [59]])).sum ≤ ((List.range ns.length).map fun i => 3 + ((ns.getD i []).length + (ps[i]?.map fun u => 4 * szD d u).getD 0)).sum := zfw fun i hi => by
    have h2 := hpart i false
    rw [zan, zan, zag, zag, zb8]
    split
    ·rw [zag, zb8]; omega
    ·rw [zb8]; omega
   rw [sum_add, sum_add, zhr] at h1
   have h3 := zjj ns ns.length
   have h4 := hsum ns.length
   dsimp only
   omega
  rw [if_neg hc6]
  by_cases hc7 : K = 7
  ·rw [if_pos hc7]
   rw [zag]
   have := hsig
   dsimp only
   omega
  rw [if_neg hc7]
  by_cases hc8 : K = 8
  ·rw [if_pos hc8]
   rw [List.cons_append, List.cons_append, zag, zag, zan, zj2, zag, zb8]
   have h1 : ((List.range ns.length).map fun i => cn (tN (ns.getD i []) :: (ps[i]?.map (zac d true)).getD [] ++ [tS [59]])).sum ≤ ((List.range ns.length).map fun i => 3 + ((ns.getD i []).length + (ps[i]?.map fun u => 4 * szD d u).getD 0)).sum := zfw fun i hi => by
    have h2 := hpart i true
    rw [zan, zag, zag, zb8]
    omega
   rw [sum_add, sum_add, zhr] at h1
   have h3 := zjj ns ns.length
   have h4 := hsum ns.length
   dsimp only
   omega
  rw [if_neg hc8]
  rw [zb8]; omega
theorem zld {d : Nat} {t : Ty (d + 1)} (h : zcc d t = true) : t.1 = 1 ∨ t.1 = 2 ∨ t.1 = 3 ∨ t.1 = 4 ∨ t.1 = 5 ∨ t.1 = 6 ∨ t.1 = 7 ∨ t.1 = 8 := by
 apply Decidable.byContradiction
 intro hk
 rw [zcc, zaw] at h
 by_cases h0 : t.1 ≠ 4 ∧ t.2.1.isEmpty = false
 ·rw [if_pos h0] at h; cases h
 ·rw [if_neg h0, if_neg (by omega), if_neg (by omega), if_neg (by omega), if_neg (by omega), if_neg (by omega), if_neg (by omega)] at h
  cases h
theorem toks_ne' {d : Nat} {t : Ty (d + 1)} (h : zcc d t = true) (sg : Bool) (hsg : sg = false) : zac (d + 1) sg t ≠ [] := by
 have hk := zld h
 obtain ⟨K, S, ns, es, ps⟩ := t
 show (if sg = true then _ else if K = 1 then _ else if K = 2 then _ else if K = 3 then _ else if K = 4 then _ else if K = 5 then _ else if K = 6 then _ else if K = 7 then _ else if K = 8 then _ else []) ≠ []
 dsimp only at hk
 rw [if_neg (by rw [hsg]; simp)]
 by_cases h1 : K = 1
 ·rw [if_pos h1]; simp
 rw [if_neg h1]
 by_cases h2 : K = 2
 ·rw [if_pos h2]; simp
 rw [if_neg h2]
 by_cases h3 : K = 3
 ·rw [if_pos h3]; simp
 rw [if_neg h3]
 by_cases h4 : K = 4
 ·rw [if_pos h4]; simp
 rw [if_neg h4]
 by_cases h5 : K = 5
 ·rw [if_pos h5]; simp
 rw [if_neg h5]
 by_cases h6 : K = 6
 ·rw [if_pos h6]; simp
 rw [if_neg h6]
 by_cases h7 : K = 7
 ·rw [if_pos h7]; simp
 rw [if_neg h7, if_pos (by omega)]; simp
theorem toks_ne {d : Nat} {t : Ty (d + 1)} (h : zcc d t = true) : zac (d + 1) false t ≠ [] := toks_ne' h false rfl
theorem zb7 (s : Bs) : za5 (tS s) = s := by rw [zay (show (6 : Int) ≠ 4 by decide) (show (6 : Int) ≠ 5 by decide)]; rfl
theorem zcb (s : Bs) : za5 (tW s) = s := by rw [zay (show (3 : Int) ≠ 4 by decide) (show (3 : Int) ≠ 5 by decide)]; rfl
theorem zfr (s : Bs) : za5 (tN s) = s := by rw [zay (show (1 : Int) ≠ 4 by decide) (show (1 : Int) ≠ 5 by decide)]; rfl
end Go.Proofs.YtmpbbmfbgcpplaaGreatDoor
