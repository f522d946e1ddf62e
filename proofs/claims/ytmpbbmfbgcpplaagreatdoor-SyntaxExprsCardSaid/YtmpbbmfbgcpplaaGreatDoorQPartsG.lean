/-
  Texts of types that are put together of others: plain laws on tokens. No world.
-/
import Derived.Test.YtmpbbmfbgcpplaaGreatDoorQKeepG
import Derived.Test.YtmpbbmfbgcpplaaGreatDoorQSynE
import Derived.Test.YtmpbbmfbgcpplaaGreatDoorQLaws6
namespace Go.Proofs.YtmpbbmfbgcpplaaGreatDoor
open Go Go.RowKit Lx

/-- tokens with one blank between each two. -/
def jtext : List Tok → Bs
  | [] => []
  | t :: r => tokText t ++ spaced r
theorem spaced_cons (t : Tok) (r : List Tok) : spaced (t :: r) = 32 :: (tokText t ++ spaced r) := by simp [spaced]
theorem spaced_append (a b : List Tok) : spaced (a ++ b) = spaced a ++ spaced b := by simp [spaced]
theorem spaced_ne {a : List Tok} (h : a ≠ []) : spaced a = 32 :: jtext a := by
  cases a with
  | nil => exact absurd rfl h
  | cons t r => rw [spaced_cons, jtext]
theorem joinW_to : ∀ (ts : List Tok) (i : Nat) (acc : Bs), 0 < i → ts.all sound = true → acc.length + (spaced ts).length ≤ 65536 → joinW ts i acc = some (acc ++ spaced ts)
  | [], i, acc, _, _, _ => by simp [joinW, spaced]
  | t :: r, i, acc, hi, hs, hl => by
    rw [List.all_cons, Bool.and_eq_true] at hs
    have h1 := own_le hs.1
    rw [spaced_cons] at hl
    simp only [List.length_cons, List.length_append] at hl
    rw [joinW, if_pos hi, if_neg (by simp; omega), if_neg (by simp; omega), joinW_to r (i + 1) _ (by omega) hs.2 (by simp; omega), spaced_cons]
    simp
/-- sound tokens that are few and short are joined. -/
theorem join_to {ts : List Tok} (hs : ts.all sound = true) (hn : ts.length ≤ 4096) (hl : (spaced ts).length ≤ 65536) : join ts = .inr (jtext ts) := by
  have hw : joinW ts 0 [] = some (jtext ts) := by
    cases ts with
    | nil => rfl
    | cons t r =>
      rw [List.all_cons, Bool.and_eq_true] at hs
      have h1 := own_le hs.1
      rw [spaced_cons] at hl
      simp only [List.length_cons, List.length_append] at hl
      simp only [joinW, Nat.lt_irrefl, if_false, List.append_nil, List.length_nil, List.nil_append, Nat.zero_add]
      rw [if_neg (by omega), if_neg (by omega), joinW_to r 1 _ (by omega) hs.2 (by omega), jtext]
  rw [join, if_neg (by rw [hs]; simp), hw]
  simp only
  rw [if_neg (by omega)]
theorem join_of {ts : List Tok} {l : Bs} (h : join ts = .inr l) : ts.all sound = true ∧ l = jtext ts := by
  obtain ⟨h1, _, _, h4⟩ := join_is h
  refine ⟨h1, ?_⟩
  cases ts with
  | nil => exact h4
  | cons t r => exact h4
/-- where another room is as great as the type is deep, it is right there, too. -/
theorem right_room : ∀ (d : Nat) (ts : List (Ty d)) (r r' : Int), rightsB d r ts = true → (deep d ts : Int) ≤ r' → rightsB d r' ts = true
  | 0, _, _, _, _, _ => rfl
  | d + 1, ts, r, r', h, hd => by
    rw [rightsB, List.all_eq_true] at h ⊢
    intro t ht
    have h1 := h t ht
    simp only [Bool.and_eq_true, decide_eq_true_eq] at h1 ⊢
    have h2 : 1 + deep d t.2.2.2.2 ≤ deep (d + 1) ts := by
      clear h h1 hd
      induction ts with
      | nil => simp at ht
      | cons u s ih =>
        rw [deep]
        rcases List.mem_cons.1 ht with rfl | ht
        · omega
        · have := ih ht
          omega
    exact ⟨⟨by omega, h1.1.2⟩, right_room d _ _ _ h1.2 (by omega)⟩
end Go.Proofs.YtmpbbmfbgcpplaaGreatDoor
/-
  How long a type's text is: plain laws. No world.
-/
namespace Go.Proofs.YtmpbbmfbgcpplaaGreatDoor
open Go Go.RowKit Lx

/-- how many bytes tokens take, a blank ahead of each. -/
def fl (l : List Tok) : Nat := (spaced l).length
theorem fl_append (a b : List Tok) : fl (a ++ b) = fl a + fl b := by rw [fl, spaced_append, List.length_append]; rfl
theorem fl_cons (t : Tok) (r : List Tok) : fl (t :: r) = 1 + (tokText t).length + fl r := by rw [fl, spaced_cons]; simp [fl]; omega
theorem fl_nil : fl [] = 0 := rfl
theorem len_fl : ∀ l : List Tok, l.length ≤ fl l
  | [] => Nat.le_refl _
  | t :: r => by
    have := len_fl r
    rw [fl_cons, List.length_cons]; omega
theorem fl_flat (g : Nat → List Tok) : ∀ n, fl ((List.range n).flatMap g) = ((List.range n).map fun i => fl (g i)).sum
  | 0 => rfl
  | n + 1 => by
    have ih := fl_flat g n
    rw [List.range_succ, List.flatMap_append, fl_append, ih, List.map_append, List.sum_append]
    simp
theorem range_part {α : Type} (ps : List α) (g : α → Nat) : ∀ n, ((List.range n).map fun i => (ps[i]?.map g).getD 0).sum = ((ps.take n).map g).sum
  | 0 => by simp
  | n + 1 => by
    rw [List.range_succ, List.map_append, List.sum_append, range_part ps g n, List.take_add_one, List.map_append, List.sum_append]
    rcases h : ps[n]? with _ | x <;> simp [h]
theorem take_sum (l : List Nat) (n : Nat) : (l.take n).sum ≤ l.sum := by
  have : l.sum = (l.take n).sum + (l.drop n).sum := by rw [← List.sum_append, List.take_append_drop]
  omega
theorem part_sum {α : Type} (ps : List α) (g : α → Nat) (n : Nat) : ((List.range n).map fun i => (ps[i]?.map g).getD 0).sum ≤ (ps.map g).sum := by
  rw [range_part, List.map_take]
  exact take_sum _ _
theorem sum_le {n : Nat} {f g : Nat → Nat} (h : ∀ i, i < n → f i ≤ g i) : ((List.range n).map f).sum ≤ ((List.range n).map g).sum := by
  induction n with
  | zero => simp
  | succ n ih =>
    have h1 := ih (fun i hi => h i (by omega))
    have h2 := h n (by omega)
    rw [List.range_succ, List.map_append, List.sum_append, List.map_append, List.sum_append]
    simp only [List.map_cons, List.map_nil, List.sum_cons, List.sum_nil]
    omega
theorem sum_add (n : Nat) (f g : Nat → Nat) : ((List.range n).map fun i => f i + g i).sum = ((List.range n).map f).sum + ((List.range n).map g).sum := by
  induction n with
  | zero => simp
  | succ n ih =>
    rw [List.range_succ, List.map_append, List.sum_append, List.map_append, List.sum_append, List.map_append, List.sum_append, ih]
    simp only [List.map_cons, List.map_nil, List.sum_cons, List.sum_nil]
    omega
theorem sum_const (n c : Nat) : ((List.range n).map fun _ => c).sum = n * c := by
  induction n with
  | zero => simp
  | succ n ih =>
    rw [List.range_succ, List.map_append, List.sum_append, ih, Nat.succ_mul]
    simp
theorem getD_sum (ns : List Bs) (n : Nat) : ((List.range n).map fun i => (ns.getD i []).length).sum ≤ sumL ns := by
  have := part_sum ns List.length n
  refine Nat.le_trans (sum_le fun i _ => ?_) this
  rw [List.getD_eq_getElem?_getD]
  rcases ns[i]? with _ | x <;> simp
theorem txt_s (s : Bs) : (tokText (tS s)).length = s.length := by rw [tokText_own (show (6 : Int) ≠ 4 by decide) (show (6 : Int) ≠ 5 by decide)]; rfl
theorem txt_w (s : Bs) : (tokText (tW s)).length = s.length := by rw [tokText_own (show (3 : Int) ≠ 4 by decide) (show (3 : Int) ≠ 5 by decide)]; rfl
theorem txt_n (s : Bs) : (tokText (tN s)).length = s.length := by rw [tokText_own (show (1 : Int) ≠ 4 by decide) (show (1 : Int) ≠ 5 by decide)]; rfl
theorem txt_t (s : Bs) : (tokText (tT s)).length = s.length := by rw [tokText_own (show (2 : Int) ≠ 4 by decide) (show (2 : Int) ≠ 5 by decide)]; rfl
/-- a type's text takes no more than twenty bytes for each part and byte of it. -/
theorem toks_len : ∀ (d : Nat) (sg : Bool) (t : Ty d), fl (tyToks d sg t) + 2 ≤ 20 * szD d t
  | 0, _, t => nomatch t
  | d + 1, sg, t => by
    obtain ⟨K, S, ns, es, ps⟩ := t
    have hsz : szD (d + 1) (K, S, ns, es, ps) = 1 + S.length + ns.length + es.length + sumL ns + (ps.map (szD d)).sum := rfl
    rw [hsz]
    have hpart : ∀ (i : Nat) (s : Bool), fl ((ps[i]?.map (tyToks d s)).getD []) + (ps[i]?.map fun _ => 2).getD 0 ≤ (ps[i]?.map fun u => 20 * szD d u).getD 0 := fun i s => by
      rcases h : ps[i]? with _ | u
      · simp [fl_nil]
      · simpa using toks_len d s u
    have hsum : ∀ n, ((List.range n).map fun i => (ps[i]?.map fun u => 20 * szD d u).getD 0).sum ≤ 20 * (ps.map (szD d)).sum := fun n => by
      refine Nat.le_trans (part_sum ps (fun u => 20 * szD d u) n) ?_
      clear hsz hpart
      induction ps with
      | nil => simp
      | cons x r ih => simp only [List.map_cons, List.sum_cons]; omega
    have hsig : fl (tS [40] :: ((List.range (ps.length - 1)).flatMap fun i => (if 0 < i then [tS [44]] else []) ++ (ps[i]?.map (tyToks d false)).getD []) ++ tS [41] :: (ps[ps.length - 1]?.map (tyToks d false)).getD []) ≤ 4 + 20 * (ps.map (szD d)).sum := by
      rw [List.cons_append, fl_cons, fl_append, fl_cons, fl_flat, txt_s, txt_s]
      rcases Nat.eq_zero_or_pos ps.length with h0 | h0
      · have : ps = [] := List.eq_nil_of_length_eq_zero h0
        subst this
        simp [fl_nil]
      · have h1 : ((List.range (ps.length - 1)).map fun i => fl ((if 0 < i then [tS [44]] else []) ++ (ps[i]?.map (tyToks d false)).getD [])).sum ≤ ((List.range (ps.length - 1)).map fun i => (ps[i]?.map fun u => 20 * szD d u).getD 0).sum := sum_le fun i hi => by
          have h2 := hpart i false
          have h3 : ps[i]? = some ps[i] := by simp
          rw [h3] at h2 ⊢
          simp only [Option.map_some, Option.getD_some] at h2 ⊢
          rw [fl_append]
          split
          · rw [fl_cons, fl_nil, txt_s]; simp; omega
          · rw [fl_nil]; omega
        have h4 := hpart (ps.length - 1) false
        have h5 := hsum (ps.length - 1 + 1)
        rw [List.range_succ, List.map_append, List.sum_append] at h5
        simp only [List.map_cons, List.map_nil, List.sum_cons, List.sum_nil] at h5
        simp only [List.length_cons, List.length_nil]
        omega
    show fl (if sg = true then _ else if K = 1 then _ else if K = 2 then _ else if K = 3 then _ else if K = 4 then _ else if K = 5 then _ else if K = 6 then _ else if K = 7 then _ else if K = 8 then _ else []) + 2 ≤ _
    by_cases hc0 : sg = true
    · rw [if_pos hc0]
      have := hsig; dsimp only at this ⊢; omega
    rw [if_neg hc0]
    by_cases hc1 : K = 1
    · rw [if_pos hc1]
      rw [fl_cons, fl_nil, txt_w]; simp only [List.length_cons, List.length_nil]; omega
    rw [if_neg hc1]
    by_cases hc2 : K = 2
    · rw [if_pos hc2]
      rw [fl_cons, fl_nil, txt_w]; simp only [List.length_cons, List.length_nil]; omega
    rw [if_neg hc2]
    by_cases hc3 : K = 3
    · rw [if_pos hc3]
      rw [fl_cons, fl_nil, txt_w]; simp only [List.length_cons, List.length_nil]; omega
    rw [if_neg hc3]
    by_cases hc4 : K = 4
    · rw [if_pos hc4]
      rw [fl_cons, fl_nil, txt_t]; dsimp only; omega
    rw [if_neg hc4]
    by_cases hc5 : K = 5
    · rw [if_pos hc5]
      have h1 := hpart 0 false
      have h2 := hsum 1
      simp only [List.range_one, List.map_cons, List.map_nil, List.sum_cons, List.sum_nil] at h2
      rw [fl_cons, txt_s]
      simp only [List.length_cons, List.length_nil]
      omega
    rw [if_neg hc5]
    by_cases hc6 : K = 6
    · rw [if_pos hc6]
      rw [List.cons_append, fl_cons, fl_append, fl_flat, fl_cons, fl_nil, txt_s, txt_s]
      have h1 : ((List.range ns.length).map fun i => fl ((if es.getD i false = true then [tW [101, 109, 98, 101, 100]] else []) ++ tN (ns.getD i []) :: (ps[i]?.map (tyToks d false)).getD [] ++ [tS [59]])).sum ≤ ((List.range ns.length).map fun i => 9 + ((ns.getD i []).length + (ps[i]?.map fun u => 20 * szD d u).getD 0)).sum := sum_le fun i hi => by
        have h2 := hpart i false
        rw [fl_append, fl_append, fl_cons, fl_cons, fl_nil, txt_n, txt_s]
        split
        · rw [fl_cons, fl_nil, txt_w]; simp only [List.length_cons, List.length_nil]; omega
        · rw [fl_nil]; simp only [List.length_cons, List.length_nil]; omega
      rw [sum_add, sum_add, sum_const] at h1
      have h3 := getD_sum ns ns.length
      have h4 := hsum ns.length
      simp only [List.length_cons, List.length_nil]
      omega
    rw [if_neg hc6]
    by_cases hc7 : K = 7
    · rw [if_pos hc7]
      rw [fl_cons, txt_w]
      have := hsig
      simp only [List.length_cons, List.length_nil]
      omega
    rw [if_neg hc7]
    by_cases hc8 : K = 8
    · rw [if_pos hc8]
      rw [List.cons_append, List.cons_append, fl_cons, fl_cons, fl_append, fl_flat, fl_cons, fl_nil, txt_s, txt_s, txt_w]
      have h1 : ((List.range ns.length).map fun i => fl (tN (ns.getD i []) :: (ps[i]?.map (tyToks d true)).getD [] ++ [tS [59]])).sum ≤ ((List.range ns.length).map fun i => 9 + ((ns.getD i []).length + (ps[i]?.map fun u => 20 * szD d u).getD 0)).sum := sum_le fun i hi => by
        have h2 := hpart i true
        rw [fl_append, fl_cons, fl_cons, fl_nil, txt_n, txt_s]
        simp only [List.length_cons, List.length_nil]; omega
      rw [sum_add, sum_add, sum_const] at h1
      have h3 := getD_sum ns ns.length
      have h4 := hsum ns.length
      simp only [List.length_cons, List.length_nil]
      omega
    rw [if_neg hc8]
    rw [fl_nil]; omega
end Go.Proofs.YtmpbbmfbgcpplaaGreatDoor
/-
  How many tokens a type has: plain laws. No world.
-/
namespace Go.Proofs.YtmpbbmfbgcpplaaGreatDoor
open Go Go.RowKit Lx

def cn (l : List Tok) : Nat := l.length
theorem cn_append (a b : List Tok) : cn (a ++ b) = cn a + cn b := List.length_append
theorem cn_cons (t : Tok) (r : List Tok) : cn (t :: r) = 1 + cn r := by rw [cn, List.length_cons, cn]; omega
theorem cn_nil : cn [] = 0 := rfl
theorem cn_flat (g : Nat → List Tok) : ∀ n, cn ((List.range n).flatMap g) = ((List.range n).map fun i => cn (g i)).sum
  | 0 => rfl
  | n + 1 => by
    have ih := cn_flat g n
    rw [List.range_succ, List.flatMap_append, cn_append, ih, List.map_append, List.sum_append]
    simp
/-- a type has no more than four tokens for each part and byte of it. -/
theorem toks_cnt : ∀ (d : Nat) (sg : Bool) (t : Ty d), cn (tyToks d sg t) + 1 ≤ 4 * szD d t
  | 0, _, t => nomatch t
  | d + 1, sg, t => by
    obtain ⟨K, S, ns, es, ps⟩ := t
    have hsz : szD (d + 1) (K, S, ns, es, ps) = 1 + S.length + ns.length + es.length + sumL ns + (ps.map (szD d)).sum := rfl
    rw [hsz]
    have hpart : ∀ (i : Nat) (s : Bool), cn ((ps[i]?.map (tyToks d s)).getD []) + (ps[i]?.map fun _ => 1).getD 0 ≤ (ps[i]?.map fun u => 4 * szD d u).getD 0 := fun i s => by
      rcases h : ps[i]? with _ | u
      · simp [cn_nil]
      · simpa using toks_cnt d s u
    have hsum : ∀ n, ((List.range n).map fun i => (ps[i]?.map fun u => 4 * szD d u).getD 0).sum ≤ 4 * (ps.map (szD d)).sum := fun n => by
      refine Nat.le_trans (part_sum ps (fun u => 4 * szD d u) n) ?_
      clear hsz hpart
      induction ps with
      | nil => simp
      | cons x r ih => simp only [List.map_cons, List.sum_cons]; omega
    have hsig : cn (tS [40] :: ((List.range (ps.length - 1)).flatMap fun i => (if 0 < i then [tS [44]] else []) ++ (ps[i]?.map (tyToks d false)).getD []) ++ tS [41] :: (ps[ps.length - 1]?.map (tyToks d false)).getD []) ≤ 2 + 4 * (ps.map (szD d)).sum := by
      rw [List.cons_append, cn_cons, cn_append, cn_cons, cn_flat]
      rcases Nat.eq_zero_or_pos ps.length with h0 | h0
      · have : ps = [] := List.eq_nil_of_length_eq_zero h0
        subst this
        simp [cn_nil]
      · have h1 : ((List.range (ps.length - 1)).map fun i => cn ((if 0 < i then [tS [44]] else []) ++ (ps[i]?.map (tyToks d false)).getD [])).sum ≤ ((List.range (ps.length - 1)).map fun i => (ps[i]?.map fun u => 4 * szD d u).getD 0).sum := sum_le fun i hi => by
          have h2 := hpart i false
          have h3 : ps[i]? = some ps[i] := by simp
          rw [h3] at h2 ⊢
          simp only [Option.map_some, Option.getD_some] at h2 ⊢
          rw [cn_append]
          split
          · rw [cn_cons, cn_nil]; omega
          · rw [cn_nil]; omega
        have h4 := hpart (ps.length - 1) false
        have h5 := hsum (ps.length - 1 + 1)
        rw [List.range_succ, List.map_append, List.sum_append] at h5
        simp only [List.map_cons, List.map_nil, List.sum_cons, List.sum_nil] at h5
        omega
    show cn (if sg = true then _ else if K = 1 then _ else if K = 2 then _ else if K = 3 then _ else if K = 4 then _ else if K = 5 then _ else if K = 6 then _ else if K = 7 then _ else if K = 8 then _ else []) + 1 ≤ _
    by_cases hc0 : sg = true
    · rw [if_pos hc0]
      have := hsig; dsimp only at this ⊢; omega
    rw [if_neg hc0]
    by_cases hc1 : K = 1
    · rw [if_pos hc1]
      rw [cn_cons, cn_nil]; omega
    rw [if_neg hc1]
    by_cases hc2 : K = 2
    · rw [if_pos hc2]
      rw [cn_cons, cn_nil]; omega
    rw [if_neg hc2]
    by_cases hc3 : K = 3
    · rw [if_pos hc3]
      rw [cn_cons, cn_nil]; omega
    rw [if_neg hc3]
    by_cases hc4 : K = 4
    · rw [if_pos hc4]
      rw [cn_cons, cn_nil]; omega
    rw [if_neg hc4]
    by_cases hc5 : K = 5
    · rw [if_pos hc5]
      have h1 := hpart 0 false
      have h2 := hsum 1
      simp only [List.range_one, List.map_cons, List.map_nil, List.sum_cons, List.sum_nil] at h2
      rw [cn_cons]
      dsimp only
      omega
    rw [if_neg hc5]
    by_cases hc6 : K = 6
    · rw [if_pos hc6]
      rw [List.cons_append, cn_cons, cn_append, cn_flat, cn_cons, cn_nil]
      have h1 : ((List.range ns.length).map fun i => cn ((if es.getD i false = true then [tW [101, 109, 98, 101, 100]] else []) ++ tN (ns.getD i []) :: (ps[i]?.map (tyToks d false)).getD [] ++ [tS [59]])).sum ≤ ((List.range ns.length).map fun i => 3 + ((ns.getD i []).length + (ps[i]?.map fun u => 4 * szD d u).getD 0)).sum := sum_le fun i hi => by
        have h2 := hpart i false
        rw [cn_append, cn_append, cn_cons, cn_cons, cn_nil]
        split
        · rw [cn_cons, cn_nil]; omega
        · rw [cn_nil]; omega
      rw [sum_add, sum_add, sum_const] at h1
      have h3 := getD_sum ns ns.length
      have h4 := hsum ns.length
      dsimp only
      omega
    rw [if_neg hc6]
    by_cases hc7 : K = 7
    · rw [if_pos hc7]
      rw [cn_cons]
      have := hsig
      dsimp only
      omega
    rw [if_neg hc7]
    by_cases hc8 : K = 8
    · rw [if_pos hc8]
      rw [List.cons_append, List.cons_append, cn_cons, cn_cons, cn_append, cn_flat, cn_cons, cn_nil]
      have h1 : ((List.range ns.length).map fun i => cn (tN (ns.getD i []) :: (ps[i]?.map (tyToks d true)).getD [] ++ [tS [59]])).sum ≤ ((List.range ns.length).map fun i => 3 + ((ns.getD i []).length + (ps[i]?.map fun u => 4 * szD d u).getD 0)).sum := sum_le fun i hi => by
        have h2 := hpart i true
        rw [cn_append, cn_cons, cn_cons, cn_nil]
        omega
      rw [sum_add, sum_add, sum_const] at h1
      have h3 := getD_sum ns ns.length
      have h4 := hsum ns.length
      dsimp only
      omega
    rw [if_neg hc8]
    rw [cn_nil]; omega
end Go.Proofs.YtmpbbmfbgcpplaaGreatDoor
/-
  The text of a pointer to, a function of, a record of and an interface of types whose texts are known: plain laws. No world.
-/
namespace Go.Proofs.YtmpbbmfbgcpplaaGreatDoor
open Go Go.RowKit Lx

theorem shaped_kind {d : Nat} {t : Ty (d + 1)} (h : shapedB d t = true) : t.1 = 1 ∨ t.1 = 2 ∨ t.1 = 3 ∨ t.1 = 4 ∨ t.1 = 5 ∨ t.1 = 6 ∨ t.1 = 7 ∨ t.1 = 8 := by
  apply Decidable.byContradiction
  intro hk
  rw [shapedB, shapeF] at h
  by_cases h0 : t.1 ≠ 4 ∧ t.2.1.isEmpty = false
  · rw [if_pos h0] at h; cases h
  · rw [if_neg h0, if_neg (by omega), if_neg (by omega), if_neg (by omega), if_neg (by omega), if_neg (by omega), if_neg (by omega)] at h
    cases h
theorem toks_ne' {d : Nat} {t : Ty (d + 1)} (h : shapedB d t = true) (sg : Bool) (hsg : sg = false) : tyToks (d + 1) sg t ≠ [] := by
  have hk := shaped_kind h
  obtain ⟨K, S, ns, es, ps⟩ := t
  show (if sg = true then _ else if K = 1 then _ else if K = 2 then _ else if K = 3 then _ else if K = 4 then _ else if K = 5 then _ else if K = 6 then _ else if K = 7 then _ else if K = 8 then _ else []) ≠ []
  dsimp only at hk
  rw [if_neg (by rw [hsg]; simp)]
  by_cases h1 : K = 1
  · rw [if_pos h1]; simp
  rw [if_neg h1]
  by_cases h2 : K = 2
  · rw [if_pos h2]; simp
  rw [if_neg h2]
  by_cases h3 : K = 3
  · rw [if_pos h3]; simp
  rw [if_neg h3]
  by_cases h4 : K = 4
  · rw [if_pos h4]; simp
  rw [if_neg h4]
  by_cases h5 : K = 5
  · rw [if_pos h5]; simp
  rw [if_neg h5]
  by_cases h6 : K = 6
  · rw [if_pos h6]; simp
  rw [if_neg h6]
  by_cases h7 : K = 7
  · rw [if_pos h7]; simp
  rw [if_neg h7, if_pos (by omega)]; simp
theorem toks_ne {d : Nat} {t : Ty (d + 1)} (h : shapedB d t = true) : tyToks (d + 1) false t ≠ [] := toks_ne' h false rfl
/-- what a type's text tells, if it isn't great. -/
theorem ans_of {d : Nat} {t : Ty (d + 1)} {s : Bs} (h : typeAns d t = .inr s) (hz : szD (d + 1) t ≤ 300) : rightB d 64 t = true ∧ (tyToks (d + 1) false t).all sound = true ∧ s = jtext (tyToks (d + 1) false t) ∧ tyToks (d + 1) false t ≠ [] ∧ fl (tyToks (d + 1) false t) ≤ 6000 ∧ cn (tyToks (d + 1) false t) ≤ 1199 := by
  have h1 := toks_len (d + 1) false t
  have h2 := toks_cnt (d + 1) false t
  unfold typeAns at h
  split at h
  · rename_i hr
    have h2' : (tyToks (d + 1) false t).length ≤ 1199 := by have : cn (tyToks (d + 1) false t) = (tyToks (d + 1) false t).length := rfl; omega
    rw [putAll_all _ [] (by simp; omega), List.nil_append] at h
    obtain ⟨h3, h4⟩ := join_of h
    have hsh : shapedB d t = true := by
      simp only [rightB, Bool.and_eq_true] at hr
      exact hr.1.2
    exact ⟨hr, h3, h4, toks_ne hsh, by omega, by omega⟩
  · cases h
theorem ans_to {d : Nat} {t : Ty (d + 1)} {X : List Tok} (hr : rightB d 64 t = true) (hx : tyToks (d + 1) false t = X) (hs : X.all sound = true) (hl : fl X ≤ 60000) (hn : cn X ≤ 4096) : typeAns d t = .inr (jtext X) := by
  have hn' : X.length ≤ 4096 := hn
  have hl' : (spaced X).length ≤ 60000 := hl
  rw [typeAns, if_pos hr, hx, putAll_all _ [] (by simp; omega), List.nil_append, join_to hs hn' (by omega)]
theorem right_of {d : Nat} {t : Ty (d + 1)} {r : Int} (h : rightB d 64 t = true) (hd : (deep (d + 1) [t] : Int) ≤ r) : rightB d r t = true := by
  have h1 : rightsB (d + 1) 64 [t] = true := by simpa [rightsB, rightB] using h
  have h2 := right_room (d + 1) [t] 64 r h1 hd
  simpa [rightsB, rightB] using h2
theorem tS_text (s : Bs) : tokText (tS s) = s := by rw [tokText_own (show (6 : Int) ≠ 4 by decide) (show (6 : Int) ≠ 5 by decide)]; rfl
theorem tW_text (s : Bs) : tokText (tW s) = s := by rw [tokText_own (show (3 : Int) ≠ 4 by decide) (show (3 : Int) ≠ 5 by decide)]; rfl
theorem tN_text (s : Bs) : tokText (tN s) = s := by rw [tokText_own (show (1 : Int) ≠ 4 by decide) (show (1 : Int) ≠ 5 by decide)]; rfl
theorem ans_ptr {k : Nat} {a : Ty (k + 1)} {s : Bs} (ha : typeAns k a = .inr s) (za : szD (k + 1) a ≤ 300) (da : deep (k + 1) [a] ≤ 60) : typeAns (k + 1) (5, [], [], [], [a]) = .inr ([42, 32] ++ s) := by
  obtain ⟨r1, r2, r3, r4, r5, r6⟩ := ans_of ha za
  have hr : rightB (k + 1) 64 (5, [], [], [], [a]) = true := by
    have h1 := right_of (r := 63) r1 (by omega)
    have h2 : rightsB (k + 1) 63 [a] = true := by simpa [rightsB, rightB] using h1
    show (decide ((0 : Int) < 64) && shapedB (k + 1) (5, [], [], [], [a]) && rightsB (k + 1) 63 [a]) = true
    rw [h2]; rfl
  have hx : tyToks (k + 2) false (5, [], [], [], [a]) = tS [42] :: tyToks (k + 1) false a := rfl
  rw [ans_to hr hx (by rw [List.all_cons, r2]; rfl) (by rw [fl_cons, tS_text]; simp; omega) (by rw [cn_cons]; omega), jtext, tS_text, spaced_ne r4, ← r3]
  rfl
theorem ans_fn {k : Nat} {a b : Ty (k + 1)} {s t : Bs} (ha : typeAns k a = .inr s) (hb : typeAns k b = .inr t) (za : szD (k + 1) a ≤ 300) (zb : szD (k + 1) b ≤ 300) (da : deep (k + 1) [a] ≤ 60) (db : deep (k + 1) [b] ≤ 60) : typeAns (k + 1) (7, [], [], [], [a, b]) = .inr ([102, 110, 32, 40, 32] ++ s ++ [32, 41, 32] ++ t) := by
  obtain ⟨r1, r2, r3, r4, r5, r6⟩ := ans_of ha za
  obtain ⟨q1, q2, q3, q4, q5, q6⟩ := ans_of hb zb
  have hr : rightB (k + 1) 64 (7, [], [], [], [a, b]) = true := by
    have h1 := right_of (r := 63) r1 (by omega)
    have h1' := right_of (r := 63) q1 (by omega)
    have h2 : rightsB (k + 1) 63 [a, b] = true := by simp only [rightsB, List.all_cons, List.all_nil]; simp only [rightB] at h1 h1'; rw [h1, h1']; rfl
    show (decide ((0 : Int) < 64) && shapedB (k + 1) (7, [], [], [], [a, b]) && rightsB (k + 1) 63 [a, b]) = true
    rw [h2]; rfl
  have hx : tyToks (k + 2) false (7, [], [], [], [a, b]) = tW [102, 110] :: tS [40] :: (tyToks (k + 1) false a ++ tS [41] :: tyToks (k + 1) false b) := by
    show tW [102, 110] :: (tS [40] :: ([] ++ tyToks (k + 1) false a ++ []) ++ tS [41] :: tyToks (k + 1) false b) = _
    simp
  rw [ans_to hr hx (by simp only [List.all_cons, List.all_append, r2, q2]; rfl) (by rw [fl_cons, fl_cons, fl_append, fl_cons, tS_text, tS_text, tW_text]; simp; omega) (by rw [cn_cons, cn_cons, cn_append, cn_cons]; omega), jtext, tW_text, spaced_cons, tS_text, spaced_append, spaced_cons, tS_text, spaced_ne r4, spaced_ne q4, ← r3, ← q3]
  simp
theorem ans_rec {k : Nat} {a b : Ty (k + 1)} {s t : Bs} (ha : typeAns k a = .inr s) (hb : typeAns k b = .inr t) (za : szD (k + 1) a ≤ 300) (zb : szD (k + 1) b ≤ 300) (da : deep (k + 1) [a] ≤ 60) (db : deep (k + 1) [b] ≤ 60) : typeAns (k + 1) (6, [], [[120], [121]], [false, true], [a, b]) = .inr ([123, 32, 120, 32] ++ s ++ [32, 59, 32, 101, 109, 98, 101, 100, 32, 121, 32] ++ t ++ [32, 59, 32, 125]) := by
  obtain ⟨r1, r2, r3, r4, r5, r6⟩ := ans_of ha za
  obtain ⟨q1, q2, q3, q4, q5, q6⟩ := ans_of hb zb
  have hr : rightB (k + 1) 64 (6, [], [[120], [121]], [false, true], [a, b]) = true := by
    have h1 := right_of (r := 63) r1 (by omega)
    have h1' := right_of (r := 63) q1 (by omega)
    have h2 : rightsB (k + 1) 63 [a, b] = true := by simp only [rightsB, List.all_cons, List.all_nil]; simp only [rightB] at h1 h1'; rw [h1, h1']; rfl
    have h3 : namesB [[120], [121]] = true := by decide +kernel
    have h4 : shapedB (k + 1) (6, [], [[120], [121]], [false, true], [a, b]) = true := by
      show shapeF 6 [] 2 2 2 (isTok 2 []) (namesB [[120], [121]]) (fnsB (k + 1) [a, b]) = true
      rw [h3]; rfl
    show (decide ((0 : Int) < 64) && shapedB (k + 1) (6, [], [[120], [121]], [false, true], [a, b]) && rightsB (k + 1) 63 [a, b]) = true
    rw [h2, h4]; rfl
  have hx : tyToks (k + 2) false (6, [], [[120], [121]], [false, true], [a, b]) = tS [123] :: tN [120] :: (tyToks (k + 1) false a ++ tS [59] :: tW [101, 109, 98, 101, 100] :: tN [121] :: (tyToks (k + 1) false b ++ [tS [59], tS [125]])) := by
    show tS [123] :: (([] ++ tN [120] :: tyToks (k + 1) false a ++ [tS [59]]) ++ (([tW [101, 109, 98, 101, 100]] ++ tN [121] :: tyToks (k + 1) false b ++ [tS [59]]) ++ [])) ++ [tS [125]] = _
    simp
  rw [ans_to hr hx (by simp only [List.all_cons, List.all_append, r2, q2, List.all_nil]; decide +kernel) (by simp only [fl_cons, fl_append, fl_nil, tS_text, tW_text, tN_text]; simp; omega) (by simp only [cn_cons, cn_append, cn_nil]; omega), jtext, tS_text]
  simp only [spaced_cons, spaced_append, tS_text, tW_text, tN_text, spaced_ne r4, spaced_ne q4, ← r3, ← q3]
  simp [spaced]
theorem ans_iface {k : Nat} {a b : Ty (k + 1)} {s t : Bs} (ha : typeAns k a = .inr s) (hb : typeAns k b = .inr t) (za : szD (k + 1) a ≤ 300) (zb : szD (k + 1) b ≤ 300) (da : deep (k + 1) [a] ≤ 60) (db : deep (k + 1) [b] ≤ 60) : typeAns (k + 2) (8, [], [[109]], [], [(7, [], [], [], [a, a, b])]) = .inr ([105, 110, 116, 101, 114, 102, 97, 99, 101, 32, 123, 32, 109, 32, 40, 32] ++ s ++ [32, 44, 32] ++ s ++ [32, 41, 32] ++ t ++ [32, 59, 32, 125]) := by
  obtain ⟨r1, r2, r3, r4, r5, r6⟩ := ans_of ha za
  obtain ⟨q1, q2, q3, q4, q5, q6⟩ := ans_of hb zb
  have hr : rightB (k + 2) 64 (8, [], [[109]], [], [(7, [], [], [], [a, a, b])]) = true := by
    have h1 := right_of (r := 62) r1 (by omega)
    have h1' := right_of (r := 62) q1 (by omega)
    have h2 : rightsB (k + 1) 62 [a, a, b] = true := by simp only [rightsB, List.all_cons, List.all_nil]; simp only [rightB] at h1 h1'; rw [h1, h1']; rfl
    have h3 : namesB [[109]] = true := by decide +kernel
    have h4 : shapedB (k + 2) (8, [], [[109]], [], [(7, [], [], [], [a, a, b])]) = true := by
      show shapeF 8 [] 1 0 1 (isTok 2 []) (namesB [[109]]) true = true
      rw [h3]; rfl
    have h5 : rightsB (k + 2) 63 [(7, [], [], [], [a, a, b])] = true := by
      show ((decide ((0 : Int) < 63) && shapedB (k + 1) (7, [], [], [], [a, a, b]) && rightsB (k + 1) 62 [a, a, b]) && true) = true
      rw [h2]; rfl
    show (decide ((0 : Int) < 64) && shapedB (k + 2) (8, [], [[109]], [], [(7, [], [], [], [a, a, b])]) && rightsB (k + 2) 63 [(7, [], [], [], [a, a, b])]) = true
    rw [h4, h5]; rfl
  have hx : tyToks (k + 3) false (8, [], [[109]], [], [(7, [], [], [], [a, a, b])]) = tW [105, 110, 116, 101, 114, 102, 97, 99, 101] :: tS [123] :: tN [109] :: tS [40] :: (tyToks (k + 1) false a ++ tS [44] :: (tyToks (k + 1) false a ++ tS [41] :: (tyToks (k + 1) false b ++ [tS [59], tS [125]]))) := by
    show tW [105, 110, 116, 101, 114, 102, 97, 99, 101] :: tS [123] :: ((tN [109] :: (tS [40] :: (([] ++ tyToks (k + 1) false a) ++ (([tS [44]] ++ tyToks (k + 1) false a) ++ [])) ++ tS [41] :: tyToks (k + 1) false b) ++ [tS [59]]) ++ []) ++ [tS [125]] = _
    simp
  rw [ans_to hr hx (by simp only [List.all_cons, List.all_append, r2, q2, List.all_nil]; decide +kernel) (by simp only [fl_cons, fl_append, fl_nil, tS_text, tW_text, tN_text]; simp; omega) (by simp only [cn_cons, cn_append, cn_nil]; omega), jtext, tW_text]
  simp only [spaced_cons, spaced_append, tS_text, tN_text, spaced_ne r4, spaced_ne q4, ← r3, ← q3]
  simp [spaced]
end Go.Proofs.YtmpbbmfbgcpplaaGreatDoor
