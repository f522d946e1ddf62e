/-
  Types, expressions and statements that are nested as deep as one likes: which are right, and what is written of them. No world.
-/
import Derived.Test.YtdahegogdblahaaGreatDoorQStG
import Derived.Test.YtdahegogdblahaaGreatDoorQPartsG
import Derived.Test.YtdahegogdblahaaGreatDoorQRunsG
import Derived.Test.YtdahegogdblahaaGreatDoorQStText
import Derived.Test.YtdahegogdblahaaGreatDoorQKeepG
import Derived.Test.YtdahegogdblahaaGreatDoorQSynA
import Derived.Test.YtdahegogdblahaaGreatDoorQRunsC
import Derived.Test.YtdahegogdblahaaGreatDoorQWithin
import Derived.Deep.DeepCutAuto
import Derived.Deep.LoopGhost
namespace Go.Proofs.YtdahegogdblahaaGreatDoor
open Go Go.RowKit Lx

def ptrN : (i : Nat) → Ty (i + 1)
  | 0 => (1, [], [], [], [])
  | i + 1 => (5, [], [], [], [ptrN i])
def numE (n : Int) (d : Nat) : Ex 0 (d + 1) := (0, 1, n, [], [], [], [])
def notE : (i : Nat) → Ex 0 (i + 1)
  | 0 => numE 1 0
  | i + 1 => (0, 14, 0, [], [], [], [notE i])
def addE : (i : Nat) → Ex 0 (i + 1)
  | 0 => numE 1 0
  | i + 1 => (0, 16, 0, [], [], [], [numE 2 i, addE i])
def leftE : (i : Nat) → Ex 0 (i + 1)
  | 0 => numE 1 0
  | i + 1 => (0, 16, 0, [], [], [], [leftE i, numE 1 i])
def stN : (i : Nat) → St 0 1 (i + 1)
  | 0 => (0, 7, [], [], [numE 1 0], [], [])
  | i + 1 => (0, 5, [], [], [numE 1 0], [stN i], [])
/-- the tokens that come in all of them. -/
def toksD : List Tok := [tS [42], tW [105, 110, 116], tW [110, 111, 116], (0, 4, [], 1), (0, 4, [], 2), tS [43], tS [40], tS [41], tW [119, 104, 105, 108, 101], tS [123], tS [125], tS [59]]
theorem toksD_ok : toksD.all (fun t => sound t && decide ((tokText t).length ≤ 20)) = true := by decide +kernel
theorem spaced_le : ∀ (l : List Tok), (∀ t ∈ l, t ∈ toksD) → (spaced l).length ≤ 21 * l.length ∧ l.all sound = true
  | [], _ => by simp [spaced]
  | t :: r, h => by
    obtain ⟨h1, h2⟩ := spaced_le r fun t ht => h t (by simp [ht])
    have h3 := List.all_eq_true.1 toksD_ok t (h t (by simp))
    simp only [Bool.and_eq_true, decide_eq_true_eq] at h3
    rw [spaced_cons, List.all_cons, h2, h3.1]
    simp only [List.length_cons, List.length_append]
    exact ⟨by omega, rfl⟩
theorem short_ans {l : List Tok} (h : ∀ t ∈ l, t ∈ toksD) (hl : l.length ≤ 2000) : ∃ X : ByteArray, joinAns (join (putAll [] l)) = .tuple #[.string X, .int .i64 0] := by
  obtain ⟨h1, h2⟩ := spaced_le l h
  rw [putAll_all _ _ (by simp; omega), List.nil_append, join_to h2 (by omega) (by omega)]
  exact ⟨_, rfl⟩
/-- the number that is told: none, if it isn't too deep. -/
def deepErr (i : Nat) : Int := if i < 64 then 0 else 1
theorem ptr_right : ∀ (i : Nat) (room : Int), 0 ≤ room → rightB i room (ptrN i) = decide ((i : Int) + 1 ≤ room)
  | 0, room, _ => by
    show (decide (0 < room) && true && true) = _
    rw [Bool.and_true, Bool.and_true]
    exact decide_eq_decide.2 (by omega)
  | i + 1, room, h => by
    have e : rightB (i + 1) room (ptrN (i + 1)) = (decide (0 < room) && true && (rightB i (room - 1) (ptrN i) && true)) := rfl
    rw [e, Bool.and_true, Bool.and_true]
    by_cases h0 : room = 0
    · subst h0
      rw [show decide ((0 : Int) < 0) = false from rfl, Bool.false_and, eq_comm, decide_eq_false_iff_not]; omega
    · rw [ptr_right i (room - 1) (by omega), decide_eq_true (by omega), Bool.true_and]
      exact decide_eq_decide.2 (by omega)
theorem ptr_toks : ∀ (i : Nat), (∀ t ∈ tyToks (i + 1) false (ptrN i), t ∈ toksD) ∧ (tyToks (i + 1) false (ptrN i)).length = i + 1
  | 0 => by
    have e : tyToks 1 false (ptrN 0) = [tW [105, 110, 116]] := rfl
    rw [e]
    exact ⟨fun t ht => by rw [List.mem_singleton] at ht; subst ht; simp [toksD], rfl⟩
  | i + 1 => by
    obtain ⟨h1, h2⟩ := ptr_toks i
    have e : tyToks (i + 2) false (ptrN (i + 1)) = tS [42] :: tyToks (i + 1) false (ptrN i) := rfl
    rw [e]
    refine ⟨fun t ht => ?_, by rw [List.length_cons, h2]⟩
    rcases List.mem_cons.1 ht with rfl | ht
    · simp [toksD]
    · exact h1 t ht
theorem ptr_ans (i : Nat) (hi : i ≤ 64) : ∃ X : ByteArray, joinAns (typeAns i (ptrN i)) = .tuple #[.string X, .int .i64 (deepErr i)] := by
  obtain ⟨h1, h2⟩ := ptr_toks i
  rw [typeAns, ptr_right i 64 (by omega), deepErr]
  by_cases h : i < 64
  · rw [decide_eq_true (by omega), if_pos rfl, if_pos h]
    exact short_ans h1 (by omega)
  · rw [decide_eq_false (by omega), if_neg (by simp), if_neg h]
    exact ⟨_, rfl⟩
theorem ptr_deep : ∀ (i : Nat), deep (i + 1) [ptrN i] = i + 1
  | 0 => by rw [deep, deep, deep]; rfl
  | i + 1 => by
    rw [deep, deep]
    show max (1 + deep (i + 1) [ptrN i]) 0 = _
    rw [ptr_deep i]; omega
/-- what can stand in a part's tokens. -/
theorem part_in {K a : Int} {tk : List Tok} (h : ∀ t ∈ tk, t ∈ toksD) : (∀ t ∈ partT K a tk, t ∈ toksD) ∧ (partT K a tk).length ≤ tk.length + 2 := by
  unfold partT asideT
  by_cases hk : levelI K < a
  · rw [if_pos hk]
    refine ⟨fun t ht => ?_, by simp⟩
    simp only [List.mem_cons, List.mem_append, List.not_mem_nil, or_false] at ht
    rcases ht with rfl | ht | rfl
    · simp [toksD]
    · exact h t ht
    · simp [toksD]
  · rw [if_neg hk]
    exact ⟨h, by omega⟩
theorem num_in (n : Int) (d : Nat) (h : n = 1 ∨ n = 2) : (∀ t ∈ exTk 0 (d + 1) (numE n d), t ∈ toksD) ∧ (exTk 0 (d + 1) (numE n d)).length = 1 := by
  have e : exTk 0 (d + 1) (numE n d) = [(0, 4, [], n)] := rfl
  rw [e]
  refine ⟨fun t ht => ?_, rfl⟩
  rw [List.mem_singleton] at ht
  subst ht
  rcases h with rfl | rfl <;> simp [toksD]
theorem num_right (n : Int) (d : Nat) (room : Int) (h : n = 1 ∨ n = 2) : rightX 0 (d + 1) room (numE n d) = !decide (room = 0) := by
  rcases h with rfl | rfl
  · show (!decide (room = 0) && true && true && true) = _
    simp
  · show (!decide (room = 0) && true && true && true) = _
    simp
theorem room_step {room : Int} {i : Nat} (h : 0 ≤ room) {b : Bool} (hb : room ≠ 0 → b = decide ((i : Int) + 1 ≤ room - 1)) : (!decide (room = 0) && b) = decide (((i + 1 : Nat) : Int) + 1 ≤ room) := by
  by_cases h0 : room = 0
  · subst h0
    rw [show (!decide ((0 : Int) = 0)) = false from rfl, Bool.false_and, eq_comm, decide_eq_false_iff_not]; omega
  · rw [hb h0, show (!decide (room = 0)) = true by simp [h0], Bool.true_and]
    exact decide_eq_decide.2 (by omega)
theorem room_zero {room : Int} (h : 0 ≤ room) : (!decide (room = 0)) = decide (((0 : Nat) : Int) + 1 ≤ room) := by
  by_cases h0 : room = 0
  · subst h0; rfl
  · rw [show (!decide (room = 0)) = true by simp [h0], eq_comm, decide_eq_true_eq]; omega
theorem not_right : ∀ (i : Nat) (room : Int), 0 ≤ room → rightX 0 (i + 1) room (notE i) = decide ((i : Int) + 1 ≤ room)
  | 0, room, h => by
    rw [show notE 0 = numE 1 0 from rfl, num_right 1 0 room (.inl rfl)]
    exact room_zero h
  | i + 1, room, h => by
    have e : rightX 0 (i + 2) room (notE (i + 1)) = (!decide (room = 0) && true && true && (rightX 0 (i + 1) (room - 1) (notE i) && true)) := rfl
    rw [e, Bool.and_true, Bool.and_true, Bool.and_true]
    exact room_step h fun h0 => not_right i (room - 1) (by omega)
theorem not_toks : ∀ (i : Nat), (∀ t ∈ exTk 0 (i + 1) (notE i), t ∈ toksD) ∧ (exTk 0 (i + 1) (notE i)).length ≤ 1 + 3 * i
  | 0 => by
    obtain ⟨h1, h2⟩ := num_in 1 0 (.inl rfl)
    exact ⟨h1, by rw [show notE 0 = numE 1 0 from rfl, h2]; omega⟩
  | i + 1 => by
    obtain ⟨h1, h2⟩ := not_toks i
    have e : exTk 0 (i + 2) (notE (i + 1)) = tW [110, 111, 116] :: partT (exKind 0 (i + 1) (notE i)) 6 (exTk 0 (i + 1) (notE i)) := rfl
    obtain ⟨h3, h4⟩ := part_in (K := exKind 0 (i + 1) (notE i)) (a := 6) h1
    rw [e]
    refine ⟨fun t ht => ?_, by rw [List.length_cons]; omega⟩
    rcases List.mem_cons.1 ht with rfl | ht
    · simp [toksD]
    · exact h3 t ht
theorem add_right : ∀ (i : Nat) (room : Int), 0 ≤ room → rightX 0 (i + 1) room (addE i) = decide ((i : Int) + 1 ≤ room)
  | 0, room, h => by
    rw [show addE 0 = numE 1 0 from rfl, num_right 1 0 room (.inl rfl)]
    exact room_zero h
  | i + 1, room, h => by
    have e : rightX 0 (i + 2) room (addE (i + 1)) = (!decide (room = 0) && true && true && (rightX 0 (i + 1) (room - 0) (numE 2 i) && (rightX 0 (i + 1) (room - 1) (addE i) && true))) := rfl
    rw [e, Bool.and_true, Bool.and_true, Bool.and_true, num_right 2 i _ (.inr rfl), Int.sub_zero, ← Bool.and_assoc, Bool.and_self]
    exact room_step h fun h0 => add_right i (room - 1) (by omega)
theorem two_in {K0 K1 a b : Int} {l m : List Tok} (h : ∀ t ∈ l, t ∈ toksD) (k : ∀ t ∈ m, t ∈ toksD) : (∀ t ∈ partT K0 a l ++ [tS [43]] ++ partT K1 b m, t ∈ toksD) ∧ (partT K0 a l ++ [tS [43]] ++ partT K1 b m).length ≤ l.length + m.length + 5 := by
  obtain ⟨h1, h2⟩ := part_in (K := K0) (a := a) h
  obtain ⟨k1, k2⟩ := part_in (K := K1) (a := b) k
  refine ⟨fun t ht => ?_, by simp; omega⟩
  simp only [List.mem_append, List.mem_singleton] at ht
  rcases ht with (ht | rfl) | ht
  · exact h1 t ht
  · simp [toksD]
  · exact k1 t ht
theorem add_toks : ∀ (i : Nat), (∀ t ∈ exTk 0 (i + 1) (addE i), t ∈ toksD) ∧ (exTk 0 (i + 1) (addE i)).length ≤ 1 + 6 * i
  | 0 => by
    obtain ⟨h1, h2⟩ := num_in 1 0 (.inl rfl)
    exact ⟨h1, by rw [show addE 0 = numE 1 0 from rfl, h2]; omega⟩
  | i + 1 => by
    obtain ⟨h1, h2⟩ := add_toks i
    obtain ⟨n1, n2⟩ := num_in 2 i (.inr rfl)
    have e : exTk 0 (i + 2) (addE (i + 1)) = partT 1 4 (exTk 0 (i + 1) (numE 2 i)) ++ [tS [43]] ++ partT (exKind 0 (i + 1) (addE i)) 5 (exTk 0 (i + 1) (addE i)) := rfl
    obtain ⟨h3, h4⟩ := two_in (K0 := 1) (K1 := exKind 0 (i + 1) (addE i)) (a := 4) (b := 5) n1 h1
    rw [e]
    exact ⟨h3, by omega⟩
theorem left_right : ∀ (i : Nat), rightX 0 (i + 1) 64 (leftE i) = true
  | 0 => by rw [show leftE 0 = numE 1 0 from rfl, num_right 1 0 64 (.inl rfl)]; rfl
  | i + 1 => by
    have e : rightX 0 (i + 2) 64 (leftE (i + 1)) = (true && true && true && (rightX 0 (i + 1) (64 - 0) (leftE i) && (rightX 0 (i + 1) (64 - 1) (numE 1 i) && true))) := rfl
    rw [e, num_right 1 i _ (.inl rfl), show (64 : Int) - 0 = 64 from rfl, left_right i]; rfl
theorem left_toks : ∀ (i : Nat), (∀ t ∈ exTk 0 (i + 1) (leftE i), t ∈ toksD) ∧ (exTk 0 (i + 1) (leftE i)).length ≤ 1 + 6 * i
  | 0 => by
    obtain ⟨h1, h2⟩ := num_in 1 0 (.inl rfl)
    exact ⟨h1, by rw [show leftE 0 = numE 1 0 from rfl, h2]; omega⟩
  | i + 1 => by
    obtain ⟨h1, h2⟩ := left_toks i
    obtain ⟨n1, n2⟩ := num_in 1 i (.inl rfl)
    have e : exTk 0 (i + 2) (leftE (i + 1)) = partT (exKind 0 (i + 1) (leftE i)) 4 (exTk 0 (i + 1) (leftE i)) ++ [tS [43]] ++ partT 1 5 (exTk 0 (i + 1) (numE 1 i)) := rfl
    obtain ⟨h3, h4⟩ := two_in (K0 := exKind 0 (i + 1) (leftE i)) (K1 := 1) (a := 4) (b := 5) h1 n1
    rw [e]
    exact ⟨h3, by omega⟩
theorem ex_ans {i : Nat} {x : Ex 0 (i + 1)} (hr : rightX 0 (i + 1) 64 x = decide ((i : Int) + 1 ≤ 64)) (h1 : ∀ t ∈ exTk 0 (i + 1) x, t ∈ toksD) (h2 : (exTk 0 (i + 1) x).length ≤ 2000) : ∃ X : ByteArray, joinAns (exprAns 0 i x) = .tuple #[.string X, .int .i64 (deepErr i)] := by
  rw [exprAns, hr, deepErr]
  by_cases h : i < 64
  · rw [decide_eq_true (by omega), if_pos rfl, if_pos h]
    exact short_ans h1 h2
  · rw [decide_eq_false (by omega), if_neg (by simp), if_neg h]
    exact ⟨_, rfl⟩
theorem not_ans (i : Nat) (hi : i ≤ 64) : ∃ X : ByteArray, joinAns (exprAns 0 i (notE i)) = .tuple #[.string X, .int .i64 (deepErr i)] := by
  obtain ⟨h1, h2⟩ := not_toks i
  exact ex_ans (not_right i 64 (by omega)) h1 (by omega)
theorem add_ans (i : Nat) (hi : i ≤ 64) : ∃ X : ByteArray, joinAns (exprAns 0 i (addE i)) = .tuple #[.string X, .int .i64 (deepErr i)] := by
  obtain ⟨h1, h2⟩ := add_toks i
  exact ex_ans (add_right i 64 (by omega)) h1 (by omega)
theorem left_ans (i : Nat) (hi : i ≤ 300) : ∃ X : ByteArray, joinAns (exprAns 0 i (leftE i)) = .tuple #[.string X, .int .i64 0] := by
  obtain ⟨h1, h2⟩ := left_toks i
  rw [exprAns, left_right i, if_pos rfl]
  exact short_ans h1 (by omega)
theorem st_right : ∀ (i : Nat) (room : Int), 0 ≤ room → rightSs 0 1 (i + 1) room [stN i] = decide ((i : Int) + 1 ≤ room)
  | 0, room, h => by
    have e : rightSs 0 1 1 room [stN 0] = ((!decide (room = 0) && true && true && true && true && true) && true) := rfl
    rw [e]
    simp only [Bool.and_true]
    exact room_zero h
  | i + 1, room, h => by
    have e : rightSs 0 1 (i + 2) room [stN (i + 1)] = ((!decide (room = 0) && true && true && true && rightSs 0 1 (i + 1) (room - 1) [stN i] && true) && true) := rfl
    rw [e]
    simp only [Bool.and_true]
    exact room_step h fun h0 => st_right i (room - 1) (by omega)
theorem st_toks : ∀ (i : Nat), (∀ t ∈ stTks 0 1 (i + 1) [stN i], t ∈ toksD) ∧ (stTks 0 1 (i + 1) [stN i]).length ≤ 2 + 4 * i
  | 0 => by
    have e : stTks 0 1 1 [stN 0] = [(0, 4, [], 1), tS [59]] := rfl
    rw [e]
    refine ⟨fun t ht => ?_, by simp⟩
    simp only [List.mem_cons, List.not_mem_nil, or_false] at ht
    rcases ht with rfl | rfl <;> simp [toksD]
  | i + 1 => by
    obtain ⟨h1, h2⟩ := st_toks i
    have e : stTks 0 1 (i + 2) [stN (i + 1)] = (tW [119, 104, 105, 108, 101] :: ([(0, 4, [], 1)] ++ tS [123] :: (stTks 0 1 (i + 1) [stN i] ++ [tS [125]]))) ++ [] := rfl
    rw [e, List.append_nil]
    refine ⟨fun t ht => ?_, by simp; omega⟩
    simp only [List.mem_cons, List.mem_append, List.not_mem_nil, or_false] at ht
    rcases ht with rfl | rfl | rfl | ht | rfl
    · simp [toksD]
    · simp [toksD]
    · simp [toksD]
    · exact h1 t ht
    · simp [toksD]
theorem st_ans (i : Nat) (hi : i ≤ 64) : ∃ X : ByteArray, joinAns (stmtsAns 0 1 (i + 1) [stN i]) = .tuple #[.string X, .int .i64 (deepErr i)] := by
  obtain ⟨h1, h2⟩ := st_toks i
  rw [stmtsAns, st_right i 64 (by omega), deepErr]
  by_cases h : i < 64
  · rw [decide_eq_true (by omega), if_pos rfl, if_pos h]
    exact short_ans h1 (by omega)
  · rw [decide_eq_false (by omega), if_neg (by simp), if_neg h]
    exact ⟨_, rfl⟩
theorem ex_fit {d : Nat} {K N : Int} {ps : List (Ex 0 d)} (h1 : ps.length ≤ 1000000) (h2 : -9223372036854775808 ≤ N) (h3 : N ≤ 9223372036854775807) : ExFit 0 d (0, K, N, [], [], [], ps) :=
  ⟨Nat.zero_le _, Nat.zero_le _, trivial, Nat.zero_le _, fun _ hs => absurd hs List.not_mem_nil, h1, h2, h3⟩
theorem exfits_nil : ∀ d : Nat, ExFits 0 d []
  | 0 => trivial
  | _ + 1 => ⟨Nat.zero_le _, fun _ hx => absurd hx List.not_mem_nil⟩
theorem num_fit (n : Int) (d : Nat) (h : n = 1 ∨ n = 2) : ExFit 0 d (numE n d) ∧ ExFits 0 d (xPs (numE n d)) := ⟨ex_fit (Nat.zero_le _) (by omega) (by omega), exfits_nil d⟩
theorem one_fits {d : Nat} {x : Ex 0 (d + 1)} (h : ExFit 0 d x ∧ ExFits 0 d (xPs x)) : ExFits 0 (d + 1) [x] := ⟨by simp, fun y hy => by rw [List.mem_singleton] at hy; rw [hy]; exact h⟩
theorem two_fits {d : Nat} {x y : Ex 0 (d + 1)} (h : ExFit 0 d x ∧ ExFits 0 d (xPs x)) (k : ExFit 0 d y ∧ ExFits 0 d (xPs y)) : ExFits 0 (d + 1) [x, y] := ⟨by simp, fun z hz => by
  rcases List.mem_cons.1 hz with e | hz
  · rw [e]; exact h
  · rw [List.mem_singleton] at hz; rw [hz]; exact k⟩
theorem not_fit : ∀ i : Nat, ExFit 0 i (notE i) ∧ ExFits 0 i (xPs (notE i))
  | 0 => num_fit 1 0 (.inl rfl)
  | i + 1 => ⟨ex_fit (ps := [notE i]) (by simp) (by decide) (by decide), one_fits (not_fit i)⟩
theorem add_fit : ∀ i : Nat, ExFit 0 i (addE i) ∧ ExFits 0 i (xPs (addE i))
  | 0 => num_fit 1 0 (.inl rfl)
  | i + 1 => ⟨ex_fit (ps := [numE 2 i, addE i]) (by simp) (by decide) (by decide), two_fits (num_fit 2 i (.inr rfl)) (add_fit i)⟩
theorem left_fit : ∀ i : Nat, ExFit 0 i (leftE i) ∧ ExFits 0 i (xPs (leftE i))
  | 0 => num_fit 1 0 (.inl rfl)
  | i + 1 => ⟨ex_fit (ps := [leftE i, numE 1 i]) (by simp) (by decide) (by decide), two_fits (left_fit i) (num_fit 1 i (.inl rfl))⟩
def st1 (m : Nat) (K : Int) (bs : List (St 0 1 m)) : St 0 1 (m + 1) := (0, K, [], [], [numE 1 0], bs, [])
theorem st_fit0 {m : Nat} {K : Int} {bs : List (St 0 1 m)} (h : bs.length ≤ 1000000) : StFit 0 1 m (st1 m K bs) :=
  ⟨Nat.zero_le _, trivial, Nat.zero_le _, one_fits (num_fit 1 0 (.inl rfl)), (show 1 ≤ 1000000 by decide), h, Nat.zero_le _⟩
theorem st_fit1 {m : Nat} {K : Int} {bs : List (St 0 1 m)} (h : bs.length ≤ 1000000) (hb : StFits 0 1 m bs) (hn : StFits 0 1 m []) : StFits 0 1 (m + 1) [st1 m K bs] := by
  refine ⟨by simp, fun s hs => ?_⟩
  rw [List.mem_singleton] at hs
  rw [hs]
  exact ⟨st_fit0 h, hb, hn⟩
theorem stfits_nil : ∀ m : Nat, StFits 0 1 m []
  | 0 => trivial
  | _ + 1 => ⟨Nat.zero_le _, fun _ hx => absurd hx List.not_mem_nil⟩
theorem st_fit : ∀ i : Nat, StFits 0 1 (i + 1) [stN i]
  | 0 => st_fit1 (bs := []) (Nat.zero_le _) (stfits_nil 0) (stfits_nil 0)
  | i + 1 => st_fit1 (bs := [stN i]) (show 1 ≤ 1000000 by decide) (st_fit i) (stfits_nil (i + 1))
end Go.Proofs.YtdahegogdblahaaGreatDoor
/-
  What SyntaxDeep's loops keep: three boxes that are written, trees that stay. No walk.
-/
namespace Go.Proofs.YtdahegogdblahaaGreatDoor
open Go Go.RowKit Lx

/-- P holds wherever all blocks but three are as in W. -/
def Out (b6 b7 b9 : Nat) (W : World) (P : World → Prop) : Prop := ∀ W' : World, W.heap.size ≤ W'.heap.size → (∀ j, j < W.heap.size → j ≠ b6 → j ≠ b7 → j ≠ b9 → W'.heap[j]? = W.heap[j]?) → P W'
/-- from W to W2 no block is turned but these three. -/
def Stp (b6 b7 b9 : Nat) (W W2 : World) : Prop := W.heap.size ≤ W2.heap.size ∧ ∀ j, j < W.heap.size → j ≠ b6 → j ≠ b7 → j ≠ b9 → W2.heap[j]? = W.heap[j]?
section
variable {b6 b7 b9 : Nat} {W W2 W3 : World} {P Q : World → Prop}
theorem Out.here (h : Out b6 b7 b9 W P) : P W := h W (Nat.le_refl _) fun _ _ _ _ _ => rfl
theorem Out.step (h : Out b6 b7 b9 W P) (hs : Stp b6 b7 b9 W W2) : Out b6 b7 b9 W2 P := fun W' h1 h2 => h W' (Nat.le_trans hs.1 h1) fun j hj a b c => (h2 j (Nat.lt_of_lt_of_le hj hs.1) a b c).trans (hs.2 j hj a b c)
theorem Out.and (h : Out b6 b7 b9 W P) (k : Out b6 b7 b9 W Q) : Out b6 b7 b9 W (fun W' => P W' ∧ Q W') := fun W' h1 h2 => ⟨h W' h1 h2, k W' h1 h2⟩
theorem Out.imp (h : Out b6 b7 b9 W P) (k : ∀ W', P W' → Q W') : Out b6 b7 b9 W Q := fun W' h1 h2 => k W' (h W' h1 h2)
theorem Out.all (k : ∀ W', Q W') : Out b6 b7 b9 W Q := fun W' _ _ => k W'
theorem Out.block {g : Nat} {O : Obj} (h : W.heap[g]? = some O) (h6 : g ≠ b6) (h7 : g ≠ b7) (h9 : g ≠ b9) : Out b6 b7 b9 W (fun W' => W'.heap[g]? = some O) := fun _ _ h2 => (h2 g (Array.getElem?_eq_some_iff.1 h).1 h6 h7 h9).trans h
theorem Stp.refl : Stp b6 b7 b9 W W := ⟨Nat.le_refl _, fun _ _ _ _ _ => rfl⟩
theorem Stp.trans (h : Stp b6 b7 b9 W W2) (k : Stp b6 b7 b9 W2 W3) : Stp b6 b7 b9 W W3 := ⟨Nat.le_trans h.1 k.1, fun j hj a b c => (k.2 j (Nat.lt_of_lt_of_le hj h.1) a b c).trans (h.2 j hj a b c)⟩
theorem Stp.below (h : Below W.heap.size W W2) : Stp b6 b7 b9 W W2 := ⟨h.size, fun j hj _ _ _ => h.block j hj⟩
end
theorem cells5_of {W : World} {b : Nat} {c0 c1 c2 c3 c4 : Value} {t : TypeId} (h : W.heap[b]? = some (.cells #[c0, c1, c2, c3, c4] t)) : (W.cell? ⟨b, 0, none⟩ = some c0 ∧ W.cell? ⟨b, 1, none⟩ = some c1 ∧ W.cell? ⟨b, 2, none⟩ = some c2 ∧ W.cell? ⟨b, 3, none⟩ = some c3 ∧ W.cell? ⟨b, 4, none⟩ = some c4) ∧ ∀ o, W.frozen? ⟨b, o, none⟩ = false :=
  ⟨tc5 h, fun o => by simp [World.frozen?, h]⟩
theorem cells7_of {W : World} {b : Nat} {c0 c1 c2 c3 c4 c5 c6 : Value} {t : TypeId} (h : W.heap[b]? = some (.cells #[c0, c1, c2, c3, c4, c5, c6] t)) : (W.cell? ⟨b, 0, none⟩ = some c0 ∧ W.cell? ⟨b, 1, none⟩ = some c1 ∧ W.cell? ⟨b, 2, none⟩ = some c2 ∧ W.cell? ⟨b, 3, none⟩ = some c3 ∧ W.cell? ⟨b, 4, none⟩ = some c4 ∧ W.cell? ⟨b, 5, none⟩ = some c5 ∧ W.cell? ⟨b, 6, none⟩ = some c6) ∧ ∀ o, W.frozen? ⟨b, o, none⟩ = false :=
  ⟨tc7 h, fun o => by simp [World.frozen?, h]⟩
theorem setc {W : World} {b i : Nat} {c : Array Value} {t : TypeId} (h : W.heap[b]? = some (.cells c t)) (v : Value) : (W.setCell ⟨b, i, none⟩ v).heap[b]? = some (.cells (c.setIfInBounds i v) t) := by
  obtain ⟨hlt, hk⟩ := Array.getElem?_eq_some_iff.1 h
  show (W.heap.modify b _)[b]? = _
  rw [Array.getElem?_eq_getElem (by rw [Array.size_modify]; exact hlt), Array.getElem_modify_self, hk]
  rfl
theorem setn {W : World} {b i j : Nat} {v : Value} (h : j ≠ b) : (W.setCell ⟨b, i, none⟩ v).heap[j]? = W.heap[j]? := Below.heap_setCell _ _ _ _ h
theorem bset {U W : World} {b i B : Nat} {v : Value} (h : Below B U W) (hB : B ≤ b) : Below B U (W.setCell ⟨b, i, none⟩ v) := h.setCell (p := ⟨b, i, none⟩) hB v
/-- five cells written. -/
theorem store5 {W : World} {b B : Nat} {c0 c1 c2 c3 c4 v0 v1 v2 v3 v4 : Value} {t : TypeId} (h : W.heap[b]? = some (.cells #[c0, c1, c2, c3, c4] t)) (hB : B ≤ b) :
    (((((W.setCell ⟨b, 0, none⟩ v0).setCell ⟨b, 1, none⟩ v1).setCell ⟨b, 2, none⟩ v2).setCell ⟨b, 3, none⟩ v3).setCell ⟨b, 4, none⟩ v4).heap[b]? = some (.cells #[v0, v1, v2, v3, v4] t) ∧
    (∀ j, j ≠ b → (((((W.setCell ⟨b, 0, none⟩ v0).setCell ⟨b, 1, none⟩ v1).setCell ⟨b, 2, none⟩ v2).setCell ⟨b, 3, none⟩ v3).setCell ⟨b, 4, none⟩ v4).heap[j]? = W.heap[j]?) ∧
    (((((W.setCell ⟨b, 0, none⟩ v0).setCell ⟨b, 1, none⟩ v1).setCell ⟨b, 2, none⟩ v2).setCell ⟨b, 3, none⟩ v3).setCell ⟨b, 4, none⟩ v4).heap.size = W.heap.size ∧
    Below B W (((((W.setCell ⟨b, 0, none⟩ v0).setCell ⟨b, 1, none⟩ v1).setCell ⟨b, 2, none⟩ v2).setCell ⟨b, 3, none⟩ v3).setCell ⟨b, 4, none⟩ v4) := by
  refine ⟨?_, fun j hj => by rw [setn hj, setn hj, setn hj, setn hj, setn hj], by simp, bset (bset (bset (bset (bset (Below.refl _ _) hB) hB) hB) hB) hB⟩
  have h1 := setc (i := 4) (setc (i := 3) (setc (i := 2) (setc (i := 1) (setc (i := 0) h v0) v1) v2) v3) v4
  simpa using h1
/-- seven cells written. -/
theorem store7 {W : World} {b B : Nat} {c0 c1 c2 c3 c4 c5 c6 v0 v1 v2 v3 v4 v5 v6 : Value} {t : TypeId} (h : W.heap[b]? = some (.cells #[c0, c1, c2, c3, c4, c5, c6] t)) (hB : B ≤ b) :
    (((((((W.setCell ⟨b, 0, none⟩ v0).setCell ⟨b, 1, none⟩ v1).setCell ⟨b, 2, none⟩ v2).setCell ⟨b, 3, none⟩ v3).setCell ⟨b, 4, none⟩ v4).setCell ⟨b, 5, none⟩ v5).setCell ⟨b, 6, none⟩ v6).heap[b]? = some (.cells #[v0, v1, v2, v3, v4, v5, v6] t) ∧
    (∀ j, j ≠ b → (((((((W.setCell ⟨b, 0, none⟩ v0).setCell ⟨b, 1, none⟩ v1).setCell ⟨b, 2, none⟩ v2).setCell ⟨b, 3, none⟩ v3).setCell ⟨b, 4, none⟩ v4).setCell ⟨b, 5, none⟩ v5).setCell ⟨b, 6, none⟩ v6).heap[j]? = W.heap[j]?) ∧
    (((((((W.setCell ⟨b, 0, none⟩ v0).setCell ⟨b, 1, none⟩ v1).setCell ⟨b, 2, none⟩ v2).setCell ⟨b, 3, none⟩ v3).setCell ⟨b, 4, none⟩ v4).setCell ⟨b, 5, none⟩ v5).setCell ⟨b, 6, none⟩ v6).heap.size = W.heap.size ∧
    Below B W (((((((W.setCell ⟨b, 0, none⟩ v0).setCell ⟨b, 1, none⟩ v1).setCell ⟨b, 2, none⟩ v2).setCell ⟨b, 3, none⟩ v3).setCell ⟨b, 4, none⟩ v4).setCell ⟨b, 5, none⟩ v5).setCell ⟨b, 6, none⟩ v6) := by
  refine ⟨?_, fun j hj => by rw [setn hj, setn hj, setn hj, setn hj, setn hj, setn hj, setn hj], by simp, bset (bset (bset (bset (bset (bset (bset (Below.refl _ _) hB) hB) hB) hB) hB) hB) hB⟩
  have h1 := setc (i := 6) (setc (i := 5) (setc (i := 4) (setc (i := 3) (setc (i := 2) (setc (i := 1) (setc (i := 0) h v0) v1) v2) v3) v4) v5) v6
  simpa using h1
/-- a type in its box. -/
def TBox (b6 b7 b9 b nt : Nat) (W : World) : Prop := ∃ (K : Int) (ps : List (Ty nt)) (pv : Option Addr) (cv : Nat), ptrN nt = (K, [], [], [], ps) ∧ W.heap[b]? = some (.cells #[.int .i64 K, .string ⟨#[]⟩, .slice none 0 0, .slice none 0 0, .slice pv ps.length cv] 27) ∧ Out b6 b7 b9 W (fun W' => TyRow W' nt (.slice pv ps.length cv) ps)
/-- an expression in its box. -/
def XBox (b6 b7 b9 b n : Nat) (x : Ex 0 (n + 1)) (W : World) : Prop := ∃ (K N : Int) (ps : List (Ex 0 n)) (pv : Option Addr) (cv : Nat), x = (0, K, N, [], [], [], ps) ∧ W.heap[b]? = some (.cells #[.int .i64 0, .int .i64 K, .int .i64 N, .string ⟨#[]⟩, .slice none 0 0, .slice none 0 0, .slice pv ps.length cv] 52) ∧ Out b6 b7 b9 W (fun W' => XRow W' n (.slice pv ps.length cv) ps)
section
variable {b6 b7 b9 b : Nat} {W W2 : World}
theorem TBox.step {n : Nat} (h : TBox b6 b7 b9 b n W) (hs : Stp b6 b7 b9 W W2) (hb : W2.heap[b]? = W.heap[b]?) : TBox b6 b7 b9 b n W2 := by
  obtain ⟨K, ps, pv, cv, e, h1, h2⟩ := h
  exact ⟨K, ps, pv, cv, e, hb.trans h1, h2.step hs⟩
theorem XBox.step {n : Nat} {x : Ex 0 (n + 1)} (h : XBox b6 b7 b9 b n x W) (hs : Stp b6 b7 b9 W W2) (hb : W2.heap[b]? = W.heap[b]?) : XBox b6 b7 b9 b n x W2 := by
  obtain ⟨K, N, ps, pv, cv, e, h1, h2⟩ := h
  exact ⟨K, N, ps, pv, cv, e, hb.trans h1, h2.step hs⟩
/-- the next type: a pointer to the one ahead, whose cells lie in a block of their own. -/
theorem TBox.next {n g : Nat} {K : Int} {ps : List (Ty n)} {pv : Option Addr} {cv : Nat} (e : ptrN n = (K, [], [], [], ps)) (ho : Out b6 b7 b9 W (fun W' => TyRow W' n (.slice pv ps.length cv) ps)) (hg : W.heap[g]? = some (.cells #[.int .i64 K, .string ⟨#[]⟩, .slice none 0 0, .slice none 0 0, .slice pv ps.length cv] 27)) (g6 : g ≠ b6) (g7 : g ≠ b7) (g9 : g ≠ b9) (hb : W.heap[b]? = some (.cells #[.int .i64 5, .string ⟨#[]⟩, .slice none 0 0, .slice none 0 0, .slice (some ⟨g, 0, none⟩) 1 1] 27)) : TBox b6 b7 b9 b (n + 1) W := by
  refine ⟨5, [ptrN n], some ⟨g, 0, none⟩, 1, rfl, hb, ((Out.block hg g6 g7 g9).and ho).imp fun W' ⟨h1, h2⟩ => ?_⟩
  rw [e]
  exact TyRow.one (S := []) h1 ⟨none, 0, rfl, fun j t h => by simp at h⟩ ⟨none, 0, rfl, fun j t h => by simp at h⟩ h2
theorem XBox.not {n g : Nat} {K N : Int} {ps : List (Ex 0 n)} {pv : Option Addr} {cv : Nat} (e : notE n = (0, K, N, [], [], [], ps)) (ho : Out b6 b7 b9 W (fun W' => XRow W' n (.slice pv ps.length cv) ps)) (hg : W.heap[g]? = some (.cells #[.int .i64 0, .int .i64 K, .int .i64 N, .string ⟨#[]⟩, .slice none 0 0, .slice none 0 0, .slice pv ps.length cv] 52)) (g6 : g ≠ b6) (g7 : g ≠ b7) (g9 : g ≠ b9) (hb : W.heap[b]? = some (.cells #[.int .i64 0, .int .i64 14, .int .i64 0, .string ⟨#[]⟩, .slice none 0 0, .slice none 0 0, .slice (some ⟨g, 0, none⟩) 1 1] 52)) : XBox b6 b7 b9 b (n + 1) (notE (n + 1)) W := by
  refine ⟨14, 0, [notE n], some ⟨g, 0, none⟩, 1, rfl, hb, ((Out.block hg g6 g7 g9).and ho).imp fun W' ⟨h1, h2⟩ => ?_⟩
  rw [e]
  exact XRow.one (S := []) h1 h2
theorem XBox.add {n g : Nat} {K N : Int} {ps : List (Ex 0 n)} {pv : Option Addr} {cv : Nat} (e : addE n = (0, K, N, [], [], [], ps)) (ho : Out b6 b7 b9 W (fun W' => XRow W' n (.slice pv ps.length cv) ps)) (hg : W.heap[g]? = some (.cells #[.int .i64 0, .int .i64 1, .int .i64 2, .string ⟨#[]⟩, .slice none 0 0, .slice none 0 0, .slice none 0 0, .int .i64 0, .int .i64 K, .int .i64 N, .string ⟨#[]⟩, .slice none 0 0, .slice none 0 0, .slice pv ps.length cv] 52)) (g6 : g ≠ b6) (g7 : g ≠ b7) (g9 : g ≠ b9) (hb : W.heap[b]? = some (.cells #[.int .i64 0, .int .i64 16, .int .i64 0, .string ⟨#[]⟩, .slice none 0 0, .slice none 0 0, .slice (some ⟨g, 0, none⟩) 2 2] 52)) : XBox b6 b7 b9 b (n + 1) (addE (n + 1)) W := by
  refine ⟨16, 0, [numE 2 n, addE n], some ⟨g, 0, none⟩, 2, rfl, hb, ((Out.block hg g6 g7 g9).and ho).imp fun W' ⟨h1, h2⟩ => ?_⟩
  rw [e]
  exact XRow.two (S := []) (S' := []) h1 (XRow.nil W' n) h2
theorem XBox.left {n g : Nat} {K N : Int} {ps : List (Ex 0 n)} {pv : Option Addr} {cv : Nat} (e : leftE n = (0, K, N, [], [], [], ps)) (ho : Out b6 b7 b9 W (fun W' => XRow W' n (.slice pv ps.length cv) ps)) (hg : W.heap[g]? = some (.cells #[.int .i64 0, .int .i64 K, .int .i64 N, .string ⟨#[]⟩, .slice none 0 0, .slice none 0 0, .slice pv ps.length cv, .int .i64 0, .int .i64 1, .int .i64 1, .string ⟨#[]⟩, .slice none 0 0, .slice none 0 0, .slice none 0 0] 52)) (g6 : g ≠ b6) (g7 : g ≠ b7) (g9 : g ≠ b9) (hb : W.heap[b]? = some (.cells #[.int .i64 0, .int .i64 16, .int .i64 0, .string ⟨#[]⟩, .slice none 0 0, .slice none 0 0, .slice (some ⟨g, 0, none⟩) 2 2] 52)) : XBox b6 b7 b9 b (n + 1) (leftE (n + 1)) W := by
  refine ⟨16, 0, [leftE n, numE 1 n], some ⟨g, 0, none⟩, 2, rfl, hb, ((Out.block hg g6 g7 g9).and ho).imp fun W' ⟨h1, h2⟩ => ?_⟩
  rw [e]
  exact XRow.two (S := []) (S' := []) h1 h2 (XRow.nil W' n)
/-- a statement of one expression in a block of its own. -/
theorem st_row {n g gx : Nat} {K : Int} {vb : Value} {bs : List (St 0 1 n)} (hx : W.heap[gx]? = some (.cells #[.int .i64 0, .int .i64 1, .int .i64 1, .string ⟨#[]⟩, .slice none 0 0, .slice none 0 0, .slice none 0 0] 52)) (hg : W.heap[g]? = some (.cells #[.int .i64 0, .int .i64 K, .string ⟨#[]⟩, .slice none 0 0, .slice (some ⟨gx, 0, none⟩) 1 1, vb, .slice none 0 0] 45)) (hb : StRow W 0 1 n vb bs) : StRow W 0 1 (n + 1) (.slice (some ⟨g, 0, none⟩) 1 1) [(0, K, [], [], [numE 1 0], bs, [])] := by
  have hc := Lib.cell_of_heap hg
  have hX : XRow W 1 (.slice (some ⟨gx, 0, none⟩) 1 1) [numE 1 0] := XRow.one (S := []) hx (XRow.nil W 0)
  have hE : StRow W 0 1 n (.slice none 0 0) [] := by
    cases n with
    | zero => exact ⟨none, 0, rfl⟩
    | succ n => exact ⟨none, 0, rfl, fun j s h => by simp at h⟩
  refine ⟨_, 1, rfl, fun j x hx => ?_⟩
  match j, hx with
  | 0, hx =>
    obtain rfl := Option.some.inj hx
    exact ⟨g, 0, _, _, _, _, rfl, hc 0, hc 1, hc 2, hc 3, hc 4, hc 5, hc 6, ⟨none, 0, rfl⟩, hX, hb, hE⟩
  | j + 1, hx => cases hx
end
end Go.Proofs.YtdahegogdblahaaGreatDoor
/-
  How SyntaxDeep's loops go on: the boxes and trees behind each statement. No walk.
-/
namespace Go.Proofs.YtdahegogdblahaaGreatDoor
open Go Go.RowKit Lx

/-- the expression that grows, by what the second argument says. -/
def xE (par : Bool) (n : Nat) : Ex 0 (n + 1) := if par = true then notE n else addE n
/-- what the loops keep. -/
structure DI (w : World) (b6 b7 b9 nt nx nl nf : Nat) (par : Bool) (vl : Value) (W : World) : Prop where
  below : Below w.heap.size w W
  lt : w.heap.size ≤ b6 ∧ b6 < b7 ∧ b7 < b9 ∧ b9 < W.heap.size
  ty : TBox b6 b7 b9 b6 nt W
  ex : XBox b6 b7 b9 b7 nx (xE par nx) W
  left : XBox b6 b7 b9 b9 nf (leftE nf) W
  st : Out b6 b7 b9 W (fun W' => StRow W' 0 1 (nl + 1) vl [stN nl])
section
variable {w W WB W2 : World} {b6 b7 b9 nt nx nl nf : Nat} {par : Bool} {vl : Value}
theorem stp_set {b : Nat} (hb : b = b6 ∨ b = b7 ∨ b = b9) (hB : Below W.heap.size W WB) (h1 : ∀ j, j ≠ b → W2.heap[j]? = WB.heap[j]?) (h2 : W2.heap.size = WB.heap.size) : Stp b6 b7 b9 W W2 :=
  ⟨by rw [h2]; exact hB.size, fun j hj a6 a7 a9 => (h1 j (by rintro rfl; rcases hb with h | h | h <;> omega)).trans (hB.block j hj)⟩
theorem DI.mv6 {n : Nat} (h : DI w b6 b7 b9 nt nx nl nf par vl W) (hB : Below W.heap.size W WB) (h1 : ∀ j, j ≠ b6 → W2.heap[j]? = WB.heap[j]?) (h2 : W2.heap.size = WB.heap.size) (h3 : Below w.heap.size WB W2) (hx : TBox b6 b7 b9 b6 n W2) : DI w b6 b7 b9 n nx nl nf par vl W2 := by
  obtain ⟨l1, l2, l3, l4⟩ := h.lt
  have hs := stp_set (b7 := b7) (b9 := b9) (.inl rfl) hB h1 h2
  exact ⟨(bon h.below hB).trans h3, ⟨l1, l2, l3, by have := hB.size; omega⟩, hx, h.ex.step hs ((h1 b7 (by omega)).trans (hB.block b7 (by omega))), h.left.step hs ((h1 b9 (by omega)).trans (hB.block b9 (by omega))), h.st.step hs⟩
theorem DI.mv7 {n : Nat} (h : DI w b6 b7 b9 nt nx nl nf par vl W) (hB : Below W.heap.size W WB) (h1 : ∀ j, j ≠ b7 → W2.heap[j]? = WB.heap[j]?) (h2 : W2.heap.size = WB.heap.size) (h3 : Below w.heap.size WB W2) (hx : XBox b6 b7 b9 b7 n (xE par n) W2) : DI w b6 b7 b9 nt n nl nf par vl W2 := by
  obtain ⟨l1, l2, l3, l4⟩ := h.lt
  have hs := stp_set (b6 := b6) (b9 := b9) (.inr (.inl rfl)) hB h1 h2
  exact ⟨(bon h.below hB).trans h3, ⟨l1, l2, l3, by have := hB.size; omega⟩, h.ty.step hs ((h1 b6 (by omega)).trans (hB.block b6 (by omega))), hx, h.left.step hs ((h1 b9 (by omega)).trans (hB.block b9 (by omega))), h.st.step hs⟩
theorem DI.mv9 {n : Nat} (h : DI w b6 b7 b9 nt nx nl nf par vl W) (hB : Below W.heap.size W WB) (h1 : ∀ j, j ≠ b9 → W2.heap[j]? = WB.heap[j]?) (h2 : W2.heap.size = WB.heap.size) (h3 : Below w.heap.size WB W2) (hx : XBox b6 b7 b9 b9 n (leftE n) W2) : DI w b6 b7 b9 nt nx nl n par vl W2 := by
  obtain ⟨l1, l2, l3, l4⟩ := h.lt
  have hs := stp_set (b6 := b6) (b7 := b7) (.inr (.inr rfl)) hB h1 h2
  exact ⟨(bon h.below hB).trans h3, ⟨l1, l2, l3, by have := hB.size; omega⟩, h.ty.step hs ((h1 b6 (by omega)).trans (hB.block b6 (by omega))), h.ex.step hs ((h1 b7 (by omega)).trans (hB.block b7 (by omega))), hx, h.st.step hs⟩
theorem DI.mvS {n : Nat} {v : Value} (h : DI w b6 b7 b9 nt nx nl nf par vl W) (hB : Below W.heap.size W W2) (hx : Out b6 b7 b9 W2 (fun W' => StRow W' 0 1 (n + 1) v [stN n])) : DI w b6 b7 b9 nt nx n nf par v W2 := by
  obtain ⟨l1, l2, l3, l4⟩ := h.lt
  have hs : Stp b6 b7 b9 W W2 := .below hB
  exact ⟨bon h.below hB, ⟨l1, l2, l3, by have := hB.size; omega⟩, h.ty.step hs (hB.block b6 (by omega)), h.ex.step hs (hB.block b7 (by omega)), h.left.step hs (hB.block b9 (by omega)), hx⟩
/-- t = ty(TPtr, t). -/
theorem DI.nextT {WA : World} {K : Int} {ps : List (Ty nt)} {pv : Option Addr} {cv : Nat} (h : DI w b6 b7 b9 nt nx nl nf par vl W) (e : ptrN nt = (K, [], [], [], ps)) (hblk : W.heap[b6]? = some (.cells #[.int .i64 K, .string ⟨#[]⟩, .slice none 0 0, .slice none 0 0, .slice pv ps.length cv] 27)) (hout : Out b6 b7 b9 W (fun W' => TyRow W' nt (.slice pv ps.length cv) ps))
    (hA : Below (W.alloc (.cells #[.int .i64 K, .string ⟨#[]⟩, .slice none 0 0, .slice none 0 0, .slice pv ps.length cv] 27)).heap.size (W.alloc (.cells #[.int .i64 K, .string ⟨#[]⟩, .slice none 0 0, .slice none 0 0, .slice pv ps.length cv] 27)) WA) :
    DI w b6 b7 b9 (nt + 1) nx nl nf par vl (((((WA.setCell ⟨b6, 0, none⟩ (.int .i64 5)).setCell ⟨b6, 1, none⟩ (.string ⟨#[]⟩)).setCell ⟨b6, 2, none⟩ (.slice none 0 0)).setCell ⟨b6, 3, none⟩ (.slice none 0 0)).setCell ⟨b6, 4, none⟩ (.slice (some ⟨W.heap.size, 0, none⟩) 1 1)) := by
  obtain ⟨l1, l2, l3, l4⟩ := h.lt
  have hB : Below W.heap.size W WA := bon (al1 _ _) hA
  obtain ⟨s1, s2, s3, s4⟩ := store5 (v0 := .int .i64 5) (v1 := .string ⟨#[]⟩) (v2 := .slice none 0 0) (v3 := .slice none 0 0) (v4 := .slice (some ⟨W.heap.size, 0, none⟩) 1 1) ((hB.block b6 (by omega)).trans hblk) l1
  refine h.mv6 hB s2 s3 s4 (TBox.next e (hout.step (stp_set (b7 := b7) (b9 := b9) (.inl rfl) hB s2 s3)) ((s2 W.heap.size (by omega)).trans (kp hA (hp1 _ _))) (by omega) (by omega) (by omega) s1)
/-- x = Expr{Kind: XNot, Parts: []Expr{x}}. -/
theorem DI.nextN {K N : Int} {ps : List (Ex 0 nx)} {pv : Option Addr} {cv : Nat} (h : DI w b6 b7 b9 nt nx nl nf true vl W) (e : xE true nx = (0, K, N, [], [], [], ps)) (hblk : W.heap[b7]? = some (.cells #[.int .i64 0, .int .i64 K, .int .i64 N, .string ⟨#[]⟩, .slice none 0 0, .slice none 0 0, .slice pv ps.length cv] 52)) (hout : Out b6 b7 b9 W (fun W' => XRow W' nx (.slice pv ps.length cv) ps)) :
    DI w b6 b7 b9 nt (nx + 1) nl nf true vl ((((((((W.setCell ⟨b7, 0, none⟩ (.int .i64 0)).setCell ⟨b7, 1, none⟩ (.int .i64 14)).setCell ⟨b7, 2, none⟩ (.int .i64 0)).setCell ⟨b7, 3, none⟩ (.string ⟨#[]⟩)).setCell ⟨b7, 4, none⟩ (.slice none 0 0)).setCell ⟨b7, 5, none⟩ (.slice none 0 0)).setCell ⟨b7, 6, none⟩ (.slice (some ⟨W.heap.size, 0, none⟩) 1 1)).alloc (.cells #[.int .i64 0, .int .i64 K, .int .i64 N, .string ⟨#[]⟩, .slice none 0 0, .slice none 0 0, .slice pv ps.length cv] 52)) := by
  obtain ⟨l1, l2, l3, l4⟩ := h.lt
  obtain ⟨s1, s2, s3, s4⟩ := store7 (B := w.heap.size) (v0 := .int .i64 0) (v1 := .int .i64 14) (v2 := .int .i64 0) (v3 := .string ⟨#[]⟩) (v4 := .slice none 0 0) (v5 := .slice none 0 0) (v6 := .slice (some ⟨W.heap.size, 0, none⟩) 1 1) hblk (by omega)
  generalize (((((((W.setCell ⟨b7, 0, none⟩ (.int .i64 0)).setCell ⟨b7, 1, none⟩ (.int .i64 14)).setCell ⟨b7, 2, none⟩ (.int .i64 0)).setCell ⟨b7, 3, none⟩ (.string ⟨#[]⟩)).setCell ⟨b7, 4, none⟩ (.slice none 0 0)).setCell ⟨b7, 5, none⟩ (.slice none 0 0)).setCell ⟨b7, 6, none⟩ (.slice (some ⟨W.heap.size, 0, none⟩) 1 1)) = Wc at s1 s2 s3 s4 ⊢
  have ha := al1 Wc (.cells #[.int .i64 0, .int .i64 K, .int .i64 N, .string ⟨#[]⟩, .slice none 0 0, .slice none 0 0, .slice pv ps.length cv] 52)
  have hs : Stp b6 b7 b9 W (Wc.alloc (.cells #[.int .i64 0, .int .i64 K, .int .i64 N, .string ⟨#[]⟩, .slice none 0 0, .slice none 0 0, .slice pv ps.length cv] 52)) := ⟨by rw [World.size_alloc]; omega, fun j hj a6 a7 a9 => (ha.block j (by omega)).trans (s2 j a7)⟩
  have hg : (Wc.alloc (.cells #[.int .i64 0, .int .i64 K, .int .i64 N, .string ⟨#[]⟩, .slice none 0 0, .slice none 0 0, .slice pv ps.length cv] 52)).heap[W.heap.size]? = some (.cells #[.int .i64 0, .int .i64 K, .int .i64 N, .string ⟨#[]⟩, .slice none 0 0, .slice none 0 0, .slice pv ps.length cv] 52) := by rw [← s3]; exact hp1 _ _
  exact ⟨(h.below.trans s4).trans (ha.mono (by have := h.below.size; omega)), ⟨l1, l2, l3, by rw [World.size_alloc]; omega⟩, h.ty.step hs ((ha.block b6 (by omega)).trans (s2 b6 (by omega))), XBox.not e (hout.step hs) hg (by omega) (by omega) (by omega) ((ha.block b7 (by omega)).trans s1), h.left.step hs ((ha.block b9 (by omega)).trans (s2 b9 (by omega))), h.st.step hs⟩
/-- x = two(XAdd, num(2), x). -/
theorem DI.nextA {g : Nat} {K N : Int} {ps : List (Ex 0 nx)} {pv : Option Addr} {cv : Nat} (h : DI w b6 b7 b9 nt nx nl nf false vl W) (e : xE false nx = (0, K, N, [], [], [], ps)) (hblk : W.heap[b7]? = some (.cells #[.int .i64 0, .int .i64 K, .int .i64 N, .string ⟨#[]⟩, .slice none 0 0, .slice none 0 0, .slice pv ps.length cv] 52)) (hout : Out b6 b7 b9 W (fun W' => XRow W' nx (.slice pv ps.length cv) ps)) (hB : Below W.heap.size W WB) (hgs : W.heap.size ≤ g)
    (hg : WB.heap[g]? = some (.cells #[.int .i64 0, .int .i64 1, .int .i64 2, .string ⟨#[]⟩, .slice none 0 0, .slice none 0 0, .slice none 0 0, .int .i64 0, .int .i64 K, .int .i64 N, .string ⟨#[]⟩, .slice none 0 0, .slice none 0 0, .slice pv ps.length cv] 52)) :
    DI w b6 b7 b9 nt (nx + 1) nl nf false vl (((((((WB.setCell ⟨b7, 0, none⟩ (.int .i64 0)).setCell ⟨b7, 1, none⟩ (.int .i64 16)).setCell ⟨b7, 2, none⟩ (.int .i64 0)).setCell ⟨b7, 3, none⟩ (.string ⟨#[]⟩)).setCell ⟨b7, 4, none⟩ (.slice none 0 0)).setCell ⟨b7, 5, none⟩ (.slice none 0 0)).setCell ⟨b7, 6, none⟩ (.slice (some ⟨g, 0, none⟩) 2 2)) := by
  obtain ⟨l1, l2, l3, l4⟩ := h.lt
  obtain ⟨s1, s2, s3, s4⟩ := store7 (B := w.heap.size) (v0 := .int .i64 0) (v1 := .int .i64 16) (v2 := .int .i64 0) (v3 := .string ⟨#[]⟩) (v4 := .slice none 0 0) (v5 := .slice none 0 0) (v6 := .slice (some ⟨g, 0, none⟩) 2 2) ((hB.block b7 (by omega)).trans hblk) (by omega)
  exact h.mv7 hB s2 s3 s4 (XBox.add e (hout.step (stp_set (b6 := b6) (b9 := b9) (.inr (.inl rfl)) hB s2 s3)) ((s2 g (by omega)).trans hg) (by omega) (by omega) (by omega) s1)
/-- left = two(XAdd, left, num(1)). -/
theorem DI.nextL {g : Nat} {K N : Int} {ps : List (Ex 0 nf)} {pv : Option Addr} {cv : Nat} (h : DI w b6 b7 b9 nt nx nl nf par vl W) (e : leftE nf = (0, K, N, [], [], [], ps)) (hblk : W.heap[b9]? = some (.cells #[.int .i64 0, .int .i64 K, .int .i64 N, .string ⟨#[]⟩, .slice none 0 0, .slice none 0 0, .slice pv ps.length cv] 52)) (hout : Out b6 b7 b9 W (fun W' => XRow W' nf (.slice pv ps.length cv) ps)) (hB : Below W.heap.size W WB) (hgs : W.heap.size ≤ g)
    (hg : WB.heap[g]? = some (.cells #[.int .i64 0, .int .i64 K, .int .i64 N, .string ⟨#[]⟩, .slice none 0 0, .slice none 0 0, .slice pv ps.length cv, .int .i64 0, .int .i64 1, .int .i64 1, .string ⟨#[]⟩, .slice none 0 0, .slice none 0 0, .slice none 0 0] 52)) :
    DI w b6 b7 b9 nt nx nl (nf + 1) par vl (((((((WB.setCell ⟨b9, 0, none⟩ (.int .i64 0)).setCell ⟨b9, 1, none⟩ (.int .i64 16)).setCell ⟨b9, 2, none⟩ (.int .i64 0)).setCell ⟨b9, 3, none⟩ (.string ⟨#[]⟩)).setCell ⟨b9, 4, none⟩ (.slice none 0 0)).setCell ⟨b9, 5, none⟩ (.slice none 0 0)).setCell ⟨b9, 6, none⟩ (.slice (some ⟨g, 0, none⟩) 2 2)) := by
  obtain ⟨l1, l2, l3, l4⟩ := h.lt
  obtain ⟨s1, s2, s3, s4⟩ := store7 (B := w.heap.size) (v0 := .int .i64 0) (v1 := .int .i64 16) (v2 := .int .i64 0) (v3 := .string ⟨#[]⟩) (v4 := .slice none 0 0) (v5 := .slice none 0 0) (v6 := .slice (some ⟨g, 0, none⟩) 2 2) ((hB.block b9 (by omega)).trans hblk) (by omega)
  exact h.mv9 hB s2 s3 s4 (XBox.left e (hout.step (stp_set (b6 := b6) (b7 := b7) (.inr (.inr rfl)) hB s2 s3)) ((s2 g (by omega)).trans hg) (by omega) (by omega) (by omega) s1)
/-- l = []Stmt{{Kind: SWhile, X: []Expr{num(1)}, Body: l}}. -/
theorem DI.nextS {WA : World} (h : DI w b6 b7 b9 nt nx nl nf par vl W) (hA : Below W.heap.size W WA) :
    DI w b6 b7 b9 nt nx (nl + 1) nf par (.slice (some ⟨WA.heap.size + 1, 0, none⟩) 1 1) ((WA.alloc (.cells #[.int .i64 0, .int .i64 1, .int .i64 1, .string ⟨#[]⟩, .slice none 0 0, .slice none 0 0, .slice none 0 0] 52)).alloc (.cells #[.int .i64 0, .int .i64 5, .string ⟨#[]⟩, .slice none 0 0, .slice (some ⟨WA.heap.size, 0, none⟩) 1 1, vl, .slice none 0 0] 45)) := by
  obtain ⟨l1, l2, l3, l4⟩ := h.lt
  have hs := hA.size
  have hB := bon hA (al2 WA (.cells #[.int .i64 0, .int .i64 1, .int .i64 1, .string ⟨#[]⟩, .slice none 0 0, .slice none 0 0, .slice none 0 0] 52) (.cells #[.int .i64 0, .int .i64 5, .string ⟨#[]⟩, .slice none 0 0, .slice (some ⟨WA.heap.size, 0, none⟩) 1 1, vl, .slice none 0 0] 45))
  refine h.mvS hB (((Out.block (hp2a _ _ _) (by omega) (by omega) (by omega)).and ((Out.block (hp2b _ _ _) (by omega) (by omega) (by omega)).and (h.st.step (.below hB)))).imp fun W' ⟨h1, h2, h3⟩ => ?_)
  exact st_row h1 h2 h3
end
theorem ptr_sz : ∀ i : Nat, szD (i + 1) (ptrN i) = i + 1
  | 0 => by rw [szD]; simp [ptrN, sumL]
  | i + 1 => by
    rw [szD]
    show 1 + 0 + 0 + 0 + sumL [] + ([ptrN i].map (szD (i + 1))).sum = _
    simp [ptr_sz i, sumL]; omega
/-- Type at a nested type. -/
theorem deep_type {w W : World} {b6 b7 b9 k : Nat} {K : Int} {ps : List (Ty k)} {pv : Option Addr} {cv : Nat} {X : ByteArray} {Y : Int} (hk : k ≤ 64) (e : ptrN k = (K, [], [], [], ps)) (hout : Out b6 b7 b9 W (fun W' => TyRow W' k (.slice pv ps.length cv) ps)) (ha : joinAns (typeAns k (ptrN k)) = .tuple #[.string X, .int .i64 Y]) (hb : Below w.heap.size w W) (ht : Tab w) (h5 : 4 ≤ w.heap.size) :
    Calls Tryz.prog 10 #[.agg #[.int .i64 K, .string ⟨#[]⟩, .slice none 0 0, .slice none 0 0, .slice pv ps.length cv]] W fun e w' => e = .returned (.tuple #[.string X, .int .i64 Y]) ∧ Below W.heap.size W w' := by
  have hz := ptr_sz k
  have hv : TyVal W k (.agg #[.int .i64 K, .string ⟨#[]⟩, .slice none 0 0, .slice none 0 0, .slice pv ps.length cv]) (ptrN k) := by
    rw [e]
    exact ⟨none, none, pv, 0, 0, cv, rfl, ⟨none, 0, rfl, fun j t h => by simp at h⟩, ⟨none, 0, rfl, fun j t h => by simp at h⟩, hout.here⟩
  have := Type_any k _ (ptrN k) W hv (fit_of_sz (by omega)).1 (fit_of_sz (by omega)).2 (ht.below hb h5) (Nat.le_trans h5 hb.size)
  rw [ha] at this
  exact this
/-- Expr at a nested expression. -/
theorem deep_expr {w W : World} {b6 b7 b9 k : Nat} {x : Ex 0 (k + 1)} {K N : Int} {ps : List (Ex 0 k)} {pv : Option Addr} {cv : Nat} {X : ByteArray} {Y : Int} (e : x = (0, K, N, [], [], [], ps)) (hout : Out b6 b7 b9 W (fun W' => XRow W' k (.slice pv ps.length cv) ps)) (hf : ExFit 0 k x ∧ ExFits 0 k (xPs x)) (ha : joinAns (exprAns 0 k x) = .tuple #[.string X, .int .i64 Y]) (hb : Below w.heap.size w W) (ht : Tab w) (h5 : 4 ≤ w.heap.size) :
    Calls Tryz.prog 19 #[.agg #[.int .i64 0, .int .i64 K, .int .i64 N, .string ⟨#[]⟩, .slice none 0 0, .slice none 0 0, .slice pv ps.length cv]] W fun e w' => e = .returned (.tuple #[.string X, .int .i64 Y]) ∧ Below W.heap.size W w' := by
  subst e
  have := Expr_any 0 k 0 K N [] none none pv 0 0 cv [] [] ps W ⟨none, 0, rfl⟩ ⟨none, 0, rfl, fun j t h => by simp at h⟩ hout.here.1 hout.here.2 hf.1 hf.2 (ht.below hb h5) (Nat.le_trans h5 hb.size)
  rw [ha] at this
  exact this
/-- Stmts at nested statements. -/
theorem deep_stmts {w W : World} {b6 b7 b9 k : Nat} {pl : Option Addr} {cl : Nat} {X : ByteArray} {Y : Int} (hout : Out b6 b7 b9 W (fun W' => StRow W' 0 1 (k + 1) (.slice pl 1 cl) [stN k])) (ha : joinAns (stmtsAns 0 1 (k + 1) [stN k]) = .tuple #[.string X, .int .i64 Y]) (hb : Below w.heap.size w W) (ht : Tab w) (h5 : 4 ≤ w.heap.size) :
    Calls Tryz.prog 13 #[.slice pl 1 cl] W fun e w' => e = .returned (.tuple #[.string X, .int .i64 Y]) ∧ Below W.heap.size W w' := by
  have := Stmts_any 0 1 (k + 1) pl cl [stN k] W hout.here (st_fit k) (ht.below hb h5) (Nat.le_trans h5 hb.size)
  rw [ha] at this
  exact this
theorem xE_ans (par : Bool) (i : Nat) (hi : i ≤ 64) : (ExFit 0 i (xE par i) ∧ ExFits 0 i (xPs (xE par i))) ∧ ∃ X : ByteArray, joinAns (exprAns 0 i (xE par i)) = .tuple #[.string X, .int .i64 (deepErr i)] := by
  cases par
  · exact ⟨add_fit i, add_ans i hi⟩
  · exact ⟨not_fit i, not_ans i hi⟩
/-- Depth at a nested type, handed on in a new slice. -/
theorem deep_depth {W WA : World} {b6 b7 b9 k g : Nat} {K : Int} {ps : List (Ty k)} {pv : Option Addr} {cv : Nat} (hk : k ≤ 64) (e : ptrN k = (K, [], [], [], ps)) (hout : Out b6 b7 b9 W (fun W' => TyRow W' k (.slice pv ps.length cv) ps)) (hs : Below W.heap.size W WA) (hg : WA.heap[g]? = some (.cells #[.int .i64 K, .string ⟨#[]⟩, .slice none 0 0, .slice none 0 0, .slice pv ps.length cv] 27)) :
    Calls Tryz.prog 14 #[.slice (some ⟨g, 0, none⟩) 1 1] WA fun e w' => e = .returned (.int .i64 ((k + 1 : Nat) : Int)) ∧ Below WA.heap.size WA w' := by
  have hr : TyRow WA (k + 1) (.slice (some ⟨g, 0, none⟩) 1 1) [ptrN k] := by
    rw [e]
    exact TyRow.one (S := []) hg ⟨none, 0, rfl, fun j t h => by simp at h⟩ ⟨none, 0, rfl, fun j t h => by simp at h⟩ (hout.step (.below hs)).here
  have hm : many (k + 1) [ptrN k] ≤ 1000000 := by
    have h1 := many_szL (k + 1) [ptrN k]
    have h2 := ptr_sz k
    simp [szL] at h1; omega
  have := Depth_any (k + 1) _ [ptrN k] WA hr hm
  rw [ptr_deep] at this
  exact this
end Go.Proofs.YtdahegogdblahaaGreatDoor
/-
  coillaw2.SyntaxDeep, walked.
-/
namespace Go.Proofs.YtdahegogdblahaaGreatDoor
open Go Go.RowKit Lx

set_option maxHeartbeats 1000000 in
set_option maxRecDepth 100000 in
theorem SyntaxDeep_any (n kind : Int) (w : World) (h0 : -9223372036854775808 ≤ n) (h1 : n ≤ 9223372036854775807) (ht : Tab w) (h5 : 4 ≤ w.heap.size) :
    Calls Tryz.prog 5 #[.int .i64 n, .int .i64 kind] w fun e w' => e = .returned (.bool true) ∧ Below w.heap.size w w' := by
  have HT := hide ht
  clear ht
  go_enter Tryz.func5, Tryz.ntmps5
  go_wp2_with fail
  refine (Within_any n (-1) 1 w h0 h1 (by decide) (by decide) (by decide)).mono ?_
  rintro _ _ ⟨⟨dd, rfl, hd1, hd2⟩, rfl⟩
  go_wp2_with fail
  refine (ty_any 1 none 0 0 w).mono ?_
  rintro _ w1 ⟨rfl, b1⟩
  go_wp2_with fail
  refine (num_any 1 _).mono ?_
  rintro _ w2 ⟨rfl, b2⟩
  go_wp2_with fail
  refine (num_any 1 _).mono ?_
  rintro _ w3 ⟨rfl, b3⟩
  go_wp2_with fail
  refine (num_any 1 _).mono ?_
  rintro _ w4 ⟨rfl, b4⟩
  obtain ⟨par, hpar⟩ : ∃ par : Bool, par = (kind.tmod 2 == 0) := ⟨_, rfl⟩
  have DI0 : Hid (DI w w1.heap.size w2.heap.size w4.heap.size 0 0 0 0 par (.slice (some ⟨w3.heap.size + 1, 0, none⟩) 1 1) (w4.alloc (.cells #[.int .i64 0, .int .i64 1, .int .i64 1, .string ⟨#[]⟩, .slice none 0 0, .slice none 0 0, .slice none 0 0] 52))) := by
    have z1 := b1.size
    have z2 := b2.size
    have z3 := b3.size
    have z4 := b4.size
    simp only [World.size_alloc] at z2 z3 z4
    have hall := al1 w4 (.cells #[.int .i64 0, .int .i64 1, .int .i64 1, .string ⟨#[]⟩, .slice none 0 0, .slice none 0 0, .slice none 0 0] 52)
    refine ⟨bon (bon (bon (bon (bon (bon (bon b1 (al1 _ _)) b2) (al1 _ _)) b3) (al2 _ _ _)) b4) hall, ⟨by omega, by omega, by omega, by simp⟩, ⟨1, [], none, 0, rfl, kp hall (kp b4 (kp (al2 _ _ _) (kp b3 (kp (al1 _ _) (kp b2 (hp1 _ _)))))), Out.all fun W' => ⟨none, 0, rfl⟩⟩, ⟨1, 1, [], none, 0, by cases par <;> rfl, kp hall (kp b4 (kp (al2 _ _ _) (kp b3 (hp1 _ _)))), Out.all fun W' => XRow.nil W' 0⟩, ⟨1, 1, [], none, 0, rfl, hp1 _ _, Out.all fun W' => XRow.nil W' 0⟩, ?_⟩
    refine ((Out.block (kp hall (kp b4 (hp2a _ _ _))) (by omega) (by omega) (by omega)).and (Out.block (kp hall (kp b4 (hp2b _ _ _))) (by omega) (by omega) (by omega))).imp fun W' ⟨h1, h2⟩ => ?_
    exact st_row h1 h2 ⟨none, 0, rfl⟩
  have HP := hide hpar
  go_wp2_with fail
  generalize w1.heap.size = b6 at DI0 ⊢
  generalize w2.heap.size = b7 at DI0 ⊢
  generalize (w4.alloc (.cells #[.int .i64 0, .int .i64 1, .int .i64 1, .string ⟨#[]⟩, .slice none 0 0, .slice none 0 0, .slice none 0 0] 52)) = W0 at DI0 ⊢
  generalize w4.heap.size = b9 at DI0 ⊢
  generalize (Value.slice (some ⟨w3.heap.size + 1, 0, none⟩) 1 1) = vl0 at DI0 ⊢
  clear b1 b2 b3 b4 hpar
  obtain ⟨q, hq⟩ : ∃ q : Nat, (q : Int) = 63 + dd := ⟨(63 + dd).toNat, by omega⟩
  have eq1 : IntKind.i64.wrap (63 + dd) = (q : Int) := by rw [IntKind.wrap_i64]; omega
  have hq2 : q ≤ 64 := by omega
  go_loopw [8, 10] (fun l i wr => ∃ (k : Nat) (vl : Value), i = .int .i64 k ∧ l = vl ∧ k ≤ q ∧ Hid (DI w b6 b7 b9 k k k 0 par vl wr)) (fun _ i _ => q - (intOf i).toNat)
  case atStart => exact ⟨0, vl0, rfl, rfl, by omega, unhide DI0⟩
  case round =>
    clear DI0
    obtain ⟨k, vl, rfl, hvl, hk, HD⟩ := hrel
    have hvl' := hvl.symm
    clear hvl
    subst hvl'
    by_cases hlt : k < q
    · have hlt' : (k : Int) < (q : Int) := by omega
      go_upto_region 9 with fail
      go_cut [] (fun wx => ∃ Wy : World, Wy = wx ∧ Hid (DI w b6 b7 b9 (k + 1) k k 0 par vl Wy))
      case first =>
        obtain ⟨K, ps, pv, cv, e, hblk, hout⟩ := (unhide HD).ty
        have hb6 : b6 < wr.heap.size := (Array.getElem?_eq_some_iff.1 hblk).1
        obtain ⟨⟨c0, c1, c2, c3, c4⟩, _⟩ := cells5_of hblk
        have NX := hide (fun WA => (unhide HD).nextT (WA := WA) e hblk hout)
        have HK := hide hblk
        clear e hblk hout
        go_wp2_with (go_at_call 15; refine (ty_any 5 _ 1 1 _).mono ?_; rintro x wA ⟨rfl, hbA⟩; obtain ⟨⟨e0, e1, e2, e3, e4⟩, fz⟩ := cells5_of (kp (bon (al1 _ _) hbA) (unhide HK)))
        go_meet
        case rel => exact ⟨_, rfl, unhide NX _ hbA⟩
      case rest =>
        obtain ⟨W1, rfl, HD1⟩ := hcut
        clear HD
        go_upto_if 40 with fail
        go_cut [] (fun wx => ∃ Wy : World, Wy = wx ∧ Hid (DI w b6 b7 b9 (k + 1) (k + 1) k 0 par vl Wy))
        case first =>
          obtain ⟨K, N, ps, pv, cv, e, hblk, hout⟩ := (unhide HD1).ex
          have hb7 : b7 < W1.heap.size := (Array.getElem?_eq_some_iff.1 hblk).1
          obtain ⟨⟨c0, c1, c2, c3, c4, c5, c6⟩, fz⟩ := cells7_of hblk
          cases par
          · have hp := unhide HP
            have hp' : (kind.tmod 2 == 0) = false := hp.symm
            have NX := hide (fun g WB => (unhide HD1).nextA (g := g) (WB := WB) e hblk hout)
            have HK := hide hblk
            clear e hblk hout hp
            go_wp2_with fail
            go_region_with (first
              | (go_at_call 17; refine (num_any 2 _).mono ?_; rintro x wA ⟨rfl, hbA0⟩; have hbA := (below_drew (Below.refl _ _)).trans hbA0; obtain ⟨⟨e0, e1, e2, e3, e4, e5, e6⟩, _⟩ := cells7_of (kp hbA (unhide HK)))
              | (go_at_call 18; refine (two_law 16 _ _ _ _ _ _ _ _ _ _ _ _ _ _ _).mono ?_; rintro x wB ⟨g, rfl, hg1, hg2, hbB⟩; obtain ⟨⟨f0, f1, f2, f3, f4, f5, f6⟩, fzB⟩ := cells7_of (kp (bon hbA hbB) (unhide HK))))
            all_goals
              go_wp2
              go_meet
              case rel => exact ⟨_, rfl, unhide NX g wB (bon hbA hbB) (Nat.le_trans hbA.size hg1) hg2⟩
          · have hp := unhide HP
            have hp' : (kind.tmod 2 == 0) = true := hp.symm
            have NX := hide ((unhide HD1).nextN e hblk hout)
            obtain ⟨⟨e0, e1, e2, e3, e4, e5, e6⟩, fz2⟩ := cells7_of (kp (al1 W1 (.cells #[.int .i64 0, .int .i64 K, .int .i64 N, .string ⟨#[]⟩, .slice none 0 0, .slice none 0 0, .slice pv ps.length cv] 52)) hblk)
            clear e hblk hout hp
            go_wp2
            go_meet
            case rel => exact ⟨_, rfl, unhide NX⟩
        case rest =>
          obtain ⟨W2, rfl, HD2⟩ := hcut
          clear HD1
          obtain ⟨pl, cl, evl⟩ : ∃ (pl : Option Addr) (cl : Nat), vl = .slice pl 1 cl := by
            obtain ⟨pl, cl, e, _⟩ := (unhide HD2).st.here
            exact ⟨pl, cl, e⟩
          subst evl
          have NX := hide (fun WA => (unhide HD2).nextS (WA := WA))
          go_wp2_with (go_at_call 17; refine (num_any 1 _).mono ?_; rintro x wA ⟨rfl, hbA⟩)
          go_roundw
          case rel => exact ⟨k + 1, _, by go_num, rfl, by omega, unhide NX _ hbA⟩
          case measure => simp [intOf]; omega
    · obtain rfl : k = q := by omega
      have hlt' : ¬ (k : Int) < (k : Int) := by omega
      go_wp2
      go_loopw [11] (fun i wr => ∃ j : Nat, i = .int .i64 j ∧ j ≤ 300 ∧ Hid (DI w b6 b7 b9 k k k j par vl wr)) (fun i _ => 300 - (intOf i).toNat)
      case atStart => exact ⟨0, rfl, by omega, unhide HD⟩
      case round =>
        clear HD
        obtain ⟨j, rfl, hj, HD⟩ := hrel
        by_cases hlt2 : j < 300
        · have hlt2' : (j : Int) < 300 := by omega
          obtain ⟨K, N, ps, pv, cv, e, hblk, hout⟩ := (unhide HD).left
          have hb9 : b9 < wr.heap.size := (Array.getElem?_eq_some_iff.1 hblk).1
          obtain ⟨⟨c0, c1, c2, c3, c4, c5, c6⟩, fz⟩ := cells7_of hblk
          have NX := hide (fun g WB => (unhide HD).nextL (g := g) (WB := WB) e hblk hout)
          have HK := hide hblk
          clear e hblk hout
          go_wp2_with fail
          go_region_with (first
            | (go_at_call 17; refine (num_any 1 _).mono ?_; rintro x wA ⟨rfl, hbA0⟩; have hbA := (below_drew (Below.refl _ _)).trans hbA0; obtain ⟨⟨e0, e1, e2, e3, e4, e5, e6⟩, _⟩ := cells7_of (kp hbA (unhide HK)))
            | (go_at_call 18; refine (two_law 16 _ _ _ _ _ _ _ _ _ _ _ _ _ _ _).mono ?_; rintro x wB ⟨g, rfl, hg1, hg2, hbB⟩; obtain ⟨⟨f0, f1, f2, f3, f4, f5, f6⟩, fzB⟩ := cells7_of (kp (bon hbA hbB) (unhide HK))))
          all_goals
            go_wp2
            go_roundw
            case rel => exact ⟨j + 1, by go_num, by omega, unhide NX g wB (bon hbA hbB) (Nat.le_trans hbA.size hg1) hg2⟩
            case measure => simp [intOf]; omega
        · obtain rfl : j = 300 := by omega
          have hlt2' : ¬ ((300 : Nat) : Int) < 300 := by omega
          obtain ⟨K, ps, pv, cv, e, hblk, hout⟩ := (unhide HD).ty
          obtain ⟨⟨c0, c1, c2, c3, c4⟩, _⟩ := cells5_of hblk
          obtain ⟨XK, XN, xs, xv, cx, xe, xblk, xout⟩ := (unhide HD).ex
          obtain ⟨⟨x0, x1, x2, x3, x4, x5, x6⟩, _⟩ := cells7_of xblk
          obtain ⟨LK, LN, ls, lv, cl, le, lblk, lout⟩ := (unhide HD).left
          obtain ⟨⟨y0, y1, y2, y3, y4, y5, y6⟩, _⟩ := cells7_of lblk
          obtain ⟨pl, cs, evl⟩ : ∃ (pl : Option Addr) (cl : Nat), vl = .slice pl 1 cl := by
            obtain ⟨pl, cl, e, _⟩ := (unhide HD).st.here
            exact ⟨pl, cl, e⟩
          subst evl
          have hbw := (unhide HD).below
          have he := ptr_ans k hq2
          obtain ⟨X1, he⟩ := he
          obtain ⟨hxf, X2, hxa⟩ := xE_ans par k hq2
          obtain ⟨X3, hsa⟩ := st_ans k hq2
          obtain ⟨X4, hla⟩ := left_ans 300 (by omega)
          have T5 := hide h5
          go_wp2_with fail
          refine (deep_type hq2 e hout he hbw (unhide HT) h5).mono ?_
          rintro _ v1 ⟨rfl, g1⟩
          obtain ⟨⟨x0, x1, x2, x3, x4, x5, x6⟩, _⟩ := cells7_of (kp g1 xblk)
          go_wp2_with fail
          refine (deep_expr xe (xout.step (.below g1)) hxf hxa (bon hbw g1) (unhide HT) h5).mono ?_
          rintro _ v2 ⟨rfl, g2⟩
          go_wp2_with fail
          refine (deep_stmts ((unhide HD).st.step (.below (bon g1 g2))) hsa (bon hbw (bon g1 g2)) (unhide HT) h5).mono ?_
          rintro _ v3 ⟨rfl, g3⟩
          have g13 := bon g1 (bon g2 g3)
          obtain ⟨⟨y0, y1, y2, y3, y4, y5, y6⟩, _⟩ := cells7_of (kp g13 lblk)
          go_wp2_with fail
          refine (deep_expr le (lout.step (.below g13)) (left_fit 300) hla (bon hbw g13) (unhide HT) h5).mono ?_
          rintro _ v4 ⟨rfl, g4⟩
          have g14 := bon g13 g4
          obtain ⟨⟨c0, c1, c2, c3, c4⟩, _⟩ := cells5_of (kp g14 hblk)
          have DP := hide (fun WA g hs hg => deep_depth (WA := WA) (g := g) hq2 e hout (bon g14 hs) hg)
          have hb4 := bon hbw g14
          have ewd : IntKind.i64.wrap (64 + dd) = ((k + 1 : Nat) : Int) := by rw [IntKind.wrap_i64]; omega
          obtain ⟨er, her⟩ : ∃ er : Int, er = deepErr k := ⟨_, rfl⟩
          have her2 : (er == 1) = (decide (dd > 0)) := by
            rw [her, deepErr]
            by_cases hk : k < 64
            · rw [if_pos hk, eq_comm]; simp; omega
            · rw [if_neg hk, eq_comm]; simp; omega
          rw [← her]
          clear her he hxa hsa hla hblk xblk lblk hout xout lout e xe le hxf
          go_wp2_with fail
          refine (unhide DP _ _ (al1 _ _) (hp1 _ _)).mono ?_
          rintro _ v5 ⟨rfl, g5⟩
          have hb5 := bon (bon hb4 (al1 _ _)) g5
          have RS := hide (SyntaxRuns_any v5 ((unhide HT).below hb5 (unhide T5)) (Nat.le_trans (unhide T5) hb5.size))
          go_wp2_with fail
          refine (unhide RS).mono ?_
          rintro _ v6 ⟨rfl, g6⟩
          have hb6' := bon hb5 g6
          go_wp2
          go_ret
          exact ⟨rfl, hb6'⟩
end Go.Proofs.YtdahegogdblahaaGreatDoor
