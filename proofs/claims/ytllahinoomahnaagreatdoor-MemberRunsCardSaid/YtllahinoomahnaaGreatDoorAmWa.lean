import Derived.Test.YtllahinoomahnaaGreatDoorAmV
set_option linter.unusedVariables false
set_option linter.unusedSimpArgs false
namespace Go.Proofs.YtllahinoomahnaaGreatDoor.Am
open Go

/- The staged evaluator says what the plain one says. -/
theorem c16_eq {α : Type} {i : Nat} (h : i < 16) (t : N16 α) (k : α → Bool) : (c16 i).run t k = k ((g16 i).run t) := by
  cases t
  rcases below16 h with rfl | rfl | rfl | rfl | rfl | rfl | rfl | rfl | rfl | rfl | rfl | rfl | rfl | rfl | rfl | rfl <;> rfl
theorem s16_eq {α : Type} {i : Nat} (h : i < 16) (t : N16 α) (c : α) (k : N16 α → Bool) : ∃ t', (s16 i).run t c k = k t' ∧ t'.toL = t.toL.set i c := by
  cases t
  rcases below16 h with rfl | rfl | rfl | rfl | rfl | rfl | rfl | rfl | rfl | rfl | rfl | rfl | rfl | rfl | rfl | rfl <;> exact ⟨_, rfl, rfl⟩
def Tm.at (t : Tm) (i : Nat) : Value := (g16 (Nat.mod i 16)).run ((g16 (Nat.div i 16)).run t.t)
def Tm.toL (t : Tm) : List Value := (List.range t.n).map t.at
structure Tm.Ok (t : Tm) : Prop where
  le : t.n ≤ 256
  un : ∀ i, t.n ≤ i → i < 256 → t.at i = undef
theorem Tm.len (t : Tm) : t.toL.length = t.n := by simp [Tm.toL]
theorem Tm.getE (t : Tm) (i : Nat) : t.toL[i]? = if i < t.n then some (t.at i) else none := by
  unfold Tm.toL
  rw [List.getElem?_map]
  by_cases h : i < t.n
  · rw [if_pos h, List.getElem?_range h]; rfl
  · rw [if_neg h, List.getElem?_eq_none (by simpa using h)]; rfl
theorem tw2_eq {a b : Nat} (ha : a < 16) (hb : b < 16) (t : Tm) : (tw2 a b).run t = (g16 b).run ((g16 a).run t.t) := by
  rcases below16 ha with rfl | rfl | rfl | rfl | rfl | rfl | rfl | rfl | rfl | rfl | rfl | rfl | rfl | rfl | rfl | rfl <;> rcases below16 hb with rfl | rfl | rfl | rfl | rfl | rfl | rfl | rfl | rfl | rfl | rfl | rfl | rfl | rfl | rfl | rfl <;> rfl
theorem twJ_eq {t : Tm} (h : t.Ok) (i : Nat) : (twJ i).run t = atD t.toL i := by
  rw [atD_eq, t.getE]
  unfold twJ
  cases hb : Nat.blt i 256 with
  | false =>
    have : ¬ i < 256 := fun e => by rw [(blt16 i 256).2 e] at hb; cases hb
    have h1 := h.le
    rw [if_neg (by omega)]; rfl
  | true =>
    have hi := (blt16 _ _).1 hb
    simp only [cond_true, natK_eq]
    rw [tw2_eq (by show i / 16 < 16; omega) (by show i % 16 < 16; omega)]
    by_cases e : i < t.n
    · rw [if_pos e]; rfl
    · rw [if_neg e]
      exact h.un i (by omega) hi
theorem tkJ_eq {t : Tm} (h : t.Ok) (i : Nat) (k : Value → Bool) : (tkJ i).run t k = k (atD t.toL i) := by
  rw [← twJ_eq h]
  unfold tkJ twJ
  cases Nat.blt i 256 <;> simp only [cond_true, cond_false, natK_eq, tk2]
theorem tsJ_eq {t : Tm} (h : t.Ok) (i : Nat) (v : Value) {k : Tm → Bool} {k' : List Value → Bool} (hk : ∀ t', t'.Ok → k t' = k' t'.toL) : (tsJ i).run t v k = k' (t.toL.set i v) := by
  have out : t.n ≤ i → t.toL.set i v = t.toL := fun e => List.set_eq_of_length_le (by rw [t.len]; exact e)
  have hle := h.le
  unfold tsJ
  cases hb : Nat.blt i 256 with
  | false =>
    have : ¬ i < 256 := fun e => by rw [(blt16 i 256).2 e] at hb; cases hb
    rw [out (by omega)]
    exact hk t h
  | true =>
    have hi := (blt16 _ _).1 hb
    simp only [cond_true, natK_eq, ts2]
    obtain ⟨n, u⟩ := t
    show Bool.rec (motive := fun _ => Bool) (k ⟨n, u⟩) _ (Nat.blt i n) = _
    cases hn : Nat.blt i n with
    | false =>
      have : ¬ i < n := fun e => by rw [(blt16 i n).2 e] at hn; cases hn
      rw [out (by show n ≤ i; omega)]
      exact hk _ h
    | true =>
      have hin := (blt16 _ _).1 hn
      have ha : Nat.div i 16 < 16 := by show i / 16 < 16; omega
      have hm : Nat.mod i 16 < 16 := by show i % 16 < 16; omega
      show (u16 (Nat.div i 16)).run u (fun x p => (s16 (Nat.mod i 16)).run x v fun x => p x fun u => k ⟨n, u⟩) = _
      obtain ⟨up, e0, f0⟩ := u16_eq ha u (fun x p => (s16 (Nat.mod i 16)).run x v fun x => p x fun u => k ⟨n, u⟩)
      rw [e0]
      obtain ⟨x', e1, f1⟩ := s16_eq hm ((g16 (Nat.div i 16)).run u) v (fun x => k ⟨n, up x⟩)
      rw [e1]
      obtain ⟨u', e2, f2⟩ : ∃ u', up x' = u' ∧ u'.toL = u.toL.set (Nat.div i 16) x' := ⟨_, rfl, f0 x'⟩
      rw [e2]
      have hat : ∀ j, j < 256 → Tm.at ⟨n, u'⟩ j = if j = i then v else Tm.at ⟨n, u⟩ j := fun j hj => by
        have hja : Nat.div j 16 < 16 := by show j / 16 < 16; omega
        have hjm : Nat.mod j 16 < 16 := by show j % 16 < 16; omega
        unfold Tm.at
        show (g16 (Nat.mod j 16)).run ((g16 (Nat.div j 16)).run u') = _
        rw [g16_up hja f2]
        by_cases e : Nat.div j 16 = Nat.div i 16
        · rw [if_pos e, g16_up hjm f1]
          by_cases e' : Nat.mod j 16 = Nat.mod i 16
          · have q1 : j / 16 = i / 16 := e
            have q2 : j % 16 = i % 16 := e'
            rw [if_pos e', if_pos (by omega)]
          · rw [if_neg e', if_neg (fun q => e' (by rw [q]))]
            show _ = (g16 (Nat.mod j 16)).run ((g16 (Nat.div j 16)).run u)
            rw [e]
        · rw [if_neg e, if_neg (fun q => e (by rw [q]))]
      have hok : Tm.Ok ⟨n, u'⟩ := ⟨hle, fun j h1 h2 => by
        have h1' : n ≤ j := h1
        rw [hat j h2, if_neg (by omega)]; exact h.un j h1 h2⟩
      rw [hk _ hok]
      congr 1
      apply List.ext_getElem?
      intro j
      rw [Tm.getE, List.getElem?_set, Tm.getE, Tm.len]
      by_cases hj : j < n
      · have hle' : n ≤ 256 := hle
        have hj2 : j < 256 := by omega
        show (if j < n then some (Tm.at ⟨n, u'⟩ j) else none) = if i = j then (if i < n then some v else none) else if j < n then some (Tm.at ⟨n, u⟩ j) else none
        rw [if_pos hj, hat j hj2]
        by_cases e : j = i
        · subst e; rw [if_pos rfl, if_pos rfl, if_pos hj]
        · rw [if_neg e, if_neg (fun q => e q.symm), if_pos hj]
      · show (if j < n then some (Tm.at ⟨n, u'⟩ j) else none) = if i = j then (if i < n then some v else none) else if j < n then some (Tm.at ⟨n, u⟩ j) else none
        rw [if_neg hj, if_neg (by omega), if_neg hj]
theorem valW_eq (v : Value) (t : Tm) : (valW v).run t = v := by
  unfold valW
  split <;> simp only [natK_eq]
theorem valK_eq (v : Value) (t : Tm) (k : Value → Bool) : (valK v).run t k = k v := by
  unfold valK
  split <;> simp only [natK_eq]
theorem opW_eq {t : Tm} (h : t.Ok) (x : Operand) : (opW x).run t = opv t.toL x := by
  cases x with
  | tmp n => exact twJ_eq h n
  | const v => exact valW_eq _ t
  | global g => rfl
  | func f => rfl
theorem opK_eq {t : Tm} (h : t.Ok) (x : Operand) (k : Value → Bool) : (opK x).run t k = k (opv t.toL x) := by
  cases x with
  | tmp n => exact tkJ_eq h n k
  | const v => exact valK_eq _ t k
  | global g => rfl
  | func f => rfl
theorem opsK_eq {t : Tm} (h : t.Ok) : ∀ (xs : List Operand) (k : List Value → Bool), (opsK xs).run t k = k (xs.map (opv t.toL))
  | [], k => rfl
  | x :: r, k => by
    show (opK x).run t (fun v => (opsK r).run t fun l => k (v :: l)) = _
    rw [opK_eq h, opsK_eq h r]; rfl
theorem fN_eq (k : Nat → Bool) (n : Nat) : fN k n = k n := by cases n <;> rfl
theorem fI_eq (k : Int → Bool) (n : Int) : fI k n = k n := by
  cases n with
  | ofNat a => exact fN_eq (fun z => k (Int.ofNat z)) a
  | negSucc a => exact fN_eq (fun z => k (Int.negSucc z)) a
theorem fL_eq {α : Type} : ∀ (l : List α) (k : List α → Bool), fL l k = k l
  | [], _ => rfl
  | a :: r, k => fL_eq r fun r => k (a :: r)
theorem eqBy_eq : ∀ (x y : List UInt8), eqBy x y = bytesEq x y
  | [], [] => rfl
  | [], _ :: _ => rfl
  | _ :: _, [] => rfl
  | a :: x, b :: y => by
    show Bool.rec (motive := fun _ => Bool) false (eqBy x y) (Nat.beq a.toNat b.toNat) = cond (Nat.beq a.toNat b.toNat) (bytesEq x y) false
    rw [eqBy_eq x y]
    cases Nat.beq a.toNat b.toNat <;> rfl
theorem fA_eq (k : Option Addr → Bool) (a : Option Addr) : fA k a = k a := by
  cases a with
  | none => rfl
  | some a =>
    obtain ⟨b, o, sp⟩ := a
    show fN (fun b => fN (fun o => k (some ⟨b, o, sp⟩)) o) b = _
    rw [fN_eq, fN_eq]
theorem fV_eq (k : Value → Bool) (v : Value) : fV k v = k v := by
  cases v with
  | bool b => cases b <;> rfl
  | int kd n => exact fI_eq (fun n => k (.int kd n)) n
  | string s => exact fL_eq s.data.toList fun l => k (.string ⟨⟨l⟩⟩)
  | pointer a => exact fA_eq (fun a => k (.pointer a)) a
  | slice a n c =>
    show fA (fun a => fN (fun n => fN (fun c => k (.slice a n c)) c) n) a = _
    rw [fA_eq, fN_eq, fN_eq]
  | _ => rfl
def oK (k : Value → Bool) : Option Value → Bool
  | some v => k v
  | none => false
theorem fv1_eq (k : Value → Bool) (o : Option Value) : fv1 k o = oK k o := by
  cases o with
  | none => rfl
  | some v => exact fV_eq k v
theorem fvK_eq (k : K2) (s : St) (o : Option Value) : fvK k s o = vK k s o := by
  cases o with
  | none => rfl
  | some v => exact fV_eq (fun v => k v s) v
theorem oK_vK (k : K2) (s : St) (o : Option Value) : oK (fun v => k v s) o = vK k s o := by cases o <;> rfl
/- lists. -/
def drS (f : List Value → Bool) (l : List Value) : Bool := List.casesOn (motive := fun _ => Bool) l false (fun _ l => f l)
def drN (k : List Value → Bool) : Nat → List Value → Bool
  | 0, l => k l
  | n + 1, l => drS (drN k n) l
theorem drN_eq (k : List Value → Bool) : ∀ (n : Nat) (l : List Value), drN k n l = if n ≤ l.length then k (l.drop n) else false
  | 0, l => by simp [drN]
  | n + 1, [] => by simp [drN, drS]
  | n + 1, a :: l => by
    show drN k n l = _
    rw [drN_eq k n l]
    simp
theorem dropW_dr : ∀ (n : Nat) (l : List Value) (k : List Value → Bool), (dropW n).run l k = drN k n l
  | 0, _, _ => rfl
  | 1, _, _ => rfl
  | 2, _, _ => rfl
  | 3, _, _ => rfl
  | 4, _, _ => rfl
  | 5, _, _ => rfl
  | 6, _, _ => rfl
  | 7, _, _ => rfl
  | n + 8, l, k => by
    have ih : (fun l => (dropW n).run l k) = drN k n := funext fun l => dropW_dr n l k
    show drS (drS (drS (drS (drS (drS (drS (drS (fun l => (dropW n).run l k)))))))) l = drS (drS (drS (drS (drS (drS (drS (drS (drN k n)))))))) l
    rw [ih]
theorem dropW_eq (n : Nat) (l : List Value) (k : List Value → Bool) : (dropW n).run l k = if n ≤ l.length then k (l.drop n) else false := by rw [dropW_dr, drN_eq]
def tkN : Nat → List Value → (List Value → Bool) → Bool
  | 0, _, k => k []
  | n + 1, l, k => List.casesOn (motive := fun _ => Bool) l false (fun v l => tkN n l fun r => k (v :: r))
theorem tkN_eq : ∀ (n : Nat) (l : List Value) (k : List Value → Bool), tkN n l k = if n ≤ l.length then k (l.take n) else false
  | 0, l, k => by simp [tkN]
  | n + 1, [], k => by simp [tkN]
  | n + 1, a :: l, k => by
    show tkN n l (fun r => k (a :: r)) = _
    rw [tkN_eq n l]
    simp
theorem takeW_tk : ∀ (n : Nat), (takeW n).run = tkN n
  | 0 => rfl
  | 1 => rfl
  | 2 => rfl
  | 3 => rfl
  | n + 4 => by
    have ih := takeW_tk n
    funext l k
    show List.rec (motive := fun _ => Bool) false (fun v0 l _ => List.rec (motive := fun _ => Bool) false (fun v1 l _ => List.rec (motive := fun _ => Bool) false (fun v2 l _ => List.rec (motive := fun _ => Bool) false (fun v3 l _ => (takeW n).run l fun l => k (v0 :: v1 :: v2 :: v3 :: l)) l) l) l) l = _
    rw [ih]
    rfl
theorem takeW_eq (n : Nat) (l : List Value) (k : List Value → Bool) : (takeW n).run l k = if n ≤ l.length then k (l.take n) else false := by rw [takeW_tk, tkN_eq]
def upN : Nat → List Value → (List Value → (List Value → Bool) → Bool) → (List Value → Bool) → Bool
  | 0, l, f, k => f l k
  | n + 1, l, f, k => List.casesOn (motive := fun _ => Bool) l false (fun v l => upN n l f fun r => k (v :: r))
theorem upN_eq : ∀ (n : Nat) (l : List Value) (f : List Value → (List Value → Bool) → Bool) (k : List Value → Bool), upN n l f k = if n ≤ l.length then f (l.drop n) (fun r => k (l.take n ++ r)) else false
  | 0, l, f, k => by simp [upN]
  | n + 1, [], f, k => by simp [upN]
  | n + 1, a :: l, f, k => by
    show upN n l f (fun r => k (a :: r)) = _
    rw [upN_eq n l]
    simp
theorem upW_up : ∀ (n : Nat), (upW n).run = upN n
  | 0 => rfl
  | 1 => rfl
  | 2 => rfl
  | 3 => rfl
  | n + 4 => by
    have ih := upW_up n
    funext l f k
    show List.rec (motive := fun _ => Bool) false (fun v0 l _ => List.rec (motive := fun _ => Bool) false (fun v1 l _ => List.rec (motive := fun _ => Bool) false (fun v2 l _ => List.rec (motive := fun _ => Bool) false (fun v3 l _ => (upW n).run l f fun l => k (v0 :: v1 :: v2 :: v3 :: l)) l) l) l) l = _
    rw [ih]
    rfl
theorem upW_eq (n : Nat) (l : List Value) (f : List Value → (List Value → Bool) → Bool) (k : List Value → Bool) : (upW n).run l f k = if n ≤ l.length then f (l.drop n) (fun r => k (l.take n ++ r)) else false := by rw [upW_up, upN_eq]
theorem overW_eq : ∀ (n : Nat) (l vs : List Value) (k : List Value → Bool), (overW n).run l vs k = if vs.length = n ∧ n ≤ l.length then k (vs ++ l.drop n) else false
  | 0, l, [], k => by simp [overW]
  | 0, l, v :: vs, k => by simp [overW]
  | n + 1, [], vs, k => by simp [overW]
  | n + 1, a :: l, [], k => by simp [overW]
  | n + 1, a :: l, v :: vs, k => by
    show (overW n).run l vs (fun l => k (v :: l)) = _
    rw [overW_eq n l vs]
    simp
theorem putN_cat : ∀ (l : List Value) (n : Nat) (vs : List Value), n + vs.length ≤ l.length → putN l n vs = l.take n ++ (vs ++ l.drop (n + vs.length))
  | l, 0, [], _ => by simp [putN]
  | [], 0, v :: vs, h => by simp at h
  | a :: l, 0, v :: vs, h => by
    rw [putN, putN_cat l 0 vs (by simp at h ⊢; omega)]
    simp
  | [], n + 1, vs, h => by simp at h
  | a :: l, n + 1, vs, h => by
    rw [putN, putN_cat l n vs (by simp at h ⊢; omega)]
    simp [Nat.add_right_comm]
theorem put_eq (o n : Nat) (cs vs : List Value) (k : List Value → Bool) : (upW o).run cs (fun l k => (overW n).run l vs k) k = cond (Nat.beq vs.length n && Nat.ble (o + n) cs.length) (k (putN cs o vs)) false := by
  rw [upW_eq]
  simp only [overW_eq, List.length_drop]
  by_cases h : vs.length = n ∧ o + n ≤ cs.length
  · rw [if_pos (by omega), if_pos ⟨h.1, by omega⟩]
    have e : (Nat.beq vs.length n && Nat.ble (o + n) cs.length) = true := by
      rw [Bool.and_eq_true]
      exact ⟨by rw [h.1]; exact Nat.beq_refl n, Nat.ble_eq_true_of_le h.2⟩
    rw [e, putN_cat _ _ _ (by omega), h.1]
    simp only [cond_true, List.drop_drop]
  · have e : (Nat.beq vs.length n && Nat.ble (o + n) cs.length) = false := by
      rw [Bool.eq_false_iff]
      intro e
      rw [Bool.and_eq_true] at e
      exact h ⟨Nat.eq_of_beq_eq_true e.1, Nat.le_of_ble_eq_true e.2⟩
    rw [e]
    by_cases h2 : o ≤ cs.length
    · rw [if_pos h2, if_neg (by omega)]; rfl
    · rw [if_neg h2]; rfl
theorem nthW_eq (n : Nat) (l : List Value) (k : Value → Bool) : (nthW n).run l k = oK k (at? l n) := by
  show (dropW n).run l (fun l => headK l k) = _
  rw [dropW_eq, at?_eq]
  by_cases h : n < l.length
  · rw [if_pos (by omega), List.drop_eq_getElem_cons h, List.getElem?_eq_getElem h]; rfl
  · rw [List.getElem?_eq_none (by omega)]
    by_cases e : n ≤ l.length
    · rw [if_pos e, List.drop_eq_nil_of_le (by omega)]; rfl
    · rw [if_neg e]; rfl
end Go.Proofs.YtllahinoomahnaaGreatDoor.Am
