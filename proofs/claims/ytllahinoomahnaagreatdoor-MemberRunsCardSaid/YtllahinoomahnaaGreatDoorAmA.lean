import Derived.Test.YtllahinoomahnaaGreatDoorAmDef
import Derived.RowKit
namespace Go.Proofs.YtllahinoomahnaaGreatDoor.Am
open Go

/-- where a row lies: its block, how many cells the block has, how many an element has. -/
abbrev Rho := Nat → Option (Nat × Nat × Nat)
def one : Value → Bool
  | .agg _ => false
  | .tuple _ => false
  | .chan _ => false
  | _ => true
/-- an address as it lies. -/
def AR (ρ : Rho) (a : Addr) (b : Addr) : Prop := ∃ x, ρ a.block = some x ∧ b = ⟨x.1, a.off, none⟩
/-- what a capacity says: nothing, or just how great it is. -/
def capOk (c cap : Nat) : Prop := c = 0 ∨ c = cap + 1
def SR (ρ : Rho) (a : Option Addr) (n c : Nat) (u : Value) : Prop :=
  match a with
  | none => n = 0 ∧ u = .slice none 0 0
  | some a => ∃ (b : Addr) (cap : Nat) (x : Nat × Nat × Nat), u = .slice (some b) n cap ∧ n ≤ cap ∧ capOk c cap ∧ ρ a.block = some x ∧ (a.off = 0 → cap * x.2.2 ≤ x.2.1) ∧ (a.off = 0 ∨ 0 < n → b = ⟨x.1, a.off, none⟩)
/-- a value and what it is in a world. -/
def VR (ρ : Rho) : Value → Value → Prop
  | .bool b, u => u = .bool b
  | .int k n, u => u = .int k n
  | .string s, u => u = .string s
  | .pointer none, u => u = .pointer none
  | .pointer (some a), u => ∃ b, AR ρ a b ∧ u = .pointer (some b)
  | .slice a n c, u => SR ρ a n c u
  | .map none, u => u = .map none
  | .map (some n), u => ∃ x, ρ n = some x ∧ u = .map (some x.1)
  | .nilFunc, u => u = .nilFunc
  | .nilIface, u => u = .nilIface
  | .chan none, _ => True
  | .iface t v, u => ∃ y, u = .iface t y ∧ VR ρ v y
  | .agg xs, u => ∃ ys : Array Value, u = .agg ys ∧ ys.size = xs.size ∧ ∀ i (h : i < xs.size), one xs[i] = true ∧ ∃ y, ys[i]? = some y ∧ VR ρ xs[i] y
  | .tuple xs, u => ∃ ys : Array Value, u = .tuple ys ∧ ys.size = xs.size ∧ ∀ i (h : i < xs.size), ∃ y, ys[i]? = some y ∧ VR ρ xs[i] y
  | .func fn xs zs, u => ∃ ys vs : Array Value, u = .func fn ys vs ∧ ys.size = xs.size ∧ vs.size = zs.size ∧ (∀ i (h : i < xs.size), ∃ y, ys[i]? = some y ∧ VR ρ xs[i] y) ∧ ∀ i (h : i < zs.size), ∃ y, vs[i]? = some y ∧ VR ρ zs[i] y
  | _, _ => False
def Sub (ρ ρ' : Rho) : Prop := ∀ n x, ρ n = some x → ρ' n = some x
theorem VR.mono {ρ ρ' : Rho} (h : Sub ρ ρ') : ∀ (v u : Value), VR ρ v u → VR ρ' v u := by
  intro v u
  fun_induction VR ρ v u with
  | case1 b u => intro h1; simpa [VR] using h1
  | case2 k n u => intro h1; simpa [VR] using h1
  | case3 s u => intro h1; simpa [VR] using h1
  | case4 u => intro h1; simpa [VR] using h1
  | case5 a u =>
    rintro ⟨b, ⟨x, hx, rfl⟩, rfl⟩
    rw [VR]; exact ⟨_, ⟨x, h _ _ hx, rfl⟩, rfl⟩
  | case6 a n c u =>
    intro h1
    rw [VR]
    cases a with
    | none => exact h1
    | some a =>
      obtain ⟨b, cap, x, e, h2, h3, hx, h4, h5⟩ := h1
      exact ⟨b, cap, x, e, h2, h3, h _ _ hx, h4, h5⟩
  | case7 u => intro h1; simpa [VR] using h1
  | case8 n u =>
    rintro ⟨x, hx, rfl⟩
    rw [VR]; exact ⟨x, h _ _ hx, rfl⟩
  | case9 u => intro h1; simpa [VR] using h1
  | case10 u => intro h1; simpa [VR] using h1
  | case11 u => intro _; rw [VR]; trivial
  | case12 t v u ih =>
    rintro ⟨y, e, hy⟩
    rw [VR]; exact ⟨y, e, ih y hy⟩
  | case13 xs u ih =>
    rintro ⟨ys, e, hs, hy⟩
    rw [VR]; exact ⟨ys, e, hs, fun i hi => ⟨(hy i hi).1, let ⟨y, e, hv⟩ := (hy i hi).2; ⟨y, e, ih i hi y hv⟩⟩⟩
  | case14 xs u ih =>
    rintro ⟨ys, e, hs, hy⟩
    rw [VR]; exact ⟨ys, e, hs, fun i hi => let ⟨y, e, hv⟩ := hy i hi; ⟨y, e, ih i hi y hv⟩⟩
  | case15 fn xs zs u ih1 ih2 =>
    rintro ⟨ys, vs, e, hs, hs2, hy, hz⟩
    rw [VR]; exact ⟨ys, vs, e, hs, hs2, fun i hi => let ⟨y, e, hv⟩ := hy i hi; ⟨y, e, ih1 i hi y hv⟩, fun i hi => let ⟨y, e, hv⟩ := hz i hi; ⟨y, e, ih2 i hi y hv⟩⟩
  | case16 => intro h1; exact h1.elim
theorem VR.one {ρ : Rho} {v u : Value} (h : VR ρ v u) (ho : one v = true) : one u = true := by
  cases v with
  | agg xs => simp [Am.one] at ho
  | tuple xs => simp [Am.one] at ho
  | chan r => simp [Am.one] at ho
  | bool b => rw [VR] at h; subst h; rfl
  | int k n => rw [VR] at h; subst h; rfl
  | string s => rw [VR] at h; subst h; rfl
  | pointer a =>
    cases a with
    | none => rw [VR] at h; subst h; rfl
    | some a => rw [VR] at h; obtain ⟨b, _, rfl⟩ := h; rfl
  | slice a n c =>
    rw [VR] at h
    cases a with
    | none => obtain ⟨_, rfl⟩ := h; rfl
    | some a => obtain ⟨b, cap, x, rfl, _⟩ := h; rfl
  | map r => cases r with
    | none => rw [VR] at h; subst h; rfl
    | some r => rw [VR] at h; obtain ⟨x, _, rfl⟩ := h; rfl
  | nilFunc => rw [VR] at h; subst h; rfl
  | nilIface => rw [VR] at h; subst h; rfl
  | iface t v => rw [VR] at h; obtain ⟨y, rfl, _⟩ := h; rfl
  | func fn xs zs => rw [VR] at h; obtain ⟨ys, vs, rfl, _⟩ := h; rfl
  | float k b => simp [VR] at h
  | complex k a b => simp [VR] at h
/-- values one by one. -/
def L2 (ρ : Rho) (xs ys : List Value) : Prop := ys.length = xs.length ∧ ∀ (i : Nat) (v : Value), xs[i]? = some v → ∃ u, ys[i]? = some u ∧ VR ρ v u
theorem L2.mono {ρ ρ' : Rho} (h : Sub ρ ρ') {xs ys : List Value} (hl : L2 ρ xs ys) : L2 ρ' xs ys := ⟨hl.1, fun i v hv => let ⟨u, e, hu⟩ := hl.2 i v hv; ⟨u, e, hu.mono h⟩⟩
theorem L2.nil (ρ : Rho) : L2 ρ [] [] := ⟨rfl, fun i v h => by simp at h⟩
theorem L2.cons {ρ : Rho} {v u : Value} {xs ys : List Value} (h : VR ρ v u) (hl : L2 ρ xs ys) : L2 ρ (v :: xs) (u :: ys) := ⟨by simp [hl.1], fun i x hx => by
  cases i with
  | zero => simp at hx; subst hx; exact ⟨u, rfl, h⟩
  | succ i => simpa using hl.2 i x (by simpa using hx)⟩
theorem L2.inv {ρ : Rho} {v : Value} {xs zs : List Value} (h : L2 ρ (v :: xs) zs) : ∃ u ys, zs = u :: ys ∧ VR ρ v u ∧ L2 ρ xs ys := by
  match zs, h with
  | [], h => exact absurd h.1 (by simp)
  | u :: ys, h =>
    obtain ⟨u', e, hu⟩ := h.2 0 v rfl
    obtain rfl : u = u' := by simpa using e
    exact ⟨u, ys, rfl, hu, by simpa using h.1, fun i x hx => by simpa using h.2 (i + 1) x (by simpa using hx)⟩
theorem L2.append {ρ : Rho} : ∀ {xs ys zs vs : List Value}, L2 ρ xs ys → L2 ρ zs vs → L2 ρ (xs ++ zs) (ys ++ vs)
  | [], ys, zs, vs, h, k => by
    have : ys = [] := List.length_eq_zero_iff.1 h.1
    subst this; simpa using k
  | x :: xs, ys, zs, vs, h, k => by
    obtain ⟨u, ys, rfl, hu, hl⟩ := h.inv
    exact (hl.append k).cons hu
theorem L2.take {ρ : Rho} {xs ys : List Value} (h : L2 ρ xs ys) (n : Nat) : L2 ρ (xs.take n) (ys.take n) := ⟨by simp [h.1], fun i v hv => by
  rw [List.getElem?_take] at hv ⊢
  split at hv
  · rename_i hi; rw [if_pos hi]; exact h.2 i v hv
  · cases hv⟩
theorem L2.drop {ρ : Rho} {xs ys : List Value} (h : L2 ρ xs ys) (n : Nat) : L2 ρ (xs.drop n) (ys.drop n) := ⟨by simp [h.1], fun i v hv => by
  rw [List.getElem?_drop] at hv ⊢
  exact h.2 _ v hv⟩
theorem vr_agg {ρ : Rho} {xs : Array Value} {u : Value} : VR ρ (.agg xs) u ↔ ∃ ys : Array Value, u = .agg ys ∧ L2 ρ xs.toList ys.toList ∧ ∀ v ∈ xs.toList, one v = true := by
  rw [VR]
  constructor
  · rintro ⟨ys, rfl, hs, h⟩
    refine ⟨ys, rfl, ⟨by simpa using hs, fun i v hv => ?_⟩, fun v hv => ?_⟩
    · have hi : i < xs.size := by simpa using (List.getElem?_eq_some_iff.1 hv).1
      obtain ⟨y, e, hy⟩ := (h i hi).2
      have : xs[i] = v := by simpa [hi] using hv
      exact ⟨y, by simpa using e, this ▸ hy⟩
    · obtain ⟨i, hi, rfl⟩ := List.getElem_of_mem hv
      simpa using (h i (by simpa using hi)).1
  · rintro ⟨ys, rfl, hl, ho⟩
    refine ⟨ys, rfl, by simpa using hl.1, fun i hi => ⟨ho _ (by simp), ?_⟩⟩
    obtain ⟨u, e, hu⟩ := hl.2 i xs[i] (by simp [hi])
    exact ⟨u, by simpa using e, hu⟩
theorem vr_tuple {ρ : Rho} {xs : Array Value} {u : Value} : VR ρ (.tuple xs) u ↔ ∃ ys : Array Value, u = .tuple ys ∧ L2 ρ xs.toList ys.toList := by
  rw [VR]
  constructor
  · rintro ⟨ys, rfl, hs, h⟩
    refine ⟨ys, rfl, by simpa using hs, fun i v hv => ?_⟩
    have hi : i < xs.size := by simpa using (List.getElem?_eq_some_iff.1 hv).1
    obtain ⟨y, e, hy⟩ := h i hi
    have : xs[i] = v := by simpa [hi] using hv
    exact ⟨y, by simpa using e, this ▸ hy⟩
  · rintro ⟨ys, rfl, hl⟩
    refine ⟨ys, rfl, by simpa using hl.1, fun i hi => ?_⟩
    obtain ⟨u, e, hu⟩ := hl.2 i xs[i] (by simp [hi])
    exact ⟨u, by simpa using e, hu⟩
theorem arr_l2 {ρ : Rho} {xs ys : Array Value} : (ys.size = xs.size ∧ ∀ i (h : i < xs.size), ∃ y, ys[i]? = some y ∧ VR ρ xs[i] y) ↔ L2 ρ xs.toList ys.toList := by
  constructor
  · rintro ⟨hs, h⟩
    obtain ⟨zs, e, hl⟩ := vr_tuple.1 (by rw [VR]; exact ⟨ys, rfl, hs, h⟩ : VR ρ (.tuple xs) (.tuple ys))
    injection e with e
    exact e ▸ hl
  · intro h
    have := vr_tuple.2 ⟨ys, rfl, h⟩
    rw [VR] at this
    obtain ⟨zs, e, h1⟩ := this
    injection e with e
    exact e ▸ h1
theorem vr_func {ρ : Rho} {fn : Fn} {xs zs : Array Value} {u : Value} : VR ρ (.func fn xs zs) u ↔ ∃ ys vs : Array Value, u = .func fn ys vs ∧ L2 ρ xs.toList ys.toList ∧ L2 ρ zs.toList vs.toList := by
  rw [VR]
  constructor
  · rintro ⟨ys, vs, rfl, h1, h2, h3, h4⟩
    exact ⟨ys, vs, rfl, arr_l2.1 ⟨h1, h3⟩, arr_l2.1 ⟨h2, h4⟩⟩
  · rintro ⟨ys, vs, rfl, h1, h2⟩
    exact ⟨ys, vs, rfl, (arr_l2.2 h1).1, (arr_l2.2 h2).1, (arr_l2.2 h1).2, (arr_l2.2 h2).2⟩
/-- a constant is what it is. -/
theorem plain_vr {ρ : Rho} : ∀ {v : Value}, plain1 v = true → VR ρ v v ∧ one v = true
  | .int .., _ => ⟨by rw [VR], rfl⟩
  | .string .., _ => ⟨by rw [VR], rfl⟩
  | .bool .., _ => ⟨by rw [VR], rfl⟩
  | .pointer none, _ => ⟨by rw [VR], rfl⟩
  | .slice none 0 0, _ => ⟨by rw [VR]; exact ⟨rfl, rfl⟩, rfl⟩
  | .map none, _ => ⟨by rw [VR], rfl⟩
  | .nilFunc, _ => ⟨by rw [VR], rfl⟩
  | .nilIface, _ => ⟨by rw [VR], rfl⟩
theorem plains_l2 {ρ : Rho} {l : List Value} (h : ∀ v ∈ l, plain1 v = true) : L2 ρ l l := ⟨rfl, fun _ v hv => ⟨v, hv, (plain_vr (h v (List.mem_of_getElem? hv))).1⟩⟩
theorem const_vr {ρ : Rho} (v : Value) : VR ρ (constV v) v := by
  have hj : VR ρ junk v := by rw [VR]; trivial
  unfold constV
  split
  · rename_i cs
    rcases h : cs.toList.all plain1 with _ | _
    · exact hj
    · have h' := List.all_eq_true.1 h
      exact vr_agg.2 ⟨cs, rfl, plains_l2 h', fun v hv => (plain_vr (ρ := ρ) (h' v hv)).2⟩
  · rcases h : plain1 v with _ | _
    · exact hj
    · exact (plain_vr h).1
end Go.Proofs.YtllahinoomahnaaGreatDoor.Am
