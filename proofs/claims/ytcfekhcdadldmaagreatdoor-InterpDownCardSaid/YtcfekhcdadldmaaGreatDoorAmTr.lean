import Derived.Calls
import Derived.KernelRfl
namespace Go.Proofs.YtcfekhcdadldmaaGreatDoor.Am
open Go
/- Trees with sixteen branches; what is closed is worked out once (a structure around a function). -/
structure N16 (α : Type) where
  mk :: (x0 x1 x2 x3 x4 x5 x6 x7 x8 x9 x10 x11 x12 x13 x14 x15 : α)
structure G16 (α : Type) where
  run : N16 α → α
structure U16 (α : Type) where
  run : N16 α → (α → (α → (N16 α → Bool) → Bool) → Bool) → Bool
def g16 {α : Type} : Nat → G16 α
  | 0 => ⟨fun t => t.x0⟩
  | 1 => ⟨fun t => t.x1⟩
  | 2 => ⟨fun t => t.x2⟩
  | 3 => ⟨fun t => t.x3⟩
  | 4 => ⟨fun t => t.x4⟩
  | 5 => ⟨fun t => t.x5⟩
  | 6 => ⟨fun t => t.x6⟩
  | 7 => ⟨fun t => t.x7⟩
  | 8 => ⟨fun t => t.x8⟩
  | 9 => ⟨fun t => t.x9⟩
  | 10 => ⟨fun t => t.x10⟩
  | 11 => ⟨fun t => t.x11⟩
  | 12 => ⟨fun t => t.x12⟩
  | 13 => ⟨fun t => t.x13⟩
  | 14 => ⟨fun t => t.x14⟩
  | _ => ⟨fun t => t.x15⟩
def u16 {α : Type} : Nat → U16 α
  | 0 => ⟨fun t k => N16.casesOn (motive := fun _ => Bool) t fun x0 x1 x2 x3 x4 x5 x6 x7 x8 x9 x10 x11 x12 x13 x14 x15 => k x0 fun c p => p ⟨c, x1, x2, x3, x4, x5, x6, x7, x8, x9, x10, x11, x12, x13, x14, x15⟩⟩
  | 1 => ⟨fun t k => N16.casesOn (motive := fun _ => Bool) t fun x0 x1 x2 x3 x4 x5 x6 x7 x8 x9 x10 x11 x12 x13 x14 x15 => k x1 fun c p => p ⟨x0, c, x2, x3, x4, x5, x6, x7, x8, x9, x10, x11, x12, x13, x14, x15⟩⟩
  | 2 => ⟨fun t k => N16.casesOn (motive := fun _ => Bool) t fun x0 x1 x2 x3 x4 x5 x6 x7 x8 x9 x10 x11 x12 x13 x14 x15 => k x2 fun c p => p ⟨x0, x1, c, x3, x4, x5, x6, x7, x8, x9, x10, x11, x12, x13, x14, x15⟩⟩
  | 3 => ⟨fun t k => N16.casesOn (motive := fun _ => Bool) t fun x0 x1 x2 x3 x4 x5 x6 x7 x8 x9 x10 x11 x12 x13 x14 x15 => k x3 fun c p => p ⟨x0, x1, x2, c, x4, x5, x6, x7, x8, x9, x10, x11, x12, x13, x14, x15⟩⟩
  | 4 => ⟨fun t k => N16.casesOn (motive := fun _ => Bool) t fun x0 x1 x2 x3 x4 x5 x6 x7 x8 x9 x10 x11 x12 x13 x14 x15 => k x4 fun c p => p ⟨x0, x1, x2, x3, c, x5, x6, x7, x8, x9, x10, x11, x12, x13, x14, x15⟩⟩
  | 5 => ⟨fun t k => N16.casesOn (motive := fun _ => Bool) t fun x0 x1 x2 x3 x4 x5 x6 x7 x8 x9 x10 x11 x12 x13 x14 x15 => k x5 fun c p => p ⟨x0, x1, x2, x3, x4, c, x6, x7, x8, x9, x10, x11, x12, x13, x14, x15⟩⟩
  | 6 => ⟨fun t k => N16.casesOn (motive := fun _ => Bool) t fun x0 x1 x2 x3 x4 x5 x6 x7 x8 x9 x10 x11 x12 x13 x14 x15 => k x6 fun c p => p ⟨x0, x1, x2, x3, x4, x5, c, x7, x8, x9, x10, x11, x12, x13, x14, x15⟩⟩
  | 7 => ⟨fun t k => N16.casesOn (motive := fun _ => Bool) t fun x0 x1 x2 x3 x4 x5 x6 x7 x8 x9 x10 x11 x12 x13 x14 x15 => k x7 fun c p => p ⟨x0, x1, x2, x3, x4, x5, x6, c, x8, x9, x10, x11, x12, x13, x14, x15⟩⟩
  | 8 => ⟨fun t k => N16.casesOn (motive := fun _ => Bool) t fun x0 x1 x2 x3 x4 x5 x6 x7 x8 x9 x10 x11 x12 x13 x14 x15 => k x8 fun c p => p ⟨x0, x1, x2, x3, x4, x5, x6, x7, c, x9, x10, x11, x12, x13, x14, x15⟩⟩
  | 9 => ⟨fun t k => N16.casesOn (motive := fun _ => Bool) t fun x0 x1 x2 x3 x4 x5 x6 x7 x8 x9 x10 x11 x12 x13 x14 x15 => k x9 fun c p => p ⟨x0, x1, x2, x3, x4, x5, x6, x7, x8, c, x10, x11, x12, x13, x14, x15⟩⟩
  | 10 => ⟨fun t k => N16.casesOn (motive := fun _ => Bool) t fun x0 x1 x2 x3 x4 x5 x6 x7 x8 x9 x10 x11 x12 x13 x14 x15 => k x10 fun c p => p ⟨x0, x1, x2, x3, x4, x5, x6, x7, x8, x9, c, x11, x12, x13, x14, x15⟩⟩
  | 11 => ⟨fun t k => N16.casesOn (motive := fun _ => Bool) t fun x0 x1 x2 x3 x4 x5 x6 x7 x8 x9 x10 x11 x12 x13 x14 x15 => k x11 fun c p => p ⟨x0, x1, x2, x3, x4, x5, x6, x7, x8, x9, x10, c, x12, x13, x14, x15⟩⟩
  | 12 => ⟨fun t k => N16.casesOn (motive := fun _ => Bool) t fun x0 x1 x2 x3 x4 x5 x6 x7 x8 x9 x10 x11 x12 x13 x14 x15 => k x12 fun c p => p ⟨x0, x1, x2, x3, x4, x5, x6, x7, x8, x9, x10, x11, c, x13, x14, x15⟩⟩
  | 13 => ⟨fun t k => N16.casesOn (motive := fun _ => Bool) t fun x0 x1 x2 x3 x4 x5 x6 x7 x8 x9 x10 x11 x12 x13 x14 x15 => k x13 fun c p => p ⟨x0, x1, x2, x3, x4, x5, x6, x7, x8, x9, x10, x11, x12, c, x14, x15⟩⟩
  | 14 => ⟨fun t k => N16.casesOn (motive := fun _ => Bool) t fun x0 x1 x2 x3 x4 x5 x6 x7 x8 x9 x10 x11 x12 x13 x14 x15 => k x14 fun c p => p ⟨x0, x1, x2, x3, x4, x5, x6, x7, x8, x9, x10, x11, x12, x13, c, x15⟩⟩
  | _ => ⟨fun t k => N16.casesOn (motive := fun _ => Bool) t fun x0 x1 x2 x3 x4 x5 x6 x7 x8 x9 x10 x11 x12 x13 x14 x15 => k x15 fun c p => p ⟨x0, x1, x2, x3, x4, x5, x6, x7, x8, x9, x10, x11, x12, x13, x14, c⟩⟩
def n16 {α : Type} (a : α) : N16 α := ⟨a, a, a, a, a, a, a, a, a, a, a, a, a, a, a, a⟩
def N16.toL {α : Type} (t : N16 α) : List α := [t.x0, t.x1, t.x2, t.x3, t.x4, t.x5, t.x6, t.x7, t.x8, t.x9, t.x10, t.x11, t.x12, t.x13, t.x14, t.x15]
theorem below16 {i : Nat} (h : i < 16) : i = 0 ∨ i = 1 ∨ i = 2 ∨ i = 3 ∨ i = 4 ∨ i = 5 ∨ i = 6 ∨ i = 7 ∨ i = 8 ∨ i = 9 ∨ i = 10 ∨ i = 11 ∨ i = 12 ∨ i = 13 ∨ i = 14 ∨ i = 15 := by omega
theorem g16_eq {α : Type} {i : Nat} (h : i < 16) (t : N16 α) : t.toL[i]? = some ((g16 i).run t) := by
  rcases below16 h with rfl | rfl | rfl | rfl | rfl | rfl | rfl | rfl | rfl | rfl | rfl | rfl | rfl | rfl | rfl | rfl <;> rfl
theorem u16_eq {α : Type} {i : Nat} (h : i < 16) (t : N16 α) (k : α → (α → (N16 α → Bool) → Bool) → Bool) : ∃ up : α → N16 α, (u16 i).run t k = k ((g16 i).run t) (fun c p => p (up c)) ∧ ∀ c, (up c).toL = t.toL.set i c := by
  cases t
  rcases below16 h with rfl | rfl | rfl | rfl | rfl | rfl | rfl | rfl | rfl | rfl | rfl | rfl | rfl | rfl | rfl | rfl <;> exact ⟨_, rfl, fun _ => rfl⟩
theorem g16_up {α : Type} {i j : Nat} (hj : j < 16) {t t' : N16 α} {c : α} (h : t'.toL = t.toL.set i c) : (g16 j).run t' = if j = i then c else (g16 j).run t := by
  have h1 := g16_eq hj t'
  have h2 := g16_eq hj t
  rw [h, List.getElem?_set] at h1
  by_cases e : i = j
  · subst e
    rw [if_pos rfl, if_pos (by simpa [N16.toL] using hj)] at h1
    rw [if_pos rfl]
    exact (Option.some.inj h1).symm
  · rw [if_neg e, h2] at h1
    rw [if_neg (fun e' => e e'.symm)]
    exact (Option.some.inj h1).symm
theorem g16_n16 {α : Type} (i : Nat) (a : α) : (g16 i).run (n16 a) = a := by
  rcases Nat.lt_or_ge i 16 with h | h
  · rcases below16 h with rfl | rfl | rfl | rfl | rfl | rfl | rfl | rfl | rfl | rfl | rfl | rfl | rfl | rfl | rfl | rfl <;> rfl
  · unfold g16
    split <;> rfl
def natK {β : Type} (k : Nat → β) : Nat → β
  | 0 => k 0
  | n + 1 => k (Nat.succ n)
theorem natK_eq {β : Type} (k : Nat → β) (n : Nat) : natK k n = k n := by cases n <;> rfl
/-- a tree over numbers below 65,536. -/
def Tr (α : Type) (_ : Nat) : Type := N16 (N16 (N16 (N16 (Option α))))
structure HG (α : Type) where
  run : N16 (N16 (N16 (N16 (Option α)))) → Option α
structure HU (α : Type) where
  run : N16 (N16 (N16 (N16 (Option α)))) → Option α → (N16 (N16 (N16 (N16 (Option α)))) → Bool) → Bool
def hg4 {α : Type} (a b c d : Nat) : HG α := ⟨fun h => (g16 d).run ((g16 c).run ((g16 b).run ((g16 a).run h)))⟩
def hg {α : Type} (n : Nat) : HG α := cond (Nat.blt n 65536) (natK (fun d => natK (fun c => natK (fun b => natK (fun a => hg4 a b c d) (Nat.div n 4096)) (Nat.mod (Nat.div n 256) 16)) (Nat.mod (Nat.div n 16) 16)) (Nat.mod n 16)) ⟨fun _ => none⟩
def hu4 {α : Type} (a b c d : Nat) : HU α := ⟨fun h r k => (u16 a).run h fun x p => (u16 b).run x fun y q => (u16 c).run y fun z o => (u16 d).run z fun _ m => m r fun z => o z fun y => q y fun x => p x k⟩
def hu {α : Type} (n : Nat) : HU α := cond (Nat.blt n 65536) (natK (fun d => natK (fun c => natK (fun b => natK (fun a => hu4 a b c d) (Nat.div n 4096)) (Nat.mod (Nat.div n 256) 16)) (Nat.mod (Nat.div n 16) 16)) (Nat.mod n 16)) ⟨fun _ _ _ => false⟩
def e16a {α : Type} : N16 (Option α) := n16 none
def e16b {α : Type} : N16 (N16 (Option α)) := n16 e16a
def e16c {α : Type} : N16 (N16 (N16 (Option α))) := n16 e16b
def Tr.nil {α : Type} (d : Nat) : Tr α d := (n16 e16c : N16 (N16 (N16 (N16 (Option α)))))
def Tr.get {α : Type} (d : Nat) (t : Tr α d) (n : Nat) : Option α := (hg n).run t
def Tr.setK {α : Type} (d : Nat) (t : Tr α d) (n : Nat) (v : Option α) (k : Tr α d → Bool) : Bool := (hu n).run t v k
theorem Tr.get_nil {α : Type} (d m : Nat) : Tr.get (α := α) d (Tr.nil d) m = none := by
  unfold Tr.get hg
  cases Nat.blt m 65536 with
  | false => rfl
  | true => simp only [cond_true, natK_eq, hg4, Tr.nil, e16c, e16b, e16a, g16_n16]
theorem blt16 (m n : Nat) : Nat.blt m n = true ↔ m < n := by unfold Nat.blt; exact ⟨fun h => Nat.le_of_ble_eq_true h, fun h => Nat.ble_eq_true_of_le h⟩
/-- what was put is what is found, and all else as before. -/
theorem Tr.setK_get {α : Type} (d : Nat) (t : Tr α d) (n : Nat) (v : Option α) (k : Tr α d → Bool) (h : Tr.setK d t n v k = true) :
    ∃ t', k t' = true ∧ ∀ m r, Tr.get d t' m = some r → (m = n ∧ v = some r) ∨ (m ≠ n ∧ Tr.get d t m = some r) := by
  unfold Tr.setK hu at h
  cases hn : Nat.blt n 65536 with
  | false => rw [hn] at h; cases h
  | true =>
    rw [hn] at h
    simp only [cond_true, natK_eq, hu4] at h
    have hlt : n < 65536 := (blt16 _ _).1 hn
    have ha : Nat.div n 4096 < 16 := by show n / 4096 < 16; omega
    have hb : Nat.mod (Nat.div n 256) 16 < 16 := by show n / 256 % 16 < 16; omega
    have hc : Nat.mod (Nat.div n 16) 16 < 16 := by show n / 16 % 16 < 16; omega
    have hd : Nat.mod n 16 < 16 := by show n % 16 < 16; omega
    revert h
    obtain ⟨u1, e1, f1⟩ := u16_eq ha (α := N16 (N16 (N16 (Option α)))) t (fun x p => (u16 (Nat.mod (Nat.div n 256) 16)).run x fun y q => (u16 (Nat.mod (Nat.div n 16) 16)).run y fun z o => (u16 (Nat.mod n 16)).run z fun _ m => m v fun z => o z fun y => q y fun x => p x k)
    rw [e1]
    clear e1
    generalize hX : (g16 (Nat.div n 4096)).run t = X
    obtain ⟨u2, e2, f2⟩ := u16_eq hb X (fun y q => (u16 (Nat.mod (Nat.div n 16) 16)).run y fun z o => (u16 (Nat.mod n 16)).run z fun _ m => m v fun z => o z fun y => q y fun x => k (u1 x))
    rw [e2]
    clear e2
    generalize hY : (g16 (Nat.mod (Nat.div n 256) 16)).run X = Y
    obtain ⟨u3, e3, f3⟩ := u16_eq hc Y (fun z o => (u16 (Nat.mod n 16)).run z fun _ m => m v fun z => o z fun y => k (u1 (u2 y)))
    rw [e3]
    clear e3
    generalize hZ : (g16 (Nat.mod (Nat.div n 16) 16)).run Y = Z
    obtain ⟨u4, e4, f4⟩ := u16_eq hd Z (fun _ m => m v fun z => k (u1 (u2 (u3 z))))
    rw [e4]
    clear e4
    intro h
    refine ⟨_, h, fun m r hm => ?_⟩
    unfold Tr.get hg at hm ⊢
    cases hml : Nat.blt m 65536 with
    | false => rw [hml] at hm; cases hm
    | true =>
      rw [hml] at hm
      simp only [cond_true, natK_eq, hg4] at hm ⊢
      have hmlt : m < 65536 := (blt16 _ _).1 hml
      have ha' : Nat.div m 4096 < 16 := by show m / 4096 < 16; omega
      have hb' : Nat.mod (Nat.div m 256) 16 < 16 := by show m / 256 % 16 < 16; omega
      have hc' : Nat.mod (Nat.div m 16) 16 < 16 := by show m / 16 % 16 < 16; omega
      have hd' : Nat.mod m 16 < 16 := by show m % 16 < 16; omega
      rw [g16_up ha' (f1 _)] at hm
      by_cases q1 : Nat.div m 4096 = Nat.div n 4096
      · rw [if_pos q1, g16_up hb' (f2 _)] at hm
        by_cases q2 : Nat.mod (Nat.div m 256) 16 = Nat.mod (Nat.div n 256) 16
        · rw [if_pos q2, g16_up hc' (f3 _)] at hm
          by_cases q3 : Nat.mod (Nat.div m 16) 16 = Nat.mod (Nat.div n 16) 16
          · rw [if_pos q3, g16_up hd' (f4 _)] at hm
            by_cases q4 : Nat.mod m 16 = Nat.mod n 16
            · rw [if_pos q4] at hm
              left
              refine ⟨?_, hm⟩
              have q1' : m / 4096 = n / 4096 := q1
              have q2' : m / 256 % 16 = n / 256 % 16 := q2
              have q3' : m / 16 % 16 = n / 16 % 16 := q3
              have q4' : m % 16 = n % 16 := q4
              omega
            · rw [if_neg q4] at hm
              right
              refine ⟨fun e => q4 (by rw [e]), ?_⟩
              rw [q1, hX, q2, hY, q3, hZ]; exact hm
          · rw [if_neg q3] at hm
            right
            refine ⟨fun e => q3 (by rw [e]), ?_⟩
            rw [q1, hX, q2, hY]; exact hm
        · rw [if_neg q2] at hm
          right
          refine ⟨fun e => q2 (by rw [e]), ?_⟩
          rw [q1, hX]; exact hm
      · rw [if_neg q1] at hm
        right
        exact ⟨fun e => q1 (by rw [e]), hm⟩
end Go.Proofs.YtcfekhcdadldmaaGreatDoor.Am
