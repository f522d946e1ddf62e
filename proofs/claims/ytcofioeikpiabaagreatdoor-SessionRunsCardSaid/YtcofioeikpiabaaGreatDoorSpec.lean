/-
  Plain functions on bytes: what package lex does, on lists of bytes. No program, no world.
-/
namespace Go.Proofs.YtcofioeikpiabaaGreatDoor
namespace Lx

def blankB (b : Int) : Bool := b == 9 || b == 10 || b == 13 || b == 32
def smallB (b : Int) : Bool := decide (97 ≤ b) && decide (b ≤ 122)
def greatB (b : Int) : Bool := decide (65 ≤ b) && decide (b ≤ 90)
def digitB (b : Int) : Bool := decide (48 ≤ b) && decide (b ≤ 57)
def signs : List Int := [40, 41, 123, 125, 59, 58, 44, 46, 61, 60, 43, 45, 42]
def signB (b : Int) : Bool := signs.contains b
def nameB (b : Int) : Bool := smallB b || greatB b || digitB b || b == 95
def beginB (b : Int) : Bool := smallB b || greatB b || digitB b || b == 34 || signB b
def plainB (b : Int) : Bool := decide (32 ≤ b) && decide (b ≤ 126)
def escB (b : Int) : Int := if b = 110 then 10 else if b = 34 then 34 else if b = 92 then 92 else 0
def escOk (b : Int) : Bool := b == 110 || b == 34 || b == 92

abbrev Bs := List UInt8
/-- how many bytes of blanks and remarks stand ahead; true: within a remark. -/
def skipN : Bool → Bs → Nat
  | _, [] => 0
  | true, c :: r => if c = 10 then 1 + skipN false r else 1 + skipN true r
  | false, c :: r => if blankB (c.toNat : Int) = true then 1 + skipN false r else if c = 47 ∧ r.head? = some 47 then 1 + skipN true r else 0
def skip (l : Bs) : Nat := skipN false l
theorem skipN_le : ∀ (l : Bs) (b : Bool), skipN b l ≤ l.length
  | [], b => by cases b <;> simp [skipN]
  | c :: r, true => by
    have h1 := skipN_le r true
    have h2 := skipN_le r false
    simp only [skipN, List.length_cons]; split <;> omega
  | c :: r, false => by
    have h1 := skipN_le r true
    have h2 := skipN_le r false
    simp only [skipN, List.length_cons]; split
    · omega
    · split <;> omega
theorem skip_le (l : Bs) : skip l ≤ l.length := skipN_le l false
/-- in a remark: up to the end of the line. -/
theorem skipN_remark : ∀ (l : Bs), skipN true l = l.findIdx (· == 10) + skip (l.drop (l.findIdx (· == 10)))
  | [] => by simp [skipN, skip]
  | c :: r => by
    have ih := skipN_remark r
    by_cases h : c = 10
    · subst h; simp [skipN, skip, List.findIdx_cons, blankB]
    · have hb : (c == 10) = false := by simpa using h
      simp only [skipN, h, if_false, List.findIdx_cons, hb, cond_false, List.drop_succ_cons, ih]; omega
theorem skip_blank (c : UInt8) (r : Bs) (h : blankB (c.toNat : Int) = true) : skip (c :: r) = 1 + skip r := by simp [skip, skipN, h]
theorem skip_two (l : Bs) (h : [47, 47].isPrefixOf l = true) : skip l = l.findIdx (· == 10) + skip (l.drop (l.findIdx (· == 10))) := by
  match l, h with
  | [], h => simp [List.isPrefixOf] at h
  | [c], h => simp [List.isPrefixOf] at h
  | c :: d :: r, h =>
    simp [List.isPrefixOf] at h
    obtain ⟨rfl, rfl⟩ := h
    have e : skip (47 :: 47 :: r) = skipN true (47 :: 47 :: r) := by simp [skip, skipN, blankB]
    rw [e, skipN_remark]
theorem skip_none (c : UInt8) (r : Bs) (h : blankB (c.toNat : Int) = false) (h2 : [47, 47].isPrefixOf (c :: r) = false) : skip (c :: r) = 0 := by
  have : ¬ (c = 47 ∧ r.head? = some 47) := by
    rintro ⟨rfl, hr⟩
    cases r with
    | nil => simp at hr
    | cons d r => simp at hr; subst hr; simp [List.isPrefixOf] at h2
  simp only [skip, skipN, h, Bool.false_eq_true, if_false, this]

/-- a refusal: how far behind the token's beginning, and why; or a token: its kind, text, number, and how many bytes it takes. -/
abbrev Cut := Sum (Nat × Nat) (Int × Bs × Int × Nat)
def hd (l : Bs) : Int := ((l.headD 0).toNat : Int)
def words : List Bs := [[116, 121, 112, 101], [109, 101, 116, 104, 111, 100], [102, 117, 110, 99], [109, 97, 105, 110], [105, 110, 116, 101, 114, 102, 97, 99, 101], [101, 109, 98, 101, 100], [105, 110, 116], [98, 111, 111, 108], [116, 101, 120, 116], [102, 110], [108, 101, 116], [112, 114, 105, 110, 116], [105, 102], [101, 108, 115, 101], [119, 104, 105, 108, 101], [114, 101, 116, 117, 114, 110], [110, 105, 108], [110, 101, 119], [116, 111], [97, 110, 100], [111, 114], [110, 111, 116], [116, 114, 117, 101], [102, 97, 108, 115, 101], [115, 101, 108, 102]]
def kindOf (s : Bs) : Int := if greatB (hd s) = true then 2 else if words.contains s = true then 3 else 1
def runLen (p : Int → Bool) (l : Bs) : Nat := (l.takeWhile fun c => p (c.toNat : Int)).length
theorem runLen_nil (p : Int → Bool) : runLen p [] = 0 := rfl
theorem runLen_yes (p : Int → Bool) (c : UInt8) (r : Bs) (h : p (c.toNat : Int) = true) : runLen p (c :: r) = 1 + runLen p r := by simp [runLen, h]; omega
theorem runLen_no (p : Int → Bool) (c : UInt8) (r : Bs) (h : p (c.toNat : Int) = false) : runLen p (c :: r) = 0 := by simp [runLen, h]
theorem runLen_le (p : Int → Bool) (l : Bs) : runLen p l ≤ l.length := by unfold runLen; exact List.Sublist.length_le (List.takeWhile_sublist _)
def cutName (l : Bs) : Cut :=
  if 32 < 1 + runLen nameB l.tail then .inl (32, 2) else .inr (kindOf (l.take (1 + runLen nameB l.tail)), l.take (1 + runLen nameB l.tail), 0, 1 + runLen nameB l.tail)
def cutSign (l : Bs) : Cut := if [61, 61].isPrefixOf l = true then .inr (6, l.take 2, 0, 2) else .inr (6, l.take 1, 0, 1)
/-- digits read, behind n. -/
def numFold : Bs → Int → Option Int
  | [], n => some n
  | c :: r, n => if (9223372036854775807 - ((c.toNat : Int) - 48)) / 10 < n then none else numFold r (n * 10 + ((c.toNat : Int) - 48))
def number (ds : Bs) : Option Int := if hd ds = 48 ∧ 1 < ds.length then none else numFold ds 0
def digLen (l : Bs) : Nat := 1 + runLen digitB l.tail
def cutNumber (l : Bs) : Cut :=
  match number (l.take (digLen l)) with
  | none => .inl (0, 11)
  | some v => if l.drop (digLen l) ≠ [] ∧ nameB (hd (l.drop (digLen l))) = true then .inl (0, 11) else .inr (4, [], v, digLen l)
/-- behind a quote: i bytes on, acc said. -/
def textF : Bs → Nat → Bs → Sum Nat (Bs × Nat)
  | [], i, _ => .inl i
  | c :: r, i, acc =>
    if c = 34 then .inr (acc, i + 1) else if c = 92 then
      match r with
      | [] => .inl (i + 1)
      | d :: r' => if escOk (d.toNat : Int) = true then textF r' (i + 2) (acc ++ [(escB (d.toNat : Int)).toNat.toUInt8]) else .inl (i + 1)
    else if plainB (c.toNat : Int) = true then textF r (i + 1) (acc ++ [c]) else .inl i
def cutText (l : Bs) : Cut :=
  match textF l.tail 1 [] with
  | .inl o => .inl (o, 12)
  | .inr (s, n) => .inr (5, s, 0, n)
def cut (l : Bs) : Cut := if digitB (hd l) = true then cutNumber l else if hd l = 34 then cutText l else if signB (hd l) = true then cutSign l else cutName l
def next (l : Bs) (n : Nat) : Cut := if beginB (hd l) = false then .inl (0, 10) else if 4096 ≤ n then .inl (0, 3) else cut l
/-- place, kind, text, number. -/
abbrev Tok := Nat × Int × Bs × Int
def lexF : Nat → Bs → Nat → Nat → List Tok × Option (Nat × Nat)
  | 0, _, _, _ => ([], none)
  | f + 1, l, a, n =>
    if l.drop (skip l) = [] then ([], none) else
      match next (l.drop (skip l)) n with
      | .inl (o, y) => ([], some (a + skip l + o, y))
      | .inr (k, s, v, m) => ((a + skip l, k, s, v) :: (lexF f (l.drop (skip l + m)) (a + skip l + m) (n + 1)).1, (lexF f (l.drop (skip l + m)) (a + skip l + m) (n + 1)).2)
def lex (l : Bs) : List Tok × Option (Nat × Nat) := if 65536 < l.length then ([], some (0, 2)) else lexF (l.length + 1) l 0 0

end Lx
end Go.Proofs.YtcofioeikpiabaaGreatDoor
