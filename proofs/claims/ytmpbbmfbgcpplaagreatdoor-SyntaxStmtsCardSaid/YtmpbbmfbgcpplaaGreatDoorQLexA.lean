import Derived.Test.YtmpbbmfbgcpplaaGreatDoorProg
import Derived.Test.YtmpbbmfbgcpplaaGreatDoorShelf
import Derived.WalkKit
import Derived.WalkLawsBesides
import Derived.Outline
import Derived.Handy
import Derived.Deep.DeepFit
set_option maxHeartbeats 1000000
set_option maxRecDepth 100000
namespace Go.Proofs.YtmpbbmfbgcpplaaGreatDoor
namespace Lx
def zgc (b : Int) : Bool := b == 9 || b == 10 || b == 13 || b == 32
def ze3 (b : Int) : Bool := decide (97 ≤ b) && decide (b ≤ 122)
def zd1 (b : Int) : Bool := decide (65 ≤ b) && decide (b ≤ 90)
def zab (b : Int) : Bool := decide (48 ≤ b) && decide (b ≤ 57)
def signs : List Int := [40, 41, 123, 125, 59, 58, 44, 46, 61, 60, 43, 45, 42]
def zeu (b : Int) : Bool := signs.contains b
def zax (b : Int) : Bool := ze3 b || zd1 b || zab b || b == 95
def zbh (b : Int) : Bool := ze3 b || zd1 b || zab b || b == 34 || zeu b
def zcn (b : Int) : Bool := decide (32 ≤ b) && decide (b ≤ 126)
def escB (b : Int) : Int := if b = 110 then 10 else if b = 34 then 34 else if b = 92 then 92 else 0
def zg2 (b : Int) : Bool := b == 110 || b == 34 || b == 92
abbrev Bs := List UInt8
def zdr : Bool → Bs → Nat
 | _, [] => 0
 | true, c :: r => if c = 10 then 1 + zdr false r else 1 + zdr true r
 | false, c :: r => if zgc (c.toNat : Int) = true then 1 + zdr false r else if c = 47 ∧ r.head? = some 47 then 1 + zdr true r else 0
def skip (l : Bs) : Nat := zdr false l
theorem zhq : ∀ (l : Bs) (b : Bool), zdr b l ≤ l.length
 | [], b => by cases b <;> simp [zdr]
 | c :: r, true => by
  have h1 := zhq r true
  have h2 := zhq r false
  simp only [zdr, List.length_cons]; split <;> omega
 | c :: r, false => by
  have h1 := zhq r true
  have h2 := zhq r false
  simp only [zdr, List.length_cons]; split
  ·omega
  ·split <;> omega
theorem skip_le (l : Bs) : skip l ≤ l.length := zhq l false
theorem zgb : ∀ (l : Bs), zdr true l = l.findIdx (· == 10) + skip (l.drop (l.findIdx (· == 10)))
 | [] => by simp [zdr, skip]
 | c :: r => by
  have ih := zgb r
  by_cases h : c = 10
  ·subst h; simp [zdr, skip, List.findIdx_cons, zgc]
  ·have hb : (c == 10) = false := by simpa using h
   simp only [zdr, h, if_false, List.findIdx_cons, hb, cond_false, List.drop_succ_cons, ih]; omega
theorem skip_blank (c : UInt8) (r : Bs) (h : zgc (c.toNat : Int) = true) : skip (c :: r) = 1 + skip r := by simp [skip, zdr, h]
theorem skip_two (l : Bs) (h : [47, 47].isPrefixOf l = true) : skip l = l.findIdx (· == 10) + skip (l.drop (l.findIdx (· == 10))) := by
 match l, h with
 | [], h => simp [List.isPrefixOf] at h
 | [c], h => simp [List.isPrefixOf] at h
 | c :: d :: r, h =>
  simp [List.isPrefixOf] at h
  obtain ⟨rfl, rfl⟩ := h
  have e : skip (47 :: 47 :: r) = zdr true (47 :: 47 :: r) := by simp [skip, zdr, zgc]
  rw [e, zgb]
theorem skip_none (c : UInt8) (r : Bs) (h : zgc (c.toNat : Int) = false) (h2 : [47, 47].isPrefixOf (c :: r) = false) : skip (c :: r) = 0 := by
 have : ¬ (c = 47 ∧ r.head? = some 47) := by
  rintro ⟨rfl, hr⟩
  cases r with
  | nil => simp at hr
  | cons d r => simp at hr; subst hr; simp [List.isPrefixOf] at h2
 simp only [skip, zdr, h, Bool.false_eq_true, if_false, this]
abbrev Cut := Sum (Nat × Nat) (Int × Bs × Int × Nat)
def hd (l : Bs) : Int := ((l.headD 0).toNat : Int)
def words : List Bs := [[116, 121, 112, 101], [109, 101, 116, 104, 111, 100], [102, 117, 110, 99], [109, 97, 105, 110], [105, 110, 116, 101, 114, 102, 97, 99, 101], [101, 109, 98, 101, 100], [105, 110, 116], [98, 111, 111, 108], [116, 101, 120, 116], [102, 110], [108, 101, 116], [112, 114, 105, 110, 116], [105, 102], [101, 108, 115, 101], [119, 104, 105, 108, 101], [114, 101, 116, 117, 114, 110], [110, 105, 108], [110, 101, 119], [116, 111], [97, 110, 100], [111, 114], [110, 111, 116], [116, 114, 117, 101], [102, 97, 108, 115, 101], [115, 101, 108, 102]]
def kindOf (s : Bs) : Int := if zd1 (hd s) = true then 2 else if words.contains s = true then 3 else 1
def zai (p : Int → Bool) (l : Bs) : Nat := (l.takeWhile fun c => p (c.toNat : Int)).length
theorem runLen_nil (p : Int → Bool) : zai p [] = 0 := rfl
theorem zcv (p : Int → Bool) (c : UInt8) (r : Bs) (h : p (c.toNat : Int) = true) : zai p (c :: r) = 1 + zai p r := by simp [zai, h]; omega
theorem zej (p : Int → Bool) (c : UInt8) (r : Bs) (h : p (c.toNat : Int) = false) : zai p (c :: r) = 0 := by simp [zai, h]
theorem zen (p : Int → Bool) (l : Bs) : zai p l ≤ l.length := by unfold zai; exact List.Sublist.length_le (List.takeWhile_sublist _)
def zbz (l : Bs) : Cut :=
 if 32 < 1 + zai zax l.tail then .inl (32, 2) else .inr (kindOf (l.take (1 + zai zax l.tail)), l.take (1 + zai zax l.tail), 0, 1 + zai zax l.tail)
def zc0 (l : Bs) : Cut := if [61, 61].isPrefixOf l = true then .inr (6, l.take 2, 0, 2) else .inr (6, l.take 1, 0, 1)
def zbc : Bs → Int → Option Int
 | [], n => some n
 | c :: r, n => if (9223372036854775807 - ((c.toNat : Int) - 48)) / 10 < n then none else zbc r (n * 10 + ((c.toNat : Int) - 48))
def number (ds : Bs) : Option Int := if hd ds = 48 ∧ 1 < ds.length then none else zbc ds 0
def zbr (l : Bs) : Nat := 1 + zai zab l.tail
def zas (l : Bs) : Cut :=
 match number (l.take (zbr l)) with
 | none => .inl (0, 11)
 | some v => if l.drop (zbr l) ≠ [] ∧ zax (hd (l.drop (zbr l))) = true then .inl (0, 11) else .inr (4, [], v, zbr l)
def textF : Bs → Nat → Bs → Sum Nat (Bs × Nat)
 | [], i, _ => .inl i
 | c :: r, i, acc =>
  if c = 34 then .inr (acc, i + 1) else if c = 92 then
   match r with
   | [] => .inl (i + 1)
   | d :: r' => if zg2 (d.toNat : Int) = true then textF r' (i + 2) (acc ++ [(escB (d.toNat : Int)).toNat.toUInt8]) else .inl (i + 1)
  else if zcn (c.toNat : Int) = true then textF r (i + 1) (acc ++ [c]) else .inl i
def zb6 (l : Bs) : Cut :=
 match textF l.tail 1 [] with
 | .inl o => .inl (o, 12)
 | .inr (s, n) => .inr (5, s, 0, n)
def cut (l : Bs) : Cut := if zab (hd l) = true then zas l else if hd l = 34 then zb6 l else if zeu (hd l) = true then zc0 l else zbz l
def next (l : Bs) (n : Nat) : Cut := if zbh (hd l) = false then .inl (0, 10) else if 4096 ≤ n then .inl (0, 3) else cut l
abbrev Tok := Nat × Int × Bs × Int
def lexF : Nat → Bs → Nat → Nat → List Tok × Option (Nat × Nat)
 | 0, _, _, _ => ([], none)
 | f + 1, l, a, n =>
  if l.drop (skip l) = [] then ([], none) else
   match next (l.drop (skip l)) n with
   | .inl (o, y) => ([], some (a + skip l + o, y))
   | .inr (k, s, v, m) => ((a + skip l, k, s, v) :: (lexF f (l.drop (skip l + m)) (a + skip l + m) (n + 1)).1, (lexF f (l.drop (skip l + m)) (a + skip l + m) (n + 1)).2)
def lex (l : Bs) : List Tok × Option (Nat × Nat) := if 65536 < l.length then ([], some (0, 2)) else lexF (l.length + 1) l 0 0
end Lx
open Go.RowKit Lx
def Hid (p : Prop) : Prop := p
theorem za3 {p : Prop} (h : p) : Hid p := h
theorem za0 {p : Prop} (h : Hid p) : p := h
theorem zkv (b : Int) (w : World) : Calls Tryz.prog 173 #[.int .u8 b] w fun e w' => e = .returned (.bool (ze3 b)) ∧ w' = w := by
 go_enter Tryz.func173, Tryz.ntmps173
 go_wp2
 all_goals
  go_ret
  simp_all [ze3]
  try omega
theorem zem (b : Int) (w : World) : Calls Tryz.prog 174 #[.int .u8 b] w fun e w' => e = .returned (.bool (zd1 b)) ∧ w' = w := by
 go_enter Tryz.func174, Tryz.ntmps174
 go_wp2
 all_goals
  go_ret
  simp_all [zd1]
  try omega
theorem zba (b : Int) (w : World) : Calls Tryz.prog 175 #[.int .u8 b] w fun e w' => e = .returned (.bool (zab b)) ∧ w' = w := by
 go_enter Tryz.func175, Tryz.ntmps175
 go_wp2
 all_goals
  go_ret
  simp_all [zab]
  try omega
theorem plain_any (b : Int) (w : World) : Calls Tryz.prog 163 #[.int .u8 b] w fun e w' => e = .returned (.bool (zcn b)) ∧ w' = w := by
 go_enter Tryz.func163, Tryz.ntmps163
 go_wp2
 all_goals
  go_ret
  simp_all [zcn]
  try omega
theorem sign_index : ∀ n : Nat, n < 256 → decide (0 ≤ Lib.indexByte [40, 41, 123, 125, 59, 58, 44, 46, 61, 60, 43, 45, 42] n.toUInt8) = zeu (n : Int) := by decide +kernel
theorem zfa (b : Int) (w : World) (h0 : 0 ≤ b) (h1 : b < 256) : Calls Tryz.prog 176 #[.int .u8 b] w fun e w' => e = .returned (.bool (zeu b)) ∧ w' = w := by
 have hs := sign_index b.toNat (by omega)
 rw [Int.toNat_of_nonneg h0] at hs
 have HS := za3 hs
 clear hs
 go_enter Tryz.func176, Tryz.ntmps176
 go_wp2_with (go_at_call 185; refine (Tryz.strings_IndexByte _ _ _).mono ?_; rintro e w' ⟨rfl, rfl⟩)
 go_ret
 exact ⟨congrArg (fun b => Ending.returned (Value.bool b)) (za0 HS), rfl⟩
theorem zfb (b : Int) (w : World) : Calls Tryz.prog 187 #[.int .u8 b] w fun e w' => e = .returned (.bool (zax b)) ∧ w' = w := by
 go_enter Tryz.func187, Tryz.ntmps187
 go_wp2_with (first | (go_at_call 173; refine (zkv _ _).mono ?_; rintro e w' ⟨rfl, rfl⟩) | (go_at_call 174; refine (zem _ _).mono ?_; rintro e w' ⟨rfl, rfl⟩) | (go_at_call 175; refine (zba _ _).mono ?_; rintro e w' ⟨rfl, rfl⟩))
 all_goals
  go_ret
  simp_all [zax]
theorem zf5 (b : Int) (w : World) (h0 : 0 ≤ b) (h1 : b < 256) : Calls Tryz.prog 161 #[.int .u8 b] w fun e w' => e = .returned (.bool (zbh b)) ∧ w' = w := by
 go_enter Tryz.func161, Tryz.ntmps161
 go_wp2_with (first | (go_at_call 173; refine (zkv _ _).mono ?_; rintro e w' ⟨rfl, rfl⟩) | (go_at_call 174; refine (zem _ _).mono ?_; rintro e w' ⟨rfl, rfl⟩) | (go_at_call 175; refine (zba _ _).mono ?_; rintro e w' ⟨rfl, rfl⟩) | (go_at_call 176; refine (zfa _ _ h0 h1).mono ?_; rintro e w' ⟨rfl, rfl⟩))
 all_goals
  go_ret
  simp_all [zbh]
theorem escaped_any (b : Int) (w : World) : Calls Tryz.prog 189 #[.int .u8 b] w fun e w' => e = .returned (.tuple #[.int .u8 (escB b), .bool (zg2 b)]) ∧ w' = w := by
 go_enter Tryz.func189, Tryz.ntmps189
 go_wp2
 all_goals
  go_ret2
  simp_all [escB, zg2]
theorem extract_list (s : ByteArray) (a : Nat) : (s.extract a s.size).data.toList = s.data.toList.drop a := by
 have h : s.data.toList.length = s.size := by simp
 simp [ByteArray.data_extract, List.take_of_length_le, List.length_drop, h]
theorem ret_int {k : IntKind} {a b : Int} (h : a = b) : Ending.returned (.int k a) = .returned (.int k b) := by rw [h]
theorem pre_two (s : ByteArray) (a : Nat) (p : Bs) (w : World) : Calls Tryz.prog 190 #[.string (s.extract a s.size), .string ⟨p.toArray⟩] w fun e w' => e = .returned (.bool (p.isPrefixOf (s.data.toList.drop a))) ∧ w' = w := by
 refine (Tryz.strings_HasPrefix _ _ _).mono ?_
 rintro e w' ⟨rfl, rfl⟩
 rw [extract_list]
 exact ⟨rfl, rfl⟩
theorem drop_cons (s : ByteArray) (k : Nat) (h : k < s.size) : s.data.toList.drop k = s[k] :: s.data.toList.drop (k + 1) := by
 rw [List.drop_eq_getElem_cons (by simpa using h)]; rfl
theorem zd9 (a y : Int) (w : World) : Calls Tryz.prog 188 #[.int .i64 a, .int .i64 y] w fun e w' => e = .returned (.pointer (some ⟨w.heap.size, 0, none⟩)) ∧ w' = w.alloc (.cells #[.int .i64 a, .int .i64 y] 214) := by
 go_enter Tryz.func188, Tryz.ntmps188
 go_wp2
 go_ret
 exact ⟨rfl, rfl⟩
def ze2 : Array Value := (words.map fun s => Value.string ⟨s.toArray⟩).toArray
theorem Words_any (w : World) : Calls Tryz.prog 201 #[] w fun e w' => e = .returned (.slice (some ⟨w.heap.size, 0, none⟩) 25 25) ∧ w' = w.alloc (.cells ze2 9) := by
 go_enter Tryz.func201, Tryz.ntmps201
 go_wp2
 go_ret
 exact ⟨rfl, rfl⟩
def wordStrs : List ByteArray := words.map fun s => ⟨s.toArray⟩
theorem zks (w : World) : ∀ j, j < wordStrs.length → (w.alloc (.cells ze2 9)).cell? ⟨w.heap.size, 0 + j, none⟩ = some (.string (wordStrs.getD j ByteArray.empty)) := by
 intro j hj
 rw [World.cell?_alloc_at _ _ _ _ (by rfl)]
 have hj' : j < words.length := by simpa [wordStrs] using hj
 have e : ze2[j]? = some (.string (wordStrs.getD j ByteArray.empty)) := by
  simp only [ze2, wordStrs, List.getElem?_toArray, List.getElem?_map, List.getD_eq_getElem?_getD, List.getElem?_eq_getElem hj', Option.map_some, Option.getD_some]
 simpa using e
theorem contains_word (x : ByteArray) : Lib.containsS (wordStrs.take 25) x = words.contains x.data.toList := by
 rw [Bool.eq_iff_iff, Lib.containsS_iff]
 have e : wordStrs.take 25 = wordStrs := by rfl
 rw [e]
 simp only [wordStrs, List.mem_map, List.contains_iff_mem]
 constructor
 ·rintro ⟨s, hs, rfl⟩; simpa using hs
 ·intro h; exact ⟨_, h, by cases x; simp⟩
theorem nameKind_any (s : ByteArray) (w : World) (h0 : 0 < s.size) (_hs : s.size ≤ maxLen) :
  Calls Tryz.prog 192 #[.string s] w fun e w' => e = .returned (.int .i64 (kindOf s.data.toList)) ∧ Below w.heap.size w w' := by
 unfold maxLen at _hs
 have hh : hd s.data.toList = ((s[0]'h0).toNat : Int) := by
  have := drop_cons s 0 h0; simp at this; rw [hd, this]; rfl
 by_cases hg : zd1 ((s[0]'h0).toNat : Int) = true
 ·have HK : Hid (kindOf s.data.toList = 2) := by show _ = _; rw [kindOf, hh, if_pos hg]
  clear hh
  go_enter Tryz.func192, Tryz.ntmps192
  go_wp2_with (go_at_call 174; refine (zem _ _).mono ?_; rintro e w' ⟨rfl, rfl⟩)
  go_ret
  exact ⟨ret_int (za0 HK).symm, Below.refl _ _⟩
 ·have hg : zd1 ((s[0]'h0).toNat : Int) = false := (Bool.not_eq_true _).mp hg
  have hc := contains_word s
  by_cases hw : words.contains s.data.toList = true
  ·have HK : Hid (kindOf s.data.toList = 3) := by show _ = _; rw [kindOf, hh, hg, hw]; rfl
   rw [hw] at hc
   have HC := za3 hc
   clear hh hw hc
   go_enter Tryz.func192, Tryz.ntmps192
   go_wp2_with (first | (go_at_call 174; refine (zem _ _).mono ?_; rintro e w' ⟨rfl, rfl⟩) | (go_at_call 201; refine (Words_any _).mono ?_; rintro e w' ⟨rfl, rfl⟩) | (go_at_call 200; refine (Tryz.slices_Contains_string _ 0 25 25 wordStrs _ _ (by decide) (by decide) (zks _)).mono ?_; rintro e w' ⟨rfl, rfl⟩; rw [za0 HC]))
   go_ret
   exact ⟨ret_int (za0 HK).symm, (Below.refl _ _).alloc (Nat.le_refl _) _⟩
  ·have hw : words.contains s.data.toList = false := (Bool.not_eq_true _).mp hw
   have HK : Hid (kindOf s.data.toList = 1) := by show _ = _; rw [kindOf, hh, hg, hw]; rfl
   rw [hw] at hc
   have HC := za3 hc
   clear hh hw hc
   go_enter Tryz.func192, Tryz.ntmps192
   go_wp2_with (first | (go_at_call 174; refine (zem _ _).mono ?_; rintro e w' ⟨rfl, rfl⟩) | (go_at_call 201; refine (Words_any _).mono ?_; rintro e w' ⟨rfl, rfl⟩) | (go_at_call 200; refine (Tryz.slices_Contains_string _ 0 25 25 wordStrs _ _ (by decide) (by decide) (zks _)).mono ?_; rintro e w' ⟨rfl, rfl⟩; rw [za0 HC]))
   go_ret
   exact ⟨ret_int (za0 HK).symm, (Below.refl _ _).alloc (Nat.le_refl _) _⟩
theorem Clone_any (s : ByteArray) (w : World) (hs : s.size ≤ 281474976710656) : Calls Tryz.prog 145 #[.string s] w fun e w' => e = .returned (.string s) ∧ Below w.heap.size w w' := by
 go_enter Tryz.func145, Tryz.ntmps145
 go_wp2_with (go_at_call 160; refine (Tryz.stringslite_Clone _ _ hs).mono ?_; rintro e w' ⟨rfl, hb⟩)
 go_ret
 exact ⟨rfl, hb⟩
theorem zd4 {W w1 : World} (hb : Below W.heap.size W w1) : (∀ b o, b < W.heap.size → w1.cell? ⟨b, o, none⟩ = W.cell? ⟨b, o, none⟩) ∧ (∀ b o, b < W.heap.size → w1.frozen? ⟨b, o, none⟩ = W.frozen? ⟨b, o, none⟩) :=
 ⟨fun b o h => hb.cell (p := ⟨b, o, none⟩) h, fun b o h => hb.frozen (p := ⟨b, o, none⟩) h⟩
theorem zdo {B : Nat} {w w1 : World} (h : Below B w w1) {b : Nat} (hb : B ≤ b) (v0 v1 v2 v3 : Value) :
  Below B w ((((w1.setCell ⟨b, 0, none⟩ v0).setCell ⟨b, 1, none⟩ v1).setCell ⟨b, 2, none⟩ v2).setCell ⟨b, 3, none⟩ v3) :=
 (((h.setCell (p := ⟨b, 0, none⟩) hb v0).setCell (p := ⟨b, 1, none⟩) hb v1).setCell (p := ⟨b, 2, none⟩) hb v2).setCell (p := ⟨b, 3, none⟩) hb v3
theorem zhb (k : Int) (s : ByteArray) (a z : Nat) (w : World) (h1 : a ≤ z) (h2 : z ≤ s.size) (hs : s.size ≤ 281474976710656) :
  Calls Tryz.prog 191 #[.int .i64 k, .string s, .int .i64 a, .int .i64 z] w fun e w' => e = .returned (.agg #[.int .i64 a, .int .i64 k, .string (s.extract a z), .int .i64 0]) ∧ Below w.heap.size w w' := by
 have hz : (s.extract a z).size ≤ 281474976710656 := by simp; omega
 go_enter Tryz.func191, Tryz.ntmps191
 go_wp2_with (go_at_call 145; refine (Clone_any _ _ hz).mono ?_; rintro e w1 ⟨rfl, hb⟩; obtain ⟨hc, hf⟩ := zd4 hb)
 exact bodyPost_ret (v := .agg #[.int .i64 a, .int .i64 k, .string (s.extract a z), .int .i64 0]) (by simp [results, Tryz.results191, go_sem, hc]) rfl ⟨rfl, zdo (((Below.refl _ _).alloc (Nat.le_refl _) _).trans (hb.mono (by simp))) (Nat.le_refl _) _ _ _ _⟩
def zca (w : World) (a : Nat) (c : Cut) (e : Ending) (w' : World) : Prop :=
 Below w.heap.size w w' ∧
 match c with
 | .inl (o, y) => ∃ b, e = .returned (.tuple #[.agg #[.int .i64 0, .int .i64 0, .string ⟨#[]⟩, .int .i64 0], .int .i64 0, .pointer (some ⟨b, 0, none⟩)]) ∧ w.heap.size ≤ b ∧ w'.heap[b]? = some (.cells #[.int .i64 ((a + o : Nat) : Int), .int .i64 (y : Int)] 214)
 | .inr (k, s, v, n) => e = .returned (.tuple #[.agg #[.int .i64 a, .int .i64 k, .string ⟨s.toArray⟩, .int .i64 v], .int .i64 ((a + n : Nat) : Int), .pointer none])
theorem zcj (s : ByteArray) (a n : Nat) : (s.extract a (a + n)) = ⟨((s.data.toList.drop a).take n).toArray⟩ := by
 apply ByteArray.ext
 apply Array.ext'
 simp [ByteArray.data_extract, Nat.add_sub_cancel_left]
theorem zdk {w w' : World} {a : Nat} {c : Cut} {k : Int} {s : Bs} {v : Int} {n : Nat} {S : ByteArray} {z : Int} (hc : c = .inr (k, s, v, n)) (hb : Below w.heap.size w w') (hS : S = ⟨s.toArray⟩) (hz : z = ((a + n : Nat) : Int)) :
  zca w a c (.returned (.tuple #[.agg #[.int .i64 a, .int .i64 k, .string S, .int .i64 v], .int .i64 z, .pointer none])) w' := by
 subst hc hS hz; exact ⟨hb, rfl⟩
theorem ze8 {w w' : World} {a : Nat} {c : Cut} {o y : Nat} {b : Nat} (hc : c = .inl (o, y)) (hb : Below w.heap.size w w') (h1 : w.heap.size ≤ b) (h2 : w'.heap[b]? = some (.cells #[.int .i64 ((a + o : Nat) : Int), .int .i64 (y : Int)] 214)) :
  zca w a c (.returned (.tuple #[.agg #[.int .i64 0, .int .i64 0, .string ⟨#[]⟩, .int .i64 0], .int .i64 0, .pointer (some ⟨b, 0, none⟩)])) w' := by
 subst hc; exact ⟨hb, b, rfl, h1, h2⟩
theorem cutSign_any (s : ByteArray) (a : Nat) (w : World) (h1 : a < s.size) (hs : s.size ≤ 281474976710656) :
  Calls Tryz.prog 179 #[.string s, .int .i64 a] w fun e w' => zca w a (zc0 (s.data.toList.drop a)) e w' := by
 by_cases hp : [61, 61].isPrefixOf (s.data.toList.drop a) = true
 ·have hl : a + 2 ≤ s.size := by
   rcases Nat.lt_or_ge (a + 1) s.size with h | h
   ·omega
   ·rw [drop_cons s a h1, List.drop_of_length_le (by simp; omega)] at hp
    simp [List.isPrefixOf] at hp
  have HC : Hid (zc0 (s.data.toList.drop a) = .inr (6, (s.data.toList.drop a).take 2, 0, 2)) := by show _ = _; rw [zc0, if_pos hp]
  have WR : Hid (∀ w, _) := fun w => zhb 6 s a (a + 2) w (by omega) hl hs
  go_enter Tryz.func179, Tryz.ntmps179
  go_wp2_with (first | (go_at_call 190; refine (pre_two _ _ _ _).mono ?_; rintro e w' ⟨rfl, rfl⟩) | (go_at_call 191; go_fit (za0 WR _); rintro e w1 ⟨rfl, hb⟩; obtain ⟨hc, hf⟩ := zd4 hb))
  exact bodyPost_ret (v := .tuple #[.agg #[.int .i64 a, .int .i64 6, .string (s.extract a (a + 2)), .int .i64 0], .int .i64 (a + 1 + 1), .pointer none]) (by simp [results, Tryz.results179, go_sem, hc]) rfl
   (zdk (za0 HC) (zdo (((Below.refl _ _).alloc (Nat.le_refl _) _).trans (hb.mono (by simp))) (Nat.le_refl _) _ _ _ _) (zcj _ _ _) (by omega))
 ·have hp : [61, 61].isPrefixOf (s.data.toList.drop a) = false := (Bool.not_eq_true _).mp hp
  have HC : Hid (zc0 (s.data.toList.drop a) = .inr (6, (s.data.toList.drop a).take 1, 0, 1)) := by show _ = _; rw [zc0, hp]; rfl
  have WR : Hid (∀ w, _) := fun w => zhb 6 s a (a + 1) w (by omega) h1 hs
  go_enter Tryz.func179, Tryz.ntmps179
  go_wp2_with (first | (go_at_call 190; refine (pre_two _ _ _ _).mono ?_; rintro e w' ⟨rfl, rfl⟩) | (go_at_call 191; go_fit (za0 WR _); rintro e w1 ⟨rfl, hb⟩; obtain ⟨hc, hf⟩ := zd4 hb))
  exact bodyPost_ret (v := .tuple #[.agg #[.int .i64 a, .int .i64 6, .string (s.extract a (a + 1)), .int .i64 0], .int .i64 (a + 1), .pointer none]) (by simp [results, Tryz.results179, go_sem, hc]) rfl
   (zdk (za0 HC) (zdo (((Below.refl _ _).alloc (Nat.le_refl _) _).trans (hb.mono (by simp))) (Nat.le_refl _) _ _ _ _) (zcj _ _ _) (by omega))
theorem runLen_at (p : Int → Bool) (s : ByteArray) (k : Nat) (h : k < s.size) (hp : p (s[k].toNat : Int) = true) : zai p (s.data.toList.drop k) = 1 + zai p (s.data.toList.drop (k + 1)) := by
 rw [drop_cons s k h, zcv _ _ _ hp]
theorem zl8 (p : Int → Bool) (s : ByteArray) (k : Nat) (h : k < s.size) (hp : p (s[k].toNat : Int) = false) : zai p (s.data.toList.drop k) = 0 := by
 rw [drop_cons s k h, zej _ _ _ hp]
theorem runLen_end (p : Int → Bool) (s : ByteArray) (k : Nat) (h : s.size ≤ k) : zai p (s.data.toList.drop k) = 0 := by
 rw [List.drop_of_length_le (by simpa using h)]; rfl
theorem tail_drop (s : ByteArray) (a : Nat) : (s.data.toList.drop a).tail = s.data.toList.drop (a + 1) := by simp
theorem zaj (w : World) (o : Obj) : (w.alloc o).heap[w.heap.size]? = some o := by
 show (w.heap.push o)[w.heap.size]? = _
 simp
theorem zgt (w : World) (o o' : Obj) : ((w.alloc o).alloc o').heap[w.heap.size + 1]? = some o' := by
 have := zaj (w.alloc o) o'; simpa using this
theorem zg9 (w : World) (o o' : Obj) : Below w.heap.size w ((w.alloc o).alloc o') := ((Below.refl _ _).alloc (Nat.le_refl _) _).alloc (by simp) _
theorem cutName_any (s : ByteArray) (a : Nat) (w : World) (h1 : a < s.size) (hs : s.size ≤ 281474976710656) :
  Calls Tryz.prog 180 #[.string s, .int .i64 a] w fun e w' => zca w a (zbz (s.data.toList.drop a)) e w' := by
 go_enter Tryz.func180, Tryz.ntmps180
 go_wp2
 go_loop [7] (fun i => ∃ k : Nat, a + 1 ≤ k ∧ k ≤ s.size ∧ k ≤ a + 32 ∧ i = .int .i64 k ∧ Hid (1 + zai zax (s.data.toList.drop (a + 1)) = (k - a) + zai zax (s.data.toList.drop k))) (fun i => s.size - (intOf i).toNat)
 case atStart => exact ⟨a + 1, by omega, by omega, by omega, by go_num, by show _ = _; omega⟩
 case round =>
  obtain ⟨k, hk1, hk2, hk3, rfl, HK⟩ := hrel
  by_cases hc : ∃ h : k < s.size, zax (s[k].toNat : Int) = true
  ·obtain ⟨hlt, hn⟩ := hc
   have HR := za3 (runLen_at zax s k hlt hn)
   by_cases h32 : k = a + 32
   ·have HC : Hid (zbz (s.data.toList.drop a) = .inl (32, 2)) := by
     show _ = _
     have e1 := za0 HK
     have e2 := za0 HR
     rw [zbz, tail_drop, if_pos (by omega)]
    have h32' : ((k : Int) - (a : Int) == 32) = true := by simp; omega
    clear HK HR
    have H32 := za3 h32
    clear h32
    go_wp2_with (first | (go_at_call 187; refine (zfb _ _).mono ?_; rintro e w' ⟨rfl, rfl⟩) | (go_at_call 188; refine (zd9 _ _ _).mono ?_; rintro e w' ⟨rfl, rfl⟩))
    exact bodyPost_ret (v := .tuple #[.agg #[.int .i64 0, .int .i64 0, .string ⟨#[]⟩, .int .i64 0], .int .i64 0, .pointer (some ⟨w.heap.size + 1, 0, none⟩)]) (by simp [results, Tryz.results180, go_sem]) rfl
     (ze8 (za0 HC) (zg9 _ _ _) (by omega) (by rw [zgt, za0 H32]; rfl))
   ·have h32' : ((k : Int) - (a : Int) == 32) = false := by simp; omega
    have h32 : k < a + 32 := by omega
    go_wp2_with (first | (go_at_call 187; refine (zfb _ _).mono ?_; rintro e w' ⟨rfl, rfl⟩))
    go_round
    case rel => exact ⟨k + 1, by omega, by omega, by omega, by go_num, by have e1 := za0 HK; have e2 := za0 HR; show _ = _; omega⟩
    case measure => simp [intOf]; omega
  ·have HR : Hid (zai zax (s.data.toList.drop k) = 0) := by
    show _ = _
    by_cases hlt : k < s.size
    ·exact zl8 zax s k hlt ((Bool.not_eq_true _).mp fun h => hc ⟨hlt, h⟩)
    ·exact runLen_end zax s k (by omega)
   have HC : Hid (zbz (s.data.toList.drop a) = .inr (kindOf ((s.data.toList.drop a).take (k - a)), (s.data.toList.drop a).take (k - a), 0, k - a)) := by
    show _ = _
    have e1 := za0 HK
    have e2 := za0 HR
    rw [zbz, tail_drop, if_neg (by omega), show 1 + zai zax (s.data.toList.drop (a + 1)) = k - a from by omega]
   have HE : Hid (s.extract a k = ⟨((s.data.toList.drop a).take (k - a)).toArray⟩) := by
    have := zcj s a (k - a); rwa [show a + (k - a) = k from by omega] at this
   have hz : 0 < (s.extract a k).size := by simp; omega
   have hz2 : (s.extract a k).size ≤ maxLen := by unfold maxLen; simp; omega
   have NK : Hid (∀ w, _) := fun w => nameKind_any (s.extract a k) w hz hz2
   have WR : Hid (∀ w kd, _) := fun w kd => zhb kd s a k w (by omega) hk2 hs
   clear hz hz2
   have hak : a ≤ k := by omega
   clear HK HR
   by_cases hlt : k < s.size
   ·have hn : zax (s[k].toNat : Int) = false := (Bool.not_eq_true _).mp fun h => hc ⟨hlt, h⟩
    clear hc
    go_wp2_with (first | (go_at_call 187; refine (zfb _ _).mono ?_; rintro e w' ⟨rfl, rfl⟩) | (go_at_call 192; go_fit (za0 NK _); rintro e w1 ⟨rfl, hb1⟩) | (go_at_call 191; go_fit (za0 WR _ _); rintro e w2 ⟨rfl, hb2⟩; have hb := hb1.trans (hb2.mono hb1.size); obtain ⟨hc', hf'⟩ := zd4 hb))
    exact bodyPost_ret (v := .tuple #[.agg #[.int .i64 a, .int .i64 (kindOf ((s.data.toList.drop a).take (k - a))), .string (s.extract a k), .int .i64 0], .int .i64 k, .pointer none]) (by simp [results, Tryz.results180, go_sem, hc']) rfl
     (zdk (za0 HC) (zdo (((Below.refl _ _).alloc (Nat.le_refl _) _).trans (hb.mono (by simp))) (Nat.le_refl _) _ _ _ _) (za0 HE) (by omega))
   ·clear hc
    go_wp2_with (first | (go_at_call 192; go_fit (za0 NK _); rintro e w1 ⟨rfl, hb1⟩) | (go_at_call 191; go_fit (za0 WR _ _); rintro e w2 ⟨rfl, hb2⟩; have hb := hb1.trans (hb2.mono hb1.size); obtain ⟨hc', hf'⟩ := zd4 hb))
    exact bodyPost_ret (v := .tuple #[.agg #[.int .i64 a, .int .i64 (kindOf ((s.data.toList.drop a).take (k - a))), .string (s.extract a k), .int .i64 0], .int .i64 k, .pointer none]) (by simp [results, Tryz.results180, go_sem, hc']) rfl
     (zdk (za0 HC) (zdo (((Below.refl _ _).alloc (Nat.le_refl _) _).trans (hb.mono (by simp))) (Nat.le_refl _) _ _ _ _) (za0 HE) (by omega))
def numAns (o : Option Int) : Ending := .returned (.tuple #[.int .i64 (o.getD 0), .bool o.isSome])
theorem zjn {x : Int} (h : zab x = true) : 48 ≤ x ∧ x ≤ 57 := by simpa [zab] using h
theorem hd_at (s : ByteArray) (a : Nat) (h : a < s.size) : hd (s.data.toList.drop a) = (s[a].toNat : Int) := by rw [drop_cons s a h]; rfl
theorem number_any (s : ByteArray) (w : World) (h0 : 0 < s.size) (hs : s.size ≤ maxLen) (hd0 : ∀ k (h : k < s.size), zab (s[k].toNat : Int) = true) :
  Calls Tryz.prog 186 #[.string s] w fun e w' => e = numAns (number s.data.toList) ∧ w' = w := by
 unfold maxLen at hs
 have HD := za3 hd0
 have hh := hd_at s 0 h0
 rw [List.drop_zero] at hh
 clear hd0
 by_cases hz : (s[0].toNat : Int) = 48 ∧ 1 < s.size
 ·obtain ⟨z1, z2⟩ := hz
  have HN : Hid (number s.data.toList = none) := by show _ = _; rw [number, if_pos ⟨by rw [hh, z1], by simpa using z2⟩]
  have z1' : ((s[0].toNat : Int) == 48) = true := by simp [z1]
  clear z1 hh
  go_enter Tryz.func186, Tryz.ntmps186
  go_wp2
  go_ret2
  exact ⟨by rw [za0 HN]; rfl, rfl⟩
 ·have HN : Hid (number s.data.toList = zbc s.data.toList 0) := by show _ = _; rw [number, if_neg (by rw [hh]; simpa using hz)]
  have hz' : ((s[0].toNat : Int) == 48) = false ∨ (((s[0].toNat : Int) == 48) = true ∧ s.size ≤ 1) := by
   by_cases h : (s[0].toNat : Int) = 48
   ·exact .inr ⟨by simp [h], by omega⟩
   ·exact .inl (by simpa using h)
  clear hz hh
  rcases hz' with hA | ⟨hA, hB⟩
  all_goals
   go_enter Tryz.func186, Tryz.ntmps186
   go_wp2
   go_loop [4, 17] (fun n i => ∃ (k : Nat) (v : Int), k ≤ s.size ∧ i = .int .i64 k ∧ n = .int .i64 v ∧ 0 ≤ v ∧ v ≤ 9223372036854775807 ∧ Hid (zbc s.data.toList 0 = zbc (s.data.toList.drop k) v)) (fun _ i => s.size - (intOf i).toNat)
   case atStart => exact ⟨0, 0, by omega, rfl, rfl, by omega, by omega, rfl⟩
   case round =>
    obtain ⟨k, v, hk, rfl, rfl, hv0, hv1, HK⟩ := hrel
    by_cases hlt : k < s.size
    ·have hdg := zjn (za0 HD k hlt)
     have HS := za3 (drop_cons s k hlt)
     by_cases ho : (9223372036854775807 - ((s[k].toNat : Int) - 48)) / 10 < v
     ·have HF : Hid (number s.data.toList = none) := by
       have e1 := za0 HN
       have e2 := za0 HK
       rw [za0 HS, zbc, if_pos ho] at e2
       show _ = _
       rw [e1, e2]
      go_wp2
      go_ret2
      exact ⟨by rw [za0 HF]; rfl, rfl⟩
     ·have HF : Hid (zbc s.data.toList 0 = zbc (s.data.toList.drop (k + 1)) (v * 10 + ((s[k].toNat : Int) - 48))) := by
       have e2 := za0 HK
       rw [za0 HS, zbc, if_neg ho] at e2
       exact e2
      have ho' : v * 10 + ((s[k].toNat : Int) - 48) ≤ 9223372036854775807 := by omega
      go_wp2
      go_round
      case rel => exact ⟨k + 1, v * 10 + ((s[k].toNat : Int) - 48), by omega, by go_num, rfl, by omega, ho', za0 HF⟩
      case measure => simp [intOf]; omega
    ·have HF : Hid (number s.data.toList = some v) := by
      have e1 := za0 HN
      have e2 := za0 HK
      rw [List.drop_of_length_le (by simp; omega)] at e2
      show _ = _
      rw [e1, e2]; rfl
     go_wp2
     go_ret2
     exact ⟨by rw [za0 HF]; rfl, rfl⟩
theorem runLen_all (p : Int → Bool) : ∀ (l : Bs) (k : Nat), k < zai p l → ∃ h : k < l.length, p ((l[k]).toNat : Int) = true
 | [], k, h => by simp [zai] at h
 | c :: r, k, h => by
  by_cases hc : p (c.toNat : Int) = true
  ·rw [zcv p c r hc] at h
   rcases k with _ | k
   ·exact ⟨by simp, by simpa using hc⟩
   ·obtain ⟨h1, h2⟩ := runLen_all p r k (by omega)
    exact ⟨by simp; omega, by simpa using h2⟩
  ·rw [zej p c r ((Bool.not_eq_true _).mp hc)] at h; omega
theorem run_digits (s : ByteArray) (a n : Nat) (h1 : a < s.size) (h0 : zab (s[a].toNat : Int) = true) (hn : n = zbr (s.data.toList.drop a)) (hz : a + n ≤ s.size) :
  ∀ k (h : k < (s.extract a (a + n)).size), zab (((s.extract a (a + n))[k]).toNat : Int) = true := by
 intro k h
 have hk : k < n := by simp at h; omega
 have e : (s.extract a (a + n))[k] = s[a + k]'(by omega) := by
  simp [ByteArray.getElem_extract]
 rw [e]
 rcases k with _ | k
 ·simpa using h0
 ·have hr : k < zai zab (s.data.toList.drop (a + 1)) := by
   rw [zbr, tail_drop] at hn; omega
  obtain ⟨hl, this⟩ := runLen_all zab _ k hr
  rw [List.getElem_drop] at this
  have e2 : s.data.toList[a + 1 + k]'(by simp; omega) = s[a + (k + 1)]'(by omega) := by
   rw [Array.getElem_toList]
   have h' : a + 1 + k = a + (k + 1) := by omega
   simp only [h']; rfl
  rw [e2] at this
  exact this
theorem cutNumber_no1 {l : Bs} (h : number (l.take (zbr l)) = none) : zas l = .inl (0, 11) := by rw [zas, h]
theorem cutNumber_no2 {l : Bs} {v : Int} (h : number (l.take (zbr l)) = some v) (h1 : l.drop (zbr l) ≠ []) (h2 : zax (hd (l.drop (zbr l))) = true) : zas l = .inl (0, 11) := by
 rw [zas, h]; exact if_pos ⟨h1, h2⟩
theorem zhp {l : Bs} {v : Int} (h : number (l.take (zbr l)) = some v) (h1 : l.drop (zbr l) = [] ∨ zax (hd (l.drop (zbr l))) = false) : zas l = .inr (4, [], v, zbr l) := by
 rw [zas, h]; exact if_neg (by rintro ⟨a, b⟩; rcases h1 with h1 | h1 <;> simp_all)
theorem cutNumber_any (s : ByteArray) (a : Nat) (w : World) (h1 : a < s.size) (hs : s.size ≤ 281474976710656) (hdg : zab (s[a].toNat : Int) = true) :
  Calls Tryz.prog 177 #[.string s, .int .i64 a] w fun e w' => zca w a (zas (s.data.toList.drop a)) e w' := by
 have HD := za3 hdg
 clear hdg
 go_enter Tryz.func177, Tryz.ntmps177
 go_wp2
 go_loop [7] (fun i => ∃ k : Nat, a + 1 ≤ k ∧ k ≤ s.size ∧ i = .int .i64 k ∧ Hid (zbr (s.data.toList.drop a) = (k - a) + zai zab (s.data.toList.drop k))) (fun i => s.size - (intOf i).toNat)
 case atStart => exact ⟨a + 1, by omega, by omega, by go_num, by show _ = _; rw [zbr, tail_drop]; omega⟩
 case round =>
  obtain ⟨k, hk1, hk2, rfl, HK⟩ := hrel
  by_cases hc : ∃ h : k < s.size, zab (s[k].toNat : Int) = true
  ·obtain ⟨hlt, hn⟩ := hc
   have HR := za3 (runLen_at zab s k hlt hn)
   go_wp2_with (first | (go_at_call 175; refine (zba _ _).mono ?_; rintro e w' ⟨rfl, rfl⟩))
   go_round
   case rel => exact ⟨k + 1, by omega, by omega, by go_num, by have e1 := za0 HK; have e2 := za0 HR; show _ = _; omega⟩
   case measure => simp [intOf]; omega
  ·have hstop : zai zab (s.data.toList.drop k) = 0 := by
    by_cases hlt : k < s.size
    ·exact zl8 zab s k hlt ((Bool.not_eq_true _).mp fun h => hc ⟨hlt, h⟩)
    ·exact runLen_end zab s k (by omega)
   have hdl : zbr (s.data.toList.drop a) = k - a := by have e1 := za0 HK; omega
   have hak : a ≤ k := by omega
   have hex : s.extract a k = ⟨((s.data.toList.drop a).take (zbr (s.data.toList.drop a))).toArray⟩ := by
    have := zcj s a (k - a); rw [hdl]; rwa [show a + (k - a) = k from by omega] at this
   have NB : Hid (∀ w, Calls Tryz.prog 186 #[.string (s.extract a k)] w fun e w' => e = numAns (number ((s.data.toList.drop a).take (zbr (s.data.toList.drop a)))) ∧ w' = w) := by
    intro w
    have := number_any (s.extract a k) w (by simp; omega) (by unfold maxLen; simp; omega) (by
     have := run_digits s a (k - a) h1 (za0 HD) hdl.symm (by omega)
     rw [show a + (k - a) = k from by omega] at this
     exact this)
    rw [hex] at this ⊢
    simpa using this
   have hdr : (s.data.toList.drop a).drop (zbr (s.data.toList.drop a)) = s.data.toList.drop k := by
    rw [hdl, List.drop_drop]; congr 1; omega
   have HL := za3 hdl
   rcases hnum : number ((s.data.toList.drop a).take (zbr (s.data.toList.drop a))) with _ | v
   ·have NB : Hid (∀ w, Calls Tryz.prog 186 #[.string (s.extract a k)] w fun e w' => e = .returned (.tuple #[.int .i64 0, .bool false]) ∧ w' = w) := by
     intro w; have := za0 NB w; rw [hnum] at this; exact this
    have HC := za3 (cutNumber_no1 hnum)
    clear hnum hdr hex hdl hstop HK
    by_cases hlt : k < s.size
    ·have hn : zab (s[k].toNat : Int) = false := (Bool.not_eq_true _).mp fun h => hc ⟨hlt, h⟩
     clear hc
     go_wp2_with (first | (go_at_call 175; refine (zba _ _).mono ?_; rintro e w' ⟨rfl, rfl⟩) | (go_at_call 186; go_fit (za0 NB _); rintro e w' ⟨rfl, rfl⟩) | (go_at_call 188; refine (zd9 _ _ _).mono ?_; rintro e w' ⟨rfl, rfl⟩))
     exact bodyPost_ret (v := .tuple #[.agg #[.int .i64 0, .int .i64 0, .string ⟨#[]⟩, .int .i64 0], .int .i64 0, .pointer (some ⟨w.heap.size + 1, 0, none⟩)]) (by simp [results, Tryz.results177, go_sem]) rfl (ze8 (za0 HC) (zg9 _ _ _) (by omega) (zgt _ _ _))
    ·clear hc
     go_wp2_with (first | (go_at_call 186; go_fit (za0 NB _); rintro e w' ⟨rfl, rfl⟩) | (go_at_call 188; refine (zd9 _ _ _).mono ?_; rintro e w' ⟨rfl, rfl⟩))
     exact bodyPost_ret (v := .tuple #[.agg #[.int .i64 0, .int .i64 0, .string ⟨#[]⟩, .int .i64 0], .int .i64 0, .pointer (some ⟨w.heap.size + 1, 0, none⟩)]) (by simp [results, Tryz.results177, go_sem]) rfl (ze8 (za0 HC) (zg9 _ _ _) (by omega) (zgt _ _ _))
   ·have NB : Hid (∀ w, Calls Tryz.prog 186 #[.string (s.extract a k)] w fun e w' => e = .returned (.tuple #[.int .i64 v, .bool true]) ∧ w' = w) := by
     intro w; have := za0 NB w; rw [hnum] at this; exact this
    by_cases hlt : k < s.size
    ·have hn : zab (s[k].toNat : Int) = false := (Bool.not_eq_true _).mp fun h => hc ⟨hlt, h⟩
     by_cases hnm : zax (s[k].toNat : Int) = true
     ·have HC := za3 (cutNumber_no2 hnum (by rw [hdr, drop_cons s k hlt]; simp) (by rw [hdr, hd_at s k hlt]; exact hnm))
      clear hnum hdr hex hdl hstop HK hc
      go_wp2_with (first | (go_at_call 175; refine (zba _ _).mono ?_; rintro e w' ⟨rfl, rfl⟩) | (go_at_call 186; go_fit (za0 NB _); rintro e w' ⟨rfl, rfl⟩) | (go_at_call 188; refine (zd9 _ _ _).mono ?_; rintro e w' ⟨rfl, rfl⟩) | (go_at_call 187; refine (zfb _ _).mono ?_; rintro e w' ⟨rfl, rfl⟩))
      exact bodyPost_ret (v := .tuple #[.agg #[.int .i64 0, .int .i64 0, .string ⟨#[]⟩, .int .i64 0], .int .i64 0, .pointer (some ⟨w.heap.size + 1, 0, none⟩)]) (by simp [results, Tryz.results177, go_sem]) rfl (ze8 (za0 HC) (zg9 _ _ _) (by omega) (zgt _ _ _))
     ·have hnm : zax (s[k].toNat : Int) = false := (Bool.not_eq_true _).mp hnm
      have HC := za3 (zhp hnum (.inr (by rw [hdr, hd_at s k hlt]; exact hnm)))
      clear hnum hdr hex hdl hstop HK hc
      go_wp2_with (first | (go_at_call 175; refine (zba _ _).mono ?_; rintro e w' ⟨rfl, rfl⟩) | (go_at_call 186; go_fit (za0 NB _); rintro e w' ⟨rfl, rfl⟩) | (go_at_call 187; refine (zfb _ _).mono ?_; rintro e w' ⟨rfl, rfl⟩))
      exact bodyPost_ret (v := .tuple #[.agg #[.int .i64 a, .int .i64 4, .string ⟨#[]⟩, .int .i64 v], .int .i64 k, .pointer none]) (by simp [results, Tryz.results177, go_sem]) rfl (zdk (za0 HC) ((Below.refl _ _).alloc (Nat.le_refl _) _) rfl (by have := za0 HL; omega))
    ·have HC := za3 (zhp hnum (.inl (by rw [hdr]; exact List.drop_of_length_le (by simp; omega))))
     clear hnum hdr hex hdl hstop HK hc
     go_wp2_with (first | (go_at_call 186; go_fit (za0 NB _); rintro e w' ⟨rfl, rfl⟩))
     exact bodyPost_ret (v := .tuple #[.agg #[.int .i64 a, .int .i64 4, .string ⟨#[]⟩, .int .i64 v], .int .i64 k, .pointer none]) (by simp [results, Tryz.results177, go_sem]) rfl (zdk (za0 HC) ((Below.refl _ _).alloc (Nat.le_refl _) _) rfl (by have := za0 HL; omega))
end Go.Proofs.YtmpbbmfbgcpplaaGreatDoor
