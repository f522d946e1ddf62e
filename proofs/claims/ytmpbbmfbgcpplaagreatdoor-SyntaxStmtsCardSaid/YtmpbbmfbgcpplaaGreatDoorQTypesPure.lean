import Derived.Test.YtmpbbmfbgcpplaaGreatDoorQRefE
import Derived.Test.YtmpbbmfbgcpplaaGreatDoorQSigG
namespace Go.Proofs.YtmpbbmfbgcpplaaGreatDoor
open Go Go.RowKit Lx
theorem textR_W : ∀ (ts : List Tok) (i : Nat) (acc : Bs), ts.all sound = true → textR (ts.map za5) i acc = zev ts i acc
 | [], _, _, _ => rfl
 | t :: r, i, acc, h => by
  simp only [List.all_cons, Bool.and_eq_true] at h
  have hle := own_le h.1
  rw [List.map_cons, textR, zev]
  generalize acc ++ (if 0 < i then [32] else []) = P
  by_cases h2 : 65536 < (P ++ za5 t).length
  ·rw [if_pos h2, if_pos h2]; exact (ite_self _).symm
  ·rw [if_neg h2, if_neg (by rw [List.length_append] at h2; omega), if_neg h2]
   exact textR_W r (i + 1) _ h.2
theorem joinW_more : ∀ (a b : List Tok) (i : Nat) (acc : Bs), zev a i acc = none → zev (a ++ b) i acc = none
 | [], _, _, _, h => by cases h
 | t :: r, b, i, acc, h => by
  rw [List.cons_append, zev]
  rw [zev] at h
  generalize acc ++ (if 0 < i then [32] else []) = P at h ⊢
  by_cases h1 : 65536 < P.length + t.2.2.1.length
  ·rw [if_pos h1]
  ·rw [if_neg h1] at h ⊢
   by_cases h2 : 65536 < (P ++ za5 t).length
   ·rw [if_pos h2]
   ·rw [if_neg h2] at h ⊢
    exact joinW_more r b _ _ h
theorem sound_ne {t : Tok} (hs : sound t = true) : za5 t ≠ [] := by
 obtain ⟨a, k, s, v⟩ := t
 by_cases h4 : k = 4
 ·subst h4
  simp [sound] at hs
  obtain ⟨n, rfl⟩ : ∃ n : Nat, v = (n : Int) := ⟨v.toNat, by omega⟩
  rw [zdw]
  exact zln n
 ·by_cases h5 : k = 5
  ·subst h5
   rw [zcq, quote]
   simp
  ·rw [zay (by exact h4) (by exact h5)]
   intro e
   simp only at e
   subst e
   simp [sound, h4, h5, zb1] at hs
theorem spaced_two : ∀ (ts : List Tok), ts.all sound = true → 2 * ts.length ≤ (zfd ts).length
 | [], _ => by simp
 | t :: r, h => by
  simp only [List.all_cons, Bool.and_eq_true] at h
  have h1 := spaced_two r h.2
  have h2 : za5 t ≠ [] := sound_ne h.1
  have h3 := List.length_pos_iff.2 h2
  rw [zfu]
  simp only [List.length_cons, List.length_append]
  omega
theorem joinW_long {ts : List Tok} (hs : ts.all sound = true) (hn : 32769 ≤ ts.length) : zev ts 0 [] = none := by
 cases ts with
 | nil => simp at hn
 | cons t r =>
  have h2 := spaced_two _ hs
  rw [zfu] at h2
  simp only [List.length_cons, List.length_append] at h2 hn
  simp only [zev, Nat.lt_irrefl, if_false, List.append_nil, List.length_nil, List.nil_append, Nat.zero_add]
  split
  ·rfl
  ·split
   ·rfl
   ·rename_i h3
    rcases he : zev r 1 (za5 t) with _ | l
    ·rfl
    ·obtain ⟨e1, e2⟩ := joinW_is r 1 _ l (by omega) he
     have e3 := e2 (by omega)
     rw [e1, List.length_append] at e3
     omega
theorem zjw : ∀ (l ts : List Tok), 32769 ≤ ts.length → zar ts l = ts
 | [], _, _ => rfl
 | x :: l, ts, h => by rw [zal, putT, if_neg (by omega)]; exact zjw l ts h
theorem putAll_cut (l : List Tok) (h : 32769 < l.length) : zar [] l = l.take 32769 := by
 have e : l = l.take 32769 ++ l.drop 32769 := (List.take_append_drop _ _).symm
 have hl : (l.take 32769).length = 32769 := by rw [List.length_take]; omega
 have h1 : zar [] l = zar [] (l.take 32769 ++ l.drop 32769) := by rw [← e]
 rw [h1, za6, zim (l.take 32769) [] (by rw [hl]; simp), List.nil_append, zjw _ _ (by omega)]
theorem all_take {l : List Tok} (n : Nat) (h : l.all sound = true) : (l.take n).all sound = true := by
 rw [List.all_eq_true] at h ⊢
 exact fun x hx => h x (List.mem_of_mem_take hx)
theorem text_join {l : List Tok} (hs : l.all sound = true) : zex (l.map za5) = join (zar [] l) := by
 rw [zex, textR_W _ _ _ hs, List.length_map]
 by_cases hn : 32769 < l.length
 ·have h1 := joinW_long (all_take 32769 hs) (by rw [List.length_take]; omega)
  have h2 := joinW_more _ (l.drop 32769) _ _ h1
  rw [List.take_append_drop] at h2
  rw [h2, putAll_cut l hn, join, if_neg (by rw [all_take 32769 hs]; decide), h1]
 ·rw [zim _ _ (by simp; omega), List.nil_append, join, if_neg (by rw [hs]; decide)]
  cases zev l 0 [] <;> rfl
theorem zf9 : ∀ {d : Nat} {room : Int} {ts : List (Ty d)}, zak d room ts = true → ∀ u ∈ ts, zci d room u = true
 | 0, _, _, _, u, _ => nomatch u
 | d + 1, room, ts, h, u, hu => by
  rw [zak, List.all_eq_true] at h
  rw [zci, zak, List.all_cons, List.all_nil, Bool.and_true]
  exact h u hu
theorem zgp {α : Type} {l : List α} {i : Nat} {f : α → List Tok} (h : ∀ a ∈ l, (f a).all sound = true) : ((l[i]?.map f).getD []).all sound = true := by
 rcases hi : l[i]? with _ | a
 ·rfl
 ·exact h a (List.mem_of_getElem? hi)
theorem zgg {n : Nat} {f : Nat → List Tok} (h : ∀ i, i < n → (f i).all sound = true) : ((List.range n).flatMap f).all sound = true := by
 rw [List.all_flatMap, List.all_eq_true]
 exact fun i hi => h i (List.mem_range.1 hi)
theorem zj3 : ∀ (d : Nat) (sg : Bool) (t : Ty d) (room : Int), zci d room t = true → (zac d sg t).all sound = true
 | 0, _, t, _, _ => nomatch t
 | d + 1, sg, t, room, hr => by
  rw [zfv, zeh] at hr
  simp only [Bool.and_eq_true] at hr
  obtain ⟨⟨_, hsh⟩, hps⟩ := hr
  obtain ⟨K, S, ns, es, ps⟩ := t
  have hmem := zf9 hps
  have hpart : ∀ (i : Nat) (s : Bool), ((ps[i]?.map (zac d s)).getD []).all sound = true := fun i s => zgp fun a ha => zj3 d s a _ (hmem a ha)
  have hsig : (tS [40] :: ((List.range (ps.length - 1)).flatMap fun i => (if 0 < i then [tS [44]] else []) ++ (ps[i]?.map (zac d false)).getD []) ++ tS [41] :: (ps[ps.length - 1]?.map (zac d false)).getD []).all sound = true := by
   rw [List.all_append, List.all_cons, List.all_cons, hpart, zgg fun i hi => by rw [List.all_append, hpart]; split <;> decide +kernel]
   decide +kernel
  have hnm : zc9 ns = true → ∀ i, i < ns.length → sound (tN (ns.getD i [])) = true := fun h i hi => by
   unfold zc9 at h
   rw [Bool.and_eq_true, List.all_eq_true] at h
   have := h.1 ns[i] (by simp)
   rw [List.getD_eq_getElem?_getD, List.getElem?_eq_getElem hi]
   exact this
  dsimp only [zcc] at hsh
  show (if sg = true then _ else if K = 1 then _ else if K = 2 then _ else if K = 3 then _ else if K = 4 then _ else if K = 5 then _ else if K = 6 then _ else if K = 7 then _ else if K = 8 then _ else []).all sound = true
  by_cases hc0 : sg = true
  ·rw [if_pos hc0]; exact hsig
  rw [if_neg hc0]
  by_cases hc1 : K = 1
  ·rw [if_pos hc1]; decide +kernel
  rw [if_neg hc1]
  by_cases hc2 : K = 2
  ·rw [if_pos hc2]; decide +kernel
  rw [if_neg hc2]
  by_cases hc3 : K = 3
  ·rw [if_pos hc3]; decide +kernel
  rw [if_neg hc3]
  by_cases hc4 : K = 4
  ·subst hc4
   rw [if_pos rfl, List.all_cons, List.all_nil, Bool.and_true]
   simp [zaw] at hsh
   exact hsh.2
  rw [if_neg hc4]
  by_cases hc5 : K = 5
  ·rw [if_pos hc5, List.all_cons, hpart]; decide +kernel
  rw [if_neg hc5]
  by_cases hc6 : K = 6
  ·subst hc6
   simp [zaw] at hsh
   have hn := hnm hsh.2.2
   rw [if_pos rfl, List.all_append, List.all_cons, zgg fun i hi => by rw [List.all_append, List.all_append, List.all_cons, hpart, hn i hi]; split <;> decide +kernel]
   decide +kernel
  rw [if_neg hc6]
  by_cases hc7 : K = 7
  ·rw [if_pos hc7, List.all_cons, hsig]; decide +kernel
  rw [if_neg hc7]
  by_cases hc8 : K = 8
  ·subst hc8
   simp [zaw] at hsh
   have hn := hnm hsh.2.1.2
   rw [if_pos rfl, List.all_append, List.all_cons, List.all_cons, zgg fun i hi => by rw [List.all_append, List.all_cons, hpart, hn i hi]; decide +kernel]
   decide +kernel
  rw [if_neg hc8]; rfl
end Go.Proofs.YtmpbbmfbgcpplaaGreatDoor
