/-
  coillaw1.LexHead, walked: it answers true, whatever texts it is handed.
-/
import Derived.Test.YtkahhkeohmljaaaDoorLexed
import Derived.Test.YtkahhkeohmljaaaDoorFew
namespace Go.Proofs.YtkahhkeohmljaaaDoor
open Go Go.RowKit Lx

theorem Tokens_cap (s : ByteArray) (ts : List Tok) (w : World) (hs : s.size ≤ 140737488355328) (hx : lex s.data.toList = (ts, none)) :
    Calls Tryd.prog 8 #[.string s] w fun e w' => ∃ p c, e = .returned (.tuple #[.slice p ts.length c, .nilIface]) ∧ ts.length ≤ c ∧ TokRow w' (.slice p ts.length c) ts ∧ Below w.heap.size w w' := by
  refine (Tokens_any s hs w).mono ?_
  rintro e w' ⟨hb, h⟩
  rw [hx] at h
  obtain ⟨v, rfl, ho⟩ := h
  have ho : w'.ownsRow w.heap.size 26 4 v ts.length (allCells ts) := ho
  have hr := TokRow.of_owns ho
  rcases ho.2 with ⟨rfl, h0⟩ | ⟨g, cap, cur, rfl, hg, _, hc, _⟩
  · exact ⟨none, 0, by rw [h0], by omega, by rw [h0]; exact hr, hb⟩
  · exact ⟨some ⟨g, 0, none⟩, cap, rfl, hc, hr, hb⟩
/-- A slice's beginning. -/
theorem TokRow.pre {w : World} {p : Option Addr} {n c c' : Nat} {x z : List Tok} (h : TokRow w (.slice p n c) (x ++ z)) : TokRow w (.slice p x.length c') x := by
  obtain ⟨q, d, e, hq⟩ := h
  cases e
  refine ⟨p, c', rfl, fun j t ht => hq j t ?_⟩
  rw [List.getElem?_append_left (List.getElem?_eq_some_iff.1 ht).1]
  exact ht
/-- The four cells of one of them, and of the same whatever grows. -/
theorem TokRow.cells {w : World} {p : Option Addr} {n c j : Nat} {ts : List Tok} {t : Tok} (h : TokRow w (.slice p n c) ts) (ht : ts[j]? = some t) : ∃ g o, p = some ⟨g, o, none⟩ ∧ ∀ W, Below w.heap.size w W →
    W.cell? ⟨g, o + j * 4, none⟩ = some (.int .i64 (t.1 : Int)) ∧ W.cell? ⟨g, o + j * 4 + 1, none⟩ = some (.int .i64 t.2.1) ∧ W.cell? ⟨g, o + j * 4 + 2, none⟩ = some (.string ⟨t.2.2.1.toArray⟩) ∧ W.cell? ⟨g, o + j * 4 + 3, none⟩ = some (.int .i64 t.2.2.2) := by
  obtain ⟨q, d, e, hq⟩ := h
  cases e
  obtain ⟨g, o, rfl, a0, a1, a2, a3⟩ := hq j t ht
  have hg := cell_lt a0
  exact ⟨g, o, rfl, fun W hb => ⟨(hb.cell (p := ⟨g, _, none⟩) hg).trans a0, (hb.cell (p := ⟨g, _, none⟩) hg).trans a1, (hb.cell (p := ⟨g, _, none⟩) hg).trans a2, (hb.cell (p := ⟨g, _, none⟩) hg).trans a3⟩⟩
theorem nl_data (A B : ByteArray) : (A ++ ⟨#[10]⟩ ++ B).data.toList = A.data.toList ++ 10 :: B.data.toList := by
  rw [ByteArray.data_append, ByteArray.data_append]; simp
set_option maxHeartbeats 1000000 in
set_option maxRecDepth 100000 in
theorem LexHead_any (s0 s1 : ByteArray) (w : World) (hs0 : s0.size ≤ 9223372036854775807) (hs1 : s1.size ≤ 9223372036854775807) (hg : ErrType w) (ht : Tab w) (h5 : 5 ≤ w.heap.size) :
    Calls Tryd.prog 5 #[.string s0, .string s1] w fun e w' => e = .returned (.bool true) ∧ Below w.heap.size w w' := by
  have HB : Below w.heap.size w w := Below.refl _ _
  have RN := hide (fun W (hb : Below w.heap.size w W) => Runs_b (w0 := w) W hb hg ht h5)
  clear hg ht
  have hA := (fewB_size s0 2000).1
  have hB := (fewB_size s1 2000).1
  have F0 := hide (fun W => few_any s0 2000 W hs0 (by omega))
  have F1 := hide (fun W => few_any s1 2000 W hs1 (by omega))
  revert hA hB F0 F1
  generalize fewB s0 2000 = A
  generalize fewB s1 2000 = B
  intro hA hB F0 F1
  clear hs0 hs1
  rcases hx : lex A.data.toList with ⟨x, _ | ⟨p, y⟩⟩
  · obtain ⟨_, hlay, hmany⟩ := lex_ok hx
    have hxc := hlay.count
    rw [len_data] at hxc
    have TK := hide (fun W => Tokens_cap A x W (by omega) hx)
    have RI := hide hlay.rise
    have IN : Hid (∀ t ∈ x, t.1 < A.size) := fun t ht => by have := (hlay.all t ht).2.2.2.2.2; rw [len_data] at this; omega
    have hYs : (A ++ ⟨#[10]⟩ ++ B).size ≤ 140737488355328 := by rw [← len_data, nl_data, List.length_append, List.length_cons, len_data, len_data]; omega
    have hYl : A.data.toList.length + B.data.toList.length + 1 ≤ 65536 := by rw [len_data, len_data]; omega
    have HX := hide hx
    clear hx hlay hmany
    go_enter Tryd.func5, Tryd.ntmps5
    go_wp2_with (first | (go_at_call 14; refine (unhide F0 _).mono ?_; rintro e w' ⟨rfl, rfl⟩; clear F0) | (go_at_call 14; refine (unhide F1 _).mono ?_; rintro e w' ⟨rfl, rfl⟩) | (go_at_call 8; refine (unhide TK _).mono ?_; rintro e w1 ⟨px, cx, rfl, hcx, hvx, hb1⟩))
    replace HB := step0 HB hb1
    clear hb1 TK F1
    have HV := hide hvx
    clear hvx
    go_loop [7, 8] (fun l i => ∃ (k : Nat) (z : Int), k ≤ x.length ∧ i = .int .i64 k ∧ l = .int .i64 z ∧ -1 ≤ z ∧ z ≤ 2000 ∧ Hid (∀ t, x[k]? = some t → z < (t.1 : Int))) (fun _ i => x.length - (intOf i).toNat)
    case atStart => exact ⟨0, -1, by omega, rfl, rfl, by omega, by omega, fun t _ => by omega⟩
    case round =>
      obtain ⟨k, z, hk, rfl, rfl, hz0, hz1, HK⟩ := hrel
      by_cases hlt : k < x.length
      · have hget : x[k]? = some x[k] := by simp [hlt]
        obtain ⟨g, o, rfl, hc4⟩ := (unhide HV).cells hget
        obtain ⟨a0, _, _, _⟩ := hc4 w1 (Below.refl _ _)
        have i1 := unhide HK _ hget
        have i2 := unhide IN x[k] (by simp)
        have HR : Hid (∀ u, x[k + 1]? = some u → (x[k].1 : Int) < (u.1 : Int)) := fun u hu => by have := unhide RI k _ u hget hu; omega
        have hlt' : (k : Int) < (x.length : Int) := by omega
        clear hc4 HK
        revert a0 i1 i2 HR
        generalize x[k].1 = pl
        intro a0 i1 i2 HR
        go_wp2
        go_round
        case rel => exact ⟨k + 1, pl, by omega, by go_num, rfl, by omega, by omega, HR⟩
        case measure => simp [intOf]; omega
      · clear HK RI IN
        rcases hz : lex B.data.toList with ⟨z, _ | ⟨p2, y2⟩⟩
        · obtain ⟨_, hlz, _⟩ := lex_ok hz
          have hzc := hlz.count
          rw [len_data] at hzc
          obtain ⟨Y, hY⟩ : ∃ Y, Y = x ++ further (A.size + 1) z := ⟨_, rfl⟩
          have hgood : lex (A ++ ⟨#[10]⟩ ++ B).data.toList = (Y, none) := by rw [nl_data, head_good (unhide HX) hz hYl (by omega), len_data, hY]
          have hYn : Y.length = x.length + z.length := by rw [hY]; simp [further]
          have hYn' : (Y.length : Int) = (x.length : Int) + (z.length : Int) := by omega
          have hxz : (x.length : Int) + (z.length : Int) ≤ 4096 := by omega
          have YT : Hid (∀ k t, z[k]? = some t → Y[x.length + k]? = some (t.1 + (A.size + 1), t.2)) := fun k t ht => by
            rw [hY, List.getElem?_append_right (by omega), Nat.add_sub_cancel_left, further, List.getElem?_map, ht]; rfl
          have YP : Hid (∀ W q n c', TokRow W (.slice q n c') Y → TokRow W (.slice q x.length c') x) := fun W q n c' h => by rw [hY] at h; exact h.pre
          have TKy := hide (fun W => Tokens_cap (A ++ ⟨#[10]⟩ ++ B) Y W hYs hgood)
          have TKz := hide (fun W => Tokens_cap B z W (by omega) hz)
          have IZ : Hid (∀ t ∈ z, t.1 < B.size) := fun t ht => by have := (hlz.all t ht).2.2.2.2.2; rw [len_data] at this; omega
          clear hgood hz hlz hY HX
          go_wp2_with (go_at_call 8; refine (unhide TKy _).mono ?_; rintro e w2 ⟨py, cy, rfl, hcy, hvy, hb2⟩; clear TKy)
          refine (unhide TKz _).mono ?_
          rintro e w3 ⟨pz, cz, rfl, hcz, hvz, hb3⟩
          clear TKz
          have hxy : x.length ≤ cy := by omega
          have ST := hide (SameTok_any _ _ x w3 (by omega) (unhide YP _ _ _ _ (hvy.below hb3)) ((unhide HV).below (step0 hb2 hb3)))
          go_wp2_with (go_at_call 15; refine (unhide ST).mono ?_; rintro e w4 ⟨rfl, hb4⟩)
          have HB4 := step0 (step0 (step0 HB hb2) hb3) hb4
          have HY4 := hide (hvy.below (step0 hb3 hb4))
          have HZ4 := hide (hvz.below hb4)
          clear hvy hvz ST YP HV hb2 hb3 hb4 HB
          go_loopw [12] (fun i wr => ∃ k : Nat, i = .int .i64 k ∧ k ≤ z.length ∧ Below w4.heap.size w4 wr) (fun i _ => z.length - (intOf i).toNat)
          case atStart => exact ⟨0, rfl, by omega, Below.refl _ _⟩
          case round =>
            obtain ⟨k, rfl, hk, hb⟩ := hrel
            by_cases hlt : k < z.length
            · have hget : z[k]? = some z[k] := by simp [hlt]
              have hlt' : (k : Int) < (z.length : Int) := by omega
              rcases hzk : z[k] with ⟨pl, kd, sy, nv⟩
              rw [hzk] at hget
              clear hzk
              obtain ⟨g, o, rfl, hcz4⟩ := (unhide HZ4).cells hget
              obtain ⟨g', o', rfl, hcy4⟩ := (unhide HY4).cells (unhide YT k _ hget)
              obtain ⟨a0, a1, a2, a3⟩ := hcz4 wr hb
              obtain ⟨b0, b1, b2, b3⟩ := hcy4 wr hb
              obtain ⟨m, hm⟩ : ∃ m : Nat, x.length + k = m := ⟨_, rfl⟩
              have hm' : (x.length : Int) + (k : Int) = (m : Int) := by omega
              have hmY : m < Y.length := by omega
              have hpl : ((pl + (A.size + 1) : Nat) : Int) = (pl : Int) + (A.size : Int) + 1 := by omega
              dsimp only at a0 a1 a2 a3 b0 b1 b2 b3
              rw [hm, hpl] at b0
              rw [hm] at b1 b2 b3
              have hiz : pl < B.size := unhide IZ (pl, kd, sy, nv) (List.mem_of_getElem? hget)
              clear hcz4 hcy4 hget hm hpl
              have hmY1 : m < x.length + z.length := by omega
              have hmY2 : (m : Int) < (x.length : Int) + (z.length : Int) := by omega
              have hg1 := cell_lt a0
              have hg2 := cell_lt b0
              have hplb : (pl : Int) ≤ 100000 := by omega
              go_wp2
              go_quiet (fail)
              go_wp2
              go_roundw
              case rel => exact ⟨k + 1, by go_num, by omega, below_drewN (hb.alloc hb.size _) _⟩
              case measure => simp [intOf]; omega
            · have HB5 := step0 HB4 hb
              go_wp2_with (go_at_call 3; refine (unhide RN _ HB5).mono ?_; rintro e wl ⟨rfl, hbl⟩)
              go_ret
              exact ⟨rfl, step0 HB5 hbl⟩
        · obtain ⟨p3, y3, h3⟩ : ∃ p3 y3, (lex (A ++ ⟨#[10]⟩ ++ B).data.toList).2 = some (p3, y3) := by
            have := head_bad (unhide HX) hYl (by rw [hz]; simp)
            rw [nl_data]
            rcases hq : (lex (A.data.toList ++ 10 :: B.data.toList)).2 with _ | ⟨p3, y3⟩
            · exact absurd hq this
            · exact ⟨p3, y3, rfl⟩
          have TKy := hide (fun W => Tokens_no (A ++ ⟨#[10]⟩ ++ B) p3 y3 W hYs h3)
          have TKz := hide (fun W => Tokens_no B p2 y2 W (by omega) (by rw [hz]))
          clear h3 hz HX
          go_wp2_with (go_at_call 8; refine (unhide TKy _).mono ?_; rintro e w2 ⟨b2, rfl, hr2, hb2⟩; clear TKy)
          refine (unhide TKz _).mono ?_
          rintro e w3 ⟨b3, rfl, hr3, hb3⟩
          clear TKz
          have HB3 := step0 (step0 HB hb2) hb3
          go_wp2_with (go_at_call 3; refine (unhide RN _ HB3).mono ?_; rintro e wl ⟨rfl, hbl⟩)
          go_ret
          exact ⟨rfl, step0 HB3 hbl⟩
  · have TK := hide (fun W => Tokens_no A p y W (by omega) (by rw [hx]))
    clear hx
    go_enter Tryd.func5, Tryd.ntmps5
    go_wp2_with (first | (go_at_call 14; refine (unhide F0 _).mono ?_; rintro e w' ⟨rfl, rfl⟩; clear F0) | (go_at_call 14; refine (unhide F1 _).mono ?_; rintro e w' ⟨rfl, rfl⟩) | (go_at_call 8; refine (unhide TK _).mono ?_; rintro e w1 ⟨b, rfl, hr, hb1⟩; replace HB := step0 HB hb1) | (go_at_call 3; refine (unhide RN _ HB).mono ?_; rintro e wl ⟨rfl, hbl⟩))
    go_ret
    exact ⟨rfl, step0 HB hbl⟩
end Go.Proofs.YtkahhkeohmljaaaDoor
