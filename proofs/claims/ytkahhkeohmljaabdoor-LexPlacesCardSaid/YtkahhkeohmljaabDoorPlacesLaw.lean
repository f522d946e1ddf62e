/-
  coillaw1.LexPlaces, walked: it answers true, whatever text it is handed.
-/
import Derived.Test.YtkahhkeohmljaabDoorLexed
import Derived.Test.YtkahhkeohmljaabDoorLaws7
import Derived.Test.YtkahhkeohmljaabDoorFew
namespace Go.Proofs.YtkahhkeohmljaabDoor
open Go Go.RowKit Lx

theorem bytes_eq {a b : ByteArray} (h : a.data.toList = b.data.toList) : a = b := by
  apply ByteArray.ext
  apply Array.ext'
  exact h
theorem size_mk (l : Bs) : ByteArray.size ⟨l.toArray⟩ = l.length := by show l.toArray.size = _; simp
theorem extract_data (s : ByteArray) (a z : Nat) : (s.extract a z).data.toList = (s.data.toList.drop a).take (z - a) := by
  rw [ByteArray.data_extract, Array.toList_extract]
set_option maxHeartbeats 4000000 in
set_option maxRecDepth 100000 in
theorem LexPlaces_any (s : ByteArray) (w : World) (hs : s.size ≤ 9223372036854775807) (hg : ErrType w) (ht : Tab w) (h5 : 5 ≤ w.heap.size) :
    Calls Tryd.prog 4 #[.string s] w fun e w' => e = .returned (.bool true) ∧ Below w.heap.size w w' := by
  have HB : Below w.heap.size w w := Below.refl _ _
  have RN := hide (fun W (hb : Below w.heap.size w W) => Runs_b (w0 := w) W hb hg ht h5)
  have HT := hide ht
  clear hg ht
  have hS := (fewB_size s 4000).1
  have FW := hide (few_any s 4000 w hs (by omega))
  revert hS FW
  generalize fewB s 4000 = S
  intro hS FW
  rcases hx : lex S.data.toList with ⟨ts, _ | ⟨p, y⟩⟩
  · obtain ⟨_, hlay, hmany⟩ := lex_ok hx
    have TK := hide (fun W => Tokens_ok S ts W (by omega) hx)
    have HL : Hid (Lay (S.data.toList.drop 0) 0 ts) := by rw [List.drop_zero]; exact hlay
    clear hx hlay
    go_enter Tryd.func4, Tryd.ntmps4
    go_wp2_with (first | (go_at_call 14; refine (unhide FW).mono ?_; rintro e w' ⟨rfl, rfl⟩) | (go_at_call 9; refine (unhide TK _).mono ?_; rintro e w1 ⟨v, rfl, hv, hb1⟩))
    replace HB := step0 HB hb1
    clear hb1
    obtain ⟨p, c, rfl, hp⟩ := hv
    have HP := hide hp
    clear hp
    go_loopw [5, 6] (fun en i wr => ∃ k e : Nat, i = .int .i64 k ∧ en = .int .i64 e ∧ k ≤ ts.length ∧ e ≤ S.size ∧ Below w1.heap.size w1 wr ∧ Hid (Lay (S.data.toList.drop e) e (ts.drop k))) (fun _ i _ => ts.length - (intOf i).toNat)
    case atStart => exact ⟨0, 0, rfl, rfl, by omega, by omega, Below.refl _ _, HL⟩
    case round =>
      obtain ⟨k, en, rfl, rfl, hk, hen, hb, HK⟩ := hrel
      replace HB := step0 HB hb
      by_cases hlt : k < ts.length
      · obtain ⟨g, o, rfl, a0, a1, a2, a3⟩ := unhide HP k ts[k] (by simp [hlt])
        have hgl := cell_lt a0
        have hlt' : (k : Int) < (ts.length : Int) := by omega
        have hlay := unhide HK
        rw [List.drop_eq_getElem_cons hlt] at hlay
        obtain ⟨_, q2, q3, q4, q5, q6, q7, q8, q9, q10⟩ := place_step (by rw [len_data]; exact hen) (by rw [len_data]; exact hS) hlay
        rw [len_data] at q4
        clear hlay HK HL TK FW
        revert a0 a1 a2 a3 q2 q3 q4 q5 q6 q7 q8 q9 q10
        generalize ts[k] = t
        obtain ⟨pl, kd, sy, nv⟩ := t
        intro a0 a1 a2 a3 q2 q3 q4 q5 q6 q7 q8 q9 q10
        obtain ⟨T, hT⟩ : ∃ T : ByteArray, T = ⟨(tokText (pl, kd, sy, nv)).toArray⟩ := ⟨_, rfl⟩
        have hTs : T.size = (tokText (pl, kd, sy, nv)).length := by rw [hT, size_mk]
        have q2' : Hid (joinAns (join [(pl, kd, sy, nv)]) = .tuple #[.string T, .int .i64 0]) := by show _ = _; rw [q2, hT]; rfl
        have q3' : en ≤ pl := q3
        obtain ⟨z, hz⟩ : ∃ z : Nat, z = pl + T.size := ⟨_, rfl⟩
        have q4' : z ≤ S.size := by rw [hz, hTs]; exact q4
        have q5' : S.extract pl z = T := by
          apply bytes_eq
          rw [hz, extract_data, hT, size_mk, Nat.add_sub_cancel_left]
          exact q5
        have hpz : pl ≤ z := by omega
        have hpS : pl ≤ S.size := by omega
        have hz' : (pl : Int) + (T.size : Int) = (z : Int) := by omega
        have q6' : lex (S.extract en pl).data.toList = ([], none) := by rw [extract_data]; exact q6
        have q7' : Hid (Lay (S.data.toList.drop z) z (ts.drop (k + 1))) := by rw [hz, hTs]; exact q7
        have HF : Hid (Fits [(pl, kd, sy, nv)]) := by
          intro x hx
          rw [List.mem_singleton.1 hx]
          exact ⟨Nat.le_trans q8 (by omega), Int.le_trans (by omega) q9, q10⟩
        clear q2 q3 q4 q5 q6 q7 q8 q9 q10 hTs hT hz
        have C4 : Hid (∀ W, Below w1.heap.size w1 W → W.cell? ⟨g, o + k * 4, none⟩ = some (.int .i64 pl) ∧ W.cell? ⟨g, o + k * 4 + 1, none⟩ = some (.int .i64 kd) ∧ W.cell? ⟨g, o + k * 4 + 2, none⟩ = some (.string ⟨sy.toArray⟩) ∧ W.cell? ⟨g, o + k * 4 + 3, none⟩ = some (.int .i64 nv)) := by
          intro W hb
          exact ⟨(hb.cell (p := ⟨g, _, none⟩) hgl).trans a0, (hb.cell (p := ⟨g, _, none⟩) hgl).trans a1, (hb.cell (p := ⟨g, _, none⟩) hgl).trans a2, (hb.cell (p := ⟨g, _, none⟩) hgl).trans a3⟩
        clear a0 a1 a2 a3
        obtain ⟨a0, a1, a2, a3⟩ := unhide C4 _ hb
        have J1 := hide (fun W (hb : Below w.heap.size w W) => Join_b (w0 := w) _ [(pl, kd, sy, nv)] _ _ (TokRow.of_new W [(pl, kd, sy, nv)] 1 _ rfl) (by simp) (unhide HF) (hb.alloc hb.size _) (unhide HT) h5 (unhide q2'))
        have hsz : (S.extract en pl).size ≤ 140737488355328 := by rw [ByteArray.size_extract]; omega
        have TK := hide (fun W => Tokens_ok (S.extract en pl) [] W hsz q6')
        clear hsz q6' q2' HF
        go_wp2_with (first | (go_at_call 13; go_fit (unhide J1 _ HB); rintro e w2 ⟨rfl, hb2⟩; have hb12 := step1 hb hb2; have HB2 := step1 HB hb2; obtain ⟨b0, b1, b2, b3⟩ := unhide C4 _ hb12) | (go_at_call 9; refine (unhide TK _).mono ?_; rintro e w3 ⟨v, rfl, hv, hb3⟩; obtain ⟨p3, c3, rfl, _⟩ := hv))
        go_roundw
        case rel => exact ⟨k + 1, z, by go_num, by go_num, by omega, by omega, step0 hb12 hb3, q7'⟩
        case measure => simp [intOf]; omega
      · have hlay := unhide HK
        rw [show ts.drop k = [] from List.drop_of_length_le (by omega)] at hlay
        have q6 : lex (S.extract en S.size).data.toList = ([], none) := by
          rw [extract_data, List.take_of_length_le (by simp)]
          exact lay_none hlay (by rw [List.length_drop, len_data]; omega)
        have hsz : (S.extract en S.size).size ≤ 140737488355328 := by rw [ByteArray.size_extract]; omega
        have TK := hide (fun W => Tokens_ok (S.extract en S.size) [] W hsz q6)
        clear hlay HK hsz q6
        go_wp2_with (first | (go_at_call 9; refine (unhide TK _).mono ?_; rintro e w3 ⟨v, rfl, hv, hb3⟩; obtain ⟨p3, c3, rfl, _⟩ := hv; replace HB := step0 HB hb3; clear hb3) | (go_at_call 11; refine (unhide RN _ HB).mono ?_; rintro e wl ⟨rfl, hbl⟩))
        go_ret
        exact ⟨rfl, step0 HB hbl⟩
  · have TK := hide (fun W => Tokens_no S p y W (by omega) (by rw [hx]))
    clear hx
    go_enter Tryd.func4, Tryd.ntmps4
    go_wp2_with (first | (go_at_call 14; refine (unhide FW).mono ?_; rintro e w' ⟨rfl, rfl⟩) | (go_at_call 9; refine (unhide TK _).mono ?_; rintro e w1 ⟨b, rfl, hr, hb1⟩; replace HB := step0 HB hb1) | (go_at_call 11; refine (unhide RN _ HB).mono ?_; rintro e wl ⟨rfl, hbl⟩))
    go_ret
    exact ⟨rfl, step0 HB hbl⟩
end Go.Proofs.YtkahhkeohmljaabDoor
