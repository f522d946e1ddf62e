/-
  Join of package lex, walked, at tokens of whatever places.
-/
import Derived.Test.YtmpbbmfbgcpplaaGreatDoorQLexC
namespace Go.Proofs.YtmpbbmfbgcpplaaGreatDoor
open Go Go.RowKit Lx

/-- A slice of tokens as it lies, whatever their places. -/
def TokAny (W : World) (v : Value) (ts : List Tok) : Prop :=
  ∃ (p : Option Addr) (c : Nat), v = .slice p ts.length c ∧ ∀ j t, ts[j]? = some t → ∃ (g o : Nat) (z : Int), p = some ⟨g, o, none⟩ ∧
    W.cell? ⟨g, o + j * 4, none⟩ = some (.int .i64 z) ∧ W.cell? ⟨g, o + j * 4 + 1, none⟩ = some (.int .i64 t.2.1) ∧
    W.cell? ⟨g, o + j * 4 + 2, none⟩ = some (.string ⟨t.2.2.1.toArray⟩) ∧ W.cell? ⟨g, o + j * 4 + 3, none⟩ = some (.int .i64 t.2.2.2)
theorem TokAny.below {w w' : World} {v : Value} {ts : List Tok} (h : TokAny w v ts) (hb : Below w.heap.size w w') : TokAny w' v ts := by
  obtain ⟨p, c, rfl, hp⟩ := h
  refine ⟨p, c, rfl, fun j t ht => ?_⟩
  obtain ⟨g, o, z, rfl, a0, a1, a2, a3⟩ := hp j t ht
  have hg := cell_lt a0
  exact ⟨g, o, z, rfl, (hb.cell (p := ⟨g, _, none⟩) hg).trans a0, (hb.cell (p := ⟨g, _, none⟩) hg).trans a1, (hb.cell (p := ⟨g, _, none⟩) hg).trans a2, (hb.cell (p := ⟨g, _, none⟩) hg).trans a3⟩
theorem TokRow.any {w : World} {v : Value} {ts : List Tok} (h : TokRow w v ts) : TokAny w v ts := by
  obtain ⟨p, c, rfl, hp⟩ := h
  refine ⟨p, c, rfl, fun j t ht => ?_⟩
  obtain ⟨g, o, rfl, a⟩ := hp j t ht
  exact ⟨g, o, _, rfl, a⟩
set_option maxHeartbeats 2000000 in
set_option maxRecDepth 100000 in
theorem Join_free (v : Value) (ts : List Tok) (w : World) (hv : TokAny w v ts) (hl : ts.length ≤ 1000000) (hF : Fits ts) (ht : Tab w) (h5 : 4 ≤ w.heap.size) :
    Calls Tryz.prog 91 #[v] w fun e w' => e = .returned (joinAns (join ts)) ∧ Below w.heap.size w w' := by
  have HF := hide hF
  have HV := hide hv
  obtain ⟨p, c, rfl, hp⟩ := hv
  have HP := hide hp
  clear hp hF
  go_enter Tryz.func91, Tryz.ntmps91
  go_wp2
  go_loopw [11] (fun i wr => ∃ k : Nat, i = .int .i64 k ∧ k ≤ ts.length ∧ Below w.heap.size w wr ∧ Hid (ts.all sound = (ts.drop k).all sound)) (fun i _ => ts.length - (intOf i).toNat)
  case atStart => exact ⟨0, rfl, by omega, Below.refl _ _, rfl⟩
  case round =>
    obtain ⟨k, rfl, hk, hb, HA⟩ := hrel
    by_cases hlt : k < ts.length
    · obtain ⟨g, o, z, rfl, a0, a1, a2, a3⟩ := unhide HP k ts[k] (by simp [hlt])
      have hlt' : (k : Int) < (ts.length : Int) := by omega
      have hg := cell_lt a0
      have b0 := (hb.cell (p := ⟨g, _, none⟩) hg).trans a0
      have b1 := (hb.cell (p := ⟨g, _, none⟩) hg).trans a1
      have b2 := (hb.cell (p := ⟨g, _, none⟩) hg).trans a2
      have b3 := (hb.cell (p := ⟨g, _, none⟩) hg).trans a3
      have hft := unhide HF ts[k] (by simp)
      have hsz : ByteArray.size ⟨ts[k].2.2.1.toArray⟩ ≤ 140737488355328 := by show ts[k].2.2.1.toArray.size ≤ _; simp; omega
      by_cases hsd : sound ts[k] = true
      · have SD := hide (fun W => sound_any z ts[k].2.1 ts[k].2.2.2 ⟨ts[k].2.2.1.toArray⟩ W hsz true (by rw [← hsd]; simp [← sound_place ts[k].1]))
        have HN : Hid (ts.all sound = (ts.drop (k + 1)).all sound) := by have e := unhide HA; rw [all_drop hlt, hsd] at e; exact e
        clear a0 a1 a2 a3 hft hsz hsd
        go_wp2_with (go_at_call 127; refine (unhide SD _).mono ?_; rintro e w1 ⟨rfl, hb1⟩)
        go_roundw
        case rel => exact ⟨k + 1, by go_num, by omega, (hb.alloc hb.size _).trans (hb1.mono (by have := hb.size; simp; omega)), HN⟩
        case measure => simp [intOf]; omega
      · have hsd : sound ts[k] = false := (Bool.not_eq_true _).mp hsd
        have SD := hide (fun W => sound_any z ts[k].2.1 ts[k].2.2.2 ⟨ts[k].2.2.1.toArray⟩ W hsz false (by rw [← hsd]; simp [← sound_place ts[k].1]))
        have HN : Hid (join ts = .inl 1) := by
          have e := unhide HA; rw [all_drop hlt, hsd] at e
          show _ = _
          rw [join, if_pos (by rw [e]; rfl)]
        clear a0 a1 a2 a3 hft hsz hsd
        go_wp2_with (go_at_call 127; refine (unhide SD _).mono ?_; rintro e w1 ⟨rfl, hb1⟩)
        go_ret2
        exact ⟨by rw [unhide HN]; rfl, (hb.alloc hb.size _).trans (hb1.mono (by have := hb.size; simp; omega))⟩
    · have HS : Hid (ts.all sound = true) := by
        have e := unhide HA; rw [List.drop_of_length_le (by omega)] at e; exact e
      obtain ⟨wA, rfl⟩ : ∃ x, x = wr := ⟨_, rfl⟩
      have hbs := hb.size
      have hB5 : 4 ≤ wA.heap.size := by omega
      have HV1 := hide ((unhide HV).below hb)
      have HT1 := hide (ht.below hb (by omega))
      clear HP HA
      go_wp2
      go_loopw [21] (fun i wr => ∃ (j : Nat) (acc : Bs), i = .int .i64 j ∧ j ≤ ts.length ∧ acc.length ≤ 65536 ∧ IsBB wA.heap.size wA.heap.size acc wr ∧ Below wA.heap.size wA wr ∧ Hid (joinW ts 0 [] = joinW (ts.drop j) j acc)) (fun i _ => ts.length - (intOf i).toNat)
      case atStart => exact ⟨0, [], rfl, by omega, by simp, Lib.IsBuilderF.of (Lib.fresh_isBuilder 167 5 wA), (Below.refl _ _).alloc (Nat.le_refl _) _, rfl⟩
      case round =>
        obtain ⟨j, acc, rfl, hj, hal, HB, hbx, HJ⟩ := hrel
        have hxs := hbx.size
        have hblt : wA.heap.size < wr.heap.size := by
          rcases HB with h | h
          · obtain ⟨_, v, hh, _⟩ := h; exact (Array.getElem?_eq_some_iff.1 hh).1
          · obtain ⟨_, v, hh, _⟩ := h; exact (Array.getElem?_eq_some_iff.1 hh).1
        by_cases hlt2 : j < ts.length
        · obtain ⟨p', c', hpe, hp'⟩ := unhide HV1
          obtain ⟨g, o, z, hpg, a0, a1, a2, a3⟩ := hp' j ts[j] (by simp [hlt2])
          simp only [Value.slice.injEq] at hpe
          obtain ⟨rfl, _, rfl⟩ := hpe
          subst hpg
          have hg := cell_lt a0
          have b0 := (hbx.cell (p := ⟨g, _, none⟩) hg).trans a0
          have b1 := (hbx.cell (p := ⟨g, _, none⟩) hg).trans a1
          have b2 := (hbx.cell (p := ⟨g, _, none⟩) hg).trans a2
          have b3 := (hbx.cell (p := ⟨g, _, none⟩) hg).trans a3
          have hft := unhide HF ts[j] (by simp)
          have hlt' : (j : Int) < (ts.length : Int) := by omega
          clear a0 a1 a2 a3 hp'
          have hba : Below wr.heap.size wr (wr.alloc (.cells #[.int .i64 z, .int .i64 ts[j].2.1, .string ⟨ts[j].2.2.1.toArray⟩, .int .i64 ts[j].2.2.2] 142)) := (Below.refl _ _).alloc (Nat.le_refl _) _
          by_cases hj0 : 0 < j
          · have hj0' : 0 < (j : Int) := by omega
            go_wp2_with (go_at_call 128; refine (WriteByte_k wA.heap.size wA.heap.size _ 32 _ (isB_below HB hba) (by rw [Lib.byteCells_length]; omega) (by simp; omega)).mono ?_; rintro e w2 ⟨rfl, HB2, hb2, ho2⟩)
            have HBB : IsBB wA.heap.size wA.heap.size (acc ++ [32]) w2 := by rw [IsBB, cells_snoc]; exact HB2
            obtain ⟨A2, hA2⟩ : ∃ A2, A2 = acc ++ [32] := ⟨_, rfl⟩
            have HA2 : A2 = acc ++ (if 0 < j then [32] else []) := by rw [hA2, if_pos hj0]
            have hal2 : A2.length ≤ 65537 := by rw [hA2]; simp; omega
            rw [← hA2] at HBB
            clear hA2
            have hq := ho2 wr.heap.size _ (heap_last wr _) (by intro e; injection e with e; omega) (by intro c fz e; injection e with _ e _; exact absurd e (by decide))
            have hbb : Below wA.heap.size wA w2 := (hbx.trans (hba.mono hxs)).trans hb2
            have t0 : w2.cell? ⟨wr.heap.size, 0, none⟩ = some (.int .i64 z) := by rw [Lib.cell_of_heap hq]; rfl
            have t1 : w2.cell? ⟨wr.heap.size, 1, none⟩ = some (.int .i64 ts[j].2.1) := by rw [Lib.cell_of_heap hq]; rfl
            have t2 : w2.cell? ⟨wr.heap.size, 2, none⟩ = some (.string ⟨ts[j].2.2.1.toArray⟩) := by rw [Lib.cell_of_heap hq]; rfl
            have t3 : w2.cell? ⟨wr.heap.size, 3, none⟩ = some (.int .i64 ts[j].2.2.2) := by rw [Lib.cell_of_heap hq]; rfl
            have hle : wA.heap.size ≤ w2.heap.size := hbb.size
            have hsz : ByteArray.size ⟨ts[j].2.2.1.toArray⟩ = ts[j].2.2.1.length := by show ts[j].2.2.1.toArray.size = _; simp
            have hJ := unhide HJ
            rw [List.drop_eq_getElem_cons hlt2, joinW, ← HA2] at hJ
            have hT2 := (unhide HT1).below hbb hB5
            have HA3 : ∃ A3, A3 = A2 ++ tokText ts[j] := ⟨_, rfl⟩
            obtain ⟨A3, hA3⟩ := HA3
            rw [← hA3] at hJ
            have LN2 := hide (fun W (h : IsBB wA.heap.size wA.heap.size A2 W) => Len_w wA.heap.size wA.heap.size A2 W h)
            by_cases hlong : 65536 < A2.length + ts[j].2.2.1.length
            · have hlong' : 65536 < (A2.length : Int) + (ts[j].2.2.1.length : Int) := by omega
              rw [if_pos hlong] at hJ
              have HR : Hid (joinAns (join ts) = .tuple #[.string ⟨#[]⟩, .int .i64 2]) := by
                show _ = _
                rw [join, if_neg (by rw [unhide HS]; decide), hJ]; rfl
              clear HJ hJ hlong hT2 hA3 HA2 hsz
              go_quiet ((go_at_call 129; exact Calls.quiet_of_same (unhide LN2 _ HBB)))
              go_wp2
              go_ret2
              exact ⟨by rw [unhide HR]; rfl, hb.trans ((below_drewN hbb _).mono hbs)⟩
            · have hlong' : (A2.length : Int) + (ts[j].2.2.1.length : Int) ≤ 65536 := by omega
              rw [if_neg hlong] at hJ
              have WT : Hid (∀ nq, Calls Tryz.prog 130 #[.pointer (some ⟨wA.heap.size, 0, none⟩), .agg #[.int .i64 z, .int .i64 ts[j].2.1, .string ⟨ts[j].2.2.1.toArray⟩, .int .i64 ts[j].2.2.2]] (w2.drewN nq) fun e w' => e = .returned (.tuple #[]) ∧ IsBB wA.heap.size wA.heap.size A3 w' ∧ Below wA.heap.size (w2.drewN nq) w') := by
                intro nq
                have := writeToken_any wA.heap.size wA.heap.size A2 z ts[j].2.1 ts[j].2.2.2 ⟨ts[j].2.2.1.toArray⟩ (w2.drewN nq) (isB_below HBB (below_drewN (Below.refl _ _) nq)) (hT2.below (below_drewN (Below.refl w2.heap.size w2) nq) (by omega)) (by rw [hsz]; omega) hB5 hle hft.2.1 hft.2.2
                rw [hA3]; exact this
              have LN3 := hide (fun W (h : IsBB wA.heap.size wA.heap.size A3 W) => Len_w wA.heap.size wA.heap.size A3 W h)
              by_cases hlg2 : 65536 < A3.length
              · have hlg2' : 65536 < (A3.length : Int) := by omega
                rw [if_pos hlg2] at hJ
                have HR : Hid (joinAns (join ts) = .tuple #[.string ⟨#[]⟩, .int .i64 2]) := by
                  show _ = _
                  rw [join, if_neg (by rw [unhide HS]; decide), hJ]; rfl
                clear HJ hJ hlong hT2 hA3 HA2 hsz hlg2
                go_quiet ((go_at_call 129; exact Calls.quiet_of_same (unhide LN2 _ HBB)))
                go_wp2_with (first | (go_at_call 130; refine (unhide WT nq).mono ?_; clear WT; rintro e w3 ⟨rfl, h3, hb3⟩) | (go_at_call 129; refine (unhide LN3 _ h3).mono ?_; rintro e w4 ⟨rfl, rfl⟩))
                go_ret2
                exact ⟨by rw [unhide HR]; rfl, hb.trans (((below_drewN hbb _).trans hb3).mono hbs)⟩
              · have hlg2' : (A3.length : Int) ≤ 65536 := by omega
                rw [if_neg hlg2] at hJ
                have HN := hide hJ
                clear HJ hJ hlong hT2 hA3 HA2 hsz hlg2
                go_quiet ((go_at_call 129; exact Calls.quiet_of_same (unhide LN2 _ HBB)))
                go_wp2_with (first | (go_at_call 130; refine (unhide WT nq).mono ?_; clear WT; rintro e w3 ⟨rfl, h3, hb3⟩) | (go_at_call 129; refine (unhide LN3 _ h3).mono ?_; rintro e w4 ⟨rfl, rfl⟩))
                go_roundw
                case rel => exact ⟨j + 1, A3, by go_num, by omega, by omega, h3, (below_drewN hbb _).trans hb3, HN⟩
                case measure => simp [intOf]; omega
          · have hj0' : (j : Int) ≤ 0 := by omega
            go_wp2
            have HBB : IsBB wA.heap.size wA.heap.size acc (wr.alloc (.cells #[.int .i64 z, .int .i64 ts[j].2.1, .string ⟨ts[j].2.2.1.toArray⟩, .int .i64 ts[j].2.2.2] 142)) := isB_below HB hba
            have hq := heap_last wr (.cells #[.int .i64 z, .int .i64 ts[j].2.1, .string ⟨ts[j].2.2.1.toArray⟩, .int .i64 ts[j].2.2.2] 142)
            have hbb : Below wA.heap.size wA (wr.alloc (.cells #[.int .i64 z, .int .i64 ts[j].2.1, .string ⟨ts[j].2.2.1.toArray⟩, .int .i64 ts[j].2.2.2] 142)) := hbx.trans (hba.mono hxs)
            clear hba
            revert HBB hq hbb
            generalize wr.alloc (.cells #[.int .i64 z, .int .i64 ts[j].2.1, .string ⟨ts[j].2.2.1.toArray⟩, .int .i64 ts[j].2.2.2] 142) = w2
            intro HBB hq hbb
            obtain ⟨A2, hA2⟩ : ∃ A2, A2 = acc := ⟨_, rfl⟩
            have HA2 : A2 = acc ++ (if 0 < j then [32] else []) := by rw [hA2, if_neg hj0]; simp
            have hal2 : A2.length ≤ 65537 := by rw [hA2]; omega
            rw [← hA2] at HBB
            clear hA2
            have t0 : w2.cell? ⟨wr.heap.size, 0, none⟩ = some (.int .i64 z) := by rw [Lib.cell_of_heap hq]; rfl
            have t1 : w2.cell? ⟨wr.heap.size, 1, none⟩ = some (.int .i64 ts[j].2.1) := by rw [Lib.cell_of_heap hq]; rfl
            have t2 : w2.cell? ⟨wr.heap.size, 2, none⟩ = some (.string ⟨ts[j].2.2.1.toArray⟩) := by rw [Lib.cell_of_heap hq]; rfl
            have t3 : w2.cell? ⟨wr.heap.size, 3, none⟩ = some (.int .i64 ts[j].2.2.2) := by rw [Lib.cell_of_heap hq]; rfl
            have hle : wA.heap.size ≤ w2.heap.size := hbb.size
            have hsz : ByteArray.size ⟨ts[j].2.2.1.toArray⟩ = ts[j].2.2.1.length := by show ts[j].2.2.1.toArray.size = _; simp
            have hJ := unhide HJ
            rw [List.drop_eq_getElem_cons hlt2, joinW, ← HA2] at hJ
            have hT2 := (unhide HT1).below hbb hB5
            have HA3 : ∃ A3, A3 = A2 ++ tokText ts[j] := ⟨_, rfl⟩
            obtain ⟨A3, hA3⟩ := HA3
            rw [← hA3] at hJ
            have LN2 := hide (fun W (h : IsBB wA.heap.size wA.heap.size A2 W) => Len_w wA.heap.size wA.heap.size A2 W h)
            by_cases hlong : 65536 < A2.length + ts[j].2.2.1.length
            · have hlong' : 65536 < (A2.length : Int) + (ts[j].2.2.1.length : Int) := by omega
              rw [if_pos hlong] at hJ
              have HR : Hid (joinAns (join ts) = .tuple #[.string ⟨#[]⟩, .int .i64 2]) := by
                show _ = _
                rw [join, if_neg (by rw [unhide HS]; decide), hJ]; rfl
              clear HJ hJ hlong hT2 hA3 HA2 hsz
              go_quiet ((go_at_call 129; exact Calls.quiet_of_same (unhide LN2 _ HBB)))
              go_wp2
              go_ret2
              exact ⟨by rw [unhide HR]; rfl, hb.trans ((below_drewN hbb _).mono hbs)⟩
            · have hlong' : (A2.length : Int) + (ts[j].2.2.1.length : Int) ≤ 65536 := by omega
              rw [if_neg hlong] at hJ
              have WT : Hid (∀ nq, Calls Tryz.prog 130 #[.pointer (some ⟨wA.heap.size, 0, none⟩), .agg #[.int .i64 z, .int .i64 ts[j].2.1, .string ⟨ts[j].2.2.1.toArray⟩, .int .i64 ts[j].2.2.2]] (w2.drewN nq) fun e w' => e = .returned (.tuple #[]) ∧ IsBB wA.heap.size wA.heap.size A3 w' ∧ Below wA.heap.size (w2.drewN nq) w') := by
                intro nq
                have := writeToken_any wA.heap.size wA.heap.size A2 z ts[j].2.1 ts[j].2.2.2 ⟨ts[j].2.2.1.toArray⟩ (w2.drewN nq) (isB_below HBB (below_drewN (Below.refl _ _) nq)) (hT2.below (below_drewN (Below.refl w2.heap.size w2) nq) (by omega)) (by rw [hsz]; omega) hB5 hle hft.2.1 hft.2.2
                rw [hA3]; exact this
              have LN3 := hide (fun W (h : IsBB wA.heap.size wA.heap.size A3 W) => Len_w wA.heap.size wA.heap.size A3 W h)
              by_cases hlg2 : 65536 < A3.length
              · have hlg2' : 65536 < (A3.length : Int) := by omega
                rw [if_pos hlg2] at hJ
                have HR : Hid (joinAns (join ts) = .tuple #[.string ⟨#[]⟩, .int .i64 2]) := by
                  show _ = _
                  rw [join, if_neg (by rw [unhide HS]; decide), hJ]; rfl
                clear HJ hJ hlong hT2 hA3 HA2 hsz hlg2
                go_quiet ((go_at_call 129; exact Calls.quiet_of_same (unhide LN2 _ HBB)))
                go_wp2_with (first | (go_at_call 130; refine (unhide WT nq).mono ?_; clear WT; rintro e w3 ⟨rfl, h3, hb3⟩) | (go_at_call 129; refine (unhide LN3 _ h3).mono ?_; rintro e w4 ⟨rfl, rfl⟩))
                go_ret2
                exact ⟨by rw [unhide HR]; rfl, hb.trans (((below_drewN hbb _).trans hb3).mono hbs)⟩
              · have hlg2' : (A3.length : Int) ≤ 65536 := by omega
                rw [if_neg hlg2] at hJ
                have HN := hide hJ
                clear HJ hJ hlong hT2 hA3 HA2 hsz hlg2
                go_quiet ((go_at_call 129; exact Calls.quiet_of_same (unhide LN2 _ HBB)))
                go_wp2_with (first | (go_at_call 130; refine (unhide WT nq).mono ?_; clear WT; rintro e w3 ⟨rfl, h3, hb3⟩) | (go_at_call 129; refine (unhide LN3 _ h3).mono ?_; rintro e w4 ⟨rfl, rfl⟩))
                go_roundw
                case rel => exact ⟨j + 1, A3, by go_num, by omega, by omega, h3, (below_drewN hbb _).trans hb3, HN⟩
                case measure => simp [intOf]; omega
        · have HR : Hid (joinW ts 0 [] = some acc) := by
            have e := unhide HJ
            rw [List.drop_of_length_le (by omega)] at e
            exact e
          clear HJ
          by_cases hmany : 4096 < ts.length
          · have hm' : 4096 < (ts.length : Int) := by omega
            have HX : Hid (joinAns (join ts) = .tuple #[.string ⟨#[]⟩, .int .i64 3]) := by
              show _ = _
              rw [join, if_neg (by rw [unhide HS]; decide), unhide HR]; simp [hmany, joinAns]
            clear hmany
            go_wp2
            go_ret2
            exact ⟨by rw [unhide HX]; rfl, hb.trans (hbx.mono hbs)⟩
          · have hm' : (ts.length : Int) ≤ 4096 := by omega
            have HX : Hid (joinAns (join ts) = .tuple #[.string ⟨acc.toArray⟩, .int .i64 0]) := by
              show _ = _
              rw [join, if_neg (by rw [unhide HS]; decide), unhide HR]; simp [hmany, joinAns]
            clear hmany
            have BS := hide (Tryz.Builder_String_any_f wA.heap.size wA.heap.size acc wr HB hxs)
            go_wp2_with (go_at_call 131; refine (unhide BS).mono ?_; rintro e w3 ⟨rfl, _, hb3⟩)
            go_ret2
            exact ⟨by rw [unhide HX]; rfl, hb.trans ((hbx.trans hb3).mono hbs)⟩
end Go.Proofs.YtmpbbmfbgcpplaaGreatDoor
