/-
  coilref1.Join, walked.
-/
import Derived.Test.YthplgkkailieoaaGreatDoorRefOne
import Derived.Test.YthplgkkailieoaaGreatDoorLaws6
import Derived.Lib.AppendStr
namespace Go.Proofs.YthplgkkailieoaaGreatDoor
open Go Go.RowKit Lx
namespace Lx
/-- writes tokens behind acc, i of them written; nothing where it grows too long. -/
def joinR : List Tok → Nat → Bs → Option Bs
  | [], _, acc => some acc
  | t :: r, i, acc =>
    if 65536 < ((acc ++ (if 0 < i then [32] else [])) ++ tokText t).length then none
    else joinR r (i + 1) ((acc ++ (if 0 < i then [32] else [])) ++ tokText t)
theorem joinW_R : ∀ (ts : List Tok) (i : Nat) (acc : Bs), ts.all sound = true → joinW ts i acc = joinR ts i acc
  | [], _, _, _ => rfl
  | t :: r, i, acc, h => by
    simp only [List.all_cons, Bool.and_eq_true] at h
    have hle := own_le h.1
    rw [joinW, joinR]
    by_cases h2 : 65536 < ((acc ++ (if 0 < i then [32] else [])) ++ tokText t).length
    · rw [if_pos h2, if_pos h2]
      exact ite_self _
    · rw [if_neg h2, if_neg h2, if_neg (by rw [List.length_append] at h2; omega)]
      exact joinW_R r (i + 1) _ h.2
end Lx
theorem cells_str (s : ByteArray) : Lib.strCells s = Lib.byteCells s.data.toList := by simp [Lib.strCells, Lib.byteCells]
theorem owns_shape {W : World} {B e size n : Nat} {v : Value} {xs : List Value} (h : W.ownsRow B e size v n xs) : ∃ p c, v = .slice p n c := by
  rcases h.2 with ⟨rfl, h0⟩ | ⟨g, cap, cur, rfl, _⟩
  · exact ⟨none, 0, by rw [h0]⟩
  · exact ⟨_, _, rfl⟩
set_option maxHeartbeats 4000000 in
set_option maxRecDepth 100000 in
theorem rJoin_any (v : Value) (ts : List Tok) (w : World) (hv : TokAny w v ts) (hl : ts.length ≤ 1000000) (hS : ∀ t ∈ ts, t.2.2.1.length ≤ 60000 ∧ t.2.2.2 ≤ 9223372036854775807) (hT : ∀ t ∈ ts, (tokText t).length ≤ 1000000) :
    Calls Tryz.prog 19 #[v] w fun e w' => e = .returned (joinAns (join ts)) ∧ Below w.heap.size w w' := by
  obtain ⟨i0, hi, hz0, hz1, hz2⟩ := info_parts rinfo_u8
  have HV := hide hv
  have HS0 := hide hS
  have HT0 := hide hT
  obtain ⟨p, c, rfl, hp⟩ := hv
  clear hp hS hT
  go_enter Tryz.func19, Tryz.ntmps19
  go_wp2
  go_loopw [4] (fun i wr => ∃ k : Nat, i = .int .i64 k ∧ k ≤ ts.length ∧ Below w.heap.size w wr ∧ Hid (ts.all sound = (ts.drop k).all sound)) (fun i _ => ts.length - (intOf i).toNat)
  case atStart => exact ⟨0, rfl, by omega, Below.refl _ _, rfl⟩
  case round =>
    obtain ⟨k, rfl, hk, hb, HA⟩ := hrel
    have hbs := hb.size
    by_cases hlt : k < ts.length
    · obtain ⟨p', c', hpe, hp'⟩ := (unhide HV).below hb
      obtain ⟨g, o, z, hpg, a0, a1, a2, a3⟩ := hp' k ts[k] (by simp [hlt])
      simp only [Value.slice.injEq] at hpe
      obtain ⟨rfl, _, rfl⟩ := hpe
      subst hpg
      have hft := unhide HS0 ts[k] (by simp)
      have hlt' : (k : Int) < (ts.length : Int) := by omega
      have hsz : ByteArray.size ⟨ts[k].2.2.1.toArray⟩ ≤ 60000 := by show ts[k].2.2.1.toArray.size ≤ _; simpa using hft.1
      have ON := hide (fun W => rOne_any z ts[k].2.1 ts[k].2.2.2 ⟨ts[k].2.2.1.toArray⟩ W hsz hft.2)
      unfold ROne at ON
      have hsp : sound (0, ts[k].2.1, ts[k].2.2.1, ts[k].2.2.2) = sound ts[k] := rfl
      simp only [hsp] at ON
      have e := unhide HA
      rw [all_drop hlt] at e
      clear hp' hsp hft hsz
      by_cases hsd : sound ts[k] = true
      · rw [hsd] at ON e
        have HN := hide (show ts.all sound = (ts.drop (k + 1)).all sound by rw [e]; rfl)
        clear e HA hsd
        go_wp2_with (go_at_call 37; refine (unhide ON _).mono ?_; clear ON; rintro e w1 ⟨X, rfl, _, hb1⟩)
        go_roundw
        case rel => exact ⟨k + 1, by go_num, by omega, hb.trans (hb1.mono hbs), HN⟩
        case measure => simp [intOf]; omega
      · have hsd : sound ts[k] = false := (Bool.not_eq_true _).mp hsd
        rw [hsd] at ON e
        have HN : Hid (join ts = .inl 1) := by show _ = _; rw [join, if_pos (by rw [e]; rfl)]
        clear e HA hsd
        go_wp2_with (go_at_call 37; refine (unhide ON _).mono ?_; clear ON; rintro e w1 ⟨X, rfl, _, hb1⟩)
        go_ret2
        exact ⟨by rw [unhide HN]; rfl, hb.trans (hb1.mono hbs)⟩
    · have hS : ts.all sound = true := by
        have e := unhide HA; rw [List.drop_of_length_le (by omega)] at e; exact e
      have HJ0 : Hid (join ts = match joinR ts 0 [] with
          | none => .inl 2
          | some l => if 4096 < ts.length then .inl 3 else .inr l) := by
        show _ = _
        rw [join, if_neg (by rw [hS]; decide), joinW_R _ _ _ hS]
        cases joinR ts 0 [] <;> rfl
      have HS := hide hS
      have HV1 := hide ((unhide HV).below hb)
      obtain ⟨wA, rfl⟩ : ∃ x, x = wr := ⟨_, rfl⟩
      clear HA hS HV
      go_wp2_with (at_make; refine wpList_make_own _ rfl _ _ 83 rfl wA.heap.size 5 i0 (.int .u8 0) 1 Tryz.underlying83 hi hz0 hz1 .i64 .i64 _ 0 rfl rfl rfl (by rw [hz2]; omega) (by unfold maxLen; omega) (Nat.le_refl _) ?_; intro w0 hown0 hgrow0)
      have hb0 : Below wA.heap.size wA w0 := (Below.refl _ _).grown hgrow0 (by simp) (by simp)
      clear hgrow0
      go_loopw [7, 8] (fun v i wr => ∃ (j : Nat) (acc : Bs), i = .int .i64 j ∧ j ≤ ts.length ∧ acc.length ≤ 65536 ∧ wr.ownsRow wA.heap.size 5 1 v acc.length (Lib.byteCells acc) ∧ Below wA.heap.size wA wr ∧ Hid (joinR ts 0 [] = joinR (ts.drop j) j acc)) (fun _ i _ => ts.length - (intOf i).toNat)
      case atStart => exact ⟨0, [], rfl, by omega, by simp, by simpa [Lib.byteCells] using hown0, hb0, rfl⟩
      case round =>
        clear hown0 hb0
        obtain ⟨j, acc, rfl, hj, hal, hown, hbx, HJ⟩ := hrel
        have hxs := hbx.size
        by_cases hlt2 : j < ts.length
        · obtain ⟨A2, hA2⟩ : ∃ A2, A2 = acc ++ (if 0 < j then [32] else []) := ⟨_, rfl⟩
          have hft := unhide HS0 ts[j] (by simp)
          have hft2 := unhide HT0 ts[j] (by simp)
          have hlt' : (j : Int) < (ts.length : Int) := by omega
          have hsz : ByteArray.size ⟨ts[j].2.2.1.toArray⟩ ≤ 60000 := by show ts[j].2.2.1.toArray.size ≤ _; simpa using hft.1
          have hsj : sound ts[j] = true := by have := unhide HS; rw [List.all_eq_true] at this; exact this _ (by simp)
          have hJ := unhide HJ
          rw [List.drop_eq_getElem_cons hlt2, joinR, ← hA2] at hJ
          obtain ⟨A3, hA3⟩ : ∃ A3, A3 = A2 ++ tokText ts[j] := ⟨_, rfl⟩
          rw [← hA3] at hJ
          obtain ⟨X, hX⟩ : ∃ X : ByteArray, X = ⟨(tokText ts[j]).toArray⟩ := ⟨_, rfl⟩
          have hXl : X.size ≤ 1000000 := by rw [hX]; show (tokText ts[j]).toArray.size ≤ _; simpa using hft2
          have hX2 : Lib.byteCells A2 ++ Lib.strCells X = Lib.byteCells A3 := by rw [cells_str, ← byteCells_append, hA3, hX]
          have hA3l : A2.length + X.size = A3.length := by rw [hA3, hX, List.length_append]; rfl
          have HX2 := hide hX2
          have HA3 := hide hA3l
          have ON : Hid (∀ (z : Int) W, Calls Tryz.prog 37 #[.agg #[.int .i64 z, .int .i64 ts[j].2.1, .string ⟨ts[j].2.2.1.toArray⟩, .int .i64 ts[j].2.2.2]] W fun e w' => e = .returned (.tuple #[.string X, .bool true]) ∧ Below W.heap.size W w') := fun z W => by
            refine (rOne_any z ts[j].2.1 ts[j].2.2.2 ⟨ts[j].2.2.1.toArray⟩ W hsz hft.2).mono ?_
            rintro e w' ⟨Y, rfl, hY, hb⟩
            have hq : sound (0, ts[j].2.1, ts[j].2.2.1, ts[j].2.2.2) = true := hsj
            have hY' := hY hq
            refine ⟨?_, hb⟩
            rw [show sound (0, ts[j].2.1, (⟨ts[j].2.2.1.toArray⟩ : ByteArray).data.toList, ts[j].2.2.2) = true from hq, hY', hX]
            rfl
          have HV2 := (unhide HV1).below hbx
          clear hft hft2 hsz hsj HJ hA3 hX hX2
          by_cases hj0 : 0 < j
          · have hj0' : 0 < (j : Int) := by omega
            rw [if_pos hj0] at hA2
            have hA2l : A2.length = acc.length + 1 := by rw [hA2]; simp
            clear hj0
            go_wp2_with (at_builtin; refine wpList_append_own _ rfl _ _ 83 rfl wA.heap.size 5 i0 (.int .u8 0) 1 1 Tryz.underlying83 hi hz0 hz1 hz2 rfl (by decide) _ acc.length (Lib.byteCells acc) rfl ?own ⟨_, 0, none⟩ 1 1 [.int .u8 32] rfl rfl ?news ?one ?c3 ?c4 ?c5 ?_)
            case own => exact hown.alloc _
            case news =>
              intro j u hj
              match j, hj with
              | 0, hj => simp at hj; subst hj; simp [Addr.add]
              | j + 1, hj => simp at hj
            case one => intro u hu; simp at hu; subst hu; rfl
            case c3 => unfold maxLen; omega
            case c4 => omega
            case c5 => simp; omega
            intro v' w2 hown' hgrow _
            have hown2 : w2.ownsRow wA.heap.size 5 1 v' A2.length (Lib.byteCells A2) := by rw [hA2l, hA2, cells_snoc]; exact hown'
            have hb2 : Below wA.heap.size wA w2 := (hbx.alloc (by omega) _).grown hgrow (by simp; omega) (fun q e => (hown.lt q e).1)
            have HV3 := (unhide HV1).below hb2
            clear hgrow hown' HV2
            obtain ⟨p', c', hpe, hp'⟩ := HV3
            obtain ⟨g, o, z, hpg, a0, a1, a2, a3⟩ := hp' j ts[j] (by simp [hlt2])
            simp only [Value.slice.injEq] at hpe
            obtain ⟨rfl, _, rfl⟩ := hpe
            subst hpg
            clear hp'
            have ON2 := hide (unhide ON z)
            have hws := hb2.size
            by_cases hlg : 65536 < A3.length
            · have hlg' : 65536 < (A3.length : Int) := by omega
              rw [if_pos hlg] at hJ
              have HR : Hid (joinAns (join ts) = .tuple #[.string ⟨#[]⟩, .int .i64 2]) := by show _ = _; rw [unhide HJ0, hJ]; rfl
              clear hJ HJ0 hA2 hlg ON
              go_wp2_with (first | (go_at_call 37; refine (unhide ON2 _).mono ?_; clear ON2; rintro e w3 ⟨rfl, hb3⟩; have hw3 := hb3.size; have hown3 := owns_below hown2 hb3) | (at_builtin; refine Lib.wpList_append_own_string _ rfl _ _ 83 9 rfl wA.heap.size 5 i0 Tryz.underlying83 Tryz.underlying9 hi hz0 hz1 hz2 _ A2.length (Lib.byteCells A2) rfl hown3 X rfl (by unfold maxLen; omega) (by omega) (by omega) ?_; intro v4 w4 hown4 hgrow4 _; rw [unhide HX2, unhide HA3] at hown4; obtain ⟨p4, c4, rfl⟩ := owns_shape hown4))
              go_ret2
              have hb4 : Below wA.heap.size wA w4 := (hb2.trans (hb3.mono (by omega))).grown hgrow4 (by omega) (fun q e => (hown3.lt q e).1)
              exact ⟨by rw [unhide HR]; rfl, hb.trans (hb4.mono hbs)⟩
            · have hlg' : (A3.length : Int) ≤ 65536 := by omega
              rw [if_neg hlg] at hJ
              have HN := hide hJ
              clear hJ HJ0 hA2 ON
              go_wp2_with (first | (go_at_call 37; refine (unhide ON2 _).mono ?_; clear ON2; rintro e w3 ⟨rfl, hb3⟩; have hw3 := hb3.size; have hown3 := owns_below hown2 hb3) | (at_builtin; refine Lib.wpList_append_own_string _ rfl _ _ 83 9 rfl wA.heap.size 5 i0 Tryz.underlying83 Tryz.underlying9 hi hz0 hz1 hz2 _ A2.length (Lib.byteCells A2) rfl hown3 X rfl (by unfold maxLen; omega) (by omega) (by omega) ?_; intro v4 w4 hown4 hgrow4 _; rw [unhide HX2, unhide HA3] at hown4; obtain ⟨p4, c4, rfl⟩ := owns_shape hown4))
              have hb4 : Below wA.heap.size wA w4 := (hb2.trans (hb3.mono (by omega))).grown hgrow4 (by omega) (fun q e => (hown3.lt q e).1)
              go_roundw
              case rel => exact ⟨j + 1, A3, by go_num, by omega, by omega, hown4, hb4, HN⟩
              case measure => simp [intOf]; omega
          · have hj0' : (j : Int) ≤ 0 := by omega
            rw [if_neg hj0, List.append_nil] at hA2
            subst hA2
            have hown2 := hown
            have hb2 := hbx
            have HV3 := HV2
            have hA2 : True := trivial
            have hA2l : A2.length ≤ 65536 := hal
            clear HV2 hj0
            obtain ⟨p', c', hpe, hp'⟩ := HV3
            obtain ⟨g, o, z, hpg, a0, a1, a2, a3⟩ := hp' j ts[j] (by simp [hlt2])
            simp only [Value.slice.injEq] at hpe
            obtain ⟨rfl, _, rfl⟩ := hpe
            subst hpg
            clear hp'
            have ON2 := hide (unhide ON z)
            have hws := hb2.size
            by_cases hlg : 65536 < A3.length
            · have hlg' : 65536 < (A3.length : Int) := by omega
              rw [if_pos hlg] at hJ
              have HR : Hid (joinAns (join ts) = .tuple #[.string ⟨#[]⟩, .int .i64 2]) := by show _ = _; rw [unhide HJ0, hJ]; rfl
              clear hJ HJ0 hA2 hlg ON
              go_wp2_with (first | (go_at_call 37; refine (unhide ON2 _).mono ?_; clear ON2; rintro e w3 ⟨rfl, hb3⟩; have hw3 := hb3.size; have hown3 := owns_below hown2 hb3) | (at_builtin; refine Lib.wpList_append_own_string _ rfl _ _ 83 9 rfl wA.heap.size 5 i0 Tryz.underlying83 Tryz.underlying9 hi hz0 hz1 hz2 _ A2.length (Lib.byteCells A2) rfl hown3 X rfl (by unfold maxLen; omega) (by omega) (by omega) ?_; intro v4 w4 hown4 hgrow4 _; rw [unhide HX2, unhide HA3] at hown4; obtain ⟨p4, c4, rfl⟩ := owns_shape hown4))
              go_ret2
              have hb4 : Below wA.heap.size wA w4 := (hb2.trans (hb3.mono (by omega))).grown hgrow4 (by omega) (fun q e => (hown3.lt q e).1)
              exact ⟨by rw [unhide HR]; rfl, hb.trans (hb4.mono hbs)⟩
            · have hlg' : (A3.length : Int) ≤ 65536 := by omega
              rw [if_neg hlg] at hJ
              have HN := hide hJ
              clear hJ HJ0 hA2 ON
              go_wp2_with (first | (go_at_call 37; refine (unhide ON2 _).mono ?_; clear ON2; rintro e w3 ⟨rfl, hb3⟩; have hw3 := hb3.size; have hown3 := owns_below hown2 hb3) | (at_builtin; refine Lib.wpList_append_own_string _ rfl _ _ 83 9 rfl wA.heap.size 5 i0 Tryz.underlying83 Tryz.underlying9 hi hz0 hz1 hz2 _ A2.length (Lib.byteCells A2) rfl hown3 X rfl (by unfold maxLen; omega) (by omega) (by omega) ?_; intro v4 w4 hown4 hgrow4 _; rw [unhide HX2, unhide HA3] at hown4; obtain ⟨p4, c4, rfl⟩ := owns_shape hown4))
              have hb4 : Below wA.heap.size wA w4 := (hb2.trans (hb3.mono (by omega))).grown hgrow4 (by omega) (fun q e => (hown3.lt q e).1)
              go_roundw
              case rel => exact ⟨j + 1, A3, by go_num, by omega, by omega, hown4, hb4, HN⟩
              case measure => simp [intOf]; omega
        · have HR : Hid (joinR ts 0 [] = some acc) := by
            have e := unhide HJ
            rw [List.drop_of_length_le (by omega)] at e
            exact e
          clear HJ
          obtain ⟨p4, c4, rfl⟩ := owns_shape hown
          by_cases hmany : 4096 < ts.length
          · have hm' : 4096 < (ts.length : Int) := by omega
            have HX : Hid (joinAns (join ts) = .tuple #[.string ⟨#[]⟩, .int .i64 3]) := by
              show _ = _
              rw [unhide HJ0, unhide HR]; simp [hmany, joinAns]
            clear hmany HJ0 HR
            go_wp2
            go_ret2
            exact ⟨by rw [unhide HX]; rfl, hb.trans (hbx.mono hbs)⟩
          · have hm' : (ts.length : Int) ≤ 4096 := by omega
            have HX : Hid (joinAns (join ts) = .tuple #[.string ⟨acc.toArray⟩, .int .i64 0]) := by
              show _ = _
              rw [unhide HJ0, unhide HR]; simp [hmany, joinAns]
            have kc := owns_bytes_back hown
            clear hmany HJ0 HR
            go_wp2
            go_ret2
            exact ⟨by rw [unhide HX]; rfl, hb.trans (hbx.mono hbs)⟩
end Go.Proofs.YthplgkkailieoaaGreatDoor
