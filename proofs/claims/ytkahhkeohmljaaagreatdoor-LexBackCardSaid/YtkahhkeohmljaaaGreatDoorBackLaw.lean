/-
  coillaw1.LexBack, walked: it answers true, whatever tokens and text it is handed.
-/
import Derived.Test.YtkahhkeohmljaaaGreatDoorLexed
import Derived.Test.YtkahhkeohmljaaaGreatDoorShort
import Derived.Test.YtkahhkeohmljaaaGreatDoorBareF
namespace Go.Proofs.YtkahhkeohmljaaaGreatDoor
namespace Lx
theorem join_none {ts : List Tok} {y : Nat} (h : join ts = .inl y) : 1 ≤ y ∧ y ≤ 3 := by
  unfold join at h
  split at h
  · cases h; omega
  · split at h
    · cases h; omega
    · split at h
      · cases h; omega
      · cases h
theorem join_sound {ts : List Tok} (hs : ∀ t ∈ ts, sound t = true) (hn : ts.length ≤ 4096) : join ts = .inl 2 ∨ ∃ l, join ts = .inr l := by
  unfold join
  rw [if_neg (by rw [List.all_eq_true.2 hs]; decide)]
  split
  · exact .inl rfl
  · rw [if_neg (by omega)]; exact .inr ⟨_, rfl⟩
/-- joined, and cut again. -/
theorem join_back {ts : List Tok} {l : Bs} (h : join ts = .inr l) (hv : ∀ t ∈ ts, t.2.2.2 ≤ 9223372036854775807) : l.length ≤ 65536 ∧ ∃ us, lex l = (us, none) ∧ us.length ≤ 4096 ∧ bareT us = bareT ts := by
  obtain ⟨us, h1, h2⟩ := join_lex h hv
  exact ⟨(join_is h).2.2.1, us, h1, (lex_ok h1).2.2, bareT_eq h2⟩
theorem short_len (n : Nat) (ts : List Tok) : (shortT n ts).length ≤ n := by simp [shortT]; omega
end Lx
open Go Go.RowKit Lx

theorem short_fits {ts : List Tok} {n : Nat} (h : ∀ t ∈ ts, -9223372036854775808 ≤ t.2.2.2 ∧ t.2.2.2 ≤ 9223372036854775807) : Fits (shortT n ts) := by
  intro t ht
  obtain ⟨x, hx, rfl⟩ := List.mem_map.1 ht
  obtain ⟨h1, h2⟩ := h x (List.mem_of_mem_take hx)
  exact ⟨by show (x.2.2.1.take 200).length ≤ _; rw [List.length_take]; omega, h1, h2⟩
theorem size_of (l : Bs) (h : l.length ≤ 65536) : ByteArray.size ⟨l.toArray⟩ ≤ 140737488355328 := by show l.toArray.size ≤ _; simp; omega
theorem Join_c {w0 : World} (v : Value) (ts : List Tok) (w : World) (a : Value) (hv : TokAny w v ts) (hl : ts.length ≤ 1000000) (hF : Fits ts) (hb : Below w0.heap.size w0 w) (ht : Tab w0) (h5 : 5 ≤ w0.heap.size) (ha : joinAns (join ts) = a) :
    Calls Tryz.prog 21 #[v] w fun e w' => e = .returned a ∧ Below w.heap.size w w' := by
  subst ha; exact Join_free v ts w hv hl hF (ht.below hb h5) (Nat.le_trans h5 hb.size)
set_option maxHeartbeats 10000000 in
set_option maxRecDepth 100000 in
theorem LexBack_any (v : Value) (ts : List Tok) (s : ByteArray) (w : World) (hl : ts.length ≤ 9223372036854775807) (hS : ∀ t ∈ ts, t.2.2.1.length ≤ 9223372036854775807) (hN : ∀ t ∈ ts, -9223372036854775808 ≤ t.2.2.2 ∧ t.2.2.2 ≤ 9223372036854775807) (hv : TokAny w v ts)
    (hs : s.size ≤ 9223372036854775807) (hg : ErrType w) (ht : Tab w) (h5 : 5 ≤ w.heap.size) :
    Calls Tryz.prog 5 #[v, .string s] w fun e w' => e = .returned (.bool true) ∧ Below w.heap.size w w' := by
  have RN := hide (fun W (hb : Below w.heap.size w W) => Runs_b (w0 := w) W hb hg ht h5)
  have SH := hide (short_any v ts 300 w (by omega) hl hS hv)
  have hLl := short_len 300 ts
  have HF := hide (short_fits (n := 300) hN)
  have h6 := (fewB_size s 6000).1
  have FW := hide (fun W => few_any s 6000 W hs (by omega))
  have HT := hide ht
  clear hg ht hl hS hN hv hs
  revert SH hLl HF h6 FW
  generalize shortT 300 ts = L
  generalize fewB s 6000 = S
  intro SH hLl HF h6 FW
  -- the tokens that came in
  have C1 : (∃ y : Nat, joinAns (join L) = .tuple #[.string ⟨#[]⟩, .int .i64 (y : Int)] ∧ 1 ≤ y) ∨
      ∃ (J : ByteArray) (us : List Tok), joinAns (join L) = .tuple #[.string J, .int .i64 0] ∧ J.size ≤ 140737488355328 ∧ lex J.data.toList = (us, none) ∧ us.length ≤ 4096 ∧ bareT us = bareT L := by
    rcases hj : join L with y | l
    · exact .inl ⟨y, rfl, (join_none hj).1⟩
    · obtain ⟨q1, us, q2, q3, q4⟩ := join_back hj (fun t ht => (unhide HF t ht).2.2)
      exact .inr ⟨⟨l.toArray⟩, us, rfl, size_of l q1, q2, q3, q4⟩
  -- the text that came in
  have C2 : (∃ p y, (lex S.data.toList).2 = some (p, y)) ∨ ∃ x, lex S.data.toList = (x, none) ∧ x.length ≤ 4096 ∧ Fits x ∧
      (joinAns (join x) = .tuple #[.string ⟨#[]⟩, .int .i64 2] ∨ ∃ (J : ByteArray) (us : List Tok), joinAns (join x) = .tuple #[.string J, .int .i64 0] ∧ J.size ≤ 140737488355328 ∧ lex J.data.toList = (us, none) ∧ us.length ≤ 4096 ∧ bareT us = bareT x) := by
    rcases hx : lex S.data.toList with ⟨x, _ | ⟨p, y⟩⟩
    · right
      obtain ⟨_, hlay, hm⟩ := lex_ok hx
      have hall := hlay.all
      refine ⟨x, rfl, hm, fun t ht => ?_, ?_⟩
      · obtain ⟨q1, q2, q3, q4, _⟩ := hall t ht
        have := own_le q1
        rw [len_data] at q4
        exact ⟨by omega, by omega, q3⟩
      · rcases join_sound (fun t ht => (hall t ht).1) hm with hj | ⟨l, hj⟩
        · exact .inl (by rw [hj]; rfl)
        · obtain ⟨q1, us, q2, q3, q4⟩ := join_back hj (fun t ht => (hall t ht).2.2.1)
          exact .inr ⟨⟨l.toArray⟩, us, by rw [hj]; rfl, size_of l q1, q2, q3, q4⟩
    · exact .inl ⟨p, y, rfl⟩
  have J1 := hide (fun v' W a (hv' : TokAny W v' L) (hb : Below w.heap.size w W) (ha : joinAns (join L) = a) => Join_c (w0 := w) v' L W a hv' (by omega) (unhide HF) hb (unhide HT) h5 ha)
  clear HF
  have HB : Below w.heap.size w w := Below.refl _ _
  rcases C1 with ⟨y, hj, hy⟩ | ⟨J, us, hj, hJs, hJx, hul, hub⟩
  · have HJ := hide hj
    have q : ((y : Int) == 0) = false := by rw [beq_eq_false_iff_ne]; omega
    clear hj
    rcases C2 with ⟨p2, y2, h2⟩ | ⟨x, h2, hxl, hxf, hj2 | ⟨K, zs, hj2, hKs, hKx, hzl, hzb⟩⟩
    · have T2 := hide (fun W => Tokens_no S p2 y2 W (by omega) h2)
      clear h2
      go_enter Tryz.func5, Tryz.ntmps5
      go_wp2_with (first
        | (go_at_call 18; refine (unhide SH).mono ?_; rintro e w0 ⟨u, rfl, hu, hb0⟩; (try (replace hu := hu.below hb0)); (try (replace hx1 := hx1.below hb0)); (try (replace hr1 := hr1.below hb0)); (try (replace hr2 := hr2.below hb0)); (try (replace hx2 := hx2.below hb0)); (try (replace hy2 := hy2.below hb0)); (try (replace ho1 := ho1.below hb0)); replace HB := step0 HB hb0; clear hb0; clear SH)
        | (go_at_call 6; refine (unhide FW _).mono ?_; rintro e w' ⟨rfl, rfl⟩; clear FW)
        | (go_at_call 21; refine (unhide J1 _ _ _ hu HB (unhide HJ)).mono ?_; rintro e w0 ⟨rfl, hb0⟩; (try (replace hu := hu.below hb0)); (try (replace hx1 := hx1.below hb0)); (try (replace hr1 := hr1.below hb0)); (try (replace hr2 := hr2.below hb0)); (try (replace hx2 := hx2.below hb0)); (try (replace hy2 := hy2.below hb0)); (try (replace ho1 := ho1.below hb0)); replace HB := step0 HB hb0; clear hb0; clear J1)
        | (go_at_call 9; refine (unhide T2 _).mono ?_; rintro e w0 ⟨b2, rfl, _, hb0⟩; (try (replace hu := hu.below hb0)); (try (replace hx1 := hx1.below hb0)); (try (replace hr1 := hr1.below hb0)); (try (replace hr2 := hr2.below hb0)); (try (replace hx2 := hx2.below hb0)); (try (replace hy2 := hy2.below hb0)); (try (replace ho1 := ho1.below hb0)); replace HB := step0 HB hb0; clear hb0; clear T2)
        | (go_at_call 17; refine (unhide RN _ HB).mono ?_; rintro e wl ⟨rfl, hbl⟩))
      go_ret
      exact ⟨rfl, step0 HB hbl⟩
    · have T2 := hide (fun W => Tokens_ok S x W (by omega) h2)
      have J2 := hide (fun v' W (hv' : TokAny W v' x) (hb : Below w.heap.size w W) => Join_c (w0 := w) v' x W _ hv' (by omega) hxf hb (unhide HT) h5 hj2)
      have T3 := hide (fun W => Tokens_ok ⟨#[]⟩ [] W (by decide) (by rfl))
      clear h2 hj2 hxf
      go_enter Tryz.func5, Tryz.ntmps5
      go_wp2_with (first
        | (go_at_call 18; refine (unhide SH).mono ?_; rintro e w0 ⟨u, rfl, hu, hb0⟩; (try (replace hu := hu.below hb0)); (try (replace hx1 := hx1.below hb0)); (try (replace hr1 := hr1.below hb0)); (try (replace hr2 := hr2.below hb0)); (try (replace hx2 := hx2.below hb0)); (try (replace hy2 := hy2.below hb0)); (try (replace ho1 := ho1.below hb0)); replace HB := step0 HB hb0; clear hb0; clear SH)
        | (go_at_call 6; refine (unhide FW _).mono ?_; rintro e w' ⟨rfl, rfl⟩; clear FW)
        | (go_at_call 21; refine (unhide J1 _ _ _ hu HB (unhide HJ)).mono ?_; rintro e w0 ⟨rfl, hb0⟩; (try (replace hu := hu.below hb0)); (try (replace hx1 := hx1.below hb0)); (try (replace hr1 := hr1.below hb0)); (try (replace hr2 := hr2.below hb0)); (try (replace hx2 := hx2.below hb0)); (try (replace hy2 := hy2.below hb0)); (try (replace ho1 := ho1.below hb0)); replace HB := step0 HB hb0; clear hb0; clear J1)
        | (go_at_call 9; refine (unhide T2 _).mono ?_; rintro e w0 ⟨v2, rfl, hx2, hb0⟩; (try (replace hu := hu.below hb0)); (try (replace hx1 := hx1.below hb0)); (try (replace hr1 := hr1.below hb0)); (try (replace hr2 := hr2.below hb0)); (try (replace hx2 := hx2.below hb0)); (try (replace hy2 := hy2.below hb0)); (try (replace ho1 := ho1.below hb0)); replace HB := step0 HB hb0; clear hb0; clear T2)
        | (go_at_call 21; refine (unhide J2 _ _ hx2.any HB).mono ?_; rintro e w0 ⟨rfl, hb0⟩; (try (replace hu := hu.below hb0)); (try (replace hx1 := hx1.below hb0)); (try (replace hr1 := hr1.below hb0)); (try (replace hr2 := hr2.below hb0)); (try (replace hx2 := hx2.below hb0)); (try (replace hy2 := hy2.below hb0)); (try (replace ho1 := ho1.below hb0)); replace HB := step0 HB hb0; clear hb0; clear J2)
        | (go_at_call 9; refine (unhide T3 _).mono ?_; rintro e w0 ⟨v3, rfl, hy2, hb0⟩; (try (replace hu := hu.below hb0)); (try (replace hx1 := hx1.below hb0)); (try (replace hr1 := hr1.below hb0)); (try (replace hr2 := hr2.below hb0)); (try (replace hx2 := hx2.below hb0)); (try (replace hy2 := hy2.below hb0)); (try (replace ho1 := ho1.below hb0)); replace HB := step0 HB hb0; clear hb0; clear T3)
        | (go_at_call 17; refine (unhide RN _ HB).mono ?_; rintro e wl ⟨rfl, hbl⟩))
      go_ret
      exact ⟨rfl, step0 HB hbl⟩
    · have T2 := hide (fun W => Tokens_ok S x W (by omega) h2)
      have J2 := hide (fun v' W (hv' : TokAny W v' x) (hb : Below w.heap.size w W) => Join_c (w0 := w) v' x W _ hv' (by omega) hxf hb (unhide HT) h5 hj2)
      have T3 := hide (fun W => Tokens_ok K zs W hKs hKx)
      have B3 := hide (fun v' W (hv' : TokRow W v' x) => bare_any v' x W (by omega) hv')
      have B4 := hide (fun v' W (hv' : TokRow W v' zs) => bare_any v' zs W (by omega) hv')
      rw [hzb] at B4
      have S2 := hide (fun a b W (ha : TokRow W a (bareT x)) (hb : TokRow W b (bareT x)) => SameTok_any a b (bareT x) W (by simp [bareT]; omega) ha hb)
      clear h2 hj2 hxf hKs hKx hzb
      go_enter Tryz.func5, Tryz.ntmps5
      go_wp2_with (first
        | (go_at_call 18; refine (unhide SH).mono ?_; rintro e w0 ⟨u, rfl, hu, hb0⟩; (try (replace hu := hu.below hb0)); (try (replace hx1 := hx1.below hb0)); (try (replace hr1 := hr1.below hb0)); (try (replace hr2 := hr2.below hb0)); (try (replace hx2 := hx2.below hb0)); (try (replace hy2 := hy2.below hb0)); (try (replace ho1 := ho1.below hb0)); replace HB := step0 HB hb0; clear hb0; clear SH)
        | (go_at_call 6; refine (unhide FW _).mono ?_; rintro e w' ⟨rfl, rfl⟩; clear FW)
        | (go_at_call 21; refine (unhide J1 _ _ _ hu HB (unhide HJ)).mono ?_; rintro e w0 ⟨rfl, hb0⟩; (try (replace hu := hu.below hb0)); (try (replace hx1 := hx1.below hb0)); (try (replace hr1 := hr1.below hb0)); (try (replace hr2 := hr2.below hb0)); (try (replace hx2 := hx2.below hb0)); (try (replace hy2 := hy2.below hb0)); (try (replace ho1 := ho1.below hb0)); replace HB := step0 HB hb0; clear hb0; clear J1)
        | (go_at_call 9; refine (unhide T2 _).mono ?_; rintro e w0 ⟨v2, rfl, hx2, hb0⟩; (try (replace hu := hu.below hb0)); (try (replace hx1 := hx1.below hb0)); (try (replace hr1 := hr1.below hb0)); (try (replace hr2 := hr2.below hb0)); (try (replace hx2 := hx2.below hb0)); (try (replace hy2 := hy2.below hb0)); (try (replace ho1 := ho1.below hb0)); replace HB := step0 HB hb0; clear hb0; clear T2)
        | (go_at_call 21; refine (unhide J2 _ _ hx2.any HB).mono ?_; rintro e w0 ⟨rfl, hb0⟩; (try (replace hu := hu.below hb0)); (try (replace hx1 := hx1.below hb0)); (try (replace hr1 := hr1.below hb0)); (try (replace hr2 := hr2.below hb0)); (try (replace hx2 := hx2.below hb0)); (try (replace hy2 := hy2.below hb0)); (try (replace ho1 := ho1.below hb0)); replace HB := step0 HB hb0; clear hb0; clear J2)
        | (go_at_call 9; refine (unhide T3 _).mono ?_; rintro e w0 ⟨v3, rfl, hy2, hb0⟩; (try (replace hu := hu.below hb0)); (try (replace hx1 := hx1.below hb0)); (try (replace hr1 := hr1.below hb0)); (try (replace hr2 := hr2.below hb0)); (try (replace hx2 := hx2.below hb0)); (try (replace hy2 := hy2.below hb0)); (try (replace ho1 := ho1.below hb0)); replace HB := step0 HB hb0; clear hb0; clear T3)
        | (go_at_call 23; refine (unhide B3 _ _ hx2).mono ?_; rintro e w0 ⟨o1, rfl, ho1, hb0⟩; (try (replace hu := hu.below hb0)); (try (replace hx1 := hx1.below hb0)); (try (replace hr1 := hr1.below hb0)); (try (replace hr2 := hr2.below hb0)); (try (replace hx2 := hx2.below hb0)); (try (replace hy2 := hy2.below hb0)); (try (replace ho1 := ho1.below hb0)); replace HB := step0 HB hb0; clear hb0; clear B3)
        | (go_at_call 23; refine (unhide B4 _ _ hy2).mono ?_; rintro e w0 ⟨o2, rfl, ho2, hb0⟩; (try (replace hu := hu.below hb0)); (try (replace hx1 := hx1.below hb0)); (try (replace hr1 := hr1.below hb0)); (try (replace hr2 := hr2.below hb0)); (try (replace hx2 := hx2.below hb0)); (try (replace hy2 := hy2.below hb0)); (try (replace ho1 := ho1.below hb0)); replace HB := step0 HB hb0; clear hb0; clear B4)
        | (go_at_call 11; refine (unhide S2 _ _ _ ho1 ho2).mono ?_; rintro e w0 ⟨rfl, hb0⟩; (try (replace hu := hu.below hb0)); (try (replace hx1 := hx1.below hb0)); (try (replace hr1 := hr1.below hb0)); (try (replace hr2 := hr2.below hb0)); (try (replace hx2 := hx2.below hb0)); (try (replace hy2 := hy2.below hb0)); (try (replace ho1 := ho1.below hb0)); replace HB := step0 HB hb0; clear hb0; clear S2)
        | (go_at_call 17; refine (unhide RN _ HB).mono ?_; rintro e wl ⟨rfl, hbl⟩))
      go_ret
      exact ⟨rfl, step0 HB hbl⟩
  · have HJ := hide hj
    have T1 := hide (fun W => Tokens_ok J us W hJs hJx)
    have B1 := hide (fun v' W (hv' : TokRow W v' us) => bare_any v' us W (by omega) hv')
    rw [hub] at B1
    have B2 := hide (fun v' W (hv' : TokAny W v' L) => bare_free v' L W (by omega) hv')
    have S1 := hide (fun a b W (ha : TokRow W a (bareT L)) (hb : TokRow W b (bareT L)) => SameTok_any a b (bareT L) W (by simp [bareT]; omega) ha hb)
    clear hj hJs hJx hub
    rcases C2 with ⟨p2, y2, h2⟩ | ⟨x, h2, hxl, hxf, hj2 | ⟨K, zs, hj2, hKs, hKx, hzl, hzb⟩⟩
    · have T2 := hide (fun W => Tokens_no S p2 y2 W (by omega) h2)
      clear h2
      go_enter Tryz.func5, Tryz.ntmps5
      go_wp2_with (first
        | (go_at_call 18; refine (unhide SH).mono ?_; rintro e w0 ⟨u, rfl, hu, hb0⟩; (try (replace hu := hu.below hb0)); (try (replace hx1 := hx1.below hb0)); (try (replace hr1 := hr1.below hb0)); (try (replace hr2 := hr2.below hb0)); (try (replace hx2 := hx2.below hb0)); (try (replace hy2 := hy2.below hb0)); (try (replace ho1 := ho1.below hb0)); replace HB := step0 HB hb0; clear hb0; clear SH)
        | (go_at_call 6; refine (unhide FW _).mono ?_; rintro e w' ⟨rfl, rfl⟩; clear FW)
        | (go_at_call 21; refine (unhide J1 _ _ _ hu HB (unhide HJ)).mono ?_; rintro e w0 ⟨rfl, hb0⟩; (try (replace hu := hu.below hb0)); (try (replace hx1 := hx1.below hb0)); (try (replace hr1 := hr1.below hb0)); (try (replace hr2 := hr2.below hb0)); (try (replace hx2 := hx2.below hb0)); (try (replace hy2 := hy2.below hb0)); (try (replace ho1 := ho1.below hb0)); replace HB := step0 HB hb0; clear hb0; clear J1)
        | (go_at_call 9; refine (unhide T1 _).mono ?_; rintro e w0 ⟨v1, rfl, hx1, hb0⟩; (try (replace hu := hu.below hb0)); (try (replace hx1 := hx1.below hb0)); (try (replace hr1 := hr1.below hb0)); (try (replace hr2 := hr2.below hb0)); (try (replace hx2 := hx2.below hb0)); (try (replace hy2 := hy2.below hb0)); (try (replace ho1 := ho1.below hb0)); replace HB := step0 HB hb0; clear hb0; clear T1)
        | (go_at_call 23; refine (unhide B1 _ _ hx1).mono ?_; rintro e w0 ⟨r1, rfl, hr1, hb0⟩; (try (replace hu := hu.below hb0)); (try (replace hx1 := hx1.below hb0)); (try (replace hr1 := hr1.below hb0)); (try (replace hr2 := hr2.below hb0)); (try (replace hx2 := hx2.below hb0)); (try (replace hy2 := hy2.below hb0)); (try (replace ho1 := ho1.below hb0)); replace HB := step0 HB hb0; clear hb0; clear B1)
        | (go_at_call 23; refine (unhide B2 _ _ hu).mono ?_; rintro e w0 ⟨r2, rfl, hr2, hb0⟩; (try (replace hu := hu.below hb0)); (try (replace hx1 := hx1.below hb0)); (try (replace hr1 := hr1.below hb0)); (try (replace hr2 := hr2.below hb0)); (try (replace hx2 := hx2.below hb0)); (try (replace hy2 := hy2.below hb0)); (try (replace ho1 := ho1.below hb0)); replace HB := step0 HB hb0; clear hb0; clear B2)
        | (go_at_call 11; refine (unhide S1 _ _ _ hr1 hr2).mono ?_; rintro e w0 ⟨rfl, hb0⟩; clear hr1 hr2 hx1; (try (replace hu := hu.below hb0)); (try (replace hx1 := hx1.below hb0)); (try (replace hr1 := hr1.below hb0)); (try (replace hr2 := hr2.below hb0)); (try (replace hx2 := hx2.below hb0)); (try (replace hy2 := hy2.below hb0)); (try (replace ho1 := ho1.below hb0)); replace HB := step0 HB hb0; clear hb0; clear S1)
        | (go_at_call 9; refine (unhide T2 _).mono ?_; rintro e w0 ⟨b2, rfl, _, hb0⟩; (try (replace hu := hu.below hb0)); (try (replace hx1 := hx1.below hb0)); (try (replace hr1 := hr1.below hb0)); (try (replace hr2 := hr2.below hb0)); (try (replace hx2 := hx2.below hb0)); (try (replace hy2 := hy2.below hb0)); (try (replace ho1 := ho1.below hb0)); replace HB := step0 HB hb0; clear hb0; clear T2)
        | (go_at_call 17; refine (unhide RN _ HB).mono ?_; rintro e wl ⟨rfl, hbl⟩))
      go_ret
      exact ⟨rfl, step0 HB hbl⟩
    · have T2 := hide (fun W => Tokens_ok S x W (by omega) h2)
      have J2 := hide (fun v' W (hv' : TokAny W v' x) (hb : Below w.heap.size w W) => Join_c (w0 := w) v' x W _ hv' (by omega) hxf hb (unhide HT) h5 hj2)
      have T3 := hide (fun W => Tokens_ok ⟨#[]⟩ [] W (by decide) (by rfl))
      clear h2 hj2 hxf
      go_enter Tryz.func5, Tryz.ntmps5
      go_wp2_with (first
        | (go_at_call 18; refine (unhide SH).mono ?_; rintro e w0 ⟨u, rfl, hu, hb0⟩; (try (replace hu := hu.below hb0)); (try (replace hx1 := hx1.below hb0)); (try (replace hr1 := hr1.below hb0)); (try (replace hr2 := hr2.below hb0)); (try (replace hx2 := hx2.below hb0)); (try (replace hy2 := hy2.below hb0)); (try (replace ho1 := ho1.below hb0)); replace HB := step0 HB hb0; clear hb0; clear SH)
        | (go_at_call 6; refine (unhide FW _).mono ?_; rintro e w' ⟨rfl, rfl⟩; clear FW)
        | (go_at_call 21; refine (unhide J1 _ _ _ hu HB (unhide HJ)).mono ?_; rintro e w0 ⟨rfl, hb0⟩; (try (replace hu := hu.below hb0)); (try (replace hx1 := hx1.below hb0)); (try (replace hr1 := hr1.below hb0)); (try (replace hr2 := hr2.below hb0)); (try (replace hx2 := hx2.below hb0)); (try (replace hy2 := hy2.below hb0)); (try (replace ho1 := ho1.below hb0)); replace HB := step0 HB hb0; clear hb0; clear J1)
        | (go_at_call 9; refine (unhide T1 _).mono ?_; rintro e w0 ⟨v1, rfl, hx1, hb0⟩; (try (replace hu := hu.below hb0)); (try (replace hx1 := hx1.below hb0)); (try (replace hr1 := hr1.below hb0)); (try (replace hr2 := hr2.below hb0)); (try (replace hx2 := hx2.below hb0)); (try (replace hy2 := hy2.below hb0)); (try (replace ho1 := ho1.below hb0)); replace HB := step0 HB hb0; clear hb0; clear T1)
        | (go_at_call 23; refine (unhide B1 _ _ hx1).mono ?_; rintro e w0 ⟨r1, rfl, hr1, hb0⟩; (try (replace hu := hu.below hb0)); (try (replace hx1 := hx1.below hb0)); (try (replace hr1 := hr1.below hb0)); (try (replace hr2 := hr2.below hb0)); (try (replace hx2 := hx2.below hb0)); (try (replace hy2 := hy2.below hb0)); (try (replace ho1 := ho1.below hb0)); replace HB := step0 HB hb0; clear hb0; clear B1)
        | (go_at_call 23; refine (unhide B2 _ _ hu).mono ?_; rintro e w0 ⟨r2, rfl, hr2, hb0⟩; (try (replace hu := hu.below hb0)); (try (replace hx1 := hx1.below hb0)); (try (replace hr1 := hr1.below hb0)); (try (replace hr2 := hr2.below hb0)); (try (replace hx2 := hx2.below hb0)); (try (replace hy2 := hy2.below hb0)); (try (replace ho1 := ho1.below hb0)); replace HB := step0 HB hb0; clear hb0; clear B2)
        | (go_at_call 11; refine (unhide S1 _ _ _ hr1 hr2).mono ?_; rintro e w0 ⟨rfl, hb0⟩; clear hr1 hr2 hx1; (try (replace hu := hu.below hb0)); (try (replace hx1 := hx1.below hb0)); (try (replace hr1 := hr1.below hb0)); (try (replace hr2 := hr2.below hb0)); (try (replace hx2 := hx2.below hb0)); (try (replace hy2 := hy2.below hb0)); (try (replace ho1 := ho1.below hb0)); replace HB := step0 HB hb0; clear hb0; clear S1)
        | (go_at_call 9; refine (unhide T2 _).mono ?_; rintro e w0 ⟨v2, rfl, hx2, hb0⟩; (try (replace hu := hu.below hb0)); (try (replace hx1 := hx1.below hb0)); (try (replace hr1 := hr1.below hb0)); (try (replace hr2 := hr2.below hb0)); (try (replace hx2 := hx2.below hb0)); (try (replace hy2 := hy2.below hb0)); (try (replace ho1 := ho1.below hb0)); replace HB := step0 HB hb0; clear hb0; clear T2)
        | (go_at_call 21; refine (unhide J2 _ _ hx2.any HB).mono ?_; rintro e w0 ⟨rfl, hb0⟩; (try (replace hu := hu.below hb0)); (try (replace hx1 := hx1.below hb0)); (try (replace hr1 := hr1.below hb0)); (try (replace hr2 := hr2.below hb0)); (try (replace hx2 := hx2.below hb0)); (try (replace hy2 := hy2.below hb0)); (try (replace ho1 := ho1.below hb0)); replace HB := step0 HB hb0; clear hb0; clear J2)
        | (go_at_call 9; refine (unhide T3 _).mono ?_; rintro e w0 ⟨v3, rfl, hy2, hb0⟩; (try (replace hu := hu.below hb0)); (try (replace hx1 := hx1.below hb0)); (try (replace hr1 := hr1.below hb0)); (try (replace hr2 := hr2.below hb0)); (try (replace hx2 := hx2.below hb0)); (try (replace hy2 := hy2.below hb0)); (try (replace ho1 := ho1.below hb0)); replace HB := step0 HB hb0; clear hb0; clear T3)
        | (go_at_call 17; refine (unhide RN _ HB).mono ?_; rintro e wl ⟨rfl, hbl⟩))
      go_ret
      exact ⟨rfl, step0 HB hbl⟩
    · have T2 := hide (fun W => Tokens_ok S x W (by omega) h2)
      have J2 := hide (fun v' W (hv' : TokAny W v' x) (hb : Below w.heap.size w W) => Join_c (w0 := w) v' x W _ hv' (by omega) hxf hb (unhide HT) h5 hj2)
      have T3 := hide (fun W => Tokens_ok K zs W hKs hKx)
      have B3 := hide (fun v' W (hv' : TokRow W v' x) => bare_any v' x W (by omega) hv')
      have B4 := hide (fun v' W (hv' : TokRow W v' zs) => bare_any v' zs W (by omega) hv')
      rw [hzb] at B4
      have S2 := hide (fun a b W (ha : TokRow W a (bareT x)) (hb : TokRow W b (bareT x)) => SameTok_any a b (bareT x) W (by simp [bareT]; omega) ha hb)
      clear h2 hj2 hxf hKs hKx hzb
      go_enter Tryz.func5, Tryz.ntmps5
      go_wp2_with (first
        | (go_at_call 18; refine (unhide SH).mono ?_; rintro e w0 ⟨u, rfl, hu, hb0⟩; (try (replace hu := hu.below hb0)); (try (replace hx1 := hx1.below hb0)); (try (replace hr1 := hr1.below hb0)); (try (replace hr2 := hr2.below hb0)); (try (replace hx2 := hx2.below hb0)); (try (replace hy2 := hy2.below hb0)); (try (replace ho1 := ho1.below hb0)); replace HB := step0 HB hb0; clear hb0; clear SH)
        | (go_at_call 6; refine (unhide FW _).mono ?_; rintro e w' ⟨rfl, rfl⟩; clear FW)
        | (go_at_call 21; refine (unhide J1 _ _ _ hu HB (unhide HJ)).mono ?_; rintro e w0 ⟨rfl, hb0⟩; (try (replace hu := hu.below hb0)); (try (replace hx1 := hx1.below hb0)); (try (replace hr1 := hr1.below hb0)); (try (replace hr2 := hr2.below hb0)); (try (replace hx2 := hx2.below hb0)); (try (replace hy2 := hy2.below hb0)); (try (replace ho1 := ho1.below hb0)); replace HB := step0 HB hb0; clear hb0; clear J1)
        | (go_at_call 9; refine (unhide T1 _).mono ?_; rintro e w0 ⟨v1, rfl, hx1, hb0⟩; (try (replace hu := hu.below hb0)); (try (replace hx1 := hx1.below hb0)); (try (replace hr1 := hr1.below hb0)); (try (replace hr2 := hr2.below hb0)); (try (replace hx2 := hx2.below hb0)); (try (replace hy2 := hy2.below hb0)); (try (replace ho1 := ho1.below hb0)); replace HB := step0 HB hb0; clear hb0; clear T1)
        | (go_at_call 23; refine (unhide B1 _ _ hx1).mono ?_; rintro e w0 ⟨r1, rfl, hr1, hb0⟩; (try (replace hu := hu.below hb0)); (try (replace hx1 := hx1.below hb0)); (try (replace hr1 := hr1.below hb0)); (try (replace hr2 := hr2.below hb0)); (try (replace hx2 := hx2.below hb0)); (try (replace hy2 := hy2.below hb0)); (try (replace ho1 := ho1.below hb0)); replace HB := step0 HB hb0; clear hb0; clear B1)
        | (go_at_call 23; refine (unhide B2 _ _ hu).mono ?_; rintro e w0 ⟨r2, rfl, hr2, hb0⟩; (try (replace hu := hu.below hb0)); (try (replace hx1 := hx1.below hb0)); (try (replace hr1 := hr1.below hb0)); (try (replace hr2 := hr2.below hb0)); (try (replace hx2 := hx2.below hb0)); (try (replace hy2 := hy2.below hb0)); (try (replace ho1 := ho1.below hb0)); replace HB := step0 HB hb0; clear hb0; clear B2)
        | (go_at_call 11; refine (unhide S1 _ _ _ hr1 hr2).mono ?_; rintro e w0 ⟨rfl, hb0⟩; clear hr1 hr2 hx1; (try (replace hu := hu.below hb0)); (try (replace hx1 := hx1.below hb0)); (try (replace hr1 := hr1.below hb0)); (try (replace hr2 := hr2.below hb0)); (try (replace hx2 := hx2.below hb0)); (try (replace hy2 := hy2.below hb0)); (try (replace ho1 := ho1.below hb0)); replace HB := step0 HB hb0; clear hb0; clear S1)
        | (go_at_call 9; refine (unhide T2 _).mono ?_; rintro e w0 ⟨v2, rfl, hx2, hb0⟩; (try (replace hu := hu.below hb0)); (try (replace hx1 := hx1.below hb0)); (try (replace hr1 := hr1.below hb0)); (try (replace hr2 := hr2.below hb0)); (try (replace hx2 := hx2.below hb0)); (try (replace hy2 := hy2.below hb0)); (try (replace ho1 := ho1.below hb0)); replace HB := step0 HB hb0; clear hb0; clear T2)
        | (go_at_call 21; refine (unhide J2 _ _ hx2.any HB).mono ?_; rintro e w0 ⟨rfl, hb0⟩; (try (replace hu := hu.below hb0)); (try (replace hx1 := hx1.below hb0)); (try (replace hr1 := hr1.below hb0)); (try (replace hr2 := hr2.below hb0)); (try (replace hx2 := hx2.below hb0)); (try (replace hy2 := hy2.below hb0)); (try (replace ho1 := ho1.below hb0)); replace HB := step0 HB hb0; clear hb0; clear J2)
        | (go_at_call 9; refine (unhide T3 _).mono ?_; rintro e w0 ⟨v3, rfl, hy2, hb0⟩; (try (replace hu := hu.below hb0)); (try (replace hx1 := hx1.below hb0)); (try (replace hr1 := hr1.below hb0)); (try (replace hr2 := hr2.below hb0)); (try (replace hx2 := hx2.below hb0)); (try (replace hy2 := hy2.below hb0)); (try (replace ho1 := ho1.below hb0)); replace HB := step0 HB hb0; clear hb0; clear T3)
        | (go_at_call 23; refine (unhide B3 _ _ hx2).mono ?_; rintro e w0 ⟨o1, rfl, ho1, hb0⟩; (try (replace hu := hu.below hb0)); (try (replace hx1 := hx1.below hb0)); (try (replace hr1 := hr1.below hb0)); (try (replace hr2 := hr2.below hb0)); (try (replace hx2 := hx2.below hb0)); (try (replace hy2 := hy2.below hb0)); (try (replace ho1 := ho1.below hb0)); replace HB := step0 HB hb0; clear hb0; clear B3)
        | (go_at_call 23; refine (unhide B4 _ _ hy2).mono ?_; rintro e w0 ⟨o2, rfl, ho2, hb0⟩; (try (replace hu := hu.below hb0)); (try (replace hx1 := hx1.below hb0)); (try (replace hr1 := hr1.below hb0)); (try (replace hr2 := hr2.below hb0)); (try (replace hx2 := hx2.below hb0)); (try (replace hy2 := hy2.below hb0)); (try (replace ho1 := ho1.below hb0)); replace HB := step0 HB hb0; clear hb0; clear B4)
        | (go_at_call 11; refine (unhide S2 _ _ _ ho1 ho2).mono ?_; rintro e w0 ⟨rfl, hb0⟩; (try (replace hu := hu.below hb0)); (try (replace hx1 := hx1.below hb0)); (try (replace hr1 := hr1.below hb0)); (try (replace hr2 := hr2.below hb0)); (try (replace hx2 := hx2.below hb0)); (try (replace hy2 := hy2.below hb0)); (try (replace ho1 := ho1.below hb0)); replace HB := step0 HB hb0; clear hb0; clear S2)
        | (go_at_call 17; refine (unhide RN _ HB).mono ?_; rintro e wl ⟨rfl, hbl⟩))
      go_ret
      exact ⟨rfl, step0 HB hbl⟩
end Go.Proofs.YtkahhkeohmljaaaGreatDoor
