/-
  coillaw1.LexLimits, walked: it answers true, whatever numbers it is handed.
-/
import Derived.Test.YtkahhkeohmljaabDoorLexed
import Derived.Test.YtkahhkeohmljaabDoorLaws9
import Derived.Test.YtkahhkeohmljaabDoorWithin
import Derived.Laws.IdiomStrings
import Derived.Laws.OwnMore
import Derived.OwnWalk
import Derived.Room.AppendFits
namespace Go.Proofs.YtkahhkeohmljaabDoor
open Go Go.RowKit Lx

theorem info_u8 : (Tryd.prog.info? 5).map (fun i => (i.zero, i.size, i.bytes)) = some (some (.int .u8 0), 1, 1) := by kernel_rfl
/-- k bytes written, the others not yet. -/
def filled (x : UInt8) (k N : Nat) : List Value := List.replicate k (.int .u8 (x.toNat : Int)) ++ List.replicate (N - k) (.int .u8 0)
theorem filled_next {x : UInt8} {k N : Nat} (h : k < N) : (filled x k N).set k (.int .u8 (x.toNat : Int)) = filled x (k + 1) N := by
  unfold filled
  rw [List.set_append_right _ _ (by simp), List.length_replicate, Nat.sub_self, show N - k = (N - (k + 1)) + 1 from by omega, List.replicate_succ, List.set_cons_zero, List.replicate_succ']
  simp
theorem filled_all {x : UInt8} {N : Nat} : filled x N N = List.replicate N (.int .u8 (x.toNat : Int)) := by simp [filled]
theorem filled_none {x : UInt8} {N : Nat} : filled x 0 N = (madeCells (Value.cells (.int .u8 0)) (N * 1)).toList := by
  rw [Nat.mul_one]
  show _ = (madeCells #[.int .u8 0] N).toList
  rw [toList_madeCells_one]; simp [filled]
theorem bytes_back {W : World} {B g N : Nat} {x : UInt8} (h : W.ownsRow B 5 1 (.slice (some ⟨g, 0, none⟩) N N) N (List.replicate N (.int .u8 (x.toNat : Int)))) :
    (convert 23 9 (.slice (some ⟨g, 0, none⟩) N N)).run Tryd.prog W = .ok (.string ⟨(List.replicate N x).toArray⟩) W := by
  have := run_convert_bytes_back (P := Tryd.prog) W 23 9 5 ⟨g, 0, none⟩ N (List.replicate N x) Tryd.underlying23 Tryd.underlying5 Tryd.underlying9 (fun j hj => by
    rw [List.length_replicate] at hj
    rw [addr_add, h.cellAt j (by omega)]
    simp [hj])
  rw [List.length_replicate] at this
  exact this
theorem filled_at {x : UInt8} {k N : Nat} (h : k < N) : (filled x k N)[k]? = some (.int .u8 0) := by
  unfold filled
  rw [List.getElem?_append_right (by simp), List.length_replicate, Nat.sub_self, List.getElem?_replicate, if_pos (by omega)]
theorem owns_below {w W : World} {base : Nat} {e : TypeId} {size : Nat} {v : Value} {n : Nat} {xs : List Value} (h : w.ownsRow base e size v n xs) (hb : Below w.heap.size w W) : W.ownsRow base e size v n xs := by
  refine h.kept (grown_of_below hb) ?_
  cases ho : v.ownBlock with
  | none => exact .inl rfl
  | some g => exact .inr (by simp)
theorem str_cells (s : ByteArray) : Lib.strCells s = Lib.byteCells s.data.toList := by simp [Lib.strCells, Lib.byteCells]
theorem semi_back {W : World} {B g n c M : Nat} (hn : n = 2 * M) (h : W.ownsRow B 5 1 (.slice (some ⟨g, 0, none⟩) n c) n (Lib.byteCells (semi M))) :
    (convert 23 9 (.slice (some ⟨g, 0, none⟩) n c)).run Tryd.prog W = .ok (.string ⟨(semi M).toArray⟩) W := by
  have := run_convert_bytes_back (P := Tryd.prog) W 23 9 5 ⟨g, 0, none⟩ c (semi M) Tryd.underlying23 Tryd.underlying5 Tryd.underlying9 (fun j hj => by
    have hj' : j < n * 1 := by rw [semi_len] at hj; omega
    rw [addr_add, h.cellAt j hj']
    simp [Lib.byteCells, hj])
  rw [semi_len, ← hn] at this
  exact this
theorem Tokens_len (s : ByteArray) (ts : List Tok) (M : Nat) (w : World) (hs : s.size ≤ 140737488355328) (hx : lex s.data.toList = (ts, none)) (hM : ts.length = M) :
    Calls Tryd.prog 9 #[.string s] w fun e w' => ∃ p c, e = .returned (.tuple #[.slice p M c, .nilIface]) ∧ Below w.heap.size w w' := by
  refine (Tokens_ok s ts w hs hx).mono ?_
  rintro e w' ⟨v, rfl, ⟨p, c, rfl, _⟩, hb⟩
  exact ⟨p, c, by rw [hM], hb⟩
theorem semi_fits (n : Nat) : Fits (List.replicate n (0, 6, [59], 0)) := by
  intro t ht
  rw [List.eq_of_mem_replicate ht]
  exact ⟨by decide, by decide, by decide⟩
set_option maxHeartbeats 10000000 in
set_option maxRecDepth 100000 in
theorem LexLimits_any (n0 n1 : Int) (w : World) (a0 : -9223372036854775808 ≤ n0) (a1 : n0 ≤ 9223372036854775807) (b0 : -9223372036854775808 ≤ n1) (b1 : n1 ≤ 9223372036854775807) (hg : ErrType w) (ht : Tab w) (h5 : 5 ≤ w.heap.size) :
    Calls Tryd.prog 3 #[.int .i64 n0, .int .i64 n1] w fun e w' => e = .returned (.bool true) ∧ Below w.heap.size w w' := by
  have HB : Below w.heap.size w w := Below.refl _ _
  have RN := hide (fun W (hb : Below w.heap.size w W) => Runs_b (w0 := w) W hb hg ht h5)
  have RF := hide (fun b p y W (hy : LexNo y) (hp : p ≤ 140737488355328) (hr : RefAt b p y W) (hb : Below w.heap.size w W) => refused_any b p y hy hp W hr (hg.below hb h5) (ht.below hb h5) (Nat.le_trans h5 hb.size))
  have HT := hide ht
  clear hg ht
  have W1 := hide (fun W => Within_any n0 (-1) 1 W a0 a1 (by omega) (by omega) (by omega))
  have W2 := hide (fun W => Within_any n1 0 2 W b0 b1 (by omega) (by omega) (by omega))
  clear a0 a1 b0 b1
  obtain ⟨i0, hi, hz0, hz1, hz2⟩ := info_parts info_u8
  go_enter Tryd.func3, Tryd.ntmps3
  go_wp2_with (go_at_call 8; refine (unhide W1 _).mono ?_; rintro e w' ⟨⟨d, rfl, hd0, hd1⟩, rfl⟩; clear W1)
  refine (unhide W2 _).mono ?_
  rintro e w' ⟨⟨c, rfl, hc0, hc1⟩, rfl⟩
  clear W2
  have hc : c = 0 ∨ c = 1 ∨ c = 2 := by omega
  rcases hc with rfl | rfl | rfl
  · obtain ⟨N, hN⟩ : ∃ N : Nat, 65536 + d = (N : Int) := ⟨(65536 + d).toNat, by omega⟩
    have hN1 : N ≤ 65537 := by omega
    go_wp2_with (at_make; refine wpList_make_full _ rfl _ _ 23 rfl w.heap.size 5 i0 (.int .u8 0) 1 Tryd.underlying23 hi hz0 hz1 .i64 .i64 _ _ N rfl rfl (by first | exact hN | omega) (by first | exact hN | omega) (by rw [hz2]; omega) (by unfold maxLen; omega) (Nat.le_refl _) ?_; intro w1 hown1 hgr1)
    rw [← filled_none (x := 32)] at hown1
    have hb1 : Below w.heap.size w w1 := HB.grown hgr1 (Nat.le_refl _) (fun k e => by cases e)
    clear hgr1 HB
    go_loopw [7] (fun i wr => ∃ k : Nat, i = .int .i64 k ∧ k ≤ N ∧ wr.ownsRow w.heap.size 5 1 (.slice (some ⟨w.heap.size, 0, none⟩) N N) N (filled 32 k N) ∧ Below w.heap.size w wr) (fun i _ => N - (intOf i).toNat)
    case atStart => exact ⟨0, rfl, by omega, hown1, hb1⟩
    case round =>
      obtain ⟨k, rfl, hk, hown, hb⟩ := hrel
      by_cases hlt : k < N
      · have hlt' : (k : Int) < (N : Int) := by omega
        have hf := hown.frozenAt k
        have hce := hown.cellAt k (by omega)
        obtain ⟨hst, hgr⟩ := hown.stored k (.int .u8 ((32 : UInt8).toNat : Int))
        rw [filled_next hlt] at hst
        have hb' := hb.grown hgr hb.size (fun q e => by cases e; exact Nat.le_refl _)
        rw [show ((32 : UInt8).toNat : Int) = 32 from rfl] at hst hb'
        have hgl : w.heap.size < wr.heap.size := (hown.lt w.heap.size rfl).2
        clear hgr
        rw [filled_at hlt] at hce
        go_wp2
        go_roundw
        case rel => exact ⟨k + 1, by go_num, by omega, hst, hb'⟩
        case measure => simp [intOf]; omega
      · obtain rfl : k = N := by omega
        rw [filled_all] at hown
        have kc := bytes_back hown
        have hsz : ByteArray.size ⟨(List.replicate k (32 : UInt8)).toArray⟩ ≤ 140737488355328 := by show (List.replicate k (32 : UInt8)).toArray.size ≤ _; simp; omega
        clear hown
        by_cases hbig : k ≤ 65536
        · have TK := hide (fun W => Tokens_ok ⟨(List.replicate k (32 : UInt8)).toArray⟩ [] W hsz (blanks_lex hbig))
          have hd : ¬ 0 < d := by omega
          have hd' : d ≤ 0 := by omega
          clear hsz
          go_wp2_with (first | (go_at_call 9; refine (unhide TK _).mono ?_; rintro e w3 ⟨v, rfl, hv, hb3⟩; obtain ⟨p3, c3, rfl, _⟩ := hv; replace hb := step0 hb hb3; clear hb3 TK) | (go_at_call 11; refine (unhide RN _ hb).mono ?_; rintro e wl ⟨rfl, hbl⟩))
          go_ret
          exact ⟨by show Ending.returned (Value.bool (!decide (0 < d))) = _; rw [decide_eq_false (show ¬ 0 < d by omega)]; rfl, step0 hb hbl⟩
        · have TK := hide (fun W => Tokens_no ⟨(List.replicate k (32 : UInt8)).toArray⟩ 0 2 W hsz (blanks_long (by omega)))
          have hd : 0 < d := by omega
          have hd' : ¬ d ≤ 0 := by omega
          clear hsz
          go_wp2_with (first | (go_at_call 9; refine (unhide TK _).mono ?_; rintro e w3 ⟨b, rfl, hr, hb3⟩; replace hb := step0 hb hb3; clear hb3 TK) | (go_at_call 10; refine (unhide RF b 0 2 _ (.inl rfl) (by omega) hr hb).mono ?_; rintro e w4 ⟨rfl, hb4⟩; replace hb := step0 hb hb4; clear hb4 hr) | (go_at_call 11; refine (unhide RN _ hb).mono ?_; rintro e wl ⟨rfl, hbl⟩))
          go_ret
          exact ⟨rfl, step0 hb hbl⟩
  · obtain ⟨M, hM⟩ : ∃ M : Nat, 4096 + d = (M : Int) := ⟨(4096 + d).toNat, by omega⟩
    have hM1 : M ≤ 4097 := by omega
    have hM0 : 4095 ≤ M := by omega
    obtain ⟨i1, ti, tz0, tz1, tz2⟩ := info_parts info_tok
    go_wp2_with (first
      | (at_make; refine wpList_make_own _ rfl _ _ 23 rfl w.heap.size 5 i0 (.int .u8 0) 1 Tryd.underlying23 hi hz0 hz1 .i64 .i64 _ 9000 rfl rfl rfl (by rw [hz2]; omega) (by unfold maxLen; omega) (Nat.le_refl _) ?_; intro w1 hown1 hgr1)
      | (at_make; refine wpList_make_own _ rfl _ _ 24 rfl w.heap.size 34 i1 (.agg #[.int .i64 0, .int .i64 0, .string ⟨#[]⟩, .int .i64 0]) 4 Tryd.underlying24 ti tz0 tz1 .i64 .i64 _ 4100 rfl rfl rfl (by rw [tz2]; omega) (by unfold maxLen; omega) hgr1.size ?_; intro w2 hown2 hgr2))
    have hg12 : w.heap.size < w1.heap.size := (hown1.lt w.heap.size rfl).2
    have hb2 : Below w.heap.size w w2 := (HB.grown hgr1 (Nat.le_refl _) (fun k e => by cases e)).grown hgr2 hgr1.size (fun k e => by cases e)
    replace hown1 := hown1.kept hgr2 (.inr (by simp [Value.ownBlock]))
    clear hgr1 hgr2 HB
    obtain ⟨g2, hg2⟩ : ∃ g2, g2 = w1.heap.size := ⟨_, rfl⟩
    rw [← hg2] at hown2 hg12 ⊢
    clear hg2
    go_loopw [10, 11, 12] (fun vb vl i wr => ∃ k n : Nat, n = 2 * k ∧ i = .int .i64 k ∧ vb = .slice (some ⟨w.heap.size, 0, none⟩) n 9000 ∧ vl = .slice (some ⟨g2, 0, none⟩) k 4100 ∧ k ≤ M ∧
      wr.ownsRow w.heap.size 5 1 (.slice (some ⟨w.heap.size, 0, none⟩) n 9000) n (Lib.byteCells (semi k)) ∧ wr.ownsRow w.heap.size 34 4 (.slice (some ⟨g2, 0, none⟩) k 4100) k (allCells (List.replicate k (0, 6, [59], 0))) ∧ Below w.heap.size w wr) (fun _ _ i _ => M - (intOf i).toNat)
    case atStart => exact ⟨0, 0, rfl, rfl, rfl, rfl, by omega, hown1, hown2, hb2⟩
    case round =>
      obtain ⟨k, n, hn, rfl, rfl, rfl, hk, ho1, ho2, hb⟩ := hrel
      by_cases hlt : k < M
      · have hlt' : (k : Int) < (M : Int) := by omega
        have O1 := hide ho1
        go_wp2_with (first
          | (at_builtin; refine Lib.wpList_append_fits_string _ rfl _ _ 23 9 rfl w.heap.size 5 i0 Tryd.underlying23 Tryd.underlying9 hi hz1 (some ⟨w.heap.size, 0, none⟩) n 9000 (Lib.byteCells (semi k)) rfl (unhide O1) ⟨#[59, 32]⟩ rfl (by omega) (by show n + 2 ≤ 9000; omega) ?_; clear O1; intro w3 ho1' hgr3; replace ho2 := ho2.kept hgr3 (.inr (by simp [Value.ownBlock]; omega)); have hb3 := hb.grown hgr3 hb.size (fun q e => by cases e; exact Nat.le_refl _))
          | (go_at_call 12; refine (token_any _ _ _ _ _).mono ?_; rintro e wt ⟨rfl, hbt⟩; replace ho1' := owns_below ho1' hbt; replace ho2 := owns_below ho2 hbt; replace hb3 := step0 hb3 hbt; clear hbt)
          | (at_builtin; refine wpList_append_fits _ rfl _ _ 24 rfl w.heap.size 34 i1 4 Tryd.underlying24 ti tz1 g2 k 4100 (allCells (List.replicate k (0, 6, [59], 0))) rfl ?own ⟨_, 0, none⟩ 1 1 (tokCells (0, 6, [59], 0)) rfl rfl ?news ?one ?room ?_))
        case own => exact ho2.alloc _
        case news =>
          intro j u hj
          match j, hj with
          | 0, hj => simp [tokCells] at hj; subst hj; simp [Addr.add]
          | 1, hj => simp [tokCells] at hj; subst hj; simp [Addr.add]
          | 2, hj => simp [tokCells] at hj; subst hj; simp [Addr.add]
          | 3, hj => simp [tokCells] at hj; subst hj; simp [Addr.add]
          | j + 4, hj => simp [tokCells] at hj
        case one => intro u hu; simp [tokCells] at hu; rcases hu with rfl | rfl | rfl | rfl <;> rfl
        case room => omega
        intro w5 ho2' hgr5
        have hb3s := hb3.size
        have ho1'' := (ho1'.alloc (.cells #[.int .i64 0, .int .i64 6, .string ⟨#[59]⟩, .int .i64 0] 34)).kept hgr5 (.inr (by simp [Value.ownBlock]; omega))
        have hb5 := (hb3.alloc hb3s _).grown hgr5 (by simp; omega) (fun q e => by cases e; omega)
        rw [str_cells, ← byteCells_append, semi_snoc] at ho1''
        rw [← allCells_snoc, ← List.replicate_succ'] at ho2'
        clear hgr5 ho1' ho2
        go_wp2
        go_roundw
        case rel => exact ⟨k + 1, n + 2, by omega, by go_num, by rw [hn], rfl, by omega, ho1'', ho2', hb5⟩
        case measure => simp [intOf]; omega
      · obtain rfl : k = M := by omega
        have kc := semi_back hn ho1
        have hTR : TokRow wr (.slice (some ⟨g2, 0, none⟩) k 4100) (List.replicate k (0, 6, [59], 0)) := by
          obtain ⟨p, c, e, hp⟩ := TokRow.of_owns (ts := List.replicate k (0, 6, [59], 0)) (by rw [List.length_replicate]; exact ho2)
          rw [List.length_replicate] at e
          exact ⟨p, c, by rw [List.length_replicate]; exact e, hp⟩
        have hsz : ByteArray.size ⟨(semi k).toArray⟩ ≤ 140737488355328 := by show (semi k).toArray.size ≤ _; simp [semi_len]; omega
        clear ho1 ho2 hn hown1 hown2
        by_cases hbig : k ≤ 4096
        · obtain ⟨l, hl, hll⟩ := semi_join (n := k) (by omega) hbig
          have TK := hide (fun W => Tokens_len ⟨(semi k).toArray⟩ (semiT 0 k) k W hsz (semi_lex hbig) (semiT_len k 0))
          obtain ⟨J, hJ⟩ : ∃ J : ByteArray, (⟨l.toArray⟩ : ByteArray) = J := ⟨_, rfl⟩
          have hJs : (J.size : Int) = 2 * (k : Int) - 1 := by
            have : J.size = l.length := by rw [← hJ]; show l.toArray.size = _; simp
            omega
          have HJ : Hid (joinAns (join (List.replicate k (0, 6, [59], 0))) = .tuple #[.string J, .int .i64 0]) := by show _ = _; rw [hl, ← hJ]; rfl
          have JN := hide (fun W (hb' : Below wr.heap.size wr W) => Join_b (w0 := w) _ (List.replicate k (0, 6, [59], 0)) W _ (hTR.below hb') (by simp; omega) (semi_fits k) (step0 hb hb') (unhide HT) h5 (unhide HJ))
          have hd : ¬ 0 < d := by omega
          clear hl hll hJ HJ hsz hTR
          go_wp2_with (first | (go_at_call 9; refine (unhide TK _).mono ?_; rintro e w3 ⟨p3, c3, rfl, hb3⟩; clear TK) | (go_at_call 13; refine (unhide JN _ hb3).mono ?_; rintro e w5 ⟨rfl, hb5⟩; have HB5 := step0 (step0 hb hb3) hb5) | (go_at_call 11; refine (unhide RN _ HB5).mono ?_; rintro e wl ⟨rfl, hbl⟩))
          go_ret
          exact ⟨rfl, step0 HB5 hbl⟩
        · have TK := hide (fun W => Tokens_no ⟨(semi k).toArray⟩ 8192 3 W hsz (semi_many (by omega) (by omega)))
          have HJ : Hid (joinAns (join (List.replicate k (0, 6, [59], 0))) = .tuple #[.string ⟨#[]⟩, .int .i64 3]) := by show _ = _; rw [semi_join_many (by omega) (by omega)]; rfl
          have JN := hide (fun W (hb' : Below wr.heap.size wr W) => Join_b (w0 := w) _ (List.replicate k (0, 6, [59], 0)) W _ (hTR.below hb') (by simp; omega) (semi_fits k) (step0 hb hb') (unhide HT) h5 (unhide HJ))
          have hd : 0 < d := by omega
          clear HJ hsz hTR
          go_wp2_with (first | (go_at_call 9; refine (unhide TK _).mono ?_; rintro e w3 ⟨b, rfl, hr, hb3⟩; clear TK) | (go_at_call 13; refine (unhide JN _ hb3).mono ?_; rintro e w5 ⟨rfl, hb5⟩; have HB5 := step0 (step0 hb hb3) hb5; replace hr := hr.below hb5 hr.lt) | (go_at_call 10; refine (unhide RF b 8192 3 _ (.inr (.inl rfl)) (by omega) hr HB5).mono ?_; rintro e w6 ⟨rfl, hb6⟩; replace HB5 := step0 HB5 hb6; clear hb6 hr) | (go_at_call 11; refine (unhide RN _ HB5).mono ?_; rintro e wl ⟨rfl, hbl⟩))
          go_ret
          exact ⟨rfl, step0 HB5 hbl⟩
  · obtain ⟨N, hN⟩ : ∃ N : Nat, 32 + d = (N : Int) := ⟨(32 + d).toNat, by omega⟩
    have hN1 : N ≤ 33 := by omega
    go_wp2_with (at_make; refine wpList_make_full _ rfl _ _ 23 rfl w.heap.size 5 i0 (.int .u8 0) 1 Tryd.underlying23 hi hz0 hz1 .i64 .i64 _ _ N rfl rfl (by first | exact hN | omega) (by first | exact hN | omega) (by rw [hz2]; omega) (by unfold maxLen; omega) (Nat.le_refl _) ?_; intro w1 hown1 hgr1)
    rw [← filled_none (x := 97)] at hown1
    have hb1 : Below w.heap.size w w1 := HB.grown hgr1 (Nat.le_refl _) (fun k e => by cases e)
    clear hgr1 HB
    go_loopw [18] (fun i wr => ∃ k : Nat, i = .int .i64 k ∧ k ≤ N ∧ wr.ownsRow w.heap.size 5 1 (.slice (some ⟨w.heap.size, 0, none⟩) N N) N (filled 97 k N) ∧ Below w.heap.size w wr) (fun i _ => N - (intOf i).toNat)
    case atStart => exact ⟨0, rfl, by omega, hown1, hb1⟩
    case round =>
      obtain ⟨k, rfl, hk, hown, hb⟩ := hrel
      by_cases hlt : k < N
      · have hlt' : (k : Int) < (N : Int) := by omega
        have hf := hown.frozenAt k
        have hce := hown.cellAt k (by omega)
        obtain ⟨hst, hgr⟩ := hown.stored k (.int .u8 ((97 : UInt8).toNat : Int))
        rw [filled_next hlt] at hst
        have hb' := hb.grown hgr hb.size (fun q e => by cases e; exact Nat.le_refl _)
        rw [show ((97 : UInt8).toNat : Int) = 97 from rfl] at hst hb'
        have hgl : w.heap.size < wr.heap.size := (hown.lt w.heap.size rfl).2
        clear hgr
        rw [filled_at hlt] at hce
        go_wp2
        go_roundw
        case rel => exact ⟨k + 1, by go_num, by omega, hst, hb'⟩
        case measure => simp [intOf]; omega
      · obtain rfl : k = N := by omega
        rw [filled_all] at hown
        have kc := bytes_back hown
        have hsz : ByteArray.size ⟨(List.replicate k (97 : UInt8)).toArray⟩ ≤ 140737488355328 := by show (List.replicate k (97 : UInt8)).toArray.size ≤ _; simp; omega
        have hkk : k = 31 ∨ k = 32 ∨ k = 33 := by omega
        obtain ⟨X, hX⟩ : ∃ X : List UInt8, List.replicate k (97 : UInt8) = X := ⟨_, rfl⟩
        have hXl : X.length ≤ 33 := by rw [← hX]; simp; omega
        rw [hX] at kc hsz
        by_cases hbig : k ≤ 32
        · have hlx : lex X = ([(0, 1, X, 0)], none) ∧ join [(0, 1, X, 0)] = .inr X := by
            rw [← hX]
            rcases hkk with rfl | rfl | rfl
            · exact name_31
            · exact name_32
            · omega
          have TK := hide (fun W => Tokens_len ⟨X.toArray⟩ [(0, 1, X, 0)] 1 W hsz hlx.1 rfl)
          have HJ : Hid (joinAns (join [(0, 1, X, 0)]) = .tuple #[.string ⟨X.toArray⟩, .int .i64 0]) := by show _ = _; rw [hlx.2]; rfl
          have HF : Hid (Fits [(0, 1, X, 0)]) := by
            intro t ht
            rw [List.mem_singleton.1 ht]
            exact ⟨by show X.length ≤ _; omega, by show (-9223372036854775808 : Int) ≤ 0; omega, by show (0 : Int) ≤ _; omega⟩
          have J1 := hide (fun W (hb : Below w.heap.size w W) => Join_b (w0 := w) _ [(0, 1, X, 0)] _ _ (TokRow.of_new W [(0, 1, X, 0)] 1 _ rfl) (by simp) (unhide HF) (hb.alloc hb.size _) (unhide HT) h5 (unhide HJ))
          have hd : ¬ 0 < d := by omega
          have KC : Hid (∀ W, Below wr.heap.size wr W → (convert 23 9 (.slice (some ⟨w.heap.size, 0, none⟩) k k)).run Tryd.prog W = .ok (.string ⟨X.toArray⟩) W) := fun W hb => by rw [← hX]; exact bytes_back (owns_below hown hb)
          clear hsz hlx hX hkk hown HF HJ
          go_wp2_with (first | (go_at_call 9; refine (unhide TK _).mono ?_; rintro e w3 ⟨p3, c3, rfl, hb3⟩; have kc3 := unhide KC w3 hb3; replace hb := step0 hb hb3; clear hb3 TK kc) | (go_at_call 12; refine (token_any _ _ _ _ _).mono ?_; rintro e wt ⟨rfl, hbt⟩; replace hb := step0 hb hbt; clear hbt) | (go_at_call 13; go_fit (unhide J1 _ hb); rintro e w5 ⟨rfl, hb5⟩; replace hb := step1 hb hb5; clear hb5) | (go_at_call 11; refine (unhide RN _ hb).mono ?_; rintro e wl ⟨rfl, hbl⟩))
          go_ret
          exact ⟨rfl, step0 hb hbl⟩
        · have hlx : (lex X).2 = some (32, 2) ∧ join [(0, 1, X, 0)] = .inl 1 := by
            rw [← hX]
            obtain rfl : k = 33 := by omega
            exact long_name
          have TK := hide (fun W => Tokens_no ⟨X.toArray⟩ 32 2 W hsz hlx.1)
          have HJ : Hid (joinAns (join [(0, 1, X, 0)]) = .tuple #[.string ⟨#[]⟩, .int .i64 1]) := by show _ = _; rw [hlx.2]; rfl
          have HF : Hid (Fits [(0, 1, X, 0)]) := by
            intro t ht
            rw [List.mem_singleton.1 ht]
            exact ⟨by show X.length ≤ _; omega, by show (-9223372036854775808 : Int) ≤ 0; omega, by show (0 : Int) ≤ _; omega⟩
          have J1 := hide (fun W (hb : Below w.heap.size w W) => Join_b (w0 := w) _ [(0, 1, X, 0)] _ _ (TokRow.of_new W [(0, 1, X, 0)] 1 _ rfl) (by simp) (unhide HF) (hb.alloc hb.size _) (unhide HT) h5 (unhide HJ))
          have hd : 0 < d := by omega
          have KC : Hid (∀ W, Below wr.heap.size wr W → (convert 23 9 (.slice (some ⟨w.heap.size, 0, none⟩) k k)).run Tryd.prog W = .ok (.string ⟨X.toArray⟩) W) := fun W hb => by rw [← hX]; exact bytes_back (owns_below hown hb)
          clear hsz hlx hX hkk hown HF HJ
          go_wp2_with (first | (go_at_call 9; refine (unhide TK _).mono ?_; rintro e w3 ⟨b, rfl, hr, hb3⟩; have kc3 := unhide KC w3 hb3; replace hb := step0 hb hb3; clear hb3 TK kc) | (go_at_call 12; refine (token_any _ _ _ _ _).mono ?_; rintro e wt ⟨rfl, hbt⟩; replace hr := hr.below hbt hr.lt; replace hb := step0 hb hbt; clear hbt) | (go_at_call 13; go_fit (unhide J1 _ hb); rintro e w5 ⟨rfl, hb5⟩; replace hr := (hr.below ((Below.refl _ _).alloc (Nat.le_refl _) _) hr.lt).below hb5 (by have := hr.lt; simp; omega); replace hb := step1 hb hb5; clear hb5) | (go_at_call 10; refine (unhide RF b 32 2 _ (.inl rfl) (by omega) hr hb).mono ?_; rintro e w4 ⟨rfl, hb4⟩; replace hb := step0 hb hb4; clear hb4 hr) | (go_at_call 11; refine (unhide RN _ hb).mono ?_; rintro e wl ⟨rfl, hbl⟩))
          go_ret
          exact ⟨rfl, step0 hb hbl⟩
end Go.Proofs.YtkahhkeohmljaabDoor
