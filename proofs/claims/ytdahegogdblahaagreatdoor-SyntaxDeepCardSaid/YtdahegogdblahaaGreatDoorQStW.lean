/-
  writeBlock, writeSimple of package syntax, walked.
-/
import Derived.Test.YtdahegogdblahaaGreatDoorQStG
namespace Go.Proofs.YtdahegogdblahaaGreatDoor
open Go Go.RowKit Lx

theorem sBox.cells {W : World} {x : Nat} {A K : Int} {S : ByteArray} {pt px pb pe : Option Addr} {t n b e ct cx cb ce : Nat} (h : W.heap[x]? = some (sBox A K S pt px pb pe t n b e ct cx cb ce)) :
    W.cell? ⟨x, 0, none⟩ = some (.int .i64 A) ∧ W.cell? ⟨x, 1, none⟩ = some (.int .i64 K) ∧ W.cell? ⟨x, 2, none⟩ = some (.string S) ∧ W.cell? ⟨x, 3, none⟩ = some (.slice pt t ct) ∧ W.cell? ⟨x, 4, none⟩ = some (.slice px n cx) ∧ W.cell? ⟨x, 5, none⟩ = some (.slice pb b cb) ∧ W.cell? ⟨x, 6, none⟩ = some (.slice pe e ce) :=
  ⟨by rw [Lib.cell_of_heap h]; rfl, by rw [Lib.cell_of_heap h]; rfl, by rw [Lib.cell_of_heap h]; rfl, by rw [Lib.cell_of_heap h]; rfl, by rw [Lib.cell_of_heap h]; rfl, by rw [Lib.cell_of_heap h]; rfl, by rw [Lib.cell_of_heap h]; rfl⟩
abbrev swBox (b : Nat) : Obj := .cells #[.pointer (some ⟨b, 0, none⟩)] 118
set_option maxHeartbeats 4000000 in
set_option maxRecDepth 100000 in
theorem block_any (w0 : World) (b : Nat) (T : TypeId) (p : Option Addr) (n c : Nat) (tk : List Tok) (hP : Puts w0 b T (fun _ => True) 39 #[.pointer (some ⟨b, 0, none⟩), .slice p n c] tk) :
    Puts w0 b T (fun _ => True) 93 #[.pointer (some ⟨b, 0, none⟩), .slice p n c] (tS [123] :: (tk ++ [tS [125]])) := by
  intro ts w hw hts hb0 _
  obtain ⟨ok0, hS⟩ := boxes hw hts hb0 118 #[.slice p n c] 22 (by decide) (by decide)
  have IN : Puts w0 b T (fun V => V.heap[w.heap.size]? = some (swBox b) ∧ V.heap[w.heap.size + 1]? = some (.cells #[.slice p n c] 22)) 118 #[.pointer (some ⟨w.heap.size, 0, none⟩), .pointer (some ⟨w.heap.size + 1, 0, none⟩)] tk := by
    intro ts w1 hw1 hts1 hb1 hi
    have d0 : w1.cell? ⟨w.heap.size, 0, none⟩ = some (.pointer (some ⟨b, 0, none⟩)) := by rw [Lib.cell_of_heap hi.1]; rfl
    have d1 : w1.cell? ⟨w.heap.size + 1, 0, none⟩ = some (.slice p n c) := by rw [Lib.cell_of_heap hi.2]; rfl
    have WT := hide (hP ts w1 hw1 hts1 hb1 trivial)
    clear hi ok0 hS hP hw hb0 hw1 hb1
    go_enter Tryz.func118, Tryz.ntmps118
    go_wp2_with (go_at_call 39; refine (unhide WT).mono ?_; clear WT; rintro x wb ⟨rfl, HW_b, hB_b, hS_b⟩)
    exact bodyPost_end (v := .tuple #[]) (by simp [results, Tryz.results118, go_sem]) rfl ⟨rfl, HW_b, hB_b, hS_b⟩
  have WD := hide ((between_any w0 b T _ hS _ (fun _ _ => by kernel_rfl) _ _ [123] [125] tk IN).ok (fun _ h => h) hS ok0)
  clear ok0 hS hw hb0 hts hP IN
  go_enter Tryz.func93, Tryz.ntmps93
  go_wp2_with (go_at_call 51; refine (unhide WD).mono ?_; clear WD; rintro x wa ⟨rfl, ok⟩)
  exact bodyPost_end (v := .tuple #[]) (by simp [results, Tryz.results93, go_sem]) rfl (ok.fin rfl)
set_option maxHeartbeats 2000000 in
set_option maxRecDepth 100000 in
theorem simple_7 (w0 : World) (b : Nat) (T : TypeId) (A : Int) (S : Bs) (pt px pb pe : Option Addr) (t nb ne ct cx cb ce : Nat) (K0 : Int) (tk : List Tok) (hP : ExPart w0 b T px 0 K0 tk) :
    Puts w0 b T (fun _ => True) 94 #[.pointer (some ⟨b, 0, none⟩), .agg #[.int .i64 A, .int .i64 7, .string ⟨S.toArray⟩, .slice pt t ct, .slice px 1 cx, .slice pb nb cb, .slice pe ne ce]] (tk ++ [tS [59]]) := by
  intro ts w hw hts hb0 _
  obtain ⟨g, o, A0, N0, S0, p1, p2, p3, n1, n2, n3, c1, c2, c3, rfl, wt0, ff⟩ := hP.first
  obtain ⟨ok0, hS⟩ := box1 hw hts hb0 #[.int .i64 A, .int .i64 7, .string ⟨S.toArray⟩, .slice pt t ct, .slice (some ⟨g, o, none⟩) 1 cx, .slice pb nb cb, .slice pe ne ce] 45 (by decide)
  have PX := hide wt0
  have P9 := hide (sign_puts w0 b T [59])
  have HS := hide hS
  have FF := hide ff
  obtain ⟨y0, y1, y2, y3, y4, y5, y6⟩ := ff _ ok0.2.2.1
  have OK0 := hide ok0
  clear ok0 hS hw hb0 hts wt0 ff hP
  go_enter Tryz.func94, Tryz.ntmps94
  go_wp2_with fail
  go_region_with (go_at_call 41; refine ((unhide PX).ok (fun _ _ => trivial) (unhide HS) ((unhide OK0).drew (unhide HS))).mono ?_; clear PX; rintro x wx ⟨rfl, ok⟩; have OKX := hide ok; clear ok)
  all_goals
    go_wp2_with (go_at_call 50; refine ((unhide P9).ok (fun _ _ => trivial) (unhide HS) (unhide OKX)).mono ?_; clear P9; rintro x wz ⟨rfl, ok⟩)
    exact bodyPost_end (v := .tuple #[]) (by simp [results, Tryz.results94, go_sem]) rfl (ok.fin (by simp only [putAll_append, putAll_cons, putAll_nil]))
set_option maxHeartbeats 2000000 in
set_option maxRecDepth 100000 in
theorem simple_3 (w0 : World) (b : Nat) (T : TypeId) (A : Int) (S : Bs) (pt px pb pe : Option Addr) (t nb ne ct cx cb ce : Nat) (K0 : Int) (tk : List Tok) (hP : ExPart w0 b T px 0 K0 tk) :
    Puts w0 b T (fun _ => True) 94 #[.pointer (some ⟨b, 0, none⟩), .agg #[.int .i64 A, .int .i64 3, .string ⟨S.toArray⟩, .slice pt t ct, .slice px 1 cx, .slice pb nb cb, .slice pe ne ce]] (tW [112, 114, 105, 110, 116] :: (tk ++ [tS [59]])) := by
  intro ts w hw hts hb0 _
  obtain ⟨g, o, A0, N0, S0, p1, p2, p3, n1, n2, n3, c1, c2, c3, rfl, wt0, ff⟩ := hP.first
  obtain ⟨ok0, hS⟩ := box1 hw hts hb0 #[.int .i64 A, .int .i64 3, .string ⟨S.toArray⟩, .slice pt t ct, .slice (some ⟨g, o, none⟩) 1 cx, .slice pb nb cb, .slice pe ne ce] 45 (by decide)
  have PX := hide wt0
  have P9 := hide (sign_puts w0 b T [59])
  have HS := hide hS
  have FF := hide ff
  obtain ⟨y0, y1, y2, y3, y4, y5, y6⟩ := ff _ ok0.2.2.1
  have OK0 := hide ok0
  have P1 := hide (word_puts w0 b T [112, 114, 105, 110, 116])
  clear ok0 hS hw hb0 hts wt0 ff hP
  go_enter Tryz.func94, Tryz.ntmps94
  go_wp2_with (go_at_call 48; refine ((unhide P1).ok (fun _ _ => trivial) (unhide HS) (unhide OK0)).mono ?_; clear P1; rintro x wa ⟨rfl, ok⟩; have m := sBox.cells ok.2.2.2.2.2; obtain ⟨m0, m1, m2, m3, m4, m5, m6⟩ := m; obtain ⟨y0, y1, y2, y3, y4, y5, y6⟩ := unhide FF _ ok.2.2.1; have OK1 := hide ok; clear ok)
  go_region_with (go_at_call 41; refine ((unhide PX).ok (fun _ _ => trivial) (unhide HS) ((unhide OK1).drew (unhide HS))).mono ?_; clear PX; rintro x wx ⟨rfl, ok⟩; have OKX := hide ok; clear ok)
  all_goals
    go_wp2_with (go_at_call 50; refine ((unhide P9).ok (fun _ _ => trivial) (unhide HS) (unhide OKX)).mono ?_; clear P9; rintro x wz ⟨rfl, ok⟩)
    exact bodyPost_end (v := .tuple #[]) (by simp [results, Tryz.results94, go_sem]) rfl (ok.fin (by simp only [putAll_append, putAll_cons, putAll_nil]))
set_option maxHeartbeats 2000000 in
set_option maxRecDepth 100000 in
theorem simple_6 (w0 : World) (b : Nat) (T : TypeId) (A : Int) (S : Bs) (pt px pb pe : Option Addr) (t nb ne ct cx cb ce : Nat) (K0 : Int) (tk : List Tok) (hP : ExPart w0 b T px 0 K0 tk) :
    Puts w0 b T (fun _ => True) 94 #[.pointer (some ⟨b, 0, none⟩), .agg #[.int .i64 A, .int .i64 6, .string ⟨S.toArray⟩, .slice pt t ct, .slice px 1 cx, .slice pb nb cb, .slice pe ne ce]] (tW [114, 101, 116, 117, 114, 110] :: (tk ++ [tS [59]])) := by
  intro ts w hw hts hb0 _
  obtain ⟨g, o, A0, N0, S0, p1, p2, p3, n1, n2, n3, c1, c2, c3, rfl, wt0, ff⟩ := hP.first
  obtain ⟨ok0, hS⟩ := box1 hw hts hb0 #[.int .i64 A, .int .i64 6, .string ⟨S.toArray⟩, .slice pt t ct, .slice (some ⟨g, o, none⟩) 1 cx, .slice pb nb cb, .slice pe ne ce] 45 (by decide)
  have PX := hide wt0
  have P9 := hide (sign_puts w0 b T [59])
  have HS := hide hS
  have FF := hide ff
  obtain ⟨y0, y1, y2, y3, y4, y5, y6⟩ := ff _ ok0.2.2.1
  have OK0 := hide ok0
  have P1 := hide (word_puts w0 b T [114, 101, 116, 117, 114, 110])
  clear ok0 hS hw hb0 hts wt0 ff hP
  go_enter Tryz.func94, Tryz.ntmps94
  go_wp2_with (go_at_call 48; refine ((unhide P1).ok (fun _ _ => trivial) (unhide HS) (unhide OK0)).mono ?_; clear P1; rintro x wa ⟨rfl, ok⟩; have m := sBox.cells ok.2.2.2.2.2; obtain ⟨m0, m1, m2, m3, m4, m5, m6⟩ := m; obtain ⟨y0, y1, y2, y3, y4, y5, y6⟩ := unhide FF _ ok.2.2.1; have OK1 := hide ok; clear ok)
  go_region_with (go_at_call 41; refine ((unhide PX).ok (fun _ _ => trivial) (unhide HS) ((unhide OK1).drew (unhide HS))).mono ?_; clear PX; rintro x wx ⟨rfl, ok⟩; have OKX := hide ok; clear ok)
  all_goals
    go_wp2_with (go_at_call 50; refine ((unhide P9).ok (fun _ _ => trivial) (unhide HS) (unhide OKX)).mono ?_; clear P9; rintro x wz ⟨rfl, ok⟩)
    exact bodyPost_end (v := .tuple #[]) (by simp [results, Tryz.results94, go_sem]) rfl (ok.fin (by simp only [putAll_append, putAll_cons, putAll_nil]))
set_option maxHeartbeats 2000000 in
set_option maxRecDepth 100000 in
theorem simple_2 (w0 : World) (b : Nat) (T : TypeId) (A : Int) (S : Bs) (pt px pb pe : Option Addr) (t nb ne ct cx cb ce : Nat) (K0 : Int) (tk : List Tok) (hP : ExPart w0 b T px 0 K0 tk) :
    Puts w0 b T (fun _ => True) 94 #[.pointer (some ⟨b, 0, none⟩), .agg #[.int .i64 A, .int .i64 2, .string ⟨S.toArray⟩, .slice pt t ct, .slice px 1 cx, .slice pb nb cb, .slice pe ne ce]] (tN S :: tS [61] :: (tk ++ [tS [59]])) := by
  intro ts w hw hts hb0 _
  obtain ⟨g, o, A0, N0, S0, p1, p2, p3, n1, n2, n3, c1, c2, c3, rfl, wt0, ff⟩ := hP.first
  obtain ⟨ok0, hS⟩ := box1 hw hts hb0 #[.int .i64 A, .int .i64 2, .string ⟨S.toArray⟩, .slice pt t ct, .slice (some ⟨g, o, none⟩) 1 cx, .slice pb nb cb, .slice pe ne ce] 45 (by decide)
  have PX := hide wt0
  have P9 := hide (sign_puts w0 b T [59])
  have HS := hide hS
  have FF := hide ff
  obtain ⟨y0, y1, y2, y3, y4, y5, y6⟩ := ff _ ok0.2.2.1
  have OK0 := hide ok0
  have P1 := hide (name_puts w0 b T S)
  have P2 := hide (sign_puts w0 b T [61])
  clear ok0 hS hw hb0 hts wt0 ff hP
  go_enter Tryz.func94, Tryz.ntmps94
  go_wp2_with fail
  go_region_with (go_at_call 80; refine ((unhide P1).ok (fun _ _ => trivial) (unhide HS) ((unhide OK0).drew (unhide HS))).mono ?_; clear P1; rintro x wa ⟨rfl, ok⟩; have OK1 := hide ok; clear ok)
  go_wp2_with (go_at_call 50; refine ((unhide P2).ok (fun _ _ => trivial) (unhide HS) (unhide OK1)).mono ?_; clear P2; rintro x wb ⟨rfl, ok⟩; have m := sBox.cells ok.2.2.2.2.2; obtain ⟨m0, m1, m2, m3, m4, m5, m6⟩ := m; obtain ⟨y0, y1, y2, y3, y4, y5, y6⟩ := unhide FF _ ok.2.2.1; have OK2 := hide ok; clear ok)
  go_region_with (go_at_call 41; refine ((unhide PX).ok (fun _ _ => trivial) (unhide HS) ((unhide OK2).drew (unhide HS))).mono ?_; clear PX; rintro x wx ⟨rfl, ok⟩; have OKX := hide ok; clear ok)
  all_goals
    go_wp2_with (go_at_call 50; refine ((unhide P9).ok (fun _ _ => trivial) (unhide HS) (unhide OKX)).mono ?_; clear P9; rintro x wz ⟨rfl, ok⟩)
    exact bodyPost_end (v := .tuple #[]) (by simp [results, Tryz.results94, go_sem]) rfl (ok.fin (by simp only [putAll_append, putAll_cons, putAll_nil]))
set_option maxHeartbeats 2000000 in
set_option maxRecDepth 100000 in
theorem simple_1 (w0 : World) (b : Nat) (T : TypeId) (A : Int) (S : Bs) (pt px pb pe : Option Addr) (t nb ne ct cx cb ce : Nat) (K0 : Int) (tk : List Tok) (hP : ExPart w0 b T px 0 K0 tk) (tks : Nat → List Tok) (ht : t ≤ 1000000) (hT : ∀ k, k < t → TyPart w0 b T 30 pt k (tks k)) :
    Puts w0 b T (fun _ => True) 94 #[.pointer (some ⟨b, 0, none⟩), .agg #[.int .i64 A, .int .i64 1, .string ⟨S.toArray⟩, .slice pt t ct, .slice px 1 cx, .slice pb nb cb, .slice pe ne ce]] (tW [108, 101, 116] :: tN S :: ((List.range t).flatMap tks ++ tS [61] :: (tk ++ [tS [59]]))) := by
  intro ts w hw hts hb0 _
  obtain ⟨g, o, A0, N0, S0, p1, p2, p3, n1, n2, n3, c1, c2, c3, rfl, wt0, ff⟩ := hP.first
  obtain ⟨ok0, hS⟩ := box1 hw hts hb0 #[.int .i64 A, .int .i64 1, .string ⟨S.toArray⟩, .slice pt t ct, .slice (some ⟨g, o, none⟩) 1 cx, .slice pb nb cb, .slice pe ne ce] 45 (by decide)
  have PX := hide wt0
  have P9 := hide (sign_puts w0 b T [59])
  have HS := hide hS
  have FF := hide ff
  obtain ⟨y0, y1, y2, y3, y4, y5, y6⟩ := ff _ ok0.2.2.1
  have OK0 := hide ok0
  have P1 := hide (word_puts w0 b T [108, 101, 116])
  have P2 := hide (name_puts w0 b T S)
  have P3 := hide (sign_puts w0 b T [61])
  have HTP := hide hT
  clear hT
  clear ok0 hS hw hb0 hts wt0 ff hP
  go_enter Tryz.func94, Tryz.ntmps94
  go_wp2_with (go_at_call 48; refine ((unhide P1).ok (fun _ _ => trivial) (unhide HS) (unhide OK0)).mono ?_; clear P1; rintro x wa ⟨rfl, ok⟩; have m := sBox.cells ok.2.2.2.2.2; obtain ⟨m0, m1, m2, m3, m4, m5, m6⟩ := m; obtain ⟨y0, y1, y2, y3, y4, y5, y6⟩ := unhide FF _ ok.2.2.1; have OK1 := hide ok; clear ok)
  go_region_with (go_at_call 80; refine ((unhide P2).ok (fun _ _ => trivial) (unhide HS) ((unhide OK1).drew (unhide HS))).mono ?_; clear P2; rintro x wb ⟨rfl, ok⟩; have m := sBox.cells ok.2.2.2.2.2; obtain ⟨m0, m1, m2, m3, m4, m5, m6⟩ := m; obtain ⟨y0, y1, y2, y3, y4, y5, y6⟩ := unhide FF _ ok.2.2.1; have OK2 := hide ok; clear ok)
  clear y0 y1 y2 y3 y4 y5 y6
  go_wp2
  obtain ⟨ts1, hts1⟩ : ∃ ts1, ts1 = putAll (putAll ts [tW [108, 101, 116]]) [tN S] := ⟨_, rfl⟩
  rw [← hts1] at OK2
  have HTS := hide hts1
  clear hts1 OK1 OK0
  go_loopw [27] (fun i wr => ∃ k : Nat, i = .int .i64 k ∧ k ≤ t ∧ Hid (Ok w0 b T (fun V => V.heap[w.heap.size]? = some (sBox A 1 ⟨S.toArray⟩ pt (some ⟨g, o, none⟩) pb pe t 1 nb ne ct cx cb ce)) w (putAll ts1 ((List.range k).flatMap tks)) wr)) (fun i _ => t - (intOf i).toNat)
  case atStart => exact ⟨0, rfl, by omega, unhide OK2⟩
  case round =>
    obtain ⟨k, rfl, hk, HO⟩ := hrel
    by_cases hlt : k < t
    · have hlt' : (k : Int) < (t : Int) := by omega
      obtain ⟨gt, ot, Kt, St, q1, q2, q3, k1, k2, k3, d1, d2, d3, rfl, a0, a1, a2, a3, a4, wtT⟩ := unhide HTP k hlt
      have hb1 := (unhide HO).2.2.1
      have z0 := (hb1.cell (p := ⟨gt, _, none⟩) (cell_at a0)).trans a0
      have z1 := (hb1.cell (p := ⟨gt, _, none⟩) (cell_at a1)).trans a1
      have z2 := (hb1.cell (p := ⟨gt, _, none⟩) (cell_at a2)).trans a2
      have z3 := (hb1.cell (p := ⟨gt, _, none⟩) (cell_at a3)).trans a3
      have z4 := (hb1.cell (p := ⟨gt, _, none⟩) (cell_at a4)).trans a4
      obtain ⟨okb, stb⟩ := (unhide HO).box (unhide HS) #[.int .i64 Kt, .string St, .slice q1 k1 d1, .slice q2 k2 d2, .slice q3 k3 d3] 27 (by decide)
      have WT := hide (wtT.ok (fun _ _ => trivial) stb (okb.drew stb))
      have HK : Hid (putAll ts1 ((List.range (k + 1)).flatMap tks) = putAll (putAll ts1 ((List.range k).flatMap tks)) (tks k)) := by
        show _ = _
        rw [List.range_succ, List.flatMap_append, putAll_append]; simp
      clear a0 a1 a2 a3 a4 wtT hb1 HTP okb stb
      go_wp2_with fail
      go_region_with (go_at_call 30; refine (unhide WT).mono ?_; clear WT; rintro x wb ⟨rfl, ok⟩)
      all_goals
        go_wp2
        go_roundw
        case rel => exact ⟨k + 1, by go_num, by omega, (by rw [unhide HK]; exact ⟨ok.1, ok.2.1, ok.2.2.1, ok.2.2.2.1, ok.2.2.2.2.1, ok.2.2.2.2.2.1⟩)⟩
        case measure => simp [intOf]; omega
    · obtain rfl : k = t := by omega
      have hlt' : ¬ (k : Int) < (k : Int) := by omega
      go_wp2_with (go_at_call 50; refine ((unhide P3).ok (fun _ _ => trivial) (unhide HS) (unhide HO)).mono ?_; clear P3; rintro x wb ⟨rfl, ok⟩; have m := sBox.cells ok.2.2.2.2.2; obtain ⟨m0, m1, m2, m3, m4, m5, m6⟩ := m; obtain ⟨y0, y1, y2, y3, y4, y5, y6⟩ := unhide FF _ ok.2.2.1; have OK3 := hide ok; clear ok)
      go_region_with (go_at_call 41; refine ((unhide PX).ok (fun _ _ => trivial) (unhide HS) ((unhide OK3).drew (unhide HS))).mono ?_; clear PX; rintro x wx ⟨rfl, ok⟩; have OKX := hide ok; clear ok)
      all_goals
        go_wp2_with (go_at_call 50; refine ((unhide P9).ok (fun _ _ => trivial) (unhide HS) (unhide OKX)).mono ?_; clear P9; rintro x wz ⟨rfl, ok⟩)
        exact bodyPost_end (v := .tuple #[]) (by simp [results, Tryz.results94, go_sem]) rfl (ok.fin (by rw [unhide HTS]; simp only [putAll_append, putAll_cons, putAll_nil]))
end Go.Proofs.YtdahegogdblahaaGreatDoor
/-
  writeStmt, writeStmts and Stmts of package syntax, walked: every statement.
-/
namespace Go.Proofs.YtdahegogdblahaaGreatDoor
open Go Go.RowKit Lx

set_option maxHeartbeats 2000000 in
set_option maxRecDepth 100000 in
theorem stmt_simple (w0 : World) (b : Nat) (T : TypeId) (A K : Int) (S : Bs) (pt px pb pe : Option Addr) (t n nb ne ct cx cb ce : Nat) (tk : List Tok) (h4 : K ≠ 4) (h5 : K ≠ 5) (hP : Puts w0 b T (fun _ => True) 94 #[.pointer (some ⟨b, 0, none⟩), .agg #[.int .i64 A, .int .i64 K, .string ⟨S.toArray⟩, .slice pt t ct, .slice px n cx, .slice pb nb cb, .slice pe ne ce]] tk) :
    Puts w0 b T (fun _ => True) 67 #[.pointer (some ⟨b, 0, none⟩), .agg #[.int .i64 A, .int .i64 K, .string ⟨S.toArray⟩, .slice pt t ct, .slice px n cx, .slice pb nb cb, .slice pe ne ce]] tk := by
  intro ts w hw hts hb0 _
  obtain ⟨ok0, hS⟩ := box1 hw hts hb0 #[.int .i64 A, .int .i64 K, .string ⟨S.toArray⟩, .slice pt t ct, .slice px n cx, .slice pb nb cb, .slice pe ne ce] 45 (by decide)
  have h4' : (K == 4) = false := beq_eq_false_iff_ne.2 h4
  have h5' : (K == 5) = false := beq_eq_false_iff_ne.2 h5
  have P0 := hide (hP.ok (fun _ _ => trivial) hS ok0)
  clear ok0 hS hw hb0 hts hP
  go_enter Tryz.func67, Tryz.ntmps67
  go_wp2_with (go_at_call 94; refine (unhide P0).mono ?_; clear P0; rintro x wa ⟨rfl, ok⟩)
  exact bodyPost_end (v := .tuple #[]) (by simp [results, Tryz.results67, go_sem]) rfl (ok.fin rfl)
set_option maxHeartbeats 2000000 in
set_option maxRecDepth 100000 in
theorem stmt_while (w0 : World) (b : Nat) (T : TypeId) (A : Int) (S : Bs) (pt px pb pe : Option Addr) (t nb ne ct cx cb ce : Nat) (K0 : Int) (tk tb : List Tok) (hP : ExPart w0 b T px 0 K0 tk) (hB : Puts w0 b T (fun _ => True) 39 #[.pointer (some ⟨b, 0, none⟩), .slice pb nb cb] tb) :
    Puts w0 b T (fun _ => True) 67 #[.pointer (some ⟨b, 0, none⟩), .agg #[.int .i64 A, .int .i64 5, .string ⟨S.toArray⟩, .slice pt t ct, .slice px 1 cx, .slice pb nb cb, .slice pe ne ce]] (tW [119, 104, 105, 108, 101] :: (tk ++ tS [123] :: (tb ++ [tS [125]]))) := by
  intro ts w hw hts hb0 _
  obtain ⟨g, o, A0, N0, S0, p1, p2, p3, n1, n2, n3, c1, c2, c3, rfl, wt0, ff⟩ := hP.first
  obtain ⟨ok0, hS⟩ := box1 hw hts hb0 #[.int .i64 A, .int .i64 5, .string ⟨S.toArray⟩, .slice pt t ct, .slice (some ⟨g, o, none⟩) 1 cx, .slice pb nb cb, .slice pe ne ce] 45 (by decide)
  have PX := hide wt0
  have PB := hide (block_any w0 b T _ _ _ _ hB)
  have HS := hide hS
  have FF := hide ff
  have OK0 := hide ok0
  have P1 := hide (word_puts w0 b T [119, 104, 105, 108, 101])
  clear ok0 hS hw hb0 hts wt0 ff hP hB
  go_enter Tryz.func67, Tryz.ntmps67
  go_wp2_with (go_at_call 48; refine ((unhide P1).ok (fun _ _ => trivial) (unhide HS) (unhide OK0)).mono ?_; clear P1; rintro x wa ⟨rfl, ok⟩; have m := sBox.cells ok.2.2.2.2.2; obtain ⟨m0, m1, m2, m3, m4, m5, m6⟩ := m; obtain ⟨y0, y1, y2, y3, y4, y5, y6⟩ := unhide FF _ ok.2.2.1; have OK1 := hide ok; clear ok)
  go_region_with (go_at_call 41; refine ((unhide PX).ok (fun _ _ => trivial) (unhide HS) ((unhide OK1).drew (unhide HS))).mono ?_; clear PX; rintro x wx ⟨rfl, ok⟩; have m := sBox.cells ok.2.2.2.2.2; obtain ⟨m0, m1, m2, m3, m4, m5, m6⟩ := m; have OKX := hide ok; clear ok)
  all_goals
    go_wp2_with (go_at_call 93; refine ((unhide PB).ok (fun _ _ => trivial) (unhide HS) (unhide OKX)).mono ?_; clear PB; rintro x wy ⟨rfl, ok⟩; have m := sBox.cells ok.2.2.2.2.2; obtain ⟨m0, m1, m2, m3, m4, m5, m6⟩ := m; have OKB := hide ok; clear ok)
    exact bodyPost_end (v := .tuple #[]) (by simp [results, Tryz.results67, go_sem]) rfl ((unhide OKB).fin (by simp only [putAll_append, putAll_cons, putAll_nil]))
set_option maxHeartbeats 2000000 in
set_option maxRecDepth 100000 in
theorem stmt_if (w0 : World) (b : Nat) (T : TypeId) (A : Int) (S : Bs) (pt px pb pe : Option Addr) (t nb ne ct cx cb ce : Nat) (K0 : Int) (tk tb : List Tok) (hP : ExPart w0 b T px 0 K0 tk) (hB : Puts w0 b T (fun _ => True) 39 #[.pointer (some ⟨b, 0, none⟩), .slice pb nb cb] tb) (hne : ne = 0) :
    Puts w0 b T (fun _ => True) 67 #[.pointer (some ⟨b, 0, none⟩), .agg #[.int .i64 A, .int .i64 4, .string ⟨S.toArray⟩, .slice pt t ct, .slice px 1 cx, .slice pb nb cb, .slice pe ne ce]] (tW [105, 102] :: (tk ++ tS [123] :: (tb ++ [tS [125]]))) := by
  intro ts w hw hts hb0 _
  obtain ⟨g, o, A0, N0, S0, p1, p2, p3, n1, n2, n3, c1, c2, c3, rfl, wt0, ff⟩ := hP.first
  obtain ⟨ok0, hS⟩ := box1 hw hts hb0 #[.int .i64 A, .int .i64 4, .string ⟨S.toArray⟩, .slice pt t ct, .slice (some ⟨g, o, none⟩) 1 cx, .slice pb nb cb, .slice pe ne ce] 45 (by decide)
  have PX := hide wt0
  have PB := hide (block_any w0 b T _ _ _ _ hB)
  have HS := hide hS
  have FF := hide ff
  have OK0 := hide ok0
  subst hne
  have P1 := hide (word_puts w0 b T [105, 102])
  clear ok0 hS hw hb0 hts wt0 ff hP hB
  go_enter Tryz.func67, Tryz.ntmps67
  go_wp2_with (go_at_call 48; refine ((unhide P1).ok (fun _ _ => trivial) (unhide HS) (unhide OK0)).mono ?_; clear P1; rintro x wa ⟨rfl, ok⟩; have m := sBox.cells ok.2.2.2.2.2; obtain ⟨m0, m1, m2, m3, m4, m5, m6⟩ := m; obtain ⟨y0, y1, y2, y3, y4, y5, y6⟩ := unhide FF _ ok.2.2.1; have OK1 := hide ok; clear ok)
  go_region_with (go_at_call 41; refine ((unhide PX).ok (fun _ _ => trivial) (unhide HS) ((unhide OK1).drew (unhide HS))).mono ?_; clear PX; rintro x wx ⟨rfl, ok⟩; have m := sBox.cells ok.2.2.2.2.2; obtain ⟨m0, m1, m2, m3, m4, m5, m6⟩ := m; have OKX := hide ok; clear ok)
  all_goals
    go_wp2_with (go_at_call 93; refine ((unhide PB).ok (fun _ _ => trivial) (unhide HS) (unhide OKX)).mono ?_; clear PB; rintro x wy ⟨rfl, ok⟩; have m := sBox.cells ok.2.2.2.2.2; obtain ⟨m0, m1, m2, m3, m4, m5, m6⟩ := m; have OKB := hide ok; clear ok)
    exact bodyPost_end (v := .tuple #[]) (by simp [results, Tryz.results67, go_sem]) rfl ((unhide OKB).fin (by simp only [putAll_append, putAll_cons, putAll_nil]))
set_option maxHeartbeats 2000000 in
set_option maxRecDepth 100000 in
theorem stmt_else (w0 : World) (b : Nat) (T : TypeId) (A : Int) (S : Bs) (pt px pb pe : Option Addr) (t nb ne ct cx cb ce : Nat) (K0 : Int) (tk tb te : List Tok) (hP : ExPart w0 b T px 0 K0 tk) (hB : Puts w0 b T (fun _ => True) 39 #[.pointer (some ⟨b, 0, none⟩), .slice pb nb cb] tb) (hne : 0 < ne) (hE : Puts w0 b T (fun _ => True) 39 #[.pointer (some ⟨b, 0, none⟩), .slice pe ne ce] te) :
    Puts w0 b T (fun _ => True) 67 #[.pointer (some ⟨b, 0, none⟩), .agg #[.int .i64 A, .int .i64 4, .string ⟨S.toArray⟩, .slice pt t ct, .slice px 1 cx, .slice pb nb cb, .slice pe ne ce]] (tW [105, 102] :: (tk ++ tS [123] :: (tb ++ tS [125] :: tW [101, 108, 115, 101] :: tS [123] :: (te ++ [tS [125]])))) := by
  intro ts w hw hts hb0 _
  obtain ⟨g, o, A0, N0, S0, p1, p2, p3, n1, n2, n3, c1, c2, c3, rfl, wt0, ff⟩ := hP.first
  obtain ⟨ok0, hS⟩ := box1 hw hts hb0 #[.int .i64 A, .int .i64 4, .string ⟨S.toArray⟩, .slice pt t ct, .slice (some ⟨g, o, none⟩) 1 cx, .slice pb nb cb, .slice pe ne ce] 45 (by decide)
  have PX := hide wt0
  have PB := hide (block_any w0 b T _ _ _ _ hB)
  have HS := hide hS
  have FF := hide ff
  have OK0 := hide ok0
  have hne' : (0 : Int) < (ne : Int) := by omega
  have P1 := hide (word_puts w0 b T [105, 102])
  have P2 := hide (word_puts w0 b T [101, 108, 115, 101])
  have PE := hide (block_any w0 b T _ _ _ _ hE)
  clear ok0 hS hw hb0 hts wt0 ff hP hB
  go_enter Tryz.func67, Tryz.ntmps67
  go_wp2_with (go_at_call 48; refine ((unhide P1).ok (fun _ _ => trivial) (unhide HS) (unhide OK0)).mono ?_; clear P1; rintro x wa ⟨rfl, ok⟩; have m := sBox.cells ok.2.2.2.2.2; obtain ⟨m0, m1, m2, m3, m4, m5, m6⟩ := m; obtain ⟨y0, y1, y2, y3, y4, y5, y6⟩ := unhide FF _ ok.2.2.1; have OK1 := hide ok; clear ok)
  go_region_with (go_at_call 41; refine ((unhide PX).ok (fun _ _ => trivial) (unhide HS) ((unhide OK1).drew (unhide HS))).mono ?_; clear PX; rintro x wx ⟨rfl, ok⟩; have m := sBox.cells ok.2.2.2.2.2; obtain ⟨m0, m1, m2, m3, m4, m5, m6⟩ := m; have OKX := hide ok; clear ok)
  all_goals
    go_wp2_with (first | (go_at_call 93; refine ((unhide PB).ok (fun _ _ => trivial) (unhide HS) (unhide OKX)).mono ?_; clear PB; rintro x wy ⟨rfl, ok⟩; have m := sBox.cells ok.2.2.2.2.2; obtain ⟨m0, m1, m2, m3, m4, m5, m6⟩ := m; have OKB := hide ok; clear ok) | (go_at_call 48; refine ((unhide P2).ok (fun _ _ => trivial) (unhide HS) (unhide OKB)).mono ?_; clear P2; rintro x wa ⟨rfl, ok⟩; have m := sBox.cells ok.2.2.2.2.2; obtain ⟨m0, m1, m2, m3, m4, m5, m6⟩ := m; have OKE := hide ok; clear ok) | (go_at_call 93; refine ((unhide PE).ok (fun _ _ => trivial) (unhide HS) (unhide OKE)).mono ?_; clear PE; rintro x wy ⟨rfl, ok⟩; have m := sBox.cells ok.2.2.2.2.2; obtain ⟨m0, m1, m2, m3, m4, m5, m6⟩ := m; have OKF := hide ok; clear ok))
    exact bodyPost_end (v := .tuple #[]) (by simp [results, Tryz.results67, go_sem]) rfl ((unhide OKF).fin (by simp only [putAll_append, putAll_cons, putAll_nil]))
/-- writeStmts at lists of one depth. -/
def SsAt (w0 : World) (D d m : Nat) : Prop := ∀ (b : Nat) (T : TypeId) (p : Option Addr) (c : Nat) (ss : List (St D d m)), StRow w0 D d m (.slice p ss.length c) ss → StFits D d m ss → (∃ room, rightSs D d m room ss = true) →
  Puts w0 b T (fun _ => True) 39 #[.pointer (some ⟨b, 0, none⟩), .slice p ss.length c] (stTks D d m ss)
theorem flat_range {α : Type} (f : α → List Tok) : ∀ (l : List α), l.flatMap f = (List.range l.length).flatMap fun i => (l[i]?.map f).getD []
  | [] => rfl
  | x :: r => by
    rw [List.flatMap_cons, flat_range f r, List.length_cons, List.range_succ_eq_map, List.flatMap_cons]
    simp [List.flatMap_map]
theorem stmt_of (w0 : World) (D d m : Nat) (H : SsAt w0 D d m) (b : Nat) (T : TypeId) (s : St D d (m + 1)) (pt px pb pe : Option Addr) (ct cx cb ce : Nat) (r1 : TyRow w0 D (.slice pt (sT s).length ct) (sT s)) (r2 : ExRow w0 D d (.slice px (sX s).length cx) (sX s)) (r2' : ExCap w0 D d (.slice px (sX s).length cx) (sX s)) (r3 : StRow w0 D d m (.slice pb (sB s).length cb) (sB s)) (r4 : StRow w0 D d m (.slice pe (sE s).length ce) (sE s))
    (hs : StFit D d m s) (hfb : StFits D d m (sB s)) (hfe : StFits D d m (sE s)) (hr : ∃ room, rightS D d m room s = true) :
    Puts w0 b T (fun _ => True) 67 #[.pointer (some ⟨b, 0, none⟩), .agg #[.int .i64 (sAt s), .int .i64 (sKind s), .string ⟨(sName s).toArray⟩, .slice pt (sT s).length ct, .slice px (sX s).length cx, .slice pb (sB s).length cb, .slice pe (sE s).length ce]] (stTk D d m s) := by
  obtain ⟨room, hr⟩ := hr
  simp only [rightS, Bool.and_eq_true] at hr
  obtain ⟨⟨⟨⟨⟨_, hsh⟩, hrt⟩, hrx⟩, hrb⟩, hre⟩ := hr
  have hx1 := shapedS_one hsh
  have hx0 : (sX s)[0]? = some ((sX s)[0]'(by omega)) := List.getElem?_eq_getElem _
  rw [hx0] at hrx
  have hX := writeExpr_parts w0 D d b T px cx (sX s) r2 r2' hs.2.2.2.1 (fun k x hx => by
    have hk : k < (sX s).length := (List.getElem?_eq_some_iff.1 hx).1
    obtain rfl : k = 0 := by omega
    rw [hx0] at hx
    obtain rfl := Option.some.inj hx
    exact ⟨_, hrx⟩) 0 (by omega)
  have hB := H b T pb cb (sB s) r3 hfb ⟨_, hrb⟩
  have hE := H b T pe ce (sE s) r4 hfe ⟨_, hre⟩
  have hT : ∀ k, k < (sT s).length → TyPart w0 b T 30 pt k (((sT s)[k]?.map (tyToks D false)).getD []) := fun k hk => by
    have h0 : (sT s)[k]? = some (sT s)[k] := by simp
    have := (writeType_both w0 D).1 b T pt ct (sT s) r1 hs.2.1 ⟨64, hrt⟩ (by simp) k _ h0
    rw [h0]
    exact this
  have hflat := flat_range (tyToks D false) (sT s)
  obtain ⟨tx, htx⟩ : ∃ tx, tx = ((sX s)[0]?.map (exTk D d)).getD [] := ⟨_, rfl⟩
  rw [stTk, ← htx]
  rw [← htx] at hX
  rw [hx1]
  unfold shapedSB shapeS at hsh
  simp only [Bool.and_eq_true] at hsh
  replace hsh := hsh.2
  generalize hK : sKind s = K at hsh ⊢
  have hne : 0 ≤ (sE s).length := Nat.zero_le _
  have hk : K = 1 ∨ K = 2 ∨ K = 3 ∨ K = 4 ∨ K = 5 ∨ K = 6 ∨ K = 7 := by
    apply Decidable.byContradiction
    intro hk
    rw [if_neg (by omega), if_neg (by omega), if_neg (by omega), if_neg (by omega), if_neg (by omega)] at hsh
    cases hsh
  rcases hk with rfl | rfl | rfl | rfl | rfl | rfl | rfl
  · have := stmt_simple w0 b T (sAt s) 1 (sName s) pt px pb pe (sT s).length 1 (sB s).length (sE s).length ct cx cb ce _ (by decide) (by decide) (simple_1 w0 b T (sAt s) (sName s) pt px pb pe _ _ _ ct cx cb ce _ tx hX (fun i => ((sT s)[i]?.map (tyToks D false)).getD []) (by have := hs.2.2.1; omega) hT)
    rw [← hflat] at this
    simpa [stT] using this
  · have := stmt_simple w0 b T (sAt s) 2 (sName s) pt px pb pe (sT s).length 1 (sB s).length (sE s).length ct cx cb ce _ (by decide) (by decide) (simple_2 w0 b T (sAt s) (sName s) pt px pb pe _ _ _ ct cx cb ce _ tx hX)
    simpa [stT] using this
  · have := stmt_simple w0 b T (sAt s) 3 (sName s) pt px pb pe (sT s).length 1 (sB s).length (sE s).length ct cx cb ce _ (by decide) (by decide) (simple_3 w0 b T (sAt s) (sName s) pt px pb pe _ _ _ ct cx cb ce _ tx hX)
    simpa [stT] using this
  · by_cases h0 : 0 < (sE s).length
    · have := stmt_else w0 b T (sAt s) (sName s) pt px pb pe (sT s).length (sB s).length (sE s).length ct cx cb ce _ tx _ _ hX hB h0 hE
      simpa [stT, h0] using this
    · have := stmt_if w0 b T (sAt s) (sName s) pt px pb pe (sT s).length (sB s).length (sE s).length ct cx cb ce _ tx _ hX hB (by omega)
      simpa [stT, h0] using this
  · have := stmt_while w0 b T (sAt s) (sName s) pt px pb pe (sT s).length (sB s).length (sE s).length ct cx cb ce _ tx _ hX hB
    simpa [stT] using this
  · have := stmt_simple w0 b T (sAt s) 6 (sName s) pt px pb pe (sT s).length 1 (sB s).length (sE s).length ct cx cb ce _ (by decide) (by decide) (simple_6 w0 b T (sAt s) (sName s) pt px pb pe _ _ _ ct cx cb ce _ tx hX)
    simpa [stT] using this
  · have := stmt_simple w0 b T (sAt s) 7 (sName s) pt px pb pe (sT s).length 1 (sB s).length (sE s).length ct cx cb ce _ (by decide) (by decide) (simple_7 w0 b T (sAt s) (sName s) pt px pb pe _ _ _ ct cx cb ce _ tx hX)
    simpa [stT] using this
set_option maxHeartbeats 2000000 in
set_option maxRecDepth 100000 in
theorem stmts_run (w0 : World) (b : Nat) (T : TypeId) (p : Option Addr) (n c : Nat) (hn : n ≤ 1000000) (tks : Nat → List Tok)
    (hP : ∀ k, k < n → ∃ (g o : Nat) (A K : Int) (S : ByteArray) (pt px pb pe : Option Addr) (t x nb ne ct cx cb ce : Nat), p = some ⟨g, o, none⟩ ∧ w0.cell? ⟨g, o + k * 7, none⟩ = some (.int .i64 A) ∧ w0.cell? ⟨g, o + k * 7 + 1, none⟩ = some (.int .i64 K) ∧ w0.cell? ⟨g, o + k * 7 + 2, none⟩ = some (.string S) ∧ w0.cell? ⟨g, o + k * 7 + 3, none⟩ = some (.slice pt t ct) ∧ w0.cell? ⟨g, o + k * 7 + 4, none⟩ = some (.slice px x cx) ∧ w0.cell? ⟨g, o + k * 7 + 5, none⟩ = some (.slice pb nb cb) ∧ w0.cell? ⟨g, o + k * 7 + 6, none⟩ = some (.slice pe ne ce) ∧
      Puts w0 b T (fun _ => True) 67 #[.pointer (some ⟨b, 0, none⟩), .agg #[.int .i64 A, .int .i64 K, .string S, .slice pt t ct, .slice px x cx, .slice pb nb cb, .slice pe ne ce]] (tks k)) :
    Puts w0 b T (fun _ => True) 39 #[.pointer (some ⟨b, 0, none⟩), .slice p n c] ((List.range n).flatMap tks) := by
  intro ts w hw hts hb0 _
  have OK0 := hide (Ok.of (I := fun _ => True) hw hts hb0 trivial)
  have HP := hide hP
  clear hw hts hb0 hP
  go_enter Tryz.func39, Tryz.ntmps39
  go_wp2
  go_loopw [8] (fun i wr => ∃ k : Nat, i = .int .i64 k ∧ k ≤ n ∧ Hid (Ok w0 b T (fun _ => True) w (putAll ts ((List.range k).flatMap tks)) wr)) (fun i _ => n - (intOf i).toNat)
  case atStart => exact ⟨0, rfl, by omega, unhide OK0⟩
  case round =>
    obtain ⟨k, rfl, hk, HO⟩ := hrel
    by_cases hlt : k < n
    · have hlt' : (k : Int) < (n : Int) := by omega
      obtain ⟨g, o, A, K, S, pt, px, pb, pe, t, x, nb, ne, ct, cx, cb, ce, rfl, a0, a1, a2, a3, a4, a5, a6, wt⟩ := unhide HP k hlt
      have hb1 := (unhide HO).2.2.1
      have z0 := (hb1.cell (p := ⟨g, _, none⟩) (cell_at a0)).trans a0
      have z1 := (hb1.cell (p := ⟨g, _, none⟩) (cell_at a1)).trans a1
      have z2 := (hb1.cell (p := ⟨g, _, none⟩) (cell_at a2)).trans a2
      have z3 := (hb1.cell (p := ⟨g, _, none⟩) (cell_at a3)).trans a3
      have z4 := (hb1.cell (p := ⟨g, _, none⟩) (cell_at a4)).trans a4
      have z5 := (hb1.cell (p := ⟨g, _, none⟩) (cell_at a5)).trans a5
      have z6 := (hb1.cell (p := ⟨g, _, none⟩) (cell_at a6)).trans a6
      obtain ⟨okb, stb⟩ := (unhide HO).box (.true _ _) #[.int .i64 A, .int .i64 K, .string S, .slice pt t ct, .slice px x cx, .slice pb nb cb, .slice pe ne ce] 45 (by decide)
      have WT := hide (wt.ok (fun _ _ => trivial) stb okb)
      have HK : Hid (putAll ts ((List.range (k + 1)).flatMap tks) = putAll (putAll ts ((List.range k).flatMap tks)) (tks k)) := by
        show _ = _
        rw [List.range_succ, List.flatMap_append, putAll_append]; simp
      clear a0 a1 a2 a3 a4 a5 a6 wt hb1 HP okb stb
      go_wp2_with (go_at_call 67; refine (unhide WT).mono ?_; clear WT; rintro x wb ⟨rfl, ok⟩)
      go_roundw
      case rel => exact ⟨k + 1, by go_num, by omega, (by rw [unhide HK]; exact ⟨ok.1, ok.2.1, ok.2.2.1, ok.2.2.2.1, ok.2.2.2.2.1, trivial⟩)⟩
      case measure => simp [intOf]; omega
    · obtain rfl : k = n := by omega
      have hlt' : ¬ (k : Int) < (k : Int) := by omega
      go_wp2
      exact bodyPost_end (v := .tuple #[]) (by simp [results, Tryz.results39, go_sem]) rfl ((unhide HO).fin rfl)
/-- writeStmts puts right statements' tokens. -/
theorem writeStmts_any (w0 : World) (D d : Nat) : ∀ m, SsAt w0 D d m
  | 0 => fun b T p c ss _ _ _ => by
    match ss with
    | [] => exact stmts_run w0 b T p 0 c (by omega) (fun _ => []) fun k hk => absurd hk (by omega)
    | x :: _ => exact nomatch x
  | m + 1 => fun b T p c ss hr hf hR => by
    obtain ⟨p', c', e, hp⟩ := hr
    injection e with e1 e2 e3
    subst e1
    obtain ⟨room, hR⟩ := hR
    rw [rightSs, List.all_eq_true] at hR
    rw [stTks, flat_range]
    refine stmts_run w0 b T p ss.length c hf.1 _ fun k hk => ?_
    have hk' : ss[k]? = some ss[k] := by simp
    obtain ⟨g, o, vt, vx, vb, ve, rfl, a0, a1, a2, a3, a4, a5, a6, r1, r2, r3, r4⟩ := hp k _ hk'
    obtain ⟨f1, f2, f3⟩ := hf.2 _ (List.mem_of_getElem? hk')
    obtain ⟨pt, ct, rfl⟩ := r1.slice
    obtain ⟨px, cx, rfl⟩ := r2.1.slice
    obtain ⟨pb, cb, rfl⟩ := r3.slice
    obtain ⟨pe, ce, rfl⟩ := r4.slice
    refine ⟨g, o, _, _, _, pt, px, pb, pe, _, _, _, _, ct, cx, cb, ce, rfl, a0, a1, a2, a3, a4, a5, a6, ?_⟩
    rw [hk']
    exact stmt_of w0 D d m (writeStmts_any w0 D d m) b T ss[k] pt px pb pe ct cx cb ce r1 r2.1 r2.2 r3 r4 f1 f2 f3 ⟨room, hR _ (List.mem_of_getElem? hk')⟩
end Go.Proofs.YtdahegogdblahaaGreatDoor
