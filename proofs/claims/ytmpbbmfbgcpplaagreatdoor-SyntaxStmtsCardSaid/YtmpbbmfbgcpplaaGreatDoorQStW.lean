import Derived.Test.YtmpbbmfbgcpplaaGreatDoorQStG
set_option maxHeartbeats 4000000
set_option maxRecDepth 100000
namespace Go.Proofs.YtmpbbmfbgcpplaaGreatDoor
open Go Go.RowKit Lx
theorem sBox.cells {W : World} {x : Nat} {A K : Int} {S : ByteArray} {pt px pb pe : Option Addr} {t n b e ct cx cb ce : Nat} (h : W.heap[x]? = some (sBox A K S pt px pb pe t n b e ct cx cb ce)) :
  W.cell? ⟨x, 0, none⟩ = some (.int .i64 A) ∧ W.cell? ⟨x, 1, none⟩ = some (.int .i64 K) ∧ W.cell? ⟨x, 2, none⟩ = some (.string S) ∧ W.cell? ⟨x, 3, none⟩ = some (.slice pt t ct) ∧ W.cell? ⟨x, 4, none⟩ = some (.slice px n cx) ∧ W.cell? ⟨x, 5, none⟩ = some (.slice pb b cb) ∧ W.cell? ⟨x, 6, none⟩ = some (.slice pe e ce) :=
 ⟨by rw [Lib.cell_of_heap h]; rfl, by rw [Lib.cell_of_heap h]; rfl, by rw [Lib.cell_of_heap h]; rfl, by rw [Lib.cell_of_heap h]; rfl, by rw [Lib.cell_of_heap h]; rfl, by rw [Lib.cell_of_heap h]; rfl, by rw [Lib.cell_of_heap h]; rfl⟩
abbrev swBox (b : Nat) : Obj := .cells #[.pointer (some ⟨b, 0, none⟩)] 144
theorem zhw (w0 : World) (b : Nat) (T : TypeId) (p : Option Addr) (n c : Nat) (tk : List Tok) (hP : Puts w0 b T (fun _ => True) 64 #[.pointer (some ⟨b, 0, none⟩), .slice p n c] tk) :
  Puts w0 b T (fun _ => True) 106 #[.pointer (some ⟨b, 0, none⟩), .slice p n c] (tS [123] :: (tk ++ [tS [125]])) := by
 intro ts w hw hts hb0 _
 obtain ⟨ok0, hS⟩ := boxes hw hts hb0 144 #[.slice p n c] 40 (by decide) (by decide)
 have IN : Puts w0 b T (fun V => V.heap[w.heap.size]? = some (swBox b) ∧ V.heap[w.heap.size + 1]? = some (.cells #[.slice p n c] 40)) 141 #[.pointer (some ⟨w.heap.size, 0, none⟩), .pointer (some ⟨w.heap.size + 1, 0, none⟩)] tk := by
  intro ts w1 hw1 hts1 hb1 hi
  have d0 : w1.cell? ⟨w.heap.size, 0, none⟩ = some (.pointer (some ⟨b, 0, none⟩)) := by rw [Lib.cell_of_heap hi.1]; rfl
  have d1 : w1.cell? ⟨w.heap.size + 1, 0, none⟩ = some (.slice p n c) := by rw [Lib.cell_of_heap hi.2]; rfl
  have WT := za3 (hP ts w1 hw1 hts1 hb1 trivial)
  clear hi ok0 hS hP hw hb0 hw1 hb1
  go_enter Tryz.func141, Tryz.ntmps141
  go_wp2_with (go_at_call 64; refine (za0 WT).mono ?_; clear WT; rintro x wb ⟨rfl, HW_b, hB_b, hS_b⟩)
  exact bodyPost_end (v := .tuple #[]) (by simp [results, Tryz.results141, go_sem]) rfl ⟨rfl, HW_b, hB_b, hS_b⟩
 have WD := za3 ((zdv w0 b T _ hS _ (fun _ _ => by kernel_rfl) _ _ [123] [125] tk IN).ok (fun _ h => h) hS ok0)
 clear ok0 hS hw hb0 hts hP IN
 go_enter Tryz.func106, Tryz.ntmps106
 go_wp2_with (go_at_call 108; refine (za0 WD).mono ?_; clear WD; rintro x wa ⟨rfl, ok⟩)
 exact bodyPost_end (v := .tuple #[]) (by simp [results, Tryz.results106, go_sem]) rfl (ok.fin rfl)
theorem simple_7 (w0 : World) (b : Nat) (T : TypeId) (A : Int) (S : Bs) (pt px pb pe : Option Addr) (t nb ne ct cx cb ce : Nat) (K0 : Int) (tk : List Tok) (hP : ExPart w0 b T px 0 K0 tk) :
  Puts w0 b T (fun _ => True) 136 #[.pointer (some ⟨b, 0, none⟩), .agg #[.int .i64 A, .int .i64 7, .string ⟨S.toArray⟩, .slice pt t ct, .slice px 1 cx, .slice pb nb cb, .slice pe ne ce]] (tk ++ [tS [59]]) := by
 intro ts w hw hts hb0 _
 obtain ⟨g, o, A0, N0, S0, p1, p2, p3, n1, n2, n3, c1, c2, c3, rfl, wt0, ff⟩ := hP.first
 obtain ⟨ok0, hS⟩ := zht hw hts hb0 #[.int .i64 A, .int .i64 7, .string ⟨S.toArray⟩, .slice pt t ct, .slice (some ⟨g, o, none⟩) 1 cx, .slice pb nb cb, .slice pe ne ce] 105 (by decide)
 have PX := za3 wt0
 have P9 := za3 (zbn w0 b T [59])
 have HS := za3 hS
 have FF := za3 ff
 obtain ⟨y0, y1, y2, y3, y4, y5, y6⟩ := ff _ ok0.2.2.1
 have OK0 := za3 ok0
 clear ok0 hS hw hb0 hts wt0 ff hP
 go_enter Tryz.func136, Tryz.ntmps136
 go_wp2_with fail
 go_region_with (go_at_call 55; refine ((za0 PX).ok (fun _ _ => trivial) (za0 HS) ((za0 OK0).drew (za0 HS))).mono ?_; clear PX; rintro x wx ⟨rfl, ok⟩; have OKX := za3 ok; clear ok)
 all_goals
  go_wp2_with (go_at_call 87; refine ((za0 P9).ok (fun _ _ => trivial) (za0 HS) (za0 OKX)).mono ?_; clear P9; rintro x wz ⟨rfl, ok⟩)
  exact bodyPost_end (v := .tuple #[]) (by simp [results, Tryz.results136, go_sem]) rfl (ok.fin (by simp only [za6, zal, zbf]))
theorem simple_3 (w0 : World) (b : Nat) (T : TypeId) (A : Int) (S : Bs) (pt px pb pe : Option Addr) (t nb ne ct cx cb ce : Nat) (K0 : Int) (tk : List Tok) (hP : ExPart w0 b T px 0 K0 tk) :
  Puts w0 b T (fun _ => True) 136 #[.pointer (some ⟨b, 0, none⟩), .agg #[.int .i64 A, .int .i64 3, .string ⟨S.toArray⟩, .slice pt t ct, .slice px 1 cx, .slice pb nb cb, .slice pe ne ce]] (tW [112, 114, 105, 110, 116] :: (tk ++ [tS [59]])) := by
 intro ts w hw hts hb0 _
 obtain ⟨g, o, A0, N0, S0, p1, p2, p3, n1, n2, n3, c1, c2, c3, rfl, wt0, ff⟩ := hP.first
 obtain ⟨ok0, hS⟩ := zht hw hts hb0 #[.int .i64 A, .int .i64 3, .string ⟨S.toArray⟩, .slice pt t ct, .slice (some ⟨g, o, none⟩) 1 cx, .slice pb nb cb, .slice pe ne ce] 105 (by decide)
 have PX := za3 wt0
 have P9 := za3 (zbn w0 b T [59])
 have HS := za3 hS
 have FF := za3 ff
 obtain ⟨y0, y1, y2, y3, y4, y5, y6⟩ := ff _ ok0.2.2.1
 have OK0 := za3 ok0
 have P1 := za3 (zb9 w0 b T [112, 114, 105, 110, 116])
 clear ok0 hS hw hb0 hts wt0 ff hP
 go_enter Tryz.func136, Tryz.ntmps136
 go_wp2_with (go_at_call 89; refine ((za0 P1).ok (fun _ _ => trivial) (za0 HS) (za0 OK0)).mono ?_; clear P1; rintro x wa ⟨rfl, ok⟩; have m := sBox.cells ok.2.2.2.2.2; obtain ⟨m0, m1, m2, m3, m4, m5, m6⟩ := m; obtain ⟨y0, y1, y2, y3, y4, y5, y6⟩ := za0 FF _ ok.2.2.1; have OK1 := za3 ok; clear ok)
 go_region_with (go_at_call 55; refine ((za0 PX).ok (fun _ _ => trivial) (za0 HS) ((za0 OK1).drew (za0 HS))).mono ?_; clear PX; rintro x wx ⟨rfl, ok⟩; have OKX := za3 ok; clear ok)
 all_goals
  go_wp2_with (go_at_call 87; refine ((za0 P9).ok (fun _ _ => trivial) (za0 HS) (za0 OKX)).mono ?_; clear P9; rintro x wz ⟨rfl, ok⟩)
  exact bodyPost_end (v := .tuple #[]) (by simp [results, Tryz.results136, go_sem]) rfl (ok.fin (by simp only [za6, zal, zbf]))
theorem simple_6 (w0 : World) (b : Nat) (T : TypeId) (A : Int) (S : Bs) (pt px pb pe : Option Addr) (t nb ne ct cx cb ce : Nat) (K0 : Int) (tk : List Tok) (hP : ExPart w0 b T px 0 K0 tk) :
  Puts w0 b T (fun _ => True) 136 #[.pointer (some ⟨b, 0, none⟩), .agg #[.int .i64 A, .int .i64 6, .string ⟨S.toArray⟩, .slice pt t ct, .slice px 1 cx, .slice pb nb cb, .slice pe ne ce]] (tW [114, 101, 116, 117, 114, 110] :: (tk ++ [tS [59]])) := by
 intro ts w hw hts hb0 _
 obtain ⟨g, o, A0, N0, S0, p1, p2, p3, n1, n2, n3, c1, c2, c3, rfl, wt0, ff⟩ := hP.first
 obtain ⟨ok0, hS⟩ := zht hw hts hb0 #[.int .i64 A, .int .i64 6, .string ⟨S.toArray⟩, .slice pt t ct, .slice (some ⟨g, o, none⟩) 1 cx, .slice pb nb cb, .slice pe ne ce] 105 (by decide)
 have PX := za3 wt0
 have P9 := za3 (zbn w0 b T [59])
 have HS := za3 hS
 have FF := za3 ff
 obtain ⟨y0, y1, y2, y3, y4, y5, y6⟩ := ff _ ok0.2.2.1
 have OK0 := za3 ok0
 have P1 := za3 (zb9 w0 b T [114, 101, 116, 117, 114, 110])
 clear ok0 hS hw hb0 hts wt0 ff hP
 go_enter Tryz.func136, Tryz.ntmps136
 go_wp2_with (go_at_call 89; refine ((za0 P1).ok (fun _ _ => trivial) (za0 HS) (za0 OK0)).mono ?_; clear P1; rintro x wa ⟨rfl, ok⟩; have m := sBox.cells ok.2.2.2.2.2; obtain ⟨m0, m1, m2, m3, m4, m5, m6⟩ := m; obtain ⟨y0, y1, y2, y3, y4, y5, y6⟩ := za0 FF _ ok.2.2.1; have OK1 := za3 ok; clear ok)
 go_region_with (go_at_call 55; refine ((za0 PX).ok (fun _ _ => trivial) (za0 HS) ((za0 OK1).drew (za0 HS))).mono ?_; clear PX; rintro x wx ⟨rfl, ok⟩; have OKX := za3 ok; clear ok)
 all_goals
  go_wp2_with (go_at_call 87; refine ((za0 P9).ok (fun _ _ => trivial) (za0 HS) (za0 OKX)).mono ?_; clear P9; rintro x wz ⟨rfl, ok⟩)
  exact bodyPost_end (v := .tuple #[]) (by simp [results, Tryz.results136, go_sem]) rfl (ok.fin (by simp only [za6, zal, zbf]))
theorem simple_2 (w0 : World) (b : Nat) (T : TypeId) (A : Int) (S : Bs) (pt px pb pe : Option Addr) (t nb ne ct cx cb ce : Nat) (K0 : Int) (tk : List Tok) (hP : ExPart w0 b T px 0 K0 tk) :
  Puts w0 b T (fun _ => True) 136 #[.pointer (some ⟨b, 0, none⟩), .agg #[.int .i64 A, .int .i64 2, .string ⟨S.toArray⟩, .slice pt t ct, .slice px 1 cx, .slice pb nb cb, .slice pe ne ce]] (tN S :: tS [61] :: (tk ++ [tS [59]])) := by
 intro ts w hw hts hb0 _
 obtain ⟨g, o, A0, N0, S0, p1, p2, p3, n1, n2, n3, c1, c2, c3, rfl, wt0, ff⟩ := hP.first
 obtain ⟨ok0, hS⟩ := zht hw hts hb0 #[.int .i64 A, .int .i64 2, .string ⟨S.toArray⟩, .slice pt t ct, .slice (some ⟨g, o, none⟩) 1 cx, .slice pb nb cb, .slice pe ne ce] 105 (by decide)
 have PX := za3 wt0
 have P9 := za3 (zbn w0 b T [59])
 have HS := za3 hS
 have FF := za3 ff
 obtain ⟨y0, y1, y2, y3, y4, y5, y6⟩ := ff _ ok0.2.2.1
 have OK0 := za3 ok0
 have P1 := za3 (zf8 w0 b T S)
 have P2 := za3 (zbn w0 b T [61])
 clear ok0 hS hw hb0 hts wt0 ff hP
 go_enter Tryz.func136, Tryz.ntmps136
 go_wp2_with fail
 go_region_with (go_at_call 104; refine ((za0 P1).ok (fun _ _ => trivial) (za0 HS) ((za0 OK0).drew (za0 HS))).mono ?_; clear P1; rintro x wa ⟨rfl, ok⟩; have OK1 := za3 ok; clear ok)
 go_wp2_with (go_at_call 87; refine ((za0 P2).ok (fun _ _ => trivial) (za0 HS) (za0 OK1)).mono ?_; clear P2; rintro x wb ⟨rfl, ok⟩; have m := sBox.cells ok.2.2.2.2.2; obtain ⟨m0, m1, m2, m3, m4, m5, m6⟩ := m; obtain ⟨y0, y1, y2, y3, y4, y5, y6⟩ := za0 FF _ ok.2.2.1; have OK2 := za3 ok; clear ok)
 go_region_with (go_at_call 55; refine ((za0 PX).ok (fun _ _ => trivial) (za0 HS) ((za0 OK2).drew (za0 HS))).mono ?_; clear PX; rintro x wx ⟨rfl, ok⟩; have OKX := za3 ok; clear ok)
 all_goals
  go_wp2_with (go_at_call 87; refine ((za0 P9).ok (fun _ _ => trivial) (za0 HS) (za0 OKX)).mono ?_; clear P9; rintro x wz ⟨rfl, ok⟩)
  exact bodyPost_end (v := .tuple #[]) (by simp [results, Tryz.results136, go_sem]) rfl (ok.fin (by simp only [za6, zal, zbf]))
theorem simple_1 (w0 : World) (b : Nat) (T : TypeId) (A : Int) (S : Bs) (pt px pb pe : Option Addr) (t nb ne ct cx cb ce : Nat) (K0 : Int) (tk : List Tok) (hP : ExPart w0 b T px 0 K0 tk) (tks : Nat → List Tok) (ht : t ≤ 1000000) (hT : ∀ k, k < t → TyPart w0 b T 77 pt k (tks k)) :
  Puts w0 b T (fun _ => True) 136 #[.pointer (some ⟨b, 0, none⟩), .agg #[.int .i64 A, .int .i64 1, .string ⟨S.toArray⟩, .slice pt t ct, .slice px 1 cx, .slice pb nb cb, .slice pe ne ce]] (tW [108, 101, 116] :: tN S :: ((List.range t).flatMap tks ++ tS [61] :: (tk ++ [tS [59]]))) := by
 intro ts w hw hts hb0 _
 obtain ⟨g, o, A0, N0, S0, p1, p2, p3, n1, n2, n3, c1, c2, c3, rfl, wt0, ff⟩ := hP.first
 obtain ⟨ok0, hS⟩ := zht hw hts hb0 #[.int .i64 A, .int .i64 1, .string ⟨S.toArray⟩, .slice pt t ct, .slice (some ⟨g, o, none⟩) 1 cx, .slice pb nb cb, .slice pe ne ce] 105 (by decide)
 have PX := za3 wt0
 have P9 := za3 (zbn w0 b T [59])
 have HS := za3 hS
 have FF := za3 ff
 obtain ⟨y0, y1, y2, y3, y4, y5, y6⟩ := ff _ ok0.2.2.1
 have OK0 := za3 ok0
 have P1 := za3 (zb9 w0 b T [108, 101, 116])
 have P2 := za3 (zf8 w0 b T S)
 have P3 := za3 (zbn w0 b T [61])
 have HTP := za3 hT
 clear hT
 clear ok0 hS hw hb0 hts wt0 ff hP
 go_enter Tryz.func136, Tryz.ntmps136
 go_wp2_with (go_at_call 89; refine ((za0 P1).ok (fun _ _ => trivial) (za0 HS) (za0 OK0)).mono ?_; clear P1; rintro x wa ⟨rfl, ok⟩; have m := sBox.cells ok.2.2.2.2.2; obtain ⟨m0, m1, m2, m3, m4, m5, m6⟩ := m; obtain ⟨y0, y1, y2, y3, y4, y5, y6⟩ := za0 FF _ ok.2.2.1; have OK1 := za3 ok; clear ok)
 go_region_with (go_at_call 104; refine ((za0 P2).ok (fun _ _ => trivial) (za0 HS) ((za0 OK1).drew (za0 HS))).mono ?_; clear P2; rintro x wb ⟨rfl, ok⟩; have m := sBox.cells ok.2.2.2.2.2; obtain ⟨m0, m1, m2, m3, m4, m5, m6⟩ := m; obtain ⟨y0, y1, y2, y3, y4, y5, y6⟩ := za0 FF _ ok.2.2.1; have OK2 := za3 ok; clear ok)
 clear y0 y1 y2 y3 y4 y5 y6
 go_wp2
 obtain ⟨ts1, hts1⟩ : ∃ ts1, ts1 = zar (zar ts [tW [108, 101, 116]]) [tN S] := ⟨_, rfl⟩
 rw [← hts1] at OK2
 have HTS := za3 hts1
 clear hts1 OK1 OK0
 go_loopw [27] (fun i wr => ∃ k : Nat, i = .int .i64 k ∧ k ≤ t ∧ Hid (Ok w0 b T (fun V => V.heap[w.heap.size]? = some (sBox A 1 ⟨S.toArray⟩ pt (some ⟨g, o, none⟩) pb pe t 1 nb ne ct cx cb ce)) w (zar ts1 ((List.range k).flatMap tks)) wr)) (fun i _ => t - (intOf i).toNat)
 case atStart => exact ⟨0, rfl, by omega, za0 OK2⟩
 case round =>
  obtain ⟨k, rfl, hk, HO⟩ := hrel
  by_cases hlt : k < t
  ·have hlt' : (k : Int) < (t : Int) := by omega
   obtain ⟨gt, ot, Kt, St, q1, q2, q3, k1, k2, k3, d1, d2, d3, rfl, a0, a1, a2, a3, a4, wtT⟩ := za0 HTP k hlt
   have hb1 := (za0 HO).2.2.1
   have z0 := (hb1.cell (p := ⟨gt, _, none⟩) (za2 a0)).trans a0
   have z1 := (hb1.cell (p := ⟨gt, _, none⟩) (za2 a1)).trans a1
   have z2 := (hb1.cell (p := ⟨gt, _, none⟩) (za2 a2)).trans a2
   have z3 := (hb1.cell (p := ⟨gt, _, none⟩) (za2 a3)).trans a3
   have z4 := (hb1.cell (p := ⟨gt, _, none⟩) (za2 a4)).trans a4
   obtain ⟨okb, stb⟩ := (za0 HO).box (za0 HS) #[.int .i64 Kt, .string St, .slice q1 k1 d1, .slice q2 k2 d2, .slice q3 k3 d3] 53 (by decide)
   have WT := za3 (wtT.ok (fun _ _ => trivial) stb (okb.drew stb))
   have HK : Hid (zar ts1 ((List.range (k + 1)).flatMap tks) = zar (zar ts1 ((List.range k).flatMap tks)) (tks k)) := by
    show _ = _
    rw [List.range_succ, List.flatMap_append, za6]; simp
   clear a0 a1 a2 a3 a4 wtT hb1 HTP okb stb
   go_wp2_with fail
   go_region_with (go_at_call 77; refine (za0 WT).mono ?_; clear WT; rintro x wb ⟨rfl, ok⟩)
   all_goals
    go_wp2
    go_roundw
    case rel => exact ⟨k + 1, by go_num, by omega, (by rw [za0 HK]; exact ⟨ok.1, ok.2.1, ok.2.2.1, ok.2.2.2.1, ok.2.2.2.2.1, ok.2.2.2.2.2.1⟩)⟩
    case measure => simp [intOf]; omega
  ·obtain rfl : k = t := by omega
   have hlt' : ¬ (k : Int) < (k : Int) := by omega
   go_wp2_with (go_at_call 87; refine ((za0 P3).ok (fun _ _ => trivial) (za0 HS) (za0 HO)).mono ?_; clear P3; rintro x wb ⟨rfl, ok⟩; have m := sBox.cells ok.2.2.2.2.2; obtain ⟨m0, m1, m2, m3, m4, m5, m6⟩ := m; obtain ⟨y0, y1, y2, y3, y4, y5, y6⟩ := za0 FF _ ok.2.2.1; have OK3 := za3 ok; clear ok)
   go_region_with (go_at_call 55; refine ((za0 PX).ok (fun _ _ => trivial) (za0 HS) ((za0 OK3).drew (za0 HS))).mono ?_; clear PX; rintro x wx ⟨rfl, ok⟩; have OKX := za3 ok; clear ok)
   all_goals
    go_wp2_with (go_at_call 87; refine ((za0 P9).ok (fun _ _ => trivial) (za0 HS) (za0 OKX)).mono ?_; clear P9; rintro x wz ⟨rfl, ok⟩)
    exact bodyPost_end (v := .tuple #[]) (by simp [results, Tryz.results136, go_sem]) rfl (ok.fin (by rw [za0 HTS]; simp only [za6, zal, zbf]))
theorem zeo (w0 : World) (b : Nat) (T : TypeId) (A K : Int) (S : Bs) (pt px pb pe : Option Addr) (t n nb ne ct cx cb ce : Nat) (tk : List Tok) (h4 : K ≠ 4) (h5 : K ≠ 5) (hP : Puts w0 b T (fun _ => True) 136 #[.pointer (some ⟨b, 0, none⟩), .agg #[.int .i64 A, .int .i64 K, .string ⟨S.toArray⟩, .slice pt t ct, .slice px n cx, .slice pb nb cb, .slice pe ne ce]] tk) :
  Puts w0 b T (fun _ => True) 95 #[.pointer (some ⟨b, 0, none⟩), .agg #[.int .i64 A, .int .i64 K, .string ⟨S.toArray⟩, .slice pt t ct, .slice px n cx, .slice pb nb cb, .slice pe ne ce]] tk := by
 intro ts w hw hts hb0 _
 obtain ⟨ok0, hS⟩ := zht hw hts hb0 #[.int .i64 A, .int .i64 K, .string ⟨S.toArray⟩, .slice pt t ct, .slice px n cx, .slice pb nb cb, .slice pe ne ce] 105 (by decide)
 have h4' : (K == 4) = false := beq_eq_false_iff_ne.2 h4
 have h5' : (K == 5) = false := beq_eq_false_iff_ne.2 h5
 have P0 := za3 (hP.ok (fun _ _ => trivial) hS ok0)
 clear ok0 hS hw hb0 hts hP
 go_enter Tryz.func95, Tryz.ntmps95
 go_wp2_with (go_at_call 136; refine (za0 P0).mono ?_; clear P0; rintro x wa ⟨rfl, ok⟩)
 exact bodyPost_end (v := .tuple #[]) (by simp [results, Tryz.results95, go_sem]) rfl (ok.fin rfl)
theorem stmt_while (w0 : World) (b : Nat) (T : TypeId) (A : Int) (S : Bs) (pt px pb pe : Option Addr) (t nb ne ct cx cb ce : Nat) (K0 : Int) (tk tb : List Tok) (hP : ExPart w0 b T px 0 K0 tk) (hB : Puts w0 b T (fun _ => True) 64 #[.pointer (some ⟨b, 0, none⟩), .slice pb nb cb] tb) :
  Puts w0 b T (fun _ => True) 95 #[.pointer (some ⟨b, 0, none⟩), .agg #[.int .i64 A, .int .i64 5, .string ⟨S.toArray⟩, .slice pt t ct, .slice px 1 cx, .slice pb nb cb, .slice pe ne ce]] (tW [119, 104, 105, 108, 101] :: (tk ++ tS [123] :: (tb ++ [tS [125]]))) := by
 intro ts w hw hts hb0 _
 obtain ⟨g, o, A0, N0, S0, p1, p2, p3, n1, n2, n3, c1, c2, c3, rfl, wt0, ff⟩ := hP.first
 obtain ⟨ok0, hS⟩ := zht hw hts hb0 #[.int .i64 A, .int .i64 5, .string ⟨S.toArray⟩, .slice pt t ct, .slice (some ⟨g, o, none⟩) 1 cx, .slice pb nb cb, .slice pe ne ce] 105 (by decide)
 have PX := za3 wt0
 have PB := za3 (zhw w0 b T _ _ _ _ hB)
 have HS := za3 hS
 have FF := za3 ff
 have OK0 := za3 ok0
 have P1 := za3 (zb9 w0 b T [119, 104, 105, 108, 101])
 clear ok0 hS hw hb0 hts wt0 ff hP hB
 go_enter Tryz.func95, Tryz.ntmps95
 go_wp2_with (go_at_call 89; refine ((za0 P1).ok (fun _ _ => trivial) (za0 HS) (za0 OK0)).mono ?_; clear P1; rintro x wa ⟨rfl, ok⟩; have m := sBox.cells ok.2.2.2.2.2; obtain ⟨m0, m1, m2, m3, m4, m5, m6⟩ := m; obtain ⟨y0, y1, y2, y3, y4, y5, y6⟩ := za0 FF _ ok.2.2.1; have OK1 := za3 ok; clear ok)
 go_region_with (go_at_call 55; refine ((za0 PX).ok (fun _ _ => trivial) (za0 HS) ((za0 OK1).drew (za0 HS))).mono ?_; clear PX; rintro x wx ⟨rfl, ok⟩; have m := sBox.cells ok.2.2.2.2.2; obtain ⟨m0, m1, m2, m3, m4, m5, m6⟩ := m; have OKX := za3 ok; clear ok)
 all_goals
  go_wp2_with (go_at_call 106; refine ((za0 PB).ok (fun _ _ => trivial) (za0 HS) (za0 OKX)).mono ?_; clear PB; rintro x wy ⟨rfl, ok⟩; have m := sBox.cells ok.2.2.2.2.2; obtain ⟨m0, m1, m2, m3, m4, m5, m6⟩ := m; have OKB := za3 ok; clear ok)
  exact bodyPost_end (v := .tuple #[]) (by simp [results, Tryz.results95, go_sem]) rfl ((za0 OKB).fin (by simp only [za6, zal, zbf]))
theorem stmt_if (w0 : World) (b : Nat) (T : TypeId) (A : Int) (S : Bs) (pt px pb pe : Option Addr) (t nb ne ct cx cb ce : Nat) (K0 : Int) (tk tb : List Tok) (hP : ExPart w0 b T px 0 K0 tk) (hB : Puts w0 b T (fun _ => True) 64 #[.pointer (some ⟨b, 0, none⟩), .slice pb nb cb] tb) (hne : ne = 0) :
  Puts w0 b T (fun _ => True) 95 #[.pointer (some ⟨b, 0, none⟩), .agg #[.int .i64 A, .int .i64 4, .string ⟨S.toArray⟩, .slice pt t ct, .slice px 1 cx, .slice pb nb cb, .slice pe ne ce]] (tW [105, 102] :: (tk ++ tS [123] :: (tb ++ [tS [125]]))) := by
 intro ts w hw hts hb0 _
 obtain ⟨g, o, A0, N0, S0, p1, p2, p3, n1, n2, n3, c1, c2, c3, rfl, wt0, ff⟩ := hP.first
 obtain ⟨ok0, hS⟩ := zht hw hts hb0 #[.int .i64 A, .int .i64 4, .string ⟨S.toArray⟩, .slice pt t ct, .slice (some ⟨g, o, none⟩) 1 cx, .slice pb nb cb, .slice pe ne ce] 105 (by decide)
 have PX := za3 wt0
 have PB := za3 (zhw w0 b T _ _ _ _ hB)
 have HS := za3 hS
 have FF := za3 ff
 have OK0 := za3 ok0
 subst hne
 have P1 := za3 (zb9 w0 b T [105, 102])
 clear ok0 hS hw hb0 hts wt0 ff hP hB
 go_enter Tryz.func95, Tryz.ntmps95
 go_wp2_with (go_at_call 89; refine ((za0 P1).ok (fun _ _ => trivial) (za0 HS) (za0 OK0)).mono ?_; clear P1; rintro x wa ⟨rfl, ok⟩; have m := sBox.cells ok.2.2.2.2.2; obtain ⟨m0, m1, m2, m3, m4, m5, m6⟩ := m; obtain ⟨y0, y1, y2, y3, y4, y5, y6⟩ := za0 FF _ ok.2.2.1; have OK1 := za3 ok; clear ok)
 go_region_with (go_at_call 55; refine ((za0 PX).ok (fun _ _ => trivial) (za0 HS) ((za0 OK1).drew (za0 HS))).mono ?_; clear PX; rintro x wx ⟨rfl, ok⟩; have m := sBox.cells ok.2.2.2.2.2; obtain ⟨m0, m1, m2, m3, m4, m5, m6⟩ := m; have OKX := za3 ok; clear ok)
 all_goals
  go_wp2_with (go_at_call 106; refine ((za0 PB).ok (fun _ _ => trivial) (za0 HS) (za0 OKX)).mono ?_; clear PB; rintro x wy ⟨rfl, ok⟩; have m := sBox.cells ok.2.2.2.2.2; obtain ⟨m0, m1, m2, m3, m4, m5, m6⟩ := m; have OKB := za3 ok; clear ok)
  exact bodyPost_end (v := .tuple #[]) (by simp [results, Tryz.results95, go_sem]) rfl ((za0 OKB).fin (by simp only [za6, zal, zbf]))
theorem stmt_else (w0 : World) (b : Nat) (T : TypeId) (A : Int) (S : Bs) (pt px pb pe : Option Addr) (t nb ne ct cx cb ce : Nat) (K0 : Int) (tk tb te : List Tok) (hP : ExPart w0 b T px 0 K0 tk) (hB : Puts w0 b T (fun _ => True) 64 #[.pointer (some ⟨b, 0, none⟩), .slice pb nb cb] tb) (hne : 0 < ne) (hE : Puts w0 b T (fun _ => True) 64 #[.pointer (some ⟨b, 0, none⟩), .slice pe ne ce] te) :
  Puts w0 b T (fun _ => True) 95 #[.pointer (some ⟨b, 0, none⟩), .agg #[.int .i64 A, .int .i64 4, .string ⟨S.toArray⟩, .slice pt t ct, .slice px 1 cx, .slice pb nb cb, .slice pe ne ce]] (tW [105, 102] :: (tk ++ tS [123] :: (tb ++ tS [125] :: tW [101, 108, 115, 101] :: tS [123] :: (te ++ [tS [125]])))) := by
 intro ts w hw hts hb0 _
 obtain ⟨g, o, A0, N0, S0, p1, p2, p3, n1, n2, n3, c1, c2, c3, rfl, wt0, ff⟩ := hP.first
 obtain ⟨ok0, hS⟩ := zht hw hts hb0 #[.int .i64 A, .int .i64 4, .string ⟨S.toArray⟩, .slice pt t ct, .slice (some ⟨g, o, none⟩) 1 cx, .slice pb nb cb, .slice pe ne ce] 105 (by decide)
 have PX := za3 wt0
 have PB := za3 (zhw w0 b T _ _ _ _ hB)
 have HS := za3 hS
 have FF := za3 ff
 have OK0 := za3 ok0
 have hne' : (0 : Int) < (ne : Int) := by omega
 have P1 := za3 (zb9 w0 b T [105, 102])
 have P2 := za3 (zb9 w0 b T [101, 108, 115, 101])
 have PE := za3 (zhw w0 b T _ _ _ _ hE)
 clear ok0 hS hw hb0 hts wt0 ff hP hB
 go_enter Tryz.func95, Tryz.ntmps95
 go_wp2_with (go_at_call 89; refine ((za0 P1).ok (fun _ _ => trivial) (za0 HS) (za0 OK0)).mono ?_; clear P1; rintro x wa ⟨rfl, ok⟩; have m := sBox.cells ok.2.2.2.2.2; obtain ⟨m0, m1, m2, m3, m4, m5, m6⟩ := m; obtain ⟨y0, y1, y2, y3, y4, y5, y6⟩ := za0 FF _ ok.2.2.1; have OK1 := za3 ok; clear ok)
 go_region_with (go_at_call 55; refine ((za0 PX).ok (fun _ _ => trivial) (za0 HS) ((za0 OK1).drew (za0 HS))).mono ?_; clear PX; rintro x wx ⟨rfl, ok⟩; have m := sBox.cells ok.2.2.2.2.2; obtain ⟨m0, m1, m2, m3, m4, m5, m6⟩ := m; have OKX := za3 ok; clear ok)
 all_goals
  go_wp2_with (first | (go_at_call 106; refine ((za0 PB).ok (fun _ _ => trivial) (za0 HS) (za0 OKX)).mono ?_; clear PB; rintro x wy ⟨rfl, ok⟩; have m := sBox.cells ok.2.2.2.2.2; obtain ⟨m0, m1, m2, m3, m4, m5, m6⟩ := m; have OKB := za3 ok; clear ok) | (go_at_call 89; refine ((za0 P2).ok (fun _ _ => trivial) (za0 HS) (za0 OKB)).mono ?_; clear P2; rintro x wa ⟨rfl, ok⟩; have m := sBox.cells ok.2.2.2.2.2; obtain ⟨m0, m1, m2, m3, m4, m5, m6⟩ := m; have OKE := za3 ok; clear ok) | (go_at_call 106; refine ((za0 PE).ok (fun _ _ => trivial) (za0 HS) (za0 OKE)).mono ?_; clear PE; rintro x wy ⟨rfl, ok⟩; have m := sBox.cells ok.2.2.2.2.2; obtain ⟨m0, m1, m2, m3, m4, m5, m6⟩ := m; have OKF := za3 ok; clear ok))
  exact bodyPost_end (v := .tuple #[]) (by simp [results, Tryz.results95, go_sem]) rfl ((za0 OKF).fin (by simp only [za6, zal, zbf]))
def SsAt (w0 : World) (D d m : Nat) : Prop := ∀ (b : Nat) (T : TypeId) (p : Option Addr) (c : Nat) (ss : List (St D d m)), StRow w0 D d m (.slice p ss.length c) ss → zf0 D d m ss → (∃ room, zb4 D d m room ss = true) →
 Puts w0 b T (fun _ => True) 64 #[.pointer (some ⟨b, 0, none⟩), .slice p ss.length c] (zf3 D d m ss)
theorem zit {α : Type} (f : α → List Tok) : ∀ (l : List α), l.flatMap f = (List.range l.length).flatMap fun i => (l[i]?.map f).getD []
 | [] => rfl
 | x :: r => by
  rw [List.flatMap_cons, zit f r, List.length_cons, List.range_succ_eq_map, List.flatMap_cons]
  simp [List.flatMap_map]
theorem stmt_of (w0 : World) (D d m : Nat) (H : SsAt w0 D d m) (b : Nat) (T : TypeId) (s : St D d (m + 1)) (pt px pb pe : Option Addr) (ct cx cb ce : Nat) (r1 : TyRow w0 D (.slice pt (sT s).length ct) (sT s)) (r2 : ExRow w0 D d (.slice px (sX s).length cx) (sX s)) (r2' : ExCap w0 D d (.slice px (sX s).length cx) (sX s)) (r3 : StRow w0 D d m (.slice pb (sB s).length cb) (sB s)) (r4 : StRow w0 D d m (.slice pe (sE s).length ce) (sE s))
  (hs : StFit D d m s) (hfb : zf0 D d m (sB s)) (hfe : zf0 D d m (sE s)) (hr : ∃ room, zkk D d m room s = true) :
  Puts w0 b T (fun _ => True) 95 #[.pointer (some ⟨b, 0, none⟩), .agg #[.int .i64 (sAt s), .int .i64 (zhh s), .string ⟨(zc7 s).toArray⟩, .slice pt (sT s).length ct, .slice px (sX s).length cx, .slice pb (sB s).length cb, .slice pe (sE s).length ce]] (stTk D d m s) := by
 obtain ⟨room, hr⟩ := hr
 simp only [zkk, Bool.and_eq_true] at hr
 obtain ⟨⟨⟨⟨⟨_, hsh⟩, hrt⟩, hrx⟩, hrb⟩, hre⟩ := hr
 have hx1 := zle hsh
 have hx0 : (sX s)[0]? = some ((sX s)[0]'(by omega)) := List.getElem?_eq_getElem _
 rw [hx0] at hrx
 have hX := zes w0 D d b T px cx (sX s) r2 r2' hs.2.2.2.1 (fun k x hx => by
  have hk : k < (sX s).length := (List.getElem?_eq_some_iff.1 hx).1
  obtain rfl : k = 0 := by omega
  rw [hx0] at hx
  obtain rfl := Option.some.inj hx
  exact ⟨_, hrx⟩) 0 (by omega)
 have hB := H b T pb cb (sB s) r3 hfb ⟨_, hrb⟩
 have hE := H b T pe ce (sE s) r4 hfe ⟨_, hre⟩
 have hT : ∀ k, k < (sT s).length → TyPart w0 b T 77 pt k (((sT s)[k]?.map (zac D false)).getD []) := fun k hk => by
  have h0 : (sT s)[k]? = some (sT s)[k] := by simp
  have := (zc5 w0 D).1 b T pt ct (sT s) r1 hs.2.1 ⟨64, hrt⟩ (by simp) k _ h0
  rw [h0]
  exact this
 have hflat := zit (zac D false) (sT s)
 obtain ⟨tx, htx⟩ : ∃ tx, tx = ((sX s)[0]?.map (zij D d)).getD [] := ⟨_, rfl⟩
 rw [stTk, ← htx]
 rw [← htx] at hX
 rw [hx1]
 unfold zff zf7 at hsh
 simp only [Bool.and_eq_true] at hsh
 replace hsh := hsh.2
 generalize hK : zhh s = K at hsh ⊢
 have hne : 0 ≤ (sE s).length := Nat.zero_le _
 have hk : K = 1 ∨ K = 2 ∨ K = 3 ∨ K = 4 ∨ K = 5 ∨ K = 6 ∨ K = 7 := by
  apply Decidable.byContradiction
  intro hk
  rw [if_neg (by omega), if_neg (by omega), if_neg (by omega), if_neg (by omega), if_neg (by omega)] at hsh
  cases hsh
 rcases hk with rfl | rfl | rfl | rfl | rfl | rfl | rfl
 ·have := zeo w0 b T (sAt s) 1 (zc7 s) pt px pb pe (sT s).length 1 (sB s).length (sE s).length ct cx cb ce _ (by decide) (by decide) (simple_1 w0 b T (sAt s) (zc7 s) pt px pb pe _ _ _ ct cx cb ce _ tx hX (fun i => ((sT s)[i]?.map (zac D false)).getD []) (by have := hs.2.2.1; omega) hT)
  rw [← hflat] at this
  simpa [stT] using this
 ·have := zeo w0 b T (sAt s) 2 (zc7 s) pt px pb pe (sT s).length 1 (sB s).length (sE s).length ct cx cb ce _ (by decide) (by decide) (simple_2 w0 b T (sAt s) (zc7 s) pt px pb pe _ _ _ ct cx cb ce _ tx hX)
  simpa [stT] using this
 ·have := zeo w0 b T (sAt s) 3 (zc7 s) pt px pb pe (sT s).length 1 (sB s).length (sE s).length ct cx cb ce _ (by decide) (by decide) (simple_3 w0 b T (sAt s) (zc7 s) pt px pb pe _ _ _ ct cx cb ce _ tx hX)
  simpa [stT] using this
 ·by_cases h0 : 0 < (sE s).length
  ·have := stmt_else w0 b T (sAt s) (zc7 s) pt px pb pe (sT s).length (sB s).length (sE s).length ct cx cb ce _ tx _ _ hX hB h0 hE
   simpa [stT, h0] using this
  ·have := stmt_if w0 b T (sAt s) (zc7 s) pt px pb pe (sT s).length (sB s).length (sE s).length ct cx cb ce _ tx _ hX hB (by omega)
   simpa [stT, h0] using this
 ·have := stmt_while w0 b T (sAt s) (zc7 s) pt px pb pe (sT s).length (sB s).length (sE s).length ct cx cb ce _ tx _ hX hB
  simpa [stT] using this
 ·have := zeo w0 b T (sAt s) 6 (zc7 s) pt px pb pe (sT s).length 1 (sB s).length (sE s).length ct cx cb ce _ (by decide) (by decide) (simple_6 w0 b T (sAt s) (zc7 s) pt px pb pe _ _ _ ct cx cb ce _ tx hX)
  simpa [stT] using this
 ·have := zeo w0 b T (sAt s) 7 (zc7 s) pt px pb pe (sT s).length 1 (sB s).length (sE s).length ct cx cb ce _ (by decide) (by decide) (simple_7 w0 b T (sAt s) (zc7 s) pt px pb pe _ _ _ ct cx cb ce _ tx hX)
  simpa [stT] using this
theorem stmts_run (w0 : World) (b : Nat) (T : TypeId) (p : Option Addr) (n c : Nat) (hn : n ≤ 1000000) (tks : Nat → List Tok)
  (hP : ∀ k, k < n → ∃ (g o : Nat) (A K : Int) (S : ByteArray) (pt px pb pe : Option Addr) (t x nb ne ct cx cb ce : Nat), p = some ⟨g, o, none⟩ ∧ w0.cell? ⟨g, o + k * 7, none⟩ = some (.int .i64 A) ∧ w0.cell? ⟨g, o + k * 7 + 1, none⟩ = some (.int .i64 K) ∧ w0.cell? ⟨g, o + k * 7 + 2, none⟩ = some (.string S) ∧ w0.cell? ⟨g, o + k * 7 + 3, none⟩ = some (.slice pt t ct) ∧ w0.cell? ⟨g, o + k * 7 + 4, none⟩ = some (.slice px x cx) ∧ w0.cell? ⟨g, o + k * 7 + 5, none⟩ = some (.slice pb nb cb) ∧ w0.cell? ⟨g, o + k * 7 + 6, none⟩ = some (.slice pe ne ce) ∧
   Puts w0 b T (fun _ => True) 95 #[.pointer (some ⟨b, 0, none⟩), .agg #[.int .i64 A, .int .i64 K, .string S, .slice pt t ct, .slice px x cx, .slice pb nb cb, .slice pe ne ce]] (tks k)) :
  Puts w0 b T (fun _ => True) 64 #[.pointer (some ⟨b, 0, none⟩), .slice p n c] ((List.range n).flatMap tks) := by
 intro ts w hw hts hb0 _
 have OK0 := za3 (Ok.of (I := fun _ => True) hw hts hb0 trivial)
 have HP := za3 hP
 clear hw hts hb0 hP
 go_enter Tryz.func64, Tryz.ntmps64
 go_wp2
 go_loopw [8] (fun i wr => ∃ k : Nat, i = .int .i64 k ∧ k ≤ n ∧ Hid (Ok w0 b T (fun _ => True) w (zar ts ((List.range k).flatMap tks)) wr)) (fun i _ => n - (intOf i).toNat)
 case atStart => exact ⟨0, rfl, by omega, za0 OK0⟩
 case round =>
  obtain ⟨k, rfl, hk, HO⟩ := hrel
  by_cases hlt : k < n
  ·have hlt' : (k : Int) < (n : Int) := by omega
   obtain ⟨g, o, A, K, S, pt, px, pb, pe, t, x, nb, ne, ct, cx, cb, ce, rfl, a0, a1, a2, a3, a4, a5, a6, wt⟩ := za0 HP k hlt
   have hb1 := (za0 HO).2.2.1
   have z0 := (hb1.cell (p := ⟨g, _, none⟩) (za2 a0)).trans a0
   have z1 := (hb1.cell (p := ⟨g, _, none⟩) (za2 a1)).trans a1
   have z2 := (hb1.cell (p := ⟨g, _, none⟩) (za2 a2)).trans a2
   have z3 := (hb1.cell (p := ⟨g, _, none⟩) (za2 a3)).trans a3
   have z4 := (hb1.cell (p := ⟨g, _, none⟩) (za2 a4)).trans a4
   have z5 := (hb1.cell (p := ⟨g, _, none⟩) (za2 a5)).trans a5
   have z6 := (hb1.cell (p := ⟨g, _, none⟩) (za2 a6)).trans a6
   obtain ⟨okb, stb⟩ := (za0 HO).box (.true _ _) #[.int .i64 A, .int .i64 K, .string S, .slice pt t ct, .slice px x cx, .slice pb nb cb, .slice pe ne ce] 105 (by decide)
   have WT := za3 (wt.ok (fun _ _ => trivial) stb okb)
   have HK : Hid (zar ts ((List.range (k + 1)).flatMap tks) = zar (zar ts ((List.range k).flatMap tks)) (tks k)) := by
    show _ = _
    rw [List.range_succ, List.flatMap_append, za6]; simp
   clear a0 a1 a2 a3 a4 a5 a6 wt hb1 HP okb stb
   go_wp2_with (go_at_call 95; refine (za0 WT).mono ?_; clear WT; rintro x wb ⟨rfl, ok⟩)
   go_roundw
   case rel => exact ⟨k + 1, by go_num, by omega, (by rw [za0 HK]; exact ⟨ok.1, ok.2.1, ok.2.2.1, ok.2.2.2.1, ok.2.2.2.2.1, trivial⟩)⟩
   case measure => simp [intOf]; omega
  ·obtain rfl : k = n := by omega
   have hlt' : ¬ (k : Int) < (k : Int) := by omega
   go_wp2
   exact bodyPost_end (v := .tuple #[]) (by simp [results, Tryz.results64, go_sem]) rfl ((za0 HO).fin rfl)
theorem zgz (w0 : World) (D d : Nat) : ∀ m, SsAt w0 D d m
 | 0 => fun b T p c ss _ _ _ => by
  match ss with
  | [] => exact stmts_run w0 b T p 0 c (by omega) (fun _ => []) fun k hk => absurd hk (by omega)
  | x :: _ => exact nomatch x
 | m + 1 => fun b T p c ss hr hf hR => by
  obtain ⟨p', c', e, hp⟩ := hr
  injection e with e1 e2 e3
  subst e1
  obtain ⟨room, hR⟩ := hR
  rw [zb4, List.all_eq_true] at hR
  rw [zf3, zit]
  refine stmts_run w0 b T p ss.length c hf.1 _ fun k hk => ?_
  have hk' : ss[k]? = some ss[k] := by simp
  obtain ⟨g, o, vt, vx, vb, ve, rfl, a0, a1, a2, a3, a4, a5, a6, r1, r2, r3, r4⟩ := hp k _ hk'
  obtain ⟨f1, f2, f3⟩ := hf.2 _ (List.mem_of_getElem? hk')
  obtain ⟨pt, ct, rfl⟩ := r1.slice
  obtain ⟨px, cx, rfl⟩ := r2.1.slice
  obtain ⟨pb, cb, rfl⟩ := r3.slice
  obtain ⟨pe, ce, rfl⟩ := r4.slice
  refine ⟨g, o, _, _, _, pt, px, pb, pe, _, _, _, _, ct, cx, cb, ce, rfl, a0, a1, a2, a3, a4, a5, a6, ?_⟩
  rw [hk']
  exact stmt_of w0 D d m (zgz w0 D d m) b T ss[k] pt px pb pe ct cx cb ce r1 r2.1 r2.2 r3 r4 f1 f2 f3 ⟨room, hR _ (List.mem_of_getElem? hk')⟩
theorem zhf {p : Prop} [Decidable p] {a b : List Tok} (ha : Fits a) (hb : Fits b) : Fits (if p then a else b) := by
 by_cases h : p
 ·rw [if_pos h]; exact ha
 ·rw [if_neg h]; exact hb
theorem stT_fits {K : Int} {S : Bs} {ty x b e : List Tok} {ne : Nat} (hS : S.length ≤ 35184372088832) (h1 : Fits ty) (h2 : Fits x) (h3 : Fits b) (h4 : Fits e) : Fits (stT K S ty x b e ne) := by
 have hblk : ∀ {l : List Tok}, Fits l → Fits (tS [123] :: (l ++ [tS [125]])) := fun h => zap (by decide) (zaf h (zap (by decide) zae))
 unfold stT
 refine zhf (zap (by decide) (zaf (zaf h2 (hblk h3)) (zhf (zap (by decide) (hblk h4)) zae))) (zhf (zap (by decide) (zaf h2 (hblk h3))) (zaf ?_ (zaf h2 (zap (by decide) zae))))
 exact zhf (zap (by decide) (zap hS (zaf h1 (zap (by decide) zae)))) (zhf (zap hS (zap (by decide) zae)) (zhf (zap (by decide) zae) (zhf (zap (by decide) zae) zae)))
theorem fits_flat2 {α : Type} {l : List α} {f : α → List Tok} (h : ∀ a ∈ l, Fits (f a)) : Fits (l.flatMap f) := fun t ht => by
 obtain ⟨a, ha, hta⟩ := List.mem_flatMap.1 ht
 exact h a ha t hta
theorem zir (D d : Nat) : ∀ (m : Nat) (ss : List (St D d m)), zf0 D d m ss → Fits (zf3 D d m ss)
 | 0, _, _ => zae
 | m + 1, ss, h => by
  rw [zf3]
  refine fits_flat2 fun s hs => ?_
  obtain ⟨⟨s1, s2, s3, s4, s5, s6, s7⟩, hb, he⟩ := h.2 s hs
  exact stT_fits (by omega) (fits_flat2 fun t ht => zfg D false _ s2 t ht) (zi2 fun a ha => zkj D d _ s4 a ha) (zir D d m _ hb) (zir D d m _ he)
theorem Stmts_any (D d m : Nat) (p : Option Addr) (c : Nat) (ss : List (St D d m)) (w : World) (hv : StRow w D d m (.slice p ss.length c) ss) (hf : zf0 D d m ss) (ht : Tab w) (h5 : 4 ≤ w.heap.size) :
  Calls Tryz.prog 18 #[.slice p ss.length c] w fun e w' => e = .returned (zbk (zfh D d m ss)) ∧ Below w.heap.size w w' := by
 have RT := za3 (zh1 D d m _ ss 64 w hv hf (by omega) (by omega) ht h5)
 have HA : Hid (zfh D d m ss = if zb4 D d m 64 ss = true then join (zar [] (zf3 D d m ss)) else .inl 1) := rfl
 by_cases hr : zb4 D d m 64 ss = true
 ·rw [if_pos hr] at HA
  rw [hr] at RT
  obtain ⟨s, y, hj⟩ := zeg (join (zar [] (zf3 D d m ss)))
  have CL : Hid (∀ w1 : World, Below w.heap.size w w1 →
    Calls Tryz.prog 64 #[.pointer (some ⟨w1.heap.size, 0, none⟩), .slice p ss.length c] (w1.alloc (.cells #[.slice none 0 0] 108)) fun e w' => e = .returned (.tuple #[]) ∧ Below w.heap.size w w' ∧
     Calls Tryz.prog 56 #[.pointer (some ⟨w1.heap.size, 0, none⟩)] w' fun e w'' => e = .returned (.tuple #[.string s, .int .i64 y]) ∧ Below w.heap.size w w'') := fun w1 hw1 => by
   have hs1 := hw1.size
   have ha : Below w1.heap.size w1 (w1.alloc (.cells #[.slice none 0 0] 108)) := (Below.refl _ _).alloc (Nat.le_refl _) _
   refine (zgz w1 D d m w1.heap.size 108 p c ss (StRow.below hw1 m hv) hf ⟨64, hr⟩ [] _ (WrAt.new w1 _ (by decide)) (by simp) ha trivial).mono ?_
   rintro x w2 ⟨rfl, hW2, hB2, _⟩
   have hb2 : Below w.heap.size w w2 := hw1.trans ((ha.trans hB2).mono hs1)
   refine ⟨rfl, hb2, ?_⟩
   rw [← hj]
   refine (zjm _ _ _ _ w2 hW2 (zbu _ _ (by simp)) (zjd _ _ zae (zir D d m ss hf)) (ht.below hb2 h5) (by have := hb2.size; omega)).mono ?_
   rintro x w3 ⟨rfl, hb3⟩
   exact ⟨rfl, hb2.trans (hb3.mono hb2.size)⟩
  have HJ := za3 hj
  clear hj hv hf ht
  go_enter Tryz.func18, Tryz.ntmps18
  go_wp2_with (first
   | (go_at_call 63; refine (za0 RT).mono ?_; clear RT; rintro x w1 ⟨rfl, hb1⟩; have WT := za3 (za0 CL w1 hb1); clear CL)
   | (go_at_call 64; refine (za0 WT).mono ?_; clear WT; rintro x w2 ⟨rfl, hb2, tx⟩; have TX := za3 tx; clear tx)
   | (go_at_call 56; refine (za0 TX).mono ?_; clear TX; rintro x w3 ⟨rfl, hb3⟩))
  go_ret2
  exact ⟨by rw [za0 HA, za0 HJ]; rfl, hb3⟩
 ·have hr := (Bool.not_eq_true _).mp hr
  rw [if_neg (by rw [hr]; simp)] at HA
  rw [hr] at RT
  clear hv hf ht
  go_enter Tryz.func18, Tryz.ntmps18
  go_wp2_with (go_at_call 63; refine (za0 RT).mono ?_; clear RT; rintro x w1 ⟨rfl, hb1⟩)
  go_ret2
  exact ⟨by rw [za0 HA]; rfl, hb1⟩
end Go.Proofs.YtmpbbmfbgcpplaaGreatDoor
