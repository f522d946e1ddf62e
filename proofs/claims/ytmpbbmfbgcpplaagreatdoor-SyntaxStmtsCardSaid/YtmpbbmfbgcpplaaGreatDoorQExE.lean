import Derived.Test.YtmpbbmfbgcpplaaGreatDoorQExD
set_option maxHeartbeats 1500000
set_option maxRecDepth 100000
namespace Go.Proofs.YtmpbbmfbgcpplaaGreatDoor
open Go Go.RowKit Lx
theorem prim1 (w0 : World) (b : Nat) (T : TypeId) (A N : Int) (S : Bs) (pt pn pp : Option Addr) (nt n q ct cn cp : Nat) :
  Puts w0 b T (fun _ => True) 90 #[.pointer (some ⟨b, 0, none⟩), .agg #[.int .i64 A, .int .i64 1, .int .i64 N, .string ⟨S.toArray⟩, .slice pt nt ct, .slice pn n cn, .slice pp q cp]] ([(0, 4, [], N)]) := by
 intro ts w hw hts hb0 _
 obtain ⟨ok0, hS⟩ := zht hw hts hb0 #[.int .i64 A, .int .i64 1, .int .i64 N, .string ⟨S.toArray⟩, .slice pt nt ct, .slice pn n cn, .slice pp q cp] 28 (by decide)
 have HS := za3 hS
 have P0 := za3 ((number_puts w0 b T N).ok (fun _ _ => trivial) hS (ok0.drew hS))
 clear ok0 hS hw hb0 hts
 go_enter Tryz.func90, Tryz.ntmps90
 go_wp2
 go_region_with (go_at_call 123; refine (za0 P0).mono ?_; clear P0; rintro x wa ⟨rfl, ok⟩)
 all_goals
  go_wp2
  exact bodyPost_end (v := .tuple #[]) (by simp [results, Tryz.results90, go_sem]) rfl (ok.fin rfl)
theorem prim2 (w0 : World) (b : Nat) (T : TypeId) (A N : Int) (S : Bs) (pt pn pp : Option Addr) (nt n q ct cn cp : Nat) :
  Puts w0 b T (fun _ => True) 90 #[.pointer (some ⟨b, 0, none⟩), .agg #[.int .i64 A, .int .i64 2, .int .i64 N, .string ⟨S.toArray⟩, .slice pt nt ct, .slice pn n cn, .slice pp q cp]] ([(0, 5, S, 0)]) := by
 intro ts w hw hts hb0 _
 obtain ⟨ok0, hS⟩ := zht hw hts hb0 #[.int .i64 A, .int .i64 2, .int .i64 N, .string ⟨S.toArray⟩, .slice pt nt ct, .slice pn n cn, .slice pp q cp] 28 (by decide)
 have HS := za3 hS
 have P0 := za3 ((quoted_puts w0 b T S).ok (fun _ _ => trivial) hS (ok0.drew hS))
 clear ok0 hS hw hb0 hts
 go_enter Tryz.func90, Tryz.ntmps90
 go_wp2
 go_region_with (go_at_call 124; refine (za0 P0).mono ?_; clear P0; rintro x wa ⟨rfl, ok⟩)
 all_goals
  go_wp2
  exact bodyPost_end (v := .tuple #[]) (by simp [results, Tryz.results90, go_sem]) rfl (ok.fin rfl)
theorem prim3 (w0 : World) (b : Nat) (T : TypeId) (A N : Int) (S : Bs) (pt pn pp : Option Addr) (nt n q ct cn cp : Nat) :
  Puts w0 b T (fun _ => True) 90 #[.pointer (some ⟨b, 0, none⟩), .agg #[.int .i64 A, .int .i64 3, .int .i64 N, .string ⟨S.toArray⟩, .slice pt nt ct, .slice pn n cn, .slice pp q cp]] ([if N = 0 then tW [102, 97, 108, 115, 101] else tW [116, 114, 117, 101]]) := by
 intro ts w hw hts hb0 _
 obtain ⟨ok0, hS⟩ := zht hw hts hb0 #[.int .i64 A, .int .i64 3, .int .i64 N, .string ⟨S.toArray⟩, .slice pt nt ct, .slice pn n cn, .slice pp q cp] 28 (by decide)
 have HS := za3 hS
 have BA := bool_any w0 b T N
 obtain ⟨tk, htk⟩ : ∃ tk, tk = [if N = 0 then tW [102, 97, 108, 115, 101] else tW [116, 114, 117, 101]] := ⟨_, rfl⟩
 rw [← htk] at BA ⊢
 have P0 := za3 (BA.ok (fun _ _ => trivial) hS ok0)
 clear htk BA
 clear ok0 hS hw hb0 hts
 go_enter Tryz.func90, Tryz.ntmps90
 go_wp2_with (go_at_call 125; refine (za0 P0).mono ?_; clear P0; rintro x wa ⟨rfl, ok⟩)
 exact bodyPost_end (v := .tuple #[]) (by simp [results, Tryz.results90, go_sem]) rfl (ok.fin rfl)
theorem prim4 (w0 : World) (b : Nat) (T : TypeId) (A N : Int) (S : Bs) (pt pn pp : Option Addr) (nt n q ct cn cp : Nat) :
  Puts w0 b T (fun _ => True) 90 #[.pointer (some ⟨b, 0, none⟩), .agg #[.int .i64 A, .int .i64 4, .int .i64 N, .string ⟨S.toArray⟩, .slice pt nt ct, .slice pn n cn, .slice pp q cp]] ([tN S]) := by
 intro ts w hw hts hb0 _
 obtain ⟨ok0, hS⟩ := zht hw hts hb0 #[.int .i64 A, .int .i64 4, .int .i64 N, .string ⟨S.toArray⟩, .slice pt nt ct, .slice pn n cn, .slice pp q cp] 28 (by decide)
 have HS := za3 hS
 have P0 := za3 ((zf8 w0 b T S).ok (fun _ _ => trivial) hS (ok0.drew hS))
 clear ok0 hS hw hb0 hts
 go_enter Tryz.func90, Tryz.ntmps90
 go_wp2
 go_region_with (go_at_call 104; refine (za0 P0).mono ?_; clear P0; rintro x wa ⟨rfl, ok⟩)
 all_goals
  go_wp2
  exact bodyPost_end (v := .tuple #[]) (by simp [results, Tryz.results90, go_sem]) rfl (ok.fin rfl)
theorem prim5 (w0 : World) (b : Nat) (T : TypeId) (A N : Int) (S : Bs) (pt pn pp : Option Addr) (nt n q ct cn cp : Nat) :
  Puts w0 b T (fun _ => True) 90 #[.pointer (some ⟨b, 0, none⟩), .agg #[.int .i64 A, .int .i64 5, .int .i64 N, .string ⟨S.toArray⟩, .slice pt nt ct, .slice pn n cn, .slice pp q cp]] ([tW [115, 101, 108, 102]]) := by
 intro ts w hw hts hb0 _
 obtain ⟨ok0, hS⟩ := zht hw hts hb0 #[.int .i64 A, .int .i64 5, .int .i64 N, .string ⟨S.toArray⟩, .slice pt nt ct, .slice pn n cn, .slice pp q cp] 28 (by decide)
 have HS := za3 hS
 have P0 := za3 ((zb9 w0 b T [115, 101, 108, 102]).ok (fun _ _ => trivial) hS ok0)
 clear ok0 hS hw hb0 hts
 go_enter Tryz.func90, Tryz.ntmps90
 go_wp2_with (go_at_call 89; refine (za0 P0).mono ?_; clear P0; rintro x wa ⟨rfl, ok⟩)
 exact bodyPost_end (v := .tuple #[]) (by simp [results, Tryz.results90, go_sem]) rfl (ok.fin rfl)
theorem prim6 (w0 : World) (b : Nat) (T : TypeId) (A N : Int) (S : Bs) (pt pn pp : Option Addr) (n q ct cn cp : Nat) (tkT : List Tok) (hT : TyPart w0 b T 77 pt 0 tkT) :
  Puts w0 b T (fun _ => True) 90 #[.pointer (some ⟨b, 0, none⟩), .agg #[.int .i64 A, .int .i64 6, .int .i64 N, .string ⟨S.toArray⟩, .slice pt 1 ct, .slice pn n cn, .slice pp q cp]] (tW [110, 105, 108] :: tkT) := by
 intro ts w hw hts hb0 _
 obtain ⟨gt, ot, Kt, St, q1, q2, q3, k1, k2, k3, d1, d2, d3, rfl, wtT, ft⟩ := hT.first
 obtain ⟨ok0, hS⟩ := zht hw hts hb0 #[.int .i64 A, .int .i64 6, .int .i64 N, .string ⟨S.toArray⟩, .slice (some ⟨gt, ot, none⟩) 1 ct, .slice pn n cn, .slice pp q cp] 28 (by decide)
 have HS := za3 hS
 have P0 := za3 ((zb9 w0 b T [110, 105, 108]).ok (fun _ _ => trivial) hS ok0)
 have P2 := za3 wtT
 have FT := za3 ft
 clear wtT ft hT
 clear ok0 hS hw hb0 hts
 go_enter Tryz.func90, Tryz.ntmps90
 go_wp2_with (go_at_call 89; refine (za0 P0).mono ?_; clear P0; rintro x wa ⟨rfl, ok⟩; have m := xBox.cells ok.2.2.2.2.2; obtain ⟨m0, m1, m2, m3, m4, m5, m6⟩ := m; obtain ⟨z0, z1, z2, z3, z4⟩ := za0 FT _ ok.2.2.1; have OK2 := za3 ok; clear ok)
 go_region_with (go_at_call 77; refine ((za0 P2).ok (fun _ _ => trivial) (za0 HS) ((za0 OK2).drew (za0 HS))).mono ?_; clear P2; rintro x wc ⟨rfl, ok⟩)
 all_goals
  go_wp2
  exact bodyPost_end (v := .tuple #[]) (by simp [results, Tryz.results90, go_sem]) rfl (ok.fin rfl)
theorem prim7 (w0 : World) (b : Nat) (T : TypeId) (A N : Int) (S : Bs) (pt pn pp : Option Addr) (nt n q ct cn cp : Nat) (tk : List Tok) (hP : Puts w0 b T (fun _ => True) 126 #[.pointer (some ⟨b, 0, none⟩), .agg #[.int .i64 A, .int .i64 7, .int .i64 N, .string ⟨S.toArray⟩, .slice pt nt ct, .slice pn n cn, .slice pp q cp]] tk) :
  Puts w0 b T (fun _ => True) 90 #[.pointer (some ⟨b, 0, none⟩), .agg #[.int .i64 A, .int .i64 7, .int .i64 N, .string ⟨S.toArray⟩, .slice pt nt ct, .slice pn n cn, .slice pp q cp]] (tk) := by
 intro ts w hw hts hb0 _
 obtain ⟨ok0, hS⟩ := zht hw hts hb0 #[.int .i64 A, .int .i64 7, .int .i64 N, .string ⟨S.toArray⟩, .slice pt nt ct, .slice pn n cn, .slice pp q cp] 28 (by decide)
 have HS := za3 hS
 have P0 := za3 ((hP).ok (fun _ _ => trivial) hS ok0)
 clear hP ok0 hS hw hb0 hts
 go_enter Tryz.func90, Tryz.ntmps90
 go_wp2_with (go_at_call 126; refine (za0 P0).mono ?_; clear P0; rintro x wa ⟨rfl, ok⟩)
 exact bodyPost_end (v := .tuple #[]) (by simp [results, Tryz.results90, go_sem]) rfl (ok.fin rfl)
theorem prim8 (w0 : World) (b : Nat) (T : TypeId) (A N : Int) (S : Bs) (pt pn pp : Option Addr) (nt n q ct cn cp : Nat) (tk : List Tok) (hP : Puts w0 b T (fun _ => True) 126 #[.pointer (some ⟨b, 0, none⟩), .agg #[.int .i64 A, .int .i64 8, .int .i64 N, .string ⟨S.toArray⟩, .slice pt nt ct, .slice pn n cn, .slice pp q cp]] tk) :
  Puts w0 b T (fun _ => True) 90 #[.pointer (some ⟨b, 0, none⟩), .agg #[.int .i64 A, .int .i64 8, .int .i64 N, .string ⟨S.toArray⟩, .slice pt nt ct, .slice pn n cn, .slice pp q cp]] (tW [110, 101, 119] :: tk) := by
 intro ts w hw hts hb0 _
 obtain ⟨ok0, hS⟩ := zht hw hts hb0 #[.int .i64 A, .int .i64 8, .int .i64 N, .string ⟨S.toArray⟩, .slice pt nt ct, .slice pn n cn, .slice pp q cp] 28 (by decide)
 have HS := za3 hS
 have P0 := za3 ((zb9 w0 b T [110, 101, 119]).ok (fun _ _ => trivial) hS ok0)
 have P2 := za3 hP
 clear hP ok0 hS hw hb0 hts
 go_enter Tryz.func90, Tryz.ntmps90
 go_wp2_with (first | (go_at_call 89; refine (za0 P0).mono ?_; clear P0; rintro x wa ⟨rfl, ok⟩; have m := xBox.cells ok.2.2.2.2.2; obtain ⟨m0, m1, m2, m3, m4, m5, m6⟩ := m; have OK2 := za3 ok; clear ok) | (go_at_call 126; refine ((za0 P2).ok (fun _ _ => trivial) (za0 HS) (za0 OK2)).mono ?_; clear P2; rintro x wb ⟨rfl, ok⟩))
 exact bodyPost_end (v := .tuple #[]) (by simp [results, Tryz.results90, go_sem]) rfl (ok.fin rfl)
theorem post_apply (w0 : World) (b : Nat) (T : TypeId) (A N : Int) (S : Bs) (pt pn pp : Option Addr) (nt n q m ct cn cp : Nat) (hm : q = m + 1) (hq : q ≤ 1000000) (hc : q ≤ cp) (Ks : Nat → Int) (tk : Nat → List Tok) (hP : ∀ k, k < q → ExPart w0 b T pp k (Ks k) (tk k)) (h9 : Ks 0 ≠ 9) :
  Puts w0 b T (fun _ => True) 86 #[.pointer (some ⟨b, 0, none⟩), .agg #[.int .i64 A, .int .i64 11, .int .i64 N, .string ⟨S.toArray⟩, .slice pt nt ct, .slice pn n cn, .slice pp q cp]] (zaz (Ks 0) 7 (tk 0) ++ zfy m (fun k => zaz (Ks (k + 1)) 1 (tk (k + 1)))) := by
 intro ts w hw hts hb0 _
 obtain ⟨g, o, A0, N0, S0, p1, p2, p3, n1, n2, n3, c1, c2, c3, rfl, wt0, ff⟩ := (hP 0 (by omega)).first
 obtain ⟨ok0, hS⟩ := zht hw hts hb0 #[.int .i64 A, .int .i64 11, .int .i64 N, .string ⟨S.toArray⟩, .slice pt nt ct, .slice pn n cn, .slice (some ⟨g, o, none⟩) q cp] 28 (by decide)
 have P0 := za3 ((zdy w0 b T _ _ _ _ _ _ _ _ _ _ _ _ _ 7 _ wt0).ok (fun _ _ => trivial) hS ok0)
 have AR : ∀ (pl : Option Addr) (cl k : Nat), k = m → (pl = some ⟨g, o + 7, none⟩ ∨ m = 0) → Puts w0 b T (fun _ => True) 121 #[.pointer (some ⟨b, 0, none⟩), .slice pl k cl] (zfy m (fun k => zaz (Ks (k + 1)) 1 (tk (k + 1)))) := fun pl cl k hk h => by
  subst hk
  refine args_any w0 b T pl k cl (by omega) (fun i => Ks (i + 1)) (fun i => tk (i + 1)) (fun i hi => ?_)
  rcases h with rfl | h
  ·exact (hP (i + 1) (by omega)).tail
  ·omega
 have HS := za3 hS
 have hq0 : (0 : Int) < (q : Int) := by omega
 have hq1 : (1 : Int) ≤ (q : Int) := by omega
 have hq2 : 1 ≤ q := by omega
 have hc' : (q : Int) ≤ (cp : Int) := by omega
 have z9 : (Ks 0 == 9) = false := beq_eq_false_iff_ne.2 h9
 obtain ⟨y0, y1, y2, y3, y4, y5, y6⟩ := ff _ ok0.2.2.1
 clear ok0 hS hw hb0 hts wt0 ff hP
 by_cases hc1 : cp = 1
 ·obtain rfl : q = 1 := by omega
  obtain rfl : m = 0 := by omega
  subst hc1
  have AR1 := za3 (AR (some ⟨g, o, none⟩) 0 0 rfl (.inr rfl))
  clear AR hm hq0 hq1 hq2 hc'
  go_enter Tryz.func86, Tryz.ntmps86
  go_wp2_with (first | (go_at_call 88; refine (za0 P0).mono ?_; clear P0; rintro x wa ⟨rfl, ok⟩; have m := xBox.cells ok.2.2.2.2.2; obtain ⟨m0, m1, m2, m3, m4, m5, m6⟩ := m; have OK1 := za3 ok; clear ok) | (go_at_call 121; refine ((za0 AR1).ok (fun _ _ => trivial) (za0 HS) (za0 OK1)).mono ?_; clear AR1; rintro x wc ⟨rfl, ok⟩))
  all_goals
   exact bodyPost_end (v := .tuple #[]) (by simp [results, Tryz.results86, go_sem]) rfl (ok.fin (by rw [za6]))
 ·have hc2 : 1 < cp := by omega
  have hc3 : ¬ (cp : Int) = 1 := by omega
  have hc4 : ((cp : Int) == 1) = false := beq_eq_false_iff_ne.2 hc3
  have AR1 := za3 (AR (some ⟨g, o + 7, none⟩) (cp - 1) (q - 1) (by omega) (.inl rfl))
  clear AR hm
  go_enter Tryz.func86, Tryz.ntmps86
  go_wp2_with (first | (go_at_call 88; refine (za0 P0).mono ?_; clear P0; rintro x wa ⟨rfl, ok⟩; have m := xBox.cells ok.2.2.2.2.2; obtain ⟨m0, m1, m2, m3, m4, m5, m6⟩ := m; have OK1 := za3 ok; clear ok) | (go_at_call 121; refine ((za0 AR1).ok (fun _ _ => trivial) (za0 HS) (za0 OK1)).mono ?_; clear AR1; rintro x wc ⟨rfl, ok⟩))
  all_goals
   exact bodyPost_end (v := .tuple #[]) (by simp [results, Tryz.results86, go_sem]) rfl (ok.fin (by rw [za6]))
theorem post_apply9 (w0 : World) (b : Nat) (T : TypeId) (A N : Int) (S : Bs) (pt pn pp : Option Addr) (nt n q m ct cn cp : Nat) (hm : q = m + 1) (hq : q ≤ 1000000) (hc : q ≤ cp) (Ks : Nat → Int) (tk : Nat → List Tok) (hP : ∀ k, k < q → ExPart w0 b T pp k (Ks k) (tk k)) (h9 : Ks 0 = 9) :
  Puts w0 b T (fun _ => True) 86 #[.pointer (some ⟨b, 0, none⟩), .agg #[.int .i64 A, .int .i64 11, .int .i64 N, .string ⟨S.toArray⟩, .slice pt nt ct, .slice pn n cn, .slice pp q cp]] (zeq (tk 0) ++ zfy m (fun k => zaz (Ks (k + 1)) 1 (tk (k + 1)))) := by
 intro ts w hw hts hb0 _
 obtain ⟨g, o, A0, N0, S0, p1, p2, p3, n1, n2, n3, c1, c2, c3, rfl, wt0, ff⟩ := (hP 0 (by omega)).first
 obtain ⟨ok0, hS⟩ := zht hw hts hb0 #[.int .i64 A, .int .i64 11, .int .i64 N, .string ⟨S.toArray⟩, .slice pt nt ct, .slice pn n cn, .slice (some ⟨g, o, none⟩) q cp] 28 (by decide)
 have P0 := za3 ((aside_any w0 b T _ _ _ _ _ _ _ _ _ _ _ _ _ _ wt0).ok (fun _ _ => trivial) hS ok0)
 have AR : ∀ (pl : Option Addr) (cl k : Nat), k = m → (pl = some ⟨g, o + 7, none⟩ ∨ m = 0) → Puts w0 b T (fun _ => True) 121 #[.pointer (some ⟨b, 0, none⟩), .slice pl k cl] (zfy m (fun k => zaz (Ks (k + 1)) 1 (tk (k + 1)))) := fun pl cl k hk h => by
  subst hk
  refine args_any w0 b T pl k cl (by omega) (fun i => Ks (i + 1)) (fun i => tk (i + 1)) (fun i hi => ?_)
  rcases h with rfl | h
  ·exact (hP (i + 1) (by omega)).tail
  ·omega
 have HS := za3 hS
 have hq0 : (0 : Int) < (q : Int) := by omega
 have hq1 : (1 : Int) ≤ (q : Int) := by omega
 have hq2 : 1 ≤ q := by omega
 have hc' : (q : Int) ≤ (cp : Int) := by omega
 obtain ⟨y0, y1, y2, y3, y4, y5, y6⟩ := ff _ ok0.2.2.1
 rw [h9] at y1 P0
 clear ok0 hS hw hb0 hts wt0 ff hP
 by_cases hc1 : cp = 1
 ·obtain rfl : q = 1 := by omega
  obtain rfl : m = 0 := by omega
  subst hc1
  have AR1 := za3 (AR (some ⟨g, o, none⟩) 0 0 rfl (.inr rfl))
  clear AR hm hq0 hq1 hq2 hc'
  go_enter Tryz.func86, Tryz.ntmps86
  go_wp2_with (first | (go_at_call 120; refine (za0 P0).mono ?_; clear P0; rintro x wa ⟨rfl, ok⟩; have m := xBox.cells ok.2.2.2.2.2; obtain ⟨m0, m1, m2, m3, m4, m5, m6⟩ := m; have OK1 := za3 ok; clear ok) | (go_at_call 121; refine ((za0 AR1).ok (fun _ _ => trivial) (za0 HS) (za0 OK1)).mono ?_; clear AR1; rintro x wc ⟨rfl, ok⟩))
  all_goals
   exact bodyPost_end (v := .tuple #[]) (by simp [results, Tryz.results86, go_sem]) rfl (ok.fin (by rw [za6]))
 ·have hc2 : 1 < cp := by omega
  have hc3 : ¬ (cp : Int) = 1 := by omega
  have hc4 : ((cp : Int) == 1) = false := beq_eq_false_iff_ne.2 hc3
  have AR1 := za3 (AR (some ⟨g, o + 7, none⟩) (cp - 1) (q - 1) (by omega) (.inl rfl))
  clear AR hm
  go_enter Tryz.func86, Tryz.ntmps86
  go_wp2_with (first | (go_at_call 120; refine (za0 P0).mono ?_; clear P0; rintro x wa ⟨rfl, ok⟩; have m := xBox.cells ok.2.2.2.2.2; obtain ⟨m0, m1, m2, m3, m4, m5, m6⟩ := m; have OK1 := za3 ok; clear ok) | (go_at_call 121; refine ((za0 AR1).ok (fun _ _ => trivial) (za0 HS) (za0 OK1)).mono ?_; clear AR1; rintro x wc ⟨rfl, ok⟩))
  all_goals
   exact bodyPost_end (v := .tuple #[]) (by simp [results, Tryz.results86, go_sem]) rfl (ok.fin (by rw [za6]))
theorem post_call (w0 : World) (b : Nat) (T : TypeId) (A N : Int) (S : Bs) (pt pn pp : Option Addr) (nt n q m ct cn cp : Nat) (hm : q = m + 1) (hq : q ≤ 1000000) (hc : q ≤ cp) (Ks : Nat → Int) (tk : Nat → List Tok) (hP : ∀ k, k < q → ExPart w0 b T pp k (Ks k) (tk k)) :
  Puts w0 b T (fun _ => True) 86 #[.pointer (some ⟨b, 0, none⟩), .agg #[.int .i64 A, .int .i64 10, .int .i64 N, .string ⟨S.toArray⟩, .slice pt nt ct, .slice pn n cn, .slice pp q cp]] (zaz (Ks 0) 7 (tk 0) ++ tS [46] :: tN S :: zfy m (fun k => zaz (Ks (k + 1)) 1 (tk (k + 1)))) := by
 intro ts w hw hts hb0 _
 obtain ⟨g, o, A0, N0, S0, p1, p2, p3, n1, n2, n3, c1, c2, c3, rfl, wt0, ff⟩ := (hP 0 (by omega)).first
 obtain ⟨ok0, hS⟩ := zht hw hts hb0 #[.int .i64 A, .int .i64 10, .int .i64 N, .string ⟨S.toArray⟩, .slice pt nt ct, .slice pn n cn, .slice (some ⟨g, o, none⟩) q cp] 28 (by decide)
 have P0 := za3 ((zdy w0 b T _ _ _ _ _ _ _ _ _ _ _ _ _ 7 _ wt0).ok (fun _ _ => trivial) hS ok0)
 have P1 := za3 (zbn w0 b T [46])
 have P2 := za3 (zf8 w0 b T S)
 have AR : ∀ (pl : Option Addr) (cl k : Nat), k = m → (pl = some ⟨g, o + 7, none⟩ ∨ m = 0) → Puts w0 b T (fun _ => True) 121 #[.pointer (some ⟨b, 0, none⟩), .slice pl k cl] (zfy m (fun k => zaz (Ks (k + 1)) 1 (tk (k + 1)))) := fun pl cl k hk h => by
  subst hk
  refine args_any w0 b T pl k cl (by omega) (fun i => Ks (i + 1)) (fun i => tk (i + 1)) (fun i hi => ?_)
  rcases h with rfl | h
  ·exact (hP (i + 1) (by omega)).tail
  ·omega
 have HS := za3 hS
 have hq0 : (0 : Int) < (q : Int) := by omega
 have hq1 : (1 : Int) ≤ (q : Int) := by omega
 have hq2 : 1 ≤ q := by omega
 have hc' : (q : Int) ≤ (cp : Int) := by omega
 obtain ⟨y0, y1, y2, y3, y4, y5, y6⟩ := ff _ ok0.2.2.1
 clear ok0 hS hw hb0 hts wt0 ff hP
 by_cases hc1 : cp = 1
 ·obtain rfl : q = 1 := by omega
  obtain rfl : m = 0 := by omega
  subst hc1
  have AR1 := za3 (AR (some ⟨g, o, none⟩) 0 0 rfl (.inr rfl))
  clear AR hm hq0 hq1 hq2 hc'
  go_enter Tryz.func86, Tryz.ntmps86
  go_wp2_with (first | (go_at_call 88; refine (za0 P0).mono ?_; clear P0; rintro x wa ⟨rfl, ok⟩; have m := xBox.cells ok.2.2.2.2.2; obtain ⟨m0, m1, m2, m3, m4, m5, m6⟩ := m; have OK1 := za3 ok; clear ok) | (go_at_call 87; refine ((za0 P1).ok (fun _ _ => trivial) (za0 HS) (za0 OK1)).mono ?_; clear P1; rintro x wb ⟨rfl, ok⟩; have m := xBox.cells ok.2.2.2.2.2; obtain ⟨m0, m1, m2, m3, m4, m5, m6⟩ := m; have OK2 := za3 ok; clear ok))
  go_region_with (go_at_call 104; refine ((za0 P2).ok (fun _ _ => trivial) (za0 HS) ((za0 OK2).drew (za0 HS))).mono ?_; clear P2; rintro x wd ⟨rfl, ok⟩; have m := xBox.cells ok.2.2.2.2.2; obtain ⟨m0, m1, m2, m3, m4, m5, m6⟩ := m; have OK3 := za3 ok; clear ok)
  all_goals
   go_wp2_with (go_at_call 121; refine ((za0 AR1).ok (fun _ _ => trivial) (za0 HS) (za0 OK3)).mono ?_; clear AR1; rintro x wc ⟨rfl, ok⟩)
   all_goals
    exact bodyPost_end (v := .tuple #[]) (by simp [results, Tryz.results86, go_sem]) rfl (ok.fin (by rw [za6]; rfl))
 ·have hc2 : 1 < cp := by omega
  have hc3 : ¬ (cp : Int) = 1 := by omega
  have hc4 : ((cp : Int) == 1) = false := beq_eq_false_iff_ne.2 hc3
  have AR1 := za3 (AR (some ⟨g, o + 7, none⟩) (cp - 1) (q - 1) (by omega) (.inl rfl))
  clear AR hm
  go_enter Tryz.func86, Tryz.ntmps86
  go_wp2_with (first | (go_at_call 88; refine (za0 P0).mono ?_; clear P0; rintro x wa ⟨rfl, ok⟩; have m := xBox.cells ok.2.2.2.2.2; obtain ⟨m0, m1, m2, m3, m4, m5, m6⟩ := m; have OK1 := za3 ok; clear ok) | (go_at_call 87; refine ((za0 P1).ok (fun _ _ => trivial) (za0 HS) (za0 OK1)).mono ?_; clear P1; rintro x wb ⟨rfl, ok⟩; have m := xBox.cells ok.2.2.2.2.2; obtain ⟨m0, m1, m2, m3, m4, m5, m6⟩ := m; have OK2 := za3 ok; clear ok))
  go_region_with (go_at_call 104; refine ((za0 P2).ok (fun _ _ => trivial) (za0 HS) ((za0 OK2).drew (za0 HS))).mono ?_; clear P2; rintro x wd ⟨rfl, ok⟩; have m := xBox.cells ok.2.2.2.2.2; obtain ⟨m0, m1, m2, m3, m4, m5, m6⟩ := m; have OK3 := za3 ok; clear ok)
  all_goals
   go_wp2_with (go_at_call 121; refine ((za0 AR1).ok (fun _ _ => trivial) (za0 HS) (za0 OK3)).mono ?_; clear AR1; rintro x wc ⟨rfl, ok⟩)
   all_goals
    exact bodyPost_end (v := .tuple #[]) (by simp [results, Tryz.results86, go_sem]) rfl (ok.fin (by rw [za6]; rfl))
end Go.Proofs.YtmpbbmfbgcpplaaGreatDoor
