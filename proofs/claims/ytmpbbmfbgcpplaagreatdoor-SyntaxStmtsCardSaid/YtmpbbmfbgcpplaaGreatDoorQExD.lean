import Derived.Test.YtmpbbmfbgcpplaaGreatDoorQExC
set_option maxHeartbeats 1500000
set_option maxRecDepth 100000
namespace Go.Proofs.YtmpbbmfbgcpplaaGreatDoor
open Go Go.RowKit Lx
theorem ExPart.first {w0 : World} {b : Nat} {T : TypeId} {pp : Option Addr} {K : Int} {tk : List Tok} (h : ExPart w0 b T pp 0 K tk) :
  ∃ (g o : Nat) (A N : Int) (S : ByteArray) (p1 p2 p3 : Option Addr) (n1 n2 n3 c1 c2 c3 : Nat), pp = some ⟨g, o, none⟩ ∧ XPuts w0 b T A K N S p1 p2 p3 n1 n2 n3 c1 c2 c3 tk ∧ ∀ V : World, Below w0.heap.size w0 V → V.cell? ⟨g, o, none⟩ = some (.int .i64 A) ∧ V.cell? ⟨g, o + 1, none⟩ = some (.int .i64 K) ∧ V.cell? ⟨g, o + 2, none⟩ = some (.int .i64 N) ∧ V.cell? ⟨g, o + 3, none⟩ = some (.string S) ∧ V.cell? ⟨g, o + 4, none⟩ = some (.slice p1 n1 c1) ∧ V.cell? ⟨g, o + 5, none⟩ = some (.slice p2 n2 c2) ∧ V.cell? ⟨g, o + 6, none⟩ = some (.slice p3 n3 c3) := by
 obtain ⟨g, o, A, N, S, p1, p2, p3, n1, n2, n3, c1, c2, c3, rfl, a0, a1, a2, a3, a4, a5, a6, wt⟩ := h
 exact ⟨g, o, A, N, S, p1, p2, p3, n1, n2, n3, c1, c2, c3, rfl, wt, fun V h => ⟨by simpa using (h.cell (p := ⟨g, _, none⟩) (za2 a0)).trans a0, by simpa using (h.cell (p := ⟨g, _, none⟩) (za2 a1)).trans a1, by simpa using (h.cell (p := ⟨g, _, none⟩) (za2 a2)).trans a2, by simpa using (h.cell (p := ⟨g, _, none⟩) (za2 a3)).trans a3, by simpa using (h.cell (p := ⟨g, _, none⟩) (za2 a4)).trans a4, by simpa using (h.cell (p := ⟨g, _, none⟩) (za2 a5)).trans a5, by simpa using (h.cell (p := ⟨g, _, none⟩) (za2 a6)).trans a6⟩⟩
theorem TyPart.first {w0 : World} {b : Nat} {T : TypeId} {F : FuncId} {pp : Option Addr} {tk : List Tok} (h : TyPart w0 b T F pp 0 tk) :
  ∃ (g o : Nat) (K : Int) (S : ByteArray) (p1 p2 p3 : Option Addr) (n1 n2 n3 c1 c2 c3 : Nat), pp = some ⟨g, o, none⟩ ∧ Puts w0 b T (fun _ => True) F #[.pointer (some ⟨b, 0, none⟩), .agg #[.int .i64 K, .string S, .slice p1 n1 c1, .slice p2 n2 c2, .slice p3 n3 c3]] tk ∧ ∀ V : World, Below w0.heap.size w0 V → V.cell? ⟨g, o, none⟩ = some (.int .i64 K) ∧ V.cell? ⟨g, o + 1, none⟩ = some (.string S) ∧ V.cell? ⟨g, o + 2, none⟩ = some (.slice p1 n1 c1) ∧ V.cell? ⟨g, o + 3, none⟩ = some (.slice p2 n2 c2) ∧ V.cell? ⟨g, o + 4, none⟩ = some (.slice p3 n3 c3) := by
 obtain ⟨g, o, K, S, p1, p2, p3, n1, n2, n3, c1, c2, c3, rfl, a0, a1, a2, a3, a4, wt⟩ := h
 exact ⟨g, o, K, S, p1, p2, p3, n1, n2, n3, c1, c2, c3, rfl, wt, fun V h => ⟨by simpa using (h.cell (p := ⟨g, _, none⟩) (za2 a0)).trans a0, by simpa using (h.cell (p := ⟨g, _, none⟩) (za2 a1)).trans a1, by simpa using (h.cell (p := ⟨g, _, none⟩) (za2 a2)).trans a2, by simpa using (h.cell (p := ⟨g, _, none⟩) (za2 a3)).trans a3, by simpa using (h.cell (p := ⟨g, _, none⟩) (za2 a4)).trans a4⟩⟩
theorem ExPart.tail {w0 : World} {b : Nat} {T : TypeId} {g o k : Nat} {K : Int} {tk : List Tok} (h : ExPart w0 b T (some ⟨g, o, none⟩) (k + 1) K tk) : ExPart w0 b T (some ⟨g, o + 7, none⟩) k K tk := by
 obtain ⟨g', o', A, N, S, p1, p2, p3, n1, n2, n3, c1, c2, c3, e, a0, a1, a2, a3, a4, a5, a6, wt⟩ := h
 obtain ⟨rfl, rfl⟩ : g = g' ∧ o = o' := by simpa using e
 have e : ∀ i, o + (k + 1) * 7 + i = o + 7 + k * 7 + i := fun i => by omega
 refine ⟨g, o + 7, A, N, S, p1, p2, p3, n1, n2, n3, c1, c2, c3, rfl, ?_, ?_, ?_, ?_, ?_, ?_, ?_, wt⟩
 ·have := e 0; simp only [Nat.add_zero] at this; rw [← this]; exact a0
 ·rw [← e 1]; exact a1
 ·rw [← e 2]; exact a2
 ·rw [← e 3]; exact a3
 ·rw [← e 4]; exact a4
 ·rw [← e 5]; exact a5
 ·rw [← e 6]; exact a6
theorem post_to (w0 : World) (b : Nat) (T : TypeId) (A N : Int) (S : Bs) (pt pn pp : Option Addr) (n ct cn cp : Nat) (K0 : Int) (tk0 tkT : List Tok) (hP0 : ExPart w0 b T pp 0 K0 tk0) (hT : TyPart w0 b T 77 pt 0 tkT) :
  Puts w0 b T (fun _ => True) 86 #[.pointer (some ⟨b, 0, none⟩), .agg #[.int .i64 A, .int .i64 12, .int .i64 N, .string ⟨S.toArray⟩, .slice pt 1 ct, .slice pn n cn, .slice pp 1 cp]] (zaz K0 7 tk0 ++ tW [116, 111] :: tkT) := by
 intro ts w hw hts hb0 _
 obtain ⟨g, o, A0, N0, S0, p1, p2, p3, n1, n2, n3, c1, c2, c3, rfl, wt0, ff⟩ := hP0.first
 obtain ⟨gt, ot, Kt, St, q1, q2, q3, k1, k2, k3, d1, d2, d3, rfl, wtT, ft⟩ := hT.first
 obtain ⟨ok0, hS⟩ := zht hw hts hb0 #[.int .i64 A, .int .i64 12, .int .i64 N, .string ⟨S.toArray⟩, .slice (some ⟨gt, ot, none⟩) 1 ct, .slice pn n cn, .slice (some ⟨g, o, none⟩) 1 cp] 28 (by decide)
 have FT := za3 ft
 have P0 := za3 ((zdy w0 b T _ _ _ _ _ _ _ _ _ _ _ _ _ 7 _ wt0).ok (fun _ _ => trivial) hS ok0)
 have P1 := za3 (zb9 w0 b T [116, 111])
 have P2 := za3 wtT
 have HS := za3 hS
 obtain ⟨y0, y1, y2, y3, y4, y5, y6⟩ := ff _ ok0.2.2.1
 clear ok0 hS hw hb0 hts wt0 wtT ff ft hP0 hT
 go_enter Tryz.func86, Tryz.ntmps86
 go_wp2_with (first
  | (go_at_call 88; refine (za0 P0).mono ?_; clear P0; rintro x wa ⟨rfl, ok⟩; have m := xBox.cells ok.2.2.2.2.2; obtain ⟨m0, m1, m2, m3, m4, m5, m6⟩ := m; have OK1 := za3 ok; clear ok)
  | (go_at_call 89; refine ((za0 P1).ok (fun _ _ => trivial) (za0 HS) (za0 OK1)).mono ?_; clear P1; rintro x wb ⟨rfl, ok⟩; have m := xBox.cells ok.2.2.2.2.2; obtain ⟨m0, m1, m2, m3, m4, m5, m6⟩ := m; obtain ⟨z0, z1, z2, z3, z4⟩ := za0 FT _ ok.2.2.1; have OK2 := za3 ok; clear ok))
 go_region_with (go_at_call 77; refine ((za0 P2).ok (fun _ _ => trivial) (za0 HS) ((za0 OK2).drew (za0 HS))).mono ?_; clear P2; rintro x wc ⟨rfl, ok⟩)
 all_goals
  go_wp2
  exact bodyPost_end (v := .tuple #[]) (by simp [results, Tryz.results86, go_sem]) rfl (ok.fin (by rw [za6, zal]; rfl))
theorem post_field (w0 : World) (b : Nat) (T : TypeId) (A N : Int) (S : Bs) (pt pn pp : Option Addr) (nt n ct cn cp : Nat) (K0 : Int) (tk0 : List Tok) (hP0 : ExPart w0 b T pp 0 K0 tk0) :
  Puts w0 b T (fun _ => True) 86 #[.pointer (some ⟨b, 0, none⟩), .agg #[.int .i64 A, .int .i64 9, .int .i64 N, .string ⟨S.toArray⟩, .slice pt nt ct, .slice pn n cn, .slice pp 1 cp]] (zaz K0 7 tk0 ++ [tS [46], tN S]) := by
 intro ts w hw hts hb0 _
 obtain ⟨g, o, A0, N0, S0, p1, p2, p3, n1, n2, n3, c1, c2, c3, rfl, wt0, ff⟩ := hP0.first
 obtain ⟨ok0, hS⟩ := zht hw hts hb0 #[.int .i64 A, .int .i64 9, .int .i64 N, .string ⟨S.toArray⟩, .slice pt nt ct, .slice pn n cn, .slice (some ⟨g, o, none⟩) 1 cp] 28 (by decide)
 have P0 := za3 ((zdy w0 b T _ _ _ _ _ _ _ _ _ _ _ _ _ 7 _ wt0).ok (fun _ _ => trivial) hS ok0)
 have P1 := za3 (zbn w0 b T [46])
 have P2 := za3 (zf8 w0 b T S)
 have HS := za3 hS
 obtain ⟨y0, y1, y2, y3, y4, y5, y6⟩ := ff _ ok0.2.2.1
 clear ok0 hS hw hb0 hts wt0 ff hP0
 go_enter Tryz.func86, Tryz.ntmps86
 go_wp2_with (first
  | (go_at_call 88; refine (za0 P0).mono ?_; clear P0; rintro x wa ⟨rfl, ok⟩; have m := xBox.cells ok.2.2.2.2.2; obtain ⟨m0, m1, m2, m3, m4, m5, m6⟩ := m; have OK1 := za3 ok; clear ok)
  | (go_at_call 87; refine ((za0 P1).ok (fun _ _ => trivial) (za0 HS) (za0 OK1)).mono ?_; clear P1; rintro x wb ⟨rfl, ok⟩; have m := xBox.cells ok.2.2.2.2.2; obtain ⟨m0, m1, m2, m3, m4, m5, m6⟩ := m; have OK2 := za3 ok; clear ok))
 go_region_with (go_at_call 104; refine ((za0 P2).ok (fun _ _ => trivial) (za0 HS) ((za0 OK2).drew (za0 HS))).mono ?_; clear P2; rintro x wc ⟨rfl, ok⟩)
 all_goals
  go_wp2
  exact bodyPost_end (v := .tuple #[]) (by simp [results, Tryz.results86, go_sem]) rfl (ok.fin (by rw [za6]; rfl))
theorem lit11_any (w0 : World) (b : Nat) (T : TypeId) (bw bx : Nat) (A K N : Int) (S : ByteArray) (pt pn pp : Option Addr) (nt q ct cn cp k : Nat) (hk : k < q) (_hq : q ≤ 1000000) (nm : Bs) (K' : Int) (tk : List Tok)
  (hN : ∃ g o, pn = some ⟨g, o, none⟩ ∧ w0.cell? ⟨g, o + k, none⟩ = some (.string ⟨nm.toArray⟩)) (hP : ExPart w0 b T pp k K' tk) (hS : Stays w0 b (fun V => V.heap[bw]? = some (xwBox b) ∧ V.heap[bx]? = some (xBox A K N S pt pn pp nt q q ct cn cp))) :
  Puts w0 b T (fun V => V.heap[bw]? = some (xwBox b) ∧ V.heap[bx]? = some (xBox A K N S pt pn pp nt q q ct cn cp)) 150 #[.int .i64 k, .pointer (some ⟨bw, 0, none⟩), .pointer (some ⟨bx, 0, none⟩)] (tN nm :: tS [58] :: zaz K' 1 tk) := by
 intro ts w hw hts hb0 hi
 obtain ⟨gn, on, rfl, an⟩ := hN
 obtain ⟨g, o, A', N', S', p1, p2, p3, n1, n2, n3, c1, c2, c3, rfl, a0, a1, a2, a3, a4, a5, a6, wt⟩ := hP
 have FF : Hid (∀ V : World, Below w0.heap.size w0 V → (V.heap[bw]? = some (xwBox b) ∧ V.heap[bx]? = some (xBox A K N S pt (some ⟨gn, on, none⟩) (some ⟨g, o, none⟩) nt q q ct cn cp)) → V.cell? ⟨bw, 0, none⟩ = some (.pointer (some ⟨b, 0, none⟩)) ∧ V.cell? ⟨bx, 5, none⟩ = some (.slice (some ⟨gn, on, none⟩) q cn) ∧ V.cell? ⟨bx, 6, none⟩ = some (.slice (some ⟨g, o, none⟩) q cp) ∧ V.cell? ⟨gn, on + k, none⟩ = some (.string ⟨nm.toArray⟩) ∧
   V.cell? ⟨g, o + k * 7, none⟩ = some (.int .i64 A') ∧ V.cell? ⟨g, o + k * 7 + 1, none⟩ = some (.int .i64 K') ∧ V.cell? ⟨g, o + k * 7 + 2, none⟩ = some (.int .i64 N') ∧ V.cell? ⟨g, o + k * 7 + 3, none⟩ = some (.string S') ∧ V.cell? ⟨g, o + k * 7 + 4, none⟩ = some (.slice p1 n1 c1) ∧ V.cell? ⟨g, o + k * 7 + 5, none⟩ = some (.slice p2 n2 c2) ∧ V.cell? ⟨g, o + k * 7 + 6, none⟩ = some (.slice p3 n3 c3)) := fun V h hi =>
  ⟨by rw [Lib.cell_of_heap hi.1]; rfl, (xBox.cells hi.2).2.2.2.2.2.1, (xBox.cells hi.2).2.2.2.2.2.2, (h.cell (p := ⟨gn, _, none⟩) (za2 an)).trans an, (h.cell (p := ⟨g, _, none⟩) (za2 a0)).trans a0, (h.cell (p := ⟨g, _, none⟩) (za2 a1)).trans a1, (h.cell (p := ⟨g, _, none⟩) (za2 a2)).trans a2, (h.cell (p := ⟨g, _, none⟩) (za2 a3)).trans a3, (h.cell (p := ⟨g, _, none⟩) (za2 a4)).trans a4, (h.cell (p := ⟨g, _, none⟩) (za2 a5)).trans a5, (h.cell (p := ⟨g, _, none⟩) (za2 a6)).trans a6⟩
 have hk' : (k : Int) < (q : Int) := by omega
 have ok0 := Ok.of (I := fun V => V.heap[bw]? = some (xwBox b) ∧ V.heap[bx]? = some (xBox A K N S pt (some ⟨gn, on, none⟩) (some ⟨g, o, none⟩) nt q q ct cn cp)) hw hts hb0 hi
 obtain ⟨f0, f1, f2, f3, m0, m1, m2, m3, m4, m5, m6⟩ := za0 FF w hb0 hi
 have P0 := za3 ((zf8 w0 b T nm).ok (fun _ _ => trivial) hS (ok0.drew hS))
 have P1 := za3 (zbn w0 b T [58])
 have P2 := za3 (zdy w0 b T _ _ _ _ _ _ _ _ _ _ _ _ _ 1 _ wt)
 have HS := za3 hS
 clear ok0 hS hw hb0 hts hi wt an a0 a1 a2 a3 a4 a5 a6
 go_enter Tryz.func150, Tryz.ntmps150
 go_wp2
 go_region_with (go_at_call 104; refine (za0 P0).mono ?_; clear P0; rintro x wa ⟨rfl, ok⟩; obtain ⟨f0, f1, f2, f3, m0, m1, m2, m3, m4, m5, m6⟩ := za0 FF wa ok.2.2.1 ok.2.2.2.2.2; have OK1 := za3 ok; clear ok)
 all_goals
  go_wp2_with (go_at_call 87; refine ((za0 P1).ok (fun _ _ => trivial) (za0 HS) (za0 OK1)).mono ?_; clear P1; rintro x wb ⟨rfl, ok⟩; obtain ⟨f0, f1, f2, f3, m0, m1, m2, m3, m4, m5, m6⟩ := za0 FF wb ok.2.2.1 ok.2.2.2.2.2; have OK2 := za3 ok; clear ok)
  go_region_with (go_at_call 88; refine ((za0 P2).ok (fun _ _ => trivial) (za0 HS) ((za0 OK2).drew (za0 HS))).mono ?_; clear P2; rintro x wc ⟨rfl, ok⟩)
  all_goals
   go_wp2
   exact bodyPost_end (v := .tuple #[]) (by simp [results, Tryz.results150, go_sem]) rfl (ok.fin rfl)
theorem lit_any (w0 : World) (b : Nat) (T : TypeId) (A K N : Int) (S : Bs) (pt pn pp : Option Addr) (nt q ct cn cp : Nat) (hq : q ≤ 1000000) (nm : Nat → Bs) (Ks : Nat → Int) (tk : Nat → List Tok)
  (hN : ∀ k, k < q → ∃ g o, pn = some ⟨g, o, none⟩ ∧ w0.cell? ⟨g, o + k, none⟩ = some (.string ⟨(nm k).toArray⟩)) (hP : ∀ k, k < q → ExPart w0 b T pp k (Ks k) (tk k)) :
  Puts w0 b T (fun _ => True) 126 #[.pointer (some ⟨b, 0, none⟩), .agg #[.int .i64 A, .int .i64 K, .int .i64 N, .string ⟨S.toArray⟩, .slice pt nt ct, .slice pn q cn, .slice pp q cp]] (litT S q nm (fun k => zaz (Ks k) 1 (tk k))) := by
 intro ts w hw hts hb0 _
 obtain ⟨ok0, hS⟩ := boxes hw hts hb0 133 #[.int .i64 A, .int .i64 K, .int .i64 N, .string ⟨S.toArray⟩, .slice pt nt ct, .slice pn q cn, .slice pp q cp] 28 (by decide) (by decide)
 have IN := fun (k : Nat) (hk : k < q) => lit11_any w0 b T w.heap.size (w.heap.size + 1) A K N ⟨S.toArray⟩ pt pn pp nt q ct cn cp k hk hq (nm k) (Ks k) (tk k) (hN k hk) (hP k hk) hS
 have I1 : Puts w0 b T (fun V => V.heap[w.heap.size]? = some (xwBox b) ∧ V.heap[w.heap.size + 1]? = some (xBox A K N ⟨S.toArray⟩ pt pn pp nt q q ct cn cp)) 149 #[.pointer (some ⟨w.heap.size, 0, none⟩), .pointer (some ⟨w.heap.size + 1, 0, none⟩)] ((List.range q).flatMap (zcu fun k => tN (nm k) :: tS [58] :: zaz (Ks k) 1 (tk k))) := by
  intro ts w1 hw1 hts1 hb1 hi
  have d0 : w1.cell? ⟨w.heap.size, 0, none⟩ = some (.pointer (some ⟨b, 0, none⟩)) := by rw [Lib.cell_of_heap hi.1]; rfl
  have d5 := (xBox.cells hi.2).2.2.2.2.2.1
  have WT := za3 ((ziv w0 b T _ hS _ (fun _ _ => by kernel_rfl) _ _ q hq _ IN).drew hw1 hts1 hb1 (hS.drew hi))
  clear hi ok0 hS hP hN hw hb0 hw1 hb1 IN
  go_enter Tryz.func149, Tryz.ntmps149
  go_wp2
  go_region_with (go_at_call 139; refine (za0 WT).mono ?_; clear WT; rintro x wb ⟨rfl, HW_b, hB_b, hS_b⟩)
  all_goals
   go_wp2
   exact bodyPost_end (v := .tuple #[]) (by simp [results, Tryz.results149, go_sem]) rfl ⟨rfl, HW_b, hB_b, hS_b⟩
 have P0 := za3 ((zib w0 b T S).ok (fun _ _ => trivial) hS (ok0.drew hS))
 have P1 := za3 (zdv w0 b T _ hS _ (fun _ _ => by kernel_rfl) _ _ [123] [125] _ I1)
 have HS := za3 hS
 clear ok0 hS hw hb0 hts hP hN IN I1
 go_enter Tryz.func126, Tryz.ntmps126
 go_wp2
 go_region_with (go_at_call 101; refine (za0 P0).mono ?_; clear P0; rintro x wa ⟨rfl, ok⟩; have f0 : wa.cell? ⟨w.heap.size, 0, none⟩ = some (.pointer (some ⟨b, 0, none⟩)) := (by rw [Lib.cell_of_heap ok.2.2.2.2.2.1]; rfl); have OK1 := za3 ok; clear ok)
 all_goals
  go_wp2_with (go_at_call 108; refine ((za0 P1).ok (fun _ h => h) (za0 HS) (za0 OK1)).mono ?_; clear P1; rintro x wb ⟨rfl, ok⟩)
  exact bodyPost_end (v := .tuple #[]) (by simp [results, Tryz.results126, go_sem]) rfl (ok.fin rfl)
end Go.Proofs.YtmpbbmfbgcpplaaGreatDoor
