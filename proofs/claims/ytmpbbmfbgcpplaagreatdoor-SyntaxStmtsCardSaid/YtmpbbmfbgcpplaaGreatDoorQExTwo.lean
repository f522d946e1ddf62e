import Derived.Test.YtmpbbmfbgcpplaaGreatDoorQExC
set_option maxHeartbeats 1500000
set_option maxRecDepth 100000
namespace Go.Proofs.YtmpbbmfbgcpplaaGreatDoor
open Go Go.RowKit Lx
theorem twoSided_puts (w0 : World) (b : Nat) (T : TypeId) (A K N : Int) (S : ByteArray) (pt pn pp : Option Addr) (nt n ct cn cp : Nat) (K0 K1 : Int) (tk0 tk1 : List Tok) (h1 : 15 ≤ K) (h2 : K ≤ 21) (hP0 : ExPart w0 b T pp 0 K0 tk0) (hP1 : ExPart w0 b T pp 1 K1 tk1) :
  Puts w0 b T (fun _ => True) 85 #[.pointer (some ⟨b, 0, none⟩), .agg #[.int .i64 A, .int .i64 K, .int .i64 N, .string S, .slice pt nt ct, .slice pn n cn, .slice pp 2 cp]] (zaz K0 (if K = 18 ∨ K = 19 then zbj K + 1 else zbj K) tk0 ++ zja K ++ zaz K1 (zbj K + 1) tk1) := by
 intro ts w hw hts hb0 _
 obtain ⟨ok0, hS⟩ := zht hw hts hb0 #[.int .i64 A, .int .i64 K, .int .i64 N, .string S, .slice pt nt ct, .slice pn n cn, .slice pp 2 cp] 28 (by decide)
 obtain ⟨g, o, A0, N0, S0, p1, p2, p3, n1, n2, n3, c1, c2, c3, rfl, a0, a1, a2, a3, a4, a5, a6, wt0⟩ := hP0
 obtain ⟨g', o', A1, N1, S1, q1, q2, q3, k1, k2, k3, d1, d2, d3, e, b0, b1, b2, b3, b4, b5, b6, wt1⟩ := hP1
 obtain ⟨rfl, rfl⟩ : g = g' ∧ o = o' := by simpa using e
 have FF : Hid (∀ V : World, Below w0.heap.size w0 V → (V.cell? ⟨g, o, none⟩ = some (.int .i64 A0) ∧ V.cell? ⟨g, o + 1, none⟩ = some (.int .i64 K0) ∧ V.cell? ⟨g, o + 2, none⟩ = some (.int .i64 N0) ∧ V.cell? ⟨g, o + 3, none⟩ = some (.string S0) ∧ V.cell? ⟨g, o + 4, none⟩ = some (.slice p1 n1 c1) ∧ V.cell? ⟨g, o + 5, none⟩ = some (.slice p2 n2 c2) ∧ V.cell? ⟨g, o + 6, none⟩ = some (.slice p3 n3 c3)) ∧
   V.cell? ⟨g, o + 7, none⟩ = some (.int .i64 A1) ∧ V.cell? ⟨g, o + 7 + 1, none⟩ = some (.int .i64 K1) ∧ V.cell? ⟨g, o + 7 + 2, none⟩ = some (.int .i64 N1) ∧ V.cell? ⟨g, o + 7 + 3, none⟩ = some (.string S1) ∧ V.cell? ⟨g, o + 7 + 4, none⟩ = some (.slice q1 k1 d1) ∧ V.cell? ⟨g, o + 7 + 5, none⟩ = some (.slice q2 k2 d2) ∧ V.cell? ⟨g, o + 7 + 6, none⟩ = some (.slice q3 k3 d3)) := fun V h =>
  ⟨⟨by simpa using (h.cell (p := ⟨g, _, none⟩) (za2 a0)).trans a0, by simpa using (h.cell (p := ⟨g, _, none⟩) (za2 a1)).trans a1, by simpa using (h.cell (p := ⟨g, _, none⟩) (za2 a2)).trans a2, by simpa using (h.cell (p := ⟨g, _, none⟩) (za2 a3)).trans a3, by simpa using (h.cell (p := ⟨g, _, none⟩) (za2 a4)).trans a4, by simpa using (h.cell (p := ⟨g, _, none⟩) (za2 a5)).trans a5, by simpa using (h.cell (p := ⟨g, _, none⟩) (za2 a6)).trans a6⟩,
   (h.cell (p := ⟨g, _, none⟩) (za2 b0)).trans b0, (h.cell (p := ⟨g, _, none⟩) (za2 b1)).trans b1, (h.cell (p := ⟨g, _, none⟩) (za2 b2)).trans b2, (h.cell (p := ⟨g, _, none⟩) (za2 b3)).trans b3, (h.cell (p := ⟨g, _, none⟩) (za2 b4)).trans b4, (h.cell (p := ⟨g, _, none⟩) (za2 b5)).trans b5, (h.cell (p := ⟨g, _, none⟩) (za2 b6)).trans b6⟩
 have LV := za3 (fun W => level_any K W)
 obtain ⟨L, hL⟩ : ∃ L, L = zbj K := ⟨_, rfl⟩
 have hLb : 1 ≤ L ∧ L ≤ 8 := by rw [hL, zbj]; repeat' split <;> omega
 rw [← hL] at LV ⊢
 clear hL
 have e1 : IntKind.i64.wrap (L + 1) = L + 1 := by rw [IntKind.wrap_i64]; omega
 obtain ⟨Lx, hLx⟩ : ∃ Lx, Lx = if K = 18 ∨ K = 19 then L + 1 else L := ⟨_, rfl⟩
 rw [← hLx]
 have P0 := za3 (zdy w0 b T _ _ _ _ _ _ _ _ _ _ _ _ _ Lx _ wt0)
 have P1 := za3 (zdy w0 b T _ _ _ _ _ _ _ _ _ _ _ _ _ (L + 1) _ wt1)
 have OP := za3 (oper_any w0 b T K h1 h2)
 have HS := za3 hS
 have OK0 := za3 ok0
 obtain ⟨m0, m1, m2, m3, m4, m5, m6⟩ := xBox.cells ok0.2.2.2.2.2
 obtain ⟨⟨y0, y1, y2, y3, y4, y5, y6⟩, y7, y8, y9, y10, y11, y12, y13⟩ := za0 FF _ ok0.2.2.1
 clear ok0 hS hw hb0 hts wt0 wt1 a0 a1 a2 a3 a4 a5 a6 b0 b1 b2 b3 b4 b5 b6 e m0 m1 m2 m3 m4 m5 m6
 have hk : (K = 18 ∧ Lx = L + 1) ∨ (K = 19 ∧ Lx = L + 1) ∨ (K ≠ 18 ∧ K ≠ 19 ∧ Lx = L) := by
  by_cases z1 : K = 18
  ·exact .inl ⟨z1, by rw [hLx, if_pos (.inl z1)]⟩
  ·by_cases z2 : K = 19
   ·exact .inr (.inl ⟨z2, by rw [hLx, if_pos (.inr z2)]⟩)
   ·exact .inr (.inr ⟨z1, z2, by rw [hLx, if_neg (fun h => h.elim z1 z2)]⟩)
 clear hLx
 rcases hk with ⟨rfl, rfl⟩ | ⟨rfl, rfl⟩ | ⟨z1, z2, rfl⟩
 ·go_enter Tryz.func85, Tryz.ntmps85
  go_wp2_with (first
   | (go_at_call 118; refine (za0 LV _).mono ?_; clear LV; rintro x w4 ⟨rfl, rfl⟩)
   | (go_at_call 88; refine ((za0 P0).ok (fun _ _ => trivial) (za0 HS) (za0 OK0)).mono ?_; clear P0; rintro x wa ⟨rfl, ok⟩; have m := xBox.cells ok.2.2.2.2.2; obtain ⟨m0, m1, m2, m3, m4, m5, m6⟩ := m; have OK1 := za3 ok; clear ok)
   | (go_at_call 119; refine ((za0 OP).ok (fun _ _ => trivial) (za0 HS) (za0 OK1)).mono ?_; clear OP; rintro x wb ⟨rfl, ok⟩; have m := xBox.cells ok.2.2.2.2.2; obtain ⟨m0, m1, m2, m3, m4, m5, m6⟩ := m; obtain ⟨⟨y0, y1, y2, y3, y4, y5, y6⟩, y7, y8, y9, y10, y11, y12, y13⟩ := za0 FF _ ok.2.2.1; have OK2 := za3 ok; clear ok)
   | (go_at_call 88; refine ((za0 P1).ok (fun _ _ => trivial) (za0 HS) (za0 OK2)).mono ?_; clear P1; rintro x wc ⟨rfl, ok⟩))
  exact bodyPost_end (v := .tuple #[]) (by simp [results, Tryz.results85, go_sem]) rfl (ok.fin (by rw [za6, za6]))
 ·go_enter Tryz.func85, Tryz.ntmps85
  go_wp2_with (first
   | (go_at_call 118; refine (za0 LV _).mono ?_; clear LV; rintro x w4 ⟨rfl, rfl⟩)
   | (go_at_call 88; refine ((za0 P0).ok (fun _ _ => trivial) (za0 HS) (za0 OK0)).mono ?_; clear P0; rintro x wa ⟨rfl, ok⟩; have m := xBox.cells ok.2.2.2.2.2; obtain ⟨m0, m1, m2, m3, m4, m5, m6⟩ := m; have OK1 := za3 ok; clear ok)
   | (go_at_call 119; refine ((za0 OP).ok (fun _ _ => trivial) (za0 HS) (za0 OK1)).mono ?_; clear OP; rintro x wb ⟨rfl, ok⟩; have m := xBox.cells ok.2.2.2.2.2; obtain ⟨m0, m1, m2, m3, m4, m5, m6⟩ := m; obtain ⟨⟨y0, y1, y2, y3, y4, y5, y6⟩, y7, y8, y9, y10, y11, y12, y13⟩ := za0 FF _ ok.2.2.1; have OK2 := za3 ok; clear ok)
   | (go_at_call 88; refine ((za0 P1).ok (fun _ _ => trivial) (za0 HS) (za0 OK2)).mono ?_; clear P1; rintro x wc ⟨rfl, ok⟩))
  exact bodyPost_end (v := .tuple #[]) (by simp [results, Tryz.results85, go_sem]) rfl (ok.fin (by rw [za6, za6]))
 ·have z1' : (K == 18) = false := beq_eq_false_iff_ne.2 z1
  have z2' : (K == 19) = false := beq_eq_false_iff_ne.2 z2
  go_enter Tryz.func85, Tryz.ntmps85
  go_wp2_with (first
   | (go_at_call 118; refine (za0 LV _).mono ?_; clear LV; rintro x w4 ⟨rfl, rfl⟩)
   | (go_at_call 88; refine ((za0 P0).ok (fun _ _ => trivial) (za0 HS) (za0 OK0)).mono ?_; clear P0; rintro x wa ⟨rfl, ok⟩; have m := xBox.cells ok.2.2.2.2.2; obtain ⟨m0, m1, m2, m3, m4, m5, m6⟩ := m; have OK1 := za3 ok; clear ok)
   | (go_at_call 119; refine ((za0 OP).ok (fun _ _ => trivial) (za0 HS) (za0 OK1)).mono ?_; clear OP; rintro x wb ⟨rfl, ok⟩; have m := xBox.cells ok.2.2.2.2.2; obtain ⟨m0, m1, m2, m3, m4, m5, m6⟩ := m; obtain ⟨⟨y0, y1, y2, y3, y4, y5, y6⟩, y7, y8, y9, y10, y11, y12, y13⟩ := za0 FF _ ok.2.2.1; have OK2 := za3 ok; clear ok)
   | (go_at_call 88; refine ((za0 P1).ok (fun _ _ => trivial) (za0 HS) (za0 OK2)).mono ?_; clear P1; rintro x wc ⟨rfl, ok⟩))
  exact bodyPost_end (v := .tuple #[]) (by simp [results, Tryz.results85, go_sem]) rfl (ok.fin (by rw [za6, za6]))
end Go.Proofs.YtmpbbmfbgcpplaaGreatDoor
