import Derived.Test.YtmpbbmfbgcpplaaGreatDoorQExA
set_option maxHeartbeats 4000000
set_option maxRecDepth 100000
namespace Go.Proofs.YtmpbbmfbgcpplaaGreatDoor
open Go Go.RowKit Lx
abbrev xwBox (b : Nat) : Obj := .cells #[.pointer (some ⟨b, 0, none⟩)] 133
abbrev xBox (A K N : Int) (S : ByteArray) (pt pn pp : Option Addr) (nt n q ct cn cp : Nat) : Obj := .cells #[.int .i64 A, .int .i64 K, .int .i64 N, .string S, .slice pt nt ct, .slice pn n cn, .slice pp q cp] 28
theorem xBox.cells {W : World} {x : Nat} {A K N : Int} {S : ByteArray} {pt pn pp : Option Addr} {nt n q ct cn cp : Nat} (h : W.heap[x]? = some (xBox A K N S pt pn pp nt n q ct cn cp)) :
  W.cell? ⟨x, 0, none⟩ = some (.int .i64 A) ∧ W.cell? ⟨x, 1, none⟩ = some (.int .i64 K) ∧ W.cell? ⟨x, 2, none⟩ = some (.int .i64 N) ∧ W.cell? ⟨x, 3, none⟩ = some (.string S) ∧ W.cell? ⟨x, 4, none⟩ = some (.slice pt nt ct) ∧ W.cell? ⟨x, 5, none⟩ = some (.slice pn n cn) ∧ W.cell? ⟨x, 6, none⟩ = some (.slice pp q cp) :=
 ⟨by rw [Lib.cell_of_heap h]; rfl, by rw [Lib.cell_of_heap h]; rfl, by rw [Lib.cell_of_heap h]; rfl, by rw [Lib.cell_of_heap h]; rfl, by rw [Lib.cell_of_heap h]; rfl, by rw [Lib.cell_of_heap h]; rfl, by rw [Lib.cell_of_heap h]; rfl⟩
theorem boxes {w0 w : World} {b : Nat} {T : TypeId} {ts : List Tok} (hw : WrAt w0.heap.size b T ts w) (hts : ts.length ≤ 32769) (hb0 : Below w0.heap.size w0 w) (t : TypeId) (c : Array Value) (u : TypeId) (ht : t ≠ 142) (hu : u ≠ 142) :
  Ok w0 b T (fun V => V.heap[w.heap.size]? = some (.cells #[.pointer (some ⟨b, 0, none⟩)] t) ∧ V.heap[w.heap.size + 1]? = some (.cells c u)) w ts ((w.alloc (.cells #[.pointer (some ⟨b, 0, none⟩)] t)).alloc (.cells c u)) ∧ Stays w0 b (fun V => V.heap[w.heap.size]? = some (.cells #[.pointer (some ⟨b, 0, none⟩)] t) ∧ V.heap[w.heap.size + 1]? = some (.cells c u)) := by
 have hlt := hw.lt
 obtain ⟨ok1, st1⟩ := (Ok.of (I := fun _ => True) hw hts hb0 trivial).box (.true _ _) #[.pointer (some ⟨b, 0, none⟩)] t ht
 obtain ⟨ok2, st2⟩ := ok1.box st1 c u hu
 obtain ⟨h1, h2, h3, h4, h5, h6⟩ := ok2
 exact ⟨⟨h1, h2, h3, h4, h5, h6.1.2, by simpa using h6.2⟩, (Stays.block (by omega) ht).and (Stays.block (by omega) hu)⟩
theorem zht {w0 w : World} {b : Nat} {T : TypeId} {ts : List Tok} (hw : WrAt w0.heap.size b T ts w) (hts : ts.length ≤ 32769) (hb0 : Below w0.heap.size w0 w) (c : Array Value) (u : TypeId) (hu : u ≠ 142) :
  Ok w0 b T (fun V => V.heap[w.heap.size]? = some (.cells c u)) w ts (w.alloc (.cells c u)) ∧ Stays w0 b (fun V => V.heap[w.heap.size]? = some (.cells c u)) := by
 have hlt := hw.lt
 obtain ⟨ok1, st1⟩ := (Ok.of (I := fun _ => True) hw hts hb0 trivial).box (.true _ _) c u hu
 obtain ⟨h1, h2, h3, h4, h5, h6⟩ := ok1
 exact ⟨⟨h1, h2, h3, h4, h5, h6.2⟩, Stays.block (by omega) hu⟩
abbrev XPuts (w0 : World) (b : Nat) (T : TypeId) (A K N : Int) (S : ByteArray) (pt pn pp : Option Addr) (nt n q ct cn cp : Nat) (tk : List Tok) : Prop :=
 Puts w0 b T (fun _ => True) 55 #[.pointer (some ⟨b, 0, none⟩), .agg #[.int .i64 A, .int .i64 K, .int .i64 N, .string S, .slice pt nt ct, .slice pn n cn, .slice pp q cp]] tk
theorem aside_any (w0 : World) (b : Nat) (T : TypeId) (A K N : Int) (S : ByteArray) (pt pn pp : Option Addr) (nt n q ct cn cp : Nat) (tk : List Tok) (hP : XPuts w0 b T A K N S pt pn pp nt n q ct cn cp tk) :
  Puts w0 b T (fun _ => True) 120 #[.pointer (some ⟨b, 0, none⟩), .agg #[.int .i64 A, .int .i64 K, .int .i64 N, .string S, .slice pt nt ct, .slice pn n cn, .slice pp q cp]] (zeq tk) := by
 intro ts w hw hts hb0 _
 obtain ⟨ok0, hS⟩ := boxes hw hts hb0 133 #[.int .i64 A, .int .i64 K, .int .i64 N, .string S, .slice pt nt ct, .slice pn n cn, .slice pp q cp] 28 (by decide) (by decide)
 have IN : Puts w0 b T (fun V => V.heap[w.heap.size]? = some (xwBox b) ∧ V.heap[w.heap.size + 1]? = some (xBox A K N S pt pn pp nt n q ct cn cp)) 146 #[.pointer (some ⟨w.heap.size, 0, none⟩), .pointer (some ⟨w.heap.size + 1, 0, none⟩)] tk := by
  intro ts w1 hw1 hts1 hb1 hi
  obtain ⟨c0, c1, c2, c3, c4, c5, c6⟩ := xBox.cells hi.2
  have d0 : w1.cell? ⟨w.heap.size, 0, none⟩ = some (.pointer (some ⟨b, 0, none⟩)) := by rw [Lib.cell_of_heap hi.1]; rfl
  have WT := za3 (hP ts w1 hw1 hts1 hb1 trivial)
  clear hi ok0 hS hP hw hb0 hw1 hb1
  go_enter Tryz.func146, Tryz.ntmps146
  go_wp2_with (go_at_call 55; refine (za0 WT).mono ?_; clear WT; rintro x wb ⟨rfl, HW_b, hB_b, hS_b⟩)
  exact bodyPost_end (v := .tuple #[]) (by simp [results, Tryz.results146, go_sem]) rfl ⟨rfl, HW_b, hB_b, hS_b⟩
 have WD := za3 ((zdv w0 b T _ hS _ (fun _ _ => by kernel_rfl) _ _ [40] [41] tk IN).ok (fun _ h => h) hS ok0)
 clear ok0 hS hw hb0 hts hP IN
 go_enter Tryz.func120, Tryz.ntmps120
 go_wp2_with (go_at_call 108; refine (za0 WD).mono ?_; clear WD; rintro x wa ⟨rfl, ok⟩)
 exact bodyPost_end (v := .tuple #[]) (by simp [results, Tryz.results120, go_sem]) rfl (ok.fin rfl)
theorem zdy (w0 : World) (b : Nat) (T : TypeId) (A K N : Int) (S : ByteArray) (pt pn pp : Option Addr) (nt n q ct cn cp : Nat) (asked : Int) (tk : List Tok) (hP : XPuts w0 b T A K N S pt pn pp nt n q ct cn cp tk) :
  Puts w0 b T (fun _ => True) 88 #[.pointer (some ⟨b, 0, none⟩), .agg #[.int .i64 A, .int .i64 K, .int .i64 N, .string S, .slice pt nt ct, .slice pn n cn, .slice pp q cp], .int .i64 asked] (zaz K asked tk) := by
 intro ts w hw hts hb0 _
 obtain ⟨ok0, hS⟩ := zht hw hts hb0 #[.int .i64 A, .int .i64 K, .int .i64 N, .string S, .slice pt nt ct, .slice pn n cn, .slice pp q cp] 28 (by decide)
 have LV := za3 (fun W => level_any K W)
 obtain ⟨L, hL⟩ : ∃ L, L = zbj K := ⟨_, rfl⟩
 rw [← hL] at LV
 rw [zaz, ← hL]
 clear hL
 by_cases h : L < asked
 ·rw [if_pos h]
  have WD := za3 ((aside_any w0 b T A K N S pt pn pp nt n q ct cn cp tk hP).ok (fun _ _ => trivial) hS ok0)
  clear ok0 hS hw hb0 hts hP
  go_enter Tryz.func88, Tryz.ntmps88
  go_wp2_with (first
   | (go_at_call 118; refine (za0 LV _).mono ?_; clear LV; rintro x w4 ⟨rfl, rfl⟩)
   | (go_at_call 120; refine (za0 WD).mono ?_; clear WD; rintro x wa ⟨rfl, ok⟩))
  exact bodyPost_ret (v := .tuple #[]) (by simp [results, Tryz.results88, go_sem]) rfl (ok.fin rfl)
 ·rw [if_neg h]
  have WD := za3 (hP.ok (fun _ _ => trivial) hS ok0)
  clear ok0 hS hw hb0 hts hP
  go_enter Tryz.func88, Tryz.ntmps88
  go_wp2_with (first
   | (go_at_call 118; refine (za0 LV _).mono ?_; clear LV; rintro x w4 ⟨rfl, rfl⟩)
   | (go_at_call 55; refine (za0 WD).mono ?_; clear WD; rintro x wa ⟨rfl, ok⟩))
  exact bodyPost_end (v := .tuple #[]) (by simp [results, Tryz.results88, go_sem]) rfl (ok.fin rfl)
def ExPart (w0 : World) (b : Nat) (T : TypeId) (pp : Option Addr) (k : Nat) (K : Int) (tk : List Tok) : Prop :=
 ∃ (g o : Nat) (A N : Int) (S : ByteArray) (p1 p2 p3 : Option Addr) (n1 n2 n3 c1 c2 c3 : Nat), pp = some ⟨g, o, none⟩ ∧ w0.cell? ⟨g, o + k * 7, none⟩ = some (.int .i64 A) ∧ w0.cell? ⟨g, o + k * 7 + 1, none⟩ = some (.int .i64 K) ∧ w0.cell? ⟨g, o + k * 7 + 2, none⟩ = some (.int .i64 N) ∧ w0.cell? ⟨g, o + k * 7 + 3, none⟩ = some (.string S) ∧
   w0.cell? ⟨g, o + k * 7 + 4, none⟩ = some (.slice p1 n1 c1) ∧ w0.cell? ⟨g, o + k * 7 + 5, none⟩ = some (.slice p2 n2 c2) ∧ w0.cell? ⟨g, o + k * 7 + 6, none⟩ = some (.slice p3 n3 c3) ∧
   XPuts w0 b T A K N S p1 p2 p3 n1 n2 n3 c1 c2 c3 tk
theorem args_any (w0 : World) (b : Nat) (T : TypeId) (pl : Option Addr) (q cl : Nat) (hq : q ≤ 1000000) (Ks : Nat → Int) (tk : Nat → List Tok) (hP : ∀ k, k < q → ExPart w0 b T pl k (Ks k) (tk k)) :
  Puts w0 b T (fun _ => True) 121 #[.pointer (some ⟨b, 0, none⟩), .slice pl q cl] (zfy q (fun k => zaz (Ks k) 1 (tk k))) := by
 intro ts w hw hts hb0 _
 obtain ⟨ok0, hS⟩ := boxes hw hts hb0 133 #[.slice pl q cl] 26 (by decide) (by decide)
 have IN : ∀ k : Nat, k < q → Puts w0 b T (fun V => V.heap[w.heap.size]? = some (xwBox b) ∧ V.heap[w.heap.size + 1]? = some (.cells #[.slice pl q cl] 26)) 148 #[.int .i64 k, .pointer (some ⟨w.heap.size, 0, none⟩), .pointer (some ⟨w.heap.size + 1, 0, none⟩)] (zaz (Ks k) 1 (tk k)) := by
  intro k hk ts w1 hw1 hts1 hb1 hi
  obtain ⟨g, o, A, N, S, p1, p2, p3, n1, n2, n3, c1, c2, c3, rfl, a0, a1, a2, a3, a4, a5, a6, wt⟩ := hP k hk
  have d0 : w1.cell? ⟨w.heap.size, 0, none⟩ = some (.pointer (some ⟨b, 0, none⟩)) := by rw [Lib.cell_of_heap hi.1]; rfl
  have d1 : w1.cell? ⟨w.heap.size + 1, 0, none⟩ = some (.slice (some ⟨g, o, none⟩) q cl) := by rw [Lib.cell_of_heap hi.2]; rfl
  have m0 := (hb1.cell (p := ⟨g, _, none⟩) (za2 a0)).trans a0
  have m1 := (hb1.cell (p := ⟨g, _, none⟩) (za2 a1)).trans a1
  have m2 := (hb1.cell (p := ⟨g, _, none⟩) (za2 a2)).trans a2
  have m3 := (hb1.cell (p := ⟨g, _, none⟩) (za2 a3)).trans a3
  have m4 := (hb1.cell (p := ⟨g, _, none⟩) (za2 a4)).trans a4
  have m5 := (hb1.cell (p := ⟨g, _, none⟩) (za2 a5)).trans a5
  have m6 := (hb1.cell (p := ⟨g, _, none⟩) (za2 a6)).trans a6
  have hk' : (k : Int) < (q : Int) := by omega
  have WT := za3 ((zdy w0 b T _ _ _ _ _ _ _ _ _ _ _ _ _ 1 _ wt).drew hw1 hts1 hb1 trivial)
  clear hi ok0 hS hP hw hb0 hw1 hb1 wt a0 a1 a2 a3 a4 a5 a6
  go_enter Tryz.func148, Tryz.ntmps148
  go_wp2
  go_region_with (go_at_call 88; refine (za0 WT).mono ?_; clear WT; rintro x wb ⟨rfl, HW_b, hB_b, hS_b⟩)
  all_goals
   go_wp2
   exact bodyPost_end (v := .tuple #[]) (by simp [results, Tryz.results148, go_sem]) rfl ⟨rfl, HW_b, hB_b, hS_b⟩
 have I1 : Puts w0 b T (fun V => V.heap[w.heap.size]? = some (xwBox b) ∧ V.heap[w.heap.size + 1]? = some (.cells #[.slice pl q cl] 26)) 147 #[.pointer (some ⟨w.heap.size, 0, none⟩), .pointer (some ⟨w.heap.size + 1, 0, none⟩)] ((List.range q).flatMap (zcu fun k => zaz (Ks k) 1 (tk k))) := by
  intro ts w1 hw1 hts1 hb1 hi
  have d0 : w1.cell? ⟨w.heap.size, 0, none⟩ = some (.pointer (some ⟨b, 0, none⟩)) := by rw [Lib.cell_of_heap hi.1]; rfl
  have d1 : w1.cell? ⟨w.heap.size + 1, 0, none⟩ = some (.slice pl q cl) := by rw [Lib.cell_of_heap hi.2]; rfl
  have WT := za3 ((ziv w0 b T _ hS _ (fun _ _ => by kernel_rfl) _ _ q hq _ IN).drew hw1 hts1 hb1 (hS.drew hi))
  clear hi ok0 hS hP hw hb0 hw1 hb1 IN
  go_enter Tryz.func147, Tryz.ntmps147
  go_wp2
  go_region_with (go_at_call 139; refine (za0 WT).mono ?_; clear WT; rintro x wb ⟨rfl, HW_b, hB_b, hS_b⟩)
  all_goals
   go_wp2
   exact bodyPost_end (v := .tuple #[]) (by simp [results, Tryz.results147, go_sem]) rfl ⟨rfl, HW_b, hB_b, hS_b⟩
 have WD := za3 ((zdv w0 b T _ hS _ (fun _ _ => by kernel_rfl) _ _ [40] [41] _ I1).ok (fun _ h => h) hS ok0)
 clear ok0 hS hw hb0 hts hP IN I1
 go_enter Tryz.func121, Tryz.ntmps121
 go_wp2_with (go_at_call 108; refine (za0 WD).mono ?_; clear WD; rintro x wa ⟨rfl, ok⟩)
 exact bodyPost_end (v := .tuple #[]) (by simp [results, Tryz.results121, go_sem]) rfl (ok.fin rfl)
theorem oper_any (w0 : World) (b : Nat) (T : TypeId) (K : Int) (h1 : 15 ≤ K) (h2 : K ≤ 21) :
  Puts w0 b T (fun _ => True) 119 #[.pointer (some ⟨b, 0, none⟩), .int .i64 K] (zja K) := by
 intro ts w hw hts hb0 _
 have hk : K = 15 ∨ K = 16 ∨ K = 17 ∨ K = 18 ∨ K = 19 ∨ K = 20 ∨ K = 21 := by omega
 rcases hk with rfl | rfl | rfl | rfl | rfl | rfl | rfl
 ·have SG := za3 (zbn w0 b T [42] ts w hw hts hb0 trivial)
  clear hw hb0
  go_enter Tryz.func119, Tryz.ntmps119
  go_wp2_with (go_at_call 87; refine (za0 SG).mono ?_; clear SG; rintro x wa ⟨rfl, h1, h2, h3⟩)
  exact bodyPost_end (v := .tuple #[]) (by simp [results, Tryz.results119, go_sem]) rfl ⟨rfl, h1, h2, h3⟩
 ·have SG := za3 (zbn w0 b T [43] ts w hw hts hb0 trivial)
  clear hw hb0
  go_enter Tryz.func119, Tryz.ntmps119
  go_wp2_with (go_at_call 87; refine (za0 SG).mono ?_; clear SG; rintro x wa ⟨rfl, h1, h2, h3⟩)
  exact bodyPost_end (v := .tuple #[]) (by simp [results, Tryz.results119, go_sem]) rfl ⟨rfl, h1, h2, h3⟩
 ·have SG := za3 (zbn w0 b T [45] ts w hw hts hb0 trivial)
  clear hw hb0
  go_enter Tryz.func119, Tryz.ntmps119
  go_wp2_with (go_at_call 87; refine (za0 SG).mono ?_; clear SG; rintro x wa ⟨rfl, h1, h2, h3⟩)
  exact bodyPost_end (v := .tuple #[]) (by simp [results, Tryz.results119, go_sem]) rfl ⟨rfl, h1, h2, h3⟩
 ·have SG := za3 (zbn w0 b T [61, 61] ts w hw hts hb0 trivial)
  clear hw hb0
  go_enter Tryz.func119, Tryz.ntmps119
  go_wp2_with (go_at_call 87; refine (za0 SG).mono ?_; clear SG; rintro x wa ⟨rfl, h1, h2, h3⟩)
  exact bodyPost_end (v := .tuple #[]) (by simp [results, Tryz.results119, go_sem]) rfl ⟨rfl, h1, h2, h3⟩
 ·have SG := za3 (zbn w0 b T [60] ts w hw hts hb0 trivial)
  clear hw hb0
  go_enter Tryz.func119, Tryz.ntmps119
  go_wp2_with (go_at_call 87; refine (za0 SG).mono ?_; clear SG; rintro x wa ⟨rfl, h1, h2, h3⟩)
  exact bodyPost_end (v := .tuple #[]) (by simp [results, Tryz.results119, go_sem]) rfl ⟨rfl, h1, h2, h3⟩
 ·have SG := za3 (zb9 w0 b T [97, 110, 100] ts w hw hts hb0 trivial)
  clear hw hb0
  go_enter Tryz.func119, Tryz.ntmps119
  go_wp2_with (go_at_call 89; refine (za0 SG).mono ?_; clear SG; rintro x wa ⟨rfl, h1, h2, h3⟩)
  exact bodyPost_end (v := .tuple #[]) (by simp [results, Tryz.results119, go_sem]) rfl ⟨rfl, h1, h2, h3⟩
 ·have SG := za3 (zb9 w0 b T [111, 114] ts w hw hts hb0 trivial)
  clear hw hb0
  go_enter Tryz.func119, Tryz.ntmps119
  go_wp2_with (go_at_call 89; refine (za0 SG).mono ?_; clear SG; rintro x wa ⟨rfl, h1, h2, h3⟩)
  exact bodyPost_end (v := .tuple #[]) (by simp [results, Tryz.results119, go_sem]) rfl ⟨rfl, h1, h2, h3⟩
theorem bool_any (w0 : World) (b : Nat) (T : TypeId) (n : Int) :
  Puts w0 b T (fun _ => True) 125 #[.pointer (some ⟨b, 0, none⟩), .int .i64 n] [if n = 0 then tW [102, 97, 108, 115, 101] else tW [116, 114, 117, 101]] := by
 intro ts w hw hts hb0 _
 have W0 := za3 (zb9 w0 b T [102, 97, 108, 115, 101] ts w hw hts hb0 trivial)
 have W1 := za3 (zb9 w0 b T [116, 114, 117, 101] ts w hw hts hb0 trivial)
 clear hw hb0
 by_cases h : n = 0
 ·subst h
  clear W1
  go_enter Tryz.func125, Tryz.ntmps125
  go_wp2_with (go_at_call 89; refine (za0 W0).mono ?_; clear W0; rintro x wa ⟨rfl, h1, h2, h3⟩)
  exact bodyPost_end (v := .tuple #[]) (by simp [results, Tryz.results125, go_sem]) rfl ⟨rfl, h1, h2, h3⟩
 ·clear W0
  rw [if_neg h]
  go_enter Tryz.func125, Tryz.ntmps125
  go_wp2_with (go_at_call 89; refine (za0 W1).mono ?_; clear W1; rintro x wa ⟨rfl, h1, h2, h3⟩)
  exact bodyPost_end (v := .tuple #[]) (by simp [results, Tryz.results125, go_sem]) rfl ⟨rfl, h1, h2, h3⟩
end Go.Proofs.YtmpbbmfbgcpplaaGreatDoor
