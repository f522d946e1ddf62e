import Derived.Test.YtmpbbmfbgcpplaaGreatDoorQSynD
set_option maxHeartbeats 4000000
set_option maxRecDepth 100000
namespace Go.Proofs.YtmpbbmfbgcpplaaGreatDoor
open Go Go.RowKit Lx
theorem type1_any (w0 : World) (b : Nat) (T : TypeId) (bw bt : Nat) (K : Int) (l : ByteArray) (pn pe pp : Option Addr) (q cn ce cp : Nat) (hq : q ≤ 1000000) (nm : Nat → Bs) (em : Nat → Bool) (tk : Nat → List Tok)
  (hN : ∀ k, k < q → ∃ g o, pn = some ⟨g, o, none⟩ ∧ w0.cell? ⟨g, o + k, none⟩ = some (.string ⟨(nm k).toArray⟩))
  (hE : ∀ k, k < q → ∃ g o, pe = some ⟨g, o, none⟩ ∧ w0.cell? ⟨g, o + k, none⟩ = some (.bool (em k)))
  (hP : ∀ k, k < q → TyPart w0 b T 77 pp k (tk k)) :
  Puts w0 b T (fun W => W.heap[bw]? = some (wBox b) ∧ W.heap[bt]? = some (tBox K l pn pe pp q q q cn ce cp)) 109 #[.pointer (some ⟨bw, 0, none⟩), .pointer (some ⟨bt, 0, none⟩)] ((List.range q).flatMap (zk8 nm em tk)) := by
 intro ts w hw hts hb0 hi
 have WT := za3 (fields_run w0 b T ts K l q pn pe pp cn ce cp w nm em tk hw hts hb0 hq hN hE (fun k hk => by
  obtain ⟨g, o, K', l', p1, p2, p3, n1, n2, n3, c1, c2, c3, e, a0, a1, a2, a3, a4, wt⟩ := hP k hk
  exact ⟨g, o, K', l', p1, p2, p3, n1, n2, n3, c1, c2, c3, e, a0, a1, a2, a3, a4, fun ts' W x y z => wt ts' W x y z trivial⟩))
 have d0 : w.cell? ⟨bw, 0, none⟩ = some (.pointer (some ⟨b, 0, none⟩)) := by rw [Lib.cell_of_heap hi.1]; rfl
 have e0 : w.cell? ⟨bt, 0, none⟩ = some (.int .i64 K) := by rw [Lib.cell_of_heap hi.2]; rfl
 have e1 : w.cell? ⟨bt, 1, none⟩ = some (.string l) := by rw [Lib.cell_of_heap hi.2]; rfl
 have e2 : w.cell? ⟨bt, 2, none⟩ = some (.slice pn q cn) := by rw [Lib.cell_of_heap hi.2]; rfl
 have e3 : w.cell? ⟨bt, 3, none⟩ = some (.slice pe q ce) := by rw [Lib.cell_of_heap hi.2]; rfl
 have e4 : w.cell? ⟨bt, 4, none⟩ = some (.slice pp q cp) := by rw [Lib.cell_of_heap hi.2]; rfl
 clear hi hw hb0 hP hN hE
 go_enter Tryz.func109, Tryz.ntmps109
 go_wp2_with (go_at_call 110; refine (za0 WT).mono ?_; clear WT; rintro x wb ⟨rfl, HW_b, hB_b, hS_b⟩)
 exact bodyPost_end (v := .tuple #[]) (by simp [results, Tryz.results109, go_sem]) rfl ⟨rfl, HW_b, hB_b, hS_b⟩
theorem type2_any (w0 : World) (b : Nat) (T : TypeId) (bw bt : Nat) (K : Int) (l : ByteArray) (pn pe pp : Option Addr) (q e cn ce cp : Nat) (hq : q ≤ 1000000) (nm : Nat → Bs) (tk : Nat → List Tok)
  (hN : ∀ k, k < q → ∃ g o, pn = some ⟨g, o, none⟩ ∧ w0.cell? ⟨g, o + k, none⟩ = some (.string ⟨(nm k).toArray⟩))
  (hP : ∀ k, k < q → TyPart w0 b T 111 pp k (tk k)) :
  Puts w0 b T (fun W => W.heap[bw]? = some (wBox b) ∧ W.heap[bt]? = some (tBox K l pn pe pp q e q cn ce cp)) 112 #[.pointer (some ⟨bw, 0, none⟩), .pointer (some ⟨bt, 0, none⟩)] ((List.range q).flatMap (zh8 nm tk)) := by
 intro ts w hw hts hb0 hi
 have WT := za3 (methods_run w0 b T ts K l q e pn pe pp cn ce cp w nm tk hw hts hb0 hq hN (fun k hk => by
  obtain ⟨g, o, K', l', p1, p2, p3, n1, n2, n3, c1, c2, c3, e, a0, a1, a2, a3, a4, wt⟩ := hP k hk
  exact ⟨g, o, K', l', p1, p2, p3, n1, n2, n3, c1, c2, c3, e, a0, a1, a2, a3, a4, fun ts' W x y z => wt ts' W x y z trivial⟩))
 have d0 : w.cell? ⟨bw, 0, none⟩ = some (.pointer (some ⟨b, 0, none⟩)) := by rw [Lib.cell_of_heap hi.1]; rfl
 have e0 : w.cell? ⟨bt, 0, none⟩ = some (.int .i64 K) := by rw [Lib.cell_of_heap hi.2]; rfl
 have e1 : w.cell? ⟨bt, 1, none⟩ = some (.string l) := by rw [Lib.cell_of_heap hi.2]; rfl
 have e2 : w.cell? ⟨bt, 2, none⟩ = some (.slice pn q cn) := by rw [Lib.cell_of_heap hi.2]; rfl
 have e3 : w.cell? ⟨bt, 3, none⟩ = some (.slice pe e ce) := by rw [Lib.cell_of_heap hi.2]; rfl
 have e4 : w.cell? ⟨bt, 4, none⟩ = some (.slice pp q cp) := by rw [Lib.cell_of_heap hi.2]; rfl
 clear hi hw hb0 hP hN
 go_enter Tryz.func112, Tryz.ntmps112
 go_wp2_with (go_at_call 113; refine (za0 WT).mono ?_; clear WT; rintro x wb ⟨rfl, HW_b, hB_b, hS_b⟩)
 exact bodyPost_end (v := .tuple #[]) (by simp [results, Tryz.results112, go_sem]) rfl ⟨rfl, HW_b, hB_b, hS_b⟩
def Box2 (b bw bt : Nat) (K : Int) (l : ByteArray) (pn pe pp : Option Addr) (n e q cn ce cp : Nat) (W : World) : Prop := W.heap[bw]? = some (wBox b) ∧ W.heap[bt]? = some (tBox K l pn pe pp n e q cn ce cp)
theorem Box2.stays {w0 : World} {b bw bt : Nat} (h1 : bw ≠ b) (h2 : bt ≠ b) (K : Int) (l : ByteArray) (pn pe pp : Option Addr) (n e q cn ce cp : Nat) : Stays w0 b (Box2 b bw bt K l pn pe pp n e q cn ce cp) :=
 (Stays.block h1 (by decide)).and (Stays.block h2 (by decide))
theorem Box2.cells {b bw bt : Nat} {K : Int} {l : ByteArray} {pn pe pp : Option Addr} {n e q cn ce cp : Nat} {W : World} (h : Box2 b bw bt K l pn pe pp n e q cn ce cp W) :
  W.cell? ⟨bw, 0, none⟩ = some (.pointer (some ⟨b, 0, none⟩)) ∧ W.cell? ⟨bt, 0, none⟩ = some (.int .i64 K) ∧ W.cell? ⟨bt, 1, none⟩ = some (.string l) ∧ W.cell? ⟨bt, 2, none⟩ = some (.slice pn n cn) ∧ W.cell? ⟨bt, 3, none⟩ = some (.slice pe e ce) ∧ W.cell? ⟨bt, 4, none⟩ = some (.slice pp q cp) :=
 ⟨by rw [Lib.cell_of_heap h.1]; rfl, by rw [Lib.cell_of_heap h.2]; rfl, by rw [Lib.cell_of_heap h.2]; rfl, by rw [Lib.cell_of_heap h.2]; rfl, by rw [Lib.cell_of_heap h.2]; rfl, by rw [Lib.cell_of_heap h.2]; rfl⟩
theorem boxes2 {w0 w : World} {b : Nat} {T : TypeId} {ts : List Tok} (hw : WrAt w0.heap.size b T ts w) (hts : ts.length ≤ 32769) (hb0 : Below w0.heap.size w0 w) (K : Int) (l : ByteArray) (pn pe pp : Option Addr) (n e q cn ce cp : Nat) :
  Ok w0 b T (Box2 b w.heap.size (w.heap.size + 1) K l pn pe pp n e q cn ce cp) w ts ((w.alloc (wBox b)).alloc (tBox K l pn pe pp n e q cn ce cp)) ∧ Stays w0 b (Box2 b w.heap.size (w.heap.size + 1) K l pn pe pp n e q cn ce cp) := by
 have hlt := hw.lt
 obtain ⟨ok1, st1⟩ := (Ok.of (I := fun _ => True) hw hts hb0 trivial).box (.true _ _) #[.pointer (some ⟨b, 0, none⟩)] 153 (by decide)
 obtain ⟨ok2, st2⟩ := ok1.box st1 #[.int .i64 K, .string l, .slice pn n cn, .slice pe e ce, .slice pp q cp] 53 (by decide)
 obtain ⟨h1, h2, h3, h4, h5, h6⟩ := ok2
 exact ⟨⟨h1, h2, h3, h4, h5, h6.1.2, by simpa using h6.2⟩, Box2.stays (by omega) (by omega) K l pn pe pp n e q cn ce cp⟩
theorem zlq (w0 : World) (b : Nat) (T : TypeId) (K : Int) (s l : Bs) (pn pe pp : Option Addr) (n e q cn ce cp : Nat) (hK : (K = 1 ∧ s = [105, 110, 116]) ∨ (K = 2 ∧ s = [98, 111, 111, 108]) ∨ (K = 3 ∧ s = [116, 101, 120, 116])) :
  Puts w0 b T (fun _ => True) 77 #[.pointer (some ⟨b, 0, none⟩), .agg #[.int .i64 K, .string ⟨l.toArray⟩, .slice pn n cn, .slice pe e ce, .slice pp q cp]] [tW s] := by
 intro ts w hw hts hb0 _
 obtain ⟨ok0, hS⟩ := boxes2 hw hts hb0 K ⟨l.toArray⟩ pn pe pp n e q cn ce cp
 have WD := za3 ((zb9 w0 b T s).ok (fun _ _ => trivial) hS ok0)
 clear ok0 hS hw hb0 hts
 rcases hK with ⟨rfl, rfl⟩ | ⟨rfl, rfl⟩ | ⟨rfl, rfl⟩
 all_goals
  go_enter Tryz.func77, Tryz.ntmps77
  go_wp2_with (go_at_call 89; refine (za0 WD).mono ?_; clear WD; rintro x wa ⟨rfl, ok⟩)
  exact bodyPost_end (v := .tuple #[]) (by simp [results, Tryz.results77, go_sem]) rfl (ok.fin rfl)
theorem type_name (w0 : World) (b : Nat) (T : TypeId) (l : Bs) (pn pe pp : Option Addr) (n e q cn ce cp : Nat) :
  Puts w0 b T (fun _ => True) 77 #[.pointer (some ⟨b, 0, none⟩), .agg #[.int .i64 4, .string ⟨l.toArray⟩, .slice pn n cn, .slice pe e ce, .slice pp q cp]] [tT l] := by
 intro ts w hw hts hb0 _
 obtain ⟨ok0, hS⟩ := boxes2 hw hts hb0 4 ⟨l.toArray⟩ pn pe pp n e q cn ce cp
 have WD := za3 ((zib w0 b T l).ok (fun _ _ => trivial) hS (ok0.drew hS))
 clear ok0 hS hw hb0 hts
 go_enter Tryz.func77, Tryz.ntmps77
 go_wp2
 go_region_with (go_at_call 101; refine (za0 WD).mono ?_; clear WD; rintro x wa ⟨rfl, ok⟩)
 all_goals
  go_wp2
  exact bodyPost_end (v := .tuple #[]) (by simp [results, Tryz.results77, go_sem]) rfl (ok.fin rfl)
theorem type_ptr (w0 : World) (b : Nat) (T : TypeId) (l : Bs) (pn pe pp : Option Addr) (n e cn ce cp : Nat) (tk : List Tok) (hP : TyPart w0 b T 77 pp 0 tk) :
  Puts w0 b T (fun _ => True) 77 #[.pointer (some ⟨b, 0, none⟩), .agg #[.int .i64 5, .string ⟨l.toArray⟩, .slice pn n cn, .slice pe e ce, .slice pp 1 cp]] (tS [42] :: tk) := by
 intro ts w hw hts hb0 _
 obtain ⟨g, o, K', l', p1, p2, p3, n1, n2, n3, c1, c2, c3, rfl, a0, a1, a2, a3, a4, wt⟩ := hP
 obtain ⟨ok0, hS⟩ := boxes2 hw hts hb0 5 ⟨l.toArray⟩ pn pe (some ⟨g, o, none⟩) n e 1 cn ce cp
 have WD := za3 ((zbn w0 b T [42]).ok (fun _ _ => trivial) hS ok0)
 have FF : Hid (∀ V : World, Below w0.heap.size w0 V → V.cell? ⟨g, o, none⟩ = some (.int .i64 K') ∧ V.cell? ⟨g, o + 1, none⟩ = some (.string l') ∧ V.cell? ⟨g, o + 2, none⟩ = some (.slice p1 n1 c1) ∧ V.cell? ⟨g, o + 3, none⟩ = some (.slice p2 n2 c2) ∧ V.cell? ⟨g, o + 4, none⟩ = some (.slice p3 n3 c3)) := fun V h =>
  ⟨by simpa using (h.cell (p := ⟨g, _, none⟩) (za2 a0)).trans a0, by simpa using (h.cell (p := ⟨g, _, none⟩) (za2 a1)).trans a1, by simpa using (h.cell (p := ⟨g, _, none⟩) (za2 a2)).trans a2, by simpa using (h.cell (p := ⟨g, _, none⟩) (za2 a3)).trans a3, by simpa using (h.cell (p := ⟨g, _, none⟩) (za2 a4)).trans a4⟩
 have WT := za3 wt
 have HS := za3 hS
 clear ok0 hS hw hb0 hts a0 a1 a2 a3 a4 wt
 go_enter Tryz.func77, Tryz.ntmps77
 go_wp2_with (go_at_call 87; refine (za0 WD).mono ?_; clear WD; rintro x wa ⟨rfl, ok⟩; obtain ⟨f0, f1, f2, f3, f4, f5⟩ := ok.2.2.2.2.2.cells; obtain ⟨m0, m1, m2, m3, m4⟩ := za0 FF wa ok.2.2.1; have OK := za3 ok; clear ok)
 go_region_with (go_at_call 77; refine ((za0 WT).ok (fun _ _ => trivial) (za0 HS) ((za0 OK).drew (za0 HS))).mono ?_; clear WT; rintro x wb ⟨rfl, ok2⟩)
 all_goals
  go_wp2
  exact bodyPost_end (v := .tuple #[]) (by simp [results, Tryz.results77, go_sem]) rfl (ok2.fin rfl)
theorem type_fn (w0 : World) (b : Nat) (T : TypeId) (l : Bs) (pn pe pp : Option Addr) (n e q cn ce cp : Nat) (tk : List Tok) (hP : Puts w0 b T (fun _ => True) 111 #[.pointer (some ⟨b, 0, none⟩), .agg #[.int .i64 7, .string ⟨l.toArray⟩, .slice pn n cn, .slice pe e ce, .slice pp q cp]] tk) :
  Puts w0 b T (fun _ => True) 77 #[.pointer (some ⟨b, 0, none⟩), .agg #[.int .i64 7, .string ⟨l.toArray⟩, .slice pn n cn, .slice pe e ce, .slice pp q cp]] (tW [102, 110] :: tk) := by
 intro ts w hw hts hb0 _
 obtain ⟨ok0, hS⟩ := boxes2 hw hts hb0 7 ⟨l.toArray⟩ pn pe pp n e q cn ce cp
 have WD := za3 ((zb9 w0 b T [102, 110]).ok (fun _ _ => trivial) hS ok0)
 have WT := za3 hP
 have HS := za3 hS
 clear ok0 hS hw hb0 hts hP
 go_enter Tryz.func77, Tryz.ntmps77
 go_wp2_with (first
  | (go_at_call 89; refine (za0 WD).mono ?_; clear WD; rintro x wa ⟨rfl, ok⟩; obtain ⟨f0, f1, f2, f3, f4, f5⟩ := ok.2.2.2.2.2.cells; have OK := za3 ok; clear ok)
  | (go_at_call 111; refine ((za0 WT).ok (fun _ _ => trivial) (za0 HS) (za0 OK)).mono ?_; clear WT; rintro x wb ⟨rfl, ok2⟩))
 exact bodyPost_end (v := .tuple #[]) (by simp [results, Tryz.results77, go_sem]) rfl (ok2.fin rfl)
theorem type_rec (w0 : World) (b : Nat) (T : TypeId) (l : Bs) (pn pe pp : Option Addr) (q cn ce cp : Nat) (tk : List Tok)
  (hP : ∀ bw bt, Puts w0 b T (Box2 b bw bt 6 ⟨l.toArray⟩ pn pe pp q q q cn ce cp) 109 #[.pointer (some ⟨bw, 0, none⟩), .pointer (some ⟨bt, 0, none⟩)] tk) :
  Puts w0 b T (fun _ => True) 77 #[.pointer (some ⟨b, 0, none⟩), .agg #[.int .i64 6, .string ⟨l.toArray⟩, .slice pn q cn, .slice pe q ce, .slice pp q cp]] (tS [123] :: (tk ++ [tS [125]])) := by
 intro ts w hw hts hb0 _
 obtain ⟨ok0, hS⟩ := boxes2 hw hts hb0 6 ⟨l.toArray⟩ pn pe pp q q q cn ce cp
 have WD := za3 ((zdv w0 b T _ hS _ (fun _ _ => by kernel_rfl) _ _ [123] [125] tk (hP w.heap.size (w.heap.size + 1))).ok (fun _ h => h) hS ok0)
 clear ok0 hS hw hb0 hts hP
 go_enter Tryz.func77, Tryz.ntmps77
 go_wp2_with (go_at_call 108; refine (za0 WD).mono ?_; clear WD; rintro x wa ⟨rfl, ok⟩)
 exact bodyPost_end (v := .tuple #[]) (by simp [results, Tryz.results77, go_sem]) rfl (ok.fin rfl)
theorem type_iface (w0 : World) (b : Nat) (T : TypeId) (l : Bs) (pn pe pp : Option Addr) (q e cn ce cp : Nat) (tk : List Tok)
  (hP : ∀ bw bt, Puts w0 b T (Box2 b bw bt 8 ⟨l.toArray⟩ pn pe pp q e q cn ce cp) 112 #[.pointer (some ⟨bw, 0, none⟩), .pointer (some ⟨bt, 0, none⟩)] tk) :
  Puts w0 b T (fun _ => True) 77 #[.pointer (some ⟨b, 0, none⟩), .agg #[.int .i64 8, .string ⟨l.toArray⟩, .slice pn q cn, .slice pe e ce, .slice pp q cp]] (tW [105, 110, 116, 101, 114, 102, 97, 99, 101] :: tS [123] :: (tk ++ [tS [125]])) := by
 intro ts w hw hts hb0 _
 obtain ⟨ok0, hS⟩ := boxes2 hw hts hb0 8 ⟨l.toArray⟩ pn pe pp q e q cn ce cp
 have WD := za3 ((zb9 w0 b T [105, 110, 116, 101, 114, 102, 97, 99, 101]).ok (fun _ _ => trivial) hS ok0)
 have WT := za3 (zdv w0 b T _ hS _ (fun _ _ => by kernel_rfl) _ _ [123] [125] tk (hP w.heap.size (w.heap.size + 1)))
 have HS := za3 hS
 clear ok0 hS hw hb0 hts hP
 go_enter Tryz.func77, Tryz.ntmps77
 go_wp2_with (first
  | (go_at_call 89; refine (za0 WD).mono ?_; clear WD; rintro x wa ⟨rfl, ok⟩; obtain ⟨f0, f1, f2, f3, f4, f5⟩ := ok.2.2.2.2.2.cells; have OK := za3 ok; clear ok)
  | (go_at_call 108; refine ((za0 WT).ok (fun _ h => h) (za0 HS) (za0 OK)).mono ?_; clear WT; rintro x wb ⟨rfl, ok2⟩))
 exact bodyPost_end (v := .tuple #[]) (by simp [results, Tryz.results77, go_sem]) rfl (ok2.fin rfl)
def TyPuts (w0 : World) (d : Nat) : Prop := ∀ (b : Nat) (T : TypeId) (v : Value) (t : Ty (d + 1)), TyVal w0 d v t → zhy d t → zck d t.2.2.2.2 → (∃ room, zeh d room t = true) →
 Puts w0 b T (fun _ => True) 77 #[.pointer (some ⟨b, 0, none⟩), v] (zac (d + 1) false t)
def SigPuts (w0 : World) (d : Nat) : Prop := ∀ (b : Nat) (T : TypeId) (v : Value) (t : Ty (d + 1)), TyVal w0 d v t → zhy d t → zck d t.2.2.2.2 → (∃ room, zeh d room t = true) → t.1 = 7 →
 Puts w0 b T (fun _ => True) 111 #[.pointer (some ⟨b, 0, none⟩), v] (zac (d + 1) true t)
def zfj (w0 : World) (F : FuncId) (sg : Bool) (d : Nat) : Prop := ∀ (b : Nat) (T : TypeId) (pp : Option Addr) (cp : Nat) (ts : List (Ty d)), TyRow w0 d (.slice pp ts.length cp) ts → zck d ts → (∃ room, zak d room ts = true) → (sg = true → fnsB d ts = true) →
 ∀ (k : Nat) (t : Ty d), ts[k]? = some t → TyPart w0 b T F pp k (zac d sg t)
theorem zlw {d : Nat} {t : Ty (d + 1)} (h : ∃ room, zeh d room t = true) : zcc d t = true ∧ ∃ room, zak d room t.2.2.2.2 = true := by
 obtain ⟨room, h⟩ := h
 simp only [zeh, Bool.and_eq_true] at h
 exact ⟨h.1.2, _, h.2⟩
theorem parts_put_ty (w0 : World) : (d : Nat) → TyPuts w0 d → zfj w0 77 false (d + 1) := fun d H b T pp cp ts hv hf hr _ k t hk => by
 obtain ⟨p, c, e, hp⟩ := hv
 injection e with e1 e2 e3
 subst e1
 obtain ⟨g, o, vn, ve, vp, rfl, a0, a1, a2, a3, a4, r1, r2, r3⟩ := hp k t hk
 obtain ⟨q1, q2⟩ := hf.2 t (List.mem_of_getElem? hk)
 obtain ⟨pn, cn, rfl, h1⟩ := r1
 obtain ⟨pe, ce, rfl, h2⟩ := r2
 obtain ⟨p3, c3, rfl⟩ := r3.slice
 refine ⟨g, o, _, _, _, _, _, _, _, _, _, _, _, rfl, a0, a1, a2, a3, a4, H b T _ t ⟨pn, pe, p3, cn, ce, c3, rfl, ⟨pn, cn, rfl, h1⟩, ⟨pe, ce, rfl, h2⟩, r3⟩ q1 q2 ?_⟩
 obtain ⟨room, hr⟩ := hr
 exact ⟨room, List.all_eq_true.1 hr t (List.mem_of_getElem? hk)⟩
theorem parts_put_sig (w0 : World) : (d : Nat) → SigPuts w0 d → zfj w0 111 true (d + 1) := fun d H b T pp cp ts hv hf hr hF k t hk => by
 obtain ⟨p, c, e, hp⟩ := hv
 injection e with e1 e2 e3
 subst e1
 obtain ⟨g, o, vn, ve, vp, rfl, a0, a1, a2, a3, a4, r1, r2, r3⟩ := hp k t hk
 obtain ⟨q1, q2⟩ := hf.2 t (List.mem_of_getElem? hk)
 obtain ⟨pn, cn, rfl, h1⟩ := r1
 obtain ⟨pe, ce, rfl, h2⟩ := r2
 obtain ⟨p3, c3, rfl⟩ := r3.slice
 refine ⟨g, o, _, _, _, _, _, _, _, _, _, _, _, rfl, a0, a1, a2, a3, a4, H b T _ t ⟨pn, pe, p3, cn, ce, c3, rfl, ⟨pn, cn, rfl, h1⟩, ⟨pe, ce, rfl, h2⟩, r3⟩ q1 q2 ?_ ?_⟩
 ·obtain ⟨room, hr⟩ := hr
  exact ⟨room, List.all_eq_true.1 hr t (List.mem_of_getElem? hk)⟩
 ·have := List.all_eq_true.1 (hF rfl) t (List.mem_of_getElem? hk)
  simpa using this
theorem getD_at {l : List Bs} {k : Nat} {s : Bs} (h : l[k]? = some s) : l.getD k [] = s := by rw [List.getD_eq_getElem?_getD, h]; rfl
theorem getDb_at {l : List Bool} {k : Nat} {s : Bool} (h : l[k]? = some s) : l.getD k false = s := by rw [List.getD_eq_getElem?_getD, h]; rfl
theorem sig_of (w0 : World) (d : Nat) (H : zfj w0 77 false d) : SigPuts w0 d := fun b T v t hv hs hf hr h7 => by
 obtain ⟨pn, pe, pp, cn, ce, cp, rfl, r1, r2, r3⟩ := hv
 obtain ⟨hsh, hrp⟩ := zlw hr
 obtain ⟨K, l, ns, es, ps⟩ := t
 dsimp only at *
 subst h7
 have hq : 1 ≤ ps.length := by
  simp [zcc, zaw] at hsh
  omega
 obtain ⟨q, hq⟩ : ∃ q, ps.length = q + 1 := ⟨ps.length - 1, by omega⟩
 have := sig_any w0 b T 7 ⟨l.toArray⟩ pn pe pp ns.length es.length q ps.length cn ce cp hq hs.2.2.2.2 (fun k => (ps[k]?.map (zac d false)).getD []) (fun k hk => by
  have hk' : ps[k]? = some ps[k] := by simp
  have := H b T pp cp ps r3 hf hrp (by simp) k _ hk'
  simp only [hk']
  exact this)
 simp only [zac, if_true, hq, Nat.add_sub_cancel]
 rw [hq] at this
 simp at this ⊢
 exact this
theorem type_of (w0 : World) (d : Nat) (H : zfj w0 77 false d) (HS : zfj w0 111 true d) : TyPuts w0 d := fun b T v t hv hs hf hr => by
 have hsig := sig_of w0 d H b T v t hv hs hf hr
 obtain ⟨pn, pe, pp, cn, ce, cp, rfl, r1, r2, r3⟩ := hv
 obtain ⟨hsh, hrp⟩ := zlw hr
 obtain ⟨K, l, ns, es, ps⟩ := t
 obtain ⟨f1, f2, f3, f4, f5⟩ := hs
 dsimp only at *
 have PT : ∀ k, k < ps.length → TyPart w0 b T 77 pp k ((ps[k]?.map (zac d false)).getD []) := fun k hk => by
  have hk' : ps[k]? = some ps[k] := by simp
  have := H b T pp cp ps r3 hf hrp (by simp) k _ hk'
  simp only [hk']
  exact this
 have hN : ∀ k, k < ns.length → ∃ g o, pn = some ⟨g, o, none⟩ ∧ w0.cell? ⟨g, o + k, none⟩ = some (.string ⟨(ns.getD k []).toArray⟩) := fun k hk => by
  obtain ⟨p, c, e, hp⟩ := r1
  injection e with e1 e2 e3
  subst e1
  obtain ⟨g, o, e, a⟩ := hp k ns[k] (by simp)
  exact ⟨g, o, e, by rw [a, getD_at (s := ns[k]) (by simp)]⟩
 have hE : ∀ k, k < es.length → ∃ g o, pe = some ⟨g, o, none⟩ ∧ w0.cell? ⟨g, o + k, none⟩ = some (.bool (es.getD k false)) := fun k hk => by
  obtain ⟨p, c, e, hp⟩ := r2
  injection e with e1 e2 e3
  subst e1
  obtain ⟨g, o, e, a⟩ := hp k es[k] (by simp)
  exact ⟨g, o, e, by rw [a, getDb_at (s := es[k]) (by simp)]⟩
 have hk : K = 1 ∨ K = 2 ∨ K = 3 ∨ K = 4 ∨ K = 5 ∨ K = 6 ∨ K = 7 ∨ K = 8 := by
  simp only [zcc, zaw] at hsh
  split at hsh
  ·simp at hsh
  ·repeat' split at hsh
   all_goals first | omega | (simp at hsh; done)
 rcases hk with rfl | rfl | rfl | rfl | rfl | rfl | rfl | rfl
 ·exact zlq w0 b T 1 _ l pn pe pp _ _ _ cn ce cp (.inl ⟨rfl, rfl⟩)
 ·exact zlq w0 b T 2 _ l pn pe pp _ _ _ cn ce cp (.inr (.inl ⟨rfl, rfl⟩))
 ·exact zlq w0 b T 3 _ l pn pe pp _ _ _ cn ce cp (.inr (.inr ⟨rfl, rfl⟩))
 ·exact type_name w0 b T l pn pe pp _ _ _ cn ce cp
 ·have hq : ps.length = 1 := by simp [zcc, zaw] at hsh; exact hsh.2.2
  have := type_ptr w0 b T l pn pe pp ns.length es.length cn ce cp _ (PT 0 (by omega))
  rw [hq]
  simpa [zac] using this
 ·have hq : ns.length = ps.length ∧ es.length = ps.length := by simp [zcc, zaw] at hsh; exact ⟨hsh.2.1.1, hsh.2.1.2⟩
  have := type_rec w0 b T l pn pe pp ps.length cn ce cp _ (fun bw bt => type1_any w0 b T bw bt 6 ⟨l.toArray⟩ pn pe pp ps.length cn ce cp f5 (fun k => ns.getD k []) (fun k => es.getD k false) (fun k => (ps[k]?.map (zac d false)).getD []) (hq.1 ▸ hN) (hq.2 ▸ hE) PT)
  rw [hq.1, hq.2]
  simp [zac, hq.1] at this ⊢
  exact this
 ·have := type_fn w0 b T l pn pe pp ns.length es.length ps.length cn ce cp _ (hsig rfl)
  simpa [zac] using this
 ·have hq : ns.length = ps.length ∧ fnsB d ps = true := by simp [zcc, zaw] at hsh; exact ⟨hsh.2.1.1.1, hsh.2.2⟩
  have PS : ∀ k, k < ps.length → TyPart w0 b T 111 pp k ((ps[k]?.map (zac d true)).getD []) := fun k hk => by
   have hk' : ps[k]? = some ps[k] := by simp
   have := HS b T pp cp ps r3 hf hrp (fun _ => hq.2) k _ hk'
   simp only [hk']
   exact this
  have := type_iface w0 b T l pn pe pp ps.length es.length cn ce cp _ (fun bw bt => type2_any w0 b T bw bt 8 ⟨l.toArray⟩ pn pe pp ps.length es.length cn ce cp f5 (fun k => ns.getD k []) (fun k => (ps[k]?.map (zac d true)).getD []) (hq.1 ▸ hN) PS)
  rw [hq.1]
  simp [zac, hq.1] at this ⊢
  exact this
theorem zc5 (w0 : World) : ∀ d, zfj w0 77 false d ∧ zfj w0 111 true d
 | 0 => ⟨fun _ _ _ _ _ _ _ _ _ _ t _ => (nomatch t), fun _ _ _ _ _ _ _ _ _ _ t _ => (nomatch t)⟩
 | d + 1 => ⟨parts_put_ty w0 d (type_of w0 d (zc5 w0 d).1 (zc5 w0 d).2), parts_put_sig w0 d (sig_of w0 d (zc5 w0 d).1)⟩
theorem writeType_any (w0 : World) (d : Nat) : TyPuts w0 d := type_of w0 d (zc5 w0 d).1 (zc5 w0 d).2
theorem zeg (x : Sum Nat Bs) : ∃ (s : ByteArray) (y : Int), zbk x = .tuple #[.string s, .int .i64 y] := by
 rcases x with y | l
 ·exact ⟨_, _, rfl⟩
 ·exact ⟨_, _, rfl⟩
theorem zjm (base b : Nat) (T : TypeId) (ts : List Tok) (w : World) (hw : WrAt base b T ts w) (hts : ts.length ≤ 32769) (hF : Fits ts) (ht : Tab w) (h5 : 4 ≤ w.heap.size) :
  Calls Tryz.prog 56 #[.pointer (some ⟨b, 0, none⟩)] w fun e w' => e = .returned (zbk (join ts)) ∧ Below w.heap.size w w' := by
 obtain ⟨_, _, v, hv, hr⟩ := hw
 have hc := hv.cell
 have JN := za3 (Join_any v ts w (TokRow.of_owns hr) (by omega) hF ht h5)
 obtain ⟨s, y, hj⟩ := zeg (join ts)
 rw [hj] at JN ⊢
 obtain ⟨p, c, rfl⟩ : ∃ p c, v = .slice p ts.length c := by
  rcases hr.2 with ⟨rfl, e⟩ | ⟨g, cap, cur, rfl, _⟩
  ·exact ⟨none, 0, by rw [e]⟩
  ·exact ⟨_, _, rfl⟩
 clear hv hr hF ht hj
 go_enter Tryz.func56, Tryz.ntmps56
 go_wp2_with (go_at_call 91; refine (za0 JN).mono ?_; clear JN; rintro x w1 ⟨rfl, hb1⟩)
 go_ret2
 exact ⟨rfl, hb1⟩
def zj4 (d : Nat) (t : Ty (d + 1)) : Sum Nat Bs := if zeh d 64 t = true then join (zar [] (zac (d + 1) false t)) else .inl 1
theorem WrAt.new (w : World) (T : TypeId) (hT : T ≠ 142) : WrAt w.heap.size w.heap.size T [] (w.alloc (.cells #[.slice none 0 0] T)) :=
 ⟨Nat.le_refl _, hT, _, zaj _ _, World.ownsRow_nil _ _ _ _⟩
theorem zjp (d : Nat) (v : Value) (t : Ty (d + 1)) (w : World) (hv : TyVal w d v t) (hs : zhy d t) (hf : zck d t.2.2.2.2) (ht : Tab w) (h5 : 4 ≤ w.heap.size) :
  Calls Tryz.prog 32 #[v] w fun e w' => e = .returned (zbk (zj4 d t)) ∧ Below w.heap.size w w' := by
 have hv0 := hv
 obtain ⟨pn, pe, pp, cn, ce, cp, rfl, _, _, _⟩ := hv
 obtain ⟨O, hO⟩ : ∃ O : Obj, O = tBox t.1 ⟨t.2.1.toArray⟩ pn pe pp t.2.2.1.length t.2.2.2.1.length t.2.2.2.2.length cn ce cp := ⟨_, rfl⟩
 have hb : Below w.heap.size w (w.alloc O) := (Below.refl _ _).alloc (Nat.le_refl _) O
 have RT := za3 (zj9 d (zd7 d) _ t 64 (w.alloc O) (hv0.below hb) hs hf (by omega) (by omega) (ht.below hb h5) (by simp; omega))
 have HA : Hid (zj4 d t = if zeh d 64 t = true then join (zar [] (zac (d + 1) false t)) else .inl 1) := rfl
 by_cases hr : zeh d 64 t = true
 ·rw [if_pos hr] at HA
  rw [hr] at RT
  obtain ⟨s, y, hj⟩ := zeg (join (zar [] (zac (d + 1) false t)))
  have CL : Hid (∀ w1 : World, Below (w.alloc O).heap.size (w.alloc O) w1 → ((w1.alloc (.cells #[.slice none 0 0] 95)).cell? ⟨w.heap.size, 0, none⟩ = some (.int .i64 t.1) ∧ (w1.alloc (.cells #[.slice none 0 0] 95)).cell? ⟨w.heap.size, 1, none⟩ = some (.string ⟨t.2.1.toArray⟩) ∧ (w1.alloc (.cells #[.slice none 0 0] 95)).cell? ⟨w.heap.size, 2, none⟩ = some (.slice pn t.2.2.1.length cn) ∧ (w1.alloc (.cells #[.slice none 0 0] 95)).cell? ⟨w.heap.size, 3, none⟩ = some (.slice pe t.2.2.2.1.length ce) ∧ (w1.alloc (.cells #[.slice none 0 0] 95)).cell? ⟨w.heap.size, 4, none⟩ = some (.slice pp t.2.2.2.2.length cp)) ∧
    Calls Tryz.prog 77 #[.pointer (some ⟨w1.heap.size, 0, none⟩), .agg #[.int .i64 t.1, .string ⟨t.2.1.toArray⟩, .slice pn t.2.2.1.length cn, .slice pe t.2.2.2.1.length ce, .slice pp t.2.2.2.2.length cp]] (w1.alloc (.cells #[.slice none 0 0] 95)) fun e w' => e = .returned (.tuple #[]) ∧ Below w.heap.size w w' ∧
     Calls Tryz.prog 56 #[.pointer (some ⟨w1.heap.size, 0, none⟩)] w' fun e w'' => e = .returned (.tuple #[.string s, .int .i64 y]) ∧ Below w.heap.size w w'') := fun w1 hb1 => by
   have hw1 : Below w.heap.size w w1 := hb.trans (hb1.mono (by simp))
   have hs1 := hw1.size
   have hblk : w1.heap[w.heap.size]? = some O := (hb1.block _ (by simp)).trans (zaj _ _)
   rw [hO] at hblk
   replace hblk := (((Below.refl w1.heap.size w1).alloc (Nat.le_refl _) (.cells #[.slice none 0 0] 95)).block _ (Array.getElem?_eq_some_iff.1 hblk).1).trans hblk
   refine ⟨⟨by rw [Lib.cell_of_heap hblk]; rfl, by rw [Lib.cell_of_heap hblk]; rfl, by rw [Lib.cell_of_heap hblk]; rfl, by rw [Lib.cell_of_heap hblk]; rfl, by rw [Lib.cell_of_heap hblk]; rfl⟩, ?_⟩
   have ha : Below w1.heap.size w1 (w1.alloc (.cells #[.slice none 0 0] 95)) := (Below.refl _ _).alloc (Nat.le_refl _) _
   refine (writeType_any w1 d w1.heap.size 95 _ t (hv0.below hw1) hs hf ⟨64, hr⟩ [] _ (WrAt.new w1 _ (by decide)) (by simp) ha trivial).mono ?_
   rintro x w2 ⟨rfl, hW2, hB2, _⟩
   have hb2 : Below w.heap.size w w2 := hw1.trans ((ha.trans hB2).mono hs1)
   refine ⟨rfl, hb2, ?_⟩
   rw [← hj]
   refine (zjm _ _ _ _ w2 hW2 (zbu _ _ (by simp)) (zjd _ _ zae (zfg (d + 1) false [t] ⟨by simp, fun u hu => by rw [List.mem_singleton] at hu; subst hu; exact ⟨hs, hf⟩⟩ t (by simp))) (ht.below hb2 h5) (by have := hb2.size; omega)).mono ?_
   rintro x w3 ⟨rfl, hb3⟩
   exact ⟨rfl, hb2.trans (hb3.mono hb2.size)⟩
  have HJ := za3 hj
  clear hj hv0 hs hf ht hb
  rw [hO] at CL RT
  clear hO
  go_enter Tryz.func32, Tryz.ntmps32
  go_wp2_with (first
   | (go_at_call 76; refine (za0 RT).mono ?_; clear RT; rintro x w1 ⟨rfl, hb1⟩; obtain ⟨⟨f0, f1, f2, f3, f4⟩, wt⟩ := za0 CL w1 hb1; have WT := za3 wt; clear wt CL)
   | (go_at_call 77; refine (za0 WT).mono ?_; clear WT; rintro x w2 ⟨rfl, hb2, tx⟩; have TX := za3 tx; clear tx)
   | (go_at_call 56; refine (za0 TX).mono ?_; clear TX; rintro x w3 ⟨rfl, hb3⟩))
  go_ret2
  exact ⟨by rw [za0 HA, za0 HJ]; rfl, hb3⟩
 ·have hr := (Bool.not_eq_true _).mp hr
  rw [if_neg (by rw [hr]; simp)] at HA
  rw [hr] at RT
  have HB := za3 hb
  clear hv0 hs hf ht hb
  rw [hO] at RT HB
  clear hO
  go_enter Tryz.func32, Tryz.ntmps32
  go_wp2_with (go_at_call 76; refine (za0 RT).mono ?_; clear RT; rintro x w1 ⟨rfl, hb1⟩)
  go_ret2
  exact ⟨by rw [za0 HA]; rfl, (za0 HB).trans (hb1.mono (by simp))⟩
end Go.Proofs.YtmpbbmfbgcpplaaGreatDoor
