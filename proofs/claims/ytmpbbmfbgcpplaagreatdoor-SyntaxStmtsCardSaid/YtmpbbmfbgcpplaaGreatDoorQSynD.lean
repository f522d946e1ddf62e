import Derived.Test.YtmpbbmfbgcpplaaGreatDoorQSynC
set_option maxHeartbeats 4000000
set_option maxRecDepth 100000
namespace Go.Proofs.YtmpbbmfbgcpplaaGreatDoor
open Go Go.RowKit Lx
def zcu (tk : Nat → List Tok) (i : Nat) : List Tok := (if 0 < i then [tS [44]] else []) ++ tk i
theorem zei : ∀ (ts : List Tok) (j : Nat) (t : Tok) (i : Nat) (u : Value), ts[j]? = some t → (zbb t)[i]? = some u → (zcx ts)[j * 4 + i]? = some u
 | [], j, t, i, u, h, _ => by simp at h
 | x :: r, 0, t, i, u, h, hu => by
  simp at h; subst h
  have hi : i < (zbb x).length := (List.getElem?_eq_some_iff.1 hu).1
  show (zbb x ++ zcx r)[0 * 4 + i]? = some u
  rw [show 0 * 4 + i = i from by omega, List.getElem?_append_left hi]; exact hu
 | x :: r, j + 1, t, i, u, h, hu => by
  have ih := zei r j t i u (by simpa using h) hu
  show (zbb x ++ zcx r)[(j + 1) * 4 + i]? = some u
  rw [List.getElem?_append_right (by simp [zbb]; omega)]
  rw [show (j + 1) * 4 + i - (zbb x).length = j * 4 + i from by simp [zbb]; omega]
  exact ih
theorem addr_add (g k : Nat) : (⟨g, 0, none⟩ : Addr).add k = ⟨g, k, none⟩ := by
 by_cases h : k = 0
 ·subst h; rfl
 ·simp [Addr.add, h]
theorem TokRow.of_owns {W : World} {base : Nat} {v : Value} {ts : List Tok} (h : W.ownsRow base 142 4 v ts.length (zcx ts)) : TokRow W v ts := by
 rcases h.2 with ⟨rfl, h0⟩ | ⟨g, cap, cur, rfl, hg, r⟩
 ·refine ⟨none, 0, by rw [h0], fun j t ht => ?_⟩
  rw [List.eq_nil_of_length_eq_zero h0] at ht; simp at ht
 ·refine ⟨some ⟨g, 0, none⟩, cap, rfl, fun j t ht => ⟨g, 0, rfl, ?_, ?_, ?_, ?_⟩⟩
  ·have := h.cells (g := g) rfl (j * 4 + 0) _ (zei ts j t 0 _ ht rfl); rw [addr_add] at this; simpa [Nat.add_assoc] using this
  ·have := h.cells (g := g) rfl (j * 4 + 1) _ (zei ts j t 1 _ ht rfl); rw [addr_add] at this; simpa [Nat.add_assoc] using this
  ·have := h.cells (g := g) rfl (j * 4 + 2) _ (zei ts j t 2 _ ht rfl); rw [addr_add] at this; simpa [Nat.add_assoc] using this
  ·have := h.cells (g := g) rfl (j * 4 + 3) _ (zei ts j t 3 _ ht rfl); rw [addr_add] at this; simpa [Nat.add_assoc] using this
theorem zae : Fits [] := fun t h => by simp at h
theorem zaf {a b : List Tok} (h : Fits a) (k : Fits b) : Fits (a ++ b) := fun t ht => (List.mem_append.1 ht).elim (h t) (k t)
theorem fits_cons {t : Tok} {b : List Tok} (h : t.2.2.1.length ≤ 35184372088832 ∧ -9223372036854775808 ≤ t.2.2.2 ∧ t.2.2.2 ≤ 9223372036854775807) (k : Fits b) : Fits (t :: b) := fun u hu => by
 rcases List.mem_cons.1 hu with rfl | hu
 ·exact h
 ·exact k u hu
theorem zap {k : Int} {s : Bs} {b : List Tok} (h : s.length ≤ 35184372088832) (hb : Fits b) : Fits ((0, k, s, 0) :: b) := fits_cons ⟨h, (show (-9223372036854775808 : Int) ≤ 0 by decide), (show (0 : Int) ≤ 9223372036854775807 by decide)⟩ hb
theorem zi9 {α : Type} {l : List α} {f : α → List Tok} (h : ∀ a ∈ l, Fits (f a)) : Fits (l.flatMap f) := fun t ht => by
 obtain ⟨a, ha, hat⟩ := List.mem_flatMap.1 ht
 exact h a ha t hat
theorem putT_mem {ts : List Tok} {x t : Tok} (h : t ∈ putT ts x) : t ∈ ts ∨ t = x := by
 unfold putT at h; split at h
 ·simpa using h
 ·exact .inl h
theorem zjd : ∀ (l ts : List Tok), Fits ts → Fits l → Fits (zar ts l)
 | [], _, h, _ => h
 | x :: l, ts, h, k => zjd l _ (fun t ht => (putT_mem ht).elim (h t) (fun e => e ▸ k x (by simp))) (fun t ht => k t (by simp [ht]))
theorem zim : ∀ (l ts : List Tok), ts.length + l.length ≤ 32769 → zar ts l = ts ++ l
 | [], ts, _ => by simp [zar]
 | x :: l, ts, h => by
  simp at h
  rw [zal, putT, if_pos (by omega), zim l _ (by simp; omega)]; simp
theorem zi2 {α : Type} {l : List α} {i : Nat} {f : α → List Tok} (h : ∀ a ∈ l, Fits (f a)) : Fits ((l[i]?.map f).getD []) := by
 rcases hi : l[i]? with _ | a
 ·exact zae
 ·exact h a (List.mem_of_getElem? hi)
theorem zjq {l : List Bs} {i n : Nat} (h : ∀ s ∈ l, s.length ≤ n) : (l.getD i []).length ≤ n := by
 rw [List.getD_eq_getElem?_getD]
 rcases hi : l[i]? with _ | a
 ·simp
 ·exact h a (List.mem_of_getElem? hi)
theorem zfg : ∀ (d : Nat) (sg : Bool) (ts : List (Ty d)), zck d ts → ∀ t ∈ ts, Fits (zac d sg t)
 | 0, _, _, _, t, _ => nomatch t
 | d + 1, sg, ts, h, t, ht => by
  obtain ⟨⟨f1, f2, f3, f4, f5⟩, hp⟩ := h.2 t ht
  have hs : ∀ s i, Fits (((t.2.2.2.2)[i]?.map (zac d s)).getD []) := fun s i => zi2 fun a ha => zfg d s _ hp a ha
  have hsig : Fits (tS [40] :: ((List.range (t.2.2.2.2.length - 1)).flatMap fun i => (if 0 < i then [tS [44]] else []) ++ ((t.2.2.2.2)[i]?.map (zac d false)).getD []) ++ tS [41] :: ((t.2.2.2.2)[t.2.2.2.2.length - 1]?.map (zac d false)).getD []) := by
   refine zaf (zap (by decide) (zi9 fun i _ => zaf ?_ (hs _ _))) (zap (by decide) (hs _ _))
   split
   ·exact zap (by decide) zae
   ·exact zae
  unfold zac
  simp only []
  repeat' split
  ·exact hsig
  ·exact zap (by decide) zae
  ·exact zap (by decide) zae
  ·exact zap (by decide) zae
  ·exact zap f1 zae
  ·exact zap (by decide) (hs _ _)
  ·refine zaf (zap (by decide) (zi9 fun i _ => zaf (zaf ?_ (zap (zjq f3) (hs _ _))) (zap (by decide) zae))) (zap (by decide) zae)
   split
   ·exact zap (by decide) zae
   ·exact zae
  ·exact zap (by decide) hsig
  ·exact zaf (zap (by decide) (zap (by decide) (zi9 fun i _ => zaf (zap (zjq f3) (hs _ _)) (zap (by decide) zae)))) (zap (by decide) zae)
  ·exact zae
def Stays (w0 : World) (b : Nat) (I : World → Prop) : Prop := ∀ W W', I W → Below w0.heap.size W W' → Stay b W W' → I W'
def Puts (w0 : World) (b : Nat) (T : TypeId) (I : World → Prop) (F : FuncId) (args : Array Value) (tk : List Tok) : Prop :=
 ∀ ts W, WrAt w0.heap.size b T ts W → ts.length ≤ 32769 → Below w0.heap.size w0 W → I W →
  Calls Tryz.prog F args W fun e w' => e = .returned (.tuple #[]) ∧ WrAt w0.heap.size b T (zar ts tk) w' ∧ Below w0.heap.size W w' ∧ Stay b W w'
theorem WrAt.alloc {base b : Nat} {T : TypeId} {ts : List Tok} {w : World} (h : WrAt base b T ts w) (O : Obj) : WrAt base b T ts (w.alloc O) := by
 obtain ⟨h1, h2, v, h3, h4⟩ := h; exact ⟨h1, h2, v, h3.alloc O, h4.alloc O⟩
theorem WrAt.lt {base b : Nat} {T : TypeId} {ts : List Tok} {w : World} (h : WrAt base b T ts w) : b < w.heap.size := by
 obtain ⟨_, _, v, h, _⟩ := h; exact h.lt
theorem WrAt.drew {base b : Nat} {T : TypeId} {ts : List Tok} {w : World} (h : WrAt base b T ts w) : WrAt base b T ts w.drew := by
 obtain ⟨h1, h2, v, h3, h4⟩ := h; exact ⟨h1, h2, v, h3, h4.drew⟩
theorem zfe {B : Nat} {a w : World} (h : Below B a w) : Below B a w.drew := h.trans ⟨rfl, rfl, rfl, Nat.le_refl _, fun _ _ => rfl⟩
theorem zkw {b : Nat} {a w : World} (h : Stay b a w) : Stay b a w.drew := h.trans ⟨Nat.le_refl _, fun _ _ h _ _ => h⟩
theorem Puts.drew {w0 : World} {b : Nat} {T : TypeId} {I : World → Prop} {F : FuncId} {args : Array Value} {tk : List Tok} (h : Puts w0 b T I F args tk) {ts : List Tok} {w : World} (hw : WrAt w0.heap.size b T ts w) (hts : ts.length ≤ 32769) (hb0 : Below w0.heap.size w0 w) (hi : I w.drew) :
  Calls Tryz.prog F args w.drew fun e w' => e = .returned (.tuple #[]) ∧ WrAt w0.heap.size b T (zar ts tk) w' ∧ Below w0.heap.size w w' ∧ Stay b w w' :=
 (h ts w.drew hw.drew hts (zfe hb0) hi).mono fun _ _ ⟨h1, h2, h3, h4⟩ => ⟨h1, h2, (zfe (Below.refl _ _)).trans h3, (zkw (.refl _ _)).trans h4⟩
theorem zdv (w0 : World) (b : Nat) (T : TypeId) (I : World → Prop) (hI : Stays w0 b I) (F : FuncId) (hF : ∀ args w, Sem.run Tryz.prog (callFunc F args) w = .ok (.enter F args) w) (c1 c2 : Value) (s1 s2 : Bs) (tk : List Tok) (hP : Puts w0 b T I F #[c1, c2] tk) :
  Puts w0 b T I 108 #[.pointer (some ⟨b, 0, none⟩), .string ⟨s1.toArray⟩, .func (.func F) #[] #[c1, c2], .string ⟨s2.toArray⟩] (tS s1 :: (tk ++ [tS s2])) := by
 intro ts w hw hts hb0 hi
 rw [zal, za6, zal, zbf]
 have HP := za3 hP
 have HW := za3 hw
 have HB := za3 hb0
 have HI := za3 hi
 have HS := za3 hI
 clear hP hw hb0 hi hI
 go_enter Tryz.func108, Tryz.ntmps108
 go_wp2_with (go_at_call 87; refine (zdj w0.heap.size b T _ s1 _ (za0 HW) (by omega)).mono ?_; clear HW; rintro x wa ⟨rfl, HW_a, hB_a, hS_a⟩)
 refine (za0 HP _ _ HW_a (zcs _ hts) ((za0 HB).trans hB_a) (za0 HS _ _ (za0 HI) hB_a hS_a)).mono ?_
 clear HP
 rintro x wb ⟨rfl, HW_b, hB_b, hS_b⟩
 go_wp2_with (go_at_call 87; refine (zdj w0.heap.size b T _ s2 _ HW_b (Nat.le_trans (zbu _ _ (zcs _ hts)) (by omega))).mono ?_; rintro x wc ⟨rfl, HW_c, hB_c, hS_c⟩)
 exact bodyPost_end (v := .tuple #[]) (by simp [results, Tryz.results108, go_sem]) rfl ⟨rfl, HW_c, hB_a.trans (hB_b.trans hB_c), hS_a.trans (hS_b.trans hS_c)⟩
theorem between_any3 (w0 : World) (b : Nat) (T : TypeId) (I : World → Prop) (hI : Stays w0 b I) (F : FuncId) (hF : ∀ args w, Sem.run Tryz.prog (callFunc F args) w = .ok (.enter F args) w) (c1 c2 c3 : Value) (s1 s2 : Bs) (tk : List Tok) (hP : Puts w0 b T I F #[c1, c2, c3] tk) :
  Puts w0 b T I 108 #[.pointer (some ⟨b, 0, none⟩), .string ⟨s1.toArray⟩, .func (.func F) #[] #[c1, c2, c3], .string ⟨s2.toArray⟩] (tS s1 :: (tk ++ [tS s2])) := by
 intro ts w hw hts hb0 hi
 rw [zal, za6, zal, zbf]
 have HP := za3 hP
 have HW := za3 hw
 have HB := za3 hb0
 have HI := za3 hi
 have HS := za3 hI
 clear hP hw hb0 hi hI
 go_enter Tryz.func108, Tryz.ntmps108
 go_wp2_with (go_at_call 87; refine (zdj w0.heap.size b T _ s1 _ (za0 HW) (by omega)).mono ?_; clear HW; rintro x wa ⟨rfl, HW_a, hB_a, hS_a⟩)
 refine (za0 HP _ _ HW_a (zcs _ hts) ((za0 HB).trans hB_a) (za0 HS _ _ (za0 HI) hB_a hS_a)).mono ?_
 clear HP
 rintro x wb ⟨rfl, HW_b, hB_b, hS_b⟩
 go_wp2_with (go_at_call 87; refine (zdj w0.heap.size b T _ s2 _ HW_b (Nat.le_trans (zbu _ _ (zcs _ hts)) (by omega))).mono ?_; rintro x wc ⟨rfl, HW_c, hB_c, hS_c⟩)
 exact bodyPost_end (v := .tuple #[]) (by simp [results, Tryz.results108, go_sem]) rfl ⟨rfl, HW_c, hB_a.trans (hB_b.trans hB_c), hS_a.trans (hS_b.trans hS_c)⟩
theorem ziv (w0 : World) (b : Nat) (T : TypeId) (I : World → Prop) (hI : Stays w0 b I) (F : FuncId) (hF : ∀ args w, Sem.run Tryz.prog (callFunc F args) w = .ok (.enter F args) w) (c1 c2 : Value) (q : Nat) (hq : q ≤ 1000000) (tk : Nat → List Tok) (hP : ∀ k : Nat, k < q → Puts w0 b T I F #[.int .i64 k, c1, c2] (tk k)) :
  Puts w0 b T I 139 #[.pointer (some ⟨b, 0, none⟩), .int .i64 q, .func (.func F) #[] #[c1, c2]] ((List.range q).flatMap (zcu tk)) := by
 intro ts w hw hts hb0 hi
 have HP := za3 hP
 have HB := za3 hb0
 have HW := za3 hw
 have HI := za3 hi
 have HS := za3 hI
 clear hP hb0 hw hi hI
 go_enter Tryz.func139, Tryz.ntmps139
 go_wp2
 go_loopw [8] (fun i wr => ∃ k : Nat, i = .int .i64 k ∧ k ≤ q ∧ Hid (WrAt w0.heap.size b T (zar ts ((List.range k).flatMap (zcu tk))) wr) ∧ Hid (Below w0.heap.size w wr) ∧ Hid (Stay b w wr) ∧ Hid (I wr)) (fun i _ => q - (intOf i).toNat)
 case atStart => exact ⟨0, rfl, by omega, za0 HW, Below.refl _ _, .refl _ _, za0 HI⟩
 case round =>
  obtain ⟨k, rfl, hk, HWr, HBr, HSr, HOr⟩ := hrel
  by_cases hlt : k < q
  ·have hlt' : (k : Int) < (q : Int) := by omega
   have HK := za3 (zlx ts (zcu tk) k)
   have hl0 : (zar ts ((List.range k).flatMap (zcu tk))).length ≤ 32769 := zbu _ _ hts
   obtain ⟨ts1, hts1⟩ : ∃ x, x = zar ts ((List.range k).flatMap (zcu tk)) := ⟨_, rfl⟩
   rw [← hts1] at HWr HK hl0
   have HZr := (za0 HB).trans (za0 HBr)
   have CL := za3 (za0 HP k hlt)
   clear hts1 hts HW HP
   rw [zcu] at HK
   by_cases h0 : 0 < k
   ·have h0' : (0 : Int) < (k : Int) := by omega
    rw [if_pos h0, za6, zal, zbf] at HK
    go_wp2_with (go_at_call 87; refine (zdj w0.heap.size b T _ [44] _ (za0 HWr) (by omega)).mono ?_; rintro x wa ⟨rfl, HW_wa, hB_wa, hS_wa⟩; have HZ_wa := HZr.trans hB_wa; have HO1 := za0 HS _ _ (za0 HOr) hB_wa hS_wa)
    refine (za0 CL _ _ HW_wa (zcs _ hl0) HZ_wa HO1).mono ?_
    rintro x wb ⟨rfl, HW_wb, hB_wb, hS_wb⟩
    go_wp2
    go_roundw
    case rel => exact ⟨k + 1, by go_num, by omega, (by rw [za0 HK]; exact HW_wb), (za0 HBr).trans (hB_wa.trans hB_wb), (za0 HSr).trans (hS_wa.trans hS_wb), za0 HS _ _ HO1 hB_wb hS_wb⟩
    case measure => simp [intOf]; omega
   ·obtain rfl : k = 0 := by omega
    rw [if_neg h0, List.nil_append] at HK
    go_wp2
    refine (za0 CL _ _ (za0 HWr) hl0 HZr (za0 HOr)).mono ?_
    rintro x wb ⟨rfl, HW_wb, hB_wb, hS_wb⟩
    go_wp2
    go_roundw
    case rel => exact ⟨1, by go_num, by omega, (by rw [za0 HK]; exact HW_wb), (za0 HBr).trans hB_wb, (za0 HSr).trans hS_wb, za0 HS _ _ (za0 HOr) hB_wb hS_wb⟩
    case measure => simp [intOf]; omega
  ·obtain rfl : k = q := by omega
   go_wp2
   exact bodyPost_end (v := .tuple #[]) (by simp [results, Tryz.results139, go_sem]) rfl ⟨rfl, za0 HWr, za0 HBr, za0 HSr⟩
theorem Stays.and {w0 : World} {b : Nat} {I J : World → Prop} (h : Stays w0 b I) (k : Stays w0 b J) : Stays w0 b (fun W => I W ∧ J W) := fun W W' hi hb hs => ⟨h W W' hi.1 hb hs, k W W' hi.2 hb hs⟩
theorem Stays.true (w0 : World) (b : Nat) : Stays w0 b (fun _ => True) := fun _ _ _ _ _ => trivial
theorem Stays.block {w0 : World} {b p : Nat} {c : Array Value} {t : TypeId} {fz : Nat × Nat} (hn : p ≠ b) (ht : t ≠ 142) : Stays w0 b (fun W => W.heap[p]? = some (.cells c t fz)) :=
 fun W W' hi _ hs => hs.2 _ _ hi hn (fun c' fz' e => by injection e with _ e _; exact ht e)
def TyPart (w0 : World) (b : Nat) (T : TypeId) (F : FuncId) (pp : Option Addr) (k : Nat) (tk : List Tok) : Prop :=
 ∃ (g o : Nat) (K' : Int) (l' : ByteArray) (p1 p2 p3 : Option Addr) (n1 n2 n3 c1 c2 c3 : Nat), pp = some ⟨g, o, none⟩ ∧ w0.cell? ⟨g, o + k * 5, none⟩ = some (.int .i64 K') ∧ w0.cell? ⟨g, o + k * 5 + 1, none⟩ = some (.string l') ∧
   w0.cell? ⟨g, o + k * 5 + 2, none⟩ = some (.slice p1 n1 c1) ∧ w0.cell? ⟨g, o + k * 5 + 3, none⟩ = some (.slice p2 n2 c2) ∧ w0.cell? ⟨g, o + k * 5 + 4, none⟩ = some (.slice p3 n3 c3) ∧
   Puts w0 b T (fun _ => True) F #[.pointer (some ⟨b, 0, none⟩), .agg #[.int .i64 K', .string l', .slice p1 n1 c1, .slice p2 n2 c2, .slice p3 n3 c3]] tk
abbrev wBox (b : Nat) : Obj := .cells #[.pointer (some ⟨b, 0, none⟩)] 153
abbrev tBox (K : Int) (l : ByteArray) (pn pe pp : Option Addr) (n e q cn ce cp : Nat) : Obj := .cells #[.int .i64 K, .string l, .slice pn n cn, .slice pe e ce, .slice pp q cp] 53
theorem sig11_any (w0 : World) (b : Nat) (T : TypeId) (bw bf : Nat) (K : Int) (l : ByteArray) (pn pe pp : Option Addr) (n e q cn ce cp k : Nat) (hk : k < q) (_hq : q ≤ 1000000) (tk : List Tok) (hP : TyPart w0 b T 77 pp k tk) :
  Puts w0 b T (fun W => W.heap[bw]? = some (wBox b) ∧ W.heap[bf]? = some (tBox K l pn pe pp n e q cn ce cp)) 144 #[.int .i64 k, .pointer (some ⟨bw, 0, none⟩), .pointer (some ⟨bf, 0, none⟩)] tk := by
 intro ts w hw hts hb0 hi
 obtain ⟨g, o, K', l', p1, p2, p3, n1, n2, n3, c1, c2, c3, rfl, a0, a1, a2, a3, a4, wt⟩ := hP
 have d0 : w.cell? ⟨bw, 0, none⟩ = some (.pointer (some ⟨b, 0, none⟩)) := by rw [Lib.cell_of_heap hi.1]; rfl
 have d4 : w.cell? ⟨bf, 4, none⟩ = some (.slice (some ⟨g, o, none⟩) q cp) := by rw [Lib.cell_of_heap hi.2]; rfl
 have m0 := (hb0.cell (p := ⟨g, _, none⟩) (za2 a0)).trans a0
 have m1 := (hb0.cell (p := ⟨g, _, none⟩) (za2 a1)).trans a1
 have m2 := (hb0.cell (p := ⟨g, _, none⟩) (za2 a2)).trans a2
 have m3 := (hb0.cell (p := ⟨g, _, none⟩) (za2 a3)).trans a3
 have m4 := (hb0.cell (p := ⟨g, _, none⟩) (za2 a4)).trans a4
 have hk' : (k : Int) < (q : Int) := by omega
 have WT := za3 (wt.drew hw hts hb0 trivial)
 clear wt a0 a1 a2 a3 a4 hi hw hb0
 go_enter Tryz.func144, Tryz.ntmps144
 go_wp2
 go_region_with (go_at_call 77; refine (za0 WT).mono ?_; clear WT; rintro x wb ⟨rfl, HW_b, hB_b, hS_b⟩)
 all_goals
  go_wp2
  exact bodyPost_end (v := .tuple #[]) (by simp [results, Tryz.results144, go_sem]) rfl ⟨rfl, HW_b, hB_b, hS_b⟩
theorem sig1_any (w0 : World) (b : Nat) (T : TypeId) (bw bf bl : Nat) (q : Nat) (I : World → Prop) (hI : Stays w0 b I) (hbw : ∀ W, I W → W.heap[bw]? = some (wBox b)) (hbl : ∀ W, I W → W.heap[bl]? = some (.cells #[.int .i64 q] 3)) (hdr : ∀ W, I W → I W.drew) (hq : q ≤ 1000000) (tk : Nat → List Tok)
  (hP : ∀ k : Nat, k < q → Puts w0 b T I 144 #[.int .i64 k, .pointer (some ⟨bw, 0, none⟩), .pointer (some ⟨bf, 0, none⟩)] (tk k)) :
  Puts w0 b T I 143 #[.pointer (some ⟨bw, 0, none⟩), .pointer (some ⟨bl, 0, none⟩), .pointer (some ⟨bf, 0, none⟩)] ((List.range q).flatMap (zcu tk)) := by
 intro ts w hw hts hb0 hi
 have d0 : w.cell? ⟨bw, 0, none⟩ = some (.pointer (some ⟨b, 0, none⟩)) := by rw [Lib.cell_of_heap (hbw _ hi)]; rfl
 have d1 : w.cell? ⟨bl, 0, none⟩ = some (.int .i64 q) := by rw [Lib.cell_of_heap (hbl _ hi)]; rfl
 have WT := za3 ((ziv w0 b T I hI _ (fun _ _ => by kernel_rfl) _ _ q hq tk hP).drew hw hts hb0 (hdr _ hi))
 clear hi hw hb0 hbw hbl hdr hP hI
 go_enter Tryz.func143, Tryz.ntmps143
 go_wp2
 go_region_with (go_at_call 139; refine (za0 WT).mono ?_; clear WT; rintro x wb ⟨rfl, HW_b, hB_b, hS_b⟩)
 all_goals
  go_wp2
  exact bodyPost_end (v := .tuple #[]) (by simp [results, Tryz.results143, go_sem]) rfl ⟨rfl, HW_b, hB_b, hS_b⟩
def Ok (w0 : World) (b : Nat) (T : TypeId) (I : World → Prop) (w : World) (ts : List Tok) (W : World) : Prop :=
 WrAt w0.heap.size b T ts W ∧ ts.length ≤ 32769 ∧ Below w0.heap.size w0 W ∧ Below w0.heap.size w W ∧ Stay b w W ∧ I W
theorem Stays.drew {w0 : World} {b : Nat} {I : World → Prop} (h : Stays w0 b I) {W : World} (hi : I W) : I W.drew := h W _ hi (zfe (Below.refl _ _)) (zkw (.refl _ _))
theorem Ok.drew {w0 w W : World} {b : Nat} {T : TypeId} {I : World → Prop} {ts : List Tok} (hS : Stays w0 b I) (h : Ok w0 b T I w ts W) : Ok w0 b T I w ts W.drew :=
 ⟨h.1.drew, h.2.1, zfe h.2.2.1, zfe h.2.2.2.1, zkw h.2.2.2.2.1, hS.drew h.2.2.2.2.2⟩
theorem Puts.ok {w0 w W : World} {b : Nat} {T : TypeId} {I J : World → Prop} {F : FuncId} {args : Array Value} {ts tk : List Tok} (h : Puts w0 b T J F args tk) (hJ : ∀ W, I W → J W) (hS : Stays w0 b I) (ok : Ok w0 b T I w ts W) :
  Calls Tryz.prog F args W fun e w' => e = .returned (.tuple #[]) ∧ Ok w0 b T I w (zar ts tk) w' :=
 (h ts W ok.1 ok.2.1 ok.2.2.1 (hJ _ ok.2.2.2.2.2)).mono fun _ _ ⟨h1, h2, h3, h4⟩ => ⟨h1, h2, zbu _ _ ok.2.1, ok.2.2.1.trans h3, ok.2.2.2.1.trans h3, ok.2.2.2.2.1.trans h4, hS _ _ ok.2.2.2.2.2 h3 h4⟩
theorem Ok.fin {w0 w W : World} {b : Nat} {T : TypeId} {I : World → Prop} {ts ts' : List Tok} (h : Ok w0 b T I w ts' W) (e : ts' = ts) : Ending.returned (.tuple #[]) = Ending.returned (.tuple #[]) ∧ WrAt w0.heap.size b T ts W ∧ Below w0.heap.size w W ∧ Stay b w W :=
 ⟨rfl, e ▸ h.1, h.2.2.2.1, h.2.2.2.2.1⟩
theorem Ok.of {w0 w : World} {b : Nat} {T : TypeId} {ts : List Tok} {I : World → Prop} (hw : WrAt w0.heap.size b T ts w) (hts : ts.length ≤ 32769) (hb0 : Below w0.heap.size w0 w) (hi : I w) : Ok w0 b T I w ts w := ⟨hw, hts, hb0, Below.refl _ _, .refl _ _, hi⟩
theorem Ok.box {w0 w W : World} {b : Nat} {T : TypeId} {ts : List Tok} {I : World → Prop} (hS : Stays w0 b I) (h : Ok w0 b T I w ts W) (c : Array Value) (t : TypeId) (ht : t ≠ 142) :
  Ok w0 b T (fun V => I V ∧ V.heap[W.heap.size]? = some (.cells c t)) w ts (W.alloc (.cells c t)) ∧ Stays w0 b (fun V => I V ∧ V.heap[W.heap.size]? = some (.cells c t)) := by
 have hb : Below w0.heap.size W (W.alloc (.cells c t)) := (Below.refl _ _).alloc h.2.2.1.size _
 have hs : Stay b W (W.alloc (.cells c t)) := .of_below ((Below.refl _ _).alloc (Nat.le_refl _) _)
 have hlt := h.1.lt
 exact ⟨⟨h.1.alloc _, h.2.1, h.2.2.1.trans hb, h.2.2.2.1.trans hb, h.2.2.2.2.1.trans hs, hS _ _ h.2.2.2.2.2 hb hs, zaj _ _⟩, hS.and (Stays.block (by omega) ht)⟩
theorem zbn (w0 : World) (b : Nat) (T : TypeId) (s : Bs) : Puts w0 b T (fun _ => True) 87 #[.pointer (some ⟨b, 0, none⟩), .string ⟨s.toArray⟩] [tS s] := fun ts w hw hl _ _ => zdj w0.heap.size b T ts s w hw (by omega)
theorem zb9 (w0 : World) (b : Nat) (T : TypeId) (s : Bs) : Puts w0 b T (fun _ => True) 89 #[.pointer (some ⟨b, 0, none⟩), .string ⟨s.toArray⟩] [tW s] := fun ts w hw hl _ _ => wWord_any w0.heap.size b T ts s w hw (by omega)
theorem zf8 (w0 : World) (b : Nat) (T : TypeId) (s : Bs) : Puts w0 b T (fun _ => True) 104 #[.pointer (some ⟨b, 0, none⟩), .string ⟨s.toArray⟩] [tN s] := fun ts w hw hl _ _ => zhk w0.heap.size b T ts s w hw (by omega)
theorem zib (w0 : World) (b : Nat) (T : TypeId) (s : Bs) : Puts w0 b T (fun _ => True) 101 #[.pointer (some ⟨b, 0, none⟩), .string ⟨s.toArray⟩] [tT s] := fun ts w hw hl _ _ => wTypeName_any w0.heap.size b T ts s w hw (by omega)
theorem quoted_puts (w0 : World) (b : Nat) (T : TypeId) (s : Bs) : Puts w0 b T (fun _ => True) 124 #[.pointer (some ⟨b, 0, none⟩), .string ⟨s.toArray⟩] [(0, 5, s, 0)] := fun ts w hw hl _ _ => wQuoted_any w0.heap.size b T ts s w hw (by omega)
theorem number_puts (w0 : World) (b : Nat) (T : TypeId) (n : Int) : Puts w0 b T (fun _ => True) 123 #[.pointer (some ⟨b, 0, none⟩), .int .i64 n] [(0, 4, [], n)] := fun ts w hw hl _ _ => wNumber_any w0.heap.size b T ts n w hw (by omega)
theorem sig_any (w0 : World) (b : Nat) (T : TypeId) (K : Int) (l : ByteArray) (pn pe pp : Option Addr) (n e q m cn ce cp : Nat) (hm : m = q + 1) (hq : m ≤ 1000000) (tk : Nat → List Tok) (hP : ∀ k, k < m → TyPart w0 b T 77 pp k (tk k)) :
  Puts w0 b T (fun _ => True) 111 #[.pointer (some ⟨b, 0, none⟩), .agg #[.int .i64 K, .string l, .slice pn n cn, .slice pe e ce, .slice pp m cp]] (tS [40] :: ((List.range q).flatMap (zcu tk) ++ [tS [41]]) ++ tk q) := by
 intro ts w hw hts hb0 _
 obtain ⟨ok1, st1⟩ := (Ok.of (I := fun _ => True) hw hts hb0 trivial).box (.true _ _) #[.pointer (some ⟨b, 0, none⟩)] 153 (by decide)
 obtain ⟨ok2, st2⟩ := ok1.box st1 #[.int .i64 K, .string l, .slice pn n cn, .slice pe e ce, .slice pp m cp] 53 (by decide)
 obtain ⟨ok3, st3⟩ := ok2.box st2 #[.int .i64 q] 3 (by decide)
 rw [show ((w.alloc (.cells #[.pointer (some ⟨b, 0, none⟩)] 153)).alloc (.cells #[.int .i64 K, .string l, .slice pn n cn, .slice pe e ce, .slice pp m cp] 53)).heap.size = w.heap.size + 2 by simp, show (w.alloc (.cells #[.pointer (some ⟨b, 0, none⟩)] 153)).heap.size = w.heap.size + 1 by simp] at ok3 st3
 have e1 : IntKind.i64.wrap ((m : Int) - 1) = (q : Int) := by rw [IntKind.wrap_i64]; omega
 have hdr : ∀ W : World, _ → _ := fun W h => st3.drew (W := W) h
 have BT := za3 ((between_any3 w0 b T _ st3 _ (fun _ _ => by kernel_rfl) _ _ _ [40] [41] _ (sig1_any w0 b T w.heap.size (w.heap.size + 1) (w.heap.size + 2) q _ st3 (fun W h => h.1.1.2) (fun W h => h.2) hdr (by omega) tk (fun k hk => fun ts W h1 h2 h3 h4 => sig11_any w0 b T w.heap.size (w.heap.size + 1) K l pn pe pp n e m cn ce cp k (by omega) hq (tk k) (hP k (by omega)) ts W h1 h2 h3 ⟨h4.1.1.2, h4.1.2⟩))).ok (fun _ h => h) st3 ok3)
 obtain ⟨g, o, K', l', p1, p2, p3, n1, n2, n3, c1, c2, c3, hpp, a0, a1, a2, a3, a4, wt⟩ := hP q (by omega)
 have hk' : (q : Int) < (m : Int) := by omega
 have FF : Hid (∀ V : World, Ok w0 b T (fun V => ((True ∧ V.heap[w.heap.size]? = some (wBox b)) ∧ V.heap[w.heap.size + 1]? = some (tBox K l pn pe pp n e m cn ce cp)) ∧ V.heap[w.heap.size + 2]? = some (.cells #[.int .i64 q] 3)) w (zar ts (tS [40] :: ((List.range q).flatMap (zcu tk) ++ [tS [41]]))) V → V.cell? ⟨w.heap.size, 0, none⟩ = some (.pointer (some ⟨b, 0, none⟩)) ∧ V.cell? ⟨w.heap.size + 1, 4, none⟩ = some (.slice (some ⟨g, o, none⟩) m cp) ∧ V.cell? ⟨w.heap.size + 1 + 1, 0, none⟩ = some (.int .i64 q) ∧
   V.cell? ⟨g, o + q * 5, none⟩ = some (.int .i64 K') ∧ V.cell? ⟨g, o + q * 5 + 1, none⟩ = some (.string l') ∧ V.cell? ⟨g, o + q * 5 + 2, none⟩ = some (.slice p1 n1 c1) ∧ V.cell? ⟨g, o + q * 5 + 3, none⟩ = some (.slice p2 n2 c2) ∧ V.cell? ⟨g, o + q * 5 + 4, none⟩ = some (.slice p3 n3 c3)) := fun V ok =>
  have h := ok.2.2.1
  have hi := ok.2.2.2.2.2
  ⟨by rw [Lib.cell_of_heap hi.1.1.2]; rfl, by rw [Lib.cell_of_heap hi.1.2, hpp]; rfl, by rw [Lib.cell_of_heap hi.2]; rfl, (h.cell (p := ⟨g, _, none⟩) (za2 a0)).trans a0, (h.cell (p := ⟨g, _, none⟩) (za2 a1)).trans a1, (h.cell (p := ⟨g, _, none⟩) (za2 a2)).trans a2, (h.cell (p := ⟨g, _, none⟩) (za2 a3)).trans a3, (h.cell (p := ⟨g, _, none⟩) (za2 a4)).trans a4⟩
 have WT := za3 wt
 have HS := za3 st3
 clear wt a0 a1 a2 a3 a4 ok1 ok2 ok3 st1 st2 st3 hdr hP hw hb0 hts hm hpp
 go_enter Tryz.func111, Tryz.ntmps111
 go_wp2_with (go_at_call 108; refine (za0 BT).mono ?_; clear BT; rintro x wa ⟨rfl, ok⟩; obtain ⟨f0, f1, f2, m0, m1, m2, m3, m4⟩ := za0 FF wa ok; have OK := za3 ok; clear ok)
 go_region_with (go_at_call 77; refine ((za0 WT).ok (fun _ _ => trivial) (za0 HS) ((za0 OK).drew (za0 HS))).mono ?_; clear WT; rintro x wb ⟨rfl, ok2⟩)
 all_goals
  go_wp2
  exact bodyPost_end (v := .tuple #[]) (by simp [results, Tryz.results111, go_sem]) rfl (ok2.fin (za6 _ _ _).symm)
end Go.Proofs.YtmpbbmfbgcpplaaGreatDoor
