/-
  commas of package syntax, walked, at writeSignature's closure, over a contract of the closure.
-/
import Derived.Test.YtmpbbmfbgcpplaaGreatDoorQSynC
namespace Go.Proofs.YtmpbbmfbgcpplaaGreatDoor
open Go Go.RowKit Lx

/-- what commas puts ahead of and with one thing. -/
def commaT (tk : Nat → List Tok) (i : Nat) : List Tok := (if 0 < i then [tS [44]] else []) ++ tk i
end Go.Proofs.YtmpbbmfbgcpplaaGreatDoor
/-
  Tokens that a writer owns, as a row that Join takes. No walk.
-/
namespace Go.Proofs.YtmpbbmfbgcpplaaGreatDoor
open Go Go.RowKit Lx

theorem allCells_at : ∀ (ts : List Tok) (j : Nat) (t : Tok) (i : Nat) (u : Value), ts[j]? = some t → (tokCells t)[i]? = some u → (allCells ts)[j * 4 + i]? = some u
  | [], j, t, i, u, h, _ => by simp at h
  | x :: r, 0, t, i, u, h, hu => by
    simp at h; subst h
    have hi : i < (tokCells x).length := (List.getElem?_eq_some_iff.1 hu).1
    show (tokCells x ++ allCells r)[0 * 4 + i]? = some u
    rw [show 0 * 4 + i = i from by omega, List.getElem?_append_left hi]; exact hu
  | x :: r, j + 1, t, i, u, h, hu => by
    have ih := allCells_at r j t i u (by simpa using h) hu
    show (tokCells x ++ allCells r)[(j + 1) * 4 + i]? = some u
    rw [List.getElem?_append_right (by simp [tokCells]; omega)]
    rw [show (j + 1) * 4 + i - (tokCells x).length = j * 4 + i from by simp [tokCells]; omega]
    exact ih
theorem addr_add (g k : Nat) : (⟨g, 0, none⟩ : Addr).add k = ⟨g, k, none⟩ := by
  by_cases h : k = 0
  · subst h; rfl
  · simp [Addr.add, h]
theorem TokRow.of_owns {W : World} {base : Nat} {v : Value} {ts : List Tok} (h : W.ownsRow base 142 4 v ts.length (allCells ts)) : TokRow W v ts := by
  rcases h.2 with ⟨rfl, h0⟩ | ⟨g, cap, cur, rfl, hg, r⟩
  · refine ⟨none, 0, by rw [h0], fun j t ht => ?_⟩
    rw [List.eq_nil_of_length_eq_zero h0] at ht; simp at ht
  · refine ⟨some ⟨g, 0, none⟩, cap, rfl, fun j t ht => ⟨g, 0, rfl, ?_, ?_, ?_, ?_⟩⟩
    · have := h.cells (g := g) rfl (j * 4 + 0) _ (allCells_at ts j t 0 _ ht rfl); rw [addr_add] at this; simpa [Nat.add_assoc] using this
    · have := h.cells (g := g) rfl (j * 4 + 1) _ (allCells_at ts j t 1 _ ht rfl); rw [addr_add] at this; simpa [Nat.add_assoc] using this
    · have := h.cells (g := g) rfl (j * 4 + 2) _ (allCells_at ts j t 2 _ ht rfl); rw [addr_add] at this; simpa [Nat.add_assoc] using this
    · have := h.cells (g := g) rfl (j * 4 + 3) _ (allCells_at ts j t 3 _ ht rfl); rw [addr_add] at this; simpa [Nat.add_assoc] using this
theorem fits_nil : Fits [] := fun t h => by simp at h
theorem fits_append {a b : List Tok} (h : Fits a) (k : Fits b) : Fits (a ++ b) := fun t ht => (List.mem_append.1 ht).elim (h t) (k t)
theorem fits_cons {t : Tok} {b : List Tok} (h : t.2.2.1.length ≤ 35184372088832 ∧ -9223372036854775808 ≤ t.2.2.2 ∧ t.2.2.2 ≤ 9223372036854775807) (k : Fits b) : Fits (t :: b) := fun u hu => by
  rcases List.mem_cons.1 hu with rfl | hu
  · exact h
  · exact k u hu
theorem fits_s {k : Int} {s : Bs} {b : List Tok} (h : s.length ≤ 35184372088832) (hb : Fits b) : Fits ((0, k, s, 0) :: b) := fits_cons ⟨h, (show (-9223372036854775808 : Int) ≤ 0 by decide), (show (0 : Int) ≤ 9223372036854775807 by decide)⟩ hb
theorem fits_flat {α : Type} {l : List α} {f : α → List Tok} (h : ∀ a ∈ l, Fits (f a)) : Fits (l.flatMap f) := fun t ht => by
  obtain ⟨a, ha, hat⟩ := List.mem_flatMap.1 ht
  exact h a ha t hat
theorem putT_mem {ts : List Tok} {x t : Tok} (h : t ∈ putT ts x) : t ∈ ts ∨ t = x := by
  unfold putT at h; split at h
  · simpa using h
  · exact .inl h
theorem fits_put : ∀ (l ts : List Tok), Fits ts → Fits l → Fits (putAll ts l)
  | [], _, h, _ => h
  | x :: l, ts, h, k => fits_put l _ (fun t ht => (putT_mem ht).elim (h t) (fun e => e ▸ k x (by simp))) (fun t ht => k t (by simp [ht]))
/-- where the tokens are no more than a writer takes, it has all of them. -/
theorem putAll_all : ∀ (l ts : List Tok), ts.length + l.length ≤ 32769 → putAll ts l = ts ++ l
  | [], ts, _ => by simp [putAll]
  | x :: l, ts, h => by
    simp at h
    rw [putAll_cons, putT, if_pos (by omega), putAll_all l _ (by simp; omega)]; simp
theorem part_fits {α : Type} {l : List α} {i : Nat} {f : α → List Tok} (h : ∀ a ∈ l, Fits (f a)) : Fits ((l[i]?.map f).getD []) := by
  rcases hi : l[i]? with _ | a
  · exact fits_nil
  · exact h a (List.mem_of_getElem? hi)
theorem getD_len {l : List Bs} {i n : Nat} (h : ∀ s ∈ l, s.length ≤ n) : (l.getD i []).length ≤ n := by
  rw [List.getD_eq_getElem?_getD]
  rcases hi : l[i]? with _ | a
  · simp
  · exact h a (List.mem_of_getElem? hi)
/-- a type's tokens aren't too long, if its texts aren't. -/
theorem tyToks_fits : ∀ (d : Nat) (sg : Bool) (ts : List (Ty d)), TyFits d ts → ∀ t ∈ ts, Fits (tyToks d sg t)
  | 0, _, _, _, t, _ => nomatch t
  | d + 1, sg, ts, h, t, ht => by
    obtain ⟨⟨f1, f2, f3, f4, f5⟩, hp⟩ := h.2 t ht
    have hs : ∀ s i, Fits (((t.2.2.2.2)[i]?.map (tyToks d s)).getD []) := fun s i => part_fits fun a ha => tyToks_fits d s _ hp a ha
    have hsig : Fits (tS [40] :: ((List.range (t.2.2.2.2.length - 1)).flatMap fun i => (if 0 < i then [tS [44]] else []) ++ ((t.2.2.2.2)[i]?.map (tyToks d false)).getD []) ++ tS [41] :: ((t.2.2.2.2)[t.2.2.2.2.length - 1]?.map (tyToks d false)).getD []) := by
      refine fits_append (fits_s (by decide) (fits_flat fun i _ => fits_append ?_ (hs _ _))) (fits_s (by decide) (hs _ _))
      split
      · exact fits_s (by decide) fits_nil
      · exact fits_nil
    unfold tyToks
    simp only []
    repeat' split
    · exact hsig
    · exact fits_s (by decide) fits_nil
    · exact fits_s (by decide) fits_nil
    · exact fits_s (by decide) fits_nil
    · exact fits_s f1 fits_nil
    · exact fits_s (by decide) (hs _ _)
    · refine fits_append (fits_s (by decide) (fits_flat fun i _ => fits_append (fits_append ?_ (fits_s (getD_len f3) (hs _ _))) (fits_s (by decide) fits_nil))) (fits_s (by decide) fits_nil)
      split
      · exact fits_s (by decide) fits_nil
      · exact fits_nil
    · exact fits_s (by decide) hsig
    · exact fits_append (fits_s (by decide) (fits_s (by decide) (fits_flat fun i _ => fits_append (fits_s (getD_len f3) (hs _ _)) (fits_s (by decide) fits_nil)))) (fits_s (by decide) fits_nil)
    · exact fits_nil
end Go.Proofs.YtmpbbmfbgcpplaaGreatDoor
/-
  between and commas of package syntax, walked at whatever closure of two captures, over a contract of the closure.
-/
namespace Go.Proofs.YtmpbbmfbgcpplaaGreatDoor
open Go Go.RowKit Lx

/-- a fact on worlds that stays where a writer alone writes. -/
def Stays (w0 : World) (b : Nat) (I : World → Prop) : Prop := ∀ W W', I W → Below w0.heap.size W W' → Stay b W W' → I W'
/-- a call that puts these tokens. -/
def Puts (w0 : World) (b : Nat) (T : TypeId) (I : World → Prop) (F : FuncId) (args : Array Value) (tk : List Tok) : Prop :=
  ∀ ts W, WrAt w0.heap.size b T ts W → ts.length ≤ 32769 → Below w0.heap.size w0 W → I W →
    Calls Tryz.prog F args W fun e w' => e = .returned (.tuple #[]) ∧ WrAt w0.heap.size b T (putAll ts tk) w' ∧ Below w0.heap.size W w' ∧ Stay b W w'
theorem WrAt.alloc {base b : Nat} {T : TypeId} {ts : List Tok} {w : World} (h : WrAt base b T ts w) (O : Obj) : WrAt base b T ts (w.alloc O) := by
  obtain ⟨h1, h2, v, h3, h4⟩ := h; exact ⟨h1, h2, v, h3.alloc O, h4.alloc O⟩
theorem WrAt.lt {base b : Nat} {T : TypeId} {ts : List Tok} {w : World} (h : WrAt base b T ts w) : b < w.heap.size := by
  obtain ⟨_, _, v, h, _⟩ := h; exact h.lt
theorem WrAt.drew {base b : Nat} {T : TypeId} {ts : List Tok} {w : World} (h : WrAt base b T ts w) : WrAt base b T ts w.drew := by
  obtain ⟨h1, h2, v, h3, h4⟩ := h; exact ⟨h1, h2, v, h3, h4.drew⟩
theorem below_drew {B : Nat} {a w : World} (h : Below B a w) : Below B a w.drew := h.trans ⟨rfl, rfl, rfl, Nat.le_refl _, fun _ _ => rfl⟩
theorem stay_drew {b : Nat} {a w : World} (h : Stay b a w) : Stay b a w.drew := h.trans ⟨Nat.le_refl _, fun _ _ h _ _ => h⟩
/-- a call that puts tokens, made behind a draw. -/
theorem Puts.drew {w0 : World} {b : Nat} {T : TypeId} {I : World → Prop} {F : FuncId} {args : Array Value} {tk : List Tok} (h : Puts w0 b T I F args tk) {ts : List Tok} {w : World} (hw : WrAt w0.heap.size b T ts w) (hts : ts.length ≤ 32769) (hb0 : Below w0.heap.size w0 w) (hi : I w.drew) :
    Calls Tryz.prog F args w.drew fun e w' => e = .returned (.tuple #[]) ∧ WrAt w0.heap.size b T (putAll ts tk) w' ∧ Below w0.heap.size w w' ∧ Stay b w w' :=
  (h ts w.drew hw.drew hts (below_drew hb0) hi).mono fun _ _ ⟨h1, h2, h3, h4⟩ => ⟨h1, h2, (below_drew (Below.refl _ _)).trans h3, (stay_drew (.refl _ _)).trans h4⟩
set_option maxHeartbeats 4000000 in
set_option maxRecDepth 100000 in
theorem between_any (w0 : World) (b : Nat) (T : TypeId) (I : World → Prop) (hI : Stays w0 b I) (F : FuncId) (hF : ∀ args w, Sem.run Tryz.prog (callFunc F args) w = .ok (.enter F args) w) (c1 c2 : Value) (s1 s2 : Bs) (tk : List Tok) (hP : Puts w0 b T I F #[c1, c2] tk) :
    Puts w0 b T I 108 #[.pointer (some ⟨b, 0, none⟩), .string ⟨s1.toArray⟩, .func (.func F) #[] #[c1, c2], .string ⟨s2.toArray⟩] (tS s1 :: (tk ++ [tS s2])) := by
  intro ts w hw hts hb0 hi
  rw [putAll_cons, putAll_append, putAll_cons, putAll_nil]
  have HP := hide hP
  have HW := hide hw
  have HB := hide hb0
  have HI := hide hi
  have HS := hide hI
  clear hP hw hb0 hi hI
  go_enter Tryz.func108, Tryz.ntmps108
  go_wp2_with (go_at_call 87; refine (wSign_any w0.heap.size b T _ s1 _ (unhide HW) (by omega)).mono ?_; clear HW; rintro x wa ⟨rfl, HW_a, hB_a, hS_a⟩)
  refine (unhide HP _ _ HW_a (putT_len _ hts) ((unhide HB).trans hB_a) (unhide HS _ _ (unhide HI) hB_a hS_a)).mono ?_
  clear HP
  rintro x wb ⟨rfl, HW_b, hB_b, hS_b⟩
  go_wp2_with (go_at_call 87; refine (wSign_any w0.heap.size b T _ s2 _ HW_b (Nat.le_trans (putAll_len _ _ (putT_len _ hts)) (by omega))).mono ?_; rintro x wc ⟨rfl, HW_c, hB_c, hS_c⟩)
  exact bodyPost_end (v := .tuple #[]) (by simp [results, Tryz.results108, go_sem]) rfl ⟨rfl, HW_c, hB_a.trans (hB_b.trans hB_c), hS_a.trans (hS_b.trans hS_c)⟩
set_option maxHeartbeats 4000000 in
set_option maxRecDepth 100000 in
theorem between_any3 (w0 : World) (b : Nat) (T : TypeId) (I : World → Prop) (hI : Stays w0 b I) (F : FuncId) (hF : ∀ args w, Sem.run Tryz.prog (callFunc F args) w = .ok (.enter F args) w) (c1 c2 c3 : Value) (s1 s2 : Bs) (tk : List Tok) (hP : Puts w0 b T I F #[c1, c2, c3] tk) :
    Puts w0 b T I 108 #[.pointer (some ⟨b, 0, none⟩), .string ⟨s1.toArray⟩, .func (.func F) #[] #[c1, c2, c3], .string ⟨s2.toArray⟩] (tS s1 :: (tk ++ [tS s2])) := by
  intro ts w hw hts hb0 hi
  rw [putAll_cons, putAll_append, putAll_cons, putAll_nil]
  have HP := hide hP
  have HW := hide hw
  have HB := hide hb0
  have HI := hide hi
  have HS := hide hI
  clear hP hw hb0 hi hI
  go_enter Tryz.func108, Tryz.ntmps108
  go_wp2_with (go_at_call 87; refine (wSign_any w0.heap.size b T _ s1 _ (unhide HW) (by omega)).mono ?_; clear HW; rintro x wa ⟨rfl, HW_a, hB_a, hS_a⟩)
  refine (unhide HP _ _ HW_a (putT_len _ hts) ((unhide HB).trans hB_a) (unhide HS _ _ (unhide HI) hB_a hS_a)).mono ?_
  clear HP
  rintro x wb ⟨rfl, HW_b, hB_b, hS_b⟩
  go_wp2_with (go_at_call 87; refine (wSign_any w0.heap.size b T _ s2 _ HW_b (Nat.le_trans (putAll_len _ _ (putT_len _ hts)) (by omega))).mono ?_; rintro x wc ⟨rfl, HW_c, hB_c, hS_c⟩)
  exact bodyPost_end (v := .tuple #[]) (by simp [results, Tryz.results108, go_sem]) rfl ⟨rfl, HW_c, hB_a.trans (hB_b.trans hB_c), hS_a.trans (hS_b.trans hS_c)⟩
set_option maxHeartbeats 4000000 in
set_option maxRecDepth 100000 in
theorem commas_any (w0 : World) (b : Nat) (T : TypeId) (I : World → Prop) (hI : Stays w0 b I) (F : FuncId) (hF : ∀ args w, Sem.run Tryz.prog (callFunc F args) w = .ok (.enter F args) w) (c1 c2 : Value) (q : Nat) (hq : q ≤ 1000000) (tk : Nat → List Tok) (hP : ∀ k : Nat, k < q → Puts w0 b T I F #[.int .i64 k, c1, c2] (tk k)) :
    Puts w0 b T I 139 #[.pointer (some ⟨b, 0, none⟩), .int .i64 q, .func (.func F) #[] #[c1, c2]] ((List.range q).flatMap (commaT tk)) := by
  intro ts w hw hts hb0 hi
  have HP := hide hP
  have HB := hide hb0
  have HW := hide hw
  have HI := hide hi
  have HS := hide hI
  clear hP hb0 hw hi hI
  go_enter Tryz.func139, Tryz.ntmps139
  go_wp2
  go_loopw [8] (fun i wr => ∃ k : Nat, i = .int .i64 k ∧ k ≤ q ∧ Hid (WrAt w0.heap.size b T (putAll ts ((List.range k).flatMap (commaT tk))) wr) ∧ Hid (Below w0.heap.size w wr) ∧ Hid (Stay b w wr) ∧ Hid (I wr)) (fun i _ => q - (intOf i).toNat)
  case atStart => exact ⟨0, rfl, by omega, unhide HW, Below.refl _ _, .refl _ _, unhide HI⟩
  case round =>
    obtain ⟨k, rfl, hk, HWr, HBr, HSr, HOr⟩ := hrel
    by_cases hlt : k < q
    · have hlt' : (k : Int) < (q : Int) := by omega
      have HK := hide (put_range ts (commaT tk) k)
      have hl0 : (putAll ts ((List.range k).flatMap (commaT tk))).length ≤ 32769 := putAll_len _ _ hts
      obtain ⟨ts1, hts1⟩ : ∃ x, x = putAll ts ((List.range k).flatMap (commaT tk)) := ⟨_, rfl⟩
      rw [← hts1] at HWr HK hl0
      have HZr := (unhide HB).trans (unhide HBr)
      have CL := hide (unhide HP k hlt)
      clear hts1 hts HW HP
      rw [commaT] at HK
      by_cases h0 : 0 < k
      · have h0' : (0 : Int) < (k : Int) := by omega
        rw [if_pos h0, putAll_append, putAll_cons, putAll_nil] at HK
        go_wp2_with (go_at_call 87; refine (wSign_any w0.heap.size b T _ [44] _ (unhide HWr) (by omega)).mono ?_; rintro x wa ⟨rfl, HW_wa, hB_wa, hS_wa⟩; have HZ_wa := HZr.trans hB_wa; have HO1 := unhide HS _ _ (unhide HOr) hB_wa hS_wa)
        refine (unhide CL _ _ HW_wa (putT_len _ hl0) HZ_wa HO1).mono ?_
        rintro x wb ⟨rfl, HW_wb, hB_wb, hS_wb⟩
        go_wp2
        go_roundw
        case rel => exact ⟨k + 1, by go_num, by omega, (by rw [unhide HK]; exact HW_wb), (unhide HBr).trans (hB_wa.trans hB_wb), (unhide HSr).trans (hS_wa.trans hS_wb), unhide HS _ _ HO1 hB_wb hS_wb⟩
        case measure => simp [intOf]; omega
      · obtain rfl : k = 0 := by omega
        rw [if_neg h0, List.nil_append] at HK
        go_wp2
        refine (unhide CL _ _ (unhide HWr) hl0 HZr (unhide HOr)).mono ?_
        rintro x wb ⟨rfl, HW_wb, hB_wb, hS_wb⟩
        go_wp2
        go_roundw
        case rel => exact ⟨1, by go_num, by omega, (by rw [unhide HK]; exact HW_wb), (unhide HBr).trans hB_wb, (unhide HSr).trans hS_wb, unhide HS _ _ (unhide HOr) hB_wb hS_wb⟩
        case measure => simp [intOf]; omega
    · obtain rfl : k = q := by omega
      go_wp2
      exact bodyPost_end (v := .tuple #[]) (by simp [results, Tryz.results139, go_sem]) rfl ⟨rfl, unhide HWr, unhide HBr, unhide HSr⟩
end Go.Proofs.YtmpbbmfbgcpplaaGreatDoor
/-
  writeSignature of package syntax and its closures, walked, over a contract of writeType at each part.
-/
namespace Go.Proofs.YtmpbbmfbgcpplaaGreatDoor
open Go Go.RowKit Lx

theorem Stays.and {w0 : World} {b : Nat} {I J : World → Prop} (h : Stays w0 b I) (k : Stays w0 b J) : Stays w0 b (fun W => I W ∧ J W) := fun W W' hi hb hs => ⟨h W W' hi.1 hb hs, k W W' hi.2 hb hs⟩
theorem Stays.true (w0 : World) (b : Nat) : Stays w0 b (fun _ => True) := fun _ _ _ _ _ => trivial
theorem Stays.block {w0 : World} {b p : Nat} {c : Array Value} {t : TypeId} {fz : Nat × Nat} (hn : p ≠ b) (ht : t ≠ 142) : Stays w0 b (fun W => W.heap[p]? = some (.cells c t fz)) :=
  fun W W' hi _ hs => hs.2 _ _ hi hn (fun c' fz' e => by injection e with _ e _; exact ht e)
/-- a type that lies at a place of a row, and a call of F that writes it. -/
def TyPart (w0 : World) (b : Nat) (T : TypeId) (F : FuncId) (pp : Option Addr) (k : Nat) (tk : List Tok) : Prop :=
  ∃ (g o : Nat) (K' : Int) (l' : ByteArray) (p1 p2 p3 : Option Addr) (n1 n2 n3 c1 c2 c3 : Nat), pp = some ⟨g, o, none⟩ ∧ w0.cell? ⟨g, o + k * 5, none⟩ = some (.int .i64 K') ∧ w0.cell? ⟨g, o + k * 5 + 1, none⟩ = some (.string l') ∧
      w0.cell? ⟨g, o + k * 5 + 2, none⟩ = some (.slice p1 n1 c1) ∧ w0.cell? ⟨g, o + k * 5 + 3, none⟩ = some (.slice p2 n2 c2) ∧ w0.cell? ⟨g, o + k * 5 + 4, none⟩ = some (.slice p3 n3 c3) ∧
      Puts w0 b T (fun _ => True) F #[.pointer (some ⟨b, 0, none⟩), .agg #[.int .i64 K', .string l', .slice p1 n1 c1, .slice p2 n2 c2, .slice p3 n3 c3]] tk
abbrev wBox (b : Nat) : Obj := .cells #[.pointer (some ⟨b, 0, none⟩)] 153
abbrev tBox (K : Int) (l : ByteArray) (pn pe pp : Option Addr) (n e q cn ce cp : Nat) : Obj := .cells #[.int .i64 K, .string l, .slice pn n cn, .slice pe e ce, .slice pp q cp] 53
set_option maxHeartbeats 4000000 in
set_option maxRecDepth 100000 in
theorem sig11_any (w0 : World) (b : Nat) (T : TypeId) (bw bf : Nat) (K : Int) (l : ByteArray) (pn pe pp : Option Addr) (n e q cn ce cp k : Nat) (hk : k < q) (_hq : q ≤ 1000000) (tk : List Tok) (hP : TyPart w0 b T 77 pp k tk) :
    Puts w0 b T (fun W => W.heap[bw]? = some (wBox b) ∧ W.heap[bf]? = some (tBox K l pn pe pp n e q cn ce cp)) 144 #[.int .i64 k, .pointer (some ⟨bw, 0, none⟩), .pointer (some ⟨bf, 0, none⟩)] tk := by
  intro ts w hw hts hb0 hi
  obtain ⟨g, o, K', l', p1, p2, p3, n1, n2, n3, c1, c2, c3, rfl, a0, a1, a2, a3, a4, wt⟩ := hP
  have d0 : w.cell? ⟨bw, 0, none⟩ = some (.pointer (some ⟨b, 0, none⟩)) := by rw [Lib.cell_of_heap hi.1]; rfl
  have d4 : w.cell? ⟨bf, 4, none⟩ = some (.slice (some ⟨g, o, none⟩) q cp) := by rw [Lib.cell_of_heap hi.2]; rfl
  have m0 := (hb0.cell (p := ⟨g, _, none⟩) (cell_at a0)).trans a0
  have m1 := (hb0.cell (p := ⟨g, _, none⟩) (cell_at a1)).trans a1
  have m2 := (hb0.cell (p := ⟨g, _, none⟩) (cell_at a2)).trans a2
  have m3 := (hb0.cell (p := ⟨g, _, none⟩) (cell_at a3)).trans a3
  have m4 := (hb0.cell (p := ⟨g, _, none⟩) (cell_at a4)).trans a4
  have hk' : (k : Int) < (q : Int) := by omega
  have WT := hide (wt.drew hw hts hb0 trivial)
  clear wt a0 a1 a2 a3 a4 hi hw hb0
  go_enter Tryz.func144, Tryz.ntmps144
  go_wp2
  go_region_with (go_at_call 77; refine (unhide WT).mono ?_; clear WT; rintro x wb ⟨rfl, HW_b, hB_b, hS_b⟩)
  all_goals
    go_wp2
    exact bodyPost_end (v := .tuple #[]) (by simp [results, Tryz.results144, go_sem]) rfl ⟨rfl, HW_b, hB_b, hS_b⟩
set_option maxHeartbeats 4000000 in
set_option maxRecDepth 100000 in
theorem sig1_any (w0 : World) (b : Nat) (T : TypeId) (bw bf bl : Nat) (q : Nat) (I : World → Prop) (hI : Stays w0 b I) (hbw : ∀ W, I W → W.heap[bw]? = some (wBox b)) (hbl : ∀ W, I W → W.heap[bl]? = some (.cells #[.int .i64 q] 3)) (hdr : ∀ W, I W → I W.drew) (hq : q ≤ 1000000) (tk : Nat → List Tok)
    (hP : ∀ k : Nat, k < q → Puts w0 b T I 144 #[.int .i64 k, .pointer (some ⟨bw, 0, none⟩), .pointer (some ⟨bf, 0, none⟩)] (tk k)) :
    Puts w0 b T I 143 #[.pointer (some ⟨bw, 0, none⟩), .pointer (some ⟨bl, 0, none⟩), .pointer (some ⟨bf, 0, none⟩)] ((List.range q).flatMap (commaT tk)) := by
  intro ts w hw hts hb0 hi
  have d0 : w.cell? ⟨bw, 0, none⟩ = some (.pointer (some ⟨b, 0, none⟩)) := by rw [Lib.cell_of_heap (hbw _ hi)]; rfl
  have d1 : w.cell? ⟨bl, 0, none⟩ = some (.int .i64 q) := by rw [Lib.cell_of_heap (hbl _ hi)]; rfl
  have WT := hide ((commas_any w0 b T I hI _ (fun _ _ => by kernel_rfl) _ _ q hq tk hP).drew hw hts hb0 (hdr _ hi))
  clear hi hw hb0 hbw hbl hdr hP hI
  go_enter Tryz.func143, Tryz.ntmps143
  go_wp2
  go_region_with (go_at_call 139; refine (unhide WT).mono ?_; clear WT; rintro x wb ⟨rfl, HW_b, hB_b, hS_b⟩)
  all_goals
    go_wp2
    exact bodyPost_end (v := .tuple #[]) (by simp [results, Tryz.results143, go_sem]) rfl ⟨rfl, HW_b, hB_b, hS_b⟩
end Go.Proofs.YtmpbbmfbgcpplaaGreatDoor
/-
  A writer between two calls: what it holds, what has stayed. No walk.
-/
namespace Go.Proofs.YtmpbbmfbgcpplaaGreatDoor
open Go Go.RowKit Lx

/-- a writer within a function that was entered in w: its tokens, and what has stayed. -/
def Ok (w0 : World) (b : Nat) (T : TypeId) (I : World → Prop) (w : World) (ts : List Tok) (W : World) : Prop :=
  WrAt w0.heap.size b T ts W ∧ ts.length ≤ 32769 ∧ Below w0.heap.size w0 W ∧ Below w0.heap.size w W ∧ Stay b w W ∧ I W
theorem Stays.drew {w0 : World} {b : Nat} {I : World → Prop} (h : Stays w0 b I) {W : World} (hi : I W) : I W.drew := h W _ hi (below_drew (Below.refl _ _)) (stay_drew (.refl _ _))
theorem Ok.drew {w0 w W : World} {b : Nat} {T : TypeId} {I : World → Prop} {ts : List Tok} (hS : Stays w0 b I) (h : Ok w0 b T I w ts W) : Ok w0 b T I w ts W.drew :=
  ⟨h.1.drew, h.2.1, below_drew h.2.2.1, below_drew h.2.2.2.1, stay_drew h.2.2.2.2.1, hS.drew h.2.2.2.2.2⟩
theorem Puts.ok {w0 w W : World} {b : Nat} {T : TypeId} {I J : World → Prop} {F : FuncId} {args : Array Value} {ts tk : List Tok} (h : Puts w0 b T J F args tk) (hJ : ∀ W, I W → J W) (hS : Stays w0 b I) (ok : Ok w0 b T I w ts W) :
    Calls Tryz.prog F args W fun e w' => e = .returned (.tuple #[]) ∧ Ok w0 b T I w (putAll ts tk) w' :=
  (h ts W ok.1 ok.2.1 ok.2.2.1 (hJ _ ok.2.2.2.2.2)).mono fun _ _ ⟨h1, h2, h3, h4⟩ => ⟨h1, h2, putAll_len _ _ ok.2.1, ok.2.2.1.trans h3, ok.2.2.2.1.trans h3, ok.2.2.2.2.1.trans h4, hS _ _ ok.2.2.2.2.2 h3 h4⟩
theorem Ok.fin {w0 w W : World} {b : Nat} {T : TypeId} {I : World → Prop} {ts ts' : List Tok} (h : Ok w0 b T I w ts' W) (e : ts' = ts) : Ending.returned (.tuple #[]) = Ending.returned (.tuple #[]) ∧ WrAt w0.heap.size b T ts W ∧ Below w0.heap.size w W ∧ Stay b w W :=
  ⟨rfl, e ▸ h.1, h.2.2.2.1, h.2.2.2.2.1⟩
theorem Ok.of {w0 w : World} {b : Nat} {T : TypeId} {ts : List Tok} {I : World → Prop} (hw : WrAt w0.heap.size b T ts w) (hts : ts.length ≤ 32769) (hb0 : Below w0.heap.size w0 w) (hi : I w) : Ok w0 b T I w ts w := ⟨hw, hts, hb0, Below.refl _ _, .refl _ _, hi⟩
/-- one box more. -/
theorem Ok.box {w0 w W : World} {b : Nat} {T : TypeId} {ts : List Tok} {I : World → Prop} (hS : Stays w0 b I) (h : Ok w0 b T I w ts W) (c : Array Value) (t : TypeId) (ht : t ≠ 142) :
    Ok w0 b T (fun V => I V ∧ V.heap[W.heap.size]? = some (.cells c t)) w ts (W.alloc (.cells c t)) ∧ Stays w0 b (fun V => I V ∧ V.heap[W.heap.size]? = some (.cells c t)) := by
  have hb : Below w0.heap.size W (W.alloc (.cells c t)) := (Below.refl _ _).alloc h.2.2.1.size _
  have hs : Stay b W (W.alloc (.cells c t)) := .of_below ((Below.refl _ _).alloc (Nat.le_refl _) _)
  have hlt := h.1.lt
  exact ⟨⟨h.1.alloc _, h.2.1, h.2.2.1.trans hb, h.2.2.2.1.trans hb, h.2.2.2.2.1.trans hs, hS _ _ h.2.2.2.2.2 hb hs, heap_last _ _⟩, hS.and (Stays.block (by omega) ht)⟩
theorem sign_puts (w0 : World) (b : Nat) (T : TypeId) (s : Bs) : Puts w0 b T (fun _ => True) 87 #[.pointer (some ⟨b, 0, none⟩), .string ⟨s.toArray⟩] [tS s] := fun ts w hw hl _ _ => wSign_any w0.heap.size b T ts s w hw (by omega)
theorem word_puts (w0 : World) (b : Nat) (T : TypeId) (s : Bs) : Puts w0 b T (fun _ => True) 89 #[.pointer (some ⟨b, 0, none⟩), .string ⟨s.toArray⟩] [tW s] := fun ts w hw hl _ _ => wWord_any w0.heap.size b T ts s w hw (by omega)
theorem name_puts (w0 : World) (b : Nat) (T : TypeId) (s : Bs) : Puts w0 b T (fun _ => True) 104 #[.pointer (some ⟨b, 0, none⟩), .string ⟨s.toArray⟩] [tN s] := fun ts w hw hl _ _ => wName_any w0.heap.size b T ts s w hw (by omega)
theorem typeName_puts (w0 : World) (b : Nat) (T : TypeId) (s : Bs) : Puts w0 b T (fun _ => True) 101 #[.pointer (some ⟨b, 0, none⟩), .string ⟨s.toArray⟩] [tT s] := fun ts w hw hl _ _ => wTypeName_any w0.heap.size b T ts s w hw (by omega)
theorem quoted_puts (w0 : World) (b : Nat) (T : TypeId) (s : Bs) : Puts w0 b T (fun _ => True) 124 #[.pointer (some ⟨b, 0, none⟩), .string ⟨s.toArray⟩] [(0, 5, s, 0)] := fun ts w hw hl _ _ => wQuoted_any w0.heap.size b T ts s w hw (by omega)
theorem number_puts (w0 : World) (b : Nat) (T : TypeId) (n : Int) : Puts w0 b T (fun _ => True) 123 #[.pointer (some ⟨b, 0, none⟩), .int .i64 n] [(0, 4, [], n)] := fun ts w hw hl _ _ => wNumber_any w0.heap.size b T ts n w hw (by omega)
end Go.Proofs.YtmpbbmfbgcpplaaGreatDoor
/-
  writeSignature of package syntax, walked, over a contract of writeType at each part.
-/
namespace Go.Proofs.YtmpbbmfbgcpplaaGreatDoor
open Go Go.RowKit Lx

set_option maxHeartbeats 4000000 in
set_option maxRecDepth 100000 in
theorem sig_any (w0 : World) (b : Nat) (T : TypeId) (K : Int) (l : ByteArray) (pn pe pp : Option Addr) (n e q m cn ce cp : Nat) (hm : m = q + 1) (hq : m ≤ 1000000) (tk : Nat → List Tok) (hP : ∀ k, k < m → TyPart w0 b T 77 pp k (tk k)) :
    Puts w0 b T (fun _ => True) 111 #[.pointer (some ⟨b, 0, none⟩), .agg #[.int .i64 K, .string l, .slice pn n cn, .slice pe e ce, .slice pp m cp]] (tS [40] :: ((List.range q).flatMap (commaT tk) ++ [tS [41]]) ++ tk q) := by
  intro ts w hw hts hb0 _
  obtain ⟨ok1, st1⟩ := (Ok.of (I := fun _ => True) hw hts hb0 trivial).box (.true _ _) #[.pointer (some ⟨b, 0, none⟩)] 153 (by decide)
  obtain ⟨ok2, st2⟩ := ok1.box st1 #[.int .i64 K, .string l, .slice pn n cn, .slice pe e ce, .slice pp m cp] 53 (by decide)
  obtain ⟨ok3, st3⟩ := ok2.box st2 #[.int .i64 q] 3 (by decide)
  rw [show ((w.alloc (.cells #[.pointer (some ⟨b, 0, none⟩)] 153)).alloc (.cells #[.int .i64 K, .string l, .slice pn n cn, .slice pe e ce, .slice pp m cp] 53)).heap.size = w.heap.size + 2 by simp, show (w.alloc (.cells #[.pointer (some ⟨b, 0, none⟩)] 153)).heap.size = w.heap.size + 1 by simp] at ok3 st3
  have e1 : IntKind.i64.wrap ((m : Int) - 1) = (q : Int) := by rw [IntKind.wrap_i64]; omega
  have hdr : ∀ W : World, _ → _ := fun W h => st3.drew (W := W) h
  have BT := hide ((between_any3 w0 b T _ st3 _ (fun _ _ => by kernel_rfl) _ _ _ [40] [41] _ (sig1_any w0 b T w.heap.size (w.heap.size + 1) (w.heap.size + 2) q _ st3 (fun W h => h.1.1.2) (fun W h => h.2) hdr (by omega) tk (fun k hk => fun ts W h1 h2 h3 h4 => sig11_any w0 b T w.heap.size (w.heap.size + 1) K l pn pe pp n e m cn ce cp k (by omega) hq (tk k) (hP k (by omega)) ts W h1 h2 h3 ⟨h4.1.1.2, h4.1.2⟩))).ok (fun _ h => h) st3 ok3)
  obtain ⟨g, o, K', l', p1, p2, p3, n1, n2, n3, c1, c2, c3, hpp, a0, a1, a2, a3, a4, wt⟩ := hP q (by omega)
  have hk' : (q : Int) < (m : Int) := by omega
  have FF : Hid (∀ V : World, Ok w0 b T (fun V => ((True ∧ V.heap[w.heap.size]? = some (wBox b)) ∧ V.heap[w.heap.size + 1]? = some (tBox K l pn pe pp n e m cn ce cp)) ∧ V.heap[w.heap.size + 2]? = some (.cells #[.int .i64 q] 3)) w (putAll ts (tS [40] :: ((List.range q).flatMap (commaT tk) ++ [tS [41]]))) V → V.cell? ⟨w.heap.size, 0, none⟩ = some (.pointer (some ⟨b, 0, none⟩)) ∧ V.cell? ⟨w.heap.size + 1, 4, none⟩ = some (.slice (some ⟨g, o, none⟩) m cp) ∧ V.cell? ⟨w.heap.size + 1 + 1, 0, none⟩ = some (.int .i64 q) ∧
      V.cell? ⟨g, o + q * 5, none⟩ = some (.int .i64 K') ∧ V.cell? ⟨g, o + q * 5 + 1, none⟩ = some (.string l') ∧ V.cell? ⟨g, o + q * 5 + 2, none⟩ = some (.slice p1 n1 c1) ∧ V.cell? ⟨g, o + q * 5 + 3, none⟩ = some (.slice p2 n2 c2) ∧ V.cell? ⟨g, o + q * 5 + 4, none⟩ = some (.slice p3 n3 c3)) := fun V ok =>
    have h := ok.2.2.1
    have hi := ok.2.2.2.2.2
    ⟨by rw [Lib.cell_of_heap hi.1.1.2]; rfl, by rw [Lib.cell_of_heap hi.1.2, hpp]; rfl, by rw [Lib.cell_of_heap hi.2]; rfl, (h.cell (p := ⟨g, _, none⟩) (cell_at a0)).trans a0, (h.cell (p := ⟨g, _, none⟩) (cell_at a1)).trans a1, (h.cell (p := ⟨g, _, none⟩) (cell_at a2)).trans a2, (h.cell (p := ⟨g, _, none⟩) (cell_at a3)).trans a3, (h.cell (p := ⟨g, _, none⟩) (cell_at a4)).trans a4⟩
  have WT := hide wt
  have HS := hide st3
  clear wt a0 a1 a2 a3 a4 ok1 ok2 ok3 st1 st2 st3 hdr hP hw hb0 hts hm hpp
  go_enter Tryz.func111, Tryz.ntmps111
  go_wp2_with (go_at_call 108; refine (unhide BT).mono ?_; clear BT; rintro x wa ⟨rfl, ok⟩; obtain ⟨f0, f1, f2, m0, m1, m2, m3, m4⟩ := unhide FF wa ok; have OK := hide ok; clear ok)
  go_region_with (go_at_call 77; refine ((unhide WT).ok (fun _ _ => trivial) (unhide HS) ((unhide OK).drew (unhide HS))).mono ?_; clear WT; rintro x wb ⟨rfl, ok2⟩)
  all_goals
    go_wp2
    exact bodyPost_end (v := .tuple #[]) (by simp [results, Tryz.results111, go_sem]) rfl (ok2.fin (putAll_append _ _ _).symm)
end Go.Proofs.YtmpbbmfbgcpplaaGreatDoor
