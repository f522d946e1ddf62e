/-
  coilbook.Book: what it holds; Keep, walked.
-/
import Derived.Test.YthplgkkailieoaaGreatDoorBook1
import Derived.Test.YthplgkkailieoaaGreatDoorSays
import Derived.BigRegion
import Derived.Deep.RegionLaw
import Derived.Deep.CutRange
import Derived.Deep.LoopGhost
import Derived.BigQuiet
import Derived.Deep.RegionWith
namespace Go.Proofs.YthplgkkailieoaaGreatDoor
open Go Go.RowKit Lx

/-- A kept list, its copy, and the tokens of both. -/
abbrev Kept := Value × Value × List Tok
def Far (a b : Value) : Prop := ∀ g, a.ownBlock = some g → b.ownBlock ≠ some g
structure BookIs (bk B : Nat) (K : List Kept) (W : World) : Prop where
  box : ∃ lv wv h, W.heap[bk]? = some (.cells #[lv, wv, .int .i64 h, .bool false] 27) ∧ OwnOff W B lv (K.map (·.1)) ∧ OwnOff W B wv (K.map (·.2.1)) ∧ Far lv wv
  rows : ∀ k ∈ K, W.ownsRow B 40 4 k.1 k.2.2.length (allCells k.2.2) ∧ W.ownsRow B 40 4 k.2.1 k.2.2.length (allCells k.2.2) ∧ k.2.2.length ≤ 100000
  apart : K.Pairwise (fun a b => Far a.1 b.1)
  few : K.length ≤ 1000
/-- Whatever is neither the book nor a row of slices stays. -/
def OthersStay (bk : Nat) (W W' : World) : Prop := W.heap.size ≤ W'.heap.size ∧ ∀ k o, W.heap[k]? = some o → k ≠ bk → (∀ c fz, o ≠ .cells c 28 fz) → W'.heap[k]? = some o
theorem OwnOff.ne {W : World} {B bk t : Nat} {v : Value} {xs : List Value} {cs : Array Value} {fz : Nat × Nat} (h : OwnOff W B v xs) (hb : W.heap[bk]? = some (.cells cs t fz)) (ht : t ≠ 28) : v.ownBlock ≠ some bk := by
  rcases h with ⟨rfl, _⟩ | ⟨g, o, cap, cur, rfl, _, hg, _⟩
  · simp [Value.ownBlock]
  · intro e
    obtain rfl : g = bk := by simpa [Value.ownBlock] using e
    rw [hg] at hb
    injection hb with hb
    injection hb with _ h2 _
    exact ht h2.symm
theorem OthersStay.refl (bk : Nat) (W : World) : OthersStay bk W W := ⟨Nat.le_refl _, fun _ _ h _ _ => h⟩
theorem OthersStay.trans {bk : Nat} {A B C : World} (h : OthersStay bk A B) (g : OthersStay bk B C) : OthersStay bk A C := ⟨Nat.le_trans h.1 g.1, fun k o h1 h2 h3 => g.2 k o (h.2 k o h1 h2 h3) h2 h3⟩
theorem OthersStay.of_below {bk : Nat} {W W' : World} (h : Below W.heap.size W W') : OthersStay bk W W' := ⟨h.size, fun k _ h1 _ _ => (h.block k (Array.getElem?_eq_some_iff.1 h1).1).trans h1⟩
theorem OthersStay.of_append {bk B : Nat} {W W' : World} {v : Value} {xs : List Value} (h : OwnOff W B v xs) (hg : W.grownBy W' v.ownBlock) : OthersStay bk W W' := by
  refine ⟨hg.size, fun k _ h1 _ h3 => (hg.block k (Array.getElem?_eq_some_iff.1 h1).1 (fun e => ?_)).trans h1⟩
  rcases h with ⟨rfl, _⟩ | ⟨g, o', cap, cur, rfl, _, hgg, _⟩
  · simp [Value.ownBlock] at e
  · obtain rfl : g = k := by simpa [Value.ownBlock] using e.symm
    rw [hgg] at h1
    exact h3 _ _ (Option.some.inj h1).symm
theorem OthersStay.of_set (bk o : Nat) (W : World) (v : Value) : OthersStay bk W (W.setCell ⟨bk, o, none⟩ v) := ⟨by simp, fun k _ h1 h2 _ => (Below.heap_setCell _ _ _ _ h2).trans h1⟩
theorem owns_stay {bk B n : Nat} {W W' : World} {v : Value} {xs : List Value} {A : Array Value} (h : W.ownsRow B 40 4 v n xs) (hs : OthersStay bk W W') (hb : W.heap[bk]? = some (.cells A 27)) : W'.ownsRow B 40 4 v n xs := by
  refine ⟨h.1, ?_⟩
  rcases h.2 with h' | ⟨g, cap, cur, hv, hg, hh, r⟩
  · exact .inl h'
  · refine .inr ⟨g, cap, cur, hv, hg, hs.2 g _ hh ?_ ?_, r⟩
    · rintro rfl
      rw [hh] at hb
      injection hb with hb
      injection hb with _ h2 _
      exact absurd h2 (by decide)
    · intro c fz e
      injection e with _ h2 _
      exact absurd h2 (by decide)
theorem copy_list {W : World} {B : Nat} {l : Value} {ts : List Tok} (h : W.ownsRow B 40 4 l ts.length (allCells ts)) (ht : ts.length ≤ 100000) :
    ∃ u W', (Builtin.append_ #[28, 28] 28 #[.slice none 0 0, l]).run Tryz.prog W = .ok u W' ∧ W'.ownsRow W.heap.size 40 4 u ts.length (allCells ts) ∧ Below W.heap.size W W' := by
  obtain ⟨i0, hi, hz0, hz1, hz2⟩ := info_parts info_tok
  rcases h.2 with ⟨rfl, h0⟩ | ⟨g, cap, cur, rfl, hb, hg, r⟩
  · have hr := run_append_owned_none (P := Tryz.prog) (w := W) W.heap.size 28 28 40 i0 4 Tryz.underlying28 hi (.slice none 0 0) 0 [] (World.ownsRow_nil _ _ _ _)
    have : ts = [] := List.eq_nil_of_length_eq_zero h0
    subst this
    exact ⟨_, _, hr, World.ownsRow_nil _ _ _ _, Below.refl _ _⟩
  · obtain ⟨v', W', hr, ho, hgr, _⟩ := run_append_own (P := Tryz.prog) W W.heap.size 28 28 40 i0 (.agg #[.int .i64 0, .int .i64 0, .string ⟨#[]⟩, .int .i64 0]) 4 40 Tryz.underlying28 hi hz0 hz1 hz2 rfl (by decide) (.slice none 0 0) 0 [] (World.ownsRow_nil _ _ _ _) ⟨g, 0, none⟩ ts.length cap (allCells ts) h.1 (fun j u hu => by
      have hj : j < ts.length * 4 := by
        rcases Nat.lt_or_ge j (ts.length * 4) with hh | hh
        · exact hh
        · rw [List.getElem?_eq_none (by rw [h.1]; exact hh)] at hu; cases hu
      rw [addr_add, h.cellAt j hj]; exact hu) (fun u hu => by
      obtain ⟨t, _, hm⟩ := List.mem_flatMap.1 hu
      simp [tokCells] at hm
      rcases hm with rfl | rfl | rfl | rfl <;> rfl) (by unfold maxLen; omega) (by omega) (Nat.le_refl _)
    exact ⟨v', W', hr, by simpa using ho, (Below.refl _ _).grown hgr (Nat.le_refl _) (by simp [Value.ownBlock])⟩
theorem book_cells {W : World} {bk t : Nat} {a b c d : Value} (h : W.heap[bk]? = some (.cells #[a, b, c, d] t)) : W.cell? ⟨bk, 0, none⟩ = some a ∧ W.cell? ⟨bk, 1, none⟩ = some b ∧ W.cell? ⟨bk, 2, none⟩ = some c ∧ W.cell? ⟨bk, 3, none⟩ = some d ∧ ∀ o, W.frozen? ⟨bk, o, none⟩ = false := by
  refine ⟨?_, ?_, ?_, ?_, ?_⟩ <;> simp [World.cell?, World.frozen?, h]
set_option maxHeartbeats 1000000 in
set_option maxRecDepth 100000 in
theorem SameTok_q (v u : Value) (ts : List Tok) (w : World) (hl : ts.length ≤ 1000000) (hv : TokRow w v ts) (hu : TokRow w u ts) :
    Calls Tryz.prog 10 #[v, u] w fun e w' => e = .returned (.bool true) ∧ ∃ m, w' = w.drewN m := by
  obtain ⟨p, c, rfl, hp⟩ := hv
  obtain ⟨q, d, rfl, hq⟩ := hu
  have HP := hide hp
  have HQ := hide hq
  clear hp hq
  go_enter Tryz.func10, Tryz.ntmps10
  go_wp2
  go_loopw [5] (fun i wr => ∃ k nd : Nat, i = .int .i64 k ∧ k ≤ ts.length ∧ wr = w.drewN nd) (fun i _ => ts.length - (intOf i).toNat)
  case atStart => exact ⟨0, 0, rfl, by omega, rfl⟩
  case round =>
    obtain ⟨k, nd, rfl, hk, rfl⟩ := hrel
    by_cases hlt : k < ts.length
    · obtain ⟨g, o, rfl, a0, a1, a2, a3⟩ := unhide HP k ts[k] (by simp [hlt])
      obtain ⟨g', o', rfl, b0, b1, b2, b3⟩ := unhide HQ k ts[k] (by simp [hlt])
      have hlt' : (k : Int) < (ts.length : Int) := by omega
      go_wp2
      go_quiet (fail)
      go_wp2
      go_roundw
      case rel => exact ⟨k + 1, nd + nq, by go_num, by omega, by simp [World.drewN]⟩
      case measure => simp [intOf]; omega
    · go_wp2
      go_ret
      exact ⟨rfl, nd, rfl⟩
theorem BookIs.heap {bk B : Nat} {K : List Kept} {W W' : World} (h : BookIs bk B K W) (hh : W'.heap = W.heap) : BookIs bk B K W' := by
  obtain ⟨⟨lv, wv, hd, h1, h2, h3, h4⟩, h5, h6, h7⟩ := h
  refine ⟨⟨lv, wv, hd, by rw [hh]; exact h1, h2.kept (fun _ _ => by rw [hh]), h3.kept (fun _ _ => by rw [hh]), h4⟩, fun k hk => ?_, h6, h7⟩
  obtain ⟨a, b, c⟩ := h5 k hk
  exact ⟨⟨a.1, by rw [hh]; exact a.2⟩, ⟨b.1, by rw [hh]; exact b.2⟩, c⟩
theorem BookIs.held {bk B : Nat} {K : List Kept} {W : World} (h : BookIs bk B K W) (n : Int) : BookIs bk B K (W.setCell ⟨bk, 2, none⟩ (.int .i64 n)) := by
  obtain ⟨⟨lv, wv, hd, h1, h2, h3, h4⟩, h5, h6, h7⟩ := h
  refine ⟨⟨lv, wv, n, ?_, h2.kept (fun k hk => Below.heap_setCell _ _ _ _ (fun e => h2.ne h1 (by decide) (hk.trans (congrArg some e)))), h3.kept (fun k hk => Below.heap_setCell _ _ _ _ (fun e => h3.ne h1 (by decide) (hk.trans (congrArg some e)))), h4⟩, fun k hk => ?_, h6, h7⟩
  · have := heap_setCell_same W bk 2 _ _ (.int .i64 n) h1
    simpa using this
  · obtain ⟨a, b, c⟩ := h5 k hk
    exact ⟨owns_stay a (OthersStay.of_set _ _ _ _) h1, owns_stay b (OthersStay.of_set _ _ _ _) h1, c⟩
theorem BookIs.good {bk B : Nat} {K : List Kept} {W : World} (h : BookIs bk B K W) : BookIs bk B K (W.setCell ⟨bk, 3, none⟩ (.bool false)) := by
  obtain ⟨⟨lv, wv, hd, h1, h2, h3, h4⟩, h5, h6, h7⟩ := h
  refine ⟨⟨lv, wv, hd, ?_, h2.kept (fun k hk => Below.heap_setCell _ _ _ _ (fun e => h2.ne h1 (by decide) (hk.trans (congrArg some e)))), h3.kept (fun k hk => Below.heap_setCell _ _ _ _ (fun e => h3.ne h1 (by decide) (hk.trans (congrArg some e)))), h4⟩, fun k hk => ?_, h6, h7⟩
  · have := heap_setCell_same W bk 3 _ _ (.bool false) h1
    simpa using this
  · obtain ⟨a, b, c⟩ := h5 k hk
    exact ⟨owns_stay a (OthersStay.of_set _ _ _ _) h1, owns_stay b (OthersStay.of_set _ _ _ _) h1, c⟩
theorem set_back {W : World} {bk t : Nat} {a b c d : Value} (h : W.heap[bk]? = some (.cells #[a, b, c, d] t)) : W.setCell ⟨bk, 3, none⟩ d = W := by
  have h1 : (W.setCell ⟨bk, 3, none⟩ d).heap = W.heap := by
    apply Array.ext_getElem?
    intro i
    by_cases hi : i = bk
    · subst hi
      have := heap_setCell_same W i 3 _ _ d h
      rw [this, h]
      rfl
    · exact Below.heap_setCell _ _ _ _ hi
  unfold World.setCell at h1 ⊢
  simp only at h1
  rw [h1]
/-- The oldest list goes. -/
theorem BookIs.drop {bk B g1 o1 n1 c1 g2 o2 n2 c2 : Nat} {x : Kept} {K : List Kept} {W W' : World} {A : Array Value} {h : Int} (hb : W.heap[bk]? = some (.cells A 27)) (hlv : OwnOff W B (.slice (some ⟨g1, o1, none⟩) n1 c1) ((x :: K).map (·.1))) (hwv : OwnOff W B (.slice (some ⟨g2, o2, none⟩) n2 c2) ((x :: K).map (·.2.1))) (hlw : Far (.slice (some ⟨g1, o1, none⟩) n1 c1) (.slice (some ⟨g2, o2, none⟩) n2 c2))
    (hr : ∀ k ∈ x :: K, W.ownsRow B 40 4 k.1 k.2.2.length (allCells k.2.2) ∧ W.ownsRow B 40 4 k.2.1 k.2.2.length (allCells k.2.2) ∧ k.2.2.length ≤ 100000) (ha : (x :: K).Pairwise (fun a b => Far a.1 b.1)) (hf : (x :: K).length ≤ 1000)
    (hb' : W'.heap[bk]? = some (.cells #[.slice (some ⟨g1, o1 + 1, none⟩) K.length (c1 - 1), .slice (some ⟨g2, o2 + 1, none⟩) K.length (c2 - 1), .int .i64 h, .bool false] 27)) (hS : ∀ k, k ≠ bk → W'.heap[k]? = W.heap[k]?) (hsz : W.heap.size ≤ W'.heap.size) : BookIs bk B K W' := by
  have hlt := OwnOff.tail (x := x.1) (xs := K.map (·.1)) (by simpa using hlv)
  have hwt := OwnOff.tail (x := x.2.1) (xs := K.map (·.2.1)) (by simpa using hwv)
  simp only [List.length_map] at hlt hwt
  have OS : OthersStay bk W W' := ⟨hsz, fun k o h1 h2 _ => (hS k h2).trans h1⟩
  refine ⟨⟨_, _, h, hb', hlt.kept (fun k hk => hS k (fun e => hlt.ne hb (by decide) (by rw [← e]; exact hk))), hwt.kept (fun k hk => hS k (fun e => hwt.ne hb (by decide) (by rw [← e]; exact hk))), ?_⟩, fun k hk => ?_, (List.pairwise_cons.1 ha).2, by simp at hf; omega⟩
  · intro g h1 h2
    exact hlw g (by simpa [Value.ownBlock] using h1) (by simpa [Value.ownBlock] using h2)
  · obtain ⟨a, b, c⟩ := hr k (List.mem_cons_of_mem _ hk)
    exact ⟨owns_stay a OS hb, owns_stay b OS hb, c⟩
/-- append, by what it comes to. -/
theorem wpList_append_eq {P : Program} {ops : Array Oper} {rest : List Oper} {o : Oper} {a : Act} {w : World} {Q : Exit → Act → World → Prop} (hg : o.guard = none) (s x : Operand) (t : TypeId) (ho : o.op = .call { callee := .builtin .append, args := #[s, x], argTypes := #[t, t] })
    {v u v' : Value} {w' : World} (hs : a.eval s = v) (hx : a.eval x = u) (hr : (Builtin.append_ #[t, t] o.type #[v, u]).run P w = .ok v' w') (h : wpList P ops Q rest (a.put o.dst v') w') : wpList P ops Q (o :: rest) a w := by
  refine wpList_plain hg fun K hK => ?_
  unfold Oper.wp
  simp [execOp, ho, resolve, invoke, builtin, hs, hx, hr, Result.andThen]
  exact hK _ _ h
theorem step_append_eq {P : Program} {ops : Array Oper} {o : Oper} {a : Act} {w : World} {K : Act → World → Prop} {Q : Exit → Act → World → Prop} {E : Prop} (hg : o.guard = none) (s x : Operand) (t : TypeId) (ho : o.op = .call { callee := .builtin .append, args := #[s, x], argTypes := #[t, t] })
    {v u v' : Value} {w' : World} (hs : a.eval s = v) (hx : a.eval x = u) (hr : (Builtin.append_ #[t, t] o.type #[v, u]).run P w = .ok v' w') (h : K (a.put o.dst v') w') : if Region.wanted o (yielded ops a.tmps) = true then Oper.wp P o a w K Q else E := by
  rw [if_pos (by simp [Region.wanted, hg])]
  unfold Oper.wp
  simp [execOp, ho, resolve, invoke, builtin, hs, hx, hr, Result.andThen]
  exact h
set_option maxHeartbeats 4000000 in
set_option maxRecDepth 100000 in
theorem Keep_any (bk B : Nat) (K : List Kept) (l : Value) (ts : List Tok) (w : World) (h : BookIs bk B K w) (hbk : B ≤ bk) (hl : w.ownsRow B 40 4 l ts.length (allCells ts)) (hts : ts.length ≤ 100000) (hK : K.length ≤ 900) (hfar : ∀ k ∈ K, Far k.1 l) :
    Calls Tryz.prog 11 #[.pointer (some ⟨bk, 0, none⟩), l] w fun e w' => e = .returned (.tuple #[]) ∧ Below B w w' ∧ OthersStay bk w w' ∧ ∃ K', BookIs bk B K' w' ∧ K'.length ≤ K.length + 1 ∧ ∀ k ∈ K', k ∈ K ∨ k.1 = l := by
  obtain ⟨⟨lv, wv, hd, hbox, hlv, hwv, hlw⟩, hrows, hap, hfew⟩ := h
  obtain ⟨c0, c1, c2, c3, cf⟩ := book_cells hbox
  have hbs : bk < w.heap.size := (Array.getElem?_eq_some_iff.1 hbox).1
  obtain ⟨lp, lc, rfl⟩ := hlv.shape
  obtain ⟨wp, wc, rfl⟩ := hwv.shape
  obtain ⟨p, c, rfl⟩ : ∃ p c, l = .slice p ts.length c := by
    rcases hl.2 with ⟨rfl, h0⟩ | ⟨g, cap, cur, rfl, _⟩
    · exact ⟨none, 0, by rw [h0]⟩
    · exact ⟨_, _, rfl⟩
  have hlv1 : OwnOff (w.alloc (.cells #[.slice p ts.length c] 28)) B (.slice lp (K.map (·.1)).length lc) (K.map (·.1)) := hlv.kept (fun k hk => Below.heap_alloc _ _ _ (hlv.lt k hk).2)
  obtain ⟨v1, W2, E0, hv1, hg1, hv1b⟩ := append_off hlv1 (by simp; omega) (by simp; omega) (.slice p ts.length c) rfl ⟨w.heap.size, 0, none⟩ (by rw [World.cell?_alloc_at _ _ _ _ (by rfl)]; rfl) rfl 25
  obtain ⟨p1, n1, rfl⟩ := hv1.shape
  have hbk2 : W2.heap[bk]? = w.heap[bk]? := (hg1.block bk (by simp; omega) (fun e => hlv.ne hbox (by decide) e.symm)).trans (Below.heap_alloc _ _ _ hbs)
  have hbox2 := hbk2.trans hbox
  obtain ⟨d0, d1, d2, d3, df⟩ := book_cells hbox2
  simp only [List.length_map, List.length_append, List.length_singleton] at E0 c0 c1 d0 d1
  have HH := hide (And.intro hlv1 (And.intro hv1 (And.intro hg1 (And.intro hv1b (And.intro hbox2 (And.intro hrows (And.intro hap (And.intro hlv (And.intro hwv (And.intro hlw (And.intro hbox hfar)))))))))))
  clear hlv1 hv1 hg1 hv1b hbox2 hrows hap hlv hwv hlw hbox hfar hbk2
  go_enter Tryz.func11, Tryz.ntmps11
  go_upto_region 1 with (at_builtin; refine wpList_append_eq rfl (.tmp 8) (.tmp 10) 25 rfl rfl rfl E0 ?_)
  obtain ⟨hlv1, hv1, hg1, hv1b, hbox2, hrows, hap, hlv, hwv, hlw, hbox, hfar⟩ := unhide HH
  clear HH
  have S1 : OthersStay bk w (W2.setCell ⟨bk, 0, none⟩ (.slice p1 (K.length + 1) n1)) := ((OthersStay.of_below ((Below.refl _ _).alloc (Nat.le_refl _) _)).trans (OthersStay.of_append hlv1 hg1)).trans (OthersStay.of_set _ _ _ _)
  have hbox3 : (W2.setCell ⟨bk, 0, none⟩ (.slice p1 (K.length + 1) n1)).heap[bk]? = some (.cells #[.slice p1 (K.length + 1) n1, .slice wp K.length wc, .int .i64 hd, .bool false] 27) := by
    have := heap_setCell_same W2 bk 0 _ _ (.slice p1 (K.length + 1) n1) hbox2
    simpa using this
  have B1 : Below B w (W2.setCell ⟨bk, 0, none⟩ (.slice p1 (K.length + 1) n1)) := ((((Below.refl B w).alloc (by omega) _).grown hg1 (by simp; omega) (fun q e => (hlv.lt q e).1))).setCell (p := ⟨bk, 0, none⟩) hbk _
  have hv3 : OwnOff (W2.setCell ⟨bk, 0, none⟩ (.slice p1 (K.length + 1) n1)) B (.slice p1 (K.length + 1) n1) (K.map (·.1) ++ [.slice p ts.length c]) := by
    have e : (K.map (·.1) ++ [Value.slice p ts.length c]).length = K.length + 1 := by simp
    rw [e] at hv1
    exact hv1.kept (fun k hk => Below.heap_setCell _ _ _ _ (fun e => hv1.ne hbox2 (by decide) (hk.trans (congrArg some e))))
  have hw3 : OwnOff (W2.setCell ⟨bk, 0, none⟩ (.slice p1 (K.length + 1) n1)) B (.slice wp K.length wc) (K.map (·.2.1)) := by
    have hwv' : OwnOff w B (.slice wp K.length wc) (K.map (·.2.1)) := by simpa using hwv
    refine hwv'.kept (fun k hk => ?_)
    have hklt := (hwv'.lt k hk).2
    refine (Below.heap_setCell _ _ _ _ (fun e => hwv'.ne hbox (by decide) (hk.trans (congrArg some e)))).trans ((hg1.block k (by simp; omega) (fun e => ?_)).trans (Below.heap_alloc _ _ _ hklt))
    exact hlw k e.symm (by simpa using hk)
  have hfw : Far (.slice p1 (K.length + 1) n1) (.slice wp K.length wc) := by
    intro g hg hw
    have hwv' : OwnOff w B (.slice wp K.length wc) (K.map (·.2.1)) := by simpa using hwv
    have hglt := (hwv'.lt g hw).2
    rcases hv1b with e | ⟨k, e, hk⟩
    · have e' : (Value.slice p1 (K.length + 1) n1).ownBlock = (Value.slice lp (K.map (·.1)).length lc).ownBlock := by simpa using e
      exact hlw g (by rw [← e']; exact hg) (by simpa using hw)
    · have e' : (Value.slice p1 (K.length + 1) n1).ownBlock = some k := by simpa using e
      rw [e'] at hg
      have : k = g := by simpa using hg
      simp at hk
      omega
  have hl3 := owns_stay hl S1 hbox
  have hrows3 : ∀ k ∈ K, (W2.setCell ⟨bk, 0, none⟩ (.slice p1 (K.length + 1) n1)).ownsRow B 40 4 k.1 k.2.2.length (allCells k.2.2) ∧ (W2.setCell ⟨bk, 0, none⟩ (.slice p1 (K.length + 1) n1)).ownsRow B 40 4 k.2.1 k.2.2.length (allCells k.2.2) ∧ k.2.2.length ≤ 100000 := fun k hk => ⟨owns_stay (hrows k hk).1 S1 hbox, owns_stay (hrows k hk).2.1 S1 hbox, (hrows k hk).2.2⟩
  have hsz3 : w.heap.size ≤ (W2.setCell ⟨bk, 0, none⟩ (.slice p1 (K.length + 1) n1)).heap.size := S1.1
  clear E0 c0 c1 c2 c3 cf d0 d1 d2 d3 df hlv1 hv1 hg1 hv1b hbox2 hrows hlv hwv hlw hbox hl
  revert S1 hbox3 B1 hv3 hw3 hl3 hrows3 hsz3
  generalize W2.setCell ⟨bk, 0, none⟩ (.slice p1 (K.length + 1) n1) = W3
  intro S1 hbox3 B1 hv3 hw3 hl3 hrows3 hsz3
  -- the copy, and its place in the book
  have hl3d : W3.drew.ownsRow B 40 4 (.slice p ts.length c) ts.length (allCells ts) := hl3.drew
  obtain ⟨u, W4, E1, hu, hb4⟩ := copy_list hl3d hts
  obtain ⟨up, uc, rfl⟩ : ∃ p c, u = .slice p ts.length c := by
    rcases hu.2 with ⟨rfl, h0⟩ | ⟨g, cap, cur, rfl, _⟩
    · exact ⟨none, 0, by rw [h0]⟩
    · exact ⟨_, _, rfl⟩
  have hb4' : Below W3.heap.size W3 W4 := ⟨hb4.os, hb4.tape, hb4.output, hb4.size, hb4.block⟩
  have hbk3 : bk < W3.heap.size := (Array.getElem?_eq_some_iff.1 hbox3).1
  have hw5 : OwnOff (W4.alloc (.cells #[.slice up ts.length uc] 28)) B (.slice wp K.length wc) (K.map (·.2.1)) := hw3.kept (fun k hk => (Below.heap_alloc _ _ _ (Nat.lt_of_lt_of_le (hw3.lt k hk).2 hb4'.size)).trans (hb4'.block k (hw3.lt k hk).2))
  obtain ⟨v2, W6, E2, hv2, hg2, hv2b⟩ := append_off hw5 (by have := hb4'.size; simp; omega) (by simp; omega) (.slice up ts.length uc) rfl ⟨W4.heap.size, 0, none⟩ (by rw [World.cell?_alloc_at _ _ _ _ (by rfl)]; rfl) rfl 25
  obtain ⟨p2, n2, rfl⟩ := hv2.shape
  have hbox4 : W4.heap[bk]? = _ := (hb4'.block bk hbk3).trans hbox3
  have hbox5 : (W4.alloc (.cells #[.slice up ts.length uc] 28)).heap[bk]? = _ := (Below.heap_alloc _ _ _ (Nat.lt_of_lt_of_le hbk3 hb4'.size)).trans hbox4
  have hbox6 : W6.heap[bk]? = _ := (hg2.block bk (by have := hb4'.size; simp; omega) (fun e => hw5.ne hbox5 (by decide) e.symm)).trans hbox5
  obtain ⟨c0, c1, c2, c3, cf⟩ := book_cells hbox3
  obtain ⟨d0, d1, d2, d3, df⟩ := book_cells hbox4
  obtain ⟨e0, e1, e2, e3, ef⟩ := book_cells hbox5
  obtain ⟨f0, f1, f2, f3, ff⟩ := book_cells hbox6
  simp only [List.length_map, List.length_append, List.length_singleton] at E2
  have HH := hide (And.intro hu (And.intro hb4' (And.intro hw5 (And.intro hv2 (And.intro hg2 (And.intro hv2b (And.intro hbox6 (And.intro hap (And.intro hfar (And.intro S1 (And.intro B1 (And.intro hv3 (And.intro hw3 (And.intro hl3 (And.intro hrows3 (And.intro hfw (And.intro hbox3 hbox5)))))))))))))))))
  clear hu hb4' hw5 hv2 hg2 hv2b hbox6 hap hfar S1 B1 hv3 hw3 hl3 hrows3 hfw hbox3 hbox4 hbox5 hb4 hl3d
  go_cut [] from 14 to 24 (fun wx => wx = W6.setCell ⟨bk, 1, none⟩ (.slice p2 (K.length + 1) n2))
  case first =>
    go_region_law (first | refine step_append_eq rfl (.const (.slice none 0 0)) (.tmp 19) 28 rfl rfl (by simp [Act.eval, Act.put]) E1 ?_ | refine step_append_eq rfl (.tmp 18) (.tmp 21) 25 rfl (by simp [Act.eval]) (by simp [Act.eval]) E2 ?_)
    all_goals
      go_wp2_with fail
      go_meet
      rfl
  case rest =>
    subst hcut
    obtain ⟨hu, hb4', hw5, hv2, hg2, hv2b, hbox6, hap, hfar, S1, B1, hv3, hw3, hl3, hrows3, hfw, hbox3, hbox5⟩ := unhide HH
    clear HH E1 E2 c0 c1 c2 c3 cf d0 d1 d2 d3 df e0 e1 e2 e3 ef f0 f1 f2 f3 ff
    have hsz4 := hb4'.size
    have S2 : OthersStay bk W3 (W6.setCell ⟨bk, 1, none⟩ (.slice p2 (K.length + 1) n2)) := (((OthersStay.of_below hb4').trans (OthersStay.of_below ((Below.refl _ _).alloc (Nat.le_refl _) _))).trans (OthersStay.of_append hw5 hg2)).trans (OthersStay.of_set _ _ _ _)
    have B2 : Below B W3 (W6.setCell ⟨bk, 1, none⟩ (.slice p2 (K.length + 1) n2)) := ((((hb4'.mono (by omega)).alloc (by omega) _).grown hg2 (by simp; omega) (fun q e => (hw3.lt q e).1))).setCell (p := ⟨bk, 1, none⟩) hbk _
    have hbox7 : (W6.setCell ⟨bk, 1, none⟩ (.slice p2 (K.length + 1) n2)).heap[bk]? = some (.cells #[.slice p1 (K.length + 1) n1, .slice p2 (K.length + 1) n2, .int .i64 hd, .bool false] 27) := by
      have := heap_setCell_same W6 bk 1 _ _ (.slice p2 (K.length + 1) n2) hbox6
      simpa using this
    have hv7 : OwnOff (W6.setCell ⟨bk, 1, none⟩ (.slice p2 (K.length + 1) n2)) B (.slice p1 (K.length + 1) n1) (K.map (·.1) ++ [.slice p ts.length c]) := by
      refine hv3.kept (fun k hk => ?_)
      have hklt := (hv3.lt k hk).2
      exact (Below.heap_setCell _ _ _ _ (fun e => hv3.ne hbox3 (by decide) (hk.trans (congrArg some e)))).trans ((hg2.block k (by simp; omega) (fun e => hfw k hk e.symm)).trans ((Below.heap_alloc _ _ _ (by omega)).trans (hb4'.block k hklt)))
    have hw7 : OwnOff (W6.setCell ⟨bk, 1, none⟩ (.slice p2 (K.length + 1) n2)) B (.slice p2 (K.length + 1) n2) (K.map (·.2.1) ++ [.slice up ts.length uc]) := by
      have e : (K.map (·.2.1) ++ [Value.slice up ts.length uc]).length = K.length + 1 := by simp
      rw [e] at hv2
      exact hv2.kept (fun k hk => Below.heap_setCell _ _ _ _ (fun e => hv2.ne hbox6 (by decide) (hk.trans (congrArg some e))))
    have hf7 : Far (.slice p1 (K.length + 1) n1) (.slice p2 (K.length + 1) n2) := by
      intro g hg hw
      have hglt := (hv3.lt g hg).2
      rcases hv2b with e | ⟨k, e, hk⟩
      · have e' : (Value.slice p2 (K.length + 1) n2).ownBlock = (Value.slice wp K.length wc).ownBlock := by simpa using e
        exact hfw g hg (by rw [← e']; exact hw)
      · have e' : (Value.slice p2 (K.length + 1) n2).ownBlock = some k := by simpa using e
        rw [e'] at hw
        have : k = g := by simpa using hw
        simp at hk
        omega
    have hu7 := owns_stay (ownsRow_less hu (show B ≤ W3.drew.heap.size by show B ≤ W3.heap.size; omega)) ((OthersStay.of_below ((Below.refl _ _).alloc (Nat.le_refl _) _)).trans ((OthersStay.of_append hw5 hg2).trans (OthersStay.of_set bk 1 _ (.slice p2 (K.length + 1) n2)))) ((hb4'.block bk hbk3).trans hbox3)
    have hbk7 : BookIs bk B (K ++ [(.slice p ts.length c, .slice up ts.length uc, ts)]) (W6.setCell ⟨bk, 1, none⟩ (.slice p2 (K.length + 1) n2)) := by
      refine ⟨⟨_, _, hd, hbox7, by simpa using hv7, by simpa using hw7, hf7⟩, ?_, ?_, by simp; omega⟩
      · intro k hk
        rcases List.mem_append.1 hk with h | h
        · exact ⟨owns_stay (hrows3 k h).1 S2 hbox3, owns_stay (hrows3 k h).2.1 S2 hbox3, (hrows3 k h).2.2⟩
        · rw [List.mem_singleton.1 h]
          exact ⟨owns_stay hl3 S2 hbox3, hu7, hts⟩
      · rw [List.pairwise_append]
        exact ⟨hap, List.pairwise_singleton _ _, fun a ha b hb => by rw [List.mem_singleton.1 hb]; exact hfar a ha⟩
    have S7 := S1.trans S2
    have B7 := B1.trans B2
    clear hu hb4' hw5 hv2 hg2 hv2b hbox6 hap hfar S1 B1 hv3 hw3 hl3 hrows3 hfw hbox3 hbox5 S2 B2 hv7 hw7 hf7 hu7
    revert hbox7 hbk7 S7 B7
    generalize W6.setCell ⟨bk, 1, none⟩ (.slice p2 (K.length + 1) n2) = W7
    intro hbox7 hbk7 S7 B7
    obtain ⟨c0, c1, c2, c3, cf⟩ := book_cells hbox7
    go_upto_region 3 with fail
    have hbk8 := hbk7.held (wrap64 (wrap64 (hd + c) + 1))
    have S8 := S7.trans (OthersStay.of_set bk 2 W7 (.int .i64 (wrap64 (wrap64 (hd + c) + 1))))
    have B8 := B7.setCell (p := ⟨bk, 2, none⟩) hbk (.int .i64 (wrap64 (wrap64 (hd + c) + 1)))
    clear c0 c1 c2 c3 cf hbox7 hbk7 S7 B7
    revert hbk8 S8 B8
    generalize W7.setCell ⟨bk, 2, none⟩ (.int .i64 (wrap64 (wrap64 (hd + c) + 1))) = W8
    intro hbk8 S8 B8
    go_loopg [] (K.length + 1) (fun k wr => ∃ K' : List Kept, K'.length = k ∧ 1 ≤ k ∧ k ≤ K.length + 1 ∧ BookIs bk B K' wr ∧ (∀ x ∈ K', x ∈ K ∨ x.1 = .slice p ts.length c) ∧ OthersStay bk w wr ∧ Below B w wr)
    case atStart => exact ⟨_, by simp, by omega, by omega, hbk8, fun x hx => by rcases List.mem_append.1 hx with h | h; exact .inl h; rw [List.mem_singleton.1 h]; exact .inr rfl, S8, B8⟩
    case round =>
      clear hbk8 S8 B8
      obtain ⟨K', hk', h1', h2', hbk', hin, S9, B9⟩ := hrel
      have hbk2 := hbk'
      obtain ⟨⟨lv, wv, hd2, hbox, hlv, hwv, hlw⟩, hrows, hap, hfew'⟩ := hbk'
      obtain ⟨c0, c1, c2, c3, cf⟩ := book_cells hbox
      obtain ⟨lp2, lc2, rfl⟩ := hlv.shape
      obtain ⟨wp2, wc2, rfl⟩ := hwv.shape
      simp only [List.length_map] at c0 c1
      have HH := hide (And.intro hbk2 (And.intro hin (And.intro S9 (And.intro B9 (And.intro hlv (And.intro hwv (And.intro hlw (And.intro hrows (And.intro hap hbox)))))))))
      clear hbk2 hin S9 B9 hlv hwv hlw hrows hap hbox
      by_cases hmany : 1 < K'.length ∧ 1000000 < hd2
      · obtain ⟨hm1, hm2⟩ := hmany
        have hm1' : 1 < (K'.length : Int) := by omega
        obtain ⟨x, K2, rfl⟩ : ∃ x K2, K' = x :: K2 := by
          cases K' with
          | nil => simp at hm1
          | cons x K2 => exact ⟨x, K2, rfl⟩
        obtain ⟨hbk2, hin, S9, B9, hlv, hwv, hlw, hrows, hap, hbox⟩ := unhide HH
        clear HH
        obtain ⟨g1, o1, rfl⟩ : ∃ g o, lp2 = some ⟨g, o, none⟩ := by
          rcases hlv with ⟨_, h⟩ | ⟨g, o, cap, cur, e, _⟩
          · simp at h
          · simp only [Value.slice.injEq] at e
            exact ⟨g, o, e.1⟩
        obtain ⟨g2, o2, rfl⟩ : ∃ g o, wp2 = some ⟨g, o, none⟩ := by
          rcases hwv with ⟨_, h⟩ | ⟨g, o, cap, cur, e, _⟩
          · simp at h
          · simp only [Value.slice.injEq] at e
            exact ⟨g, o, e.1⟩
        have l0 : wr.cell? ⟨g1, o1, none⟩ = some x.1 := by simpa using hlv.cellAt 0 (by simp)
        have w0 : wr.cell? ⟨g2, o2, none⟩ = some x.2.1 := by simpa using hwv.cellAt 0 (by simp)
        have hx := hrows x (by simp)
        have sb : ∀ k, (wr.drewN k).setCell ⟨bk, 3, none⟩ (.bool false) = wr.drewN k := fun k => set_back (W := wr.drewN k) hbox
        have SM : Hid (∀ m, Calls Tryz.prog 10 #[x.1, x.2.1] (wr.drewN m) fun e w' => e = .returned (.bool true) ∧ ∃ k, w' = wr.drewN k) := fun m => by
          refine (SameTok_q x.1 x.2.1 x.2.2 (wr.drewN m) (by omega) (TokRow.of_owns ⟨hx.1.1, hx.1.2⟩) (TokRow.of_owns ⟨hx.2.1.1, hx.2.1.2⟩)).mono ?_
          rintro e w' ⟨h1, k, h2⟩
          exact ⟨h1, m + k, by rw [h2, World.drewN_drewN]⟩
        obtain ⟨xp, xc, hx1⟩ : ∃ p c, x.1 = .slice p x.2.2.length c := by
          rcases hx.1.2 with ⟨e, h0⟩ | ⟨g, cap, cur, e, _⟩
          · exact ⟨none, 0, by rw [e, h0]⟩
          · exact ⟨_, _, e⟩
        obtain ⟨yp, yc, hx2⟩ : ∃ p c, x.2.1 = .slice p x.2.2.length c := by
          rcases hx.2.1.2 with ⟨e, h0⟩ | ⟨g, cap, cur, e, _⟩
          · exact ⟨none, 0, by rw [e, h0]⟩
          · exact ⟨_, _, e⟩
        have HH := hide (And.intro hbk2 (And.intro hin (And.intro S9 (And.intro B9 (And.intro hlv (And.intro hwv (And.intro hlw (And.intro hrows (And.intro hap (And.intro hbox (And.intro hx1 hx2)))))))))))
        rw [hx1] at l0 SM
        rw [hx2] at w0 SM
        clear hbk2 hin S9 B9 hlv hwv hlw hrows hap hbox hx hx1 hx2
        go_upto_region 4 with fail
        go_quiet ((go_at_call 10; exact unhide SM _))
        have c0' : (wr.drewN nq).cell? ⟨bk, 0, none⟩ = _ := c0
        have c1' : (wr.drewN nq).cell? ⟨bk, 1, none⟩ = _ := c1
        have c2' : (wr.drewN nq).cell? ⟨bk, 2, none⟩ = _ := c2
        have cf' : ∀ o, (wr.drewN nq).frozen? ⟨bk, o, none⟩ = false := cf
        have l0' : (wr.drewN nq).cell? ⟨g1, o1, none⟩ = _ := l0
        have hwd : (wr.drewN nq).heap = wr.heap := rfl
        have bd : Below wr.heap.size wr (wr.drewN nq) := below_drewN (Below.refl _ _) nq
        clear sb SM c0 c1 c2 c3 cf l0 w0
        revert c0' c1' c2' cf' l0' hwd bd
        generalize wr.drewN nq = Wd
        intro c0 c1 c2 cf l0 hwd bd
        have HW := hide hwd
        clear hwd
        go_upto_region 5 with fail
        go_cut [] from 36 to 111 (fun wx => ∃ h2 : Int, wx = (Wd.setCell ⟨bk, 2, none⟩ (.int .i64 h2)).drew)
        case first =>
          go_region
          all_goals
            go_wp2_with fail
            go_meet
            exact ⟨_, rfl⟩
        case rest =>
          obtain ⟨h2, rfl⟩ := hcut
          obtain ⟨hbk2, hin, S9, B9, hlv, hwv, hlw, hrows, hap, hbox, hx1, hx2⟩ := unhide HH
          clear HH
          have hcap1 : gk ≤ lc2 := by
            rcases hlv with ⟨_, h⟩ | ⟨g, o, cap, cur, e, _, _, hn, _⟩
            · simp at h
            · simp only [Value.slice.injEq] at e
              simp only [List.length_map] at hn
              omega
          have hcap2 : gk ≤ wc2 := by
            rcases hwv with ⟨_, h⟩ | ⟨g, o, cap, cur, e, _, _, hn, _⟩
            · simp at h
            · simp only [Value.slice.injEq] at e
              simp only [List.length_map] at hn
              omega
          have hgk : 1 < gk := by omega
          have hgk' : 1 < (gk : Int) := by omega
          have HH := hide (And.intro hbk2 (And.intro hin (And.intro S9 (And.intro B9 (And.intro hlv (And.intro hwv (And.intro hlw (And.intro hrows (And.intro hap hbox)))))))))
          clear hbk2 hin S9 B9 hlv hwv hlw hrows hap hbox hx1 hx2
          go_wp2
          obtain ⟨hbk2, hin, S9, B9, hlv, hwv, hlw, hrows, hap, hbox⟩ := unhide HH
          have hgk2 : K2.length = gk - 1 := by simp at hk'; omega
          have hboxd := hbox
          rw [← unhide HW] at hboxd
          have hboxE : (((Wd.setCell ⟨bk, 2, none⟩ (.int .i64 h2)).setCell ⟨bk, 0, none⟩ (.slice (some ⟨g1, o1 + 1, none⟩) (gk - 1) (lc2 - 1))).setCell ⟨bk, 1, none⟩ (.slice (some ⟨g2, o2 + 1, none⟩) (gk - 1) (wc2 - 1))).drew.heap[bk]? = some (.cells #[.slice (some ⟨g1, o1 + 1, none⟩) K2.length (lc2 - 1), .slice (some ⟨g2, o2 + 1, none⟩) K2.length (wc2 - 1), .int .i64 h2, .bool false] 27) := by
            have a1 := heap_setCell_same Wd bk 2 _ _ (.int .i64 h2) hboxd
            have a2 := heap_setCell_same _ bk 0 _ _ (.slice (some ⟨g1, o1 + 1, none⟩) (gk - 1) (lc2 - 1)) a1
            have a3 := heap_setCell_same _ bk 1 _ _ (.slice (some ⟨g2, o2 + 1, none⟩) (gk - 1) (wc2 - 1)) a2
            rw [hgk2]
            simp at a3
            exact a3
          have hSE : ∀ k, k ≠ bk → (((Wd.setCell ⟨bk, 2, none⟩ (.int .i64 h2)).setCell ⟨bk, 0, none⟩ (.slice (some ⟨g1, o1 + 1, none⟩) (gk - 1) (lc2 - 1))).setCell ⟨bk, 1, none⟩ (.slice (some ⟨g2, o2 + 1, none⟩) (gk - 1) (wc2 - 1))).drew.heap[k]? = wr.heap[k]? := fun k hk =>
            (Below.heap_setCell _ _ _ _ hk).trans ((Below.heap_setCell _ _ _ _ hk).trans ((Below.heap_setCell _ _ _ _ hk).trans (by rw [unhide HW])))
          have hszE : wr.heap.size ≤ (((Wd.setCell ⟨bk, 2, none⟩ (.int .i64 h2)).setCell ⟨bk, 0, none⟩ (.slice (some ⟨g1, o1 + 1, none⟩) (gk - 1) (lc2 - 1))).setCell ⟨bk, 1, none⟩ (.slice (some ⟨g2, o2 + 1, none⟩) (gk - 1) (wc2 - 1))).drew.heap.size := by
            have := bd.size
            simpa using this
          have hBE : Below B wr (((Wd.setCell ⟨bk, 2, none⟩ (.int .i64 h2)).setCell ⟨bk, 0, none⟩ (.slice (some ⟨g1, o1 + 1, none⟩) (gk - 1) (lc2 - 1))).setCell ⟨bk, 1, none⟩ (.slice (some ⟨g2, o2 + 1, none⟩) (gk - 1) (wc2 - 1))).drew := ((((bd.mono (Nat.le_trans (by omega) S9.1)).setCell (p := ⟨bk, 2, none⟩) hbk _).setCell (p := ⟨bk, 0, none⟩) hbk _).setCell (p := ⟨bk, 1, none⟩) hbk _).drew
          have hDR := BookIs.drop hbox hlv hwv hlw hrows hap hbk2.few hboxE hSE hszE
          go_roundg (gk - 1)
          case measure => omega
          case rel => exact ⟨K2, hgk2, by omega, by omega, hDR, fun y hy => hin y (List.mem_cons_of_mem _ hy), S9.trans ⟨hszE, fun k o h1 h2 _ => (hSE k h2).trans h1⟩, B9.trans hBE⟩
      · have hq : (K'.length : Int) ≤ 1 ∨ (1 < (K'.length : Int) ∧ hd2 ≤ 1000000 ∧ (K'.length : Int) ≤ 4000) := by omega
        clear hmany
        obtain ⟨hbk2, hin, S9, B9, _⟩ := unhide HH
        clear HH
        rcases hq with q1 | ⟨q1, q2, q3⟩
        all_goals
          go_wp2
          go_end0
          first
          | exact ⟨rfl, B9, S9, K', hbk2, by omega, hin⟩
          | exact ⟨rfl, B9, S9, K', hbk2, by omega, fun a b c h => hin (a, b, c) h⟩
end Go.Proofs.YthplgkkailieoaaGreatDoor
