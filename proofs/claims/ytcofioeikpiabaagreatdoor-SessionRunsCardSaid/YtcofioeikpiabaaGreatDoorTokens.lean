/-
  Tokens of package lex, walked: the loop over each by the library's base law for a range over a function.
-/
import Derived.Test.YtcofioeikpiabaaGreatDoorEach
import Derived.Maps.AppendAt
import Derived.Deep.QuietTactic
import Derived.BigQuiet
namespace Go.Proofs.YtcofioeikpiabaaGreatDoor
open Go Go.RowKit Go.Shelf Lx
attribute [local go_sem] Oper.semAt_some

def tokCells (t : Tok) : List Value := [.int .i64 (t.1 : Int), .int .i64 t.2.1, .string ⟨t.2.2.1.toArray⟩, .int .i64 t.2.2.2]
def allCells (ts : List Tok) : List Value := ts.flatMap tokCells
theorem allCells_snoc (ts : List Tok) (t : Tok) : allCells (ts ++ [t]) = allCells ts ++ tokCells t := by simp [allCells]
theorem info_tok : (Tryz.prog.info? 371).map (fun i => (i.zero, i.size, i.bytes)) = some (some (.agg #[.int .i64 0, .int .i64 0, .string ⟨#[]⟩, .int .i64 0]), 4, 40) := by kernel_rfl
theorem grown_of_below {W W' : World} (h : Below W.heap.size W W') : W.grownBy W' none := ⟨h.os, h.tape, h.output, h.size, fun k hk _ => h.block k hk⟩

/-- Between two rounds: the list's box, what it owns, the two blocks of the loop. -/
structure Mid (w : World) (r : Loop) (pre : List Tok) (W : World) : Prop where
  list : ∃ v, Boxed W (w.heap.size + 1) 356 v ∧ W.ownsRow (w.heap.size + 1) 371 4 v pre.length (allCells pre) ∧ (pre = [] → v = .slice none 0 0)
  defers : W.heap[w.heap.size + 2]? = some (.deferred (some []))
  loop : W.heap[w.heap.size + 3]? = some (.loop r)
  old : Below w.heap.size w W
theorem Mid.grown {w : World} {r : Loop} {pre : List Tok} {W W' : World} (h : Mid w r pre W) (hb : Below W.heap.size W W') : Mid w r pre W' := by
  obtain ⟨v, hv, hr, hz⟩ := h.list
  have hg := grown_of_below hb
  have k2 := (Array.getElem?_eq_some_iff.1 h.defers).1
  have k3 := (Array.getElem?_eq_some_iff.1 h.loop).1
  exact ⟨⟨v, hv.kept hg (by simp), hr.kept hg (by
    rcases hr.2 with ⟨rfl, _⟩ | ⟨g, cap, cur, rfl, _⟩
    · exact .inl rfl
    · exact .inr (by simp [Value.ownBlock])), hz⟩, (hb.block _ k2).trans h.defers, (hb.block _ k3).trans h.loop, h.old.trans (hb.mono h.old.size)⟩
/-- The loop's own record turns. -/
theorem Mid.turn {w : World} {r : Loop} {pre : List Tok} {W : World} (h : Mid w r pre W) (r' : Loop) : Mid w r' pre (W.putObj (w.heap.size + 3) (.loop r')) := by
  obtain ⟨v, hv, hr, hz⟩ := h.list
  have k3 := (Array.getElem?_eq_some_iff.1 h.loop).1
  refine ⟨⟨v, (World.putObj_heap_other (by omega)).trans hv, ownsRow_putObj hr _ h.loop rfl, hz⟩, (World.putObj_heap_other (by omega)).trans h.defers, World.putObj_heap_same k3, h.old.grown (grownBy_putObj' _ _ _) h.old.size (fun k e => by cases e; omega)⟩

theorem heap_old2 {w : World} (o o' : Obj) (k : Nat) (h : k < w.heap.size) : ((w.alloc o).alloc o').heap[k]? = w.heap[k]? :=
  (Below.heap_alloc _ _ _ (by simp; omega)).trans (Below.heap_alloc _ _ _ h)
/-- A range over a method's value: the two blocks are laid, the method is called with yield. -/
theorem range_method {n : Nat} {P : Program} {g : Operand} {ps : Array Tmp} {assign body : Code} {Q : Exit → Act → World → Prop} {a : Act} {w : World} (h1 : 1 ≤ n) {gf : Nat} {rv : Value}
    (hg : a.eval g = .func (.func gf) #[rv] #[]) (eg : ∀ args w, (callFunc gf args).run P w = .ok (.enter gf args) w)
    (h : ∀ (fn : FuncId) (rec : Loop), rec = { state := .ready, pending := none, fn := fn, tmps := a.tmps, params := ps, assign := assign, body := body, defers := w.heap.size } →
      CallsIn Fence.wide (n - 1) P gf #[rv, .func (.yield (w.heap.size + 1)) #[] #[]] ((w.alloc (.deferred (some []))).alloc (.loop rec))
        (rangePost Fence.wide n P (w.heap.size + 1) Q { a with defers := { target := .collected w.heap.size, args := #[] } :: a.defers })) :
    (Code.rangeFunc g ps assign body).wpIn Fence.wide n P Q a w := by
  refine wpIn_rangeFunc fun fn _ => ?_
  obtain ⟨rec, hrec⟩ : ∃ rec : Loop, rec = { state := .ready, pending := none, fn := fn, tmps := a.tmps, params := ps, assign := assign, body := body, defers := w.heap.size } := ⟨_, rfl⟩
  obtain ⟨W1, hW1⟩ : ∃ W1, W1 = (w.alloc (.deferred (some []))).alloc (.loop rec) := ⟨_, rfl⟩
  have hen : (Instr.enterLoop fn a.tmps ps assign body none).run P w = .ok (w.heap.size + 1, [{ target := .collected w.heap.size, args := #[] }]) W1 := by
    rw [hW1, hrec]; exact run_enterLoop_outer _ _ _ _ _
  have hc := h fn rec hrec
  rw [← hW1] at hc
  have hres : (resolve a.eval (rangeCall g (w.heap.size + 1)) 0).run P W1 = .ok { target := .fn (.func gf) #[], args := #[rv, .func (.yield (w.heap.size + 1)) #[] #[]] } W1 := by
    simp only [resolve, hg]
    simp [go_sem]
  refine ⟨_, _, W1, { target := .fn (.func gf) #[], args := #[rv, .func (.yield (w.heap.size + 1)) #[] #[]] }, W1, gf, #[rv, .func (.yield (w.heap.size + 1)) #[] #[]], W1, hen, hres, fun _ _ => trivial, ?_, fun _ => h1, hc⟩
  simp [invoke, go_sem, eg]

theorem ownsRow_less {w : World} {base base' : Nat} {e : TypeId} {size : Nat} {v : Value} {n : Nat} {xs : List Value} (h : w.ownsRow base e size v n xs) (hb : base' ≤ base) : w.ownsRow base' e size v n xs := by
  refine ⟨h.1, ?_⟩
  rcases h.2 with h' | ⟨g, cap, cur, hv, hg, r⟩
  · exact .inl h'
  · exact .inr ⟨g, cap, cur, hv, Nat.le_trans hb hg, r⟩

/-- What Tokens hands back. -/
def TokensSay (w : World) (s : ByteArray) (e : Ending) (W' : World) : Prop :=
  Below w.heap.size w W' ∧
  match (lex s.data.toList).2 with
  | none => ∃ v, e = .returned (.tuple #[v, .nilIface]) ∧ W'.ownsRow w.heap.size 371 4 v (lex s.data.toList).1.length (allCells (lex s.data.toList).1)
  | some (p, y) => ∃ b, e = .returned (.tuple #[.slice none 0 0, .iface 359 (.pointer (some ⟨b, 0, none⟩))]) ∧ w.heap.size ≤ b ∧ W'.heap[b]? = some (.cells #[.int .i64 (p : Int), .int .i64 (y : Int)] 654)

/-- The same, and that no tokens are the nil list. -/
def TokensSay0 (w : World) (s : ByteArray) (e : Ending) (W' : World) : Prop :=
  Below w.heap.size w W' ∧
  match (lex s.data.toList).2 with
  | none => ∃ v, e = .returned (.tuple #[v, .nilIface]) ∧ W'.ownsRow w.heap.size 371 4 v (lex s.data.toList).1.length (allCells (lex s.data.toList).1) ∧ ((lex s.data.toList).1 = [] → v = .slice none 0 0)
  | some (p, y) => ∃ b, e = .returned (.tuple #[.slice none 0 0, .iface 359 (.pointer (some ⟨b, 0, none⟩))]) ∧ w.heap.size ≤ b ∧ W'.heap[b]? = some (.cells #[.int .i64 (p : Int), .int .i64 (y : Int)] 654)

set_option maxHeartbeats 2000000 in
set_option maxRecDepth 100000 in
theorem Tokens_in0 (n : Nat) (hn : 3 ≤ n) (s : ByteArray) (hs : s.size ≤ 140737488355328) (w : World) :
    CallsIn Fence.wide n Tryz.prog 179 #[.string s] w fun e W' => TokensSay0 w s e W' := by
  have h1 : 1 ≤ n := by omega
  obtain ⟨i0, hi, hz0, hz1, hz2⟩ := info_parts info_tok
  refine callsIn_of_wp_marks Tryz.func179 rfl trivial ?_ rfl
  simp only [Tryz.ntmps179, List.size_toArray, List.length_cons, List.length_nil, Nat.reduceAdd, Nat.reduceSub, Array.replicate_succ, Array.replicate_zero, List.push_toArray, List.append_toArray, List.nil_append, List.cons_append]
  gi_wp2
  refine range_method h1 (gf := 277) (rv := .pointer (some ⟨w.heap.size, 0, none⟩)) rfl (enters_of Tryz.func277 (by kernel_rfl) rfl) ?_
  intro fn rec hrec
  simp only [World.size_alloc] at hrec ⊢
  have hW0 : Below w.heap.size w ((w.alloc (.cells #[.string s, .pointer none] 521)).alloc (.cells #[.slice none 0 0] 356)) := below2 _ _ _
  refine (each_in (n - 1) (w.heap.size + 1 + 1 + 1) w.heap.size (by omega) s hs (Mid w rec) (fun _ _ _ h hb => h.grown hb) ?_ _ ?_ ?_).mono ?_
  · intro pre x W hM hlen hcut
    have hy := run_yield (P := Tryz.prog) (args := #[.int .i64 (pre.length : Int), tokVal x]) hM.loop (by rw [hrec]; rfl)
    rw [hrec] at hy
    refine ⟨_, _, _, _, hy, roundIn_of_wpIn trivial ?_⟩
    clear hy
    obtain ⟨v, hv, hrow, -⟩ := hM.list
    dsimp only [tokVal]
    gi_wp2
    have hba : Below W.heap.size W (W.alloc (.cells #[.int .i64 (x.1 : Int), .int .i64 x.2.1, .string ⟨x.2.2.1.toArray⟩, .int .i64 x.2.2.2] 371)) := (Below.refl _ _).alloc (Nat.le_refl _) _
    have hMa := hM.grown hba
    have hca := hcut.kept hba
    have hla := (Array.getElem?_eq_some_iff.1 hM.loop).1
    refine ⟨_, run_beginRound hMa.loop (by rw [hrec]), ?_⟩
    have hMb := hMa.turn { rec with state := .busy }
    have htb := (World.putObj_heap_other (o := .loop { rec with state := .busy }) (show W.heap.size ≠ w.heap.size + 3 by omega)).trans (heap_last W (.cells #[.int .i64 (x.1 : Int), .int .i64 x.2.1, .string ⟨x.2.2.1.toArray⟩, .int .i64 x.2.2.2] 371))
    have hcb : CutterAt w.heap.size s (.pointer none) ((W.alloc (.cells #[.int .i64 (x.1 : Int), .int .i64 x.2.1, .string ⟨x.2.2.1.toArray⟩, .int .i64 x.2.2.2] 371)).putObj (w.heap.size + 3) (.loop { rec with state := .busy })) := (World.putObj_heap_other (by omega)).trans hca
    clear hMa hca hba hv hrow v
    revert hMb htb hcb
    generalize (W.alloc (.cells #[.int .i64 (x.1 : Int), .int .i64 x.2.1, .string ⟨x.2.2.1.toArray⟩, .int .i64 x.2.2.2] 371)).putObj (w.heap.size + 3) (.loop { rec with state := .busy }) = Wb
    intro hMb htb hcb
    obtain ⟨v, hv, hrow, -⟩ := hMb.list
    have hc0 := hv.cell
    have t0 : Wb.cell? ⟨W.heap.size, 0, none⟩ = some (.int .i64 (x.1 : Int)) := by rw [Lib.cell_of_heap htb]; rfl
    have t1 : Wb.cell? ⟨W.heap.size, 1, none⟩ = some (.int .i64 x.2.1) := by rw [Lib.cell_of_heap htb]; rfl
    have t2 : Wb.cell? ⟨W.heap.size, 2, none⟩ = some (.string ⟨x.2.2.1.toArray⟩) := by rw [Lib.cell_of_heap htb]; rfl
    have t3 : Wb.cell? ⟨W.heap.size, 3, none⟩ = some (.int .i64 x.2.2.2) := by rw [Lib.cell_of_heap htb]; rfl
    have hBs : w.heap.size + 1 ≤ Wb.heap.size := by have := hv.lt; omega
    gi_wp2_with (gi_at_builtin; refine wpListIn_append_own _ rfl _ _ 356 rfl (w.heap.size + 1) 371 i0 (.agg #[.int .i64 0, .int .i64 0, .string ⟨#[]⟩, .int .i64 0]) 4 40 Tryz.underlying356 hi hz0 hz1 hz2 rfl (by decide) _ _ _ rfl (hrow.alloc _) ⟨Wb.heap.size, 0, none⟩ 1 1 (tokCells x) rfl rfl ?news ?one ?c3 ?c4 ?c5 ?_)
    case news =>
      intro j u hj
      match j, hj with
      | 0, hj => simp [tokCells] at hj; subst hj; simp [Addr.add]
      | 1, hj => simp [tokCells] at hj; subst hj; simp [Addr.add]
      | 2, hj => simp [tokCells] at hj; subst hj; simp [Addr.add]
      | 3, hj => simp [tokCells] at hj; subst hj; simp [Addr.add]
      | j + 4, hj => simp [tokCells] at hj
    case one => intro u hu; simp [tokCells] at hu; rcases hu with rfl | rfl | rfl | rfl <;> rfl
    case c3 => unfold maxLen; omega
    case c4 => omega
    case c5 => simp; omega
    intro v' w1 hown' hgrow _
    obtain ⟨g', cap', rfl⟩ := ownsRow_succ hown'
    obtain ⟨hv1, hv2, hr2, hk2, hb2⟩ := hv.appended (by decide) hrow hBs (Nat.le_refl _) hown' hgrow
    have hc1 := hv1.cell
    have hf1 := hv1.frozen
    gi_wp2
    have hM3 : Mid w { rec with state := .busy } (pre ++ [x]) (w1.setCell ⟨w.heap.size + 1, 0, none⟩ (.slice (some ⟨g', 0, none⟩) (pre.length + 1) cap')) :=
      ⟨⟨_, hv2, by rw [allCells_snoc]; simpa using hr2, fun e => by simp at e⟩, hk2.same _ _ hMb.defers rfl, hk2.same _ _ hMb.loop rfl, hMb.old.trans (hb2.mono (by omega))⟩
    have hc3 : CutterAt w.heap.size s (.pointer none) (w1.setCell ⟨w.heap.size + 1, 0, none⟩ (.slice (some ⟨g', 0, none⟩) (pre.length + 1) cap')) := (hb2.block _ (by omega)).trans hcb
    have hend := run_endRound (P := Tryz.prog) none hM3.loop
    have hrr : ({ state := if (none : Option Code).isNone = true then LoopState.ready else LoopState.done, pending := none, fn := rec.fn, tmps := rec.tmps, params := rec.params, assign := rec.assign, body := rec.body, defers := rec.defers } : Loop) = rec := by rw [hrec]; rfl
    have hend' : (Instr.endRound (w.heap.size + 1 + 1 + 1) none).run Tryz.prog (w1.setCell ⟨w.heap.size + 1, 0, none⟩ (.slice (some ⟨g', 0, none⟩) (pre.length + 1) cap')) = .ok (.bool true) ((w1.setCell ⟨w.heap.size + 1, 0, none⟩ (.slice (some ⟨g', 0, none⟩) (pre.length + 1) cap')).putObj (w.heap.size + 3) (.loop rec)) := by
      rw [← hrr]; exact hend
    exact ⟨_, _, hend', rfl, hM3.turn rec, (World.putObj_heap_other (by omega)).trans hc3⟩
  · exact (heap_old2 _ _ _ (by simp; omega)).trans ((Below.heap_alloc _ _ _ (by simp)).trans (heap_last w _))
  · refine ⟨⟨.slice none 0 0, (heap_old2 _ _ _ (by simp)).trans (by have := heap_last (w.alloc (.cells #[.string s, .pointer none] 521)) (.cells #[.slice none 0 0] 356); simpa using this), World.ownsRow_nil _ _ _ _, fun _ => rfl⟩, ?_, ?_, ?_⟩
    · have := heap_last ((w.alloc (.cells #[.string s, .pointer none] 521)).alloc (.cells #[.slice none 0 0] 356)) (.deferred (some []))
      refine (Below.heap_alloc _ _ _ (by simp)).trans ?_
      simpa using this
    · have := heap_last (((w.alloc (.cells #[.string s, .pointer none] 521)).alloc (.cells #[.slice none 0 0] 356)).alloc (.deferred (some []))) (.loop rec)
      simpa using this
    · exact (hW0.alloc (by simp; omega) _).alloc (by simp; omega) _
  · rintro e W' ⟨⟨u, rfl⟩, W2, hM, hE⟩
    rcases hr : (lex s.data.toList).2 with _ | ⟨p, y⟩
    · rw [hr] at hE
      obtain ⟨hcut, rfl⟩ := hE
      refine ⟨none, _, by have := run_endLoop (P := Tryz.prog) hM.loop (by rw [hrec]; simp); rw [hrec] at this; exact this, ?_⟩
      have hM4 := hM.turn { state := .exhausted, pending := none, fn := fn, tmps := rec.tmps, params := rec.params, assign := rec.assign, body := rec.body, defers := rec.defers }
      have hc4 : CutterAt w.heap.size s (.pointer none) (W'.putObj (w.heap.size + 3) (.loop { state := .exhausted, pending := none, fn := fn, tmps := rec.tmps, params := rec.params, assign := rec.assign, body := rec.body, defers := rec.defers })) := (World.putObj_heap_other (by omega)).trans hcut
      rw [hrec] at hM4 hc4
      dsimp only at hM4 hc4 ⊢
      revert hM4 hc4
      generalize W'.putObj (w.heap.size + 3) _ = W4
      intro hM4 hc4
      obtain ⟨v, hv, hrow, hz⟩ := hM4.list
      have d1 := hc4.cell1
      have b1 := hv.cell
      have hK := hM4.defers
      gi_wp2
      refine ⟨by simp, .inl ⟨_, _, rfl, run_takeDeferred hK, ?_⟩⟩
      refine ⟨_, results_tmp2 rfl _ _ _, hM4.old.grown (grownBy_putObj' _ _ _) hM4.old.size (fun k e => by cases e; omega), ?_⟩
      rw [hr]
      exact ⟨v, rfl, ownsRow_less (ownsRow_putObj hrow _ hK rfl) (by omega), hz⟩
    · rw [hr] at hE
      obtain ⟨hcut, b, hbgt, hblk, hcut', hgr⟩ := hE
      have hl2 := hcut.lt
      have kD := (Array.getElem?_eq_some_iff.1 hM.defers).1
      have kL := (Array.getElem?_eq_some_iff.1 hM.loop).1
      have hD' : W'.heap[w.heap.size + 2]? = some (.deferred (some [])) := (hgr.block _ kD (by simp)).trans hM.defers
      have hL' : W'.heap[w.heap.size + 3]? = some (.loop rec) := (hgr.block _ kL (by simp)).trans hM.loop
      have hO' : Below w.heap.size w W' := hM.old.grown hgr hM.old.size (fun k e => by cases e; omega)
      have hbL : b ≠ w.heap.size + 3 := fun e => by rw [e, hL'] at hblk; cases hblk
      have hbD : b ≠ w.heap.size + 2 := fun e => by rw [e, hD'] at hblk; cases hblk
      refine ⟨none, _, by have := run_endLoop (P := Tryz.prog) hL' (by rw [hrec]; simp); rw [hrec] at this; exact this, ?_⟩
      dsimp only
      have hD4 : (W'.putObj (w.heap.size + 3) (.loop { state := .exhausted, pending := none, fn := fn, tmps := rec.tmps, params := rec.params, assign := rec.assign, body := rec.body, defers := rec.defers })).heap[w.heap.size + 2]? = some (.deferred (some [])) := (World.putObj_heap_other (by omega)).trans hD'
      have hc4 : CutterAt w.heap.size s (.pointer (some ⟨b, 0, none⟩)) (W'.putObj (w.heap.size + 3) (.loop { state := .exhausted, pending := none, fn := fn, tmps := rec.tmps, params := rec.params, assign := rec.assign, body := rec.body, defers := rec.defers })) := (World.putObj_heap_other (by omega)).trans hcut'
      have hb4 : (W'.putObj (w.heap.size + 3) (.loop { state := .exhausted, pending := none, fn := fn, tmps := rec.tmps, params := rec.params, assign := rec.assign, body := rec.body, defers := rec.defers })).heap[b]? = some (.cells #[.int .i64 (p : Int), .int .i64 (y : Int)] 654) := (World.putObj_heap_other hbL).trans hblk
      have hO4 : Below w.heap.size w (W'.putObj (w.heap.size + 3) (.loop { state := .exhausted, pending := none, fn := fn, tmps := rec.tmps, params := rec.params, assign := rec.assign, body := rec.body, defers := rec.defers })) := hO'.grown (grownBy_putObj' _ _ _) hO'.size (fun k e => by cases e; omega)
      rw [hrec] at hD4 hc4 hb4 hO4
      dsimp only at hD4 hc4 hb4 hO4
      revert hD4 hc4 hb4 hO4
      generalize W'.putObj (w.heap.size + 3) _ = W4
      intro hD4 hc4 hb4 hO4
      have d1 := hc4.cell1
      gi_wp2
      gi_region
      all_goals
        gi_wp2
        refine ⟨by simp, .inl ⟨_, _, rfl, run_takeDeferred hD4, ?_⟩⟩
        refine ⟨_, results_tmp2 rfl _ _ _, hO4.drew.grown (grownBy_putObj' _ _ _) hO4.size (fun k e => by cases e; omega), ?_⟩
        rw [hr]
        exact ⟨b, rfl, by omega, (World.putObj_heap_other hbD).trans hb4⟩
theorem say_of0 {w : World} {s : ByteArray} {e : Ending} {W' : World} (h : TokensSay0 w s e W') : TokensSay w s e W' := by
  refine ⟨h.1, ?_⟩
  have h2 := h.2
  rcases hr : (lex s.data.toList).2 with _ | ⟨p, y⟩
  · rw [hr] at h2
    obtain ⟨v, h3, h4, _⟩ := h2
    exact ⟨v, h3, h4⟩
  · rw [hr] at h2
    exact h2
theorem Tokens_in (n : Nat) (hn : 3 ≤ n) (s : ByteArray) (hs : s.size ≤ 140737488355328) (w : World) :
    CallsIn Fence.wide n Tryz.prog 179 #[.string s] w fun e W' => TokensSay w s e W' := (Tokens_in0 n hn s hs w).mono fun _ _ h => say_of0 h
theorem Tokens_any0 (s : ByteArray) (hs : s.size ≤ 140737488355328) (w : World) : Calls Tryz.prog 179 #[.string s] w fun e W' => TokensSay0 w s e W' :=
  callsIn_wide.1 (Tokens_in0 3 (Nat.le_refl _) s hs w)
theorem Tokens_any (s : ByteArray) (hs : s.size ≤ 140737488355328) (w : World) : Calls Tryz.prog 179 #[.string s] w fun e W' => TokensSay w s e W' :=
  callsIn_wide.1 (Tokens_in 3 (Nat.le_refl _) s hs w)
end Go.Proofs.YtcofioeikpiabaaGreatDoor
