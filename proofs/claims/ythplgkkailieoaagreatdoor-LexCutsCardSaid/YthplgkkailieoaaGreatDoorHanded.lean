/-
  coil/lex.All and coillaw1.handed, walked: a sequence hands out a text's tokens, till the loop over it leaves.
-/
import Derived.Test.YthplgkkailieoaaGreatDoorRoundQuiet
import Derived.Test.YthplgkkailieoaaGreatDoorJoin
namespace Go.Proofs.YthplgkkailieoaaGreatDoor
open Go Go.RowKit Go.Shelf Lx
attribute [local go_sem] Oper.semAt_some

/-- A range over a closure: the two blocks are laid, the closure is called with yield and what it has captured. -/
theorem range_closure {n : Nat} {P : Program} {g : Operand} {ps : Array Tmp} {assign body : Code} {Q : Exit → Act → World → Prop} {a : Act} {w : World} (h1 : 1 ≤ n) {gf : Nat} {cv : Value}
    (hg : a.eval g = .func (.func gf) #[] #[cv]) (eg : ∀ args w, (callFunc gf args).run P w = .ok (.enter gf args) w)
    (h : ∀ (fn : FuncId) (rec : Loop), rec = { state := .ready, pending := none, fn := fn, tmps := a.tmps, params := ps, assign := assign, body := body, defers := w.heap.size } →
      CallsIn Fence.wide (n - 1) P gf #[.func (.yield (w.heap.size + 1)) #[] #[], cv] ((w.alloc (.deferred (some []))).alloc (.loop rec))
        (rangePost Fence.wide n P (w.heap.size + 1) Q { a with defers := { target := .collected w.heap.size, args := #[] } :: a.defers })) :
    (Code.rangeFunc g ps assign body).wpIn Fence.wide n P Q a w := by
  refine wpIn_rangeFunc fun fn _ => ?_
  obtain ⟨rec, hrec⟩ : ∃ rec : Loop, rec = { state := .ready, pending := none, fn := fn, tmps := a.tmps, params := ps, assign := assign, body := body, defers := w.heap.size } := ⟨_, rfl⟩
  obtain ⟨W1, hW1⟩ : ∃ W1, W1 = (w.alloc (.deferred (some []))).alloc (.loop rec) := ⟨_, rfl⟩
  have hen : (Instr.enterLoop fn a.tmps ps assign body none).run P w = .ok (w.heap.size + 1, [{ target := .collected w.heap.size, args := #[] }]) W1 := by
    rw [hW1, hrec]; exact run_enterLoop_outer _ _ _ _ _
  have hc := h fn rec hrec
  rw [← hW1] at hc
  have hres : (resolve a.eval (rangeCall g (w.heap.size + 1)) 0).run P W1 = .ok { target := .fn (.func gf) #[cv], args := #[.func (.yield (w.heap.size + 1)) #[] #[]] } W1 := by
    simp only [resolve, hg]
    simp [go_sem]
  refine ⟨_, _, W1, { target := .fn (.func gf) #[cv], args := #[.func (.yield (w.heap.size + 1)) #[] #[]] }, W1, gf, #[.func (.yield (w.heap.size + 1)) #[] #[], cv], W1, hen, hres, fun _ _ => trivial, ?_, fun _ => h1, hc⟩
  simp [invoke, go_sem, eg]
theorem All_any (s : ByteArray) (w : World) : Calls Tryz.prog 12 #[.string s] w fun e w' => e = .returned (.func (.func 30) #[] #[.pointer (some ⟨w.heap.size, 0, none⟩)]) ∧ w' = w.alloc (.cells #[.string s] 9) := by
  go_enter Tryz.func12, Tryz.ntmps12
  go_wp2
  go_ret
  exact ⟨rfl, rfl⟩
theorem eq_yield (l : Nat) (W : World) : (binOp .eql 75 (.func (.yield l) #[] #[]) .nilFunc).run Tryz.prog W = .ok (.bool false) W := by kernel_rfl
/-- What lies from a block on stays. -/
def Stay (B : Nat) (W W' : World) : Prop := ∀ k, B ≤ k → k < W.heap.size → W'.heap[k]? = W.heap[k]?
set_option maxHeartbeats 2000000 in
set_option maxRecDepth 100000 in
theorem seq_in (n l B : Nat) (hn : 2 ≤ n) (s : ByteArray) (hs : s.size ≤ 140737488355328) (bs : Nat) (J Jx : List Tok → World → Prop)
    (hJ : ∀ xs W W', J xs W → Below W.heap.size W W' → J xs W')
    (hY : ∀ pre x W, J pre W → pre.length < 4096 → (∃ rest, (lex s.data.toList).1 = pre ++ x :: rest) → YieldAt Fence.wide (n - 1 - 1) Tryz.prog l #[.int .i64 (pre.length : Int), tokVal x] W fun e W' =>
      (e = .returned (.bool true) ∧ J (pre ++ [x]) W' ∧ Stay B W W') ∨ (e = .returned (.bool false) ∧ Jx (pre ++ [x]) W'))
    (W : World) (hc : W.cell? ⟨bs, 0, none⟩ = some (.string s)) (hB : B ≤ W.heap.size) (h0 : J [] W) :
    CallsIn Fence.wide n Tryz.prog 30 #[.func (.yield l) #[] #[], .pointer (some ⟨bs, 0, none⟩)] W fun e W' =>
      (∃ v, e = .returned v) ∧ ((∃ W2, J (lex s.data.toList).1 W2 ∧ EachEnds W.heap.size s (lex s.data.toList).2 W2 W') ∨ ∃ pre, Jx pre W') := by
  have h1 : 1 ≤ n := by omega
  have EA : Hid (CallsIn Fence.wide (n - 1) Tryz.prog 25 #[.pointer (some ⟨W.heap.size, 0, none⟩), .func (.yield l) #[] #[]] (W.alloc (.cells #[.string s, .pointer none] 66)) fun e W' =>
      (∃ v, e = .returned v) ∧ ((∃ W2, J (lex s.data.toList).1 W2 ∧ EachEnds W.heap.size s (lex s.data.toList).2 W2 W') ∨ ∃ pre, Jx pre W')) := by
    refine each_in2 (n - 1) l W.heap.size (by omega) s hs J Jx hJ ?_ _ (heap_last W _) (hJ _ _ _ h0 ((Below.refl _ _).alloc (Nat.le_refl _) _))
    intro pre x W1 hj hl hp hcut
    refine (hY pre x W1 hj hl hp).mono ?_
    rintro e W' (⟨h1, h2, h3⟩ | h)
    · exact .inl ⟨h1, h2, (h3 W.heap.size hB hcut.lt).trans hcut⟩
    · exact .inr h
  refine callsIn_of_wp Tryz.func30 rfl trivial ?_ rfl
  simp only [Tryz.ntmps30, List.size_toArray, List.length_cons, List.length_nil, Nat.reduceAdd, Nat.reduceSub, Array.replicate_succ, Array.replicate_zero, List.push_toArray, List.append_toArray, List.nil_append, List.cons_append]
  clear hY hJ
  have hq := eq_yield l
  have g25 : Fence.wide.fn 25 := trivial
  gi_wp2_with (gi_at_call 25; refine (unhide EA).mono ?_; clear EA; rintro e W' ⟨⟨v, rfl⟩, hE⟩)
  go_end0
  exact ⟨⟨_, rfl⟩, hE⟩
theorem cell_one {W : World} {b t : Nat} {v : Value} (h : W.heap[b]? = some (.cells #[v] t)) : W.cell? ⟨b, 0, none⟩ = some v := by simp [World.cell?, h]
theorem free_one {W : World} {b t : Nat} {v : Value} (h : W.heap[b]? = some (.cells #[v] t)) (o : Nat) : W.frozen? ⟨b, o, none⟩ = false := by simp [World.frozen?, h]
theorem set_one {W : World} {b t : Nat} {v : Value} (h : W.heap[b]? = some (.cells #[v] t)) (u : Value) : (W.setCell ⟨b, 0, none⟩ u).heap[b]? = some (.cells #[u] t) := by
  have := heap_setCell_same W b 0 #[v] t u h
  simpa using this
theorem set_other {W : World} {b k : Nat} {o : Option Obj} (h : W.heap[k]? = o) (hne : k ≠ b) (u : Value) : (W.setCell ⟨b, 0, none⟩ u).heap[k]? = o := (Below.heap_setCell _ _ _ _ hne).trans h
/-- Between two rounds of handed's loop: its boxes, the two blocks of the loop. -/
structure Mid2 (w : World) (v : Value) (most : Int) (r : Loop) (n : Int) (res : Bool) (W : World) : Prop where
  want : W.heap[w.heap.size]? = some (.cells #[v] 28)
  most : W.heap[w.heap.size + 1]? = some (.cells #[.int .i64 most] 3)
  res : W.heap[w.heap.size + 2]? = some (.cells #[.bool res] 4)
  num : W.heap[w.heap.size + 3]? = some (.cells #[.int .i64 n] 3)
  defers : W.heap[w.heap.size + 4]? = some (.deferred (some []))
  loop : W.heap[w.heap.size + 5]? = some (.loop r)
  old : Below w.heap.size w W
theorem Mid2.lt {w : World} {v : Value} {most : Int} {r : Loop} {n : Int} {res : Bool} {W : World} (h : Mid2 w v most r n res W) : w.heap.size + 5 < W.heap.size := (Array.getElem?_eq_some_iff.1 h.loop).1
theorem Mid2.stay {w : World} {v : Value} {most : Int} {r : Loop} {n : Int} {res : Bool} {W W' : World} (h : Mid2 w v most r n res W) (hk : ∀ k, w.heap.size ≤ k → k ≤ w.heap.size + 5 → W'.heap[k]? = W.heap[k]?) (ho : Below w.heap.size W W') : Mid2 w v most r n res W' :=
  ⟨(hk _ (by omega) (by omega)).trans h.want, (hk _ (by omega) (by omega)).trans h.most, (hk _ (by omega) (by omega)).trans h.res, (hk _ (by omega) (by omega)).trans h.num, (hk _ (by omega) (by omega)).trans h.defers, (hk _ (by omega) (by omega)).trans h.loop, h.old.trans ho⟩
theorem Mid2.grown {w : World} {v : Value} {most : Int} {r : Loop} {n : Int} {res : Bool} {W W' : World} (h : Mid2 w v most r n res W) (hb : Below W.heap.size W W') : Mid2 w v most r n res W' :=
  h.stay (fun k _ h2 => hb.block k (by have := h.lt; omega)) (hb.mono (by have := h.lt; omega))
theorem Mid2.turn {w : World} {v : Value} {most : Int} {r : Loop} {n : Int} {res : Bool} {W : World} (h : Mid2 w v most r n res W) (r' : Loop) : Mid2 w v most r' n res (W.putObj (w.heap.size + 5) (.loop r')) := by
  have k3 := h.lt
  exact ⟨(World.putObj_heap_other (by omega)).trans h.want, (World.putObj_heap_other (by omega)).trans h.most, (World.putObj_heap_other (by omega)).trans h.res, (World.putObj_heap_other (by omega)).trans h.num, (World.putObj_heap_other (by omega)).trans h.defers, World.putObj_heap_same k3, h.old.grown (grownBy_putObj' _ _ _) h.old.size (fun k e => by cases e; omega)⟩
theorem Mid2.count {w : World} {v : Value} {most : Int} {r : Loop} {n : Int} {res : Bool} {W : World} (h : Mid2 w v most r n res W) (m : Int) : Mid2 w v most r m res (W.setCell ⟨w.heap.size + 3, 0, none⟩ (.int .i64 m)) :=
  ⟨set_other h.want (by omega) _, set_other h.most (by omega) _, set_other h.res (by omega) _, set_one h.num _, set_other h.defers (by omega) _, set_other h.loop (by omega) _, h.old.setCell (p := ⟨w.heap.size + 3, 0, none⟩) (by show w.heap.size ≤ w.heap.size + 3; omega) _⟩
theorem Mid2.told {w : World} {v : Value} {most : Int} {r : Loop} {n : Int} {res : Bool} {W : World} (h : Mid2 w v most r n res W) (b : Bool) : Mid2 w v most r n b (W.setCell ⟨w.heap.size + 2, 0, none⟩ (.bool b)) :=
  ⟨set_other h.want (by omega) _, set_other h.most (by omega) _, set_one h.res _, set_other h.num (by omega) _, set_other h.defers (by omega) _, set_other h.loop (by omega) _, h.old.setCell (p := ⟨w.heap.size + 2, 0, none⟩) (by show w.heap.size ≤ w.heap.size + 2; omega) _⟩
theorem heap_pushed0 (w : World) (o1 o2 o3 o4 o5 : Obj) {o6 : Obj} : ((((((w.alloc o1).alloc o2).alloc o3).alloc o4).alloc o5).alloc o6).heap[w.heap.size + 5]? = some o6 := by
  have := heap_last (((((w.alloc o1).alloc o2).alloc o3).alloc o4).alloc o5) o6; simpa using this
theorem heap_pushed1 (w : World) (o1 o2 o3 o4 : Obj) {o5 : Obj} (o6 : Obj) : ((((((w.alloc o1).alloc o2).alloc o3).alloc o4).alloc o5).alloc o6).heap[w.heap.size + 4]? = some o5 := by
  refine (Below.heap_alloc _ _ _ (by simp only [World.size_alloc]; omega)).trans ?_
  have := heap_last ((((w.alloc o1).alloc o2).alloc o3).alloc o4) o5; simpa using this
theorem heap_pushed2 (w : World) (o1 o2 o3 : Obj) {o4 : Obj} (o5 o6 : Obj) : ((((((w.alloc o1).alloc o2).alloc o3).alloc o4).alloc o5).alloc o6).heap[w.heap.size + 3]? = some o4 := by
  refine (Below.heap_alloc _ _ _ (by simp only [World.size_alloc]; omega)).trans ((Below.heap_alloc _ _ _ (by simp only [World.size_alloc]; omega)).trans ?_)
  have := heap_last (((w.alloc o1).alloc o2).alloc o3) o4; simpa using this
theorem heap_pushed3 (w : World) (o1 o2 : Obj) {o3 : Obj} (o4 o5 o6 : Obj) : ((((((w.alloc o1).alloc o2).alloc o3).alloc o4).alloc o5).alloc o6).heap[w.heap.size + 2]? = some o3 := by
  refine (Below.heap_alloc _ _ _ (by simp only [World.size_alloc]; omega)).trans ((Below.heap_alloc _ _ _ (by simp only [World.size_alloc]; omega)).trans ((Below.heap_alloc _ _ _ (by simp only [World.size_alloc]; omega)).trans ?_))
  have := heap_last ((w.alloc o1).alloc o2) o3; simpa using this
theorem heap_pushed4 (w : World) (o1 : Obj) {o2 : Obj} (o3 o4 o5 o6 : Obj) : ((((((w.alloc o1).alloc o2).alloc o3).alloc o4).alloc o5).alloc o6).heap[w.heap.size + 1]? = some o2 := by
  refine (Below.heap_alloc _ _ _ (by simp only [World.size_alloc]; omega)).trans ((Below.heap_alloc _ _ _ (by simp only [World.size_alloc]; omega)).trans ((Below.heap_alloc _ _ _ (by simp only [World.size_alloc]; omega)).trans ((Below.heap_alloc _ _ _ (by simp only [World.size_alloc]; omega)).trans ?_)))
  have := heap_last (w.alloc o1) o2; simpa using this
theorem heap_pushed5 (w : World) {o1 : Obj} (o2 o3 o4 o5 o6 : Obj) : ((((((w.alloc o1).alloc o2).alloc o3).alloc o4).alloc o5).alloc o6).heap[w.heap.size]? = some o1 := by
  refine (Below.heap_alloc _ _ _ (by simp only [World.size_alloc]; omega)).trans ((Below.heap_alloc _ _ _ (by simp only [World.size_alloc]; omega)).trans ((Below.heap_alloc _ _ _ (by simp only [World.size_alloc]; omega)).trans ((Below.heap_alloc _ _ _ (by simp only [World.size_alloc]; omega)).trans ((Below.heap_alloc _ _ _ (by simp only [World.size_alloc]; omega)).trans ?_))))
  exact heap_last w o1
theorem eq_seq (c : Value) (W : World) : (binOp .eql 43 (.func (.func 30) #[] #[c]) .nilFunc).run Tryz.prog W = .ok (.bool false) W := by kernel_rfl
set_option maxHeartbeats 4000000 in
set_option maxRecDepth 100000 in
theorem handed_in (n : Nat) (hn : 6 ≤ n) (s : ByteArray) (hs : s.size ≤ 140737488355328) (bs : Nat) (v : Value) (most : Int) (w : World) (hc : w.cell? ⟨bs, 0, none⟩ = some (.string s)) (hv : TokRow w v (lex s.data.toList).1) :
    CallsIn Fence.wide n Tryz.prog 13 #[.func (.func 30) #[] #[.pointer (some ⟨bs, 0, none⟩)], v, .int .i64 most] w fun e W' => e = .returned (.bool true) ∧ Below w.heap.size w W' := by
  have h1 : 1 ≤ n := by omega
  have HV := hide hv
  obtain ⟨p, c, rfl, hp⟩ := hv
  clear hp
  have hq := eq_seq (.pointer (some ⟨bs, 0, none⟩))
  refine callsIn_of_wp_marks Tryz.func13 rfl trivial ?_ rfl
  simp only [Tryz.ntmps13, List.size_toArray, List.length_cons, List.length_nil, Nat.reduceAdd, Nat.reduceSub, Array.replicate_succ, Array.replicate_zero, List.push_toArray, List.append_toArray, List.nil_append, List.cons_append]
  gi_wp2
  refine range_closure h1 (gf := 30) (cv := .pointer (some ⟨bs, 0, none⟩)) rfl (enters_of Tryz.func30 (by kernel_rfl) rfl) ?_
  intro fn rec hrec
  simp only [World.size_alloc] at hrec ⊢
  obtain ⟨V, hV⟩ : ∃ V : Value, V = .slice p (lex s.data.toList).1.length c := ⟨_, rfl⟩
  have hM0 : Mid2 w V most rec 0 false ((((((w.alloc (.cells #[V] 28)).alloc (.cells #[.int .i64 most] 3)).alloc (.cells #[.bool false] 4)).alloc (.cells #[.int .i64 0] 3)).alloc (.deferred (some []))).alloc (.loop rec)) := by
    refine ⟨?_, ?_, ?_, ?_, ?_, ?_, ?_⟩
    · exact heap_pushed5 _ _ _ _ _ _
    · exact heap_pushed4 _ _ _ _ _ _
    · exact heap_pushed3 _ _ _ _ _ _
    · exact heap_pushed2 _ _ _ _ _ _
    · exact heap_pushed1 _ _ _ _ _ _
    · exact heap_pushed0 _ _ _ _ _ _
    · exact (((((((Below.refl w.heap.size w).alloc (Nat.le_refl _) _).alloc (by simp) _).alloc (by simp; omega) _).alloc (by simp; omega) _).alloc (by simp; omega) _).alloc (by simp; omega) _)
  rw [← hV]
  have hcw : ((((((w.alloc (.cells #[V] 28)).alloc (.cells #[.int .i64 most] 3)).alloc (.cells #[.bool false] 4)).alloc (.cells #[.int .i64 0] 3)).alloc (.deferred (some []))).alloc (.loop rec)).cell? ⟨bs, 0, none⟩ = some (.string s) := (hM0.old.cell (p := ⟨bs, 0, none⟩) (cell_lt hc)).trans hc
  have hsz0 := hM0.lt
  refine (seq_in (n - 1) (w.heap.size + 1 + 1 + 1 + 1 + 1) (w.heap.size + 6) (by omega) s hs bs (fun pre W => Mid2 w V most rec (pre.length : Int) false W ∧ ∀ j : Nat, 1 ≤ j → j ≤ pre.length → (j : Int) ≠ most) (fun _ W => ∃ m, Mid2 w V most { rec with state := .done, pending := some .ret } m true W) (fun _ _ _ h hb => ⟨h.1.grown hb, h.2⟩) ?_ _ hcw (by omega) ⟨hM0, fun j h1 h2 => by simp at h2; omega⟩).mono ?_
  · clear hM0 hcw hsz0
    rintro pre x W ⟨hM, hne⟩ hlen ⟨rest, hpx⟩
    have HPX := hide hpx
    have hlt2 : pre.length < (lex s.data.toList).1.length := by rw [hpx]; simp
    clear hpx
    have hy := run_yield (P := Tryz.prog) (args := #[.int .i64 (pre.length : Int), tokVal x]) hM.loop (by rw [hrec]; rfl)
    rw [hrec] at hy
    refine ⟨_, _, _, _, hy, roundIn_of_wpIn trivial ?_⟩
    clear hy
    dsimp only [tokVal]
    gi_wp2
    have hba : Below W.heap.size W (W.alloc (.cells #[.int .i64 (x.1 : Int), .int .i64 x.2.1, .string ⟨x.2.2.1.toArray⟩, .int .i64 x.2.2.2] 40)) := (Below.refl _ _).alloc (Nat.le_refl _) _
    have hMa := hM.grown hba
    have hla := hM.lt
    refine ⟨_, run_beginRound hMa.loop (by rw [hrec]), ?_⟩
    have hMb := hMa.turn { rec with state := .busy }
    have htb := (World.putObj_heap_other (o := .loop { rec with state := .busy }) (show W.heap.size ≠ w.heap.size + 5 by omega)).trans (heap_last W (.cells #[.int .i64 (x.1 : Int), .int .i64 x.2.1, .string ⟨x.2.2.1.toArray⟩, .int .i64 x.2.2.2] 40))
    have hsb : Stay (w.heap.size + 6) W ((W.alloc (.cells #[.int .i64 (x.1 : Int), .int .i64 x.2.1, .string ⟨x.2.2.1.toArray⟩, .int .i64 x.2.2.2] 40)).putObj (w.heap.size + 5) (.loop { rec with state := .busy })) := fun k h1 h2 => (World.putObj_heap_other (by omega)).trans (hba.block k h2)
    clear hMa hba
    revert hMb htb hsb
    generalize (W.alloc (.cells #[.int .i64 (x.1 : Int), .int .i64 x.2.1, .string ⟨x.2.2.1.toArray⟩, .int .i64 x.2.2.2] 40)).putObj (w.heap.size + 5) (.loop { rec with state := .busy }) = Wb
    intro hMb htb hsb
    have t0 : Wb.cell? ⟨W.heap.size, 0, none⟩ = some (.int .i64 (x.1 : Int)) := by rw [Lib.cell_of_heap htb]; rfl
    have t1 : Wb.cell? ⟨W.heap.size, 1, none⟩ = some (.int .i64 x.2.1) := by rw [Lib.cell_of_heap htb]; rfl
    have t2 : Wb.cell? ⟨W.heap.size, 2, none⟩ = some (.string ⟨x.2.2.1.toArray⟩) := by rw [Lib.cell_of_heap htb]; rfl
    have t3 : Wb.cell? ⟨W.heap.size, 3, none⟩ = some (.int .i64 x.2.2.2) := by rw [Lib.cell_of_heap htb]; rfl
    have c0 := cell_one hMb.want
    have c1 := cell_one hMb.most
    have c3 := cell_one hMb.num
    have f2 := free_one hMb.res
    have f3 := free_one hMb.num
    rw [hV] at c0
    have hd0 : decide ((lex s.data.toList).1.length ≤ pre.length) = false := by simp; omega
    have hlt3 : (pre.length : Int) < ((lex s.data.toList).1.length : Int) := by omega
    obtain ⟨p', c', hpe, hp'⟩ := (unhide HV).below hMb.old
    obtain ⟨g, o, hpg, a0, a1, a2, a3⟩ := hp' pre.length x (by rw [unhide HPX]; simp)
    simp only [Value.slice.injEq] at hpe
    obtain ⟨rfl, _, rfl⟩ := hpe
    subst hpg
    clear hp' HPX htb
    gi_wp2
    have q1 : ((pre.length : Int) != (pre.length : Int)) = false := by simp
    refine quiet_round (F := Fence.wide) rfl (by kernel_rfl) (by kernel_rfl) (by kernel_rfl) ?_
    repeat (gi_big_quiet_step (fail))
    refine wpQuietIn_nil ?_
    rintro _ ⟨nq, rfl⟩
    have hMd := hMb.grown (below_drewN (Below.refl _ _) nq)
    have hsd : Stay (w.heap.size + 6) W (Wb.drewN nq) := fun k h1 h2 => (show (Wb.drewN nq).heap[k]? = Wb.heap[k]? from (below_drewN (Below.refl Wb.heap.size Wb) nq).block k (by
      rcases Nat.lt_or_ge k Wb.heap.size with h | h
      · exact h
      · have := hsb k h1 h2
        rw [Array.getElem?_eq_none h, Array.getElem?_eq_getElem h2] at this
        cases this)).trans (hsb k h1 h2)
    clear t0 t1 t2 t3 c0 c1 c3 f2 f3 a0 a1 a2 a3 hMb hsb hd0 q1
    revert hMd hsd
    generalize Wb.drewN nq = Wd
    intro hMd hsd
    have c1 := cell_one hMd.most
    have c2 := cell_one hMd.res
    have c3 := cell_one hMd.num
    have f2 := free_one hMd.res
    have f3 := free_one hMd.num
    have hM3 := hMd.count ((pre.length : Int) + 1)
    have hs3 : Stay (w.heap.size + 6) W (Wd.setCell ⟨w.heap.size + 3, 0, none⟩ (.int .i64 ((pre.length : Int) + 1))) := fun k h1 h2 => (Below.heap_setCell _ _ _ _ (by show k ≠ w.heap.size + 3; omega)).trans (hsd k h1 h2)
    have HM3 := hide hM3
    have HS3 := hide hs3
    have HRC := hide hrec
    clear hM3 hs3 hsd hMd
    by_cases hmost : (pre.length : Int) + 1 = most
    · have q2 : ((pre.length : Int) + 1 == most) = true := by simpa using hmost
      have HM4 := hide ((unhide HM3).told true)
      clear hmost hrec
      gi_wp2
      have hend := run_endRound (P := Tryz.prog) (some .ret) (unhide HM4).loop
      exact ⟨_, _, hend, .inr ⟨rfl, _, (unhide HM4).turn _⟩⟩
    · have q2 : ((pre.length : Int) + 1 == most) = false := by simpa using hmost
      clear hrec
      gi_wp2
      have hend := run_endRound (P := Tryz.prog) none (unhide HM3).loop
      have hrr : ({ state := if (none : Option Code).isNone = true then LoopState.ready else LoopState.done, pending := none, fn := rec.fn, tmps := rec.tmps, params := rec.params, assign := rec.assign, body := rec.body, defers := rec.defers } : Loop) = rec := by rw [unhide HRC]; rfl
      have hend' : (Instr.endRound (w.heap.size + 1 + 1 + 1 + 1 + 1) none).run Tryz.prog (Wd.setCell ⟨w.heap.size + 3, 0, none⟩ (.int .i64 ((pre.length : Int) + 1))) = .ok (.bool true) ((Wd.setCell ⟨w.heap.size + 3, 0, none⟩ (.int .i64 ((pre.length : Int) + 1))).putObj (w.heap.size + 5) (.loop rec)) := by
        rw [← hrr]; exact hend
      have hcnt : (((pre ++ [x]).length : Nat) : Int) = (pre.length : Int) + 1 := by simp
      refine ⟨_, _, hend', .inl ⟨rfl, ⟨by rw [hcnt]; exact (unhide HM3).turn rec, fun j h1 h2 => ?_⟩, fun k h1 h2 => (World.putObj_heap_other (by omega)).trans (unhide HS3 k h1 h2)⟩⟩
      rcases Nat.lt_or_ge pre.length j with h | h
      · have : j = pre.length + 1 := by simp at h2; omega
        subst this
        intro e
        exact hmost (by omega)
      · exact hne j h1 h
  · rintro e W' ⟨⟨u, rfl⟩, hE⟩
    have HRC := hide hrec
    have hend : (∃ r, r.state ≠ .busy ∧ r.pending = none ∧ Mid2 w V most r ((lex s.data.toList).1.length : Int) false W') ∨ ∃ (r : Loop) (m : Int), r.state ≠ .busy ∧ r.pending = some .ret ∧ Mid2 w V most r m true W' := by
      rcases hE with ⟨W2, ⟨hM, hne⟩, hEnd⟩ | ⟨pre, m, hM⟩
      · refine .inl ⟨rec, by rw [hrec]; simp, by rw [hrec], ?_⟩
        obtain ⟨hcut, hEnd⟩ := hEnd
        simp only [World.size_alloc] at hEnd hcut
        rcases hr : (lex s.data.toList).2 with _ | ⟨pp, yy⟩
        · rw [hr] at hEnd
          rw [hEnd]; exact hM
        · rw [hr] at hEnd
          obtain ⟨b, _, _, _, hgr⟩ := hEnd
          have := hM.lt
          exact hM.stay (fun k h1 h2 => hgr.block k (by omega) (by simp; omega)) ((Below.refl _ _).grown hgr (by omega) (fun q e => by cases e; omega))
      · exact .inr ⟨_, m, by simp, rfl, hM⟩
    clear hE hM0 hcw hsz0 hrec HRC
    rcases hend with ⟨r, hr1, hr2, hM⟩ | ⟨r, m, hr1, hr2, hM⟩
    · refine ⟨_, _, run_endLoop (P := Tryz.prog) hM.loop hr1, ?_⟩
      rw [hr2]
      have hM4 := hM.turn { r with state := .exhausted }
      rw [hr2] at hM4
      dsimp only at hM4 ⊢
      revert hM4
      generalize W'.putObj (w.heap.size + 1 + 1 + 1 + 1 + 1) _ = W4
      intro hM4
      have c0 := cell_one hM4.want
      have c2 := cell_one hM4.res
      have c3 := cell_one hM4.num
      have f2 := free_one hM4.res
      rw [hV] at c0
      have hK := hM4.defers
      have hM5 := hM4.told true
      have hK5 := hM5.defers
      have HM5 := hide hM5
      have hmm := hM5.res
      gi_wp2
      refine ⟨by simp, .inl ⟨_, _, rfl, run_takeDeferred hK5, ?_⟩⟩
      have c5 : ((W4.setCell ⟨w.heap.size + 2, 0, none⟩ (.bool true)).putObj (w.heap.size + 4) (.deferred none)).cell? ⟨w.heap.size + 2, 0, none⟩ = some (.bool true) := cell_one ((World.putObj_heap_other (by omega)).trans hmm)
      have ho5 := (unhide HM5).old.grown (grownBy_putObj' _ (w.heap.size + 4) (.deferred none)) (unhide HM5).old.size (fun k e => by cases e; omega)
      exact ⟨.bool true, by simp [results, Tryz.results13, go_sem, c5], rfl, ho5⟩
    · refine ⟨_, _, run_endLoop (P := Tryz.prog) hM.loop hr1, ?_⟩
      rw [hr2]
      have hM4 := hM.turn { r with state := .exhausted }
      rw [hr2] at hM4
      dsimp only at hM4 ⊢
      revert hM4
      generalize W'.putObj (w.heap.size + 1 + 1 + 1 + 1 + 1) _ = W4
      intro hM4
      have c2 := cell_one hM4.res
      have hK := hM4.defers
      gi_wp2
      refine ⟨by simp, .inl ⟨_, _, rfl, run_takeDeferred hK, ?_⟩⟩
      have c5 : (W4.putObj (w.heap.size + 4) (.deferred none)).cell? ⟨w.heap.size + 2, 0, none⟩ = some (.bool true) := cell_one ((World.putObj_heap_other (by omega)).trans hM4.res)
      have ho5 := hM4.old.grown (grownBy_putObj' _ (w.heap.size + 4) (.deferred none)) hM4.old.size (fun k e => by cases e; omega)
      exact ⟨.bool true, by simp [results, Tryz.results13, go_sem, c5], rfl, ho5⟩
theorem handed_any (s : ByteArray) (hs : s.size ≤ 140737488355328) (bs : Nat) (v : Value) (most : Int) (w : World) (hc : w.cell? ⟨bs, 0, none⟩ = some (.string s)) (hv : TokRow w v (lex s.data.toList).1) :
    Calls Tryz.prog 13 #[.func (.func 30) #[] #[.pointer (some ⟨bs, 0, none⟩)], v, .int .i64 most] w fun e W' => e = .returned (.bool true) ∧ Below w.heap.size w W' :=
  callsIn_wide.1 (handed_in 6 (Nat.le_refl _) s hs bs v most w hc hv)
end Go.Proofs.YthplgkkailieoaaGreatDoor
