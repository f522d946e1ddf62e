import Derived.Test.YtnkcibcodabkiaaGreatDoorAmTop
set_option linter.unusedSimpArgs false
namespace Go.Proofs.YtnkcibcodabkiaaGreatDoor.Am
open Go Go.RowKit
/- one place of a code, named by its path through what stands one behind the other, is worked out by other means (A). -/
def codeAt : List Bool → Code → Option Code
  | [], c => some c
  | false :: p, .seq a _ => codeAt p a
  | true :: p, .seq _ b => codeAt p b
  | _, _ => none
def evP (E : Env) (call : CallK) (draw : DrawK) (kr : KT) (A : KT → KT) : List Bool → Code → (Nat → KT) → KT → KT
  | [], _, _, k, t, s => A k t s
  | false :: p, .seq a b, ke, k, t, s => evP E call draw kr A p a ke (evCodeK E call draw kr b ke k) t s
  | true :: p, .seq a b, ke, k, t, s => evCodeK E call draw kr a ke (evP E call draw kr A p b ke k) t s
  | _, _, _, _, _, _ => false
section
variable {P : Program} {E : Env} {call : CallK} {draw : DrawK}
/-- what A answers is what the code in its place comes to. -/
def AccOk (P : Program) (kr : KT) (A : KT → KT) (blk : Code) : Prop := ∀ (ke : Nat → KT) (k : KT) (t : List Value) (s : St), A k t s = true → ∀ ρ w a, R ρ s w → TR ρ t a → blk.wp P (Po ρ s w k ke kr) a w
theorem seq_ok {x y : Code} {k1 k : KT} {ke : Nat → KT} {kr : KT} {ρ : Rho} {s : St} {w : World} {a : Act} (hx : x.wp P (Po ρ s w k1 ke kr) a w) (hy : ∀ t' s', k1 t' s' = true → ∀ ρ w a, R ρ s' w → TR ρ t' a → y.wp P (Po ρ s' w k ke kr) a w) : (Code.seq x y).wp P (Po ρ s w k ke kr) a w := by
  refine wp_seq (wp_mono hx ?_)
  rintro e a1 w1 ⟨ρ', s', t', q1, q2, q3, q4⟩
  cases e with
  | normal => exact wp_mono (hy t' s' q4 ρ' w1 a1 q1 q2) fun e a w hp => hp.from q3
  | exit id => exact ⟨ρ', s', t', q1, q2, q3, q4⟩
  | ret => exact ⟨ρ', s', t', q1, q2, q3, q4⟩
  | goto l => exact q4.elim
  | panic ch => exact q4.elim
  | outgrown => exact q4.elim
theorem evP_ok (g : Good P E) (hC : CallOk P call) (hD : DrawOk P draw) {kr : KT} {A : KT → KT} {blk : Code} (hA : AccOk P kr A blk) : ∀ (p : List Bool) (c : Code), codeAt p c = some blk → ∀ (ke : Nat → KT) (k : KT) (t : List Value) (s : St), evP E call draw kr A p c ke k t s = true → ∀ ρ w a, R ρ s w → TR ρ t a → c.wp P (Po ρ s w k ke kr) a w
  | [], c, hc, ke, k, t, s, h, ρ, w, a, hR, hT => by
    obtain rfl := Option.some.inj hc
    exact hA ke k t s h ρ w a hR hT
  | false :: p, c, hc, ke, k, t, s, h, ρ, w, a, hR, hT => by
    cases c with
    | seq x y => exact seq_ok (evP_ok g hC hD hA p x hc ke _ t s h ρ w a hR hT) fun t' s' h' ρ w a hR hT => code_ok g hC hD y ke k t' s' h' ρ w a hR hT
    | _ => cases hc
  | true :: p, c, hc, ke, k, t, s, h, ρ, w, a, hR, hT => by
    cases c with
    | seq x y => exact seq_ok (code_ok g hC hD x ke _ t s h ρ w a hR hT) fun t' s' h' ρ w a hR hT => evP_ok g hC hD hA p y hc ke k t' s' h' ρ w a hR hT
    | _ => cases hc
end
/-- a closed run with one place put in. -/
def topP (E : Env) (n : Nat) (f : FuncId) (A : KT → KT) (p : List Bool) : Bool := match E.fn f with
  | some fn => match fn.body with
    | some c => forceL (List.replicate fn.ntmps undef) fun t => evP E (evJ E (drawJ E) n) (drawK E (evJ E (drawJ E) n)) (fun t s => resK isTrue s (resL E t s fn.results.toList)) A p c (fun _ _ _ => false) (fun t s => resK isTrue s (resL E t s fn.results.toList)) t nilSt
    | none => false
  | none => false
theorem runs_topP {P : Program} {ext : FuncId → Option (List Value → St → (Value → St → Bool) → Bool)} {xt : FuncId → Option (List Value → Option Value)} {hs : FuncId → Nat → List Value → Bool} (hm : P.follows .mixedOrders = true) (hxt : XtOk P xt) (hx : ExtOk P ext) {n : Nat} {f : FuncId} {A : KT → KT} {p : List Bool} {blk : Code} (hb : ((P.funcs[f]?).bind (·.body)).bind (codeAt p) = some blk) (hA : ∀ kr, AccOk P kr A blk) (h : topP (envOf P ext xt hs) n f A p = true) (w : World) (hG : GlobOk w) : Calls P f #[] w fun e w' => e = .returned (.bool true) ∧ Below w.heap.size w w' := by
  have g := good_of P ext (hs := hs) hxt
  have gf := goodF_of (xt := xt) (hs := hs) hx
  unfold topP at h
  cases hf : (envOf P ext xt hs).fn f with
  | none => rw [hf] at h; cases h
  | some fn =>
    rw [hf] at h
    have hfn := (gf.fn f fn hf).1
    rw [hfn, Option.bind_some] at hb
    cases hbody : fn.body with
    | none => rw [hbody] at hb; cases hb
    | some c =>
      rw [hbody, Option.bind_some] at hb
      simp only [hbody] at h
      rw [forceL_eq] at h
      have ih := evJ_ok g gf hm n
      refine calls_of_wp (P := P) (args := #[]) hfn hbody (wp_mono (evP_ok g ih (draw_ok g hm ih) (hA _) p c hb _ _ _ nilSt h (fun _ => none) w _ (R.nil hG) ⟨?_, rfl⟩) ?_)
      · have e : ((#[] : Array Value) ++ Array.replicate (fn.ntmps - (#[] : Array Value).size) undef).toList = List.replicate fn.ntmps undef := by simp
        rw [e]
        refine ⟨rfl, fun i v hv => ⟨v, hv, ?_⟩⟩
        have : v = undef := (List.mem_replicate.1 (List.mem_of_getElem? hv)).2
        rw [this]; exact undef_vr _
      · have fin : ∀ {ρ' : Rho} {s' : St} {t' : List Value} {a' : Act} {w' : World}, R ρ' s' w' → TR ρ' t' a' → Ext (fun _ => none) nilSt w ρ' s' w' → resK isTrue s' (resL (envOf P ext xt hs) t' s' fn.results.toList) = true → a'.defers = [] ∧ ∃ u, (results fn a'.tmps).run P w' = .ok u w' ∧ (Ending.returned u = .returned (.bool true) ∧ Below w.heap.size w w') := fun q1 q2 q3 q4 => by
          obtain ⟨v, u, r1, r2, r3⟩ := resK_ok g q1 q2 q4
          have : v = .bool true := by
            unfold isTrue at r3
            split at r3
            · rfl
            · cases r3
          subst this
          obtain rfl : u = .bool true := by rw [VR] at r2; exact r2
          refine ⟨q2.defers, _, r1, rfl, q3.os, q3.tape, q3.output, q3.size, fun k hk => q3.frame k hk ?_⟩
          rintro ⟨n, x, ⟨r, h1⟩ | ⟨r, h1⟩, _⟩
          · rw [nil_get] at h1; cases h1
          · rw [nil_gm] at h1; cases h1
        rintro e a' w' ⟨ρ', s', t', q1, q2, q3, q4⟩
        cases e with
        | normal => exact fin q1 q2 q3 q4
        | ret => exact fin q1 q2 q3 q4
        | exit i => cases q4
        | goto l => exact q4.elim
        | panic ch => exact q4.elim
        | outgrown => exact q4.elim
end Go.Proofs.YtnkcibcodabkiaaGreatDoor.Am
set_option linter.unusedSimpArgs false
namespace Go.Proofs.YtnkcibcodabkiaaGreatDoor.Am
open Go Go.RowKit
/- a loop that writes one value into every place of a list, put in at once. -/
theorem u16_up {α : Type} {i : Nat} (h : i < 16) (t : N16 α) : ∃ up : α → N16 α, (∀ k : α → (α → (N16 α → Bool) → Bool) → Bool, (u16 i).run t k = k ((g16 i).run t) (fun c p => p (up c))) ∧ ∀ c, (up c).toL = t.toL.set i c := by
  cases t
  rcases below16 h with rfl | rfl | rfl | rfl | rfl | rfl | rfl | rfl | rfl | rfl | rfl | rfl | rfl | rfl | rfl | rfl <;> exact ⟨_, fun _ => rfl, fun _ => rfl⟩
theorem Tr.setK_put {α : Type} (d : Nat) (t : Tr α d) {n : Nat} (hn : n < 65536) (v : Option α) : ∃ t', (∀ k, Tr.setK d t n v k = k t') ∧ ∀ m, Tr.get d t' m = if m = n then v else Tr.get d t m := by
  have hb0 : Nat.blt n 65536 = true := (blt16 _ _).2 hn
  have ha : Nat.div n 4096 < 16 := by show n / 4096 < 16; omega
  have hb : Nat.mod (Nat.div n 256) 16 < 16 := by show n / 256 % 16 < 16; omega
  have hc : Nat.mod (Nat.div n 16) 16 < 16 := by show n / 16 % 16 < 16; omega
  have hd : Nat.mod n 16 < 16 := by show n % 16 < 16; omega
  obtain ⟨u1, e1, f1⟩ := u16_up ha (α := N16 (N16 (N16 (Option α)))) t
  obtain ⟨X, hX⟩ : ∃ X, X = (g16 (Nat.div n 4096)).run (α := N16 (N16 (N16 (Option α)))) t := ⟨_, rfl⟩
  obtain ⟨u2, e2, f2⟩ := u16_up hb X
  obtain ⟨Y, hY⟩ : ∃ Y, Y = (g16 (Nat.mod (Nat.div n 256) 16)).run X := ⟨_, rfl⟩
  obtain ⟨u3, e3, f3⟩ := u16_up hc Y
  obtain ⟨Z, hZ⟩ : ∃ Z, Z = (g16 (Nat.mod (Nat.div n 16) 16)).run Y := ⟨_, rfl⟩
  obtain ⟨u4, e4, f4⟩ := u16_up hd Z
  refine ⟨u1 (u2 (u3 (u4 v))), fun k => ?_, fun m => ?_⟩
  · unfold Tr.setK hu
    rw [hb0]
    simp only [cond_true, natK_eq, hu4]
    rw [e1, ← hX, e2, ← hY, e3, ← hZ, e4]
  · unfold Tr.get hg
    cases hml : Nat.blt m 65536 with
    | false =>
      rw [if_neg (fun e => by rw [e, hb0] at hml; cases hml)]
      rfl
    | true =>
      simp only [cond_true, natK_eq, hg4]
      have hmlt : m < 65536 := (blt16 _ _).1 hml
      have ha' : Nat.div m 4096 < 16 := by show m / 4096 < 16; omega
      have hb' : Nat.mod (Nat.div m 256) 16 < 16 := by show m / 256 % 16 < 16; omega
      have hc' : Nat.mod (Nat.div m 16) 16 < 16 := by show m / 16 % 16 < 16; omega
      have hd' : Nat.mod m 16 < 16 := by show m % 16 < 16; omega
      rw [g16_up ha' (f1 _)]
      by_cases q1 : Nat.div m 4096 = Nat.div n 4096
      · rw [if_pos q1, g16_up hb' (f2 _)]
        by_cases q2 : Nat.mod (Nat.div m 256) 16 = Nat.mod (Nat.div n 256) 16
        · rw [if_pos q2, g16_up hc' (f3 _)]
          by_cases q3 : Nat.mod (Nat.div m 16) 16 = Nat.mod (Nat.div n 16) 16
          · rw [if_pos q3, g16_up hd' (f4 _)]
            by_cases q4 : Nat.mod m 16 = Nat.mod n 16
            · rw [if_pos q4, if_pos (by
                have q1' : m / 4096 = n / 4096 := q1
                have q2' : m / 256 % 16 = n / 256 % 16 := q2
                have q3' : m / 16 % 16 = n / 16 % 16 := q3
                have q4' : m % 16 = n % 16 := q4
                omega)]
            · rw [if_neg q4, if_neg (fun e => q4 (by rw [e])), q1, ← hX, q2, ← hY, q3, ← hZ]
          · rw [if_neg q3, if_neg (fun e => q3 (by rw [e])), q1, ← hX, q2, ← hY]
        · rw [if_neg q2, if_neg (fun e => q2 (by rw [e])), q1, ← hX]
      · rw [if_neg q1, if_neg (fun e => q1 (by rw [e]))]
theorem atD_set (t : List Value) (a b : Nat) (v : Value) (h : a < t.length) : atD (t.set a v) b = if a = b then v else atD t b := by
  rw [atD_eq, atD_eq, List.getElem?_set]
  by_cases e : a = b
  · rw [if_pos e, if_pos e, if_pos (e ▸ h)]; rfl
  · rw [if_neg e, if_neg e]
def sg (o : Oper) : Option Tmp × Op × Option (Nat × Bool) := (o.dst, o.op, o.guard)
def evU (E : Env) (call : CallK) (k : KT) : List (Option Tmp × Op) → KT
  | [], t, s => k t s
  | p :: r, t, s => oneOpK E call t s (fun v s => putK t p.1 v fun t => evU E call k r t s) p.2
theorem ops_u {E : Env} {call : CallK} {all : List Oper} {k : KT} : ∀ (l : List Oper) (l' : List (Option Tmp × Op)), l.map sg = l'.map (fun p => (p.1, p.2, none)) → ∀ t s, evOpsK E call all k l t s = evU E call k l' t s
  | [], [], _, _, _ => rfl
  | [], _ :: _, h, _, _ => by cases h
  | _ :: _, [], h, _, _ => by cases h
  | o :: l, p :: l', h, t, s => by
    simp only [List.map_cons, List.cons.injEq, sg, Prod.mk.injEq] at h
    obtain ⟨⟨h1, h2, h3⟩, h4⟩ := h
    rw [evOpsK, h3, evU, h1, h2]
    simp only
    congr 1
    funext v s
    congr 1
    funext t
    exact ops_u l l' h4 t s
/-- the slots of such a loop. -/
structure Sl where
  x : Nat
  i : Nat
  c0 : Nat
  c1 : Nat
  c2 : Nat
  c3 : Nat
  b0 : Nat
  b1 : Nat
  b2 : Nat
  a0 : Nat
  a1 : Nat
def Sl.tmps (S : Sl) : List Nat := [S.c0, S.c1, S.c2, S.c3, S.b0, S.b1, S.b2, S.a0, S.a1]
/-- how far it is. -/
structure FI (S : Sl) (v : Value) (t0 : List Value) (s0 : St) (m N : Nat) (r : Row) (j : Nat) (t : List Value) (s : St) : Prop where
  len : t.length = t0.length
  same : ∀ q, q ∉ S.tmps → q ≠ S.i → atD t q = atD t0 q
  ix : atD t S.i = .int .i64 (.ofNat j)
  le : j ≤ N
  c : s.c = s0.c
  ms : s.m = s0.m
  row : s.get m = some ⟨List.replicate j v ++ r.cells.drop j, r.elem, r.sz⟩
  oth : ∀ n, n ≠ m → s.get n = s0.get n
section
variable {E : Env} {call : CallK} {draw : DrawK} {kr : KT} {A1 A2 A3 : Array Oper} {id id2 n1 n2 n3 : Nat} {S : Sl} {ts tu te ti t1 t2 : TypeId} {v : Value}
/-- the loop's three regions. -/
structure FillAt (E : Env) (A1 A2 A3 : Array Oper) (S : Sl) (ts tu te ti t1 t2 : TypeId) (v : Value) : Prop where
  h1 : A1.toList.map sg = [(some S.c0, .move (.tmp S.i), none), (some S.c1, .move (.tmp S.x), none), (some S.c2, .call ⟨.builtin .len, #[.tmp S.c1], #[ts]⟩, none), (some S.c3, .binOp .lss ti (.tmp S.c0) (.tmp S.c2) t1, none)]
  h2 : A2.toList.map sg = [(some S.b0, .move (.tmp S.x), none), (some S.b1, .move (.tmp S.i), none), (some S.b2, .indexAddr ts (.tmp S.b0) (.tmp S.b1), none), (none, .store tu (.tmp S.b2) (.const v), none)]
  h3 : A3.toList.map sg = [(some S.a0, .move (.tmp S.i), none), (some S.a1, .binOp .add ti (.tmp S.a0) (.const (.int .i64 1)) t2, none), (some S.i, .assign (.tmp S.a1), none)]
  od : S.x < S.i ∧ S.i < S.c0 ∧ S.c0 < S.c1 ∧ S.c1 < S.c2 ∧ S.c2 < S.c3 ∧ S.c3 < S.a0 ∧ S.a0 < S.a1 ∧ S.a1 < S.b0 ∧ S.b0 < S.b1 ∧ S.b1 < S.b2
  und : E.und ts = some (.slice te)
  se : E.size te = some 1
  su : E.size tu = some 1
  cv : constV v = v
  co : cellsO v = some [v]
theorem putN_one : ∀ (l : List Value) (j : Nat) (v : Value), j < l.length → putN l j [v] = l.take j ++ v :: l.drop (j + 1)
  | [], _, _, h => by simp at h
  | a :: l, 0, v, _ => by simp [putN]
  | a :: l, j + 1, v, h => by simp [putN, putN_one l j v (by simpa using h)]
theorem fill_put {v : Value} {cs : List Value} {j : Nat} (h : j < cs.length) : putN (List.replicate j v ++ cs.drop j) j [v] = List.replicate (j + 1) v ++ cs.drop (j + 1) := by
  rw [putN_one _ _ _ (by simp; omega), List.take_left' (by simp)]
  rw [List.drop_append]
  simp only [List.length_replicate, List.drop_drop, List.drop_replicate]
  rw [show j - (j + 1) = 0 by omega, show j + (j + 1 - j) = j + 1 by omega]
  simp only [List.replicate_zero, List.nil_append]
  rw [List.replicate_succ', List.append_assoc]
  rfl
theorem round1 (F : FillAt E A1 A2 A3 S ts tu te ti t1 t2 v) {t0 : List Value} {s0 : St} {m N c : Nat} {r : Row} {j : Nat} {t : List Value} {s : St} (hb : S.b2 < t0.length) (hx : ∃ sp, atD t0 S.x = .slice (some ⟨m, 0, sp⟩) N c) (I : FI S v t0 s0 m N r j t s) :
    ∃ t', FI S v t0 s0 m N r j t' s ∧ atD t' S.c3 = .bool (Nat.blt j N) ∧ ∀ k, evOpsK E call A1.toList k A1.toList t s = k t' s := by
  obtain ⟨sp, hx⟩ := hx
  have od := F.od
  have hxt : atD t S.x = .slice (some ⟨m, 0, sp⟩) N c := by rw [I.same S.x (by simp [Sl.tmps]; omega) (by omega), hx]
  refine ⟨(((t.set S.c0 (.int .i64 (.ofNat j))).set S.c1 (.slice (some ⟨m, 0, sp⟩) N c)).set S.c2 (.int .i64 (.ofNat N))).set S.c3 (.bool (Nat.blt j N)), ⟨by simp [I.len], fun q h1 h2 => ?_, ?_, I.le, I.c, I.ms, I.row, I.oth⟩, ?_, fun k => ?_⟩
  · have hl := I.len
    have h3 := h1
    simp only [Sl.tmps, List.mem_cons, List.not_mem_nil, or_false, not_or] at h3
    rw [atD_set _ _ _ _ (by simp; omega), atD_set _ _ _ _ (by simp; omega), atD_set _ _ _ _ (by simp; omega), atD_set _ _ _ _ (by omega), if_neg (fun e => h3.2.2.2.1 e.symm), if_neg (fun e => h3.2.2.1 e.symm), if_neg (fun e => h3.2.1 e.symm), if_neg (fun e => h3.1 e.symm)]
    exact I.same q h1 h2
  · have hl := I.len
    rw [atD_set _ _ _ _ (by simp; omega), atD_set _ _ _ _ (by simp; omega), atD_set _ _ _ _ (by simp; omega), atD_set _ _ _ _ (by omega), if_neg (by omega), if_neg (by omega), if_neg (by omega), if_neg (by omega)]
    exact I.ix
  · have hl := I.len
    rw [atD_set _ _ _ _ (by simp; omega), if_pos rfl]
  · have hl := I.len
    rw [ops_u A1.toList [(some S.c0, .move (.tmp S.i)), (some S.c1, .move (.tmp S.x)), (some S.c2, .call ⟨.builtin .len, #[.tmp S.c1], #[ts]⟩), (some S.c3, .binOp .lss ti (.tmp S.c0) (.tmp S.c2) t1)] (by rw [F.h1]; rfl)]
    have e1 : atD (t.set S.c0 (.int .i64 (.ofNat j))) S.x = .slice (some ⟨m, 0, sp⟩) N c := by rw [atD_set _ _ _ _ (by omega), if_neg (by omega)]; exact hxt
    have e2 : atD ((t.set S.c0 (.int .i64 (.ofNat j))).set S.c1 (.slice (some ⟨m, 0, sp⟩) N c)) S.c1 = .slice (some ⟨m, 0, sp⟩) N c := by rw [atD_set _ _ _ _ (by simp; omega), if_pos rfl]
    have e3 : atD (((t.set S.c0 (.int .i64 (.ofNat j))).set S.c1 (.slice (some ⟨m, 0, sp⟩) N c)).set S.c2 (.int .i64 (.ofNat N))) S.c0 = .int .i64 (.ofNat j) := by rw [atD_set _ _ _ _ (by simp; omega), if_neg (by omega), atD_set _ _ _ _ (by simp; omega), if_neg (by omega), atD_set _ _ _ _ (by omega), if_pos rfl]
    have e4 : atD (((t.set S.c0 (.int .i64 (.ofNat j))).set S.c1 (.slice (some ⟨m, 0, sp⟩) N c)).set S.c2 (.int .i64 (.ofNat N))) S.c2 = .int .i64 (.ofNat N) := by rw [atD_set _ _ _ _ (by simp; omega), if_pos rfl]
    simp only [evU, oneOpK, opv, I.ix, putK, forceV_eq, setK_eq, e1, opCallK, opBIK, vK, e2, F.und, opLen, e3, e4, binV, isSh, kindEq, binI, intLt, cond_false, Nat.beq_refl, cond_true]
theorem round2 (F : FillAt E A1 A2 A3 S ts tu te ti t1 t2 v) {t0 : List Value} {s0 : St} {m N c : Nat} {r : Row} {j : Nat} {t : List Value} {s : St} (hb : S.b2 < t0.length) (hm : m < 65536) (hr : r.cells.length = N) (hx : ∃ sp, atD t0 S.x = .slice (some ⟨m, 0, sp⟩) N c) (I : FI S v t0 s0 m N r j t s) (hj : j < N) (hN : N ≤ 90000) :
    ∃ t' s', FI S v t0 s0 m N r (j + 1) t' s' ∧ ∀ k, evOpsK E call A2.toList (fun t s => evOpsK E call A3.toList k A3.toList t s) A2.toList t s = k t' s' := by
  obtain ⟨sp, hx⟩ := hx
  have od := F.od
  have hl := I.len
  have hxt : atD t S.x = .slice (some ⟨m, 0, sp⟩) N c := by rw [I.same S.x (by simp [Sl.tmps]; omega) (by omega), hx]
  obtain ⟨h', p1, p2⟩ := Tr.setK_put 17 s.h hm (some ⟨List.replicate (j + 1) v ++ r.cells.drop (j + 1), r.elem, r.sz⟩)
  obtain ⟨tA, htA⟩ : ∃ tA, tA = ((t.set S.b0 (.slice (some ⟨m, 0, sp⟩) N c)).set S.b1 (.int .i64 (.ofNat j))).set S.b2 (.pointer (some ⟨m, 0 + j * 1, none⟩)) := ⟨_, rfl⟩
  have lA : tA.length = t0.length := by rw [htA]; simp [hl]
  have gA : ∀ q, atD tA q = if S.b2 = q then .pointer (some ⟨m, 0 + j * 1, none⟩) else if S.b1 = q then .int .i64 (.ofNat j) else if S.b0 = q then .slice (some ⟨m, 0, sp⟩) N c else atD t q := fun q => by
    rw [htA, atD_set _ _ _ _ (by simp; omega), atD_set _ _ _ _ (by simp; omega), atD_set _ _ _ _ (by omega)]
  obtain ⟨tB, htB⟩ : ∃ tB, tB = ((tA.set S.a0 (.int .i64 (.ofNat j))).set S.a1 (.int .i64 (.ofNat (j + 1)))).set S.i (.int .i64 (.ofNat (j + 1))) := ⟨_, rfl⟩
  have gB : ∀ q, atD tB q = if S.i = q then .int .i64 (.ofNat (j + 1)) else if S.a1 = q then .int .i64 (.ofNat (j + 1)) else if S.a0 = q then .int .i64 (.ofNat j) else atD tA q := fun q => by
    rw [htB, atD_set _ _ _ _ (by simp; omega), atD_set _ _ _ _ (by simp; omega), atD_set _ _ _ _ (by omega)]
  refine ⟨tB, ⟨h', s.m, s.c⟩, ⟨by rw [htB]; simp [lA], fun q h1 h2 => ?_, ?_, by omega, I.c, I.ms, ?_, fun n hn => ?_⟩, fun k => ?_⟩
  · have h3 := h1
    simp only [Sl.tmps, List.mem_cons, List.not_mem_nil, or_false, not_or] at h3
    rw [gB, if_neg (fun e => h2 e.symm), if_neg (fun e => h3.2.2.2.2.2.2.2.2 e.symm), if_neg (fun e => h3.2.2.2.2.2.2.2.1 e.symm), gA, if_neg (fun e => h3.2.2.2.2.2.2.1 e.symm), if_neg (fun e => h3.2.2.2.2.2.1 e.symm), if_neg (fun e => h3.2.2.2.2.1 e.symm)]
    exact I.same q h1 h2
  · rw [gB, if_pos rfl]
  · show Tr.get 17 h' m = _
    rw [p2, if_pos rfl]
  · show Tr.get 17 h' n = _
    rw [p2, if_neg hn]
    exact I.oth n hn
  · rw [ops_u A2.toList [(some S.b0, .move (.tmp S.x)), (some S.b1, .move (.tmp S.i)), (some S.b2, .indexAddr ts (.tmp S.b0) (.tmp S.b1)), (none, .store tu (.tmp S.b2) (.const v))] (by rw [F.h2]; rfl)]
    have e1 : atD (t.set S.b0 (.slice (some ⟨m, 0, sp⟩) N c)) S.i = .int .i64 (.ofNat j) := by rw [atD_set _ _ _ _ (by omega), if_neg (by omega)]; exact I.ix
    have e2 : atD ((t.set S.b0 (.slice (some ⟨m, 0, sp⟩) N c)).set S.b1 (.int .i64 (.ofNat j))) S.b0 = .slice (some ⟨m, 0, sp⟩) N c := by rw [atD_set _ _ _ _ (by simp; omega), if_neg (by omega), atD_set _ _ _ _ (by omega), if_pos rfl]
    have e3 : atD ((t.set S.b0 (.slice (some ⟨m, 0, sp⟩) N c)).set S.b1 (.int .i64 (.ofNat j))) S.b1 = .int .i64 (.ofNat j) := by rw [atD_set _ _ _ _ (by simp; omega), if_pos rfl]
    have e4 : atD tA S.b2 = .pointer (some ⟨m, 0 + j * 1, none⟩) := by rw [gA, if_pos rfl]
    have e5 : Nat.blt j N = true := (blt16 _ _).2 hj
    have e6 : (Nat.beq [v].length 1 && Nat.ble (0 + j * 1 + 1) (List.replicate j v ++ r.cells.drop j).length) = true := by
      rw [show Nat.beq [v].length 1 = true from rfl, Bool.true_and]
      exact Nat.ble_eq_true_of_le (by simp; omega)
    have e7 : putN (List.replicate j v ++ r.cells.drop j) (0 + j * 1) [v] = List.replicate (j + 1) v ++ r.cells.drop (j + 1) := by
      rw [show 0 + j * 1 = j by omega]; exact fill_put (by omega)
    have f1 : atD (tA.set S.a0 (.int .i64 (.ofNat j))) S.a0 = .int .i64 (.ofNat j) := by rw [atD_set _ _ _ _ (by omega), if_pos rfl]
    have f0 : atD tA S.i = .int .i64 (.ofNat j) := by rw [gA, if_neg (by omega), if_neg (by omega), if_neg (by omega)]; exact I.ix
    have f2 : atD ((tA.set S.a0 (.int .i64 (.ofNat j))).set S.a1 (.int .i64 (.ofNat (j + 1)))) S.a1 = .int .i64 (.ofNat (j + 1)) := by rw [atD_set _ _ _ _ (by simp; omega), if_pos rfl]
    have f3 : wrapF .i64 (Int.ofNat j + 1) = .ofNat (j + 1) := by
      show cond (Nat.blt (j + 1) 9223372036854775808) _ _ = _
      rw [(blt16 _ _).2 (by omega)]
      rfl
    have hrow := I.row
    simp only [evU, oneOpK, opv, hxt, putK, forceV_eq, setK_eq, e1, vK, e2, e3, natOf, opIA1, opIA2, F.und, opIA3, F.se, e5, cond_true]
    rw [← htA]
    simp only [e4, opStoreK, hrow, storeK2, F.cv, F.co, F.su, e6, cond_true, e7, storeK3, forceL_eq, putRowK, p1]
    rw [ops_u A3.toList [(some S.a0, .move (.tmp S.i)), (some S.a1, .binOp .add ti (.tmp S.a0) (.const (.int .i64 1)) t2), (some S.i, .assign (.tmp S.a1))] (by rw [F.h3]; rfl)]
    simp only [evU, oneOpK, opv, f0, putK, forceV_eq, setK_eq, f1, vK, constV, plain1, cond_true, binV, isSh, cond_false, kindEq, Nat.beq_refl, binI, f3, f2]
    rw [← htB]
/-- the loop's body. -/
def fillB (A1 A2 A3 : Array Oper) (S : Sl) (id id2 n1 n2 n3 : Nat) : Code := .seq (.seq (.region n1 A1 false) (.cond (.tmp S.c3) .skip (.exit id))) (.seq (.block id2 (.region n2 A2 false)) (.region n3 A3 false))
theorem fill_loop (F : FillAt E A1 A2 A3 S ts tu te ti t1 t2 v) {t0 : List Value} {s0 : St} {m N c : Nat} {r : Row} (hb : S.b2 < t0.length) (hm : m < 65536) (hr : r.cells.length = N) (hx : ∃ sp, atD t0 S.x = .slice (some ⟨m, 0, sp⟩) N c) (hN : N ≤ 90000) {ke : Nat → KT} {K : KT} (hK : ∀ t' s', FI S v t0 s0 m N r N t' s' → K t' s' = true) :
    ∀ (d j : Nat) (fuel : Nat) (t : List Value) (s : St), N = j + d → d < fuel → FI S v t0 s0 m N r j t s → loopK (evCodeK E call draw kr (fillB A1 A2 A3 S id id2 n1 n2 n3) (exitK id K ke)) fuel t s = true
  | _, _, 0, _, _, _, hf, _ => by omega
  | d, j, fuel + 1, t, s, hd, hf, I => by
    rw [loopK]
    obtain ⟨t', I', hc, e1⟩ := round1 (call := call) F hb hx I
    simp only [fillB, evCodeK]
    rw [e1]
    simp only [opv, hc]
    cases d with
    | zero =>
      have : Nat.blt j N = false := by
        cases hq : Nat.blt j N with
        | false => rfl
        | true => have := (blt16 _ _).1 hq; omega
      rw [this]
      show exitK id K ke id t' s = true
      unfold exitK
      rw [Nat.beq_refl]
      obtain rfl : j = N := by omega
      exact hK t' s I'
    | succ d =>
      rw [(blt16 _ _).2 (by omega)]
      obtain ⟨t2, s2, I2, e2⟩ := round2 (call := call) F hb hm hr hx I' (by omega) hN
      show evOpsK E call A2.toList (fun t s => evOpsK E call A3.toList _ A3.toList t s) A2.toList t' s = true
      rw [e2]
      exact fill_loop F hb hm hr hx hN hK d (j + 1) fuel t2 s2 (by omega) (by omega) I2
end
def junks : List Nat → List Value → List Value
  | [], t => t
  | q :: l, t => junks l (t.set q junk)
/-- all of the loop at once. -/
def fillA (S : Sl) (v : Value) (k : KT) (t : List Value) (s : St) : Bool := match atD t S.x with
  | .slice (some a) N _ => match atD t S.i with
    | .int .i64 (.ofNat 0) => match s.get a.block with
      | some r => cond (Nat.beq a.off 0 && (Nat.beq r.cells.length N && (Nat.ble N 90000 && (Nat.blt a.block 65536 && Nat.blt S.b2 t.length)))) (putRowK s a.block (some ⟨List.replicate N v, r.elem, r.sz⟩) fun s2 => k (junks S.tmps (t.set S.i (.int .i64 (.ofNat N)))) s2) false
      | none => false
    | _ => false
  | _ => false
theorem junks_len : ∀ (l : List Nat) (t : List Value), (junks l t).length = t.length
  | [], _ => rfl
  | q :: l, t => by rw [junks, junks_len]; simp
theorem junks_get : ∀ (l : List Nat) (t : List Value) (q : Nat) (u : Value), (junks l t)[q]? = some u → u = junk ∨ (q ∉ l ∧ t[q]? = some u)
  | [], t, q, u, h => .inr ⟨by simp, h⟩
  | p :: l, t, q, u, h => by
    rcases junks_get l _ q u h with h1 | ⟨h1, h2⟩
    · exact .inl h1
    · rw [List.getElem?_set] at h2
      by_cases e : p = q
      · rw [if_pos e] at h2
        split at h2
        · exact .inl (Option.some.inj h2).symm
        · cases h2
      · rw [if_neg e] at h2
        exact .inr ⟨fun hm => (List.mem_cons.1 hm).elim (fun e' => e e'.symm) h1, h2⟩
theorem R.less {ρ : Rho} {s s2 : St} {w : World} (hR : R ρ s w) (hc : s2.c = s.c) (hg : ∀ n r, s2.get n = some r → s.get n = some r) (hm : s2.m = s.m) : R ρ s2 w := by
  have hgm : ∀ n, s2.gm n = s.gm n := fun n => by unfold St.gm; rw [hm]
  refine ⟨fun n h => hR.dom n (by rw [← hc]; exact h), hR.lt, fun n r h => hR.rows n r (hg n r h), fun n es h => hR.maps n es (by rw [← hgm]; exact h), fun n m es fs x y h1 h2 => hR.injm n m es fs x y (by rw [← hgm]; exact h1) (by rw [← hgm]; exact h2), fun n m r q x y h1 h2 => hR.inj n m r q x y (hg n r h1) (hg m q h2), hR.gl, hR.lo, fun h n es he => hR.it (by rw [← hm]; exact h) n es (by rw [← hgm]; exact he)⟩
theorem Ext.less {ρ ρ' : Rho} {s s' s2 : St} {w w' : World} (h : Ext ρ s w ρ' s' w') (hc : s2.c = s'.c) (hg : ∀ n r, s2.get n = some r → s'.get n = some r) (hm : s2.m = s'.m) : Ext ρ s w ρ' s2 w' := by
  refine ⟨by rw [hc]; exact h.le, h.sub, h.size, h.os, h.tape, h.output, h.frame, fun k hk => h.own k ?_, h.old⟩
  obtain ⟨n, x, h1, h2⟩ := hk
  refine ⟨n, x, ?_, h2⟩
  rcases h1 with ⟨r, h1⟩ | ⟨es, h1⟩
  · exact .inl ⟨r, hg n r h1⟩
  · exact .inr ⟨es, by unfold St.gm at h1 ⊢; rw [← hm]; exact h1⟩
theorem fills_ok {P : Program} {A1 A2 A3 : Array Oper} {id id2 n1 n2 n3 : Nat} {S : Sl} {ts tu te ti t1 t2 : TypeId} {v : Value} (F : FillAt (envOf P (fun _ => none) (fun _ => none) (fun _ _ _ => false)) A1 A2 A3 S ts tu te ti t1 t2 v) (kr : KT) : AccOk P kr (fillA S v) (.block id (.loop (fillB A1 A2 A3 S id id2 n1 n2 n3))) := by
  intro ke k t s h ρ w a hR hT
  unfold fillA at h
  split at h
  case h_2 => cases h
  rename_i ad N c hx
  split at h
  case h_2 => cases h
  rename_i hi
  split at h
  case h_2 => cases h
  rename_i r hr
  cases hq : (Nat.beq ad.off 0 && (Nat.beq r.cells.length N && (Nat.ble N 90000 && (Nat.blt ad.block 65536 && Nat.blt S.b2 t.length)))) with
  | false => rw [hq] at h; cases h
  | true =>
  rw [hq] at h
  simp only [cond_true] at h
  simp only [Bool.and_eq_true] at hq
  obtain ⟨q1, q2, q3, q4, q5⟩ := hq
  have hlen : r.cells.length = N := Nat.eq_of_beq_eq_true q2
  have hN : N ≤ 90000 := Nat.le_of_ble_eq_true q3
  have hm : ad.block < 65536 := (blt16 _ _).1 q4
  have hb : S.b2 < t.length := (blt16 _ _).1 q5
  have hx' : ∃ sp, atD t S.x = .slice (some ⟨ad.block, 0, sp⟩) N c := ⟨ad.spot, by rw [hx, ← Nat.eq_of_beq_eq_true q1]⟩
  have I0 : FI S v t s ad.block N r 0 t s := ⟨rfl, fun _ _ _ => rfl, hi, Nat.zero_le _, rfl, rfl, by rw [hr]; rfl, fun _ _ => rfl⟩
  have hev := fill_loop (E := envOf P (fun _ => none) (fun _ => none) (fun _ _ _ => false)) (call := fun _ _ _ _ => false) (draw := fun _ _ _ _ _ => false) (kr := kr) (id := id) (id2 := id2) (n1 := n1) (n2 := n2) (n3 := n3) (ke := ke) (K := fun t' s' => @decide (FI S v t s ad.block N r N t' s') (Classical.propDecidable _)) F hb hm hlen hx' hN (fun t' s' h => @decide_eq_true _ (Classical.propDecidable _) h) N 0 100000 t s (by omega) (by omega) I0
  have g := good_of P (fun _ => none) (xt := fun _ => none) (hs := fun _ _ _ => false) (fun f g h => by cases h)
  have hw := code_ok (call := fun _ _ _ _ => false) (draw := fun _ _ _ _ _ => false) (kr := kr) g (fun _ _ _ _ h => by cases h) (fun _ _ _ _ _ h => by cases h) (.block id (.loop (fillB A1 A2 A3 S id id2 n1 n2 n3))) ke (fun t' s' => @decide (FI S v t s ad.block N r N t' s') (Classical.propDecidable _)) t s hev ρ w a hR hT
  refine wp_mono hw ?_
  rintro e a' w' ⟨ρ', s', t', p1, p2, p3, p4⟩
  cases e with
  | exit i => exact ⟨ρ', s', t', p1, p2, p3, p4⟩
  | ret => exact ⟨ρ', s', t', p1, p2, p3, p4⟩
  | goto l => exact p4.elim
  | panic ch => exact p4.elim
  | outgrown => exact p4.elim
  | normal =>
    have I := @of_decide_eq_true _ (Classical.propDecidable _) p4
    obtain ⟨h', f1, f2⟩ := Tr.setK_put 17 s.h hm (some ⟨List.replicate N v, r.elem, r.sz⟩)
    rw [putRowK, f1] at h
    have hsub : ∀ n q, (⟨h', s.m, s.c⟩ : St).get n = some q → s'.get n = some q := fun n q hq => by
      have hq' : Tr.get 17 h' n = some q := hq
      rw [f2] at hq'
      by_cases e : n = ad.block
      · rw [if_pos e] at hq'
        rw [e, I.row, ← hq', List.drop_eq_nil_of_le (by omega), List.append_nil]
      · rw [if_neg e] at hq'
        rw [I.oth n e]
        exact hq'
    refine ⟨ρ', ⟨h', s.m, s.c⟩, junks S.tmps (t.set S.i (.int .i64 (.ofNat N))), p1.less I.c.symm hsub I.ms.symm, ⟨⟨?_, fun q u hu => ?_⟩, p2.defers⟩, p3.less I.c.symm hsub I.ms.symm, h⟩
    · rw [junks_len, p2.vals.1, I.len]; simp
    · have hql : q < t.length := by
        have := (List.getElem?_eq_some_iff.1 hu).1
        rw [junks_len] at this
        simpa using this
      have hq2 : q < t'.length := by rw [I.len]; exact hql
      obtain ⟨z, z1, z2⟩ := p2.vals.2 q t'[q] (List.getElem?_eq_getElem hq2)
      refine ⟨z, z1, ?_⟩
      rcases junks_get _ _ _ _ hu with rfl | ⟨h1, h2⟩
      · show VR ρ' (.chan none) z
        rw [VR]; trivial
      · have hat : atD t' q = t'[q] := by rw [atD_eq, List.getElem?_eq_getElem hq2]; rfl
        rw [List.getElem?_set] at h2
        by_cases e : S.i = q
        · rw [if_pos e, if_pos (by rw [e]; exact hql)] at h2
          rw [← Option.some.inj h2, ← I.ix, e, hat]
          exact z2
        · rw [if_neg e] at h2
          have h3 := I.same q h1 (fun e' => e e'.symm)
          have h4 : atD t q = u := by rw [atD_eq, h2]; rfl
          rw [← h4, ← h3, hat]
          exact z2
end Go.Proofs.YtnkcibcodabkiaaGreatDoor.Am
