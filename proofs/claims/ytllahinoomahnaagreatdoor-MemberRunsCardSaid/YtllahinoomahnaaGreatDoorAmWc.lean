import Derived.Test.YtllahinoomahnaaGreatDoorAmWb
set_option linter.unusedVariables false
set_option linter.unusedSimpArgs false
namespace Go.Proofs.YtllahinoomahnaaGreatDoor.Am
open Go

variable {E : Env} {call : CallK} {t : Tm} {s : St} {k : K2}
theorem partK_eq (s : St) (n : Nat) (a : Option Addr) (f : List Value → Bool) : partK s n a f = lK f (rowPart s n a) := by
  cases a with
  | none =>
    show Bool.rec (motive := fun _ => Bool) false (f []) (Nat.beq n 0) = lK f (cond (Nat.beq n 0) (some []) none)
    cases Nat.beq n 0 <;> rfl
  | some a =>
    obtain ⟨b, o, sp⟩ := a
    show rowK s.h b (fun cs _ _ => (dropW o).run cs fun l => fN (fun n => (takeW n).run l f) n) = lK f (match s.get b with | some r => cond (Nat.ble (o + n) r.cells.length) (some (takeN (dropN r.cells o) n)) none | none => none)
    rw [rowK_eq]
    cases s.get b with
    | none => rfl
    | some r =>
      simp only [dropW_eq, fN_eq, takeW_eq, takeN_eq, dropN_eq, List.length_drop]
      by_cases h : o + n ≤ r.cells.length
      · rw [if_pos (by omega), if_pos (by omega), Nat.ble_eq_true_of_le h]; rfl
      · have e : Nat.ble (o + n) r.cells.length = false := by
          rw [Bool.eq_false_iff]; exact fun e => h (Nat.le_of_ble_eq_true e)
        rw [e]
        by_cases h2 : o ≤ r.cells.length
        · rw [if_pos h2, if_neg (by omega)]; rfl
        · rw [if_neg h2]; rfl
theorem newS_eq (s : St) (cs : List Value) (e : TypeId) (size len : Nat) : newS s cs e size len k = nSK k s e size len 0 (some cs) := by
  unfold newS
  rw [newF_eq]
  simp only [nSK, fN_eq]
theorem catN_eq (cs new : List Value) (n : Nat) (f : List Value → Bool) : catN cs new n f = cond (Nat.ble n cs.length) (f (takeN cs n ++ new)) false := by
  unfold catN
  rw [fN_eq, upW_eq, takeN_eq]
  by_cases h : n ≤ cs.length
  · rw [if_pos h, Nat.ble_eq_true_of_le h]; rfl
  · have e : Nat.ble n cs.length = false := by rw [Bool.eq_false_iff]; exact fun e => h (Nat.le_of_ble_eq_true e)
    rw [if_neg h, e]; rfl
theorem killK_eq (s : St) (b : Nat) (f : St → Bool) : killK s b f = putRowK s b none f := by cases s; rfl
theorem apJ_eq (h : t.Ok) (x y : Operand) (d : Option TypeDesc) : (apJ E (opW x) (opW y) d).run call t s k = opApK2 E s (opv t.toL x) (opv t.toL y) k d := by
  cases d with
  | none => rfl
  | some d => cases d with
    | slice e =>
      simp only [apJ, opApK2]
      cases E.zero e with
      | none => rfl
      | some z =>
        simp only
        cases Nat.beq z.length 0 with
        | true => rfl
        | false =>
          simp only [cond_false, natK_eq, apZ, opW_eq h]
          generalize z.length = size
          cases opv t.toL x with
          | slice base n c => cases opv t.toL y with
            | slice b2 m c2 =>
              show Bool.rec (motive := fun _ => Bool) (Bool.rec (motive := fun _ => Bool) (partK s (Nat.mul m size) b2 fun new => _) false (Nat.blt 1000000 (Nat.add n m))) (k (.slice base n c) s) (Nat.beq m 0) = cond (Nat.beq m 0) (k (.slice base n c) s) (cond (Nat.blt 1000000 (n + m)) false (opApK4 s e n m c size base k (rowPart s (m * size) b2)))
              cases Nat.beq m 0 with
              | true => rfl
              | false =>
                simp only [cond_false]
                show Bool.rec (motive := fun _ => Bool) _ false (Nat.blt 1000000 (n + m)) = _
                cases Nat.blt 1000000 (n + m) with
                | true => rfl
                | false =>
                  simp only [cond_false]
                  rw [partK_eq]
                  show lK _ (rowPart s (m * size) b2) = _
                  cases rowPart s (m * size) b2 with
                  | none =>
                    show false = _
                    cases base with
                    | none => rfl
                    | some a =>
                      simp only [opApK4]
                      cases Nat.beq c (n + 1) with
                      | true =>
                        simp only [cond_true]
                        cases rowPart s (n * size) (some a) <;> rfl
                      | false =>
                        simp only [cond_false]
                        cases s.get a.block with
                        | none => rfl
                        | some r =>
                          simp only [catO, nSK]
                          cases (Nat.beq a.off 0 && (Nat.ble (n * size) r.cells.length && (Nat.beq r.sz size && Nat.beq r.elem e))) with
                          | false => rfl
                          | true =>
                            simp only [cond_true]
                            show false = Tr.setK 17 s.h a.block none fun h => false
                            cases hq : Tr.setK 17 s.h a.block none (fun h => false) with
                            | false => rfl
                            | true =>
                              obtain ⟨_, e1, _⟩ := Tr.setK_get _ _ _ _ _ hq
                              cases e1
                  | some new =>
                    simp only [lK]
                    cases base with
                    | none => exact newS_eq s new e size (n + m)
                    | some a =>
                      obtain ⟨b, o, sp⟩ := a
                      show Bool.rec (motive := fun _ => Bool) (rowK s.h b _) (partK s (Nat.mul n size) (some ⟨b, o, sp⟩) _) (Nat.beq c (n + 1)) = _
                      simp only [opApK4]
                      cases Nat.beq c (n + 1) with
                      | true =>
                        simp only [cond_true]
                        show partK s (Nat.mul n size) (some ⟨b, o, sp⟩) _ = _
                        rw [partK_eq]
                        show lK _ (rowPart s (n * size) (some ⟨b, o, sp⟩)) = _
                        cases rowPart s (n * size) (some ⟨b, o, sp⟩) with
                        | none => rfl
                        | some old =>
                          simp only [lK, fL_eq, catO]
                          exact newS_eq s _ e size (n + m)
                      | false =>
                        simp only [cond_false]
                        show rowK s.h b _ = _
                        rw [rowK_eq]
                        cases s.get b with
                        | none => rfl
                        | some r =>
                          simp only [catN_eq, killK_eq, catO]
                          show Bool.rec (motive := fun _ => Bool) false (Bool.rec (motive := fun _ => Bool) false (Bool.rec (motive := fun _ => Bool) false (cond (Nat.ble (n * size) r.cells.length) _ false) (Nat.beq r.elem e)) (Nat.beq r.sz size)) (Nat.beq o 0) = _
                          cases Nat.beq o 0 with
                          | false => rfl
                          | true =>
                            cases Nat.beq r.sz size with
                            | false => cases Nat.ble (n * size) r.cells.length <;> rfl
                            | true =>
                              cases Nat.beq r.elem e with
                              | false => cases Nat.ble (n * size) r.cells.length <;> rfl
                              | true =>
                                cases Nat.ble (n * size) r.cells.length with
                                | false => rfl
                                | true =>
                                  show putRowK s b none (fun s => newS s (takeN r.cells (n * size) ++ new) e size (Nat.add n m) k) = putRowK s b none (fun s => nSK k s e size (n + m) 0 (some (takeN r.cells (n * size) ++ new)))
                                  congr 1
                                  funext s
                                  exact newS_eq s _ e size (n + m)
            | _ => rfl
          | _ => rfl
    | _ => rfl
theorem lenJ_eq (h : t.Ok) (ty : TypeId) (x : Operand) : (lenJ E ty (opW x)).run call t s k = vK k s (opLen s (opv t.toL x) (E.und ty)) := by
  unfold lenJ
  split
  · rename_i hd
    simp only [opW_eq h, hd]
    cases opv t.toL x with
    | string b => rw [onStr_str, fN_eq]; rfl
    | _ => rfl
  · rename_i e hd
    simp only [opW_eq h, hd]
    cases opv t.toL x <;> rfl
  · rename_i d _ _
    simp only [fvK_eq, opW_eq h]
theorem xt_eq (f : FuncId) (l : List Value) (o : Option (List Value → Option Value)) : xtK call s (fun v s => fV (fun v => k v s) v) f l o = xtK call s k f l o := by
  congr 1
  funext v s
  exact fV_eq (fun v => k v s) v
theorem callJ_eq (h : t.Ok) (args : List Operand) (ts : List TypeId) (c : Callee) : (callJ E args ts c).run call t s k = opCallK E call t.toL s args ts k c := by
  cases c with
  | value f =>
    simp only [opCallK]
    have gen : (callVJ E (opW f) args).run call t s k = opCvK E call s (args.map (opv t.toL)) k (opv t.toL f) := by
      simp only [callVJ, opsK_eq h, opW_eq h, xt_eq, fL_eq]
      cases opv t.toL f with
      | func fn first captured => cases fn with
        | func f =>
          simp only [opCvK, forceL_eq]
          rfl
        | _ => rfl
      | _ => rfl
    cases f with
    | func f =>
      simp only [callJ, callFJ, opv, opCvK, forceL_eq]
      cases hx : E.xt f with
      | some g =>
        simp only [opsK_eq h, fvK_eq, xtK]
        simp
      | none =>
        simp only [opsK_eq h, xtK]
        simp
    | tmp n => exact gen
    | const v => exact gen
    | global g => exact gen
  | builtin b =>
    cases b with
    | len =>
      match args, ts with
      | [x], [ty] => exact lenJ_eq h ty x
      | [], _ => rfl
      | _ :: _ :: _, _ => rfl
      | [_], [] => rfl
      | [_], _ :: _ :: _ => rfl
    | append =>
      match args, ts with
      | [x, y], [t1, t2] =>
        show (cond (Nat.beq t1 t2) (apJ E (opW x) (opW y) (E.und t1)) ⟨fun _ t s k => opApS E s ((opW x).run t) ((opW y).run t) (fun v s => fV (fun v => k v s) v) (E.und t2) (E.und t1)⟩).run call t s k = cond (Nat.beq t1 t2) (opApK2 E s (opv t.toL x) (opv t.toL y) k (E.und t1)) (opApS E s (opv t.toL x) (opv t.toL y) k (E.und t2) (E.und t1))
        cases Nat.beq t1 t2 with
        | false =>
          show opApS E s ((opW x).run t) ((opW y).run t) (fun v s => fV (fun v => k v s) v) (E.und t2) (E.und t1) = opApS E s (opv t.toL x) (opv t.toL y) k (E.und t2) (E.und t1)
          rw [opW_eq h, opW_eq h]
          congr 1
          funext v s
          exact fV_eq (fun v => k v s) v
        | true => exact apJ_eq h x y (E.und t1)
      | [], _ => rfl
      | [_], _ => rfl
      | _ :: _ :: _ :: _, _ => rfl
      | [_, _], [] => rfl
      | [_, _], [_] => rfl
      | [_, _], _ :: _ :: _ :: _ => rfl
    | min =>
      match args with
      | [x, y] => exact (fvK_eq k s _).trans (by rw [opW_eq h, opW_eq h]; rfl)
      | [] => rfl
      | [_] => rfl
      | _ :: _ :: _ :: _ => rfl
    | max =>
      match args with
      | [x, y] => exact (fvK_eq k s _).trans (by rw [opW_eq h, opW_eq h]; rfl)
      | [] => rfl
      | [_] => rfl
      | _ :: _ :: _ :: _ => rfl
    | copy =>
      match args, ts with
      | [x, y], [t1, t2] =>
        show (cond (Nat.beq t1 t2) ⟨fun _ t s k => opCp E s ((opW x).run t) ((opW y).run t) (fun v s => fV (fun v => k v s) v) (E.und t1)⟩ ofW : OW).run call t s k = cond (Nat.beq t1 t2) (opCp E s (opv t.toL x) (opv t.toL y) k (E.und t1)) false
        cases Nat.beq t1 t2 with
        | false => rfl
        | true =>
          show opCp E s ((opW x).run t) ((opW y).run t) (fun v s => fV (fun v => k v s) v) (E.und t1) = opCp E s (opv t.toL x) (opv t.toL y) k (E.und t1)
          rw [opW_eq h, opW_eq h]
          congr 1
          funext v s
          exact fV_eq (fun v => k v s) v
      | [], _ => rfl
      | [_], _ => rfl
      | _ :: _ :: _ :: _, _ => rfl
      | [_, _], [] => rfl
      | [_, _], [_] => rfl
      | [_, _], _ :: _ :: _ :: _ => rfl
    | unsafeSliceData =>
      match args with
      | [x] => exact (fvK_eq k s _).trans (by rw [opW_eq h]; rfl)
      | [] => rfl
      | _ :: _ :: _ => rfl
    | cap =>
      match args, ts with
      | [x], [ty] => exact (fvK_eq k s _).trans (by rw [opW_eq h]; rfl)
      | [], _ => rfl
      | _ :: _ :: _, _ => rfl
      | [_], [] => rfl
      | [_], _ :: _ :: _ => rfl
    | unsafeString =>
      match args, ts with
      | [x, y], [pt, it] =>
        show opUStr E s ((opW x).run t) k (E.und pt) ((opW y).run t) = opUStr E s (opv t.toL x) k (E.und pt) (opv t.toL y)
        rw [opW_eq h, opW_eq h]
      | [], _ => rfl
      | [_], _ => rfl
      | _ :: _ :: _ :: _, _ => rfl
      | [_, _], [] => rfl
      | [_, _], [_] => rfl
      | [_, _], _ :: _ :: _ :: _ => rfl
    | _ => rfl
  | invoke r m => rfl
theorem unJ_eq (h : t.Ok) (op : UnOp) (x : Operand) : (unJ op (opW x)).run call t s k = vK k s (opUn op (opv t.toL x)) := by
  cases op with
  | not =>
    simp only [unJ, opW_eq h]
    cases opv t.toL x with
    | bool b => cases b <;> rfl
    | _ => rfl
  | _ => simp only [unJ, fvK_eq, opW_eq h]
theorem opJ_eq (h : t.Ok) (o : Op) : (opJ E o).run call t s k = oneOpK E call t.toL s k o := by
  cases o with
  | move x => exact opK_eq h x (fun v => k v s)
  | assign x => exact opK_eq h x (fun v => k v s)
  | pick c a b =>
    simp only [opJ, oneOpK, opW_eq h, opK_eq h]
    cases opv t.toL c with
    | bool b => cases b <;> rfl
    | _ => rfl
  | binOp op ty x y ty2 =>
    simp only [opJ, binJ, oneOpK]
    cases hsh : isSh op with
    | true => simp only [cond_true, fvK_eq, opW_eq h]
    | false =>
      simp only [cond_false, opW_eq h]
      rw [binK_eq E op hsh, oK_vK]
  | unOp op ty x => exact unJ_eq h op x
  | load ty a =>
    simp only [opJ, loadJ, oneOpK, opW_eq h]
    rw [← oK_vK]
    exact load_eq E ty s (opv t.toL a) (fun v => k v s)
  | store ty a v => exact storeJ_eq h ty a v
  | fieldAddr ty x f => exact fieldAddrJ_eq h ty x f
  | nilCheck x =>
    simp only [opJ, oneOpK, opK_eq h]
    cases opv t.toL x with
    | pointer a => cases a <;> rfl
    | func fn a b => cases fn <;> rfl
    | _ => rfl
  | indexAddr ty x i => exact indexAddrJ_eq h ty x i
  | index ty x i => exact indexJ_eq h ty x i
  | alloc ty => exact allocJ_eq ty
  | box ty x => exact boxJ_eq h ty x
  | build ty ps => exact buildJ_eq h ty ps.toList
  | buildSlice ty len ps => exact buildSliceJ_eq h ty len ps.toList
  | field ty x f => exact fieldJ_eq h ty x f
  | extract x i => exact extractJ_eq h x i
  | slice ty x lo hi mx => exact sliceJ_eq h ty x lo hi mx
  | makeInterface ty x => exact mkIfaceJ_eq h ty x
  | makeFunc fn first captured => simp only [opJ, oneOpK, opsK_eq h, opMF, vK]
  | convert src dst x => simp only [opJ, oneOpK, fvK_eq, opW_eq h]
  | call c => exact callJ_eq h c.args.toList c.argTypes.toList c.callee
  | lookup ty x i ok => simp only [opJ, oneOpK, fvK_eq, opW_eq h]
  | mapUpdate ty m x v => simp only [opJ, oneOpK, opW_eq h, opK_eq h]
  | makeMap ty r => cases r with
    | none =>
      simp only [opJ, oneOpK, opMK, newMapK]
      cases s with
      | mk hh m c =>
        show (hu c).run m.t (some []) (fun m => fN (fun d => k (.map (some c)) ⟨hh, ⟨m⟩, d⟩) (Nat.add c 1)) = (hu c).run m.t (some []) (fun m => forceN (fun d => k (.map (some c)) ⟨hh, ⟨m⟩, d⟩) (c + 1))
        congr 1
    | some r => rfl
  | makeSlice ty x y =>
    simp only [opJ, oneOpK, opW_eq h]
    congr 1
    funext v s
    exact fV_eq (fun v => k v s) v
  | range ty x => simp only [opJ, oneOpK, opW_eq h]
  | next x isS => simp only [opJ, oneOpK, opW_eq h]
  | entry x => simp only [opJ, oneOpK, opW_eq h]
  | _ => rfl
/- code. -/
def KEq (k : KJ) (k' : KT) : Prop := ∀ t s, t.Ok → k t s = k' t.toL s
theorem putJ_eq (h : t.Ok) (d : Option Tmp) (v : Value) {f : Tm → Bool} {f' : List Value → Bool} (hf : ∀ t', t'.Ok → f t' = f' t'.toL) : (putJ d).run t v f = putK t.toL d v f' := by
  cases d with
  | none => exact hf t h
  | some n =>
    show (tsJ n).run t v f = _
    rw [tsJ_eq h n v hf]
    simp only [putK, forceV_eq, setK_eq]
theorem guardV_eq (h : t.Ok) (all : List Oper) (j : Nat) : guardV all t.toL j = (gdst all j).bind (fun d => if d < t.n then some ((twJ d).run t) else none) := by
  unfold guardV gdst
  cases (all[j]?).bind (·.dst) with
  | none => rfl
  | some d =>
    simp only [Option.bind_some, at?_eq, t.getE]
    by_cases e : d < t.n
    · rw [if_pos e, if_pos e, twJ_eq h, atD_eq, t.getE, if_pos e]; rfl
    · rw [if_neg e, if_neg e]
theorem guardJ_eq (h : t.Ok) (d : Nat) (want : Bool) (yes no : Bool) : (guardJ d want).run t yes no = cond (isBoolV (if d < t.n then some ((twJ d).run t) else none)) (cond (isWant want (if d < t.n then some ((twJ d).run t) else none)) yes no) false := by
  have e1 : (guardJ d want).run t yes no = gdZ d ((twJ d).run t) t.n (cond want yes no) (cond want no yes) no := by cases want <;> rfl
  rw [e1]
  by_cases e : d < t.n
  · rw [if_pos e]
    have hb := (blt16 d t.n).2 e
    cases (twJ d).run t with
    | bool b => cases b <;> cases want <;> rfl
    | tuple vs =>
      show Bool.rec (motive := fun _ => Bool) false no (Nat.blt d t.n) = _
      rw [hb]; rfl
    | _ => rfl
  · rw [if_neg e]
    have hu : (twJ d).run t = undef := by rw [twJ_eq h, atD_eq, t.getE, if_neg e]; rfl
    rw [hu]
    show Bool.rec (motive := fun _ => Bool) false no (Nat.blt d t.n) = _
    have hb : Nat.blt d t.n = false := by rw [Bool.eq_false_iff]; exact fun q => e ((blt16 _ _).1 q)
    rw [hb]; rfl
theorem opsJ_eq (all : List Oper) {k : KJ} {k' : KT} (hk : KEq k k') : ∀ (r : List Oper) (t : Tm) (s : St), t.Ok → (opsJ E all r).run call k t s = evOpsK E call all k' r t.toL s
  | [], t, s, h => hk t s h
  | o :: r, t, s, h => by
    have go : ((opJ E o.op).run call t s fun v s => (putJ o.dst).run t v fun t => (opsJ E all r).run call k t s) = oneOpK E call t.toL s (fun v s => putK t.toL o.dst v fun t => evOpsK E call all k' r t s) o.op := by
      rw [opJ_eq h]
      congr 1
      funext v s
      exact putJ_eq h o.dst v fun t' h' => opsJ_eq all hk r t' s h'
    rw [evOpsK]
    unfold opsJ
    cases hg : o.guard with
    | none =>
      simp only
      cases hm : moveOf o.op with
      | none => exact go
      | some x =>
        simp only
        rw [← go, opW_eq h]
        have e : ∀ f : K2, (opJ E o.op).run call t s f = f (opv t.toL x) s := fun f => by
          rw [opJ_eq h]
          cases ho : o.op with
          | move y => rw [ho] at hm; obtain rfl := Option.some.inj hm; rfl
          | assign y => rw [ho] at hm; obtain rfl := Option.some.inj hm; rfl
          | _ => rw [ho] at hm; cases hm
        rw [e]
    | some g =>
      simp only
      rw [guardV_eq h]
      cases hd : gdst all g.1 with
      | none => rfl
      | some d =>
        simp only [Option.bind_some]
        rw [guardJ_eq h, go, putJ_eq (f' := fun t => evOpsK E call all k' r t s) h o.dst undef fun t' h' => opsJ_eq all hk r t' s h']
end Go.Proofs.YtllahinoomahnaaGreatDoor.Am
