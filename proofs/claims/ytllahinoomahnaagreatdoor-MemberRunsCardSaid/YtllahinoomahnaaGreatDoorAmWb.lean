import Derived.Test.YtllahinoomahnaaGreatDoorAmWa
set_option linter.unusedVariables false
set_option linter.unusedSimpArgs false
namespace Go.Proofs.YtllahinoomahnaaGreatDoor.Am
open Go

theorem natV_eq (kd : IntKind) (k : Value → Bool) (z : Nat) : natV kd k z = k (.int kd (wrapF kd (.ofNat z))) := by
  unfold natV
  rw [fN_eq]
  cases hb : Nat.blt z (limK kd) with
  | false => exact fI_eq (fun n => k (.int kd n)) _
  | true =>
    show k (.int kd (.ofNat z)) = _
    congr 2
    cases kd <;> first
      | (change Nat.blt z 9223372036854775808 = true at hb; show _ = cond (Nat.blt z 9223372036854775808) _ _; rw [hb]; rfl)
      | (change Nat.blt z 256 = true at hb; show _ = cond (Nat.blt z 256) _ _; rw [hb]; rfl)
      | (change Nat.blt z 0 = true at hb; have := (blt16 _ _).1 hb; omega)
theorem addK_eq (kd : IntKind) (a b : Int) (k : Value → Bool) : addK kd a b k = k (.int kd (wrapF kd (a + b))) := by
  cases a with
  | ofNat m => cases b with
    | ofNat n => exact natV_eq kd k _
    | negSucc n => exact fI_eq (fun n => k (.int kd n)) _
  | negSucc m => exact fI_eq (fun n => k (.int kd n)) _
theorem mulK_eq (kd : IntKind) (a b : Int) (k : Value → Bool) : mulK kd a b k = k (.int kd (wrapF kd (a * b))) := by
  cases a with
  | ofNat m => cases b with
    | ofNat n => exact natV_eq kd k _
    | negSucc n => exact fI_eq (fun n => k (.int kd n)) _
  | negSucc m => exact fI_eq (fun n => k (.int kd n)) _
theorem subK_eq (kd : IntKind) (a b : Int) (k : Value → Bool) : subK kd a b k = k (.int kd (wrapF kd (a - b))) := by
  cases a with
  | ofNat m => cases b with
    | ofNat n =>
      show Bool.rec (motive := fun _ => Bool) (intV kd k (wrapF kd (Int.ofNat m - Int.ofNat n))) (natV kd k (Nat.sub m n)) (Nat.ble n m) = _
      cases hb : Nat.ble n m with
      | false => exact fI_eq (fun n => k (.int kd n)) _
      | true =>
        have hle := Nat.le_of_ble_eq_true hb
        show natV kd k (Nat.sub m n) = _
        rw [natV_eq]
        congr 3
        show ((m - n : Nat) : Int) = (m : Int) - (n : Int)
        omega
    | negSucc n => exact fI_eq (fun n => k (.int kd n)) _
  | negSucc m => exact fI_eq (fun n => k (.int kd n)) _
theorem eqI_eq (a b : Int) : eqI a b = intEq a b := by cases a <;> cases b <;> rfl
theorem ltI_eq (a b : Int) : ltI a b = intLt a b := by cases a <;> cases b <;> rfl
theorem intOp_eq (op : BinOp) (kd : IntKind) (a b : Int) (k : Value → Bool) : (intOp op).run kd a b k = oK k (binI op kd a b) := by
  cases op with
  | add => exact addK_eq kd a b k
  | sub => exact subK_eq kd a b k
  | mul => exact mulK_eq kd a b k
  | eql => show Bool.rec (motive := fun _ => Bool) _ _ (eqI a b) = k (.bool (intEq a b)); rw [eqI_eq]; cases intEq a b <;> rfl
  | neq => show Bool.rec (motive := fun _ => Bool) _ _ (eqI a b) = k (.bool (!intEq a b)); rw [eqI_eq]; cases intEq a b <;> rfl
  | lss => show Bool.rec (motive := fun _ => Bool) _ _ (ltI a b) = k (.bool (intLt a b)); rw [ltI_eq]; cases intLt a b <;> rfl
  | leq => show Bool.rec (motive := fun _ => Bool) _ _ (ltI b a) = k (.bool (!intLt b a)); rw [ltI_eq]; cases intLt b a <;> rfl
  | gtr => show Bool.rec (motive := fun _ => Bool) _ _ (ltI b a) = k (.bool (intLt b a)); rw [ltI_eq]; cases intLt b a <;> rfl
  | geq => show Bool.rec (motive := fun _ => Bool) _ _ (ltI a b) = k (.bool (!intLt a b)); rw [ltI_eq]; cases intLt a b <;> rfl
  | _ => refine Eq.trans ?_ (fv1_eq k _); rfl
theorem strOp_eq (op : BinOp) (a b : List UInt8) (k : Value → Bool) : (strOp op).run a b k = oK k (binS op a b) := by
  cases op with
  | eql => show Bool.rec (motive := fun _ => Bool) _ _ (eqBy a b) = k (.bool (bytesEq a b)); rw [eqBy_eq]; cases bytesEq a b <;> rfl
  | neq => show Bool.rec (motive := fun _ => Bool) _ _ (eqBy a b) = k (.bool (!bytesEq a b)); rw [eqBy_eq]; cases bytesEq a b <;> rfl
  | _ => refine Eq.trans ?_ (fv1_eq k _); rfl
theorem binK_eq (E : Env) (op : BinOp) (hsh : isSh op = false) (ty : TypeId) (c : Bool) (x y : Value) (k : Value → Bool) : binK (intOp op) (strOp op) (binV E op ty c) x y k = oK k (binV E op ty c x y) := by
  cases x with
  | int kd a => cases y with
    | int kd' b =>
      show Bool.rec (motive := fun _ => Bool) false ((intOp op).run kd a b k) (kindEq kd kd') = oK k (cond (isSh op) (shV op kd a b) (cond (kindEq kd kd') (binI op kd a b) none))
      rw [intOp_eq, hsh]
      cases kindEq kd kd' <;> rfl
    | _ => rfl
  | string a => cases y with
    | string b => exact strOp_eq op _ _ k
    | _ => rfl
  | _ => refine Eq.trans ?_ (fv1_eq k _); rfl
/- memory. -/
def lK (k : List Value → Bool) : Option (List Value) → Bool
  | some l => k l
  | none => false
theorem rowK_eq (s : St) (b : Nat) (k : List Value → TypeId → Nat → Bool) : rowK s.h b k = (match s.get b with | some r => k r.cells r.elem r.sz | none => false) := by
  show Option.rec (motive := fun _ => Bool) false (fun r => Row.rec (motive := fun _ => Bool) k r) (s.get b) = _
  cases s.get b with
  | none => rfl
  | some r => cases r; rfl
theorem partZ_eq (E : Env) (ty : TypeId) (cs : List Value) (off : Nat) (k : Value → Bool) : (partZ E ty).run cs off k = oK k (E.part ty cs off) := by
  unfold partZ Env.part
  cases E.und ty with
  | none => rfl
  | some d =>
    simp only
    cases isAggD d with
    | false => exact nthW_eq off cs k
    | true =>
      simp only [cond_true]
      cases E.size ty with
      | none => rfl
      | some n =>
        simp only [natK_eq, aggZ, dropW_eq, takeW_eq, takeN_eq, dropN_eq, List.length_drop]
        by_cases h : off + n ≤ cs.length
        · rw [if_pos (by omega), if_pos (by omega), Nat.ble_eq_true_of_le h]; rfl
        · have e : Nat.ble (off + n) cs.length = false := by
            rw [Bool.eq_false_iff]; exact fun e => h (Nat.le_of_ble_eq_true e)
          rw [e]
          by_cases h2 : off ≤ cs.length
          · rw [if_pos h2, if_neg (by omega)]; rfl
          · rw [if_neg h2]; rfl
theorem ptrK_some (b o : Nat) (sp : Option Nat) (s : St) (f : Nat → Nat → List Value → TypeId → Nat → Bool) : ptrK (.pointer (some ⟨b, o, sp⟩)) s f = rowK s.h b (f b o) := rfl
theorem onPtr_some (b o : Nat) (sp : Option Nat) (f : Nat → Nat → Bool) : onPtr (.pointer (some ⟨b, o, sp⟩)) f = f b o := rfl
theorem onStr_str (b : ByteArray) (f : ByteArray → Bool) : onStr (.string b) f = f b := rfl
theorem load_eq (E : Env) (ty : TypeId) (s : St) (v : Value) (k : Value → Bool) : (ptrK v s fun _ o cs _ _ => (partZ E ty).run cs o k) = oK k (opLoad E s ty v) := by
  cases v with
  | pointer a => cases a with
    | none => rfl
    | some a =>
      obtain ⟨b, o, sp⟩ := a
      show rowK s.h b (fun cs _ _ => (partZ E ty).run cs o k) = oK k (match s.get b with | some r => E.part ty r.cells o | none => none)
      rw [rowK_eq]
      cases s.get b with
      | none => rfl
      | some r => exact partZ_eq E ty _ _ k
  | _ => rfl
theorem onCells_eq (v : Value) (k : List Value → Bool) : onCells v k (k [v]) = lK k (cellsO v) := by cases v <;> rfl
theorem cellsJ_eq (n : Nat) (v : Value) (k : List Value → Bool) (hk : ∀ vs, vs.length ≠ n → k vs = false) : (cellsJ n).run v k = lK k (cellsO v) := by
  unfold cellsJ
  cases hn : Nat.beq n 1 with
  | true => exact onCells_eq v k
  | false =>
    have h1 : n ≠ 1 := fun e => by rw [e] at hn; cases hn
    cases v with
    | agg cs => rfl
    | tuple _ => rfl
    | chan _ => rfl
    | _ => exact (hk _ (by simpa using fun e => h1 e.symm)).symm
theorem put1_eq (o n : Nat) (cs : List Value) (v : Value) (k : List Value → Bool) : ((cellsJ n).run v fun vs => (upW o).run cs (fun l k => (overW n).run l vs k) k) = lK (fun vs => cond (Nat.beq vs.length n && Nat.ble (o + n) cs.length) (k (putN cs o vs)) false) (cellsO v) := by
  rw [cellsJ_eq]
  · congr 1
    funext vs
    exact put_eq o n cs vs k
  · intro vs hv
    rw [put_eq]
    have : Nat.beq vs.length n = false := by
      rw [Bool.eq_false_iff]; exact fun e => hv (Nat.eq_of_beq_eq_true e)
    rw [this]; rfl
theorem lK_fun {k k' : List Value → Bool} (h : ∀ l, k l = k' l) (o : Option (List Value)) : lK k o = lK k' o := by
  cases o with
  | none => rfl
  | some l => exact h l
variable {E : Env} {call : CallK} {t : Tm} {s : St} {k : K2}
theorem storeJ_eq (h : t.Ok) (ty : TypeId) (a v : Operand) : (storeJ E ty (opW a) (opK v)).run call t s k = opStoreK E s ty (opv t.toL v) k (opv t.toL a) := by
  unfold storeJ
  cases hs : E.size ty with
  | none =>
    show false = _
    cases opv t.toL a with
    | pointer x => cases x with
      | none => rfl
      | some x =>
        simp only [opStoreK, hs]
        cases s.get x.block with
        | none => rfl
        | some r => cases cellsO (opv t.toL v) <;> rfl
    | _ => rfl
  | some n =>
    simp only [natK_eq, storeZ, opW_eq h, opK_eq h, put1_eq]
    cases opv t.toL a with
    | pointer x => cases x with
      | none => rfl
      | some x =>
        obtain ⟨b, o, sp⟩ := x
        rw [ptrK_some, rowK_eq]
        simp only [opStoreK, hs]
        cases s.get b with
        | none => rfl
        | some r =>
          simp only
          cases cellsO (opv t.toL v) with
          | none => rfl
          | some vs =>
            simp only [lK, storeK2, storeK3, forceL_eq, putRowK]
            cases (Nat.beq vs.length n && Nat.ble (o + n) r.cells.length) with
            | false => rfl
            | true => cases s; rfl
    | _ => rfl
theorem fieldAddrJ_eq (h : t.Ok) (ty : TypeId) (x : Operand) (f : Nat) : (fieldAddrJ E ty (opW x) f).run call t s k = vK k s (opFieldAddr E ty f (opv t.toL x)) := by
  have no : opFA1 E ⟨0, 0, none⟩ f (E.und ty) = none → True := fun _ => trivial
  unfold fieldAddrJ
  have cs : ∀ v : Value, (∀ a, opFA1 E a f (E.und ty) = none) → false = vK k s (opFieldAddr E ty f v) := fun v hv => by
    cases v with
    | pointer a => cases a with
      | none => rfl
      | some a => simp only [opFieldAddr, hv a]; rfl
    | _ => rfl
  split
  · rename_i fs hd
    split
    · rename_i fld hf
      split
      · rename_i n hn
        cases hz : Nat.beq n 0 with
        | true =>
          refine cs _ fun a => ?_
          rw [hd]
          simp only [opFA1, hf, opFA2, hn, hz, cond_true]
        | false =>
          simp only [cond_false, natK_eq, faZ, opW_eq h]
          cases opv t.toL x with
          | pointer a => cases a with
            | none => rfl
            | some a =>
              obtain ⟨b, o, sp⟩ := a
              rw [onPtr_some, fN_eq]
              simp only [opFieldAddr, hd, opFA1, hf, opFA2, hn, hz, cond_false]
              rfl
          | _ => rfl
      · rename_i hn
        refine cs _ fun a => ?_
        rw [hd]
        simp only [opFA1, hf, opFA2, hn]
    · rename_i hf
      refine cs _ fun a => ?_
      rw [hd]
      simp only [opFA1, hf, opFA2]
  · rename_i hd
    refine cs _ fun a => ?_
    cases hu : E.und ty with
    | none => rfl
    | some d => cases d with
      | struct fs => exact absurd hu (hd fs)
      | _ => rfl
theorem natIx_eq (v : Value) (f : Nat → Bool) : natIx v f = (match natOf v with | some n => f n | none => false) := by
  cases v with
  | int kd n => cases n <;> rfl
  | _ => rfl
theorem indexAddrJ_eq (h : t.Ok) (ty : TypeId) (x i : Operand) : (indexAddrJ E ty (opW x) (opW i)).run call t s k = vK k s (opIA1 E ty (opv t.toL x) (natOf (opv t.toL i))) := by
  unfold indexAddrJ
  split
  · rename_i e hd
    cases hn : E.size e with
    | none =>
      show false = _
      cases natOf (opv t.toL i) with
      | none => rfl
      | some j =>
        simp only [opIA1, hd, opIA2]
        cases opv t.toL x with
        | slice a len c => cases a with
          | none => rfl
          | some a => simp only [hn, opIA3]; rfl
        | _ => rfl
    | some n =>
      simp only [natK_eq, iaZ, opW_eq h, natIx_eq]
      cases natOf (opv t.toL i) with
      | none => rfl
      | some j =>
        simp only [opIA1, hd, opIA2]
        cases opv t.toL x with
        | slice a len c => cases a with
          | none => rfl
          | some a =>
            obtain ⟨b, o, sp⟩ := a
            simp only [hn, opIA3]
            show Bool.rec (motive := fun _ => Bool) false (fN _ _) (Nat.blt j len) = _
            rw [fN_eq]
            cases Nat.blt j len <;> rfl
        | _ => rfl
  · rename_i len e hd
    cases hn : E.size e with
    | none =>
      show false = _
      cases natOf (opv t.toL i) with
      | none => rfl
      | some j =>
        simp only [opIA1, hd, opIA2]
        cases opv t.toL x with
        | pointer a => cases a with
          | none => rfl
          | some a => simp only [hn, opIA3]; rfl
        | _ => rfl
    | some n =>
      simp only [natK_eq, iaA, opW_eq h, natIx_eq]
      cases natOf (opv t.toL i) with
      | none => rfl
      | some j =>
        simp only [opIA1, hd, opIA2]
        cases opv t.toL x with
        | pointer a => cases a with
          | none => rfl
          | some a =>
            obtain ⟨b, o, sp⟩ := a
            simp only [hn, opIA3]
            show Bool.rec (motive := fun _ => Bool) false (fN _ _) (Nat.blt j len) = _
            rw [fN_eq]
            cases Nat.blt j len <;> rfl
        | _ => rfl
  · rename_i h1 h2
    show false = _
    cases natOf (opv t.toL i) with
    | none => rfl
    | some j =>
      simp only [opIA1]
      cases hu : E.und ty with
      | none => rfl
      | some d => cases d with
        | slice e => exact absurd hu (h1 e)
        | array n e => exact absurd hu (h2 n e)
        | _ => rfl
theorem byteW_eq : ∀ (j : Nat) (l : List UInt8) (f : UInt8 → Bool), (byteW j).run l f = (match l[j]? with | some c => f c | none => false)
  | 0, [], _ => rfl
  | 0, c :: l, _ => rfl
  | n + 1, [], _ => rfl
  | n + 1, c :: l, f => by
    show (byteW n).run l f = _
    rw [byteW_eq n l f]; simp
theorem indexJ_eq (h : t.Ok) (ty : TypeId) (x i : Operand) : (indexJ E ty (opW x) (opW i)).run call t s k = vK k s (opIx1 E ty (opv t.toL x) (natOf (opv t.toL i))) := by
  unfold indexJ
  split
  · rename_i hd
    simp only [opW_eq h, natIx_eq]
    cases natOf (opv t.toL i) with
    | none => rfl
    | some j =>
      simp only [opIx1, hd, opIx2]
      cases opv t.toL x with
      | string b =>
        rw [onStr_str, fN_eq, byteW_eq]
        simp only
        cases b.data.toList[j]? with
        | none => rfl
        | some c => exact fN_eq (fun z => k (.int .u8 (.ofNat z)) s) _
      | _ => rfl
  · rename_i hd
    show false = _
    cases natOf (opv t.toL i) with
    | none => rfl
    | some j =>
      simp only [opIx1]
      cases hu : E.und ty with
      | none => rfl
      | some d => cases d with
        | string => exact absurd hu hd
        | _ => rfl
theorem newF_eq (s : St) (cs : List Value) (ty : TypeId) (sz : Nat) (f : Nat → St → Bool) : newF s cs ty sz f = newK s cs ty sz f := by
  unfold newK
  rw [forceL_eq]
  cases s with
  | mk h m c =>
    show (hu c).run h (some ⟨cs, ty, sz⟩) (fun h => fN (fun d => f c ⟨h, m, d⟩) (Nat.add c 1)) = (hu c).run h (some ⟨cs, ty, sz⟩) (fun h => forceN (fun d => f c ⟨h, m, d⟩) (c + 1))
    congr 1
theorem listK_eq {α β : Type} : ∀ (l : List α) (f : List α → β), listK l f = f l
  | [], _ => rfl
  | a :: r, f => by rw [listK, listK_eq r]
theorem allocJ_eq (ty : TypeId) : (allocJ E ty).run call t s k = nPK k s ty (E.zero ty) := by
  unfold allocJ
  cases E.zero ty with
  | none => rfl
  | some z =>
    simp only [listK_eq, alZ, nPK]
    exact newF_eq s z ty 0 _
theorem boxJ_eq (h : t.Ok) (ty : TypeId) (x : Operand) : (boxJ ty (opK x)).run call t s k = nPK k s ty (cellsO (opv t.toL x)) := by
  simp only [boxJ, opK_eq h]
  refine (onCells_eq (opv t.toL x) (fun cs => newF s cs ty 0 fun n s => k (.pointer (some ⟨n, 0, none⟩)) s)).trans ?_
  cases cellsO (opv t.toL x) with
  | none => rfl
  | some cs => exact newF_eq s cs ty 0 (fun n s => k (.pointer (some ⟨n, 0, none⟩)) s)
theorem fillJ_eq (h : t.Ok) (place : Nat → Option (Nat × Nat)) : ∀ (ps : List (Nat × Operand)) (cs : List Value) (f : List Value → Bool), (fillJ place ps).run t cs f = lK f (fillL E place t.toL ps cs)
  | [], cs, f => rfl
  | (i, x) :: r, cs, f => by
    rw [fillL]
    unfold fillJ
    cases place i with
    | none => rfl
    | some p =>
      obtain ⟨o, n⟩ := p
      simp only [natK_eq, opK_eq h, put1_eq]
      cases cellsO (opv t.toL x) with
      | none => rfl
      | some vs =>
        simp only [lK]
        cases hb : Nat.beq vs.length n with
        | false => rfl
        | true =>
          have e := Nat.eq_of_beq_eq_true hb
          rw [← e, Bool.true_and]
          cases Nat.ble (o + vs.length) cs.length with
          | false => rfl
          | true =>
            simp only [cond_true]
            exact fillJ_eq h place r _ f
theorem buildJ_eq (h : t.Ok) (ty : TypeId) (ps : List (Nat × Operand)) : (buildJ E ty ps).run call t s k = vK k s (E.build ty ps t.toL) := by
  unfold buildJ Env.build
  cases E.zero ty with
  | none => rfl
  | some z =>
    simp only
    split
    · rename_i fs hd
      simp only [hd, listK_eq, buZ, fillJ_eq (E := E) h]
      cases fillL E (fieldPl E fs.toList) t.toL ps z <;> rfl
    · rename_i len e hd
      simp only [hd]
      cases E.size e with
      | none => rfl
      | some n =>
        simp only [listK_eq, fillJ_eq (E := E) h]
        cases fillL E (fun j => some (j * n, n)) t.toL ps z <;> rfl
    · rename_i hd hd2
      cases hu : E.und ty with
      | none => rfl
      | some d => cases d with
        | struct fs => exact absurd hu (hd fs)
        | array len e => exact absurd hu (hd2 len e)
        | _ => rfl
theorem buildSliceJ_eq (h : t.Ok) (ty : TypeId) (len : Nat) (ps : List (Nat × Operand)) : (buildSliceJ E ty len ps).run call t s k = opBSK E s t.toL len ps k (E.und ty) := by
  unfold buildSliceJ
  split
  · rename_i e hd
    simp only [hd, opBSK, opBSK2]
    cases E.zero e with
    | none => rfl
    | some z =>
      simp only [opBS2]
      cases (Nat.ble (len * z.length) 100000 && Nat.blt 0 z.length) with
      | false => rfl
      | true =>
        simp only [cond_true, natK_eq, listK_eq, bsZ, fillJ_eq (E := E) h]
        cases fillL E (fun k => some (k * z.length, z.length)) t.toL ps (reps z len) with
        | none => rfl
        | some cs => exact newF_eq s cs e z.length (fun m s => k (.slice (some ⟨m, 0, none⟩) len (len + 1)) s)
  · rename_i hd
    cases hu : E.und ty with
    | none => rfl
    | some d => cases d with
      | slice e => exact absurd hu (hd e)
      | _ => rfl
theorem fieldJ_eq (h : t.Ok) (ty : TypeId) (x : Operand) (f : Nat) : (fieldJ E ty (opW x) f).run call t s k = vK k s (opF1 E f (opv t.toL x) (E.und ty)) := by
  unfold fieldJ
  split
  · rename_i fs hd
    simp only [hd, opF1]
    cases hf : fs.toList[f]? with
    | none =>
      show false = _
      cases opv t.toL x <;> rfl
    | some fl =>
      simp only [natK_eq, fiZ, opW_eq h]
      cases opv t.toL x with
      | agg cs =>
        cases cs with
        | mk l =>
          show (partZ E fl.type).run l fl.offset (fun v => k v s) = _
          rw [partZ_eq, oK_vK]; rfl
      | _ => rfl
  · rename_i hd
    cases hu : E.und ty with
    | none => rfl
    | some d => cases d with
      | struct fs => exact absurd hu (hd fs)
      | _ => rfl
theorem extractJ_eq (h : t.Ok) (x : Operand) (i : Nat) : (extractJ (opW x) i).run call t s k = vK k s (opEx i (opv t.toL x)) := by
  simp only [extractJ, opW_eq h]
  cases opv t.toL x with
  | tuple vs =>
    cases vs with
    | mk l =>
      show (nthW i).run l (fun v => k v s) = _
      rw [nthW_eq, oK_vK]; rfl
  | _ => rfl
theorem oV_eq (h : t.Ok) (d : Nat) (x : Option Operand) : natOrV d (oV t x) = natOr t.toL d x := by
  cases x with
  | none => rfl
  | some x => show natOf ((opW x).run t) = _; rw [opW_eq h]; rfl
theorem sliceJ_eq (h : t.Ok) (ty : TypeId) (x : Operand) (lo hi mx : Option Operand) : (sliceJ E ty (opW x) lo hi mx).run call t s k = vK k s (opSlice E t.toL ty x lo hi mx) := by
  cases mx with
  | none =>
    simp only [sliceJ, fvK_eq, opW_eq h, opSlice]
    congr 1
    unfold opSl2V opSl2
    simp only [oV_eq h]
    cases E.und ty with
    | none => rfl
    | some d => cases d with
      | string => cases opv t.toL x with
        | string b => cases natOr t.toL 0 lo with
          | none => rfl
          | some l => simp only; cases natOr t.toL b.data.toList.length hi <;> rfl
        | _ => rfl
      | slice e => cases opv t.toL x with
        | slice a len c => cases natOr t.toL 0 lo with
          | none => rfl
          | some l => simp only; cases natOr t.toL len hi <;> rfl
        | _ => rfl
      | _ => rfl
  | some m => cases hi with
    | none => rfl
    | some y => simp only [sliceJ, fvK_eq, opW_eq h, opSlice, oV_eq h]
theorem mkIfaceJ_eq (h : t.Ok) (ty : TypeId) (x : Operand) : (mkIfaceJ E ty (opK x)).run call t s k = vK k s (opMI ty (opv t.toL x) (E.und ty)) := by
  unfold mkIfaceJ
  cases hu : E.und ty with
  | none => rfl
  | some d => cases d <;> first
    | rfl
    | exact opK_eq h x (fun v => k (.iface ty v) s)
end Go.Proofs.YtllahinoomahnaaGreatDoor.Am
