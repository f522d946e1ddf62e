import Derived.Test.YtllahinoomahnaaGreatDoorAmWc
set_option linter.unusedVariables false
set_option linter.unusedSimpArgs false
namespace Go.Proofs.YtllahinoomahnaaGreatDoor.Am
open Go Go.RowKit

variable {E : Env} {call : CallK} {t : Tm} {s : St} {fl an : List Nat} {all : List Oper} {pre : List (List Nat)} {c0 : Nat}
theorem light_of {o : Op} {k : K2} {l : List Value} (h : isHeavy o = false) : oneOpK E call l s k o = vK k s (lightV E l s o) := by
  cases o with
  | call c =>
    simp only [isHeavy] at h
    cases hc : c.callee with
    | value f => rw [hc] at h; cases h
    | invoke r m => rw [hc] at h; cases h
    | builtin b =>
      rw [hc] at h
      cases b with
      | len =>
        simp only [oneOpK, lightV, lenV, hc, opCallK, opBIK]
        match c.args.toList, c.argTypes.toList with
        | [x], [ty] => rfl
        | [], _ => rfl
        | _ :: _ :: _, _ => rfl
        | [_], [] => rfl
        | [_], _ :: _ :: _ => rfl
      | cap =>
        simp only [oneOpK, lightV, lenV, hc, opCallK, opBIK]
        match c.args.toList, c.argTypes.toList with
        | [x], [ty] => rfl
        | [], _ => rfl
        | _ :: _ :: _, _ => rfl
        | [_], [] => rfl
        | [_], _ :: _ :: _ => rfl
      | min =>
        simp only [oneOpK, lightV, lenV, hc, opCallK, opBIK]
        match c.args.toList, c.argTypes.toList with
        | [x, y], _ => rfl
        | [], _ => rfl
        | [_], [] => rfl
        | [_], [_] => rfl
        | [_], _ :: _ :: _ => rfl
        | _ :: _ :: _ :: _, _ => rfl
      | max =>
        simp only [oneOpK, lightV, lenV, hc, opCallK, opBIK]
        match c.args.toList, c.argTypes.toList with
        | [x, y], _ => rfl
        | [], _ => rfl
        | [_], [] => rfl
        | [_], [_] => rfl
        | [_], _ :: _ :: _ => rfl
        | _ :: _ :: _ :: _, _ => rfl
      | _ => cases h
  | store _ _ _ => cases h
  | alloc _ => cases h
  | box _ _ => cases h
  | buildSlice _ _ _ => cases h
  | mapUpdate _ _ _ _ => cases h
  | makeMap _ _ => cases h
  | makeSlice _ _ _ => cases h
  | range _ _ => cases h
  | next _ _ => cases h
  | entry _ => cases h
  | _ => rfl
theorem vK_oK (f : Value → Bool) (o : Option Value) : vK (fun v _ => f v) s o = oK f o := by cases o <;> rfl
theorem flInfoJ_eq (h : t.Ok) (o : Op) (f : FlI → Bool) : (flInfoJ E o).run t f = flK f (flInfo E t.toL o) := by
  cases o with
  | alloc ty =>
    simp only [flInfoJ, flInfo]
    cases E.zero ty with
    | none => rfl
    | some z => simp only [listK_eq]; rfl
  | box ty x =>
    simp only [flInfoJ, flInfo, opK_eq h]
    refine (onCells_eq (opv t.toL x) (fun cs => f ⟨cs, ty, 0, .pointer⟩)).trans ?_
    cases cellsO (opv t.toL x) <;> rfl
  | buildSlice ty len ps =>
    simp only [flInfoJ, flInfo]
    cases E.und ty with
    | none => rfl
    | some d => cases d with
      | slice e =>
        simp only [flBS]
        cases E.zero e with
        | none => rfl
        | some z =>
          simp only [opBS2]
          cases (Nat.ble (len * z.length) 100000 && Nat.blt 0 z.length) with
          | false => rfl
          | true =>
            simp only [cond_true, natK_eq, listK_eq, flBZ, fillJ_eq (E := E) h]
            cases fillL E (fun k => some (k * z.length, z.length)) t.toL ps.toList (reps z len) <;> rfl
      | _ => rfl
  | makeSlice ty x y =>
    simp only [flInfoJ, flInfo]
    cases E.und ty with
    | none => rfl
    | some d => cases d with
      | slice e => simp only [opW_eq h]
      | _ => rfl
  | _ => rfl
theorem gdJ_eq (h : t.Ok) {i : Nat} {o : Oper} (hh : hvy ⟨fl, 0, an⟩ i o = false) (f : Value → Bool) : (gdJ E fl all i o).run c0 t s f = oK f (gd E ⟨fl, c0, an⟩ all t.toL s i o) := by
  unfold gdJ gd
  show (cond (hasN fl i) _ _ : LW).run c0 t s f = oK f (cond (hasN fl i) _ _)
  cases hf : hasN fl i with
  | true =>
    simp only [cond_true, flJ, flV]
    cases o.guard with
    | some g => rfl
    | none =>
      simp only
      rw [flInfoJ_eq h]
      cases flInfo E t.toL o.op with
      | none => rfl
      | some I =>
        simp only [flK, fN_eq, fV_eq]
        rfl
  | false =>
    have hl : isHeavy o.op = false := by
      unfold hvy at hh
      simp only [hf, cond_false] at hh
      cases ha : hasN an i with
      | true => rw [ha] at hh; simp only [cond_true, Bool.or_eq_false_iff] at hh; exact hh.1
      | false => rw [ha] at hh; exact hh
    have go : ((opJ E o.op).run noCall t s fun v _ => f v) = oK f (lightV E t.toL s o.op) := by rw [opJ_eq h, light_of hl, vK_oK]
    simp only [cond_false, guarded]
    cases hg : o.guard with
    | none =>
      simp only
      cases hm : moveOf o.op with
      | none => exact go
      | some x =>
        show f ((opW x).run t) = _
        rw [opW_eq h]
        cases ho : o.op with
        | move y => rw [ho] at hm; obtain rfl := Option.some.inj hm; rfl
        | assign y => rw [ho] at hm; obtain rfl := Option.some.inj hm; rfl
        | _ => rw [ho] at hm; cases hm
    | some g =>
      simp only
      rw [guardV_eq h]
      cases gdst all g.1 with
      | none => rfl
      | some d =>
        simp only [Option.bind_some]
        rw [guardJ_eq h, go]
        cases isBoolV (if d < t.n then some ((twJ d).run t) else none) with
        | false => rfl
        | true => cases isWant g.2 (if d < t.n then some ((twJ d).run t) else none) <;> rfl
def lp (F : Fl) (all : List Oper) (p : Nat → Bool) (i : Nat) : Bool := match all[i]? with
  | some o => cond (hvy F i o) false (p i)
  | none => false
theorem passJ_eq {new : Nat → Bool} {f : Tm → Bool} {f' : List Value → Bool} (hf : ∀ t', t'.Ok → f t' = f' t'.toL) : ∀ (l : List Nat) (t : Tm), t.Ok → (passJ E fl all (l.filter (lp ⟨fl, 0, an⟩ all new))).run c0 s t f = passK E ⟨fl, c0, an⟩ all new s f' l t.toL
  | [], t, h => hf t h
  | i :: r, t, h => by
    have ih := fun t h => passJ_eq (new := new) (f := f) (f' := f') hf r t h
    rw [passK]
    cases ho : all[i]? with
    | none =>
      rw [List.filter_cons_of_neg (by simp [lp, ho])]
      exact ih t h
    | some o =>
      simp only
      have e : hvy ⟨fl, c0, an⟩ i o = hvy ⟨fl, 0, an⟩ i o := rfl
      rw [e]
      cases hh : hvy ⟨fl, 0, an⟩ i o with
      | true =>
        rw [List.filter_cons_of_neg (by simp [lp, ho, hh])]
        exact ih t h
      | false =>
        cases hn : new i with
        | false =>
          rw [List.filter_cons_of_neg (by simp [lp, ho, hh, hn])]
          exact ih t h
        | true =>
          rw [List.filter_cons_of_pos (by simp [lp, ho, hh, hn])]
          simp only [cond_false, cond_true]
          unfold passJ
          simp only [ho]
          rw [gdJ_eq h hh]
          cases gd E ⟨fl, c0, an⟩ all t.toL s i o with
          | none => rfl
          | some v => exact putJ_eq h o.dst v fun t' h' => ih t' h'
theorem eqAd_eq (a b : Option Addr) : eqAd a b = eqA a b := by
  cases a with
  | none => cases b <;> rfl
  | some a =>
    obtain ⟨b1, o1, sp⟩ := a
    cases sp with
    | some x => cases b <;> rfl
    | none => cases b with
      | none => rfl
      | some b =>
        obtain ⟨b2, o2, sp2⟩ := b
        cases sp2 with
        | some x => rfl
        | none =>
          show Bool.rec (motive := fun _ => Bool) false (Nat.beq o1 o2) (Nat.beq b1 b2) = (Nat.beq b1 b2 && Nat.beq o1 o2)
          cases Nat.beq b1 b2 <;> rfl
theorem eqF_eq (v u : Value) : eqF v u = eqVal 5 v u := by
  cases v with
  | bool a => cases u with
    | bool b => cases a <;> cases b <;> rfl
    | _ => rfl
  | int kd a => cases u with
    | int kd' b =>
      show Bool.rec (motive := fun _ => Bool) false (eqI a b) (kindEq kd kd') = (kindEq kd kd' && intEq a b)
      rw [eqI_eq]
      cases kindEq kd kd' <;> rfl
    | _ => rfl
  | string a => cases u with
    | string b => exact eqBy_eq _ _
    | _ => rfl
  | pointer a => cases u with
    | pointer b => exact eqAd_eq a b
    | _ => rfl
  | slice a n c => cases u with
    | slice b m e =>
      show Bool.rec (motive := fun _ => Bool) false (Bool.rec (motive := fun _ => Bool) false (Nat.beq c e) (Nat.beq n m)) (eqAd a b) = (eqA a b && (Nat.beq n m && Nat.beq c e))
      rw [eqAd_eq]
      cases eqA a b <;> cases Nat.beq n m <;> rfl
    | _ => rfl
  | _ => rfl
theorem chkV_eq (h : t.Ok) (d : Option Tmp) (v : Value) : (chkV d).run v t = chk1 t.toL d (some v) := by
  cases d with
  | none => rfl
  | some n =>
    simp only [chk1, at?_eq, t.getE]
    show Bool.rec (motive := fun _ => Bool) false (eqF v ((twJ n).run t)) (Nat.blt n t.n) = _
    by_cases e : n < t.n
    · rw [if_pos e, (blt16 n t.n).2 e, eqF_eq, twJ_eq h, atD_eq, t.getE, if_pos e]; rfl
    · have hb : Nat.blt n t.n = false := by rw [Bool.eq_false_iff]; exact fun q => e ((blt16 _ _).1 q)
      rw [if_neg e, hb]
theorem chkJ_eq (h : t.Ok) {q : Nat → Bool} : ∀ (l : List Nat), (chkJ E fl all (l.filter (lp ⟨fl, 0, an⟩ all q))).run c0 t s = l.all fun i => match all[i]? with
    | some o => cond (hvy ⟨fl, c0, an⟩ i o) true (cond (q i) (chk1 t.toL o.dst (gd E ⟨fl, c0, an⟩ all t.toL s i o)) true)
    | none => true
  | [] => rfl
  | i :: r => by
    have ih := chkJ_eq (q := q) h r
    rw [List.all_cons]
    cases ho : all[i]? with
    | none =>
      rw [List.filter_cons_of_neg (by simp [lp, ho]), ih]; rfl
    | some o =>
      simp only
      have e : hvy ⟨fl, c0, an⟩ i o = hvy ⟨fl, 0, an⟩ i o := rfl
      rw [e]
      cases hh : hvy ⟨fl, 0, an⟩ i o with
      | true => rw [List.filter_cons_of_neg (by simp [lp, ho, hh]), ih]; rfl
      | false =>
        cases hn : q i with
        | false => rw [List.filter_cons_of_neg (by simp [lp, ho, hh, hn]), ih]; rfl
        | true =>
          rw [List.filter_cons_of_pos (by simp [lp, ho, hh, hn])]
          simp only [cond_false, cond_true]
          unfold chkJ
          simp only [ho]
          rw [gdJ_eq (an := an) h hh]
          cases gd E ⟨fl, c0, an⟩ all t.toL s i o with
          | none => rfl
          | some v =>
            simp only [oK]
            rw [chkV_eq h, ih]
            cases chk1 t.toL o.dst (some v) <;> rfl
theorem matJ_eq (h : t.Ok) {f : St → Bool} : ∀ (l : List Nat) (s : St), (matJ E all l).run c0 t s f = matK E ⟨fl, c0, an⟩ all t.toL f l s
  | [], s => rfl
  | i :: r, s => by
    rw [matK]
    unfold matJ
    cases all[i]? with
    | none => rfl
    | some o =>
      simp only
      rw [flInfoJ_eq h]
      cases flInfo E t.toL o.op with
      | none => rfl
      | some I =>
        simp only [flK, mat1, forceL_eq, fL_eq]
        cases s with
        | mk hh m c =>
          show fN (fun n => (hu n).run hh (some ⟨I.cs, I.ty, I.sz⟩) fun h => (matJ E all r).run c0 t ⟨h, m, c⟩ f) (Nat.add c0 i) = (hu (c0 + i)).run hh (some ⟨I.cs, I.ty, I.sz⟩) fun h => matK E ⟨fl, c0, an⟩ all t.toL f r ⟨h, m, c⟩
          rw [fN_eq]
          congr 1
          funext h2
          exact matJ_eq h r ⟨h2, m, c⟩
theorem heavyJ_eq (h : t.Ok) (o : Oper) {k : K2} : (heavyJ E all o).run call t s k = heavyK E call all o k t.toL s := by
  unfold heavyJ heavyK
  cases o.guard with
  | none => exact opJ_eq h o.op
  | some g =>
    simp only
    rw [guardV_eq h]
    cases gdst all g.1 with
    | none => rfl
    | some d =>
      simp only [Option.bind_some]
      rw [guardJ_eq h, opJ_eq h]
theorem stageJ_eq (h : t.Ok) {dn rem : List Nat} {new : Nat → Bool} {next : KJ} {next' : KT} (hk : KEq next next') : (stageJ E fl an all pre dn rem new).run call c0 next t s = stageK E ⟨fl, c0, an⟩ all pre dn rem new next' t.toL s := by
  unfold stageJ stageK
  refine passJ_eq (fun t' h' => ?_) (List.range all.length) t h
  show Bool.rec (motive := fun _ => Bool) false (next t' s) ((chkJ E fl all ((List.range all.length).filter (lp ⟨fl, 0, an⟩ all fun i => (avail pre rem i && live pre dn i) && !new i))).run c0 t' s) = _
  rw [chkJ_eq (an := an) h', hk t' s h']
  show Bool.rec (motive := fun _ => Bool) false (next' t'.toL s) (chkAll E ⟨fl, c0, an⟩ all pre dn rem new t'.toL s) = _
  cases chkAll E ⟨fl, c0, an⟩ all pre dn rem new t'.toL s <;> rfl
theorem evSJ_eq {k : KJ} {k' : KT} (hk : KEq k k') : ∀ (rem dn : List Nat), KEq ((evSJ E fl an all pre rem dn).run call c0 k) (evS E ⟨fl, c0, an⟩ call all pre k' rem dn)
  | [], dn, t, s, h => by
    unfold evSJ evS
    show (matJ E all (fl.filter (live pre dn))).run c0 t s (fun s => k t s) = _
    rw [matJ_eq (fl := fl) (an := an) h]
    congr 1
    funext s
    exact hk t s h
  | x :: rem, dn, t, s, h => by
    unfold evSJ evS
    cases all[x]? with
    | none => rfl
    | some o =>
      simp only
      rw [matJ_eq (fl := fl) (an := an) h]
      congr 1
      funext s
      rw [heavyJ_eq h]
      congr 1
      funext v s'
      exact putJ_eq h o.dst v fun t' h' => stageJ_eq h' (evSJ_eq hk rem (dn ++ [x]))
theorem listLK_eq {β : Type} : ∀ (l : List (List Nat)) (f : List (List Nat) → β), listLK l f = f l
  | [], _ => rfl
  | a :: r, f => by rw [listLK, listK_eq, listLK_eq r]
theorem drawJ_eq (ops : Array Oper) (id : Nat) {k : KJ} {k' : KT} (hk : KEq k k') (h : t.Ok) : (drawJ E ops).run call k t s = drawK E call id ops k' t.toL s := by
  unfold drawJ drawK
  simp only [listLK_eq, listK_eq]
  generalize preOf ops.toList [] = pre
  generalize antiOf ops.toList pre = an
  generalize floatsOf ops.toList pre = fl
  have one : ∀ (c0 : Nat) (s : St), (draw1J E fl an ops.toList pre (heavies ⟨fl, 0, an⟩ ops.toList)).run call c0 k t s = stageK E ⟨fl, c0, an⟩ ops.toList pre [] (heavies ⟨fl, 0, an⟩ ops.toList) (avail pre (heavies ⟨fl, 0, an⟩ ops.toList)) (evS E ⟨fl, c0, an⟩ call ops.toList pre k' (heavies ⟨fl, 0, an⟩ ops.toList) []) t.toL s := fun c0 s => stageJ_eq (call := call) h (evSJ_eq hk _ [])
  cases hs : statB ⟨fl, 0, an⟩ ops.toList pre with
  | false =>
    show false = _
    cases fl with
    | nil => simp only [draw2, draw1, hs]; rfl
    | cons x r => simp only [draw2, draw1, hs, forceN_eq]; rfl
  | true =>
    simp only [cond_true]
    cases fl with
    | nil =>
      simp only [draw2J, draw2, draw1, hs, cond_true]
      exact one s.c s
    | cons x r =>
      simp only [draw2J, draw2, draw1, hs, cond_true, forceN_eq]
      cases s with
      | mk h m c => rw [fN_eq]; exact one c ⟨h, m, Nat.add c ops.toList.length⟩
/- code. -/
theorem loopJ_eq {body : KJ → KJ} {body' : KT → KT} (hb : ∀ k k', KEq k k' → KEq (body k) (body' k')) : ∀ n, KEq (loopJ body n) (loopK body' n)
  | 0, t, s, h => rfl
  | n + 1, t, s, h => by
    show body (loopJ body n) t s = body' (fun t s => loopK body' n t s) t.toL s
    exact hb _ _ (loopJ_eq hb n) t s h
theorem exitJ_eq {id : Nat} {k : KJ} {k' : KT} {ke : Nat → KJ} {ke' : Nat → KT} (hk : KEq k k') (he : ∀ i, KEq (ke i) (ke' i)) (i : Nat) : KEq (exitJ id k ke i) (exitK id k' ke' i) := by
  unfold exitJ exitK
  cases Nat.beq i id with
  | true => exact hk
  | false => exact he i
theorem codeJ_eq {kr : KJ} {kr' : KT} (hr : KEq kr kr') : ∀ (c : Code) (ke : Nat → KJ) (ke' : Nat → KT) (k : KJ) (k' : KT), (∀ i, KEq (ke i) (ke' i)) → KEq k k' → KEq ((codeJ E (drawJ E) c).run call kr ke k) (evCodeK E call (drawK E call) kr' c ke' k') := by
  intro c
  induction c with
  | skip => exact fun ke ke' k k' he hk => hk
  | label l => exact fun ke ke' k k' he hk => hk
  | exit id => exact fun ke ke' k k' he hk => he id
  | ret => exact fun ke ke' k k' he hk => hr
  | region id ops d =>
    intro ke ke' k k' he hk t s h
    cases d with
    | false => exact opsJ_eq ops.toList hk ops.toList t s h
    | true => exact drawJ_eq ops id hk h
  | seq a b iha ihb => exact fun ke ke' k k' he hk => iha ke ke' _ _ he (ihb ke ke' k k' he hk)
  | cond c a b iha ihb =>
    intro ke ke' k k' he hk t s h
    show onBool ((opW c).run t) ((codeJ E (drawJ E) a).run call kr ke k t s) ((codeJ E (drawJ E) b).run call kr ke k t s) = condK (evCodeK E call (drawK E call) kr' a ke' k' t.toL s) (evCodeK E call (drawK E call) kr' b ke' k' t.toL s) (opv t.toL c)
    rw [opW_eq h, iha ke ke' k k' he hk t s h, ihb ke ke' k k' he hk t s h]
    cases opv t.toL c with
    | bool b => cases b <;> rfl
    | _ => rfl
  | block id b ih => exact fun ke ke' k k' he hk => ih _ _ k k' (exitJ_eq hk he) hk
  | loop b ih =>
    intro ke ke' k k' he hk t s h
    have hL := fun n => loopJ_eq (body := fun k t s => (codeJ E (drawJ E) b).run call kr ke k t s) (body' := evCodeK E call (drawK E call) kr' b ke') (fun k k' hk => ih ke ke' k k' he hk) n t s h
    rw [evCodeK]
    unfold codeJ
    dsimp only
    exact hL 100000
  | _ => exact fun ke ke' k k' he hk t s h => rfl
theorem resLJ_eq (h : t.Ok) : ∀ (rs : List ResultVar) (f : List Value → Bool), (resLJ E rs).run t s f = lK f (resL E t.toL s rs)
  | [], f => rfl
  | .tmp n :: r, f => by
    rw [resL]
    show (tkJ n).run t (fun v => (resLJ E r).run t s fun l => f (v :: l)) = _
    rw [tkJ_eq h, resLJ_eq h r]
    cases resL E t.toL s r <;> rfl
  | .cell a ty :: r, f => by
    rw [resL]
    show ptrK ((twJ a).run t) s (fun _ o cs _ _ => (partZ E ty).run cs o fun v => (resLJ E r).run t s fun l => f (v :: l)) = _
    rw [twJ_eq h, load_eq]
    cases opLoad E s ty (atD t.toL a) with
    | none => rfl
    | some v =>
      simp only [oK]
      rw [resLJ_eq h r]
      cases resL E t.toL s r <;> rfl
theorem resT_eq (k : K2) (o : Option (List Value)) : lK (fun l => resT k s l) o = resK k s o := by
  cases o with
  | none => rfl
  | some l =>
    match l with
    | [] => rfl
    | [v] => rfl
    | v :: v' :: r => simp only [resK, forceL_eq]; rfl
def setAll : List Value → Nat → List Value → List Value
  | l, _, [] => l
  | l, i, v :: r => setAll (l.set i v) (i + 1) r
theorem argsJ_eq {f : Tm → Bool} {f' : List Value → Bool} (hf : ∀ t', t'.Ok → f t' = f' t'.toL) : ∀ (m i : Nat) (args : List Value) (t : Tm), t.Ok → (argsJ m i).run args t f = if args.length ≤ m then f' (setAll t.toL i args) else false
  | 0, i, [], t, h => by rw [if_pos (by simp)]; exact hf t h
  | 0, i, v :: r, t, h => by rw [if_neg (by simp)]; rfl
  | m + 1, i, [], t, h => by
    rw [if_pos (by simp)]
    unfold argsJ
    rw [natK_eq]
    exact hf t h
  | m + 1, i, v :: r, t, h => by
    unfold argsJ
    rw [natK_eq]
    show (tsJ i).run t v (fun t => (argsJ m (i + 1)).run r t f) = _
    rw [tsJ_eq h i v (k' := fun l => if r.length ≤ m then f' (setAll l (i + 1) r) else false) fun t' h' => argsJ_eq hf m (i + 1) r t' h']
    simp only [List.length_cons, Nat.add_le_add_iff_right]
    rfl
theorem setAll_eq : ∀ (args p : List Value) (m : Nat), args.length ≤ m → setAll (p ++ List.replicate m undef) p.length args = p ++ (args ++ List.replicate (m - args.length) undef)
  | [], p, m, _ => by simp [setAll]
  | v :: r, p, m, h => by
    cases m with
    | zero => simp at h
    | succ m =>
      rw [setAll, List.replicate_succ, List.set_append_right _ _ (Nat.le_refl _)]
      simp only [Nat.sub_self, List.set_cons_zero]
      have := setAll_eq r (p ++ [v]) m (by simpa using h)
      simp only [List.append_assoc, List.length_append, List.length_singleton, List.singleton_append] at this
      rw [this]
      simp
theorem undefs_at (n i : Nat) : Tm.at ⟨n, undefs⟩ i = undef := by
  unfold Tm.at undefs
  simp only [g16_n16]
theorem undefs_toL (n : Nat) : Tm.toL ⟨n, undefs⟩ = List.replicate n undef := by
  apply List.ext_getElem?
  intro i
  rw [Tm.getE, List.getElem?_replicate, undefs_at]
theorem bodyJ_eq {fn : Func} {args : List Value} {k : K2} (h : (bodyJ E (drawJ E) fn).run call args s k = true) : bodyK E call (drawK E call) fn args s k fn.body = true := by
  unfold bodyJ at h
  unfold bodyK
  cases hb : fn.body with
  | none => rw [hb] at h; cases h
  | some c =>
    rw [hb] at h
    simp only at h ⊢
    cases hn : Nat.ble fn.ntmps 256 with
    | false => rw [hn] at h; cases h
    | true =>
      rw [hn] at h
      simp only [cond_true, natK_eq, boZ] at h
      have hle := Nat.le_of_ble_eq_true hn
      have hok : Tm.Ok ⟨fn.ntmps, undefs⟩ := ⟨hle, fun i _ _ => undefs_at _ i⟩
      have hr : KEq (fun t s => (resLJ E fn.results.toList).run t s fun l => resT k s l) (fun t s => resK k s (resL E t s fn.results.toList)) := fun t s h => by
        show (resLJ E fn.results.toList).run t s _ = _
        rw [resLJ_eq h, resT_eq]
      rw [argsJ_eq (f' := fun l => evCodeK E call (drawK E call) (fun t s => resK k s (resL E t s fn.results.toList)) c (fun _ _ _ => false) (fun t s => resK k s (resL E t s fn.results.toList)) l s) (fun t' h' => codeJ_eq hr c (fun _ _ _ => false) (fun _ _ _ => false) _ _ (fun i t s h => rfl) hr t' s h') fn.ntmps 0 args _ hok] at h
      by_cases hl : args.length ≤ fn.ntmps
      · rw [if_pos hl, undefs_toL] at h
        have := setAll_eq args [] fn.ntmps hl
        simp only [List.nil_append, List.length_nil] at this
        rw [this] at h
        rw [forceL_eq]
        exact h
      · rw [if_neg hl] at h; cases h
theorem evJ_ok {P : Program} (g : Good P E) (gf : GoodF P E) (hm : P.follows .mixedOrders = true) : ∀ n, CallOk P (evJ E (drawJ E) n)
  | 0 => fun f args s k h => by cases h
  | n + 1 => fun f args s k h => by
    have ih := evJ_ok g gf hm n
    have h : (fnJ E (drawJ E) f).run (evJ E (drawJ E) n) args s k = true := h
    unfold fnJ at h
    cases hx : E.ext f with
    | some gg =>
      rw [hx] at h
      exact gf.ext f gg hx f args s k (by show cond (Nat.beq f f) _ _ = true; rw [show Nat.beq f f = true from Nat.beq_refl f]; exact h)
    | none =>
      rw [hx] at h
      simp only at h
      cases hf : E.fn f with
      | none => rw [hf] at h; cases h
      | some fn =>
        rw [hf] at h
        exact ⟨(gf.fn f fn hf).2, fun ρ w us hR hl => body_ok g ih (draw_ok g hm ih) (gf.fn f fn hf).1 (bodyJ_eq h) hR hl⟩
/-- a closed run, by the kernel. -/
theorem runs_by {P : Program} {ext : FuncId → Option (List Value → St → (Value → St → Bool) → Bool)} {xt : FuncId → Option (List Value → Option Value)} (hm : P.follows .mixedOrders = true) (hxt : XtOk P xt) (hx : ExtOk P ext) {n : Nat} {f : FuncId} (h : evJ (envOf P ext xt) (drawJ (envOf P ext xt)) n f [] nilSt isTrue = true) (w : World) : Calls P f #[] w fun e w' => e = .returned (.bool true) ∧ Below w.heap.size w w' := by
  have g := good_of P ext hxt
  refine ((evJ_ok g (goodF_of hx) hm n f [] nilSt isTrue h).2 (fun _ => none) w [] (R.nil w) (L2.nil _)).mono ?_
  rintro e w' ⟨v, u, ρ', s', rfl, hv, _, hx, hk⟩
  have : v = .bool true := by
    unfold isTrue at hk
    split at hk
    · rfl
    · cases hk
  subst this
  obtain rfl : u = .bool true := by rw [VR] at hv; exact hv
  refine ⟨rfl, hx.os, hx.tape, hx.output, hx.size, fun k hk => hx.frame k hk ?_⟩
  rintro ⟨n, x, ⟨r, h1⟩ | ⟨r, h1⟩, _⟩
  · rw [nil_get] at h1; cases h1
  · rw [nil_gm] at h1; cases h1
end Go.Proofs.YtllahinoomahnaaGreatDoor.Am
