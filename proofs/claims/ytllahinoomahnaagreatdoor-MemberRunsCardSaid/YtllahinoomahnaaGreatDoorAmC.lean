import Derived.ChangeKeysEq
import Derived.Test.YtllahinoomahnaaGreatDoorAmB
import Derived.ArgAppend
import Derived.Deep.AppendLies
import Derived.Laws.Concat
import Derived.Laws.Strings
import Derived.Laws.StructEq
import Derived.Lib.Builder
set_option linter.unusedSimpArgs false
set_option maxRecDepth 4000
namespace Go.Proofs.YtllahinoomahnaaGreatDoor.Am
open Go

theorem blt_iff (a b : Nat) : Nat.blt a b = true ↔ a < b := by simp [Nat.blt]; omega
theorem cond_or {b : Bool} {x y : Int} (h : b = true → x = y) : cond b x y = y := by
  cases b
  · rfl
  · exact h rfl
theorem wrapF_eq (k : IntKind) (n : Int) : wrapF k n = k.wrap n := by
  cases k with
  | i64 => cases n with
    | ofNat m =>
      refine cond_or fun h => ?_
      have := (blt_iff _ _).1 h
      rw [IntKind.wrap_i64, Int.ofNat_eq_natCast]
      omega
    | negSucc m =>
      refine cond_or fun h => ?_
      have := (blt_iff _ _).1 h
      rw [IntKind.wrap_i64]
      omega
  | u8 => cases n with
    | ofNat m =>
      refine cond_or fun h => ?_
      have := (blt_iff _ _).1 h
      simp only [IntKind.wrap, IntKind.bits, IntKind.signed]
      simp
      omega
    | negSucc m => rfl
  | _ => rfl
theorem intEq_eq (a b : Int) : intEq a b = (a == b) := by
  rw [Bool.eq_iff_iff, beq_iff_eq]
  cases a <;> cases b <;> simp [intEq] <;> omega
theorem intLt_eq (a b : Int) : intLt a b = decide (a < b) := by
  rw [Bool.eq_iff_iff, decide_eq_true_eq]
  have h1 : ∀ n : Nat, Int.ofNat n = (n : Int) := fun _ => rfl
  cases a <;> cases b <;> simp only [intLt, blt_iff, h1, Int.negSucc_eq, reduceCtorEq, false_iff, true_iff] <;> omega
theorem kindEq_eq {a b : IntKind} (h : kindEq a b = true) : a = b := by
  cases a <;> cases b <;> first | rfl | (simp [kindEq, IntKind.ctorIdx] at h)
theorem bytesEq_eq : ∀ (a b : List UInt8), bytesEq a b = (a == b)
  | [], [] => rfl
  | [], _ :: _ => rfl
  | _ :: _, [] => rfl
  | a :: x, b :: y => by
    rw [bytesEq]
    cases h : Nat.beq a.toNat b.toNat with
    | true =>
      have : a = b := UInt8.toNat_inj.1 (Nat.eq_of_beq_eq_true h)
      subst this
      simp [bytesEq_eq x y]
    | false =>
      have : ¬ a = b := fun e => by rw [e] at h; simp at h
      simp [this]

/-- what the program says of types. -/
structure Good (P : Program) (E : Env) : Prop where
  und : ∀ t d, E.und t = some d → P.underlying t = some d
  size : ∀ t n, E.size t = some n → ∃ i, P.info? t = some i ∧ i.size = n
  fields : ∀ t fs, E.und t = some (.struct fs) → ∀ f ∈ fs.toList, ∃ i, P.info? f.type = some i
  zv : ∀ t z, E.zv t = some z → (∃ i, P.info? t = some i ∧ i.zero = some z) ∧ ∀ ρ : Rho, VR ρ z z
  sk : ∀ t ds, E.sk t = some ds → P.eqGuardType P.depth t = false ∧ ((∃ fs : Array Field, P.underlying t = some (.struct fs) ∧ P.stoodInHeld t = false ∧ fs.toList.length = ds.length ∧ ∀ (i : Nat) (f : Field), fs.toList[i]? = some f → f.name ≠ "_" ∧ f.offset = i ∧ ∃ d, ds[i]? = some d ∧ P.underlying f.type = some d) ∨ ∃ (len : Nat) (e : TypeId) (d : TypeDesc) (i : TypeInfo), P.underlying t = some (.array len e) ∧ P.underlying e = some d ∧ P.info? e = some i ∧ i.size = 1 ∧ ds = List.replicate len d)
  xt : ∀ f g, E.xt f = some g → ∀ l v, g l = some v → ∀ (ρ : Rho) (us : List Value) (w : World), L2 ρ l us → ∃ u, (callFunc f us.toArray).run P w = .ok (.value u) w ∧ VR ρ v u
  lies : ∀ e n o u, E.lies e n o u = true → liesAt P P.depth e (n / P.cellsOf e) o u 1 = true
  zero : ∀ t l, E.zero t = some l → ∃ i z, P.info? t = some i ∧ i.zero = some z ∧ z.cells.toList = l ∧ i.size = l.length ∧ i.bytes ≤ 1000 ∧ ∀ v ∈ l, plain1 v = true
theorem run_sizeOf {P : Program} {t : TypeId} {i : TypeInfo} (h : P.info? t = some i) (w : World) : (sizeOf t).run P w = .ok i.size w := by simp [sizeOf, typeInfo, h]
section
variable {P : Program} {E : Env} {ρ : Rho} {w : World}
theorem bin_int {op : BinOp} {ty : TypeId} {k : IntKind} {a b : Int} {v : Value} {x y : Operand} (h : binI op k a b = some v) : (do eqGuard op ty x y (.int k a) (.int k b); binOp op ty (.int k a) (.int k b) : Sem Value).run P w = .ok v w ∧ VR ρ v v := by
  have hg : (eqGuard op ty x y (.int k a) (.int k b)).run P w = .ok () w := by
    unfold eqGuard; cases op <;> simp
  rw [Sem.run_bind, hg, Result.andThen_ok]
  cases op <;> simp only [binI, reduceCtorEq, Option.some.injEq] at h
  all_goals first
    | (subst h; refine ⟨?_, by rw [VR]⟩; simp [binOp, Op.intArith, Op.intCmp, wrapF_eq, intEq_eq, intLt_eq]; done)
    | (subst h; refine ⟨?_, by rw [VR]⟩; simp [binOp, Op.intArith, Op.intCmp, wrapF_eq, intEq_eq, intLt_eq, bne]; done)
    | (subst h; refine ⟨?_, by rw [VR]⟩; simp [binOp, Op.intArith, Op.intCmp, wrapF_eq, intEq_eq, intLt_eq, bne]; rw [Bool.eq_iff_iff]; simp; done)
    | (subst h; refine ⟨?_, by rw [VR]⟩; simp [binOp, Op.intBits]; done)
    | (cases hb : intEq b 0 with
        | true => rw [hb] at h; cases h
        | false =>
          rw [hb] at h
          simp only [cond_false, Option.some.injEq] at h
          subst h
          have : ¬ b = 0 := by rw [intEq_eq] at hb; simpa using hb
          refine ⟨?_, by rw [VR]⟩
          simp [binOp, Op.intDiv, wrapF_eq, this])
theorem bin_sh {op : BinOp} {ty : TypeId} {k k2 : IntKind} {a b : Int} {v : Value} {x y : Operand} (h : shV op k a b = some v) : (do eqGuard op ty x y (.int k a) (.int k2 b); binOp op ty (.int k a) (.int k2 b) : Sem Value).run P w = .ok v w ∧ VR ρ v v := by
  have hg : (eqGuard op ty x y (.int k a) (.int k2 b)).run P w = .ok () w := by
    unfold eqGuard; cases op <;> simp
  rw [Sem.run_bind, hg, Result.andThen_ok]
  cases b with
  | negSucc n => cases h
  | ofNat n =>
    have hn : ¬ (Int.ofNat n) < 0 := by simp
    cases op <;> simp only [shV, reduceCtorEq, Option.some.injEq] at h
    all_goals (subst h; refine ⟨?_, by rw [VR]⟩; simp [binOp, Op.shift]; intro h9; omega)
theorem bin_str {op : BinOp} {ty : TypeId} {a b : ByteArray} {v : Value} {x y : Operand} (h : binS op a.data.toList b.data.toList = some v) : (do eqGuard op ty x y (.string a) (.string b); binOp op ty (.string a) (.string b) : Sem Value).run P w = .ok v w ∧ VR ρ v v := by
  have hg : (eqGuard op ty x y (.string a) (.string b)).run P w = .ok () w := by
    unfold eqGuard; cases op <;> simp
  rw [Sem.run_bind, hg, Result.andThen_ok]
  cases op <;> simp only [binS, reduceCtorEq, Option.some.injEq] at h
  all_goals first
    | (subst h; refine ⟨?_, by rw [VR]⟩; simp [binOp, Op.stringOp, ByteArray.toList_eq, bytesEq_eq]; done)
    | (cases hb : Nat.blt (a.data.toList.length + b.data.toList.length) 4611686018427387904 with
        | false => rw [hb] at h; cases h
        | true =>
          rw [hb] at h
          simp only [cond_true, Option.some.injEq] at h
          subst h
          have hl := (blt_iff _ _).1 hb
          refine ⟨?_, by rw [VR]⟩
          have e : a ++ b = ⟨⟨a.data.toList ++ b.data.toList⟩⟩ := by
            cases a with | mk a => cases b with | mk b => cases a with | mk a => cases b with | mk b => exact ByteArray.mk_append_mk a b
          have hs : a.size + b.size ≤ 9223372036854775807 := by
            have h1 : a.size = a.data.toList.length := by cases a; rfl
            have h2 : b.size = b.data.toList.length := by cases b; rfl
            omega
          rw [← e]
          simp only [binOp]
          exact run_string_add_sum w a b hs)
def noAr : Value → Bool
  | .int .. => false
  | .string _ => false
  | .float .. => false
  | .complex .. => false
  | _ => true
theorem eq_run {ty : TypeId} {d : TypeDesc} (hd : P.underlying ty = some d) {c : Bool} {x y x' y' : Value} {b : Bool} (h : eqV c (some d) x y = some b) (hx : VR ρ x x') (hy : VR ρ y y') (op : BinOp) (hop : op = .eql ∨ op = .neq) {ox oy : Operand} (hc : c = true → isC ox = true ∨ isC oy = true) :
    (eqGuard op ty ox oy x' y').run P w = .ok () w ∧ (Op.equal ty x' y').run P w = .ok b w ∧ noAr x' = true := by
  have hq : ∀ (p q : Value), (∀ v, p ≠ .agg v) → (p ≠ .nilIface ∨ q ≠ .nilIface) → (eqGuard op ty ox oy p q).run P w = .ok () w := fun p q h1 h2 => by
    unfold eqGuard
    rcases hop with rfl | rfl <;> simp <;> split <;> first | rfl | (simp_all; done)
  have B : ∀ {v u : Value}, VR ρ v u → (∀ b, v = .bool b → u = .bool b) ∧ (v = .pointer none → u = .pointer none) ∧ (∀ a, v = .pointer (some a) → ∃ b, u = .pointer (some b)) ∧ (v = .nilIface → u = .nilIface) ∧ (∀ t x, v = .iface t x → ∃ y, u = .iface t y) ∧ (∀ n c, v = .slice none n c → u = .slice none 0 0) ∧ (∀ a n c, v = .slice (some a) n c → ∃ b k, u = .slice (some b) n k) ∧ (v = .map none → u = .map none) ∧ (v = .nilFunc → u = .nilFunc) ∧ (∀ f p q, v = .func f p q → ∃ p' q', u = .func f p' q') ∧ (∀ n, v = .map (some n) → ∃ m, u = .map (some m)) := by
    intro v u hv
    refine ⟨?_, ?_, ?_, ?_, ?_, ?_, ?_, ?_, ?_, ?_, ?_⟩
    · rintro b rfl; rw [VR] at hv; exact hv
    · rintro rfl; rw [VR] at hv; exact hv
    · rintro a rfl; rw [VR] at hv; obtain ⟨b, _, rfl⟩ := hv; exact ⟨b, rfl⟩
    · rintro rfl; rw [VR] at hv; exact hv
    · rintro t x rfl; rw [VR] at hv; obtain ⟨y, rfl, _⟩ := hv; exact ⟨y, rfl⟩
    · rintro n c rfl; rw [VR] at hv; exact hv.2
    · rintro a n c rfl; rw [VR] at hv; obtain ⟨b, k, _, rfl, _⟩ := hv; exact ⟨b, k, rfl⟩
    · rintro rfl; rw [VR] at hv; exact hv
    · rintro rfl; rw [VR] at hv; exact hv
    · rintro f p q rfl; obtain ⟨p', q', rfl, _⟩ := vr_func.1 hv; exact ⟨p', q', rfl⟩
    · rintro n rfl; rw [VR] at hv; obtain ⟨m, _, rfl⟩ := hv; exact ⟨m.1, rfl⟩
  obtain ⟨x1, x2, x3, x4, x5, x6, x7, x8, x9, x10, x11⟩ := B hx
  obtain ⟨y1, y2, y3, y4, y5, y6, y7, y8, y9, y10, y11⟩ := B hy
  have fin : ∀ {p q : Value} {r : Bool}, x' = p → y' = q → (∀ v, p ≠ .agg v) → (p ≠ .nilIface ∨ q ≠ .nilIface) → (∀ d, (Op.equalIn (d + 1) ty p q).run P w = .ok r w) → noAr p = true → r = b → (eqGuard op ty ox oy x' y').run P w = .ok () w ∧ (Op.equal ty x' y').run P w = .ok b w ∧ noAr x' = true := by
    rintro p q r rfl rfl h1 h2 h3 h4 rfl
    exact ⟨hq _ _ h1 h2, h3 9999, h4⟩
  unfold eqV at h
  split at h
  case h_1 e =>
    obtain rfl := Option.some.inj e
    simp only [Option.some.injEq] at h
    exact fin (x1 _ rfl) (y1 _ rfl) (fun _ => by simp) (.inl (by simp)) (fun d => by simp [Op.equalIn, run_underlying hd]) rfl h
  case h_2 bb e =>
    obtain rfl := Option.some.inj e
    simp only [Option.some.injEq] at h
    cases bb with
    | none => exact fin (x2 rfl) (y2 rfl) (fun _ => by simp) (.inl (by simp)) (fun d => by simp [Op.equalIn, run_underlying hd]) rfl h
    | some q =>
      obtain ⟨q', hq'⟩ := y3 _ rfl
      exact fin (x2 rfl) hq' (fun _ => by simp) (.inl (by simp)) (fun d => by simp [Op.equalIn, run_underlying hd]) rfl h
  case h_3 e =>
    obtain rfl := Option.some.inj e
    simp only [Option.some.injEq] at h
    obtain ⟨p', hp'⟩ := x3 _ rfl
    exact fin hp' (y2 rfl) (fun _ => by simp) (.inl (by simp)) (fun d => by simp [Op.equalIn, run_underlying hd]) rfl h
  case h_4 e =>
    obtain rfl := Option.some.inj e
    cases c with
    | false => cases h
    | true =>
      simp only [cond_true, Option.some.injEq] at h
      subst h
      rw [x4 rfl, y4 rfl]
      refine ⟨?_, (fun d => by simp [Op.equalIn, run_underlying hd] : ∀ d, (Op.equalIn (d + 1) ty .nilIface .nilIface).run P w = .ok true w) 9999, rfl⟩
      unfold eqGuard
      rcases hop with rfl | rfl <;> rcases hc rfl with h1 | h1 <;> (cases ox <;> cases oy <;> simp [isC] at h1 ⊢)
  case h_5 e =>
    obtain rfl := Option.some.inj e
    simp only [Option.some.injEq] at h
    obtain ⟨p', hp'⟩ := y5 _ _ rfl
    exact fin (x4 rfl) hp' (fun _ => by simp) (.inr (by simp)) (fun d => by simp [Op.equalIn, run_underlying hd]) rfl h
  case h_6 e =>
    obtain rfl := Option.some.inj e
    simp only [Option.some.injEq] at h
    obtain ⟨p', hp'⟩ := x5 _ _ rfl
    exact fin hp' (y4 rfl) (fun _ => by simp) (.inl (by simp)) (fun d => by simp [Op.equalIn, run_underlying hd]) rfl h
  case h_7 bb n k e =>
    obtain rfl := Option.some.inj e
    simp only [Option.some.injEq] at h
    cases bb with
    | none => exact fin (x6 _ _ rfl) (y6 _ _ rfl) (fun _ => by simp) (.inl (by simp)) (fun d => by simp [Op.equalIn, run_underlying hd]) rfl h
    | some q =>
      obtain ⟨q', k', hq'⟩ := y7 _ _ _ rfl
      exact fin (x6 _ _ rfl) hq' (fun _ => by simp) (.inl (by simp)) (fun d => by simp [Op.equalIn, run_underlying hd]) rfl h
  case h_8 e =>
    obtain rfl := Option.some.inj e
    simp only [Option.some.injEq] at h
    obtain ⟨p', k', hp'⟩ := x7 _ _ _ rfl
    exact fin hp' (y6 _ _ rfl) (fun _ => by simp) (.inl (by simp)) (fun d => by simp [Op.equalIn, run_underlying hd]) rfl h
  case h_9 bb e =>
    obtain rfl := Option.some.inj e
    simp only [Option.some.injEq] at h
    cases bb with
    | none => exact fin (x8 rfl) (y8 rfl) (fun _ => by simp) (.inl (by simp)) (fun d => by simp [Op.equalIn, run_underlying hd]) rfl h
    | some q =>
      obtain ⟨q', hq'⟩ := y11 _ rfl
      exact fin (x8 rfl) hq' (fun _ => by simp) (.inl (by simp)) (fun d => by simp [Op.equalIn, run_underlying hd]) rfl h
  case h_10 e =>
    obtain rfl := Option.some.inj e
    simp only [Option.some.injEq] at h
    obtain ⟨p', hp'⟩ := x11 _ rfl
    exact fin hp' (y8 rfl) (fun _ => by simp) (.inl (by simp)) (fun d => by simp [Op.equalIn, run_underlying hd]) rfl h
  case h_11 e =>
    obtain rfl := Option.some.inj e
    simp only [Option.some.injEq] at h
    exact fin (x9 rfl) (y9 rfl) (fun _ => by simp) (.inl (by simp)) (fun d => by simp [Op.equalIn, run_underlying hd]) rfl h
  case h_12 e =>
    obtain rfl := Option.some.inj e
    simp only [Option.some.injEq] at h
    obtain ⟨p', k', hp'⟩ := y10 _ _ _ rfl
    exact fin (x9 rfl) hp' (fun _ => by simp) (.inl (by simp)) (fun d => by simp [Op.equalIn, run_underlying hd]) rfl h
  case h_13 e =>
    obtain rfl := Option.some.inj e
    simp only [Option.some.injEq] at h
    obtain ⟨p', k', hp'⟩ := x10 _ _ _ rfl
    exact fin hp' (y9 rfl) (fun _ => by simp) (.inl (by simp)) (fun d => by simp [Op.equalIn, run_underlying hd]) rfl h
  case h_14 => cases h
/-- two values, a sign between them. -/
theorem ba_beq (a b : ByteArray) : (a == b) = bytesEq a.data.toList b.data.toList := by
  rw [bytesEq_eq, Bool.eq_iff_iff]
  have h1 : (a == b) = true ↔ a = b := by
    show (a.data == b.data) = true ↔ _
    rw [beq_iff_eq, ByteArray.ext_iff]
  rw [h1, beq_iff_eq]
  constructor
  · rintro rfl; rfl
  · intro h
    cases a with | mk a => cases b with | mk b => exact congrArg ByteArray.mk (Array.ext' h)
theorem keyFits_vr {d : TypeDesc} {v u : Value} (h : keyFits d v = true) (hv : VR ρ v u) : u = v := by
  unfold keyFits at h
  split at h
  · rw [VR] at hv; exact hv
  · rw [VR] at hv; exact hv
  · rw [VR] at hv; exact hv
  · cases h
theorem keyEq1_eq {v v' : Value} (h : keyEq1 v v' = some true) : v = v' := by
  unfold keyEq1 at h
  split at h
  · rename_i k a k' b
    cases hk : kindEq k k' with
    | false => rw [hk] at h; cases h
    | true =>
      rw [hk] at h
      simp only [cond_true, Option.some.injEq, intEq_eq, beq_iff_eq] at h
      rw [kindEq_eq hk, h]
  · rename_i a b
    simp only [Option.some.injEq, bytesEq_eq, beq_iff_eq] at h
    cases a with | mk a => cases b with | mk b => exact congrArg (fun z => Value.string ⟨z⟩) (Array.ext' h)
  · simp only [Option.some.injEq, beq_iff_eq] at h
    rw [h]
  · cases h
theorem keyEq1_now {d : TypeDesc} {v v' u' : Value} {b : Bool} (h : keyFits d v = true) (he : keyEq1 v v' = some b) (hv : VR ρ v' u') : Instr.sameNow d v u' = some b := by
  unfold keyFits at h
  split at h
  · cases v' with
    | int k' n' =>
      rw [VR] at hv; subst hv
      simp only [keyEq1] at he
      rename_i _ k n
      cases hk : kindEq k k' with
      | false => rw [hk] at he; cases he
      | true =>
        rw [hk] at he
        simp only [cond_true, Option.some.injEq] at he
        obtain rfl := kindEq_eq hk
        simp [Instr.sameNow, ← he, intEq_eq]
    | _ => simp [keyEq1] at he
  · cases v' with
    | string b' =>
      rw [VR] at hv; subst hv
      simp only [keyEq1, Option.some.injEq] at he
      simp [Instr.sameNow, ← he, ba_beq]
    | _ => simp [keyEq1] at he
  · cases v' with
    | bool b' =>
      rw [VR] at hv; subst hv
      simp only [keyEq1, Option.some.injEq] at he
      simp [Instr.sameNow, ← he]
    | _ => simp [keyEq1] at he
  · cases h
theorem keyEqL_eq : ∀ {x y : List Value}, keyEqL x y = some true → x = y
  | [], [], _ => rfl
  | [], _ :: _, h => by cases h
  | _ :: _, [], h => by cases h
  | a :: x, b :: y, h => by
    rw [keyEqL] at h
    split at h
    · rename_i h1
      rw [keyEq1_eq h1, keyEqL_eq h]
    · cases h
    · cases h
theorem keyEq_eq {v v' : Value} (h : keyEq v v' = some true) : v = v' := by
  unfold keyEq at h
  split at h
  · split at h
    · exact congrArg Value.agg (Array.ext' (keyEqL_eq h))
    · cases h
  · exact keyEq1_eq h
theorem fitL_vr : ∀ {ds : List TypeDesc} {xs ys : List Value}, fitL ds xs = true → L2 ρ xs ys → ys = xs
  | [], [], ys, _, h => List.length_eq_zero_iff.1 h.1
  | [], _ :: _, _, h, _ => by cases h
  | _ :: _, [], _, h, _ => by cases h
  | d :: ds, x :: xs, ys, h, hl => by
    obtain ⟨u, zs, rfl, h1, h2⟩ := hl.inv
    rw [fitL] at h
    cases hf : keyFits d x with
    | false => rw [hf] at h; cases h
    | true =>
      rw [hf] at h
      rw [keyFits_vr hf h1, fitL_vr (h : fitL ds xs = true) h2]
theorem keyFit_vr {kt : TypeId} {v u : Value} (h : keyFit E kt v = true) (hv : VR ρ v u) : u = v := by
  unfold keyFit at h
  split at h
  · rename_i xs
    obtain ⟨ys, rfl, hl⟩ := vr_agg.1 hv
    cases hs : E.sk kt with
    | none => rw [hs] at h; cases h
    | some ds =>
      rw [hs] at h
      exact congrArg Value.agg (Array.ext' (fitL_vr (h : fitL ds xs.toList = true) hl.1))
  · cases hd : E.und kt with
    | none => rw [hd] at h; cases h
    | some d => rw [hd] at h; exact keyFits_vr h hv
theorem sameBits_fits {d : TypeDesc} {v : Value} (h : keyFits d v = true) (n : Nat) : Instr.sameBits n v v = true := by
  unfold keyFits at h
  split at h
  · cases n <;> simp [Instr.sameBits]
  · cases n <;> simp [Instr.sameBits, ba_beq, bytesEq_eq]
  · cases n <;> simp [Instr.sameBits]
  · cases h
theorem sameBits_l (n : Nat) : ∀ {ds : List TypeDesc} {xs : List Value}, fitL ds xs = true → ((xs.zip xs).all fun (x, y) => Instr.sameBits n x y) = true
  | [], [], _ => rfl
  | [], _ :: _, h => by cases h
  | _ :: _, [], h => by cases h
  | d :: ds, x :: xs, h => by
    rw [fitL] at h
    cases hf : keyFits d x with
    | false => rw [hf] at h; cases h
    | true =>
      rw [hf] at h
      have := sameBits_l n (h : fitL ds xs = true)
      simp only [List.zip_cons_cons, List.all_cons, sameBits_fits hf n, Bool.true_and]
      exact this
theorem sameBits_self {kt : TypeId} {v : Value} (h : keyFit E kt v = true) : Instr.sameBits 10000 v v = true := by
  unfold keyFit at h
  split at h
  · rename_i xs
    cases hs : E.sk kt with
    | none => rw [hs] at h; cases h
    | some ds =>
      rw [hs] at h
      simp only [Instr.sameBits, beq_self_eq_true, Bool.true_and]
      exact sameBits_l 9999 (h : fitL ds xs.toList = true)
  · cases hd : E.und kt with
    | none => rw [hd] at h; cases h
    | some d => rw [hd] at h; exact sameBits_fits h 10000
theorem part_key {d : TypeDesc} {kt : TypeId} {v : Value} {xs : Array Value} {i : Nat} (hd : P.underlying kt = some d) (h : keyFits d v = true) (hx : xs[i]? = some v) : (part kt xs i).run P w = .ok v w := by
  unfold keyFits at h
  split at h
  · simp [part, isAgg, run_underlying hd, hx]
  · simp [part, isAgg, run_underlying hd, hx]
  · simp [part, isAgg, run_underlying hd, hx]
  · cases h
theorem part_key2 {d : TypeDesc} {kt : TypeId} {u v : Value} {xs : Array Value} {i : Nat} (hd : P.underlying kt = some d) (h : keyFits d v = true) (hx : xs[i]? = some u) : (part kt xs i).run P w = .ok u w := by
  unfold keyFits at h
  split at h
  · simp [part, isAgg, run_underlying hd, hx]
  · simp [part, isAgg, run_underlying hd, hx]
  · simp [part, isAgg, run_underlying hd, hx]
  · cases h
theorem equal1 {d : TypeDesc} {kt : TypeId} {v v' u' : Value} {b : Bool} (hd : P.underlying kt = some d) (h : keyFits d v = true) (he : keyEq1 v v' = some b) (hv : VR ρ v' u') (n : Nat) : (Op.equalIn (n + 1) kt v u').run P w = .ok b w := by
  have hn := keyEq1_now h he hv
  unfold keyFits at h
  split at h
  · cases v' with
    | int k' n' =>
      rw [VR] at hv; subst hv
      rename_i _ k m
      simp only [Instr.sameNow] at hn
      split at hn
      · rename_i hk
        subst hk
        simp only [Option.some.injEq] at hn
        simp [Op.equalIn, run_underlying hd, hn]
      · cases hn
    | _ => simp [keyEq1] at he
  · cases v' with
    | string b' =>
      rw [VR] at hv; subst hv
      simp only [Instr.sameNow, Option.some.injEq] at hn
      simp [Op.equalIn, run_underlying hd, hn]
    | _ => simp [keyEq1] at he
  · cases v' with
    | bool b' =>
      rw [VR] at hv; subst hv
      simp only [Instr.sameNow, Option.some.injEq] at hn
      simp [Op.equalIn, run_underlying hd, hn]
    | _ => simp [keyEq1] at he
  · cases h
theorem eqFields_run (X Y : Array Value) (n : Nat) : ∀ (fs : List Field) (ds : List TypeDesc) (xs ys zs : List Value) (off : Nat) (b : Bool), fs.length = ds.length → (∀ (i : Nat) (f : Field), fs[i]? = some f → f.name ≠ "_" ∧ f.offset = off + i ∧ ∃ d, ds[i]? = some d ∧ P.underlying f.type = some d) → (∀ (i : Nat) v, xs[i]? = some v → X[off + i]? = some v) → (∀ (i : Nat) v, zs[i]? = some v → Y[off + i]? = some v) → fitL ds xs = true → keyEqL xs ys = some b → L2 ρ ys zs → (Op.eqFields (n + 1) X Y fs).run P w = .ok b w
  | [], ds, xs, ys, zs, off, b, hl, _, _, _, hf, he, hL => by
    have : ds = [] := List.length_eq_zero_iff.1 (by simpa using hl.symm)
    subst this
    cases xs with
    | cons x xs => cases hf
    | nil =>
      cases ys with
      | cons y ys => cases he
      | nil =>
        obtain rfl := Option.some.inj he
        simp [Op.eqFields]
  | f :: fs, [], _, _, _, _, _, hl, _, _, _, _, _, _ => by simp at hl
  | f :: fs, d :: ds, [], _, _, _, _, _, _, _, _, hf, _, _ => by cases hf
  | f :: fs, d :: ds, x :: xs, [], _, _, _, _, _, _, _, _, he, _ => by cases he
  | f :: fs, d :: ds, x :: xs, y :: ys, zs, off, b, hl, hfs, hX, hY, hf, he, hL => by
    obtain ⟨u, zs, rfl, h1, h2⟩ := hL.inv
    obtain ⟨f1, f2, d', f3, f4⟩ := hfs 0 f rfl
    simp only [List.getElem?_cons_zero, Option.some.injEq] at f3
    subst f3
    rw [fitL] at hf
    cases hk : keyFits d x with
    | false => rw [hk] at hf; cases hf
    | true =>
      rw [hk] at hf
      have p1 := part_key (w := w) f4 hk (hX 0 x rfl)
      have p2 := part_key2 (w := w) f4 hk (hY 0 u rfl)
      rw [keyEqL] at he
      rw [Op.eqFields, if_pos f1, f2]
      split at he
      · rename_i hq
        have p3 := equal1 (w := w) f4 hk hq h1 n
        simp only [Sem.run_bind, p1, p2, p3, Result.andThen_ok, Bool.not_true, Bool.false_eq_true, if_false]
        exact eqFields_run X Y n fs ds xs ys zs (off + 1) b (by simpa using hl) (fun i f hi => by
          have := hfs (i + 1) f (by simpa using hi)
          rw [show off + 1 + i = off + (i + 1) by omega]
          simpa using this) (fun i v hi => by rw [show off + 1 + i = off + (i + 1) by omega]; exact hX (i + 1) v (by simpa using hi)) (fun i v hi => by rw [show off + 1 + i = off + (i + 1) by omega]; exact hY (i + 1) v (by simpa using hi)) hf he h2
      · rename_i hq
        obtain rfl := Option.some.inj he
        have p3 := equal1 (w := w) f4 hk hq h1 n
        simp only [Sem.run_bind, p1, p2, p3, Result.andThen_ok, Bool.not_false, if_true, Sem.run_pure]
      · cases he
theorem eqItems_run (X Y : Array Value) (n : Nat) {e : TypeId} {d : TypeDesc} (hd : P.underlying e = some d) (hc : P.cellsOf e = 1) : ∀ (len off : Nat) (xs ys zs : List Value) (b : Bool), (∀ (i : Nat) v, xs[i]? = some v → X[off + i]? = some v) → (∀ (i : Nat) v, zs[i]? = some v → Y[off + i]? = some v) → fitL (List.replicate len d) xs = true → keyEqL xs ys = some b → L2 ρ ys zs → (Op.eqItems (n + 1) e (P.cellsOf e) X Y (List.range' off len)).run P w = .ok b w
  | 0, off, xs, ys, zs, b, _, _, hf, he, _ => by
    cases xs with
    | cons x xs => cases hf
    | nil =>
      cases ys with
      | cons y ys => cases he
      | nil =>
        obtain rfl := Option.some.inj he
        simp [Op.eqItems]
  | len + 1, off, [], _, _, _, _, _, hf, _, _ => by cases hf
  | len + 1, off, x :: xs, [], _, _, _, _, _, he, _ => by cases he
  | len + 1, off, x :: xs, y :: ys, zs, b, hX, hY, hf, he, hL => by
    obtain ⟨u, zs, rfl, h1, h2⟩ := hL.inv
    rw [List.replicate_succ, fitL] at hf
    cases hk : keyFits d x with
    | false => rw [hk] at hf; cases hf
    | true =>
      rw [hk] at hf
      have p1 := part_key (w := w) hd hk (hX 0 x rfl)
      have p2 := part_key2 (w := w) hd hk (hY 0 u rfl)
      rw [keyEqL] at he
      simp only [Nat.add_zero] at p1 p2
      rw [List.range'_succ, Op.eqItems, hc, Nat.mul_one]
      split at he
      · rename_i hq
        have p3 := equal1 (w := w) hd hk hq h1 n
        simp only [Sem.run_bind, p1, p2, p3, Result.andThen_ok, Bool.not_true, Bool.false_eq_true, if_false]
        have ih := eqItems_run X Y n hd hc len (off + 1) xs ys zs b (fun i v hi => by rw [show off + 1 + i = off + (i + 1) by omega]; exact hX (i + 1) v (by simpa using hi)) (fun i v hi => by rw [show off + 1 + i = off + (i + 1) by omega]; exact hY (i + 1) v (by simpa using hi)) hf he h2
        rw [hc] at ih
        exact ih
      · rename_i hq
        obtain rfl := Option.some.inj he
        have p3 := equal1 (w := w) hd hk hq h1 n
        simp only [Sem.run_bind, p1, p2, p3, Result.andThen_ok, Bool.not_false, if_true, Sem.run_pure]
      · cases he
theorem cells_one {e : TypeId} {i : TypeInfo} (h : P.info? e = some i) (hs : i.size = 1) : P.cellsOf e = 1 := by simp [Program.cellsOf, h, hs]
theorem fields_of {kt : TypeId} {fs : Array Field} (h : P.underlying kt = some (.struct fs)) : P.fieldsOf kt = fs := by simp [Program.fieldsOf, h]
theorem equal_key (g : Good P E) {kt : TypeId} {v v' u' : Value} {b : Bool} (hf : keyFit E kt v = true) (he : keyEq v v' = some b) (hv : VR ρ v' u') : (Op.equal kt v u').run P w = .ok b w := by
  unfold keyFit at hf
  split at hf
  · rename_i xs
    cases hs : E.sk kt with
    | none => rw [hs] at hf; cases hf
    | some ds =>
      rw [hs] at hf
      obtain ⟨_, gs⟩ := g.sk _ _ hs
      simp only [keyEq] at he
      split at he
      · rename_i ys
        obtain ⟨zs, rfl, hl⟩ := vr_agg.1 hv
        rcases gs with ⟨fs, g1, g2, g3, g4⟩ | ⟨len, e, d, i, g1, g2, g3, g4, rfl⟩
        rotate_left
        · rw [Op.equal, show Op.maxDepth = 9998 + 1 + 1 from rfl, run_equalIn_array w _ xs zs g1 g3, List.range_eq_range']
          exact eqItems_run xs zs 9998 g2 (cells_one g3 g4) len 0 xs.toList ys.toList zs.toList b (fun i v hi => by simpa using hi) (fun i v hi => by simpa using hi) hf he hl.1
        rw [Op.equal, show Op.maxDepth = 9998 + 1 + 1 from rfl, run_equalIn_struct w _ kt xs zs (by rw [fields_of g1]; exact g1) g2, fields_of g1]
        exact eqFields_run xs zs 9998 fs.toList ds xs.toList ys.toList zs.toList 0 b g3 (fun i f hi => by simpa using g4 i f hi) (fun i v hi => by simpa using hi) (fun i v hi => by simpa using hi) hf he hl.1
      · cases he
  · rename_i hne
    cases hd : E.und kt with
    | none => rw [hd] at hf; cases hf
    | some d =>
      rw [hd] at hf
      have he1 : keyEq1 v v' = some b := by
        unfold keyEq at he
        split at he
        · exact absurd rfl (hne _)
        · exact he
      exact equal1 (g.und _ _ hd) hf he1 hv 9999
theorem bin_run (g : Good P E) {op : BinOp} {ty : TypeId} {x y x' y' v : Value} {ox oy : Operand} (h : binV E op ty (isC ox || isC oy) x y = some v) (hx : VR ρ x x') (hy : VR ρ y y') :
    ∃ u, (do eqGuard op ty ox oy x' y'; binOp op ty x' y' : Sem Value).run P w = .ok u w ∧ VR ρ v u := by
  have other : (∀ k a, x ≠ .int k a) → (∀ a, x ≠ .string a) → eqB op (eqV (isC ox || isC oy) (E.und ty) x y) = some v → ∃ u, (do eqGuard op ty ox oy x' y'; binOp op ty x' y' : Sem Value).run P w = .ok u w ∧ VR ρ v u := fun _ _ h => by
    cases hd : E.und ty with
    | none => rw [hd] at h; simp [eqV, eqB] at h
    | some d =>
      rw [hd] at h
      cases hb : eqV (isC ox || isC oy) (some d) x y with
      | none => rw [hb] at h; simp [eqB] at h
      | some b =>
        rw [hb] at h
        have hop : op = .eql ∨ op = .neq := by cases op <;> simp [eqB] at h <;> simp
        obtain ⟨r1, r2, r3⟩ := eq_run (w := w) (g.und _ _ hd) hb hx hy op hop (ox := ox) (oy := oy) (fun e => by simpa using e)
        rw [Sem.run_bind, r1, Result.andThen_ok]
        rcases hop with rfl | rfl
        · simp only [eqB, Option.some.injEq] at h
          subst h
          refine ⟨.bool b, ?_, by rw [VR]⟩
          have e : binOp .eql ty x' y' = (do pure (.bool (← Op.equal ty x' y')) : Sem Value) := by
            cases x' <;> first | (simp [noAr] at r3; done) | (cases y' <;> rfl)
          rw [e]; simp [r2]
        · simp only [eqB, Option.some.injEq] at h
          subst h
          refine ⟨.bool !b, ?_, by rw [VR]⟩
          have e : binOp .neq ty x' y' = (do pure (.bool (!(← Op.equal ty x' y'))) : Sem Value) := by
            cases x' <;> first | (simp [noAr] at r3; done) | (cases y' <;> rfl)
          rw [e]; simp [r2]
  cases x with
  | int k a => cases y with
    | int k' b =>
      simp only [binV] at h
      cases hsh : isSh op with
      | true =>
        rw [hsh] at h
        obtain rfl : x' = .int k a := by rw [VR] at hx; exact hx
        obtain rfl : y' = .int k' b := by rw [VR] at hy; exact hy
        exact ⟨v, bin_sh h⟩
      | false =>
      rw [hsh] at h
      simp only [cond_false] at h
      cases hk : kindEq k k' with
      | false => rw [hk] at h; cases h
      | true =>
        obtain rfl := kindEq_eq hk
        rw [hk] at h
        obtain rfl : x' = .int k a := by rw [VR] at hx; exact hx
        obtain rfl : y' = .int k b := by rw [VR] at hy; exact hy
        exact ⟨v, bin_int h⟩
    | _ => simp [binV] at h
  | string a => cases y with
    | string b =>
      simp only [binV] at h
      obtain rfl : x' = .string a := by rw [VR] at hx; exact hx
      obtain rfl : y' = .string b := by rw [VR] at hy; exact hy
      exact ⟨v, bin_str h⟩
    | _ => simp [binV] at h
  | agg a => cases y with
    | agg b =>
      simp only [binV] at h
      cases hs : E.sk ty with
      | none => rw [hs] at h; cases h
      | some ds =>
        rw [hs] at h
        cases hf : fitL ds a.toList with
        | false => simp only [fitO, hf] at h; cases h
        | true =>
          simp only [fitO, hf, cond_true] at h
          cases hb : keyEqL a.toList b.toList with
          | none => rw [hb] at h; simp [eqB] at h
          | some r =>
            rw [hb] at h
            have hkf : keyFit E ty (.agg a) = true := by simp only [keyFit, hs, fitO, hf]
            obtain rfl := keyFit_vr hkf hx
            have he := equal_key (w := w) g hkf (show keyEq (.agg a) (.agg b) = some r from hb) hy
            obtain ⟨ys, rfl, hl⟩ := vr_agg.1 hy
            obtain ⟨g3, _⟩ := g.sk _ _ hs
            have hop : op = .eql ∨ op = .neq := by cases op <;> simp [eqB] at h <;> simp
            rw [Sem.run_bind, run_eqGuard_agg w op ty ox oy a ys g3, Result.andThen_ok]
            have he' : (Op.equalIn 10000 ty (.agg a) (.agg ys)).run P w = .ok r w := he
            rcases hop with rfl | rfl
            · simp only [eqB, Option.some.injEq] at h
              subst h
              exact ⟨.bool r, by rw [run_eql_struct, he']; rfl, by rw [VR]⟩
            · simp only [eqB, Option.some.injEq] at h
              subst h
              exact ⟨.bool !r, by rw [run_neq_struct, he']; rfl, by rw [VR]⟩
    | _ => simp [binV] at h
  | pointer a => cases a with
    | none => exact other (fun _ _ => by simp) (fun _ => by simp) h
    | some a =>
      have h : ptrV E op (E.und ty) (isC ox || isC oy) a y = some v := h
      cases y with
      | pointer b => cases b with
        | none => exact other (fun _ _ => by simp) (fun _ => by simp) h
        | some b =>
          simp only [ptrV] at h
          split at h
          · rename_i te hd
            cases hs : E.size te with
            | none => rw [hs] at h; cases h
            | some n =>
              rw [hs] at h
              obtain ⟨j, hj, _⟩ := g.size _ _ hs
              cases op with
              | neq =>
                simp only at h
                cases hq : (Nat.beq a.block b.block && Nat.beq a.off b.off) with
                | false => rw [hq] at h; cases h
                | true =>
                  rw [hq] at h
                  obtain rfl := Option.some.inj h
                  simp only [Bool.and_eq_true] at hq
                  rw [VR] at hx hy
                  obtain ⟨_, ⟨p, hp, rfl⟩, rfl⟩ := hx
                  obtain ⟨_, ⟨q, hq', rfl⟩, rfl⟩ := hy
                  rw [← Nat.eq_of_beq_eq_true hq.1, hp] at hq'
                  obtain rfl := Option.some.inj hq'
                  rw [← Nat.eq_of_beq_eq_true hq.2]
                  have hgd : (eqGuard .neq ty ox oy (.pointer (some ⟨p.1, a.off, none⟩)) (.pointer (some ⟨p.1, a.off, none⟩))).run P w = .ok () w := by
                    unfold eqGuard
                    simp
                  rw [Sem.run_bind, hgd, Result.andThen_ok]
                  exact ⟨_, Go.Lib.run_neq_ptr_same (P := P) w _ (g.und _ _ hd) hj, by rw [VR]⟩
              | _ => cases h
          · cases h
      | _ => exact other (fun _ _ => by simp) (fun _ => by simp) h
  | _ => exact other (fun _ _ => by simp) (fun _ => by simp) h
end
end Go.Proofs.YtllahinoomahnaaGreatDoor.Am
