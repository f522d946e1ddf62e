import Derived.Test.YtllahinoomahnaaGreatDoorAmD
set_option linter.unusedSimpArgs false
namespace Go.Proofs.YtllahinoomahnaaGreatDoor.Am
open Go

section
variable {P : Program} {E : Env} {ρ : Rho} {w : World} {s : St}
theorem un_run {op : UnOp} {x v x' : Value} (h : opUn op x = some v) (hx : VR ρ x x') : ∃ u, (Op.unary op x').run P w = .ok u w ∧ VR ρ v u := by
  unfold opUn at h
  split at h
  · rename_i b
    obtain rfl : x' = .bool b := by rw [VR] at hx; exact hx
    cases op <;> simp at h
    subst h
    exact ⟨.bool !b, by simp [Op.unary], by rw [VR]⟩
  · rename_i k n
    obtain rfl : x' = .int k n := by rw [VR] at hx; exact hx
    cases op <;> simp at h
    subst h
    exact ⟨.int k (k.wrap (0 - n)), by simp [Op.unary, Op.intArith], by rw [VR, wrapF_eq]; simp⟩
  · cases h
theorem nc_run {x v x' : Value} {ox : Operand} {a : Act} (h : opNilCheck x = some v) (hx : VR ρ x x') (he : a.eval ox = x') {o : Oper} (ho : o.op = .nilCheck ox) : ∃ u, (execOp a.eval o).run P w = .ok (.value u) w ∧ VR ρ v u := by
  unfold opNilCheck at h
  split at h
  · rename_i b
    simp only [Option.some.injEq] at h
    subst h
    obtain ⟨y, hy, rfl⟩ := ptr_vr hx
    exact ⟨_, by simp [execOp, ho, he], hx⟩
  · rename_i f p q
    simp only [Option.some.injEq] at h
    subst h
    obtain ⟨p', q', rfl, _⟩ := vr_func.1 hx
    exact ⟨_, by simp [execOp, ho, he], hx⟩
  · rename_i t z
    simp only [Option.some.injEq] at h
    subst h
    obtain ⟨y, rfl, _⟩ : ∃ y, x' = .iface t y ∧ VR ρ z y := by rw [VR] at hx; exact hx
    exact ⟨_, by simp [execOp, ho, he], hx⟩
  · cases h
theorem mi_run (g : Good P E) {ty : TypeId} {x v x' : Value} (h : opMI ty x (E.und ty) = some v) (hx : VR ρ x x') : ∃ u, (Instr.makeInterface ty x').run P w = .ok u w ∧ VR ρ v u := by
  unfold opMI at h
  split at h
  · cases h
  · rename_i d hn hd
    simp only [Option.some.injEq] at h
    subst h
    refine ⟨.iface ty x', ?_, by rw [VR]; exact ⟨_, rfl, hx⟩⟩
    have hu := run_underlying (g.und _ _ hd) w
    cases d <;> simp [Instr.makeInterface, hu]
    exact absurd rfl (hn _)
  · cases h
theorem cv_run (g : Good P E) {src dst : TypeId} {x v x' : Value} (h : opCv0 (opCv x (E.und dst)) (E.und src) = some v) (hx : VR ρ x x') : ∃ u, (convert src dst x').run P w = .ok u w ∧ VR ρ v u := by
  unfold opCv0 at h
  split at h
  case h_2 => cases h
  case h_1 sd hsd =>
  have hs := g.und _ _ hsd
  unfold opCv at h
  split at h
  · rename_i k hd
    split at h
    · rename_i kd n
      simp only [Option.some.injEq] at h
      subst h
      obtain rfl : x' = .int kd n := by rw [VR] at hx; exact hx
      exact ⟨.int k (k.wrap n), by simp [convert, run_underlying hs, run_underlying (g.und _ _ hd), Conv.intToInt], by rw [VR, wrapF_eq]⟩
    · cases h
  · rename_i hd
    split at h
    · rename_i b
      simp only [Option.some.injEq] at h
      subst h
      obtain rfl : x' = .string b := by rw [VR] at hx; exact hx
      exact ⟨.string b, by simp [convert, run_underlying hs, run_underlying (g.und _ _ hd)], by rw [VR]⟩
    · cases h
  · cases h
theorem getObj_map {b clock : Nat} {cs : Array MapEntry} (h : w.heap[b]? = some (.map cs clock)) : (getObj b).run P w = .ok (.map cs clock) w := by
  simp [getObj, Sem.run, h]
theorem len_run (g : Good P E) (hR : R ρ s w) {ty t2 : TypeId} {x v x' : Value} (h : opLen s x (E.und ty) = some v) (hx : VR ρ x x') : ∃ u, (Builtin.len_ #[ty] t2 #[x']).run P w = .ok u w ∧ VR ρ v u := by
  unfold opLen at h
  split at h
  · rename_i hd
    split at h
    · rename_i b
      simp only [Option.some.injEq] at h
      subst h
      obtain rfl : x' = .string b := by rw [VR] at hx; exact hx
      refine ⟨goInt b.size, by simp [Builtin.len_, run_underlying (g.und _ _ hd)], ?_⟩
      have h1 : b.size = b.data.toList.length := by cases b; rfl
      rw [VR, ← h1]; rfl
    · cases h
  · rename_i e hd
    split at h
    · rename_i a n c
      simp only [Option.some.injEq] at h
      subst h
      cases a with
      | none =>
        obtain ⟨rfl, rfl⟩ : n = 0 ∧ x' = .slice none 0 0 := by rw [VR] at hx; exact hx
        exact ⟨goInt 0, by simp [Builtin.len_, run_underlying (g.und _ _ hd)], by rw [VR]; rfl⟩
      | some a =>
        obtain ⟨b, cap, y, rfl, _⟩ := slice_vr hx
        exact ⟨goInt n, by simp [Builtin.len_, run_underlying (g.und _ _ hd)], by rw [VR]; rfl⟩
    · cases h
  · rename_i ke el hd
    cases he : entries s x with
    | none => rw [he] at h; cases h
    | some es =>
      rw [he] at h
      simp only [opLenM] at h
      cases hit : isIt es with
      | true => rw [hit] at h; cases h
      | false =>
      rw [hit] at h
      obtain rfl := Option.some.inj h
      unfold entries at he
      split at he
      · obtain rfl : x' = .map none := by rw [VR] at hx; exact hx
        obtain rfl := Option.some.inj he
        exact ⟨goInt 0, by simp [Builtin.len_, run_underlying (g.und _ _ hd)], by rw [VR]; rfl⟩
      · rename_i n
        obtain ⟨y, h1, hM⟩ := hR.maps n es he
        rcases hM with ⟨cs, cl, h2, h3, h4⟩ | ⟨t0, n0, cur0, left0, e0, _⟩
        · obtain ⟨y', hy', rfl⟩ : ∃ y', ρ n = some y' ∧ x' = .map (some y'.1) := by rw [VR] at hx; exact hx
          rw [h1] at hy'
          obtain rfl := Option.some.inj hy'
          exact ⟨goInt cs.size, by simp [Builtin.len_, run_underlying (g.und _ _ hd), getObj_map h2], by rw [VR, ← h3.1]; rfl⟩
        · rw [e0] at hit; cases hit
      · cases he
  · cases h
theorem natOr_run {t : List Value} {a : Act} (hT : TR ρ t a) {d n : Nat} {x : Option Operand} (h : natOr t d x = some n) : (x = none ∧ n = d) ∨ ∃ o k, x = some o ∧ a.eval o = .int k (n : Int) := by
  cases x with
  | none => simp [natOr] at h; exact .inl ⟨rfl, h.symm⟩
  | some o =>
    obtain ⟨k, hk⟩ := natOf_run (h : natOf (opv t o) = some n) (hT.opv o)
    exact .inr ⟨o, k, rfl, hk⟩
theorem bounds_run {b : Bool} {len cap l h : Nat} {lo hi : Option Operand} {a : Act} (hl : (lo = none ∧ l = 0) ∨ ∃ o k, lo = some o ∧ a.eval o = .int k (l : Int)) (hh : (hi = none ∧ h = len) ∨ ∃ o k, hi = some o ∧ a.eval o = .int k (h : Int)) (h1 : h ≤ cap) (h2 : l ≤ h) : (Instr.sliceBounds b len cap (lo.map a.eval) (hi.map a.eval) none).run P w = .ok (l, h, cap) w := by
  have e1 : (0 : Int) ≤ (h : Int) ∧ (h : Int) ≤ (cap : Int) := by omega
  have e2 : (0 : Int) ≤ (l : Int) ∧ (l : Int) ≤ (h : Int) := by omega
  rcases hl with ⟨rfl, rfl⟩ | ⟨o, k, rfl, ho⟩ <;> rcases hh with ⟨rfl, rfl⟩ | ⟨o', k', rfl, ho'⟩
  · simp [Instr.sliceBounds]
  · simp [Instr.sliceBounds, Instr.sliceBound, asIntOf, ho']
    exact fun h => absurd h (by omega)
  · simp [Instr.sliceBounds, Instr.sliceBound, asIntOf, ho]
    exact fun h => absurd h (by omega)
  · simp [Instr.sliceBounds, Instr.sliceBound, asIntOf, ho, ho', h1, h2]
theorem sl_run (g : Good P E) {t : List Value} {a : Act} (hT : TR ρ t a) {ty : TypeId} {x x' v : Value} {lo hi : Option Operand} (h : opSl2 E x t lo hi (E.und ty) = some v) (hx : VR ρ x x') : ∃ u, (Instr.sliceAt ty x' (lo.map a.eval) (hi.map a.eval) none).run P w = .ok u w ∧ VR ρ v u := by
  unfold opSl2 at h
  split at h
  · rename_i hd
    split at h
    · rename_i b
      split at h
      · rename_i l hl
        split at h
        · rename_i hh hhi
          unfold opSlS at h
          cases hc : (Nat.ble hh b.data.toList.length && Nat.ble l hh) with
          | false => rw [hc] at h; cases h
          | true =>
            rw [hc] at h
            simp only [cond_true, Option.some.injEq] at h
            subst h
            obtain rfl : x' = .string b := by rw [VR] at hx; exact hx
            simp only [Bool.and_eq_true, Nat.ble_eq] at hc
            have hs : b.size = b.data.toList.length := by cases b; rfl
            rw [← hs] at hhi hc
            have hb := bounds_run (P := P) (w := w) (b := false) (len := b.size) (cap := b.size) (natOr_run hT hl) (natOr_run hT hhi) hc.1 hc.2
            refine ⟨.string (b.extract l hh), by simp [Instr.sliceAt, Instr.slice, run_underlying (g.und _ _ hd), hb], ?_⟩
            rw [VR]
            congr 1
            apply ByteArray.ext
            rw [ByteArray.data_extract]
            apply Array.ext'
            rw [Array.toList_extract, List.extract_eq_take_drop, List.drop_take]
        · cases h
      · cases h
    · cases h
  · rename_i e hd
    split at h
    · rename_i ad len c
      split at h
      · rename_i l hl
        split at h
        · rename_i hh hhi
          unfold opSl3 at h
          split at h
          · rename_i n hn
            cases hc : (Nat.ble hh len && Nat.ble l hh) with
            | false => rw [hc] at h; cases h
            | true =>
              rw [hc] at h
              simp only [cond_true] at h
              simp only [Bool.and_eq_true, Nat.ble_eq] at hc
              obtain ⟨j, hj, rfl⟩ := g.size _ _ hn
              cases ad with
              | none =>
                simp only [Option.some.injEq] at h
                subst h
                obtain ⟨rfl, rfl⟩ : len = 0 ∧ x' = .slice none 0 0 := by rw [VR] at hx; exact hx
                have e0 : hh = 0 ∧ l = 0 := by omega
                obtain ⟨rfl, rfl⟩ := e0
                have hb := bounds_run (P := P) (w := w) (b := true) (len := 0) (cap := 0) (natOr_run hT hl) (natOr_run hT hhi) (Nat.le_refl _) (Nat.le_refl _)
                exact ⟨.slice none 0 0, by simp [Instr.sliceAt, Instr.slice, run_underlying (g.und _ _ hd), hb, run_sizeOf hj], by rw [VR]; exact ⟨rfl, rfl⟩⟩
              | some ad =>
                simp only [Option.some.injEq] at h
                subst h
                obtain ⟨b, cap, y, rfl, h1, h2, h3, h4, h5⟩ := slice_vr hx
                have hb := bounds_run (P := P) (w := w) (b := true) (len := len) (cap := cap) (natOr_run hT hl) (natOr_run hT hhi) (by omega) hc.2
                refine ⟨.slice (some (if cap = l then b else b.add (l * j.size))) (hh - l) (cap - l), ?_, ?_⟩
                · simp [Instr.sliceAt, Instr.slice, run_underlying (g.und _ _ hd), hb, run_sizeOf hj]
                  split <;> rfl
                · rw [VR]
                  refine ⟨_, _, y, rfl, by omega, .inl rfl, h3, ?_, ?_⟩
                  · intro e0
                    simp only at e0
                    have h6 := h4 (by omega)
                    exact Nat.le_trans (Nat.mul_le_mul_right _ (Nat.sub_le _ _)) h6
                  · intro e0
                    simp only at e0
                    by_cases hcl : cap = l
                    · rw [if_pos hcl]
                      rcases e0 with e0 | e0
                      · rw [h5 (.inl (by omega))]
                        simp; omega
                      · omega
                    · rw [if_neg hcl]
                      rcases e0 with e0 | e0
                      · rw [h5 (.inl (by omega)), addr_add]
                      · rw [h5 (.inr (by omega)), addr_add]
          · cases h
        · cases h
      · cases h
    · cases h
  · cases h
theorem bounds_run3 {len cap l h c : Nat} {lo : Option Operand} {a : Act} {vh vm : Value} {k1 k2 : IntKind} (hl : (lo = none ∧ l = 0) ∨ ∃ o k, lo = some o ∧ a.eval o = .int k (l : Int)) (hh : vh = .int k1 (h : Int)) (hm : vm = .int k2 (c : Int)) (h0 : c ≤ cap) (h1 : h ≤ c) (h2 : l ≤ h) : (Instr.sliceBounds true len cap (lo.map a.eval) (some vh) (some vm)).run P w = .ok (l, h, c) w := by
  subst hh hm
  have e1 : (0 : Int) ≤ (h : Int) ∧ (h : Int) ≤ (c : Int) := by omega
  have e2 : (0 : Int) ≤ (l : Int) ∧ (l : Int) ≤ (h : Int) := by omega
  have e3 : (0 : Int) ≤ (c : Int) ∧ (c : Int) ≤ (cap : Int) := by omega
  rcases hl with ⟨rfl, rfl⟩ | ⟨o, k, rfl, ho⟩
  · simp [Instr.sliceBounds, Instr.sliceBound, asIntOf, h0, h1]
  · simp [Instr.sliceBounds, Instr.sliceBound, asIntOf, ho, h0, h1, h2]
theorem slm_run (g : Good P E) {t : List Value} {a : Act} (hT : TR ρ t a) {ty : TypeId} {x x' v H M H' M' : Value} {lo : Option Operand} (h : opSlM E x (natOr t 0 lo) (natOf H) (natOf M) (E.und ty) = some v) (hx : VR ρ x x') (hH : VR ρ H H') (hM : VR ρ M M') : ∃ u, (Instr.sliceAt ty x' (lo.map a.eval) (some H') (some M')).run P w = .ok u w ∧ VR ρ v u := by
  unfold opSlM at h
  split at h
  · rename_i e hd
    split at h
    · rename_i ad len c0
      cases hl : natOr t 0 lo with
      | none => rw [hl] at h; cases h
      | some l =>
        cases hh : natOf H with
        | none => rw [hl, hh] at h; cases h
        | some hi =>
          cases hm : natOf M with
          | none => rw [hl, hh, hm] at h; cases h
          | some c =>
            rw [hl, hh, hm] at h
            simp only at h
            obtain ⟨k1, e1⟩ := natOf_run hh hH
            obtain ⟨k2, e2⟩ := natOf_run hm hM
            unfold opSlM2 at h
            split at h
            · rename_i n hn
              cases hc : (Nat.ble c len && (Nat.ble hi c && Nat.ble l hi)) with
              | false => rw [hc] at h; cases h
              | true =>
                rw [hc] at h
                simp only [cond_true] at h
                simp only [Bool.and_eq_true, Nat.ble_eq] at hc
                obtain ⟨c1, c2, c3⟩ := hc
                obtain ⟨j, hj, rfl⟩ := g.size _ _ hn
                cases ad with
                | none =>
                  simp only [Option.some.injEq] at h
                  subst h
                  obtain ⟨rfl, rfl⟩ : len = 0 ∧ x' = .slice none 0 0 := by rw [VR] at hx; exact hx
                  obtain ⟨rfl, rfl, rfl⟩ : c = 0 ∧ hi = 0 ∧ l = 0 := by omega
                  have hb := bounds_run3 (P := P) (w := w) (len := 0) (cap := 0) (natOr_run hT hl) e1 e2 (Nat.le_refl _) (Nat.le_refl _) (Nat.le_refl _)
                  exact ⟨.slice none 0 0, by simp [Instr.sliceAt, Instr.slice, run_underlying (g.und _ _ hd), hb, run_sizeOf hj], by rw [VR]; exact ⟨rfl, rfl⟩⟩
                | some ad =>
                  simp only [Option.some.injEq] at h
                  subst h
                  obtain ⟨b, cap, y, rfl, h1, h2, h3, h4, h5⟩ := slice_vr hx
                  have hb := bounds_run3 (P := P) (w := w) (len := len) (cap := cap) (natOr_run hT hl) e1 e2 (by omega) c2 c3
                  refine ⟨.slice (some (if c = l then b else b.add (l * j.size))) (hi - l) (c - l), ?_, ?_⟩
                  · simp [Instr.sliceAt, Instr.slice, run_underlying (g.und _ _ hd), hb, run_sizeOf hj]
                    split <;> rfl
                  · rw [VR]
                    refine ⟨_, _, y, rfl, by omega, .inr rfl, h3, ?_, ?_⟩
                    · intro e0
                      simp only at e0
                      have h6 := h4 (by omega)
                      exact Nat.le_trans (Nat.mul_le_mul_right _ (by omega)) h6
                    · intro e0
                      simp only at e0
                      by_cases hcl : c = l
                      · rw [if_pos hcl]
                        rcases e0 with e0 | e0
                        · rw [h5 (.inl (by omega))]
                          simp; omega
                        · omega
                      · rw [if_neg hcl]
                        rcases e0 with e0 | e0
                        · rw [h5 (.inl (by omega)), addr_add]
                        · rw [h5 (.inr (by omega)), addr_add]
            · cases h
    · cases h
  · cases h
theorem min_run {t1 : Array TypeId} {t2 : TypeId} {x y v x' y' : Value} (h : opMin false x y = some v) (hx : VR ρ x x') (hy : VR ρ y y') : ∃ u, (Builtin.min_ t1 t2 #[x', y']).run P w = .ok u w ∧ VR ρ v u := by
  unfold opMin at h
  split at h
  · rename_i k a k' b
    rw [VR] at hx hy
    subst hx hy
    obtain rfl := Option.some.inj h
    refine ⟨.int k (if b < a then b else a), by simp [Builtin.min_, Builtin.min2], ?_⟩
    rw [VR, cond_false, intLt_eq]
    by_cases hq : b < a <;> simp [hq]
  · cases h
theorem max_run {t1 : Array TypeId} {t2 : TypeId} {x y v x' y' : Value} (h : opMin true x y = some v) (hx : VR ρ x x') (hy : VR ρ y y') : ∃ u, (Builtin.max_ t1 t2 #[x', y']).run P w = .ok u w ∧ VR ρ v u := by
  unfold opMin at h
  split at h
  · rename_i k a k' b
    rw [VR] at hx hy
    subst hx hy
    obtain rfl := Option.some.inj h
    refine ⟨.int k (if b > a then b else a), by simp [Builtin.max_, Builtin.max2], ?_⟩
    rw [VR, cond_true, intLt_eq]
    by_cases hq : a < b <;> simp [hq]
  · cases h
end
end Go.Proofs.YtllahinoomahnaaGreatDoor.Am
