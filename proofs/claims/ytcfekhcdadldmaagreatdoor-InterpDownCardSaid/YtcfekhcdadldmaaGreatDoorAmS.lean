import Derived.Test.YtcfekhcdadldmaaGreatDoorAmT
import Derived.Lib.AppendZeros
import Derived.Lib.AppendStr
import Derived.Lib.UnsafeStr
import Derived.Laws.IdiomStrings
import Derived.Laws.BytesArg
set_option linter.unusedSimpArgs false
namespace Go.Proofs.YtcfekhcdadldmaaGreatDoor.Am
open Go
section
variable {P : Program} {E : Env} {ρ : Rho} {s : St} {w : World} {t : List Value} {a : Act} {o : Oper} {k : K2} {Q : Exit → Act → World → Prop}
theorem shape_of {b : Nat} {c : Array Value} {e : TypeId} (h : w.heap[b]? = some (.cells c e)) : w.shape? b = some (e, c.size) := by simp [World.shape?, h]
theorem to_any {src dst t e : TypeId} {j : TypeInfo} {n : Nat} (p : Addr) (hs : P.underlying src = some (.pointer t)) (hd : P.underlying dst = some .unsafePointer) (ht : P.info? t = some j) (hj : j.size ≠ 0) (hsh : w.shape? p.block = some (e, n)) (hp : p.off < n) : (convert src dst (.pointer (some p))).run P w = .ok (.pointer (some p)) w := by
  have h1 : ¬ n ≤ p.off := by omega
  simp [convert, Conv.unsafePointer, Conv.seenAt, cellsIn, viewAt, run_underlying hs, run_underlying hd, run_sizeOf ht, hsh, hj, h1]
theorem of_any {src dst u e : TypeId} {j : TypeInfo} {n : Nat} (p : Addr) (hs : P.underlying src = some .unsafePointer) (hd : P.underlying dst = some (.pointer u)) (hu : P.info? u = some j) (hsh : w.shape? p.block = some (e, n)) (hl : liesAt P P.depth e (n / P.cellsOf e) p.off u 1 = true) : (convert src dst (.pointer (some p))).run P w = .ok (.pointer (some p)) w := by
  simp [convert, Conv.unsafePointer, Conv.seenAt, variablesAt, viewAt, run_underlying hs, run_underlying hd, run_sizeOf hu, hsh, hl]
theorem byteVs_str (b : ByteArray) : byteVs b.data.toList = Go.Lib.strCells b := rfl
theorem byteVs_l2 (ρ : Rho) : ∀ (l : List UInt8), L2 ρ (byteVs l) (byteVs l)
  | [] => L2.nil ρ
  | c :: l => (byteVs_l2 ρ l).cons (by rw [VR])
theorem byteVs_one : ∀ (l : List UInt8), ∀ v ∈ byteVs l, one v = true := fun l v hv => by
  unfold byteVs at hv
  obtain ⟨c, _, rfl⟩ := List.mem_map.1 hv
  rfl
theorem byteVs_len (l : List UInt8) : (byteVs l).length = l.length := by simp [byteVs]
theorem app_take {xs ys : List Value} {c : List Value} (h : c = xs ++ ys) : c.take xs.length = xs := by rw [h]; simp
theorem apS_run (g : Good P E) (hR : R ρ s w) {t1 t2 : TypeId} {X Y X' Y' : Value} (h : opApS E s X Y k (E.und t2) (E.und t1) = true) (hX : VR ρ X X') (hY : VR ρ Y Y') (ty : TypeId) : ∃ u w', (Builtin.append_ #[t1, t2] ty #[X', Y']).run P w = .ok u w' ∧ Ap ρ s w k u w' := by
  unfold opApS at h
  split at h
  case h_2 => cases h
  rename_i e hd
  unfold opApS2 at h
  split at h
  case h_1 hd2 =>
    unfold opApZ at h
    split at h
    case h_2 => cases h
    rename_i n0 c0
    split at h
    case h_2 => cases h
    rename_i m
    unfold opApZ1 at h
    split at h
    case h_2 => cases h
    rename_i z hz
    obtain ⟨i, zv, hi, hz0, rfl, hsz, hb, hp⟩ := g.zero _ _ hz
    unfold opApZ2 at h
    cases hq : (Nat.blt 0 m && (Nat.ble m 100000 && Nat.blt 0 zv.cells.toList.length)) with
    | false => rw [hq] at h; cases h
    | true =>
      rw [hq] at h
      simp only [cond_true, nSK] at h
      simp only [Bool.and_eq_true, Nat.ble_eq, blt_iff] at hq
      obtain ⟨q1, q2, q3⟩ := hq
      obtain ⟨_, rfl⟩ : _ ∧ X' = .slice none 0 0 := by rw [VR] at hX; exact hX
      obtain rfl : Y' = .int .i64 (.ofNat m) := by rw [VR] at hY; exact hY
      have hzr : ∀ q, Builtin.zeroCells zv.cells q = (reps zv.cells.toList q).toArray := fun q => zeros_reps zv.cells q (by simpa using q3)
      have hge := grownCap_ge w m 0 e
      refine ⟨_, _, Go.Lib.run_append_nil_zeros (P := P) w t1 t2 ty e i zv .i64 .i64 (g.und _ _ hd) (g.und _ _ hd2) hi hz0 m q1 (by rw [hsz]; exact q3) (by omega) (by
        have : m * i.bytes ≤ 100000 * 1000 := Nat.mul_le_mul q2 hb
        omega), ?_⟩
      refine append_new hR (s0 := s) rfl (fun _ => rfl) (fun _ _ h => h) h (xs := reps zv.cells.toList m) ⟨reps_len _ _, .inr ⟨w.heap.size, grownCap w m 0 e, _, rfl, Nat.le_refl _, heap_alloc_new w.drew _, hge, grownCap_le_maxLen w m 0 e (by unfold maxLen; omega), ?_, ?_⟩⟩ q1 (by omega) ⟨rfl, rfl, rfl, by show w.heap.size ≤ (w.heap.push _).size; simp, fun j hj _ => heap_alloc_old w.drew _ hj⟩ (plains_l2 (reps_mem hp m)) (fun v hv => (plain_vr (ρ := ρ) (reps_mem hp m v hv)).2)
      · rw [hzr, hzr]
        simp only [Array.size_append, List.size_toArray, reps_len]
        rw [← Nat.add_mul]
        congr 1
        omega
      · rw [hzr, hzr]
        simp only [List.append_toArray, List.take_append, reps_len, Nat.sub_self, List.take_zero, List.append_nil]
        rw [List.take_of_length_le (by rw [reps_len]; exact Nat.le_refl _)]
  case h_3 => cases h
  rename_i hd2
  split at h
  case h_2 => cases h
  rename_i b
  obtain rfl : Y' = .string b := by rw [VR] at hY; exact hY
  split at h
  case h_2 => cases h
  rename_i z hz
  obtain ⟨i, zv, hi, hz0, rfl, hsz, hb, hp⟩ := g.zero _ _ hz
  cases hz1 : Nat.beq zv.cells.toList.length 1 with
  | false => rw [hz1] at h; cases h
  | true =>
    rw [hz1] at h
    simp only [cond_true] at h
    have hs1 : i.size = 1 := by rw [hsz]; exact Nat.eq_of_beq_eq_true hz1
    have hund := g.und _ _ hd
    have hund2 := g.und _ _ hd2
    have hbl : b.data.toList.length = b.size := by cases b; rfl
    unfold opApS3 at h
    split at h
    case h_2 => cases h
    rename_i base n c
    rw [hbl] at h
    cases hm0 : Nat.beq b.size 0 with
    | true =>
      rw [hm0] at h
      have h0 : b.size = 0 := Nat.eq_of_beq_eq_true hm0
      have hf : ∀ sz, (Builtin.firstCells sz 0 (.string b)).run P w = .ok #[] w := fun sz => by
        have := Go.Lib.run_firstCells_string (P := P) w sz b
        rw [h0] at this
        rw [this]
        have e : Go.Lib.strCells b = [] := List.eq_nil_of_length_eq_zero (by rw [Go.Lib.strCells_length]; exact h0)
        rw [e]
      obtain ⟨b'', c'', rfl, hle⟩ : ∃ b' c', X' = .slice b' n c' ∧ n ≤ c' := by
        cases base with
        | none =>
          obtain ⟨rfl, rfl⟩ : n = 0 ∧ X' = .slice none 0 0 := by rw [VR] at hX; exact hX
          exact ⟨none, 0, rfl, Nat.le_refl _⟩
        | some ad =>
          obtain ⟨b, cap, x, rfl, h1, _⟩ := slice_vr hX
          exact ⟨_, _, rfl, h1⟩
      refine ⟨.slice b'' n c'', w, ?_, _, ρ, s, hX, hR, Ext.refl _ _ _, h⟩
      cases b'' with
      | none => simp [Builtin.append_, run_underlying hund, run_underlying hund2, run_sizeOf hi, Builtin.lenOf, h0, hf, hle, storeCells]
      | some q => simp [Builtin.append_, run_underlying hund, run_underlying hund2, run_sizeOf hi, Builtin.lenOf, h0, hf, hle, storeCells]
    | false =>
      rw [hm0] at h
      simp only [cond_false] at h
      have hpos : 0 < b.size := by
        rcases Nat.eq_zero_or_pos b.size with e0 | e0
        · rw [e0] at hm0; cases hm0
        · exact e0
      cases hq : Nat.blt 1000000 (n + b.size) with
      | true => rw [hq] at h; cases h
      | false =>
        rw [hq] at h
        simp only [cond_false] at h
        have hnm : n + b.size ≤ 1000000 := by
          have := hq
          rw [Bool.eq_false_iff] at this
          have h4 : ¬ 1000000 < n + b.size := fun e0 => this ((blt_iff _ _).2 e0)
          omega
        have hbytes : (n + b.size) * i.bytes ≤ 140737488355328 := Nat.le_trans (Nat.mul_le_mul hnm hb) (by decide)
        have hsc := byteVs_str b
        have hscl : (Go.Lib.strCells b).length = b.size := Go.Lib.strCells_length b
        unfold opApS4 at h
        split at h
        · obtain ⟨rfl, rfl⟩ : n = 0 ∧ X' = .slice none 0 0 := by rw [VR] at hX; exact hX
          rw [hbl] at h
          simp only [nSK, Nat.zero_add] at h
          have hr := run_append_nil_string (P := P) w t1 t2 ty e i zv hund hund2 hi hz0 b hpos (by omega) (by
            have : b.size * i.bytes ≤ 140737488355328 := by simpa using hbytes
            omega)
          refine ⟨_, _, hr, ?_⟩
          obtain ⟨s', h1, h2, h3, h3m⟩ := newK_ok h
          have hge := grownCap_ge w b.size 0 e
          have e1 : (b.data.map fun x => Value.int .u8 x.toNat) = (byteVs b.data.toList).toArray := by
            apply Array.ext'
            simp [byteVs]
          rw [e1]
          have hcs : ((byteVs b.data.toList).toArray ++ Builtin.zeroCells zv.cells (grownCap w b.size 0 e - b.size)).toList = byteVs b.data.toList ++ (Builtin.zeroCells zv.cells (grownCap w b.size 0 e - b.size)).toList := by simp
          have hcz : ((byteVs b.data.toList).toArray ++ Builtin.zeroCells zv.cells (grownCap w b.size 0 e - b.size)).size = grownCap w b.size 0 e := by
            have hz1' : zv.cells.size = 1 := by simpa using Nat.eq_of_beq_eq_true hz1
            simp only [Array.size_append, List.size_toArray, size_zeroCells, hz1', byteVs_len, hbl]
            omega
          obtain ⟨r1, r2⟩ := hR.new (w' := w.drew.alloc (.cells ((byteVs b.data.toList).toArray ++ Builtin.zeroCells zv.cells (grownCap w b.size 0 e - b.size)) e)) (b := w.heap.size) (sz := 1) h2 h3 h3m (Nat.le_refl _) (heap_alloc_new w.drew _) (by simp) (fun k hk => heap_alloc_old w.drew _ hk) (by rw [app_take hcs]; exact byteVs_l2 ρ _) (by rw [hcz, byteVs_len, hbl]; exact hge) (byteVs_one _) (fun e => by cases e) rfl rfl rfl
          refine ⟨_, _, s', ?_, r1, r2, h1⟩
          rw [VR]
          exact ⟨_, grownCap w b.size 0 e, _, rfl, hge, .inl rfl, upd_same _ _ _, fun _ => by simp only [hcz]; omega, fun _ => rfl⟩
        · rename_i ad
          obtain ⟨q, cap, x, rfl, h1, h2, h3, h4, h5⟩ := slice_vr hX
          split at h
          case h_2 => cases h
          rename_i r hr
          cases hq2 : (Nat.beq ad.off 0 && (Nat.ble n r.cells.length && (Nat.beq r.sz 1 && Nat.beq r.elem e))) with
          | false => rw [hq2] at h; cases h
          | true =>
            rw [hq2] at h
            simp only [cond_true] at h
            simp only [Bool.and_eq_true] at hq2
            have f1 : ad.off = 0 := Nat.eq_of_beq_eq_true hq2.1
            have f2 : n ≤ r.cells.length := Nat.le_of_ble_eq_true hq2.2.1
            have f3 : r.sz = 1 := Nat.eq_of_beq_eq_true hq2.2.2.1
            have f4 : r.elem = e := Nat.eq_of_beq_eq_true hq2.2.2.2
            obtain rfl := h5 (.inl f1)
            rw [f1]
            obtain ⟨s0, p1, p2, p3, p4⟩ := putRowK_ok h
            rw [hbl] at p1
            simp only [nSK] at p1
            obtain ⟨cc, c1, c2, c3, c4, c5, c6, c7⟩ := hR.row hr h3
            obtain ⟨old, ho⟩ : ∃ old, old = takeN r.cells n := ⟨_, rfl⟩
            have o1 : old.length = n := by rw [ho, takeN_eq, List.length_take]; omega
            have o4 : L2 ρ old (cc.toList.take n) := by
              have := c4.take n
              rw [List.take_take, Nat.min_eq_left f2] at this
              rw [ho, takeN_eq]; exact this
            have o5 : ∀ v ∈ old, one v = true := fun v hv => c5 v (by rw [ho, takeN_eq] at hv; exact List.mem_of_mem_take hv)
            rw [← ho] at p1
            have hs0g : ∀ j q, s0.get j = some q → j ≠ ad.block ∧ s.get j = some q := fun j q hj => by
              rcases p3 j q hj with ⟨_, e0⟩ | h6
              · cases e0
              · exact h6
            have hct : cap ≤ cc.size := by
              have := h4 f1
              rw [c6, f3] at this
              omega
            rw [f4] at c1
            obtain ⟨s', n1, n2, n3, n3m⟩ := newK_ok p1
            rw [p2] at n1 n2 n3
            have hcl : (cc.toList.take n).length = n := by rw [List.length_take]; simp; omega
            have hrl : L2 ρ (old ++ byteVs b.data.toList) (cc.toList.take n ++ byteVs b.data.toList) := by
              exact o4.append (byteVs_l2 ρ _)
            have hone : ∀ v ∈ old ++ byteVs b.data.toList, one v = true := fun v hv => by
              rcases List.mem_append.1 hv with h6 | h6
              · exact o5 v h6
              · exact byteVs_one _ v h6
            have hlen : (old ++ byteVs b.data.toList).length = n + b.size := by rw [List.length_append, o1, byteVs_len, hbl]
            have hlen2 : (cc.toList.take n ++ byteVs b.data.toList).length = n + b.size := by rw [List.length_append, hcl, byteVs_len, hbl]
            by_cases hroom : n + b.size ≤ cap
            · have hr2 := Go.Lib.run_append_room_string (P := P) w t1 t2 ty e i hund hund2 hi hs1 x.1 n cap cc c1 b hroom (by omega)
              refine ⟨_, _, hr2, ?_⟩
              rw [← hsc]
              have hC : (cc.toList.take n ++ byteVs b.data.toList ++ cc.toList.drop (n + b.size)).length = cc.size := by
                rw [List.length_append, hlen2, List.length_drop]; simp; omega
              obtain ⟨r1, r2⟩ := hR.grown (s' := s') (w' := w.setRow x.1 (cc.toList.take n ++ byteVs b.data.toList ++ cc.toList.drop (n + b.size)).toArray) (c := (cc.toList.take n ++ byteVs b.data.toList ++ cc.toList.drop (n + b.size)).toArray) (cs := old ++ byteVs b.data.toList) hr h3 c6 n2 (fun j q hj => by
                rcases n3 j q hj with ⟨e1, e2⟩ | ⟨e1, e2⟩
                · exact .inl ⟨e1, by rw [e2, f3, f4]⟩
                · exact .inr ⟨e1, hs0g j q e2⟩) (fun m => (n3m m).trans (p4 m)) (by rw [f4]; exact setRow_heap w x.1 cc _ e _ c1) (by simp) (fun j _ hj => setRow_other w x.1 j _ hj) (by
                have ht := app_take (xs := cc.toList.take n ++ byteVs b.data.toList) (c := (cc.toList.take n ++ byteVs b.data.toList ++ cc.toList.drop (n + b.size)).toArray.toList) rfl
                rw [hlen2] at ht
                rw [hlen, ht]
                exact hrl) (by rw [hlen]; simp only [List.size_toArray, hC]; omega) (by simp only [List.size_toArray, hC]; exact c2) hone (fun e0 => by rw [f3] at e0; cases e0) rfl rfl rfl (by rw [f4]; exact c1)
              refine ⟨_, _, s', ?_, r1, r2, n1⟩
              rw [VR]
              exact ⟨_, cap, _, rfl, hroom, .inl rfl, upd_same _ _ _, fun _ => by rw [c6, f3]; omega, fun _ => rfl⟩
            · have hr2 := Go.Lib.run_append_grow_string (P := P) w t1 t2 ty e i zv hund hund2 hi hz0 ⟨x.1, 0, none⟩ n cap (cc.toList.take n) (by rw [hs1, hcl]; omega) (fun j v hj => by
                rw [addr_add, Nat.zero_add, cell_at_block c1, ← Array.getElem?_toList]
                rw [List.getElem?_take] at hj
                split at hj
                · exact hj
                · cases hj) b (by omega) (by omega) (growslice_fits (by omega) hbytes)
              refine ⟨_, _, hr2, ?_⟩
              rw [← hsc]
              have hge := grownCap_ge w (n + b.size) cap e
              have hcs : ((cc.toList.take n).toArray ++ (byteVs b.data.toList).toArray ++ Builtin.zeroCells zv.cells (grownCap w (n + b.size) cap e - (n + b.size))).toList = (cc.toList.take n ++ byteVs b.data.toList) ++ (Builtin.zeroCells zv.cells (grownCap w (n + b.size) cap e - (n + b.size))).toList := by simp
              have hcz : ((cc.toList.take n).toArray ++ (byteVs b.data.toList).toArray ++ Builtin.zeroCells zv.cells (grownCap w (n + b.size) cap e - (n + b.size))).size = grownCap w (n + b.size) cap e := by
                have hz1' : zv.cells.size = 1 := by simpa using Nat.eq_of_beq_eq_true hz1
                have : (cc.toList.take n ++ byteVs b.data.toList).length = n + b.size := hlen2
                simp only [Array.size_append, List.size_toArray, size_zeroCells, hz1', byteVs_len, hbl, hcl]
                omega
              obtain ⟨r1, r2⟩ := hR.new (w' := w.drew.alloc (.cells ((cc.toList.take n).toArray ++ (byteVs b.data.toList).toArray ++ Builtin.zeroCells zv.cells (grownCap w (n + b.size) cap e - (n + b.size))) e)) (b := w.heap.size) (sz := 1) n2 (fun j q hj => (n3 j q hj).imp id fun hh => ⟨hh.1, (hs0g j q hh.2).2⟩) (fun m => (n3m m).trans (p4 m)) (Nat.le_refl _) (heap_alloc_new w.drew _) (by simp) (fun k hk => heap_alloc_old w.drew _ hk) (by
                have ht := app_take hcs
                rw [hlen2] at ht
                rw [hlen, ht]
                exact hrl) (by rw [hcz, hlen]; exact hge) hone (fun e => by cases e) rfl rfl rfl
              refine ⟨_, _, s', ?_, r1, r2, n1⟩
              rw [VR]
              exact ⟨_, grownCap w (n + b.size) cap e, _, rfl, hge, .inl rfl, upd_same _ _ _, fun _ => by simp only [hcz]; omega, fun _ => rfl⟩
theorem usd_run {x v x' : Value} (h : opUSD x = some v) (hx : VR ρ x x') (ts : Array TypeId) (ty : TypeId) : ∃ u, (Builtin.unsafeSliceData_ ts ty #[x']).run P w = .ok u w ∧ VR ρ v u := by
  unfold opUSD at h
  split at h
  · rename_i n c
    obtain rfl := Option.some.inj h
    obtain ⟨_, rfl⟩ : n = 0 ∧ x' = .slice none 0 0 := by rw [VR] at hx; exact hx
    exact ⟨.pointer none, rfl, by rw [VR]⟩
  · rename_i ad n c
    cases hb : Nat.blt 0 n with
    | false => rw [hb] at h; cases h
    | true =>
      rw [hb] at h
      obtain rfl := Option.some.inj h
      have hn := (blt_iff _ _).1 hb
      obtain ⟨q, cap, x, rfl, h1, h2, h3, h4, h5⟩ := slice_vr hx
      obtain rfl := h5 (.inr hn)
      refine ⟨.pointer (some ⟨x.1, ad.off, none⟩), ?_, by rw [VR]; exact ⟨_, ⟨x, h3, rfl⟩, rfl⟩⟩
      have hdef : Builtin.unsafeSliceData_ ts ty #[.slice (some ⟨x.1, ad.off, none⟩) n cap] =
        (do
          if cap ≠ 0 then pure (.pointer (some ⟨x.1, ad.off, none⟩))
          else if (← viewAt x.1).isSome then pure (.pointer (some ⟨x.1, ad.off, none⟩))
          else pure (.pointer (some ⟨← newObj (.view ⟨x.1, ad.off, none⟩ (← elemOf ty)), 0, none⟩))) := rfl
      rw [hdef, if_pos (by omega)]
      rfl
  · cases h
theorem cap_run (g : Good P E) {x v x' : Value} {t ty : TypeId} (h : opCap x (E.und t) = some v) (hx : VR ρ x x') : ∃ u, (Builtin.cap_ #[t] ty #[x']).run P w = .ok u w ∧ VR ρ v u := by
  unfold opCap at h
  split at h
  · rename_i e hd
    split at h
    · obtain rfl := Option.some.inj h
      obtain ⟨_, rfl⟩ : _ ∧ x' = .slice none 0 0 := by rw [VR] at hx; exact hx
      exact ⟨goInt 0, by simp [Builtin.cap_, run_underlying (g.und _ _ hd)], by rw [VR]; rfl⟩
    · rename_i a n c
      unfold capN at h
      split at h
      · cases h
      · rename_i c
        obtain rfl := Option.some.inj h
        obtain ⟨q, cap, z, rfl, h1, h2, _⟩ := slice_vr hx
        have hc : cap = c := by
          rcases h2 with e | e
          · cases e
          · omega
        subst hc
        exact ⟨goInt cap, by simp [Builtin.cap_, run_underlying (g.und _ _ hd)], by rw [VR]; rfl⟩
    · cases h
  · cases h
theorem unByte_eq {v : Value} {c : UInt8} (h : unByte v = some c) : v = .int .u8 (.ofNat c.toNat) := by
  unfold unByte at h
  split at h
  · rename_i n
    cases hb : Nat.blt n 256 with
    | false => rw [hb] at h; cases h
    | true =>
      rw [hb] at h
      obtain rfl := Option.some.inj h
      have := (blt_iff _ _).1 hb
      congr 2
      simp [UInt8.toNat_ofNat']
      omega
  · cases h
theorem unBytes_eq : ∀ (l : List Value) (bs : List UInt8), unBytes l = some bs → l = byteVs bs
  | [], bs, h => by obtain rfl := Option.some.inj h; rfl
  | v :: r, bs, h => by
    rw [unBytes] at h
    split at h
    · rename_i c hc
      split at h
      · rename_i l hl
        obtain rfl := Option.some.inj h
        rw [unByte_eq hc, unBytes_eq r l hl]; rfl
      · cases h
    · cases h
theorem l2_bytes {bs : List UInt8} {us : List Value} (h : L2 ρ (byteVs bs) us) : us = byteVs bs := by
  apply List.ext_getElem?
  intro i
  cases hi : (byteVs bs)[i]? with
  | none =>
    have hl := List.getElem?_eq_none_iff.1 hi
    exact List.getElem?_eq_none (by rw [h.1]; exact hl)
  | some v =>
    obtain ⟨u, hu, hv⟩ := h.2 i v hi
    rw [hu]
    have : ∃ c, v = .int .u8 (.ofNat c) := by
      have := List.mem_of_getElem? hi
      unfold byteVs at this
      obtain ⟨c, _, rfl⟩ := List.mem_map.1 this
      exact ⟨_, rfl⟩
    obtain ⟨c, rfl⟩ := this
    rw [VR] at hv
    rw [hv]
theorem cv1_run (g : Good P E) (hR : R ρ s w) {src dst : TypeId} {x v x' : Value} (h : opCv1 E s x (E.und src) (E.und dst) = some v) (hx : VR ρ x x') : ∃ u, (convert src dst x').run P w = .ok u w ∧ VR ρ v u := by
  cases hd : E.und dst with
  | none => rw [hd] at h; exact cv_run g (by rw [hd]; exact h) hx
  | some d =>
    rw [hd] at h
    cases d with
    | unsafePointer =>
      replace h : toUn E s x (E.und src) = some v := h
      unfold toUn at h
      split at h
      · rename_i t hs
        unfold toUn1 at h
        split at h
        · rename_i ad
          split at h
          · rename_i n hn
            cases hz : Nat.beq n 0 with
            | true => rw [hz] at h; cases h
            | false =>
              rw [hz] at h
              simp only [cond_false] at h
              cases hr : s.get ad.block with
              | none => rw [hr] at h; cases h
              | some r =>
                rw [hr] at h
                simp only [toUn2] at h
                cases hb : Nat.blt ad.off r.cells.length with
                | false => rw [hb] at h; cases h
                | true =>
                  rw [hb] at h
                  obtain rfl := Option.some.inj h
                  rw [VR] at hx
                  obtain ⟨_, ⟨z, hz2, rfl⟩, rfl⟩ := hx
                  obtain ⟨c, c1, c2, c3, _⟩ := hR.row hr hz2
                  obtain ⟨j, hj, hjs⟩ := g.size _ _ hn
                  refine ⟨_, to_any ⟨z.1, ad.off, none⟩ (g.und _ _ hs) (g.und _ _ hd) hj ?_ (shape_of c1) ?_, by rw [VR]; exact ⟨_, ⟨z, hz2, rfl⟩, rfl⟩⟩
                  · rw [hjs]; exact fun e => by rw [e] at hz; cases hz
                  · have := (blt_iff _ _).1 hb
                    show ad.off < c.size
                    omega
          · cases h
        · cases h
      · cases h
    | pointer u =>
      replace h : ofUn E s x u (E.und src) = some v := h
      unfold ofUn at h
      split at h
      · rename_i hs
        unfold ofUn1 at h
        split at h
        · rename_i ad
          split at h
          · rename_i n hn
            cases hr : s.get ad.block with
            | none => rw [hr] at h; cases h
            | some r =>
              rw [hr] at h
              simp only [ofUn2] at h
              cases hb : (Nat.beq r.sz 0 && E.lies r.elem r.cells.length ad.off u) with
              | false => rw [hb] at h; cases h
              | true =>
                rw [hb] at h
                obtain rfl := Option.some.inj h
                simp only [Bool.and_eq_true] at hb
                rw [VR] at hx
                obtain ⟨_, ⟨z, hz2, rfl⟩, rfl⟩ := hx
                obtain ⟨c, c1, c2, c3, _, _, _, c7⟩ := hR.row hr hz2
                obtain ⟨j, hj, hjs⟩ := g.size _ _ hn
                have hl := g.lies _ _ _ _ hb.2
                have hc : r.cells.length = c.size := by rw [c7 (Nat.eq_of_beq_eq_true hb.1), c2]
                rw [hc] at hl
                exact ⟨_, of_any ⟨z.1, ad.off, none⟩ (g.und _ _ hs) (g.und _ _ hd) hj (shape_of c1) hl, by rw [VR]; exact ⟨_, ⟨z, hz2, rfl⟩, rfl⟩⟩
          · cases h
        · cases h
      · cases h
    | string =>
      replace h : cvStr E s x (E.und src) = some v := h
      unfold cvStr at h
      split at h
      · rename_i e hs
        unfold strE at h
        split at h
        · rename_i he
          unfold strB at h
          split at h
          · obtain rfl := Option.some.inj h
            obtain ⟨_, rfl⟩ : _ ∧ x' = .slice none 0 0 := by rw [VR] at hx; exact hx
            exact ⟨_, run_convert_bytes_nil w src e (g.und _ _ hs) (g.und _ _ he) 0 0 dst (g.und _ _ hd), by rw [VR]; try rfl⟩
          · rename_i a n c
            cases hn : Nat.beq n 0 with
            | true =>
              rw [hn] at h
              obtain rfl := Option.some.inj h
              obtain rfl := Nat.eq_of_beq_eq_true hn
              obtain ⟨q, cap, z, rfl, _⟩ := slice_vr hx
              exact ⟨_, run_convert_bytes_back w src dst e q cap [] (g.und _ _ hs) (g.und _ _ he) (g.und _ _ hd) (fun j hj => by simp at hj), by rw [VR]⟩
            | false =>
              rw [hn] at h
              simp only [cond_false] at h
              unfold strB1 at h
              split at h
              · rename_i l hl
                unfold strB2 at h
                split at h
                · rename_i bs hbs
                  obtain rfl := Option.some.inj h
                  have hll := unBytes_eq _ _ hbs
                  have hpos : 0 < n := by
                    rcases Nat.eq_zero_or_pos n with e | e
                    · rw [e] at hn; cases hn
                    · exact e
                  obtain ⟨ad, cap, ys, rfl, l1, l2, l3, l4⟩ := rowPart_ok (size := 1) hR (by rw [Nat.mul_one]; exact hl) hpos hx
                  rw [hll] at l1 l3
                  have hys := l2_bytes l1
                  rw [byteVs_len, Nat.mul_one] at l3
                  subst l3
                  refine ⟨_, run_convert_bytes_back w src dst e ad cap bs (g.und _ _ hs) (g.und _ _ he) (g.und _ _ hd) (fun j hj => ?_), by rw [VR]⟩
                  refine l4 j _ ?_
                  rw [hys]
                  simp [byteVs, List.getElem?_eq_getElem hj]
                · cases h
              · cases h
          · cases h
        · cases h
      · exact cv_run g (by rw [hd]; exact h) hx
    | _ => exact cv_run g (by rw [hd]; exact h) hx
/-- a row that is no longer ours. -/
theorem R.kill (hR : R ρ s w) {n : Nat} {r : Row} {x : Nat × Nat × Nat} {s' : St} {w' : World} {c0 : Array Value} (hr : s.get n = some r) (hx : ρ n = some x) (hc : s'.c = s.c) (hg : ∀ m q, s'.get m = some q → m ≠ n ∧ s.get m = some q) (hgm : ∀ m, s'.gi m = s.gi m) (hs : w'.heap.size = w.heap.size) (hk : ∀ k, k ≠ x.1 → w'.heap[k]? = w.heap[k]?) (hw0 : w.heap[x.1]? = some (.cells c0 r.elem)) (e1 : w'.os = w.os) (e2 : w'.tape = w.tape) (e3 : w'.output = w.output) : R ρ s' w' ∧ Ext ρ s w ρ s' w' := by
  have hit : s'.m.it = s.m.it := congrArg Prod.snd (hgm 0)
  replace hgm : ∀ m, s'.gm m = s.gm m := fun m => congrArg Prod.fst (hgm m)
  have hitR : s'.m.it = false → ∀ n es, s'.gm n = some es → isIt es = false := fun e n es h => hR.it (hit ▸ e) n es (by rw [← hgm]; exact h)
  have hne : ∀ m q y, m ≠ n → s.get m = some q → ρ m = some y → y.1 ≠ x.1 := fun m q y h1 h2 h3 e => h1 (hR.inj m n q r y x h2 hr h3 hx e)
  have hmb : ∀ m es y, s.gm m = some es → ρ m = some y → y.1 ≠ x.1 := fun m es y h1 h2 e => by
    obtain ⟨y', q1, q2⟩ := hR.maps m es h1
    rw [h2] at q1
    obtain rfl := Option.some.inj q1
    rw [e] at q2
    exact q2.no hw0
  refine ⟨⟨fun m h => hR.dom m (by omega), fun m y h => by rw [hs]; exact hR.lt m y h, fun m q h => ?_, fun m es h => ?_, fun m k es fs y z h1 h2 h3 h4 h5 => ?_, fun m k q p y z h1 h2 h3 h4 h5 => ?_, hR.gl.keep fun k _ hg => hk k (fun e => by rw [e, hR.lo n x hx] at hg; cases hg), hR.lo, hitR⟩, ⟨by omega, fun _ _ h => h, by omega, e1, e2, e3, fun k h1 h2 => hk k (fun e => h2 ⟨n, x, .inl ⟨r, hr⟩, hx, e.symm⟩), ?_, fun _ _ => rfl⟩⟩
  · obtain ⟨en, h⟩ := hg m q h
    obtain ⟨y, c', h1, h2, h3⟩ := hR.rows m q h
    exact ⟨y, c', h1, (hk _ (hne m q y en h h1)).trans h2, h3⟩
  · rw [hgm] at h
    obtain ⟨y, h1, h2⟩ := hR.maps m es h
    exact ⟨y, h1, h2.keep (fun _ _ h => h) fun k o hk' hn => (hk k (fun e => by rw [e, hw0] at hk'; exact hn _ _ _ (Option.some.inj hk').symm)).trans hk'⟩
  · rw [hgm] at h1 h2
    exact hR.injm m k es fs y z h1 h2 h3 h4 h5
  · exact hR.inj m k q p y z (hg m q h1).2 (hg k p h2).2 h3 h4 h5
  · rintro k ⟨m, y, ⟨q, h1⟩ | ⟨es, h1⟩, h2, rfl⟩
    · exact .inl ⟨m, y, .inl ⟨q, (hg m q h1).2⟩, h2, rfl⟩
    · rw [hgm] at h1
      exact .inl ⟨m, y, .inr ⟨es, h1⟩, h2, rfl⟩
theorem ustr_run (g : Good P E) (hR : R ρ s w) {pt it ty : TypeId} {X Y X' Y' : Value} (h : opUStr E s X k (E.und pt) Y = true) (hX : VR ρ X X') (hY : VR ρ Y Y') : ∃ u w', (Builtin.unsafeString_ #[pt, it] ty #[X', Y']).run P w = .ok u w' ∧ Ap ρ s w k u w' := by
  unfold opUStr at h
  split at h
  case h_2 => cases h
  rename_i n
  obtain rfl : Y' = .int .i64 (.ofNat n) := by rw [VR] at hY; exact hY
  unfold uStr1 at h
  cases hn : Nat.beq n 0 with
  | true =>
    rw [hn] at h
    simp only [cond_true] at h
    obtain rfl : n = 0 := Nat.eq_of_beq_eq_true hn
    split at h
    case h_2 => cases h
    rename_i p
    obtain ⟨p', rfl⟩ : ∃ p', X' = .pointer p' := by
      cases p with
      | none => rw [VR] at hX; exact ⟨_, hX⟩
      | some ad => rw [VR] at hX; obtain ⟨b, _, rfl⟩ := hX; exact ⟨_, rfl⟩
    exact ⟨.string ⟨⟨[]⟩⟩, w, Go.Lib.run_unsafeString_none (P := P) w pt it ty p', _, ρ, s, by rw [VR], hR, Ext.refl _ _ _, h⟩
  | false =>
    rw [hn] at h
    simp only [cond_false] at h
    have hn0 : n ≠ 0 := fun e => by rw [e] at hn; cases hn
    unfold uStr2 at h
    split at h
    case h_2 => cases h
    rename_i e hd
    split at h
    case h_2 => cases h
    rename_i ad
    split at h
    case h_2 => cases h
    rename_i z hz
    cases hq : (Nat.beq z 1 && Nat.ble n 1000000) with
    | false => rw [hq] at h; cases h
    | true =>
      rw [hq] at h
      simp only [cond_true] at h
      simp only [Bool.and_eq_true, Nat.ble_eq] at hq
      unfold uStr3 at h
      split at h
      case h_2 => cases h
      rename_i r hr
      cases hq2 : (Nat.beq ad.off 0 && (Nat.beq r.elem e && Nat.ble n r.cells.length)) with
      | false => rw [hq2] at h; cases h
      | true =>
        rw [hq2] at h
        simp only [cond_true] at h
        simp only [Bool.and_eq_true, Nat.ble_eq] at hq2
        have f1 : ad.off = 0 := Nat.eq_of_beq_eq_true hq2.1
        have f4 : r.elem = e := Nat.eq_of_beq_eq_true hq2.2.1
        unfold uStr4 at h
        split at h
        case h_2 => cases h
        rename_i l hl
        rw [forceL_eq] at h
        obtain ⟨s', p1, p2, p3, p4⟩ := putRowK_ok h
        rw [VR] at hX
        obtain ⟨_, ⟨x, hx, rfl⟩, rfl⟩ := hX
        obtain ⟨cc, c1, c2, c3, c4, c5, c6, c7⟩ := hR.row hr hx
        rw [f1]
        have hll := unBytes_eq _ _ hl
        rw [takeN_eq] at hll
        have hlen : l.length = n := by
          have := congrArg List.length hll
          rw [List.length_take, byteVs_len] at this
          omega
        have hc4 : L2 ρ (byteVs l) (cc.toList.take n) := by
          rw [← hll]
          have h6 : cc.toList.take n = (cc.toList.take r.cells.length).take n := by rw [List.take_take, Nat.min_eq_left hq2.2.2]
          rw [h6]
          exact c4.take n
        have hcell := l2_bytes hc4
        obtain ⟨i, hi, his⟩ := g.size _ _ hz
        have hcell1 : P.cellsOf e = 1 := by simp [Program.cellsOf, hi, his, Nat.eq_of_beq_eq_true hq.1]
        rw [f4] at c1
        have hr2 := Go.Lib.run_unsafeString_row (P := P) w pt it ty e (g.und _ _ hd) hcell1 x.1 cc.size (shape_of c1) l (fun e0 => by rw [e0] at hlen; exact hn0 hlen.symm) (by rw [hlen]; omega) (by omega) (fun j c hj => by
          rw [addr_add, Nat.zero_add, cell_at_block c1, ← Array.getElem?_toList]
          have h7 : (cc.toList.take n)[j]? = some (.int .u8 c.toNat) := by
            rw [hcell]; unfold byteVs; rw [List.getElem?_map, hj]; rfl
          rw [List.getElem?_take] at h7
          split at h7
          · exact h7
          · cases h7)
        rw [hlen] at hr2
        refine ⟨_, _, hr2, ?_⟩
        obtain ⟨r1, r2⟩ := hR.kill (s' := s') (w' := w.freeze ⟨x.1, 0, none⟩ n) hr hx p2 (fun m q hm => by
          rcases p3 m q hm with ⟨_, e0⟩ | h6
          · cases e0
          · exact h6) p4 (by unfold World.freeze; rw [if_neg hn0]; simp) (fun k hk => by
          unfold World.freeze
          rw [if_neg hn0]
          simp only [Array.getElem?_modify]
          rw [if_neg (fun e0 => hk e0.symm)]) (by rw [f4]; exact c1) (by unfold World.freeze; rw [if_neg hn0]) (by unfold World.freeze; rw [if_neg hn0]) (by unfold World.freeze; rw [if_neg hn0])
        exact ⟨_, ρ, s', by rw [VR], r1, r2, p1⟩
theorem cp_run (g : Good P E) (hR : R ρ s w) {t1 ty : TypeId} {X Y X' Y' : Value} (h : opCp E s X Y k (E.und t1) = true) (hX : VR ρ X X') (hY : VR ρ Y Y') : ∃ u w', (Builtin.copy_ #[t1, t1] ty #[X', Y']).run P w = .ok u w' ∧ Ap ρ s w k u w' := by
  unfold opCp at h
  split at h
  case h_2 => cases h
  rename_i e hd
  split at h
  case h_2 => cases h
  rename_i size hs
  obtain ⟨i, hi, rfl⟩ := g.size _ _ hs
  have hund := g.und _ _ hd
  unfold opCp2 at h
  split at h
  case h_2 => cases h
  rename_i base n c
  split at h
  case h_2 => cases h
  rename_i b2 m c2
  have sl : ∀ {b : Option Addr} {n c : Nat} {u : Value}, VR ρ (.slice b n c) u → ∃ b' c', u = .slice b' n c' := fun {b n c u} hv => by
    cases b with
    | none =>
      obtain ⟨rfl, rfl⟩ : n = 0 ∧ u = .slice none 0 0 := by rw [VR] at hv; exact hv
      exact ⟨none, 0, rfl⟩
    | some ad =>
      obtain ⟨q, cap, x, rfl, _⟩ := slice_vr hv
      exact ⟨_, _, rfl⟩
  cases hq : Nat.beq (Nat.min m n) 0 with
  | true =>
    rw [hq] at h
    simp only [cond_true] at h
    have h0 : Nat.min m n = 0 := Nat.eq_of_beq_eq_true hq
    obtain ⟨b', c', rfl⟩ := sl hX
    obtain ⟨b'', c'', rfl⟩ := sl hY
    refine ⟨.int .i64 (.ofNat 0), w, ?_, _, ρ, s, by rw [VR], hR, Ext.refl _ _ _, h⟩
    have hf : (Builtin.firstCells i.size 0 (.slice b'' m c'')).run P w = .ok #[] w := by
      cases b'' with
      | none => simp [Builtin.firstCells]
      | some q => simp [Builtin.firstCells, loadCells, loadCellsFrom]
    have h0' : min m n = 0 := h0
    cases b' with
    | none => simp [Builtin.copy_, run_underlying hund, run_sizeOf hi, Builtin.lenOf, h0', hf, goInt]
    | some q => simp [Builtin.copy_, run_underlying hund, run_sizeOf hi, Builtin.lenOf, h0', hf, storeCells, goInt]
  | false =>
    rw [hq] at h
    simp only [cond_false] at h
    split at h
    case h_2 => cases h
    rename_i ad
    unfold opCp3 at h
    split at h
    case h_2 => cases h
    rename_i r hr
    unfold opCp4 at h
    split at h
    case h_2 => cases h
    rename_i vs hvs
    cases hq2 : Nat.ble (ad.off + vs.length) r.cells.length with
    | false => rw [hq2] at h; cases h
    | true =>
      rw [hq2] at h
      simp only [cond_true, forceL_eq] at h
      have hfit := Nat.le_of_ble_eq_true hq2
      obtain ⟨cnt, hcnt⟩ : ∃ cnt, cnt = Nat.min m n := ⟨_, rfl⟩
      rw [← hcnt] at hvs hq h
      have hpos : 0 < cnt := by
        rcases Nat.eq_zero_or_pos cnt with e0 | e0
        · rw [e0] at hq; cases hq
        · exact e0
      have hcm : cnt ≤ m := by rw [hcnt]; exact Nat.min_le_left _ _
      have hcn : cnt ≤ n := by rw [hcnt]; exact Nat.min_le_right _ _
      obtain ⟨q, cap, x, rfl, h1, h2, h3, h4, h5⟩ := slice_vr hX
      obtain rfl := h5 (.inr (by omega))
      -- what is copied, as it lies
      have hsrc : ∃ (q2 : Addr) (cap2 : Nat) (ys : List Value), Y' = .slice (some q2) m cap2 ∧ L2 ρ vs ys ∧ (∀ v ∈ vs, one v = true) ∧ vs.length = cnt * i.size ∧ ∀ (j : Nat) (v : Value), ys[j]? = some v → w.cell? (q2.add j) = some v := by
        cases b2 with
        | none =>
          obtain ⟨h0, _⟩ : m = 0 ∧ Y' = .slice none 0 0 := by rw [VR] at hY; exact hY
          omega
        | some a2 =>
          obtain ⟨q2, cap2, x2, rfl, g1, g2, g3, g4, g5⟩ := slice_vr hY
          obtain rfl := g5 (.inr (by omega))
          have hv2 : VR ρ (.slice (some a2) cnt 0) (.slice (some ⟨x2.1, a2.off, none⟩) cnt cap2) := by
            rw [VR]
            exact ⟨_, cap2, x2, rfl, by omega, .inl rfl, g3, g4, fun _ => rfl⟩
          obtain ⟨q3, cap3, ys, e3, l1, l2, l3, l4⟩ := rowPart_ok hR hvs hpos hv2
          injection e3 with e3 _ _
          obtain rfl := Option.some.inj e3
          exact ⟨_, cap2, ys, rfl, l1, l2, l3, l4⟩
      obtain ⟨q2, cap2, ys, rfl, l1, l2, l3, l4⟩ := hsrc
      obtain ⟨cc, c1, c2', c3, c4, c5, c6, c7⟩ := hR.row hr h3
      obtain ⟨s', p1, p2, p3, p4⟩ := putRowK_ok h
      have hyl : ys.length = vs.length := l1.1
      have hle : ad.off + ys.length ≤ cc.size := by rw [hyl, c2']; omega
      obtain ⟨c', d1, d2, d3, d4, d5, d6, d7⟩ := setCells_heap ys ad.off w cc c1 hle
      have hst := run_storeCells_cells (P := P) x.1 ad.off ys 0 w (fun j hj => by
        rw [cell_at_block c1]
        have : ad.off + j < cc.size := by omega
        simp [this]) (fun j hj => frozen_at_block c1 _) (l2_one l1 l2)
      rw [Nat.add_zero] at hst
      have hf := run_firstCells_some (P := P) w i.size cnt q2 m cap2 ys (by rw [hyl, l3]) l4
      have hmin : min m n = cnt := hcnt.symm
      refine ⟨.int .i64 (.ofNat cnt), w.setCells x.1 ad.off ys, by simp [Builtin.copy_, run_underlying hund, run_sizeOf hi, Builtin.lenOf, hmin, hf, hst, goInt], ?_⟩
      have hc's : c'.size = cc.size := by have := congrArg List.length d2; rw [putN_len] at this; simpa using this
      have hpl : (putN r.cells ad.off vs).length = r.cells.length := putN_len _ _ _
      obtain ⟨r1, r2⟩ := hR.write (s' := s') (w' := w.setCells x.1 ad.off ys) (c := c') (cs := putN r.cells ad.off vs) hr h3 c6 p2 (fun m q hm => by
          rcases p3 m q hm with ⟨e, e'⟩ | h4
          · exact .inl ⟨e, (Option.some.inj e').symm⟩
          · exact .inr h4) p4 d1 (by rw [d4]; exact Nat.le_refl _) (fun j _ hj => d3 j hj) (by
          rw [d2, hpl]
          have hp := c4.putN l1 hfit
          have e2 : (putN cc.toList ad.off ys).take r.cells.length = putN (cc.toList.take r.cells.length) ad.off ys := by
            apply List.ext_getElem?
            intro j
            rw [List.getElem?_take, putN_get _ _ _ _ (by simp; omega), putN_get _ _ _ _ (by rw [List.length_take, hyl]; simp; omega), List.getElem?_take]
            by_cases hj : j < r.cells.length
            · rw [if_pos hj]
              by_cases hc : ad.off ≤ j ∧ j < ad.off + ys.length
              · rw [if_pos hc, if_pos hc]
              · rw [if_neg hc, if_neg hc, if_pos hj]
            · rw [if_neg hj, if_neg (by omega), if_neg hj]
          rw [e2]; exact hp) (by rw [hpl, hc's, c2']; exact c3) (by rw [hc's, c2']) (putN_mem hfit c5 l2) (fun e => by rw [hpl]; exact c7 e) d5 d6 d7 c1
      exact ⟨_, ρ, s', by rw [VR], r1, r2, p1⟩
theorem clr_run (g : Good P E) (hR : R ρ s w) {t1 ty : TypeId} {X X' : Value} (h : opClr E s X k (E.und t1) = true) (hX : VR ρ X X') : ∃ u w', (Builtin.clear_ #[t1] ty #[X']).run P w = .ok u w' ∧ Ap ρ s w k u w' := by
  unfold opClr at h
  split at h
  case h_2 => cases h
  rename_i e hd
  have hund := g.und _ _ hd
  unfold opClr2 at h
  split at h
  case h_2 => cases h
  rename_i z hz
  obtain ⟨i, zv, q1, q2, rfl, q4, _, q6⟩ := g.zero _ _ hz
  split at h
  · rename_i n c
    obtain ⟨rfl, rfl⟩ : n = 0 ∧ X' = .slice none 0 0 := by rw [VR] at hX; exact hX
    exact ⟨.tuple #[], w, by simp [Builtin.clear_, run_underlying hund], _, ρ, s, undef_vr ρ, hR, Ext.refl _ _ _, h⟩
  · rename_i ad n c
    obtain ⟨b, cap, x, rfl, h1, h2, h3, h4, h5⟩ := slice_vr hX
    cases hq : Nat.beq n 0 with
    | true =>
      rw [hq] at h
      obtain rfl := Nat.eq_of_beq_eq_true hq
      exact ⟨.tuple #[], w, by simp [Builtin.clear_, run_underlying hund], _, ρ, s, undef_vr ρ, hR, Ext.refl _ _ _, h⟩
    | false =>
      rw [hq] at h
      simp only [cond_false] at h
      have hn : n ≠ 0 := fun e => by rw [e] at hq; cases hq
      obtain rfl := h5 (.inr (by omega))
      unfold opClr3 at h
      split at h
      case h_2 => cases h
      rename_i r hr
      cases hq2 : (Nat.blt 0 zv.cells.toList.length && Nat.ble (ad.off + n * zv.cells.toList.length) r.cells.length) with
      | false => rw [hq2] at h; cases h
      | true =>
        rw [hq2] at h
        simp only [cond_true, forceL_eq] at h
        simp only [Bool.and_eq_true] at hq2
        have hz0 : 0 < zv.cells.size := by simpa using (blt16 _ _).1 hq2.1
        have hfit : ad.off + (reps zv.cells.toList n).length ≤ r.cells.length := by rw [reps_len]; exact Nat.le_of_ble_eq_true hq2.2
        have hzr : Builtin.zeroCells zv.cells n = (reps zv.cells.toList n).toArray := zeros_reps zv.cells n hz0
        obtain ⟨cc, c1, c2', c3, c4, c5, c6, c7⟩ := hR.row hr h3
        obtain ⟨s', p1, p2, p3, p4⟩ := putRowK_ok h
        have l1 : L2 ρ (reps zv.cells.toList n) (reps zv.cells.toList n) := plains_l2 (reps_mem q6 n)
        have l2 : ∀ v ∈ reps zv.cells.toList n, one v = true := fun v hv => by
          have := reps_mem q6 n v hv
          cases v with
          | agg xs => cases this
          | tuple xs => cases this
          | chan c => cases this
          | _ => rfl
        obtain ⟨ys, hys⟩ : ∃ ys, ys = reps zv.cells.toList n := ⟨_, rfl⟩
        rw [← hys] at h hfit hzr l1 l2 p3
        have hle : ad.off + ys.length ≤ cc.size := by rw [c2']; omega
        obtain ⟨c', d1, d2, d3, d4, d5, d6, d7⟩ := setCells_heap ys ad.off w cc c1 hle
        have hst := run_storeCells_cells (P := P) x.1 ad.off ys 0 w (fun j hj => by
          rw [cell_at_block c1]
          have : ad.off + j < cc.size := by omega
          simp [this]) (fun j hj => frozen_at_block c1 _) (l2_one l1 l2)
        rw [Nat.add_zero] at hst
        have hzv : (zeroValue e).run P w = .ok zv w := by simp [zeroValue, typeInfo, q1, q2]
        refine ⟨.tuple #[], w.setCells x.1 ad.off ys, by
          obtain ⟨m, rfl⟩ : ∃ m, n = m + 1 := ⟨n - 1, by omega⟩
          simp [Builtin.clear_, run_underlying hund, hzv, hzr, hst], ?_⟩
        have hc's : c'.size = cc.size := by have := congrArg List.length d2; rw [putN_len] at this; simpa using this
        have hpl : (putN r.cells ad.off ys).length = r.cells.length := putN_len _ _ _
        obtain ⟨r1, r2⟩ := hR.write (s' := s') (w' := w.setCells x.1 ad.off ys) (c := c') (cs := putN r.cells ad.off ys) hr h3 c6 p2 (fun m q hm => by
            rcases p3 m q hm with ⟨e, e'⟩ | h4
            · exact .inl ⟨e, (Option.some.inj e').symm⟩
            · exact .inr h4) p4 d1 (by rw [d4]; exact Nat.le_refl _) (fun j _ hj => d3 j hj) (by
            rw [d2, hpl]
            have hp := c4.putN l1 hfit
            have e2 : (putN cc.toList ad.off ys).take r.cells.length = putN (cc.toList.take r.cells.length) ad.off ys := by
              apply List.ext_getElem?
              intro j
              rw [List.getElem?_take, putN_get _ _ _ _ (by simp; omega), putN_get _ _ _ _ (by rw [List.length_take]; simp; omega), List.getElem?_take]
              by_cases hj : j < r.cells.length
              · rw [if_pos hj]
                by_cases hc : ad.off ≤ j ∧ j < ad.off + ys.length
                · rw [if_pos hc, if_pos hc]
                · rw [if_neg hc, if_neg hc, if_pos hj]
              · rw [if_neg hj, if_neg (by omega), if_neg hj]
            rw [e2]; exact hp) (by rw [hpl, hc's, c2']; exact c3) (by rw [hc's, c2']) (putN_mem hfit c5 l2) (fun e => by rw [hpl]; exact c7 e) d5 d6 d7 c1
        exact ⟨_, ρ, s', undef_vr ρ, r1, r2, p1⟩
  · cases h
end
end Go.Proofs.YtcfekhcdadldmaaGreatDoor.Am
