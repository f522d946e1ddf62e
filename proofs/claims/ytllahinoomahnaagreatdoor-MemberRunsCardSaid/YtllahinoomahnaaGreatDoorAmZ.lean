import Derived.Test.YtllahinoomahnaaGreatDoorAmY
import Derived.Shelf.SlIter.Nil
import Derived.Sort.Walk0
import Derived.StringKeys
set_option linter.unusedSimpArgs false
namespace Go.Proofs.YtllahinoomahnaaGreatDoor.Am
open Go Go.RowKit Go.Shelf Go.Proofs

/- slices.Sorted over the keys of a map. -/
def insS (x : List UInt8) : List (List UInt8) → List (List UInt8)
  | [] => [x]
  | y :: r => cond (Op.bytesLess y x) (y :: insS x r) (x :: y :: r)
def sortS : List (List UInt8) → List (List UInt8)
  | [] => []
  | x :: r => insS x (sortS r)
def keyStrs : List (Value × Value) → Option (List (List UInt8))
  | [] => some []
  | p :: r => match strOf p.1 with
    | some b => match keyStrs r with
      | some l => some (b :: l)
      | none => none
    | none => none
def risesS : List (List UInt8) → Bool
  | x :: y :: r => cond (Op.bytesLess x y) (risesS (y :: r)) false
  | _ => true
def shortS : List (List UInt8) → Bool
  | [] => true
  | x :: r => cond (Nat.ble x.length 1000000) (shortS r) false
def xSorted2 (e : TypeId) (s : St) (k : K2) (l : List (List UInt8)) : List (List UInt8) → Bool
  | [] => k (.slice none 0 0) s
  | x :: r => cond (risesS (x :: r) && (Nat.ble l.length 1000000 && shortS l)) (nSK k s e 1 l.length 0 (some ((x :: r).map fun x => .string ⟨⟨x⟩⟩))) false
def xSorted1 (e : TypeId) (s : St) (k : K2) : Option (List (List UInt8)) → Bool
  | some l => xSorted2 e s k l (sortS l)
  | none => false
def mapOf (s : St) : Option Row → Option (List (Value × Value))
  | some r => match r.cells with
    | [m] => entries s m
    | _ => none
  | none => none
def keysO : Option (List (Value × Value)) → Option (List (List UInt8))
  | some es => keyStrs es
  | none => none
def xSorted (gs : List FuncId) (e : TypeId) : List Value → St → K2 → Bool
  | [.func (.func f) first cap], s, k => match first.toList, cap.toList with
    | [], [.pointer (some a)] => cond (hasN gs f && Nat.beq a.off 0) (xSorted1 e s k (keysO (mapOf s (s.get a.block)))) false
    | _, _ => false
  | _, _, _ => false
theorem insS_perm (x : List UInt8) : ∀ l, (insS x l).Perm (x :: l)
  | [] => List.Perm.refl _
  | y :: r => by
    rw [insS]
    cases Op.bytesLess y x with
    | false => exact List.Perm.refl _
    | true => exact ((insS_perm x r).cons y).trans (List.Perm.swap x y r)
theorem sortS_perm : ∀ l, (sortS l).Perm l
  | [] => List.Perm.refl _
  | x :: r => (insS_perm x _).trans ((sortS_perm r).cons x)
theorem rises_pw : ∀ l, risesS l = true → l.Pairwise (fun x y => x < y)
  | [], _ => List.Pairwise.nil
  | [x], _ => List.pairwise_singleton _ _
  | x :: y :: r, h => by
    rw [risesS] at h
    cases hq : Op.bytesLess x y with
    | false => rw [hq] at h; cases h
    | true =>
      rw [hq] at h
      have ih := rises_pw (y :: r) h
      rw [bytesLess_eq] at hq
      have hxy : x < y := of_decide_eq_true hq
      refine List.Pairwise.cons (fun z hz => ?_) ih
      rcases List.mem_cons.1 hz with rfl | hz
      · exact hxy
      · exact List.lt_trans hxy ((List.pairwise_cons.1 ih).1 z hz)
theorem keyStrs_ok {ρ : Rho} : ∀ (es : List (Value × Value)) (l : List (List UInt8)), keyStrs es = some l → l.length = es.length ∧ ∀ (i : Nat) (kv : Value × Value), es[i]? = some kv → ∃ x, l[i]? = some x ∧ ∀ u, VR ρ kv.1 u → u = encStr x
  | [], l, h => by
    obtain rfl := Option.some.inj h
    exact ⟨rfl, fun i kv hi => by simp at hi⟩
  | p :: r, l, h => by
    rw [keyStrs] at h
    split at h
    · rename_i b hb
      split at h
      · rename_i l' hl
        obtain rfl := Option.some.inj h
        obtain ⟨h1, h2⟩ := keyStrs_ok r l' hl
        refine ⟨by simp [h1], fun i kv hi => ?_⟩
        cases i with
        | zero =>
          simp only [List.getElem?_cons_zero, Option.some.injEq] at hi
          subst hi
          refine ⟨b, rfl, fun u hu => ?_⟩
          rw [strOf_eq hb, VR] at hu
          exact hu
        | succ i => simpa using h2 i kv (by simpa using hi)
      · cases h
    · cases h
theorem shortS_ok : ∀ (l : List (List UInt8)), shortS l = true → ∀ x ∈ l, x.length ≤ 1000000
  | [], _, x, hx => by cases hx
  | y :: r, h, x, hx => by
    rw [shortS] at h
    cases hq : Nat.ble y.length 1000000 with
    | false => rw [hq] at h; cases h
    | true =>
      rw [hq] at h
      rcases List.mem_cons.1 hx with rfl | hx
      · exact Nat.le_of_ble_eq_true hq
      · exact shortS_ok r h x hx
/-- what the keys of a map are. -/
theorem owns_keys {P : Program} {kt : TypeId} (hk : P.underlying kt = some .string) {w : World} {b : Nat} {cs : Array MapEntry} {cl : Nat} (hb : w.heap[b]? = some (.map cs cl)) (hbn : Born cs cl) {l : List (List UInt8)} (hl : cs.toList.map (·.key) = l.map encStr) (hn : l.Nodup) (hlen : l.length ≤ 1000000) (hs : ∀ x ∈ l, x.length ≤ 1000000) :
    ∃ D : DataW Unit, w.ownsMap P kt (fun _ => some (.lit (.bool true), [])) b cs.size D ∧ (strKeys D).Perm l ∧ Maps.size D = l.length := by
  have hsz : cs.size = l.length := by
    have := congrArg List.length hl
    simpa using this
  have hkey : ∀ x ∈ cs.toList, ∃ y ∈ l, x.key = encStr y := fun x hx => by
    have : x.key ∈ l.map encStr := by rw [← hl]; exact List.mem_map.2 ⟨x, hx, rfl⟩
    obtain ⟨y, hy, e⟩ := List.mem_map.1 this
    exact ⟨y, hy, e.symm⟩
  have hrd : ∀ x ∈ cs.toList, ∀ y ∈ l, x.key = encStr y → WideElems.rd P kt (fun _ => some ((.lit (.bool true) : DataW Unit), ([] : List MemPlace))) x = some (.string y, .lit (.bool true)) := fun x hx y hy e => by
    have h1 : keyOf P kt x.key = some (.string y) := by
      rw [e]
      have := WideMaps.keyOf_string_mk (P := P) (k := kt) hk (s := ⟨y.toArray⟩) (by
        have := hs y hy
        have e2 : (ByteArray.mk y.toArray).size = y.length := by simp [ByteArray.size]
        rw [e2]; unfold maxLen; omega)
      simpa using this
    simp [WideElems.rd, h1]
  have hmap : cs.toList.map (WideElems.rg P kt (fun _ => some ((.lit (.bool true) : DataW Unit), ([] : List MemPlace)))) = l.map fun y => (.string y, .lit (.bool true)) := by
    apply List.ext_getElem?
    intro i
    simp only [List.getElem?_map]
    have hi := congrArg (·[i]?) hl
    simp only [List.getElem?_map] at hi
    cases hx : cs.toList[i]? with
    | none =>
      rw [hx] at hi
      cases hy : l[i]? with
      | none => rfl
      | some y => rw [hy] at hi; cases hi
    | some x =>
      rw [hx] at hi
      cases hy : l[i]? with
      | none => rw [hy] at hi; cases hi
      | some y =>
        rw [hy] at hi
        simp only [Option.map_some, Option.some.injEq] at hi ⊢
        exact WideElems.rg_of (hrd x (List.mem_of_getElem? hx) y (List.mem_of_getElem? hy) hi)
  refine ⟨_, ⟨cs, cl, hb, ⟨by rw [hsz]; unfold maxLen; omega, ⟨hbn.1, hbn.2, by rw [hl]; exact List.pairwise_map.2 (hn.imp fun {a b} h e => h (encStr_inj e))⟩, fun x hx => ?_⟩, Nat.le_refl _, rfl⟩, ?_, ?_⟩
  · obtain ⟨y, hy, e⟩ := hkey x hx
    exact ⟨_, hrd x hx y hy e⟩
  · rw [hmap]
    have := (WideShapes.sorted_perm (l.map fun y => ((.string y : Lit), (.lit (.bool true) : DataW Unit)))).map fun p => Go.strOf p.1
    refine this.trans ?_
    rw [List.map_map]
    exact List.Perm.of_eq (List.map_id _)
  · rw [hmap]
    show (List.foldr DataW.insert [] _).length = _
    rw [(WideShapes.sorted_perm _).length_eq, List.length_map]
theorem sorted_ok {P : Program} {ren : Ren} (L : SlLaysZ.n6 P ren) {gs : List FuncId} (K : ∀ g, hasN gs g = true → ∃ ren2 : Ren, ren2.f 10 = g ∧ SlLaysZ.n10 P ren2 ∧ (fnOfP P g).isSome = true) (hsort : ∀ m, AnyZ.SortsIn P ren Fence.wide m) (hf : (fnOfP P (ren.f 6)).isSome = true) (hf9 : (fnOfP P (ren.f 9)).isSome = true) : CallOk P (fun f' args s k => cond (Nat.beq f' (ren.f 6)) (xSorted gs (ren.t 26) args s k) false) := by
  refine ext_one hf fun args s k h ρ w us hR hl => ?_
  unfold xSorted at h
  split at h
  case h_2 => cases h
  rename_i f first cap
  split at h
  case h_2 => cases h
  rename_i a hfirst hcap
  cases hq : (hasN gs f && Nat.beq a.off 0) with
  | false => rw [hq] at h; cases h
  | true =>
    rw [hq] at h
    simp only [cond_true] at h
    simp only [Bool.and_eq_true] at hq
    obtain ⟨ren2, rfl, L2', hf10⟩ := K f hq.1
    have hoff := Nat.eq_of_beq_eq_true hq.2
    unfold xSorted1 at h
    split at h
    case h_2 => cases h
    rename_i l hkeys
    unfold keysO at hkeys
    split at hkeys
    case h_2 => cases hkeys
    rename_i es hes
    unfold mapOf at hes
    split at hes
    case h_2 => cases hes
    rename_i r hr
    split at hes
    case h_2 => cases hes
    rename_i m hcells
    obtain ⟨u, rr, rfl, hv, hrr⟩ := hl.inv
    have : rr = [] := List.length_eq_zero_iff.1 hrr.1
    subst this
    obtain ⟨ys, vs, rfl, l1, l2⟩ := vr_func.1 hv
    rw [hfirst] at l1
    rw [hcap] at l2
    have hys : ys = #[] := by
      have := List.length_eq_zero_iff.1 l1.1
      exact Array.toList_eq_nil_iff.1 this
    subst hys
    obtain ⟨u2, r2, e2, hv2, hr2⟩ := l2.inv
    have : r2 = [] := List.length_eq_zero_iff.1 hr2.1
    subst this
    have hvs : vs = #[u2] := Array.ext' (by simpa using e2)
    subst hvs
    obtain ⟨x, c, p1, p2, p3, p4, p5, _⟩ := hR.rows _ _ hr
    obtain rfl : u2 = .pointer (some ⟨x.1, 0, none⟩) := by
      rw [VR] at hv2
      obtain ⟨q, ⟨x', hx', rfl⟩, rfl⟩ := hv2
      rw [p1] at hx'
      obtain rfl := Option.some.inj hx'
      rw [hoff]
    have hlt := hR.lt _ _ p1
    rw [hcells] at p5
    obtain ⟨m', hm', hvm⟩ := p5.2 0 m rfl
    have hcell : w.cell? ⟨x.1, 0, none⟩ = some m' := by
      have : c[0]? = some m' := by
        rw [List.getElem?_take] at hm'
        simpa using hm'
      simp [World.cell?, p2, this]
    have e10 : ∀ vs w, (callFunc (ren2.f 10) vs).run P w = .ok (.enter (ren2.f 10) vs) w := fun vs w => enters hf10 vs w
    have e9 : ∀ vs w, (callFunc (ren.f 9) vs).run P w = .ok (.enter (ren.f 9) vs) w := fun vs w => enters hf9 vs w
    have fin : ∀ (S : List (List UInt8) → Prop) (N : Nat), N ≤ 1000000 → SeqGives Fence.wide 2 P (ren2.f 10) #[.pointer (some ⟨x.1, 0, none⟩)] encStr S N w → (∀ ss, S ss → ss.Perm l) → Calls P (ren.f 6) ([Value.func (.func (ren2.f 10)) #[] #[.pointer (some ⟨x.1, 0, none⟩)]]).toArray w (fun e w' => ∃ v u ρ' s', e = .returned u ∧ VR ρ' v u ∧ R ρ' s' w' ∧ Ext ρ s w ρ' s' w' ∧ k v s' = true) := by
      intro S N hN hseq hS
      refine (callsIn_wide.1 (AnyZ.sorted_in L Fence.wide 5 trivial trivial trivial trivial rfl (by omega) (hsort _) e9 (ren2.f 10) _ trivial e10 S N (by unfold maxLen; omega) (by omega) w hseq)).mono ?_
      rintro e w' ⟨v, ss, rfl, hSs, how, hnil, hbel⟩
      have hperm := hS ss hSs
      obtain ⟨r1, r2⟩ := hR.grow hbel
      cases hso : sortS l with
      | nil =>
        rw [hso] at h
        have hl0 : l = [] := by
          have := (sortS_perm l)
          rw [hso] at this
          exact List.nil_perm.1 this
        subst hl0
        have hss : ss = [] := List.perm_nil.1 hperm
        subst hss
        obtain rfl := hnil.2 rfl
        exact ⟨.slice none 0 0, _, ρ, s, rfl, by rw [VR]; exact ⟨rfl, rfl⟩, r1, r2, h⟩
      | cons y ys =>
        rw [hso] at h
        simp only [xSorted2] at h
        cases hq3 : (risesS (y :: ys) && (Nat.ble l.length 1000000 && shortS l)) with
        | false => rw [hq3] at h; cases h
        | true =>
          rw [hq3] at h
          simp only [cond_true, nSK] at h
          simp only [Bool.and_eq_true] at hq3
          have hpw := rises_pw _ hq3.1
          have hms : ss.mergeSort (fun x y => decide (x ≤ y)) = y :: ys := by
            have h1 := mergeSort_of_perm (hperm.trans ((sortS_perm l).symm))
            rw [hso] at h1
            refine h1.trans (List.mergeSort_of_pairwise (hpw.imp fun {a b} hab => ?_))
            simp only [leB, decide_eq_true_eq]
            exact List.le_of_lt hab
          rw [hms] at how
          have hll : ss.length = l.length := hperm.length_eq
          rw [hll] at how
          have hpos : 0 < l.length := by
            have := (sortS_perm l).length_eq
            rw [hso] at this
            rw [← this]; simp
          obtain ⟨v0, ρ', s', a1, a2, a3, a4⟩ := append_new (k := k) hR (s0 := s) rfl (fun _ => rfl) (fun _ _ h => h) h how hpos (by decide) ⟨hbel.os, hbel.tape, hbel.output, hbel.size, fun j hj _ => hbel.block j hj⟩ (by
            refine ⟨by simp, fun i v hi => ?_⟩
            refine ⟨v, hi, ?_⟩
            have := List.mem_of_getElem? hi
            obtain ⟨z, _, rfl⟩ := List.mem_map.1 this
            rw [VR]) (fun v hv => by
            obtain ⟨z, _, rfl⟩ := List.mem_map.1 hv
            rfl)
          exact ⟨v0, v, ρ', s', rfl, a1, a2, a3, a4⟩
    cases hm : m with
    | map mo =>
      subst hm
      cases mo with
      | none =>
        obtain rfl : m' = .map none := by rw [VR] at hvm; exact hvm
        obtain rfl := Option.some.inj hes
        obtain rfl := Option.some.inj hkeys
        exact fin (fun ss => ss = []) 0 (by omega) (AnyZ.keys_gives_nil L2' Fence.wide 2 trivial rfl x.1 w hlt hcell) (fun ss e => by rw [e])
      | some n =>
        obtain ⟨z, hz, rfl⟩ : ∃ z, ρ n = some z ∧ m' = .map (some z.1) := by rw [VR] at hvm; exact hvm
        obtain ⟨z', g1, gM⟩ := hR.maps n es hes
        rcases gM with ⟨cs, cl, g2, g3, g4⟩ | ⟨t0, n0, cur0, left0, e0, _⟩
        rotate_left
        · rw [e0] at hkeys; cases hkeys
        rw [hz] at g1
        obtain rfl := Option.some.inj g1
        obtain ⟨k1, k2⟩ := keyStrs_ok (ρ := ρ) es l hkeys
        have hkl : cs.toList.map (·.key) = l.map encStr := by
          apply List.ext_getElem?
          intro i
          simp only [List.getElem?_map]
          cases hi : es[i]? with
          | none =>
            have := List.getElem?_eq_none_iff.1 hi
            rw [List.getElem?_eq_none (by rw [Array.length_toList, g3.1]; exact this), List.getElem?_eq_none (by rw [k1]; exact this)]
            rfl
          | some kv =>
            obtain ⟨e, o1, o2, _⟩ := g4 i kv hi
            obtain ⟨y, o3, o4⟩ := k2 i kv hi
            rw [Array.getElem?_toList, o1, o3]
            simp only [Option.map_some, Option.some.injEq]
            exact o4 _ o2
        have hgood : l.Nodup ∧ l.length ≤ 1000000 ∧ ∀ x ∈ l, x.length ≤ 1000000 := by
          cases hso : sortS l with
          | nil =>
            have := sortS_perm l
            rw [hso] at this
            obtain rfl := List.nil_perm.1 this
            exact ⟨List.Pairwise.nil, by simp, fun x hx => by cases hx⟩
          | cons y ys =>
            rw [hso] at h
            simp only [xSorted2] at h
            cases hq3 : (risesS (y :: ys) && (Nat.ble l.length 1000000 && shortS l)) with
            | false => rw [hq3] at h; cases h
            | true =>
              simp only [Bool.and_eq_true] at hq3
              refine ⟨?_, Nat.le_of_ble_eq_true hq3.2.1, shortS_ok l hq3.2.2⟩
              have hp := sortS_perm l
              rw [hso] at hp
              refine hp.nodup_iff.1 ((rises_pw _ hq3.1).imp fun {a b} hab e => ?_)
              subst e
              exact List.lt_irrefl _ hab
        obtain ⟨D, d1, d2, d3⟩ := owns_keys L2'.t26 g2 g3.2.1 hkl hgood.1 hgood.2.1 hgood.2.2
        exact fin _ _ (by rw [d3]; exact hgood.2.1) (AnyZ.keys_gives L2' Fence.wide 2 trivial rfl (by omega) x.1 z.1 _ D w hlt hcell d1) (fun ss e => e.trans d2)
    | _ => subst hm; cases hes
end Go.Proofs.YtllahinoomahnaaGreatDoor.Am
