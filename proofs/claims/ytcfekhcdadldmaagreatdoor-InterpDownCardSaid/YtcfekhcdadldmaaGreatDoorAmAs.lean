import Derived.Test.YtcfekhcdadldmaaGreatDoorAmWd
import Derived.Shelf.Strings.OnBuilder
import Derived.Shelf.Strconv.Clone
import Derived.Shelf.SlIter.Nil
import Derived.Sort.Walk0
import Derived.StringKeys
set_option linter.unusedSimpArgs false
namespace Go.Proofs.YtcfekhcdadldmaaGreatDoor.Am
open Go Go.RowKit Go.Shelf Go.Proofs
/- functions of Go's library that are told by the library's own contracts. -/
theorem enters {P : Program} {f : FuncId} (h : (fnOfP P f).isSome = true) (us : Array Value) (w : World) : (callFunc f us).run P w = .ok (.enter f us) w := by
  obtain ⟨fn, hf⟩ := Option.isSome_iff_exists.1 h
  exact ((goodF_of (P := P) (ext := fun _ => none) (xt := fun _ => none) (hs := fun _ _ _ => true) (fun _ _ h => by cases h)).fn f fn hf).2 us w
def strOf : Value → Option (List UInt8)
  | .string b => some b.data.toList
  | _ => none
def strsOf : List Value → Option (List (List UInt8))
  | [] => some []
  | v :: r => match strOf v with
    | some b => match strsOf r with
      | some l => some (b :: l)
      | none => none
    | none => none
def joinK3 (s : St) (k : K2) (l : List UInt8) : Bool := cond (Nat.ble l.length 1000000) (forceL l fun l => k (.string ⟨⟨l⟩⟩) s) false
def joinK2 (s : St) (sep : List UInt8) (k : K2) : Option (List (List UInt8)) → Bool
  | some xs => cond (Nat.ble xs.length 1000000) (joinK3 s k (Lib.join xs sep)) false
  | none => false
def joinK1 (s : St) (sep : List UInt8) (k : K2) : Option (List Value) → Bool
  | some l => joinK2 s sep k (strsOf l)
  | none => false
def xJoin : List Value → St → K2 → Bool
  | [.slice a n _, .string sep], s, k => joinK1 s sep.data.toList k (rowPart s n a)
  | _, _, _ => false
def xClone : List Value → St → K2 → Bool
  | [.string b], s, k => cond (Nat.ble b.data.toList.length 1000000) (k (.string b) s) false
  | _, _, _ => false
theorem strOf_eq {v : Value} {l : List UInt8} (h : strOf v = some l) : v = .string ⟨⟨l⟩⟩ := by
  unfold strOf at h
  split at h
  · rename_i b
    obtain rfl := Option.some.inj h
    cases b with | mk d => cases d; rfl
  · cases h
theorem strsOf_eq : ∀ (l : List Value) (xs : List (List UInt8)), strsOf l = some xs → l = xs.map fun x => .string ⟨⟨x⟩⟩
  | [], xs, h => by obtain rfl := Option.some.inj h; rfl
  | v :: r, xs, h => by
    rw [strsOf] at h
    split at h
    · rename_i b hb
      split at h
      · rename_i l hl
        obtain rfl := Option.some.inj h
        rw [strOf_eq hb, strsOf_eq r l hl]; rfl
      · cases h
    · cases h
theorem l2_strs {ρ : Rho} {xs : List (List UInt8)} {us : List Value} (h : L2 ρ (xs.map fun x => .string ⟨⟨x⟩⟩) us) : us = xs.map fun x => .string ⟨⟨x⟩⟩ := by
  apply List.ext_getElem?
  intro i
  cases hi : (xs.map fun x => (.string ⟨⟨x⟩⟩ : Value))[i]? with
  | none =>
    have hl := List.getElem?_eq_none_iff.1 hi
    exact List.getElem?_eq_none (by rw [h.1]; exact hl)
  | some v =>
    obtain ⟨u, hu, hv⟩ := h.2 i v hi
    rw [hu]
    have := List.mem_of_getElem? hi
    obtain ⟨c, _, rfl⟩ := List.mem_map.1 this
    rw [VR] at hv
    rw [hv]
theorem ext_one {P : Program} {f : FuncId} {g : List Value → St → K2 → Bool} (hf : (fnOfP P f).isSome = true) (h : ∀ args s k, g args s k = true → ∀ ρ w us, R ρ s w → L2 ρ args us → Calls P f us.toArray w (fun e w' => ∃ v u ρ' s', e = .returned u ∧ VR ρ' v u ∧ R ρ' s' w' ∧ Ext ρ s w ρ' s' w' ∧ k v s' = true)) : CallOk P (fun f' args s k => cond (Nat.beq f' f) (g args s k) false) := fun f' args s k hk => by
  cases hq : Nat.beq f' f with
  | false => simp only [hq] at hk; cases hk
  | true =>
    simp only [hq, cond_true] at hk
    obtain rfl := Nat.eq_of_beq_eq_true hq
    exact ⟨enters hf, h args s k hk⟩
theorem clone_ok {P : Program} {ren : Ren} (L : LaysM.n316 P ren) (hf : (fnOfP P (ren.f 316)).isSome = true) : CallOk P (fun f' args s k => cond (Nat.beq f' (ren.f 316)) (xClone args s k) false) := by
  refine ext_one hf fun args s k h ρ w us hR hl => ?_
  unfold xClone at h
  split at h
  · rename_i b
    cases hq : Nat.ble b.data.toList.length 1000000 with
    | false => rw [hq] at h; cases h
    | true =>
      rw [hq] at h
      obtain ⟨u, r, rfl, hv, hr⟩ := hl.inv
      have : r = [] := List.length_eq_zero_iff.1 hr.1
      subst this
      obtain rfl : u = .string b := by rw [VR] at hv; exact hv
      have hbl : b.data.toList.length = b.size := by cases b; rfl
      have hle := Nat.le_of_ble_eq_true hq
      refine (Any.stringslite_Clone L b w (by omega)).mono ?_
      rintro e w' ⟨rfl, hb⟩
      obtain ⟨r1, r2⟩ := hR.grow hb
      exact ⟨.string b, _, ρ, s, rfl, by rw [VR], r1, r2, h⟩
  · cases h
theorem join_ok {P : Program} {ren : Ren} (L : Lays.n156 P ren) (X : Builder.Extra P ren) (hf : (fnOfP P (ren.f 156)).isSome = true) : CallOk P (fun f' args s k => cond (Nat.beq f' (ren.f 156)) (xJoin args s k) false) := by
  refine ext_one hf fun args s k h ρ w us hR hl => ?_
  unfold xJoin at h
  split at h
  case h_2 => cases h
  rename_i a n c sep
  unfold joinK1 at h
  split at h
  case h_2 => cases h
  rename_i l hrow
  unfold joinK2 at h
  split at h
  case h_2 => cases h
  rename_i xs hxs
  cases hq : Nat.ble xs.length 1000000 with
  | false => rw [hq] at h; cases h
  | true =>
    rw [hq] at h
    simp only [cond_true, joinK3] at h
    cases hq2 : Nat.ble (Lib.join xs sep.data.toList).length 1000000 with
    | false => rw [hq2] at h; cases h
    | true =>
      rw [hq2] at h
      simp only [cond_true, forceL_eq] at h
      have hle := Nat.le_of_ble_eq_true hq
      have hle2 := Nat.le_of_ble_eq_true hq2
      obtain ⟨u, r, rfl, hv, hr⟩ := hl.inv
      obtain ⟨u2, r2, rfl, hv2, hr2⟩ := hr.inv
      have : r2 = [] := List.length_eq_zero_iff.1 hr2.1
      subst this
      obtain rfl : u2 = .string sep := by rw [VR] at hv2; exact hv2
      have hle3 := strsOf_eq _ _ hxs
      have fin : ∀ e w', e = Ending.returned (.string ⟨(Lib.join xs sep.data.toList).toArray⟩) → Below w.heap.size w w' → ∃ v u ρ' s', e = .returned u ∧ VR ρ' v u ∧ R ρ' s' w' ∧ Ext ρ s w ρ' s' w' ∧ k v s' = true := by
        rintro e w' rfl hb
        obtain ⟨r1, r2⟩ := hR.grow hb
        exact ⟨.string ⟨⟨Lib.join xs sep.data.toList⟩⟩, _, ρ, s, rfl, by rw [VR], r1, r2, h⟩
      rcases Nat.eq_zero_or_pos n with hn | hn
      · subst hn
        obtain ⟨q, cp, rfl⟩ : ∃ q cp, u = .slice q 0 cp := by
          cases a with
          | none =>
            obtain ⟨_, rfl⟩ : 0 = 0 ∧ u = .slice none 0 0 := by rw [VR] at hv; exact hv
            exact ⟨_, _, rfl⟩
          | some ad =>
            obtain ⟨b, cap, x, rfl, _⟩ := slice_vr hv
            exact ⟨_, _, rfl⟩
        have hx0 : xs = [] := by
          have hl0 : l.length = 0 := by
            unfold rowPart at hrow
            split at hrow
            · simp at hrow; rw [hrow]; rfl
            · split at hrow
              · rename_i r _
                rename_i ad _ _
                cases hb : Nat.ble (ad.off + 0) r.cells.length with
                | false => rw [hb] at hrow; cases hrow
                | true =>
                  rw [hb] at hrow
                  simp only [cond_true, Option.some.injEq, takeN_eq, List.take_zero] at hrow
                  rw [← hrow]; rfl
              · cases hrow
          rw [hle3, List.length_map] at hl0
          exact List.length_eq_zero_iff.1 hl0
        subst hx0
        refine (Any.strings_Join_none L X q cp sep w).mono ?_
        rintro e w' ⟨rfl, rfl⟩
        exact fin _ _ rfl (Below.refl _ _)
      · obtain ⟨ad, cap, ys, rfl, l1, l2, l3, l4⟩ := rowPart_ok (size := 1) hR (by rw [Nat.mul_one]; exact hrow) hn hv
        cases a with
        | none =>
          obtain ⟨h0, _⟩ : n = 0 ∧ _ := by rw [VR] at hv; exact hv
          omega
        | some ad0 =>
          obtain ⟨b, cap', x, e1, h1, h2, h3, h4, h5⟩ := slice_vr hv
          injection e1 with e1 e2 e3
          obtain rfl := Option.some.inj e1
          obtain rfl := h5 (.inr hn)
          rw [hle3] at l1
          have hys := l2_strs l1
          have hxl : xs.length = n := by rw [hle3, List.length_map] at l3; omega
          have hmm : (xs.map fun x => (⟨⟨x⟩⟩ : ByteArray)).map (·.data.toList) = xs := by rw [List.map_map]; exact List.map_id _
          have hJ := Any.strings_Join L X x.1 ad0.off cap (xs.map fun x => ⟨⟨x⟩⟩) sep w (fun j y hj => by
            have hj2 : ys[j]? = some (.string y) := by
              rw [hys]
              rw [List.getElem?_map] at hj ⊢
              cases hx : xs[j]? with
              | none => rw [hx] at hj; cases hj
              | some z =>
                rw [hx] at hj
                obtain rfl := Option.some.inj hj
                rfl
            have := l4 j _ hj2
            rwa [addr_add] at this) (hR.lt _ _ h3) (by rw [List.length_map]; omega) (by rw [List.length_map, hxl, e3]; exact h1) (by rw [hmm]; omega)
          rw [List.length_map, hxl, hmm] at hJ
          exact hJ.mono fun e w' ⟨he, hb⟩ => fin e w' he hb
end Go.Proofs.YtcfekhcdadldmaaGreatDoor.Am
set_option linter.unusedSimpArgs false
namespace Go.Proofs.YtcfekhcdadldmaaGreatDoor.Am
open Go Go.RowKit Go.Shelf Go.Proofs
/- slices.Sorted over the keys of a map. -/
def insS (x : List UInt8) : List (List UInt8) → List (List UInt8)
  | [] => [x]
  | y :: r => cond (Op.bytesLess y x) (y :: insS x r) (x :: y :: r)
def sortS : List (List UInt8) → List (List UInt8)
  | [] => []
  | x :: r => insS x (sortS r)
def keyStrs : List (Value × Value) → Option (List (List UInt8))
  | [] => some []
  | p :: r => match strOf p.1 with
    | some b => match keyStrs r with
      | some l => some (b :: l)
      | none => none
    | none => none
def risesS : List (List UInt8) → Bool
  | x :: y :: r => cond (Op.bytesLess x y) (risesS (y :: r)) false
  | _ => true
def shortS : List (List UInt8) → Bool
  | [] => true
  | x :: r => cond (Nat.ble x.length 1000000) (shortS r) false
def xSorted2 (e : TypeId) (s : St) (k : K2) (l : List (List UInt8)) : List (List UInt8) → Bool
  | [] => k (.slice none 0 0) s
  | x :: r => cond (risesS (x :: r) && (Nat.ble l.length 1000000 && shortS l)) (nSK k s e 1 l.length 0 (some ((x :: r).map fun x => .string ⟨⟨x⟩⟩))) false
def xSorted1 (e : TypeId) (s : St) (k : K2) : Option (List (List UInt8)) → Bool
  | some l => xSorted2 e s k l (sortS l)
  | none => false
def mapOf (s : St) : Option Row → Option (List (Value × Value))
  | some r => match r.cells with
    | [m] => entries s m
    | _ => none
  | none => none
def keysO : Option (List (Value × Value)) → Option (List (List UInt8))
  | some es => keyStrs es
  | none => none
def xSorted (gs : List FuncId) (e : TypeId) : List Value → St → K2 → Bool
  | [.func (.func f) first cap], s, k => match first.toList, cap.toList with
    | [], [.pointer (some a)] => cond (hasN gs f && Nat.beq a.off 0) (xSorted1 e s k (keysO (mapOf s (s.get a.block)))) false
    | _, _ => false
  | _, _, _ => false
theorem insS_perm (x : List UInt8) : ∀ l, (insS x l).Perm (x :: l)
  | [] => List.Perm.refl _
  | y :: r => by
    rw [insS]
    cases Op.bytesLess y x with
    | false => exact List.Perm.refl _
    | true => exact ((insS_perm x r).cons y).trans (List.Perm.swap x y r)
theorem sortS_perm : ∀ l, (sortS l).Perm l
  | [] => List.Perm.refl _
  | x :: r => (insS_perm x _).trans ((sortS_perm r).cons x)
theorem rises_pw : ∀ l, risesS l = true → l.Pairwise (fun x y => x < y)
  | [], _ => List.Pairwise.nil
  | [x], _ => List.pairwise_singleton _ _
  | x :: y :: r, h => by
    rw [risesS] at h
    cases hq : Op.bytesLess x y with
    | false => rw [hq] at h; cases h
    | true =>
      rw [hq] at h
      have ih := rises_pw (y :: r) h
      rw [bytesLess_eq] at hq
      have hxy : x < y := of_decide_eq_true hq
      refine List.Pairwise.cons (fun z hz => ?_) ih
      rcases List.mem_cons.1 hz with rfl | hz
      · exact hxy
      · exact List.lt_trans hxy ((List.pairwise_cons.1 ih).1 z hz)
theorem keyStrs_ok {ρ : Rho} : ∀ (es : List (Value × Value)) (l : List (List UInt8)), keyStrs es = some l → l.length = es.length ∧ ∀ (i : Nat) (kv : Value × Value), es[i]? = some kv → ∃ x, l[i]? = some x ∧ ∀ u, VR ρ kv.1 u → u = encStr x
  | [], l, h => by
    obtain rfl := Option.some.inj h
    exact ⟨rfl, fun i kv hi => by simp at hi⟩
  | p :: r, l, h => by
    rw [keyStrs] at h
    split at h
    · rename_i b hb
      split at h
      · rename_i l' hl
        obtain rfl := Option.some.inj h
        obtain ⟨h1, h2⟩ := keyStrs_ok r l' hl
        refine ⟨by simp [h1], fun i kv hi => ?_⟩
        cases i with
        | zero =>
          simp only [List.getElem?_cons_zero, Option.some.injEq] at hi
          subst hi
          refine ⟨b, rfl, fun u hu => ?_⟩
          rw [strOf_eq hb, VR] at hu
          exact hu
        | succ i => simpa using h2 i kv (by simpa using hi)
      · cases h
    · cases h
theorem shortS_ok : ∀ (l : List (List UInt8)), shortS l = true → ∀ x ∈ l, x.length ≤ 1000000
  | [], _, x, hx => by cases hx
  | y :: r, h, x, hx => by
    rw [shortS] at h
    cases hq : Nat.ble y.length 1000000 with
    | false => rw [hq] at h; cases h
    | true =>
      rw [hq] at h
      rcases List.mem_cons.1 hx with rfl | hx
      · exact Nat.le_of_ble_eq_true hq
      · exact shortS_ok r h x hx
/-- what the keys of a map are. -/
theorem owns_keys {P : Program} {kt : TypeId} (hk : P.underlying kt = some .string) {w : World} {b : Nat} {cs : Array MapEntry} {cl : Nat} (hb : w.heap[b]? = some (.map cs cl)) (hbn : Born cs cl) {l : List (List UInt8)} (hl : cs.toList.map (·.key) = l.map encStr) (hn : l.Nodup) (hlen : l.length ≤ 1000000) (hs : ∀ x ∈ l, x.length ≤ 1000000) :
    ∃ D : DataW Unit, w.ownsMap P kt (fun _ => some (.lit (.bool true), [])) b cs.size D ∧ (strKeys D).Perm l ∧ Maps.size D = l.length := by
  have hsz : cs.size = l.length := by
    have := congrArg List.length hl
    simpa using this
  have hkey : ∀ x ∈ cs.toList, ∃ y ∈ l, x.key = encStr y := fun x hx => by
    have : x.key ∈ l.map encStr := by rw [← hl]; exact List.mem_map.2 ⟨x, hx, rfl⟩
    obtain ⟨y, hy, e⟩ := List.mem_map.1 this
    exact ⟨y, hy, e.symm⟩
  have hrd : ∀ x ∈ cs.toList, ∀ y ∈ l, x.key = encStr y → WideElems.rd P kt (fun _ => some ((.lit (.bool true) : DataW Unit), ([] : List MemPlace))) x = some (.string y, .lit (.bool true)) := fun x hx y hy e => by
    have h1 : keyOf P kt x.key = some (.string y) := by
      rw [e]
      have := WideMaps.keyOf_string_mk (P := P) (k := kt) hk (s := ⟨y.toArray⟩) (by
        have := hs y hy
        have e2 : (ByteArray.mk y.toArray).size = y.length := by simp [ByteArray.size]
        rw [e2]; unfold maxLen; omega)
      simpa using this
    simp [WideElems.rd, h1]
  have hmap : cs.toList.map (WideElems.rg P kt (fun _ => some ((.lit (.bool true) : DataW Unit), ([] : List MemPlace)))) = l.map fun y => (.string y, .lit (.bool true)) := by
    apply List.ext_getElem?
    intro i
    simp only [List.getElem?_map]
    have hi := congrArg (·[i]?) hl
    simp only [List.getElem?_map] at hi
    cases hx : cs.toList[i]? with
    | none =>
      rw [hx] at hi
      cases hy : l[i]? with
      | none => rfl
      | some y => rw [hy] at hi; cases hi
    | some x =>
      rw [hx] at hi
      cases hy : l[i]? with
      | none => rw [hy] at hi; cases hi
      | some y =>
        rw [hy] at hi
        simp only [Option.map_some, Option.some.injEq] at hi ⊢
        exact WideElems.rg_of (hrd x (List.mem_of_getElem? hx) y (List.mem_of_getElem? hy) hi)
  refine ⟨_, ⟨cs, cl, hb, ⟨by rw [hsz]; unfold maxLen; omega, ⟨hbn.1, hbn.2, by rw [hl]; exact List.pairwise_map.2 (hn.imp fun {a b} h e => h (encStr_inj e))⟩, fun x hx => ?_⟩, Nat.le_refl _, rfl⟩, ?_, ?_⟩
  · obtain ⟨y, hy, e⟩ := hkey x hx
    exact ⟨_, hrd x hx y hy e⟩
  · rw [hmap]
    have := (WideShapes.sorted_perm (l.map fun y => ((.string y : Lit), (.lit (.bool true) : DataW Unit)))).map fun p => Go.strOf p.1
    refine this.trans ?_
    rw [List.map_map]
    exact List.Perm.of_eq (List.map_id _)
  · rw [hmap]
    show (List.foldr DataW.insert [] _).length = _
    rw [(WideShapes.sorted_perm _).length_eq, List.length_map]
theorem sorted_ok {P : Program} {ren : Ren} (L : SlLaysZ.n6 P ren) {gs : List FuncId} (K : ∀ g, hasN gs g = true → ∃ ren2 : Ren, ren2.f 10 = g ∧ SlLaysZ.n10 P ren2 ∧ (fnOfP P g).isSome = true) (hsort : ∀ m, AnyZ.SortsIn P ren Fence.wide m) (hf : (fnOfP P (ren.f 6)).isSome = true) (hf9 : (fnOfP P (ren.f 9)).isSome = true) : CallOk P (fun f' args s k => cond (Nat.beq f' (ren.f 6)) (xSorted gs (ren.t 26) args s k) false) := by
  refine ext_one hf fun args s k h ρ w us hR hl => ?_
  unfold xSorted at h
  split at h
  case h_2 => cases h
  rename_i f first cap
  split at h
  case h_2 => cases h
  rename_i a hfirst hcap
  cases hq : (hasN gs f && Nat.beq a.off 0) with
  | false => rw [hq] at h; cases h
  | true =>
    rw [hq] at h
    simp only [cond_true] at h
    simp only [Bool.and_eq_true] at hq
    obtain ⟨ren2, rfl, L2', hf10⟩ := K f hq.1
    have hoff := Nat.eq_of_beq_eq_true hq.2
    unfold xSorted1 at h
    split at h
    case h_2 => cases h
    rename_i l hkeys
    unfold keysO at hkeys
    split at hkeys
    case h_2 => cases hkeys
    rename_i es hes
    unfold mapOf at hes
    split at hes
    case h_2 => cases hes
    rename_i r hr
    split at hes
    case h_2 => cases hes
    rename_i m hcells
    obtain ⟨u, rr, rfl, hv, hrr⟩ := hl.inv
    have : rr = [] := List.length_eq_zero_iff.1 hrr.1
    subst this
    obtain ⟨ys, vs, rfl, l1, l2⟩ := vr_func.1 hv
    rw [hfirst] at l1
    rw [hcap] at l2
    have hys : ys = #[] := by
      have := List.length_eq_zero_iff.1 l1.1
      exact Array.toList_eq_nil_iff.1 this
    subst hys
    obtain ⟨u2, r2, e2, hv2, hr2⟩ := l2.inv
    have : r2 = [] := List.length_eq_zero_iff.1 hr2.1
    subst this
    have hvs : vs = #[u2] := Array.ext' (by simpa using e2)
    subst hvs
    obtain ⟨x, c, p1, p2, p3, p4, p5, _⟩ := hR.rows _ _ hr
    obtain rfl : u2 = .pointer (some ⟨x.1, 0, none⟩) := by
      rw [VR] at hv2
      obtain ⟨q, ⟨x', hx', rfl⟩, rfl⟩ := hv2
      rw [p1] at hx'
      obtain rfl := Option.some.inj hx'
      rw [hoff]
    have hlt := hR.lt _ _ p1
    rw [hcells] at p5
    obtain ⟨m', hm', hvm⟩ := p5.2 0 m rfl
    have hcell : w.cell? ⟨x.1, 0, none⟩ = some m' := by
      have : c[0]? = some m' := by
        rw [List.getElem?_take] at hm'
        simpa using hm'
      simp [World.cell?, p2, this]
    have e10 : ∀ vs w, (callFunc (ren2.f 10) vs).run P w = .ok (.enter (ren2.f 10) vs) w := fun vs w => enters hf10 vs w
    have e9 : ∀ vs w, (callFunc (ren.f 9) vs).run P w = .ok (.enter (ren.f 9) vs) w := fun vs w => enters hf9 vs w
    have fin : ∀ (S : List (List UInt8) → Prop) (N : Nat), N ≤ 1000000 → SeqGives Fence.wide 2 P (ren2.f 10) #[.pointer (some ⟨x.1, 0, none⟩)] encStr S N w → (∀ ss, S ss → ss.Perm l) → Calls P (ren.f 6) ([Value.func (.func (ren2.f 10)) #[] #[.pointer (some ⟨x.1, 0, none⟩)]]).toArray w (fun e w' => ∃ v u ρ' s', e = .returned u ∧ VR ρ' v u ∧ R ρ' s' w' ∧ Ext ρ s w ρ' s' w' ∧ k v s' = true) := by
      intro S N hN hseq hS
      refine (callsIn_wide.1 (AnyZ.sorted_in L Fence.wide 5 trivial trivial trivial trivial rfl (by omega) (hsort _) e9 (ren2.f 10) _ trivial e10 S N (by unfold maxLen; omega) (by omega) w hseq)).mono ?_
      rintro e w' ⟨v, ss, rfl, hSs, how, hnil, hbel⟩
      have hperm := hS ss hSs
      obtain ⟨r1, r2⟩ := hR.grow hbel
      cases hso : sortS l with
      | nil =>
        rw [hso] at h
        have hl0 : l = [] := by
          have := (sortS_perm l)
          rw [hso] at this
          exact List.nil_perm.1 this
        subst hl0
        have hss : ss = [] := List.perm_nil.1 hperm
        subst hss
        obtain rfl := hnil.2 rfl
        exact ⟨.slice none 0 0, _, ρ, s, rfl, by rw [VR]; exact ⟨rfl, rfl⟩, r1, r2, h⟩
      | cons y ys =>
        rw [hso] at h
        simp only [xSorted2] at h
        cases hq3 : (risesS (y :: ys) && (Nat.ble l.length 1000000 && shortS l)) with
        | false => rw [hq3] at h; cases h
        | true =>
          rw [hq3] at h
          simp only [cond_true, nSK] at h
          simp only [Bool.and_eq_true] at hq3
          have hpw := rises_pw _ hq3.1
          have hms : ss.mergeSort (fun x y => decide (x ≤ y)) = y :: ys := by
            have h1 := mergeSort_of_perm (hperm.trans ((sortS_perm l).symm))
            rw [hso] at h1
            refine h1.trans (List.mergeSort_of_pairwise (hpw.imp fun {a b} hab => ?_))
            simp only [leB, decide_eq_true_eq]
            exact List.le_of_lt hab
          rw [hms] at how
          have hll : ss.length = l.length := hperm.length_eq
          rw [hll] at how
          have hpos : 0 < l.length := by
            have := (sortS_perm l).length_eq
            rw [hso] at this
            rw [← this]; simp
          obtain ⟨v0, ρ', s', a1, a2, a3, a4⟩ := append_new (k := k) hR (s0 := s) rfl (fun _ => rfl) (fun _ _ h => h) h how hpos (by decide) ⟨hbel.os, hbel.tape, hbel.output, hbel.size, fun j hj _ => hbel.block j hj⟩ (by
            refine ⟨by simp, fun i v hi => ?_⟩
            refine ⟨v, hi, ?_⟩
            have := List.mem_of_getElem? hi
            obtain ⟨z, _, rfl⟩ := List.mem_map.1 this
            rw [VR]) (fun v hv => by
            obtain ⟨z, _, rfl⟩ := List.mem_map.1 hv
            rfl)
          exact ⟨v0, v, ρ', s', rfl, a1, a2, a3, a4⟩
    cases hm : m with
    | map mo =>
      subst hm
      cases mo with
      | none =>
        obtain rfl : m' = .map none := by rw [VR] at hvm; exact hvm
        obtain rfl := Option.some.inj hes
        obtain rfl := Option.some.inj hkeys
        exact fin (fun ss => ss = []) 0 (by omega) (AnyZ.keys_gives_nil L2' Fence.wide 2 trivial rfl x.1 w hlt hcell) (fun ss e => by rw [e])
      | some n =>
        obtain ⟨z, hz, rfl⟩ : ∃ z, ρ n = some z ∧ m' = .map (some z.1) := by rw [VR] at hvm; exact hvm
        obtain ⟨z', g1, gM⟩ := hR.maps n es hes
        rcases gM with ⟨cs, cl, g2, g3, g4⟩ | ⟨t0, n0, cur0, left0, e0, _⟩
        rotate_left
        · rw [e0] at hkeys; cases hkeys
        rw [hz] at g1
        obtain rfl := Option.some.inj g1
        obtain ⟨k1, k2⟩ := keyStrs_ok (ρ := ρ) es l hkeys
        have hkl : cs.toList.map (·.key) = l.map encStr := by
          apply List.ext_getElem?
          intro i
          simp only [List.getElem?_map]
          cases hi : es[i]? with
          | none =>
            have := List.getElem?_eq_none_iff.1 hi
            rw [List.getElem?_eq_none (by rw [Array.length_toList, g3.1]; exact this), List.getElem?_eq_none (by rw [k1]; exact this)]
            rfl
          | some kv =>
            obtain ⟨e, o1, o2, _⟩ := g4 i kv hi
            obtain ⟨y, o3, o4⟩ := k2 i kv hi
            rw [Array.getElem?_toList, o1, o3]
            simp only [Option.map_some, Option.some.injEq]
            exact o4 _ o2
        have hgood : l.Nodup ∧ l.length ≤ 1000000 ∧ ∀ x ∈ l, x.length ≤ 1000000 := by
          cases hso : sortS l with
          | nil =>
            have := sortS_perm l
            rw [hso] at this
            obtain rfl := List.nil_perm.1 this
            exact ⟨List.Pairwise.nil, by simp, fun x hx => by cases hx⟩
          | cons y ys =>
            rw [hso] at h
            simp only [xSorted2] at h
            cases hq3 : (risesS (y :: ys) && (Nat.ble l.length 1000000 && shortS l)) with
            | false => rw [hq3] at h; cases h
            | true =>
              simp only [Bool.and_eq_true] at hq3
              refine ⟨?_, Nat.le_of_ble_eq_true hq3.2.1, shortS_ok l hq3.2.2⟩
              have hp := sortS_perm l
              rw [hso] at hp
              refine hp.nodup_iff.1 ((rises_pw _ hq3.1).imp fun {a b} hab e => ?_)
              subst e
              exact List.lt_irrefl _ hab
        obtain ⟨D, d1, d2, d3⟩ := owns_keys L2'.t26 g2 g3.2.1 hkl hgood.1 hgood.2.1 hgood.2.2
        exact fin _ _ (by rw [d3]; exact hgood.2.1) (AnyZ.keys_gives L2' Fence.wide 2 trivial rfl (by omega) x.1 z.1 _ D w hlt hcell d1) (fun ss e => e.trans d2)
    | _ => subst hm; cases hes
end Go.Proofs.YtcfekhcdadldmaaGreatDoor.Am
set_option linter.unusedSimpArgs false
namespace Go.Proofs.YtcfekhcdadldmaaGreatDoor.Am
open Go Go.RowKit Go.Shelf Go.Proofs
/- slices.Sorted over slices.Values of a row of one string (beside the keys of a map). -/
def strsO : Option (List Value) → Option (List (List UInt8))
  | some l => strsOf l
  | none => none
def valsOf (s : St) : Option Row → Option (List (List UInt8))
  | some r => match r.cells with
    | [.slice (some a) n _] => cond (Nat.beq n 1) (strsO (rowPart s 1 (some a))) none
    | _ => none
  | none => none
def xSortedB (vs gs : List FuncId) (e : TypeId) : List Value → St → K2 → Bool
  | [.func (.func f) first cap], s, k => match first.toList, cap.toList with
    | [], [.pointer (some a)] => cond (hasN vs f && Nat.beq a.off 0) (xSorted1 e s k (valsOf s (s.get a.block))) (xSorted gs e [.func (.func f) first cap] s k)
    | _, _ => false
  | _, _, _ => false
/-- what Sorted leaves, whatever the iterator is. -/
theorem sorted_fin {P : Program} {ren : Ren} (L : SlLaysZ.n6 P ren) (hsort : ∀ m, AnyZ.SortsIn P ren Fence.wide m) (hf9 : (fnOfP P (ren.f 9)).isSome = true) {g : FuncId} (hg : (fnOfP P g).isSome = true) {ρ : Rho} {s : St} {w : World} {k : K2} {l : List (List UInt8)} (hR : R ρ s w) (h : xSorted2 (ren.t 26) s k l (sortS l) = true) {lb : Array Value} (S : List (List UInt8) → Prop) (N : Nat) (hN : N ≤ 1000000) (hseq : SeqGives Fence.wide 2 P g lb encStr S N w) (hS : ∀ ss, S ss → ss.Perm l) :
    Calls P (ren.f 6) ([Value.func (.func g) #[] lb]).toArray w (fun e w' => ∃ v u ρ' s', e = .returned u ∧ VR ρ' v u ∧ R ρ' s' w' ∧ Ext ρ s w ρ' s' w' ∧ k v s' = true) := by
  have eg : ∀ vs w, (callFunc g vs).run P w = .ok (.enter g vs) w := fun vs w => enters hg vs w
  have e9 : ∀ vs w, (callFunc (ren.f 9) vs).run P w = .ok (.enter (ren.f 9) vs) w := fun vs w => enters hf9 vs w
  refine (callsIn_wide.1 (AnyZ.sorted_in L Fence.wide 5 trivial trivial trivial trivial rfl (by omega) (hsort _) e9 g _ trivial eg S N (by unfold maxLen; omega) (by omega) w hseq)).mono ?_
  rintro e w' ⟨v, ss, rfl, hSs, how, hnil, hbel⟩
  have hperm := hS ss hSs
  obtain ⟨r1, r2⟩ := hR.grow hbel
  cases hso : sortS l with
  | nil =>
    rw [hso] at h
    have hl0 : l = [] := by
      have := (sortS_perm l)
      rw [hso] at this
      exact List.nil_perm.1 this
    subst hl0
    have hss : ss = [] := List.perm_nil.1 hperm
    subst hss
    obtain rfl := hnil.2 rfl
    exact ⟨.slice none 0 0, _, ρ, s, rfl, by rw [VR]; exact ⟨rfl, rfl⟩, r1, r2, h⟩
  | cons y ys =>
    rw [hso] at h
    simp only [xSorted2] at h
    cases hq3 : (risesS (y :: ys) && (Nat.ble l.length 1000000 && shortS l)) with
    | false => rw [hq3] at h; cases h
    | true =>
      rw [hq3] at h
      simp only [cond_true, nSK] at h
      simp only [Bool.and_eq_true] at hq3
      have hpw := rises_pw _ hq3.1
      have hms : ss.mergeSort (fun x y => decide (x ≤ y)) = y :: ys := by
        have h1 := mergeSort_of_perm (hperm.trans ((sortS_perm l).symm))
        rw [hso] at h1
        refine h1.trans (List.mergeSort_of_pairwise (hpw.imp fun {a b} hab => ?_))
        simp only [leB, decide_eq_true_eq]
        exact List.le_of_lt hab
      rw [hms] at how
      have hll : ss.length = l.length := hperm.length_eq
      rw [hll] at how
      have hpos : 0 < l.length := by
        have := (sortS_perm l).length_eq
        rw [hso] at this
        rw [← this]; simp
      obtain ⟨v0, ρ', s', a1, a2, a3, a4⟩ := append_new (k := k) hR (s0 := s) rfl (fun _ => rfl) (fun _ _ h => h) h how hpos (by decide) ⟨hbel.os, hbel.tape, hbel.output, hbel.size, fun j hj _ => hbel.block j hj⟩ (by
        refine ⟨by simp, fun i v hi => ?_⟩
        refine ⟨v, hi, ?_⟩
        have := List.mem_of_getElem? hi
        obtain ⟨z, _, rfl⟩ := List.mem_map.1 this
        rw [VR]) (fun v hv => by
        obtain ⟨z, _, rfl⟩ := List.mem_map.1 hv
        rfl)
      exact ⟨v0, v, ρ', s', rfl, a1, a2, a3, a4⟩
/-- what is to be known of an iterator of slices.Values over strings. -/
def ValsOk (P : Program) (g : FuncId) : Prop := (fnOfP P g).isSome = true ∧ ∀ (w : World) (Bm : Nat) (a : Addr) (c : Nat) (x : List UInt8), Bm < w.heap.size → w.cell? ⟨Bm, 0, none⟩ = some (.slice (some a) 1 c) → a.block < w.heap.size → w.cell? a = some (encStr x) → SeqGives Fence.wide 2 P g #[.pointer (some ⟨Bm, 0, none⟩)] encStr (fun ss : List (List UInt8) => ss = [x]) 1 w
theorem sortedB_ok {P : Program} {ren : Ren} (L : SlLaysZ.n6 P ren) {gs vs : List FuncId} (K : ∀ g, hasN gs g = true → ∃ ren2 : Ren, ren2.f 10 = g ∧ SlLaysZ.n10 P ren2 ∧ (fnOfP P g).isSome = true) (V : ∀ g, hasN vs g = true → ValsOk P g) (hsort : ∀ m, AnyZ.SortsIn P ren Fence.wide m) (hf : (fnOfP P (ren.f 6)).isSome = true) (hf9 : (fnOfP P (ren.f 9)).isSome = true) : CallOk P (fun f' args s k => cond (Nat.beq f' (ren.f 6)) (xSortedB vs gs (ren.t 26) args s k) false) := by
  refine ext_one hf fun args s k h ρ w us hR hl => ?_
  unfold xSortedB at h
  split at h
  case h_2 => cases h
  rename_i f first cap
  split at h
  case h_2 => cases h
  rename_i a hfirst hcap
  cases hq : (hasN vs f && Nat.beq a.off 0) with
  | false =>
    rw [hq] at h
    exact (sorted_ok L K hsort hf hf9 (ren.f 6) _ s k (by show cond (Nat.beq _ _) _ _ = true; rw [show Nat.beq (ren.f 6) (ren.f 6) = true from Nat.beq_refl _]; exact h)).2 ρ w us hR hl
  | true =>
    rw [hq] at h
    simp only [cond_true] at h
    simp only [Bool.and_eq_true] at hq
    obtain ⟨hfg, hV⟩ := V f hq.1
    have hoff := Nat.eq_of_beq_eq_true hq.2
    unfold xSorted1 at h
    split at h
    case h_2 => cases h
    rename_i l hvals
    unfold valsOf at hvals
    split at hvals
    case h_2 => cases hvals
    rename_i r hr
    split at hvals
    case h_2 => cases hvals
    rename_i b n cp hcells
    cases hn1 : Nat.beq n 1 with
    | false => rw [hn1] at hvals; cases hvals
    | true =>
      rw [hn1] at hvals
      obtain rfl := Nat.eq_of_beq_eq_true hn1
      simp only [cond_true] at hvals
      unfold strsO at hvals
      split at hvals
      case h_2 => cases hvals
      rename_i vsl hpart
      have hle := strsOf_eq _ _ hvals
      obtain ⟨u, rr, rfl, hv, hrr⟩ := hl.inv
      have : rr = [] := List.length_eq_zero_iff.1 hrr.1
      subst this
      obtain ⟨ys, vs2, rfl, l1, l2⟩ := vr_func.1 hv
      rw [hfirst] at l1
      rw [hcap] at l2
      have hys : ys = #[] := by
        have := List.length_eq_zero_iff.1 l1.1
        exact Array.toList_eq_nil_iff.1 this
      subst hys
      obtain ⟨u2, r2, e2, hv2, hr2⟩ := l2.inv
      have : r2 = [] := List.length_eq_zero_iff.1 hr2.1
      subst this
      have hvs : vs2 = #[u2] := Array.ext' (by simpa using e2)
      subst hvs
      obtain ⟨x, c, p1, p2, p3, p4, p5, _⟩ := hR.rows _ _ hr
      obtain rfl : u2 = .pointer (some ⟨x.1, 0, none⟩) := by
        rw [VR] at hv2
        obtain ⟨q, ⟨x', hx', rfl⟩, rfl⟩ := hv2
        rw [p1] at hx'
        obtain rfl := Option.some.inj hx'
        rw [hoff]
      have hlt := hR.lt _ _ p1
      rw [hcells] at p5
      obtain ⟨m', hm', hvm⟩ := p5.2 0 _ rfl
      have hcell : w.cell? ⟨x.1, 0, none⟩ = some m' := by
        have : c[0]? = some m' := by
          rw [List.getElem?_take] at hm'
          simpa using hm'
        simp [World.cell?, p2, this]
      obtain ⟨ad, cap2, ys, rfl, q1, q2, q3, q4⟩ := rowPart_ok (size := 1) (m := 1) hR hpart (by omega) hvm
      rw [hle] at q1
      have hys2 := l2_strs q1
      rw [hle, List.length_map] at q3
      match l, q3 with
      | [y], _ =>
        have hc0 : w.cell? ad = some (encStr y) := by
          have := q4 0 (encStr y) (by rw [hys2]; rfl)
          rwa [show ad.add 0 = ad by simp [Addr.add]] at this
        have hbl : ad.block < w.heap.size := by
          obtain ⟨o, ho, _⟩ := not_walk_of_cell hc0
          exact (Array.getElem?_eq_some_iff.1 ho).1
        exact sorted_fin L hsort hf9 hfg hR h _ 1 (by omega) (hV w x.1 ad cap2 y hlt hcell hbl hc0) (fun ss e => by rw [e])
end Go.Proofs.YtcfekhcdadldmaaGreatDoor.Am
set_option linter.unusedSimpArgs false
namespace Go.Proofs.YtcfekhcdadldmaaGreatDoor.Am
open Go Go.RowKit Go.Shelf Go.Proofs
/- errors.As of an error of the type te into a variable of that type (tp: the type of its address); errors.Is of such an error whose cell i holds the number asked for (tn: the number's type). -/
def asStore (te : TypeId) (s : St) (p : Addr) (b : Nat) (k : K2) : Option Row → Bool
  | some r => cond (Nat.beq r.elem te && (Nat.beq r.cells.length 1 && Nat.beq r.sz 0)) (putRowK s b (some ⟨[.pointer (some p)], r.elem, r.sz⟩) fun s => k (.bool true) s) false
  | none => false
def xAs (te tp : TypeId) : List Value → St → K2 → Bool
  | [.iface t1 (.pointer (some p)), .iface t2 (.pointer (some b))], s, k => cond (Nat.beq t1 te && (Nat.beq t2 tp && Nat.beq b.off 0)) (asStore te s p b.block k (s.get b.block)) false
  | _, _, _ => false
def isCell (i : Nat) (y : Int) : Option Row → Bool
  | some r => match r.cells[i]? with
    | some (.int .i64 z) => decide (z = y)
    | _ => false
  | none => false
def xIs (te tn : TypeId) (i : Nat) : List Value → St → K2 → Bool
  | [.iface t1 (.pointer (some b)), .iface t2 (.int .i64 y)], s, k => cond (Nat.beq t1 te && (Nat.beq t2 tn && (Nat.beq b.off 0 && isCell i y (s.get b.block)))) (k (.bool true) s) false
  | _, _, _ => false
theorem ifc_ptr {ρ : Rho} {t : TypeId} {a : Addr} {u : Value} (h : VR ρ (.iface t (.pointer (some a))) u) : ∃ x, ρ a.block = some x ∧ u = .iface t (.pointer (some ⟨x.1, a.off, none⟩)) := by
  rw [VR] at h
  obtain ⟨y, rfl, h⟩ := h
  rw [VR] at h
  obtain ⟨b, ⟨x, hx, rfl⟩, rfl⟩ := h
  exact ⟨x, hx, rfl⟩
theorem as_ok {P : Program} {f : FuncId} {te tp : TypeId} (hf : (fnOfP P f).isSome = true)
    (hA : ∀ (e : Addr) (rb : Nat) (old : Value) (w : World), GlobOk w → w.heap[rb]? = some (.cells #[old] te) →
      Calls P f #[.iface te (.pointer (some e)), .iface tp (.pointer (some ⟨rb, 0, none⟩))] w fun ev w' => ev = .returned (.bool true) ∧ ∃ w1, Below w.heap.size w w1 ∧ w' = w1.setCell ⟨rb, 0, none⟩ (.pointer (some e))) :
    CallOk P (fun f' args s k => cond (Nat.beq f' f) (xAs te tp args s k) false) := by
  refine ext_one hf fun args s k h ρ w us hR hl => ?_
  unfold xAs at h
  split at h
  case h_2 => cases h
  rename_i t1 p t2 b
  cases hq : (Nat.beq t1 te && (Nat.beq t2 tp && Nat.beq b.off 0)) with
  | false => rw [hq] at h; cases h
  | true =>
    rw [hq] at h
    simp only [cond_true] at h
    simp only [Bool.and_eq_true] at hq
    obtain rfl := Nat.eq_of_beq_eq_true hq.1
    obtain rfl := Nat.eq_of_beq_eq_true hq.2.1
    have ho : b.off = 0 := Nat.eq_of_beq_eq_true hq.2.2
    unfold asStore at h
    split at h
    case h_2 => cases h
    rename_i r hr
    cases hq2 : (Nat.beq r.elem t1 && (Nat.beq r.cells.length 1 && Nat.beq r.sz 0)) with
    | false => rw [hq2] at h; cases h
    | true =>
      rw [hq2] at h
      simp only [cond_true] at h
      simp only [Bool.and_eq_true] at hq2
      have e1 : r.elem = t1 := Nat.eq_of_beq_eq_true hq2.1
      have e2 : r.cells.length = 1 := Nat.eq_of_beq_eq_true hq2.2.1
      have e3 : r.sz = 0 := Nat.eq_of_beq_eq_true hq2.2.2
      obtain ⟨u, l, rfl, hv, hl⟩ := hl.inv
      obtain ⟨u2, l2, rfl, hv2, hl⟩ := hl.inv
      obtain rfl : l2 = [] := List.length_eq_zero_iff.1 hl.1
      obtain ⟨x, hx, rfl⟩ := ifc_ptr hv
      obtain ⟨z, hz, rfl⟩ := ifc_ptr hv2
      rw [ho]
      obtain ⟨c, c1, c2, c3, c4, c5, c6, c7⟩ := hR.row hr hz
      have hcs : c.size = 1 := by rw [c2, ← c7 e3, e2]
      obtain ⟨old, rfl⟩ : ∃ old, c = #[old] := by
        match c, hcs with
        | ⟨[y]⟩, _ => exact ⟨y, rfl⟩
      rw [e1] at c1
      refine (hA ⟨x.1, p.off, none⟩ z.1 old w hR.gl c1).mono ?_
      rintro e w' ⟨rfl, w1, hb, rfl⟩
      obtain ⟨r1, r2⟩ := hR.grow hb
      obtain ⟨s', h1, h2, h3, h3m⟩ := putRowK_ok h
      have c1' : w1.heap[z.1]? = some (.cells #[old] r.elem) := by rw [hb.block _ (hR.lt _ _ hz), c1, e1]
      obtain ⟨c', d1, d2, d3, d4, d5, d6, d7⟩ := setCells_heap [.pointer (some ⟨x.1, p.off, none⟩)] 0 w1 #[old] c1' (by simp)
      have hset : w1.setCells z.1 0 [.pointer (some ⟨x.1, p.off, none⟩)] = w1.setCell ⟨z.1, 0, none⟩ (.pointer (some ⟨x.1, p.off, none⟩)) := rfl
      rw [hset] at d1 d3 d4 d5 d6 d7
      have hc' : c' = #[.pointer (some ⟨x.1, p.off, none⟩)] := by
        apply Array.toList_inj.1
        rw [d2]; rfl
      subst hc'
      have hp : VR ρ (.pointer (some p)) (.pointer (some ⟨x.1, p.off, none⟩)) := by rw [VR]; exact ⟨_, ⟨x, hx, rfl⟩, rfl⟩
      obtain ⟨q1, q2⟩ := r1.write (s' := s') (w' := w1.setCell ⟨z.1, 0, none⟩ (.pointer (some ⟨x.1, p.off, none⟩))) (c := #[.pointer (some ⟨x.1, p.off, none⟩)]) (cs := [.pointer (some p)]) hr hz c6 h2 (fun m q hm => by
          rcases h3 m q hm with ⟨e, e'⟩ | h4
          · exact .inl ⟨e, (Option.some.inj e').symm⟩
          · exact .inr h4) h3m d1 (by rw [d4]; exact Nat.le_refl _) (fun j _ hj => d3 j hj)
          ⟨rfl, fun j v hj => by
            cases j with
            | zero => obtain rfl := Option.some.inj hj; exact ⟨_, rfl, hp⟩
            | succ j => simp at hj⟩
          (by simp) (by rw [← c2]; rfl) (fun v hv => by
            obtain rfl := List.mem_singleton.1 hv
            rfl) (fun _ => by rw [← c2]; rfl) d5 d6 d7 c1'
      exact ⟨.bool true, _, ρ, s', rfl, by rw [VR], q1, r2.trans q2, h1⟩
theorem is_ok {P : Program} {f : FuncId} {te tn : TypeId} {i : Nat} (hf : (fnOfP P f).isSome = true)
    (hI : ∀ (b : Nat) (y : Int) (w : World), w.cell? ⟨b, i, none⟩ = some (.int .i64 y) →
      Calls P f #[.iface te (.pointer (some ⟨b, 0, none⟩)), .iface tn (.int .i64 y)] w fun ev w' => ev = .returned (.bool true) ∧ w = w') :
    CallOk P (fun f' args s k => cond (Nat.beq f' f) (xIs te tn i args s k) false) := by
  refine ext_one hf fun args s k h ρ w us hR hl => ?_
  unfold xIs at h
  split at h
  case h_2 => cases h
  rename_i t1 b t2 y
  cases hq : (Nat.beq t1 te && (Nat.beq t2 tn && (Nat.beq b.off 0 && isCell i y (s.get b.block)))) with
  | false => rw [hq] at h; cases h
  | true =>
    rw [hq] at h
    simp only [cond_true] at h
    simp only [Bool.and_eq_true] at hq
    obtain rfl := Nat.eq_of_beq_eq_true hq.1
    obtain rfl := Nat.eq_of_beq_eq_true hq.2.1
    have ho : b.off = 0 := Nat.eq_of_beq_eq_true hq.2.2.1
    have hc := hq.2.2.2
    unfold isCell at hc
    split at hc
    case h_2 => cases hc
    rename_i r hr
    split at hc
    case h_2 => cases hc
    rename_i z hz
    obtain rfl : z = y := of_decide_eq_true hc
    obtain ⟨u, l, rfl, hv, hl⟩ := hl.inv
    obtain ⟨u2, l2, rfl, hv2, hl⟩ := hl.inv
    obtain rfl : l2 = [] := List.length_eq_zero_iff.1 hl.1
    obtain ⟨x, hx, rfl⟩ := ifc_ptr hv
    obtain rfl : u2 = .iface t2 (.int .i64 z) := by
      rw [VR] at hv2
      obtain ⟨y', rfl, h2⟩ := hv2
      rw [VR] at h2
      rw [h2]
    rw [ho]
    obtain ⟨c, c1, c2, c3, c4, c5, c6, c7⟩ := hR.row hr hx
    obtain ⟨v, hv1, hv2⟩ := c4.2 i _ hz
    rw [VR] at hv2
    subst hv2
    have hci : w.cell? ⟨x.1, i, none⟩ = some (.int .i64 z) := by
      rw [cell_at_block c1, ← Array.getElem?_toList]
      rw [List.getElem?_take] at hv1
      split at hv1
      · exact hv1
      · cases hv1
    refine (hI x.1 z w hci).mono ?_
    rintro e w' ⟨rfl, rfl⟩
    exact ⟨.bool true, _, ρ, s, rfl, by rw [VR], hR, Ext.refl _ _ _, h⟩
end Go.Proofs.YtcfekhcdadldmaaGreatDoor.Am
