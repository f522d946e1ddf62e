import Derived.Test.YtmpbbmfbgcpplaaGreatDoorQSynB
import Derived.Test.YtmpbbmfbgcpplaaGreatDoorQSynD
import Derived.Test.YtmpbbmfbgcpplaaGreatDoorQLexA
import Derived.Test.YtmpbbmfbgcpplaaGreatDoorQSynC
import Derived.Test.YtmpbbmfbgcpplaaGreatDoorQSynA
set_option maxHeartbeats 2000000
set_option maxRecDepth 100000
namespace Go.Proofs.YtmpbbmfbgcpplaaGreatDoor
open Go Go.RowKit Go.Maps Go.WideMaps Lx
def zcg (ns : List Bs) : List Value := ns.map fun s => .string ⟨s.toArray⟩
def addN (ns : List Bs) (s : Bs) : List Bs := if s ∈ ns then ns else ns ++ [s]
def NlAt (base b m : Nat) (ns : List Bs) (W : World) : Prop := base ≤ b ∧ base ≤ m ∧ m ≠ b ∧ m < W.heap.size ∧ ∃ v, W.heap[b]? = some (.cells #[v, .map (some m)] 127) ∧ W.ownsRow base 9 1 v ns.length (zcg ns) ∧ W.ownsMap Tryz.prog 9 (unitElem (H := Unit)) m ns.length (setB ns)
def StayN (b m : Nat) (W W' : World) : Prop := W.heap.size ≤ W'.heap.size ∧ ∀ k o, W.heap[k]? = some o → k ≠ b → k ≠ m → (∀ c fz, o ≠ .cells c 9 fz) → W'.heap[k]? = some o
theorem StayN.refl (b m : Nat) (W : World) : StayN b m W W := ⟨Nat.le_refl _, fun _ _ h _ _ _ => h⟩
theorem StayN.trans {b m : Nat} {U V W : World} (h : StayN b m U V) (k : StayN b m V W) : StayN b m U W := ⟨Nat.le_trans h.1 k.1, fun j o hj h1 h2 h3 => k.2 j o (h.2 j o hj h1 h2 h3) h1 h2 h3⟩
theorem StayN.of_below {b m : Nat} {W W' : World} (h : Below W.heap.size W W') : StayN b m W W' := ⟨h.size, fun k _ hk _ _ _ => (h.block k (Array.getElem?_eq_some_iff.1 hk).1).trans hk⟩
theorem NlAt.alloc {base b m : Nat} {ns : List Bs} {W : World} (h : NlAt base b m ns W) (O : Obj) : NlAt base b m ns (W.alloc O) := by
 obtain ⟨h1, h2, h3, h4, v, h5, h6, h7⟩ := h
 have hb : Below W.heap.size W (W.alloc O) := (Below.refl _ _).alloc (Nat.le_refl _) O
 exact ⟨h1, h2, h3, by simp; omega, v, (hb.block _ (Array.getElem?_eq_some_iff.1 h5).1).trans h5, h6.alloc O, zef h7 hb h4⟩
theorem zhd {B : Nat} {a w : World} (h : Below B a w) : Below B a w.drew := h.trans ⟨rfl, rfl, rfl, Nat.le_refl _, fun _ _ => rfl⟩
theorem set_two {W : World} {b : Nat} {v u : Value} {t : TypeId} (h : W.heap[b]? = some (.cells #[v, u] t)) (v' : Value) : (W.setCell ⟨b, 0, none⟩ v').heap[b]? = some (.cells #[v', u] t) := by
 obtain ⟨hlt, hk⟩ := Array.getElem?_eq_some_iff.1 h
 show (W.heap.modify b _)[b]? = _
 rw [Array.getElem?_eq_getElem (by rw [Array.size_modify]; exact hlt), Array.getElem_modify_self, hk]
 rfl
theorem zde {P : Program} {ops : Array Oper} {o : Oper} {a : Act} {w : World} {K : Act → World → Prop} {Q : Exit → Act → World → Prop} {E : Prop} (hg : o.guard = none) (f : FuncId) (x : Operand) (t : TypeId) (ho : o.op = .call { callee := .value (.func f), args := #[x], argTypes := #[t] })
  {u : Value} (hx : a.eval x = u) (hF : ∀ args w, Sem.run P (callFunc f args) w = .ok (.enter f args) w) (h : Calls P f #[u] w fun e w' => ∃ v, e = .returned v ∧ K (a.put o.dst v) w') : if Region.wanted o (yielded ops a.tmps) = true then Oper.wp P o a w K Q else E := by
 rw [if_pos (by simp [Region.wanted, hg])]
 unfold Oper.wp
 have he : a.eval (.func f) = .func (.func f) #[] #[] := rfl
 simp [execOp, ho, resolve, invoke, hx, he, Deferred.ofValue, hF]
 refine h.mono ?_
 rintro e w' ⟨v, rfl, hk⟩
 exact hk
theorem clone_enter (args : Array Value) (w : World) : Sem.run Tryz.prog (callFunc 145 args) w = .ok (.enter 145 args) w := by kernel_rfl
theorem zero_unit (w : World) : (zeroValue 181).run Tryz.prog w = .ok (.agg #[]) w := by kernel_rfl
theorem zig : (Tryz.prog.info? 9).map (fun i => (i.zero, i.size, i.bytes)) = some (some (.string ⟨#[]⟩), 1, 16) := by kernel_rfl
theorem addName_old (base b m : Nat) (ns : List Bs) (s : Bs) (w : World) (h : NlAt base b m ns w) (hs : s.length ≤ 35184372088832) (hbw : base ≤ w.heap.size) (hm : s ∈ ns) :
  Calls Tryz.prog 114 #[.pointer (some ⟨b, 0, none⟩), .string ⟨s.toArray⟩] w fun e w' => e = .returned (.tuple #[]) ∧ NlAt base b m ns w' ∧ Below base w w' ∧ StayN b m w w' := by
 have HN := za3 h
 obtain ⟨h1, h2, h3, h4, v, h5, h6, h7⟩ := h
 have hc1 : w.cell? ⟨b, 1, none⟩ = some (.map (some m)) := by rw [Lib.cell_of_heap h5]; rfl
 have hkey : keyOf Tryz.prog 9 (.string ⟨s.toArray⟩) = some (keyB s) := keyOf_string_mk Tryz.underlying9 (by show s.toArray.size ≤ maxLen; unfold maxLen; simp; omega)
 have HK := za3 hkey
 have HO := za3 h7
 have hhas : Maps.has (setB ns) (keyB s) = true := (zji ns s).2 hm
 clear hkey h7 h5 h6 hm
 go_enter Tryz.func114, Tryz.ntmps114
 go_wp2_with (first
  | (at_lookup; refine wpList_lookup_own_unit _ rfl _ _ 125 rfl 9 181 zic Tryz.underlying125 (zero_unit _) m ns.length _ rfl (za0 HO) _ _ rfl (za0 HK) ?_; rw [hhas])
  | go_in)
 exact bodyPost_ret (v := .tuple #[]) (by simp [results, Tryz.results114, go_sem]) rfl ⟨rfl, (za0 HN).alloc _, (Below.refl _ _).alloc hbw _, .of_below ((Below.refl _ _).alloc (Nat.le_refl _) _)⟩
theorem addName_new (base b m : Nat) (ns : List Bs) (s : Bs) (w : World) (h : NlAt base b m ns w) (hl : ns.length < 1000000) (hs : s.length ≤ 35184372088832) (hbw : base ≤ w.heap.size) (hm : s ∉ ns) :
  Calls Tryz.prog 114 #[.pointer (some ⟨b, 0, none⟩), .string ⟨s.toArray⟩] w fun e w' => e = .returned (.tuple #[]) ∧ NlAt base b m (ns ++ [s]) w' ∧ Below base w w' ∧ StayN b m w w' := by
 have HN := za3 (h.alloc (.cells #[] 181))
 obtain ⟨h1, h2, h3, h4, v, h5, h6, h7⟩ := h
 have hc1 : w.cell? ⟨b, 1, none⟩ = some (.map (some m)) := by rw [Lib.cell_of_heap h5]; rfl
 have hkey : keyOf Tryz.prog 9 (.string ⟨s.toArray⟩) = some (keyB s) := keyOf_string_mk Tryz.underlying9 (by show s.toArray.size ≤ maxLen; unfold maxLen; simp; omega)
 have HK := za3 hkey
 have HO := za3 h7
 have hhas : Maps.has (setB ns) (keyB s) = false := (Bool.not_eq_true _).mp fun e => hm ((zji ns s).1 e)
 clear hkey h7 h5 h6 hm
 go_enter Tryz.func114, Tryz.ntmps114
 go_wp2_with (first
  | (at_lookup; refine wpList_lookup_own_unit _ rfl _ _ 125 rfl 9 181 zic Tryz.underlying125 (zero_unit _) m ns.length _ rfl (za0 HO) _ _ rfl (za0 HK) ?_; rw [hhas]; clear HO; obtain ⟨_, _, _, _, v, h5, h6, h7⟩ := za0 HN; have hd1 := Lib.cell_of_heap h5; have HO := za3 h7; clear h7)
  | (at_mapUpdate; refine wpList_mapUpdate_own _ rfl _ _ _ 125 rfl 9 181 zic Tryz.underlying125 (unitElem (H := Unit)) m ns.length _ rfl (za0 HO) (by unfold maxLen; omega) _ _ _ rfl rfl (za0 HK) _ [] unitElem_mk ?_; intro w2 hown2 hgrow2)
  | go_in)
 have hmO : ∃ es clock, (w.alloc (Obj.cells #[] 181)).heap[m]? = some (.map es clock) := by obtain ⟨es, clock, hh, _⟩ := za0 HO; exact ⟨es, clock, hh⟩
 have hvm : v.ownBlock ≠ some m := by
  obtain ⟨es, clock, hh⟩ := hmO
  rcases h6.2 with ⟨rfl, _⟩ | ⟨g, cap, cur, rfl, _, hgb, _⟩
  ·simp [Value.ownBlock]
  ·intro e
   obtain rfl : g = m := by simpa [Value.ownBlock] using e
   rw [hh] at hgb
   simp at hgb
 have hblt : b < (w.alloc (Obj.cells #[] 181)).heap.size := (Array.getElem?_eq_some_iff.1 h5).1
 have hb2 : w2.heap[b]? = some (.cells #[v, .map (some m)] 127) := (hgrow2.block b hblt (by simpa using fun e => h3 e.symm)).trans h5
 have hr2 : w2.ownsRow base 9 1 v ns.length (zcg ns) := h6.kept hgrow2 (.inr hvm)
 have hbl2 : Below base w w2 := ((Below.refl _ _).alloc hbw _).grown hgrow2 (by simp; omega) (fun j hj => by cases hj; exact h2)
 have hmlt : m < w2.heap.size := by have := hgrow2.size; simp at this; omega
 have hsz2 := hbl2.size
 obtain ⟨p, c, rfl⟩ : ∃ p c, v = .slice p ns.length c := by
  rcases hr2.2 with ⟨rfl, e⟩ | ⟨g, cap, cur, rfl, _⟩
  ·exact ⟨none, 0, by rw [e]⟩
  ·exact ⟨_, _, rfl⟩
 have c0 : w2.cell? ⟨b, 0, none⟩ = some (.slice p ns.length c) := by rw [Lib.cell_of_heap hb2]; rfl
 obtain ⟨i0, hi, hz0, hz1, hz2⟩ := info_parts zig
 have AP : Hid (∀ w3 : World, Below w2.heap.size w2.drew w3 → w3.cell? ⟨b, 0, none⟩ = some (.slice p ns.length c) ∧ (w3.alloc (.cells #[.string ⟨s.toArray⟩] 9)).cell? ⟨b, 0, none⟩ = some (.slice p ns.length c) ∧ ∃ (g' cap' : Nat) (W' : World), (Builtin.append_ #[25, 25] 25 #[.slice p ns.length c, .slice (some ⟨w3.heap.size, 0, none⟩) 1 1]).run Tryz.prog (w3.alloc (.cells #[.string ⟨s.toArray⟩] 9)) = .ok (.slice (some ⟨g', 0, none⟩) (ns.length + 1) cap') W' ∧ W'.cell? ⟨b, 0, none⟩ = some (.slice p ns.length c) ∧ W'.frozen? ⟨b, 0, none⟩ = false ∧
   NlAt base b m (ns ++ [s]) (W'.setCell ⟨b, 0, none⟩ (.slice (some ⟨g', 0, none⟩) (ns.length + 1) cap')) ∧ Below base w (W'.setCell ⟨b, 0, none⟩ (.slice (some ⟨g', 0, none⟩) (ns.length + 1) cap')) ∧ StayN b m w (W'.setCell ⟨b, 0, none⟩ (.slice (some ⟨g', 0, none⟩) (ns.length + 1) cap'))) := fun w3 hb3 => by
  have hs3 : w2.heap.size ≤ w3.heap.size := hb3.size
  have hbl3 : Below base w w3 := hbl2.trans ((zhd (Below.refl _ _)).trans (hb3.mono (by omega)))
  have hB : w3.heap[b]? = some (.cells #[.slice p ns.length c, .map (some m)] 127) := (hb3.block b (Array.getElem?_eq_some_iff.1 hb2).1).trans hb2
  have hR : w3.ownsRow base 9 1 (.slice p ns.length c) ns.length (zcg ns) := hr2.drew.kept (zaa (W := w2.drew) (W' := w3) hb3) (by cases (Value.slice p ns.length c).ownBlock <;> simp)
  have hM : w3.ownsMap Tryz.prog 9 (unitElem (H := Unit)) m (ns.length + 1) ((setB ns).put (keyB s) (.agg [])) := zef (w := w2.drew) hown2 hb3 hmlt
  obtain ⟨v', W', E, hown, hgrow, _⟩ := run_append_own (P := Tryz.prog) (w3.alloc (.cells #[.string ⟨s.toArray⟩] 9)) base 25 25 9 i0 (.string ⟨#[]⟩) 1 16 Tryz.underlying25 hi hz0 hz1 hz2 rfl (by decide) _ _ _ (hR.alloc (.cells #[.string ⟨s.toArray⟩] 9)) ⟨w3.heap.size, 0, none⟩ 1 1 [.string ⟨s.toArray⟩] rfl
   (fun j u hj => by
    match j, hj with
    | 0, hj => simp at hj; subst hj; rw [Go.WideShapes.add_plain, World.cell?_alloc_at _ _ _ _ (by simp)]; rfl
    | j + 1, hj => simp at hj)
   (by intro u hu; simp at hu; subst hu; rfl) (by unfold maxLen; omega) (by omega) (by simp; omega)
  obtain ⟨g', cap', rfl⟩ := ownsRow_succ hown
  have hvb : some b ≠ (Value.slice p ns.length c).ownBlock := by
   rcases hR.2 with ⟨e, _⟩ | ⟨g, cap, cur, e, _, hgb, _⟩
   ·rw [e]; simp [Value.ownBlock]
   ·rw [e]
    intro e2
    obtain rfl : b = g := by simpa [Value.ownBlock] using e2
    rw [hB] at hgb
    injection hgb with hgb
    injection hgb with _ hgb _
    exact absurd hgb (by decide)
  have hBo : W'.heap[b]? = some (.cells #[.slice p ns.length c, .map (some m)] 127) := (hgrow.block b (by have := (Array.getElem?_eq_some_iff.1 hB).1; simp; omega) hvb).trans ((((Below.refl w3.heap.size w3).alloc (Nat.le_refl _) _).block _ (Array.getElem?_eq_some_iff.1 hB).1).trans hB)
  have hMo : W'.ownsMap Tryz.prog 9 (unitElem (H := Unit)) m (ns.length + 1) ((setB ns).put (keyB s) (.agg [])) := by
   obtain ⟨es, clock, q1, r⟩ := hM
   exact ⟨es, clock, (hgrow.block m (by simp; omega) (fun e => hvm e.symm)).trans ((((Below.refl w3.heap.size w3).alloc (Nat.le_refl _) _).block _ (by omega)).trans q1), r⟩
  have hsz := hgrow.size
  simp at hsz
  have hBa := (((Below.refl w3.heap.size w3).alloc (Nat.le_refl _) (.cells #[.string ⟨s.toArray⟩] 9)).block _ (Array.getElem?_eq_some_iff.1 hB).1).trans hB
  refine ⟨by rw [Lib.cell_of_heap hB]; rfl, by rw [Lib.cell_of_heap hBa]; rfl, g', cap', W', E, by rw [Lib.cell_of_heap hBo]; rfl, by simp [World.frozen?, hBo], ⟨h1, h2, h3, by simp; omega, .slice (some ⟨g', 0, none⟩) (ns.length + 1) cap', ?_, ?_, ?_⟩, ?_, ?_⟩
  ·exact set_two hBo _
  ·rw [zcg, List.map_append, List.length_append]
   refine hown.kept (grownBy_setCell' W' b _) (.inr fun e => ?_)
   rcases hown.2 with ⟨e', _⟩ | ⟨g, cap, cur, e', _, hgb, _⟩
   ·cases e'
   ·obtain rfl : g' = b := by simpa [Value.ownBlock] using e
    injection e' with e1 _ _
    obtain rfl : g' = g := by simpa using e1
    rw [hBo] at hgb
    injection hgb with hgb
    injection hgb with _ hgb _
    exact absurd hgb (by decide)
  ·rw [zjz, List.length_append]
   obtain ⟨es, clock, q1, r⟩ := hMo
   exact ⟨es, clock, (Below.heap_setCell _ _ _ _ h3).trans q1, r⟩
  ·refine ((hbl3.alloc (by have := hbl3.size; omega) _).grown hgrow (by simp; have := hbl3.size; omega) fun j ej => ?_).setCell (p := ⟨b, 0, none⟩) h1 _
   rcases hR.2 with ⟨e, _⟩ | ⟨g, cap, cur, e, hb, _, _⟩
   ·rw [e] at ej; simp [Value.ownBlock] at ej
   ·rw [e] at ej
    obtain rfl : g = j := by simpa [Value.ownBlock] using ej
    exact hb
  ·refine ⟨by have := hbl3.size; simp; omega, fun k o hk n1 n2 n3 => ?_⟩
   have hkl := (Array.getElem?_eq_some_iff.1 hk).1
   have k1 : (w.alloc (Obj.cells #[] 181)).heap[k]? = some o := (((Below.refl w.heap.size w).alloc (Nat.le_refl _) _).block _ hkl).trans hk
   have k2 : w2.heap[k]? = some o := (hgrow2.block k (Array.getElem?_eq_some_iff.1 k1).1 (by simpa using n2)).trans k1
   have k3 : w3.heap[k]? = some o := (hb3.block k (Array.getElem?_eq_some_iff.1 k2).1).trans k2
   have k4 : (w3.alloc (.cells #[.string ⟨s.toArray⟩] 9)).heap[k]? = some o := (((Below.refl w3.heap.size w3).alloc (Nat.le_refl _) _).block _ (Array.getElem?_eq_some_iff.1 k3).1).trans k3
   have hvk : some k ≠ (Value.slice p ns.length c).ownBlock := by
    rcases hR.2 with ⟨e, _⟩ | ⟨g, cap, cur, e, _, hgb, _⟩
    ·rw [e]; simp [Value.ownBlock]
    ·rw [e]
     intro e2
     obtain rfl : k = g := by simpa [Value.ownBlock] using e2
     rw [k3] at hgb
     exact n3 _ _ (Option.some.inj hgb)
   exact (Below.heap_setCell _ _ _ _ n1).trans ((hgrow.block k (Array.getElem?_eq_some_iff.1 k4).1 hvk).trans k4)
 have CLN := za3 (Clone_any ⟨s.toArray⟩ w2.drew (by show s.toArray.size ≤ _; simp; omega))
 have c0' : w2.drew.cell? ⟨b, 0, none⟩ = some (.slice p ns.length c) := c0
 clear h5 h6 hd1 hvm hb2 hr2 hbl2 hown2 hgrow2 hmO HO HN HK hhas hi hz0 hz1 hz2
 go_region_law (first
  | (refine zde (u := .string ⟨s.toArray⟩) rfl 145 (.tmp 27) 9 rfl (by simp [Act.eval, Act.put]) clone_enter ?_; refine (za0 CLN).mono ?_; rintro e w3 ⟨rfl, hb3⟩; refine ⟨_, rfl, ?_⟩; obtain ⟨c3, c4, g', cap', W', E, d0, d1, hN', hB', hS'⟩ := za0 AP w3 hb3)
  | refine zc6 rfl (.tmp 26) (.tmp 29) 25 rfl (by simp [Act.eval]) (by simp [Act.eval]) E ?_)
 all_goals
  go_wp2_with fail
  exact bodyPost_end (v := .tuple #[]) (by simp [results, Tryz.results114, go_sem]) rfl ⟨rfl, hN', hB', hS'⟩
theorem addName_any (base b m : Nat) (ns : List Bs) (s : Bs) (w : World) (h : NlAt base b m ns w) (hl : ns.length < 1000000) (hs : s.length ≤ 35184372088832) (hbw : base ≤ w.heap.size) :
  Calls Tryz.prog 114 #[.pointer (some ⟨b, 0, none⟩), .string ⟨s.toArray⟩] w fun e w' => e = .returned (.tuple #[]) ∧ NlAt base b m (addN ns s) w' ∧ Below base w w' ∧ StayN b m w w' := by
 unfold addN
 by_cases hm : s ∈ ns
 ·rw [if_pos hm]; exact addName_old base b m ns s w h hs hbw hm
 ·rw [if_neg hm]; exact addName_new base b m ns s w h hl hs hbw hm
def zdf : (d : Nat) → List Bs → List (Ty d) → List Bs
 | 0, ns, _ => ns
 | d + 1, ns, ts => ts.foldl (fun n t => zdf d (if t.1 = 4 then addN n t.2.1 else n) t.2.2.2.2) ns
theorem addN_len (ns : List Bs) (s : Bs) : (addN ns s).length ≤ ns.length + 1 := by
 unfold addN; split
 ·omega
 ·simp
theorem addTs_snoc (d : Nat) (ns : List Bs) (ts : List (Ty (d + 1))) (t : Ty (d + 1)) : zdf (d + 1) ns (ts ++ [t]) = zdf d (if t.1 = 4 then addN (zdf (d + 1) ns ts) t.2.1 else zdf (d + 1) ns ts) t.2.2.2.2 := by
 rw [zdf, zdf, List.foldl_append]; rfl
theorem addTs_cons (d : Nat) (ns : List Bs) (ts : List (Ty (d + 1))) (t : Ty (d + 1)) : zdf (d + 1) ns (t :: ts) = zdf (d + 1) (zdf d (if t.1 = 4 then addN ns t.2.1 else ns) t.2.2.2.2) ts := by
 rw [zdf, zdf, List.foldl_cons]
theorem zk9 : ∀ (d : Nat) (ts : List (Ty d)) (ns : List Bs), (zdf d ns ts).length ≤ ns.length + many d ts
 | 0, _, _ => by simp [zdf, many]
 | _ + 1, [], _ => by simp [zdf, many]
 | d + 1, t :: r, ns => by
  rw [addTs_cons, many]
  have h1 := zk9 (d + 1) r (zdf d (if t.1 = 4 then addN ns t.2.1 else ns) t.2.2.2.2)
  have h2 := zk9 d t.2.2.2.2 (if t.1 = 4 then addN ns t.2.1 else ns)
  have h3 : (if t.1 = 4 then addN ns t.2.1 else ns).length ≤ ns.length + 1 := by
   split
   ·exact addN_len _ _
   ·omega
  omega
theorem addTs_take {d : Nat} {ns : List Bs} {ts : List (Ty (d + 1))} {k : Nat} (h : k < ts.length) : zdf (d + 1) ns (ts.take (k + 1)) = zdf d (if ts[k].1 = 4 then addN (zdf (d + 1) ns (ts.take k)) ts[k].2.1 else zdf (d + 1) ns (ts.take k)) ts[k].2.2.2.2 := by
 rw [List.take_succ_eq_append_getElem h, addTs_snoc]
def AddAt (w0 : World) (d : Nat) : Prop := ∀ (b m : Nat) (ns : List Bs) (v : Value) (ts : List (Ty d)) (w : World), NlAt w0.heap.size b m ns w → TyRow w0 d v ts → zck d ts → ns.length + many d ts ≤ 1000000 → Below w0.heap.size w0 w →
 Calls Tryz.prog 78 #[.pointer (some ⟨b, 0, none⟩), v] w fun e w' => e = .returned (.tuple #[]) ∧ NlAt w0.heap.size b m (zdf d ns ts) w' ∧ Below w0.heap.size w w' ∧ StayN b m w w'
theorem add_none (w0 : World) : AddAt w0 0 := fun b m ns v ts w hn hv _ _ _ => by
 obtain ⟨p, c, rfl⟩ := hv
 have HN := za3 hn
 clear hn
 go_enter Tryz.func78, Tryz.ntmps78
 go_wp2
 go_loopw [8] (fun i wr => i = .int .i64 0 ∧ wr = w) (fun _ _ => 0)
 case atStart => exact ⟨rfl, rfl⟩
 case round =>
  obtain ⟨rfl, rfl⟩ := hrel
  go_wp2
  exact bodyPost_end (v := .tuple #[]) (by simp [results, Tryz.results78, go_sem]) rfl ⟨rfl, za0 HN, Below.refl _ _, .refl _ _ _⟩
theorem NlAt.lt {base b m : Nat} {ns : List Bs} {W : World} (h : NlAt base b m ns W) : b < W.heap.size ∧ m < W.heap.size := by
 obtain ⟨h1, h2, h3, h4, v, h5, h6, h7⟩ := h
 exact ⟨(Array.getElem?_eq_some_iff.1 h5).1, h4⟩
theorem add_step (w0 : World) (d : Nat) (IH : AddAt w0 d) : AddAt w0 (d + 1) := fun b m ns v ts w hn hv hf hm hb0 => by
 obtain ⟨p, c, rfl, hp⟩ := hv
 have HP := za3 hp
 have HF := za3 hf.2
 have HN := za3 hn
 have HI := za3 IH
 have hlen := zcr _ ts
 have hw0 := hb0.size
 have HB0 := za3 hb0
 clear hp hf hn IH hb0
 go_enter Tryz.func78, Tryz.ntmps78
 go_wp2
 go_loopw [8] (fun i wr => ∃ k : Nat, i = .int .i64 k ∧ k ≤ ts.length ∧ Hid (NlAt w0.heap.size b m (zdf (d + 1) ns (ts.take k)) wr) ∧ Hid (Below w0.heap.size w wr) ∧ Hid (StayN b m w wr)) (fun i _ => ts.length - (intOf i).toNat)
 case atStart => exact ⟨0, rfl, by omega, (by show NlAt _ _ _ _ _; simpa [zdf] using za0 HN), Below.refl _ _, .refl _ _ _⟩
 case round =>
  obtain ⟨k, rfl, hk, HM, HBr, HSr⟩ := hrel
  by_cases hlt : k < ts.length
  ·obtain ⟨g, o, vn, ve, vp, rfl, a0, a1, a2, a3, a4, r1, r2, r3⟩ := za0 HP k ts[k] (by simp [hlt])
   have hlt' : (k : Int) < (ts.length : Int) := by omega
   obtain ⟨q1, q2⟩ := za0 HF ts[k] (by simp)
   obtain ⟨pn, cn, rfl, _⟩ := r1
   obtain ⟨pe, ce, rfl, _⟩ := r2
   obtain ⟨pp, cp, rfl⟩ := r3.slice
   have hb := (za0 HB0).trans (za0 HBr)
   have b0 := (hb.cell (p := ⟨g, _, none⟩) (za2 a0)).trans a0
   have b1 := (hb.cell (p := ⟨g, _, none⟩) (za2 a1)).trans a1
   have b2 := (hb.cell (p := ⟨g, _, none⟩) (za2 a2)).trans a2
   have b3 := (hb.cell (p := ⟨g, _, none⟩) (za2 a3)).trans a3
   have b4 := (hb.cell (p := ⟨g, _, none⟩) (za2 a4)).trans a4
   have hsz : w0.heap.size ≤ wr.heap.size := hb.size
   obtain ⟨hbl, hml⟩ := (za0 HM).lt
   have HT := za3 (addTs_take (ns := ns) hlt)
   have hmany := many_at hlt
   have hlr := zk9 (d + 1) (ts.take k) ns
   obtain ⟨nk, hnk⟩ : ∃ nk, nk = zdf (d + 1) ns (ts.take k) := ⟨_, rfl⟩
   rw [← hnk] at HM HT hlr
   obtain ⟨O, hO⟩ : ∃ O : Obj, O = .cells #[.int .i64 ts[k].1, .string ⟨ts[k].2.1.toArray⟩, .slice pn ts[k].2.2.1.length cn, .slice pe ts[k].2.2.2.1.length ce, .slice pp ts[k].2.2.2.2.length cp] 53 := ⟨_, rfl⟩
   have hbA : Below w0.heap.size w (wr.alloc O) := (za0 HBr).alloc hsz O
   have hsA : StayN b m w (wr.alloc O) := (za0 HSr).trans (.of_below ((Below.refl _ _).alloc (Nat.le_refl _) O))
   have hnA := (za0 HM).alloc O
   have hoA := zaj wr O
   -- add at the parts, in a world behind
   have AD : Hid (∀ (n' : List Bs) (W : World), NlAt w0.heap.size b m n' W → n'.length ≤ nk.length + 1 → Below w0.heap.size w W → StayN b m w W → Calls Tryz.prog 78 #[.pointer (some ⟨b, 0, none⟩), .slice pp ts[k].2.2.2.2.length cp] W fun e w' => e = .returned (.tuple #[]) ∧ NlAt w0.heap.size b m (zdf d n' ts[k].2.2.2.2) w' ∧ Below w0.heap.size w w' ∧ StayN b m w w') := fun n' W h1 h2 h3 h4 =>
    (za0 HI b m n' _ _ W h1 r3 q2 (by omega) ((za0 HB0).trans h3)).mono fun _ _ ⟨e, x1, x2, x3⟩ => ⟨e, x1, h3.trans x2, h4.trans x3⟩
   by_cases h4 : ts[k].1 = 4
   ·rw [if_pos h4] at HT
    have AN : Hid (Calls Tryz.prog 114 #[.pointer (some ⟨b, 0, none⟩), .string ⟨ts[k].2.1.toArray⟩] (wr.alloc O) fun e w' => e = .returned (.tuple #[]) ∧ NlAt w0.heap.size b m (addN nk ts[k].2.1) w' ∧ Below w0.heap.size w w' ∧ StayN b m w w' ∧ w'.cell? ⟨wr.heap.size, 4, none⟩ = some (.slice pp ts[k].2.2.2.2.length cp)) :=
     (addName_any w0.heap.size b m nk ts[k].2.1 (wr.alloc O) hnA (by omega) q1.1 (by simp; omega)).mono fun _ w' ⟨e, x1, x2, x3⟩ => ⟨e, x1, hbA.trans x2, hsA.trans x3, by
      have := x3.2 _ _ hoA (by omega) (by omega) (fun c fz e => by rw [hO] at e; injection e with _ e _; exact absurd e (by decide))
      rw [hO] at this
      rw [Lib.cell_of_heap this]; rfl⟩
    rw [hO] at AN
    rw [h4] at b0 AN
    have hln := addN_len nk ts[k].2.1
    clear a0 a1 a2 a3 a4 r3 hb hbA hsA hnA hoA hO hnk HM HP HF HI HN q1 q2
    go_wp2_with (first
     | (go_at_call 114; refine (za0 AN).mono ?_; clear AN; rintro x w1 ⟨rfl, x1, x2, x3, x4⟩; have AC := za3 (za0 AD _ _ x1 hln x2 x3); clear AD)
     | (go_at_call 78; refine (za0 AC).mono ?_; clear AC; rintro x w2 ⟨rfl, y1, y2, y3⟩))
    go_roundw
    case rel => exact ⟨k + 1, by go_num, by omega, (by rw [za0 HT]; exact y1), y2, y3⟩
    case measure => simp [intOf]; omega
   ·rw [if_neg h4] at HT
    have h4' : (ts[k].1 == 4) = false := beq_eq_false_iff_ne.2 h4
    have AC := za3 (za0 AD _ _ hnA (by omega) hbA hsA)
    rw [hO] at AC
    clear a0 a1 a2 a3 a4 r3 hb hbA hsA hnA hoA hO hnk HM HP HF HI HN q1 q2 AD
    go_wp2_with (go_at_call 78; refine (za0 AC).mono ?_; clear AC; rintro x w2 ⟨rfl, y1, y2, y3⟩)
    go_roundw
    case rel => exact ⟨k + 1, by go_num, by omega, (by rw [za0 HT]; exact y1), y2, y3⟩
    case measure => simp [intOf]; omega
  ·have hkl : k = ts.length := by omega
   subst hkl
   rw [List.take_length] at HM
   go_wp2
   exact bodyPost_end (v := .tuple #[]) (by simp [results, Tryz.results78, go_sem]) rfl ⟨rfl, za0 HM, za0 HBr, za0 HSr⟩
theorem add_any (w0 : World) : ∀ d, AddAt w0 d
 | 0 => add_none w0
 | d + 1 => add_step w0 d (add_any w0 d)
theorem Names_any (d : Nat) (v : Value) (ts : List (Ty d)) (w : World) (hv : TyRow w d v ts) (hf : zck d ts) (hm : many d ts ≤ 1000000) :
  Calls Tryz.prog 35 #[v] w fun e w' => Below w.heap.size w w' ∧ ∃ u, e = .returned u ∧ w'.ownsRow w.heap.size 9 1 u (zdf d [] ts).length (zcg (zdf d [] ts)) := by
 have hb : Below w.heap.size w ((w.alloc (.map #[] 0)).alloc (.cells #[.slice none 0 0, .map (some w.heap.size)] 127)) := ((Below.refl _ _).alloc (Nat.le_refl _) _).alloc (by simp) _
 have hN : NlAt w.heap.size (w.heap.size + 1) w.heap.size [] ((w.alloc (.map #[] 0)).alloc (.cells #[.slice none 0 0, .map (some w.heap.size)] 127)) := by
  refine ⟨by omega, Nat.le_refl _, by omega, by simp; omega, .slice none 0 0, by simpa using zaj (w.alloc (.map #[] 0)) _, World.ownsRow_nil _ _ _ _, ?_⟩
  exact zef (World.ownsMap_made w Tryz.prog _ _) ((Below.refl (w.alloc (.map #[] 0)).heap.size _).alloc (Nat.le_refl _) _) (by simp)
 have AD : Hid (Calls Tryz.prog 78 #[.pointer (some ⟨w.heap.size + 1, 0, none⟩), v] ((w.alloc (.map #[] 0)).alloc (.cells #[.slice none 0 0, .map (some w.heap.size)] 127)) fun e w' => e = .returned (.tuple #[]) ∧ Below w.heap.size w w' ∧ ∃ u, w'.cell? ⟨w.heap.size + 1, 0, none⟩ = some u ∧ w'.ownsRow w.heap.size 9 1 u (zdf d [] ts).length (zcg (zdf d [] ts))) :=
  (add_any w d (w.heap.size + 1) w.heap.size [] v ts _ hN hv hf (by simpa using hm) hb).mono fun _ w' ⟨e, x1, x2, _⟩ => by
   obtain ⟨_, _, _, _, u, h5, h6, _⟩ := x1
   exact ⟨e, hb.trans x2, u, by rw [Lib.cell_of_heap h5]; rfl, h6⟩
 obtain ⟨p, c, rfl⟩ := hv.slice
 have hmm := @run_makeMap Tryz.prog
 clear hb hN hv hf hm
 go_enter Tryz.func35, Tryz.ntmps35
 go_wp2_with (go_at_call 78; refine (za0 AD).mono ?_; clear AD; rintro x w1 ⟨rfl, hb1, u, hu, ho⟩)
 go_ret
 exact ⟨hb1, u, rfl, ho⟩
end Go.Proofs.YtmpbbmfbgcpplaaGreatDoor
