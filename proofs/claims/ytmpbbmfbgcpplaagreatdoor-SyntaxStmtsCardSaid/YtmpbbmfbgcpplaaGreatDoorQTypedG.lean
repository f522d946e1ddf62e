import Derived.Test.YtmpbbmfbgcpplaaGreatDoorQChainG
import Derived.Test.YtmpbbmfbgcpplaaGreatDoorQSigG
set_option maxHeartbeats 8000000
set_option maxRecDepth 100000
namespace Go.Proofs.YtmpbbmfbgcpplaaGreatDoor
open Go Go.RowKit Lx
abbrev zfk (K : Int) (S : ByteArray) (pn pe pp : Option Addr) (nn ne np cn ce cp : Nat) (w : World) (L : List Bs) : Prop :=
 Calls Tryz.prog 49 #[.agg #[.int .i64 K, .string S, .slice pn nn cn, .slice pe ne ce, .slice pp np cp]] w fun e w' => (∃ u, e = .returned u ∧ w'.ownsRow w.heap.size 9 1 u L.length (zcg L)) ∧ Below w.heap.size w w'
theorem zdl (w : World) (O : Obj) (s : Bs) : ((w.alloc O).alloc (.cells #[.string ⟨s.toArray⟩] 9)).ownsRow w.heap.size 9 1 (.slice (some ⟨w.heap.size + 1, 0, none⟩) 1 1) [s].length (zcg [s]) := by
 have := (zee (w.alloc O) s).mono (base' := w.heap.size) (by simp)
 simpa using this
theorem typed_1 (S : ByteArray) (pn pe pp : Option Addr) (nn ne np cn ce cp : Nat) (w : World) : zfk 1 S pn pe pp nn ne np cn ce cp w [[105, 110, 116]] := by
 have HO := za3 (zdl w (ze7 1 S pn pe pp nn ne np cn ce cp) [105, 110, 116])
 go_enter Tryz.func49, Tryz.ntmps49
 go_wp2
 go_ret
 exact ⟨⟨_, rfl, za0 HO⟩, al2 _ _ _⟩
theorem typed_2 (S : ByteArray) (pn pe pp : Option Addr) (nn ne np cn ce cp : Nat) (w : World) : zfk 2 S pn pe pp nn ne np cn ce cp w [[98, 111, 111, 108]] := by
 have HO := za3 (zdl w (ze7 2 S pn pe pp nn ne np cn ce cp) [98, 111, 111, 108])
 go_enter Tryz.func49, Tryz.ntmps49
 go_wp2
 go_ret
 exact ⟨⟨_, rfl, za0 HO⟩, al2 _ _ _⟩
theorem typed_3 (S : ByteArray) (pn pe pp : Option Addr) (nn ne np cn ce cp : Nat) (w : World) : zfk 3 S pn pe pp nn ne np cn ce cp w [[116, 101, 120, 116]] := by
 have HO := za3 (zdl w (ze7 3 S pn pe pp nn ne np cn ce cp) [116, 101, 120, 116])
 go_enter Tryz.func49, Tryz.ntmps49
 go_wp2
 go_ret
 exact ⟨⟨_, rfl, za0 HO⟩, al2 _ _ _⟩
theorem typed_4 (S : Bs) (pn pe pp : Option Addr) (nn ne np cn ce cp : Nat) (w : World) : zfk 4 ⟨S.toArray⟩ pn pe pp nn ne np cn ce cp w [S] := by
 have HO := za3 (zdl w (ze7 4 ⟨S.toArray⟩ pn pe pp nn ne np cn ce cp) S)
 go_enter Tryz.func49, Tryz.ntmps49
 go_wp2
 go_ret
 exact ⟨⟨_, rfl, za0 HO⟩, al2 _ _ _⟩
abbrev Leaves (F : FuncId) (args : Array Value) (W : World) (L : List Bs) : Prop :=
 Calls Tryz.prog F args W fun e w' => (∃ u, e = .returned u ∧ w'.ownsRow W.heap.size 9 1 u L.length (zcg L)) ∧ Below W.heap.size W w'
theorem ahead {s : Bs} {L : List Bs} {w W w1 : World} {g0 : Nat} {u : Value} (hb : Below w.heap.size w W) (hg : g0 = W.heap.size) (hb1 : Below (W.alloc (.cells #[.string ⟨s.toArray⟩] 9)).heap.size (W.alloc (.cells #[.string ⟨s.toArray⟩] 9)) w1) (hu : w1.ownsRow (W.alloc (.cells #[.string ⟨s.toArray⟩] 9)).heap.size 9 1 u L.length (zcg L)) (hp : 0 < L.length) (hl : L.length ≤ 900000) :
  ∃ (v : Value) (W4 : World), (Builtin.append_ #[25, 25] 25 #[.slice (some ⟨g0, 0, none⟩) 1 1, u]).run Tryz.prog w1 = .ok v W4 ∧ W4.ownsRow w.heap.size 9 1 v (s :: L).length (zcg (s :: L)) ∧ Below w.heap.size w W4 := by
 subst hg
 have h1 := (zee W s).mono hb.size
 have h2 := h1.kept (zaa hb1) (zbw _)
 have hbw : Below w.heap.size w w1 := bon (bon hb (al1 _ _)) hb1
 obtain ⟨g2, cp2, rfl⟩ := zbe hu hp
 obtain ⟨g3, cp3, W5, E2, hL2⟩ := Left.appends h2 hbw.size (by simp; omega) hp (SRow.of_owns hu)
 exact ⟨_, W5, E2, by simpa [Nat.add_comm] using hL2.1, hbw.trans hL2.2.1⟩
theorem typed_5 (S : ByteArray) (pn pe : Option Addr) (nn ne cn ce cp : Nat) (w : World) (g o : Nat) (L : List Bs) (K' : Int) (S' : ByteArray) (qn qe q3 : Option Addr) (n1 c1 n2 c2 n3 c3 : Nat) (hp : 0 < L.length) (hl : L.length ≤ 900000)
  (a0 : w.cell? ⟨g, o, none⟩ = some (.int .i64 K')) (a1 : w.cell? ⟨g, o + 1, none⟩ = some (.string S')) (a2 : w.cell? ⟨g, o + 2, none⟩ = some (.slice qn n1 c1)) (a3 : w.cell? ⟨g, o + 3, none⟩ = some (.slice qe n2 c2)) (a4 : w.cell? ⟨g, o + 4, none⟩ = some (.slice q3 n3 c3))
  (CL : ∀ W, Below w.heap.size w W → Leaves 49 #[.agg #[.int .i64 K', .string S', .slice qn n1 c1, .slice qe n2 c2, .slice q3 n3 c3]] W L) :
  zfk 5 S pn pe (some ⟨g, o, none⟩) nn ne 1 cn ce cp w ([42] :: L) := by
 have hg := za2 a0
 have hb0 : Below w.heap.size w (w.alloc (ze7 5 S pn pe (some ⟨g, o, none⟩) nn ne 1 cn ce cp)) := al1 _ _
 have hb2 : Below w.heap.size w ((w.alloc (ze7 5 S pn pe (some ⟨g, o, none⟩) nn ne 1 cn ce cp)).alloc (.cells #[.string ⟨#[42]⟩] 9)) := al2 _ _ _
 have e0 := (hb2.cell (p := ⟨g, _, none⟩) hg).trans a0
 have e1 := (hb2.cell (p := ⟨g, _, none⟩) hg).trans a1
 have e2 := (hb2.cell (p := ⟨g, _, none⟩) hg).trans a2
 have e3 := (hb2.cell (p := ⟨g, _, none⟩) hg).trans a3
 have e4 := (hb2.cell (p := ⟨g, _, none⟩) hg).trans a4
 have HC := za3 (CL _ hb2)
 have HB := za3 hb0
 clear CL a0 a1 a2 a3 a4 hb0 hb2
 go_enter Tryz.func49, Tryz.ntmps49
 go_wp2_with (first
  | (go_at_call 49; refine (za0 HC).mono ?_; clear HC; rintro x w1 ⟨⟨u1, rfl, hu1⟩, hb1⟩; obtain ⟨v2, W4, E2, ho4, hb4⟩ := ahead (s := [42]) (g0 := w.heap.size + 1) (za0 HB) (by simp) hb1 hu1 hp hl; have HE2 := za3 E2)
  | (at_builtin; refine za4 rfl (.tmp 25) (.tmp 30) 25 rfl rfl rfl (za0 HE2) ?_; clear HE2))
 go_ret
 exact ⟨⟨_, rfl, ho4⟩, hb4⟩
theorem typed_7 (S : ByteArray) (pn pe pp : Option Addr) (nn ne np cn ce cp : Nat) (w : World) (L : List Bs) (hp : 0 < L.length) (hl : L.length ≤ 900000)
  (CL : ∀ W, Below w.heap.size w W → Leaves 80 #[.slice pp np cp] W L) :
  zfk 7 S pn pe pp nn ne np cn ce cp w ([102, 110] :: L) := by
 have hb0 : Below w.heap.size w (w.alloc (ze7 7 S pn pe pp nn ne np cn ce cp)) := al1 _ _
 have hb2 : Below w.heap.size w ((w.alloc (ze7 7 S pn pe pp nn ne np cn ce cp)).alloc (.cells #[.string ⟨#[102, 110]⟩] 9)) := al2 _ _ _
 have HC := za3 (CL _ hb2)
 have HB := za3 hb0
 clear CL hb0 hb2
 go_enter Tryz.func49, Tryz.ntmps49
 go_wp2_with (first
  | (go_at_call 80; refine (za0 HC).mono ?_; clear HC; rintro x w1 ⟨⟨u1, rfl, hu1⟩, hb1⟩; obtain ⟨v2, W4, E2, ho4, hb4⟩ := ahead (s := [102, 110]) (g0 := w.heap.size + 1) (za0 HB) (by simp) hb1 hu1 hp hl; have HE2 := za3 E2)
  | (at_builtin; refine za4 rfl (.tmp 34) (.tmp 37) 25 rfl rfl rfl (za0 HE2) ?_; clear HE2))
 go_ret
 exact ⟨⟨_, rfl, ho4⟩, hb4⟩
theorem sig_enter (args : Array Value) (w : World) : Sem.run Tryz.prog (callFunc 80 args) w = .ok (.enter 80 args) w := by kernel_rfl
theorem src1 (W : World) (s : Bs) : SRow (W.alloc (.cells #[.string ⟨s.toArray⟩] 9)) (.slice (some ⟨W.heap.size, 0, none⟩) 1 1) [s] ∧ ∀ g, (Value.slice (some ⟨W.heap.size, 0, none⟩) 1 1).ownBlock = some g → W.heap.size ≤ g ∧ g < (W.alloc (.cells #[.string ⟨s.toArray⟩] 9)).heap.size :=
 ⟨srow1 (hp1 W _), fun g hg => by
  obtain rfl : W.heap.size = g := by simpa [Value.ownBlock] using hg
  simp⟩
def v19 (b k gn on gp op : Nat) (vn : Value) (s : ByteArray) (vp v3 : Value) : List (Option Value) := [none, some (.pointer (some ⟨b, 2, none⟩)), some (vn), some (.int .i64 (k : Int)), some (.pointer (some ⟨gn, on + k, none⟩)), some (.string s), none, none, some (.pointer (some ⟨b, 4, none⟩)), some (vp), some (.int .i64 (k : Int)), some (.pointer (some ⟨gp, op + k * 5, none⟩)), some (.pointer (some ⟨gp, op + k * 5 + 4, none⟩)), some (v3), none, none, none, none, none]
def ifS (ns : List Bs) (LS : Nat → List Bs) (k : Nat) : List Bs := [105, 110, 116, 101, 114, 102, 97, 99, 101] :: [123] :: (List.range k).flatMap fun i => [ns.getD i []] ++ LS i ++ [[59]]
theorem ifS_succ (ns : List Bs) (LS : Nat → List Bs) (k : Nat) : ifS ns LS (k + 1) = ifS ns LS k ++ [ns.getD k []] ++ LS k ++ [[59]] := by
 unfold ifS
 rw [List.range_succ, List.flatMap_append]
 simp
theorem zhs {f : Nat → Nat} : ∀ {k n : Nat}, k ≤ n → ((List.range k).map f).sum ≤ ((List.range n).map f).sum
 | k, 0, h => by
  obtain rfl : k = 0 := by omega
  exact Nat.le_refl _
 | k, n + 1, h => by
  by_cases e : k = n + 1
  ·rw [e]; exact Nat.le_refl _
  ·have := zhs (f := f) (k := k) (n := n) (by omega)
   rw [List.range_succ, List.map_append, List.sum_append]
   simp; omega
theorem ifS_len (ns : List Bs) (LS : Nat → List Bs) (k : Nat) : (ifS ns LS k).length = 2 + 2 * k + ((List.range k).map fun i => (LS i).length).sum := by
 induction k with
 | zero => simp [ifS]
 | succ k ih => rw [ifS_succ, List.range_succ, List.map_append, List.sum_append]; simp [ih]; omega
theorem zkb (w : World) (s t : Bs) : (w.alloc (.cells #[.string ⟨s.toArray⟩, .string ⟨t.toArray⟩] 9)).ownsRow w.heap.size 9 1 (.slice (some ⟨w.heap.size, 0, none⟩) 2 2) [s, t].length (zcg [s, t]) :=
 ⟨rfl, .inr ⟨w.heap.size, 2, _, rfl, Nat.le_refl _, zaj w _, Nat.le_refl _, by decide, rfl, rfl⟩⟩
theorem typed_8 (S : ByteArray) (pn pe pp : Option Addr) (ne cn ce cp n : Nat) (w : World) (ns : List Bs) (LS : Nat → List Bs) (hn : n = ns.length) (hn1 : n ≤ 60000) (hsum : ((List.range n).map fun i => (LS i).length).sum ≤ 300000)
  (hN : SRow w (.slice pn n cn) ns)
  (hP : ∀ k, k < n → ∃ (gp op : Nat) (q3 : Option Addr) (n3 c3 : Nat), pp = some ⟨gp, op, none⟩ ∧ w.cell? ⟨gp, op + k * 5 + 4, none⟩ = some (.slice q3 n3 c3) ∧ 0 < (LS k).length ∧ ∀ W, Below w.heap.size w W → Leaves 80 #[.slice q3 n3 c3] W (LS k)) :
  zfk 8 S pn pe pp n ne n cn ce cp w (ifS ns LS n ++ [[125]]) := by
 obtain ⟨L, hL⟩ : ∃ L, L = ifS ns LS n ++ [[125]] := ⟨_, rfl⟩
 have HNN := za3 hn
 clear hn
 rw [← hL]
 have HL := za3 hL
 have HP := za3 hP
 have HN := za3 hN
 have HS := za3 hsum
 obtain ⟨w1, hw1⟩ : ∃ w1, w1 = w.alloc (ze7 8 S pn pe pp n ne n cn ce cp) := ⟨_, rfl⟩
 have HW1 := za3 hw1
 have hbw1 : Below w.heap.size w w1 := by rw [hw1]; exact al1 _ _
 have HO0 := za3 (zkb w1 [105, 110, 116, 101, 114, 102, 97, 99, 101] [123])
 rw [hw1] at HO0
 have HB0 := za3 (al1 w1 (.cells #[.string ⟨#[105, 110, 116, 101, 114, 102, 97, 99, 101]⟩, .string ⟨#[123]⟩] 9))
 rw [hw1] at HB0
 clear hL hP hN hsum hw1
 go_enter Tryz.func49, Tryz.ntmps49
 go_wp2
 go_loopw [3, 4] (fun o i wr => ∃ (k : Nat) (vo : Value), i = .int .i64 k ∧ o = vo ∧ k ≤ n ∧ Hid (wr.ownsRow w1.heap.size 9 1 vo (ifS ns LS k).length (zcg (ifS ns LS k)) ∧ Below w1.heap.size w1 wr)) (fun _ i _ => n - (intOf i).toNat)
 case atStart =>
  refine ⟨0, _, rfl, rfl, by omega, ?_⟩
  rw [za0 HW1]
  exact ⟨by simpa [ifS] using za0 HO0, za0 HB0⟩
 case round =>
  obtain ⟨k, vo, rfl, hvo, hk, HO⟩ := hrel
  have hvo' := hvo.symm
  clear hvo
  subst hvo'
  obtain ⟨ho, hb⟩ := za0 HO
  have hlen := ifS_len ns LS k
  have hlen2 := zhs (f := fun i => (LS i).length) hk
  have hlen3 := za0 HS
  have hB5 : ∀ W, Below w1.heap.size w1 W → _ := fun W (h : Below w1.heap.size w1 W) => zek (w := w) (K := 8) (S := S) (pn := pn) (pe := pe) (pp := pp) (nn := n) (ne := ne) (np := n) (cn := cn) (ce := ce) (cp := cp) (wr := W) (by rw [← za0 HW1]; exact h)
  obtain ⟨d0, d1, d2, d3, d4⟩ := hB5 _ hb
  by_cases hlt : k < n
  ·have hlt' : (k : Int) < (n : Int) := by omega
   have hkn : (k : Int) < (n : Int) := by omega
   obtain ⟨gp, op, q3, n3, c3, rfl, aP, hLT, CS⟩ := za0 HP k hlt
   obtain ⟨pn', cn', e', hNc⟩ := za0 HN
   injection e' with e1 e2 e3
   subst e1
   obtain ⟨gn, on, rfl, aN⟩ := hNc k (ns[k]'(by have := za0 HNN; omega)) (by simp)
   have hnm : ns[k]'(by have := za0 HNN; omega) = ns.getD k [] := by rw [List.getD_eq_getElem?_getD, List.getElem?_eq_getElem (by have := za0 HNN; omega)]; rfl
   rw [hnm] at aN
   have hsl : ((List.range k).map fun i => (LS i).length).sum + (LS k).length ≤ 300000 := by
    have h1 := zhs (f := fun i => (LS i).length) (show k + 1 ≤ n by omega)
    rw [List.range_succ, List.map_append, List.sum_append] at h1
    simp at h1 hlen3; omega
   have HSS := za3 (ifS_succ ns LS k)
   obtain ⟨L0, hL0⟩ : ∃ L0, L0 = ifS ns LS k := ⟨_, rfl⟩
   obtain ⟨LT, hLTd⟩ : ∃ LT, LT = LS k := ⟨_, rfl⟩
   obtain ⟨nm, hnmd⟩ : ∃ nm, nm = ns.getD k [] := ⟨_, rfl⟩
   rw [← hL0, ← hLTd, ← hnmd] at HSS
   rw [← hL0] at ho hlen
   rw [← hLTd] at CS hLT hsl
   rw [← hnmd] at aN
   have HO2 := za3 ho
   have hl0 : L0.length ≤ 500000 := by omega
   have hlT : LT.length ≤ 300000 := by omega
   obtain ⟨B, hBd⟩ : ∃ B : World → Prop, B = fun W => Below w1.heap.size w1 W := ⟨_, rfl⟩
   have toB : ∀ W, B W → Below w1.heap.size w1 W := fun W h => by rw [hBd] at h; exact h
   have ofB : ∀ W, Below w1.heap.size w1 W → B W := fun W h => by rw [hBd]; exact h
   have sB : ∀ W W', B W → Below W.heap.size W W' → B W' := fun W W' h hb => ofB _ (bon (toB _ h) hb)
   have sB2 : ∀ W W', B W → Below w1.heap.size W W' → B W' := fun W W' h hb => ofB _ ((toB _ h).trans hb)
   have hbs : ∀ W, B W → w1.heap.size ≤ W.heap.size := fun W h => (toB W h).size
   have hlow : ∀ W, B W → Below w.heap.size w W := fun W h => bon hbw1 (toB W h)
   have cB : ∀ W, B W → _ := fun W h => hB5 W (toB W h)
   have cN : ∀ W, B W → W.cell? ⟨gn, on + k, none⟩ = some (.string ⟨nm.toArray⟩) := fun W h => ((hlow W h).cell (p := ⟨gn, _, none⟩) (za2 aN)).trans aN
   have cP : ∀ W, B W → W.cell? ⟨gp, op + k * 5 + 4, none⟩ = some (.slice q3 n3 c3) := fun W h => ((hlow W h).cell (p := ⟨gp, _, none⟩) (za2 aP)).trans aP
   have cS : ∀ W, B W → Leaves 80 #[.slice q3 n3 c3] W LT := fun W h => CS W (hlow W h)
   clear ho HO hlen hlen2 hlen3 hB5 CS HP HN hNc hL0 hLTd hnmd hsl aN aP HL HS hnm
   go_wp2_with fail
   refine zbq (n := 106) (by kernel_rfl) (by kernel_rfl) (by kernel_rfl) rfl B (VP (v19 w.heap.size k gn on gp op (.slice (some ⟨gn, on, none⟩) n cn) ⟨nm.toArray⟩ (.slice (some ⟨gp, op, none⟩) n cp) (.slice q3 n3 c3))) (XCh w1.heap.size 0 18 (some vo) L0 [(7, 6, [nm]), (15, 14, LT), (17, 16, [[59]])])
    (ofB _ (zad hb)) (XCh.init (fun v hv => Option.some.inj hv ▸ (za0 HO2).drew)) ?each ?fin
   case each =>
    refine ⟨?_, ?_, ?_, ?_, ?_, ?_, ?_, ?_, ?_, ?_, ?_, ?_, ?_, ?_, ?_, ?_, ?_, ?_, ?_, trivial⟩
    ·refine YGoal.start rfl (by decide) (by simp) rfl rfl rfl (fun f down hno => ?_) (fun a' f hkp hlt hzn => ?_)
     ·have e7 := za7 down (i := 7) (j := 0) (by kernel_rfl) hno
      have e15 := za7 down (i := 15) (j := 7) (by kernel_rfl) e7
      have e17 := za7 down (i := 17) (j := 15) (by kernel_rfl) e15
      have e18 := za7 down (i := 18) (j := 17) (by kernel_rfl) e17
      exact ⟨e18, by simp [e7, e15, e17]⟩
     ·exact hlt 3 18 (by kernel_rfl) hzn
    ·exact YGoal.plain sB (by decide) (by decide) (by simp) (fun a' W f hz hkp hlt hBW hno down dep => ⟨za1 rfl, zju (by decide) rfl (show a'.eval (.tmp 1) = Value.pointer (some ⟨w.heap.size, 0, none⟩) from hkp 1 (by kernel_rfl)) ⟨_, rfl, Below.refl _ _, rfl⟩⟩)
    ·exact YGoal.plain sB (by decide) (by decide) (by simp) (fun a' W f hz hkp hlt hBW hno down dep => ⟨za1 rfl, zjs rfl (dep 1 50 _ (by kernel_rfl) (by kernel_rfl) rfl) (cB W hBW).2.2.1 ⟨_, rfl, Below.refl _ _, rfl⟩⟩)
    ·exact YGoal.plain sB (by decide) (by decide) (by simp) (fun a' W f hz hkp hlt hBW hno down dep => ⟨za1 rfl, zbl rfl (show a'.eval (.tmp 4) = Value.int .i64 (k : Int) from hkp 4 (by kernel_rfl)) ⟨_, rfl, Below.refl _ _, rfl⟩⟩)
    ·exact YGoal.plain sB (by decide) (by decide) (by simp) (fun a' W f hz hkp hlt hBW hno down dep => ⟨za1 rfl, zhv rfl (dep 2 51 _ (by kernel_rfl) (by kernel_rfl) rfl) (dep 3 52 _ (by kernel_rfl) (by kernel_rfl) rfl) hkn ⟨_, rfl, Below.refl _ _, rfl⟩⟩)
    ·exact YGoal.plain sB (by decide) (by decide) (by simp) (fun a' W f hz hkp hlt hBW hno down dep => ⟨za1 rfl, zfi rfl (dep 4 53 _ (by kernel_rfl) (by kernel_rfl) rfl) (cN W hBW) ⟨_, rfl, Below.refl _ _, rfl⟩⟩)
    ·exact YGoal.src (M := [nm]) sB (by decide) (by decide) (by simp) rfl (fun a' W hz hkp hBW dep => ⟨za1 rfl, zcy rfl (dep 5 54 _ (by kernel_rfl) (by kernel_rfl) rfl) ⟨_, rfl, al1 _ _, src1 W nm⟩⟩)
    ·refine YGoal.app (q := 0) (s := 6) (Lq := L0) (M := [nm]) sB2 hbs (by decide) rfl rfl rfl rfl (by simp) (by simp) (by simp; omega) (by simp) (by kernel_rfl) (by kernel_rfl) (by kernel_rfl) (by kernel_rfl) (fun f v down hno hq => ?_)
     have e15 := za7 down (i := 15) (j := 7) (by kernel_rfl) hno
     have e17 := za7 down (i := 17) (j := 15) (by kernel_rfl) e15
     have e18 := za7 down (i := 18) (j := 17) (by kernel_rfl) e17
     exact ⟨e18, by simp [zao, zav, hq, hno], by simp [zah, hno], fun x => ⟨by simp [zao, zav, zbx, hq, e15], by simp [zah, zbx, e15]⟩⟩
    ·exact YGoal.plain sB (by decide) (by decide) (by simp) (fun a' W f hz hkp hlt hBW hno down dep => ⟨za1 rfl, zju (by decide) rfl (show a'.eval (.tmp 1) = Value.pointer (some ⟨w.heap.size, 0, none⟩) from hkp 1 (by kernel_rfl)) ⟨_, rfl, Below.refl _ _, rfl⟩⟩)
    ·exact YGoal.plain sB (by decide) (by decide) (by simp) (fun a' W f hz hkp hlt hBW hno down dep => ⟨za1 rfl, zjl rfl (dep 8 57 _ (by kernel_rfl) (by kernel_rfl) rfl) (cB W hBW).2.2.2.2 ⟨_, rfl, Below.refl _ _, rfl⟩⟩)
    ·exact YGoal.plain sB (by decide) (by decide) (by simp) (fun a' W f hz hkp hlt hBW hno down dep => ⟨za1 rfl, zbl rfl (show a'.eval (.tmp 4) = Value.int .i64 (k : Int) from hkp 4 (by kernel_rfl)) ⟨_, rfl, Below.refl _ _, rfl⟩⟩)
    ·exact YGoal.plain sB (by decide) (by decide) (by simp) (fun a' W f hz hkp hlt hBW hno down dep => ⟨za1 rfl, zhg rfl (dep 9 58 _ (by kernel_rfl) (by kernel_rfl) rfl) (dep 10 59 _ (by kernel_rfl) (by kernel_rfl) rfl) hkn ⟨_, rfl, Below.refl _ _, rfl⟩⟩)
    ·exact YGoal.plain sB (by decide) (by decide) (by simp) (fun a' W f hz hkp hlt hBW hno down dep => ⟨za1 rfl, op_field5 rfl (dep 11 60 _ (by kernel_rfl) (by kernel_rfl) rfl) ⟨_, rfl, Below.refl _ _, rfl⟩⟩)
    ·exact YGoal.plain sB (by decide) (by decide) (by simp) (fun a' W f hz hkp hlt hBW hno down dep => ⟨za1 rfl, zjl rfl (dep 12 61 _ (by kernel_rfl) (by kernel_rfl) rfl) (cP W hBW) ⟨_, rfl, Below.refl _ _, rfl⟩⟩)
    ·exact YGoal.src (M := LT) sB (by decide) (by decide) (by simp) rfl (fun a' W hz hkp hBW dep => ⟨za1 rfl, zcw rfl (dep 13 62 _ (by kernel_rfl) (by kernel_rfl) rfl) sig_enter ((cS W hBW).mono fun e w' ⟨⟨u, he, h1⟩, hb⟩ => ⟨u, he, u, rfl, hb, SRow.of_owns h1, fun g hg => h1.lt g hg⟩)⟩)
    ·refine YGoal.app (q := 7) (s := 14) (Lq := (L0 ++ [nm])) (M := LT) sB2 hbs (by decide) rfl rfl rfl rfl (by simp) hLT (by simp; omega) (by simp) (by kernel_rfl) (by kernel_rfl) (by kernel_rfl) (by kernel_rfl) (fun f v down hno hq => ?_)
     obtain ⟨v0, e0⟩ := Option.ne_none_iff_exists'.1 (down 7 0 (by kernel_rfl) (by rw [hq]; simp))
     have e17 := za7 down (i := 17) (j := 15) (by kernel_rfl) hno
     have e18 := za7 down (i := 18) (j := 17) (by kernel_rfl) e17
     exact ⟨e18, by simp [zao, zav, e0, hq, hno], by simp [zah, hq, hno], fun x => ⟨by simp [zao, zav, zbx, e0, hq, e17], by simp [zah, zbx, hq, e17]⟩⟩
    ·exact YGoal.src (M := [[59]]) sB (by decide) (by decide) (by simp) rfl (fun a' W hz hkp hBW dep => ⟨za1 rfl, zcy (s := ⟨#[59]⟩) rfl rfl ⟨_, rfl, al1 _ _, src1 W [59]⟩⟩)
    ·refine YGoal.app (q := 15) (s := 16) (Lq := (L0 ++ [nm] ++ LT)) (M := [[59]]) sB2 hbs (by decide) rfl rfl rfl rfl (by simp) (by simp) (by simp; omega) (by simp) (by kernel_rfl) (by kernel_rfl) (by kernel_rfl) (by kernel_rfl) (fun f v down hno hq => ?_)
     obtain ⟨v7, e7⟩ := Option.ne_none_iff_exists'.1 (down 15 7 (by kernel_rfl) (by rw [hq]; simp))
     obtain ⟨v0, e0⟩ := Option.ne_none_iff_exists'.1 (down 7 0 (by kernel_rfl) (by rw [e7]; simp))
     have e18 := za7 down (i := 18) (j := 17) (by kernel_rfl) hno
     exact ⟨e18, by simp [zao, zav, e0, e7, hq, hno], by simp [zah, e7, hq, hno], fun x => ⟨by simp [zao, zav, zbx, e0, e7, hq], by simp [zah, zbx, e7, hq]⟩⟩
    ·refine YGoal.last (q := 17) (by decide) (by simp) rfl rfl rfl (by kernel_rfl) (by kernel_rfl) (fun f v down hq => ?_)
     obtain ⟨v15, e15⟩ := Option.ne_none_iff_exists'.1 (down 17 15 (by kernel_rfl) (by rw [hq]; simp))
     obtain ⟨v7, e7⟩ := Option.ne_none_iff_exists'.1 (down 15 7 (by kernel_rfl) (by rw [e15]; simp))
     obtain ⟨v0, e0⟩ := Option.ne_none_iff_exists'.1 (down 7 0 (by kernel_rfl) (by rw [e7]; simp))
     simp [zao, zav, hq, e0, e7, e15]
   case fin =>
    intro a' W f hz hdf hkp hBW hf hV hX
    have hdone : (∃ v, f 0 = some v) ∧ (∃ v, f 7 = some v) ∧ (∃ v, f 15 = some v) ∧ (∃ v, f 17 = some v) := ⟨⟨_, hf 0 49 (by kernel_rfl)⟩, ⟨_, hf 7 56 (by kernel_rfl)⟩, ⟨_, hf 15 64 (by kernel_rfl)⟩, ⟨_, hf 17 66 (by kernel_rfl)⟩⟩
    have hL : zah f L0 [(7, 6, [nm]), (15, 14, LT), (17, 16, [[59]])] = (L0 ++ [nm] ++ LT ++ [[59]]) := by
     obtain ⟨⟨_, _⟩, ⟨_, e7⟩, ⟨_, e15⟩, ⟨_, e17⟩⟩ := hdone
     simp [zah, e7, e15, e17]
    obtain ⟨hown, _⟩ := hX.2.2 _ (hX.1 _ (hf 18 3 (by kernel_rfl)))
    rw [hL] at hown
    have HB2 := za3 (toB W hBW)
    rw [zd3 hz rfl hdf hkp]
    clear hf hV hX hkp hdone hL cB cN cP cS sB sB2 hbs hlow toB ofB
    generalize hv3 : a'.tmps.getD 3 undef = v3 at hown
    simp only [List.foldl, Option.getD]
    rw [hv3]
    go_wp2
    go_roundw
    case rel => exact ⟨k + 1, by omega, by omega, (by rw [za0 HSS]; exact hown), za0 HB2⟩
    case measure => simp [intOf]; omega
  ·obtain rfl : k = n := by omega
   have hlt' : ¬ (k : Int) < (k : Int) := by omega
   obtain ⟨g1, cp1, W4, E, hL1⟩ := Left.append (s := [125]) ho hb.size (by omega)
   have HE := za3 E
   clear E hB5 hlen hlen2 hlen3 HO HP HN
   obtain ⟨pv, cv, rfl, _⟩ := zaq ho
   go_wp2_with (at_builtin; refine za4 rfl (.tmp 67) (.tmp 68) 25 rfl rfl rfl (za0 HE) ?_; clear HE)
   go_ret
   exact ⟨⟨_, rfl, by rw [za0 HL]; simpa using hL1.1.mono hbw1.size⟩, bon hbw1 ((hb).trans hL1.2.1)⟩
def v27 (b k gn on gp op : Nat) (vn : Value) (s : ByteArray) (vp v3 : Value) : List (Option Value) := [none, some (.pointer (some ⟨b, 2, none⟩)), some (vn), some (.int .i64 (k : Int)), some (.pointer (some ⟨gn, on + k, none⟩)), some (.string s), none, none, some (.pointer (some ⟨b, 4, none⟩)), some (vp), some (.int .i64 (k : Int)), some (.pointer (some ⟨gp, op + k * 5, none⟩)), some (v3), none, none, none, none, none]
def embS (es : List Bool) (k : Nat) : List Bs := if es.getD k false = true then [[101, 109, 98, 101, 100]] else []
def reS (ns : List Bs) (es : List Bool) (LS : Nat → List Bs) (k : Nat) : List Bs := [123] :: (List.range k).flatMap fun i => embS es i ++ [ns.getD i []] ++ LS i ++ [[59]]
theorem reS_succ (ns : List Bs) (es : List Bool) (LS : Nat → List Bs) (k : Nat) : reS ns es LS (k + 1) = reS ns es LS k ++ embS es k ++ [ns.getD k []] ++ LS k ++ [[59]] := by
 unfold reS
 rw [List.range_succ, List.flatMap_append]
 simp
theorem emb_len (es : List Bool) (k : Nat) : (embS es k).length ≤ 1 := by unfold embS; split <;> simp
theorem reS_len (ns : List Bs) (es : List Bool) (LS : Nat → List Bs) (k : Nat) : (reS ns es LS k).length ≤ 1 + 3 * k + ((List.range k).map fun i => (LS i).length).sum := by
 induction k with
 | zero => simp [reS]
 | succ k ih => rw [reS_succ, List.range_succ, List.map_append, List.sum_append]; have := emb_len es k; simp; omega
theorem typed_6 (S : ByteArray) (pn pe pp : Option Addr) (cn ce cp n : Nat) (w : World) (ns : List Bs) (es : List Bool) (LS : Nat → List Bs) (hn : n = ns.length) (hne : n = es.length) (hn1 : n ≤ 60000) (hsum : ((List.range n).map fun i => (LS i).length).sum ≤ 300000)
  (hN : SRow w (.slice pn n cn) ns) (hE : BRow w (.slice pe n ce) es)
  (hP : ∀ k, k < n → ∃ (gp op : Nat) (K' : Int) (S' : ByteArray) (qn qe q3 : Option Addr) (n1 c1 n2 c2 n3 c3 : Nat), pp = some ⟨gp, op, none⟩ ∧ w.cell? ⟨gp, op + k * 5, none⟩ = some (.int .i64 K') ∧ w.cell? ⟨gp, op + k * 5 + 1, none⟩ = some (.string S') ∧ w.cell? ⟨gp, op + k * 5 + 2, none⟩ = some (.slice qn n1 c1) ∧ w.cell? ⟨gp, op + k * 5 + 3, none⟩ = some (.slice qe n2 c2) ∧ w.cell? ⟨gp, op + k * 5 + 4, none⟩ = some (.slice q3 n3 c3) ∧ 0 < (LS k).length ∧ ∀ W, Below w.heap.size w W → Leaves 49 #[.agg #[.int .i64 K', .string S', .slice qn n1 c1, .slice qe n2 c2, .slice q3 n3 c3]] W (LS k)) :
  zfk 6 S pn pe pp n n n cn ce cp w (reS ns es LS n ++ [[125]]) := by
 obtain ⟨L, hL⟩ : ∃ L, L = reS ns es LS n ++ [[125]] := ⟨_, rfl⟩
 have HNN := za3 (And.intro hn hne)
 clear hn hne
 rw [← hL]
 have HL := za3 hL
 have HP := za3 hP
 have HN := za3 hN
 have HEm := za3 hE
 have HS := za3 hsum
 obtain ⟨w1, hw1⟩ : ∃ w1, w1 = w.alloc (ze7 6 S pn pe pp n n n cn ce cp) := ⟨_, rfl⟩
 have HW1 := za3 hw1
 have hbw1 : Below w.heap.size w w1 := by rw [hw1]; exact al1 _ _
 have HO0 := za3 (zee w1 [123])
 rw [hw1] at HO0
 have HB0 := za3 (al1 w1 (.cells #[.string ⟨#[123]⟩] 9))
 rw [hw1] at HB0
 clear hL hP hN hE hsum hw1
 go_enter Tryz.func49, Tryz.ntmps49
 go_wp2
 go_loopw [5, 6] (fun o i wr => ∃ (k : Nat) (vo : Value), i = .int .i64 k ∧ o = vo ∧ k ≤ n ∧ Hid (wr.ownsRow w1.heap.size 9 1 vo (reS ns es LS k).length (zcg (reS ns es LS k)) ∧ Below w1.heap.size w1 wr)) (fun _ i _ => n - (intOf i).toNat)
 case atStart =>
  refine ⟨0, _, rfl, rfl, by omega, ?_⟩
  rw [za0 HW1]
  exact ⟨by simpa [reS] using za0 HO0, za0 HB0⟩
 case round =>
  obtain ⟨k, vo, rfl, hvo, hk, HO⟩ := hrel
  have hvo' := hvo.symm
  clear hvo
  subst hvo'
  obtain ⟨ho, hb⟩ := za0 HO
  have hlen := reS_len ns es LS k
  have hlen2 := zhs (f := fun i => (LS i).length) hk
  have hlen3 := za0 HS
  have hB5 : ∀ W, Below w1.heap.size w1 W → _ := fun W (h : Below w1.heap.size w1 W) => zek (w := w) (K := 6) (S := S) (pn := pn) (pe := pe) (pp := pp) (nn := n) (ne := n) (np := n) (cn := cn) (ce := ce) (cp := cp) (wr := W) (by rw [← za0 HW1]; exact h)
  obtain ⟨d0, d1, d2, d3, d4⟩ := hB5 _ hb
  by_cases hlt : k < n
  ·have hlt' : (k : Int) < (n : Int) := by omega
   have hkn : (k : Int) < (n : Int) := by omega
   obtain ⟨gp, op, K', S', qn, qe, q3, n1, c1, n2, c2, n3, c3, rfl, aP0, aP1, aP2, aP3, aP4, hLT, CS⟩ := za0 HP k hlt
   obtain ⟨pn', cn', e', hNc⟩ := za0 HN
   injection e' with e1 e2 e3
   subst e1
   clear e2 e3
   obtain ⟨gn, on, rfl, aN⟩ := hNc k (ns[k]'(by have := za0 HNN; omega)) (by simp)
   have hnm : ns[k]'(by have := za0 HNN; omega) = ns.getD k [] := by rw [List.getD_eq_getElem?_getD, List.getElem?_eq_getElem (by have := za0 HNN; omega)]; rfl
   rw [hnm] at aN
   obtain ⟨pe', ce', e', hEc⟩ := za0 HEm
   injection e' with e1 e2 e3
   subst e1
   clear e2 e3
   obtain ⟨ge, oe, rfl, aE⟩ := hEc k (es[k]'(by have := za0 HNN; omega)) (by simp)
   have hem : es[k]'(by have := za0 HNN; omega) = es.getD k false := by rw [List.getD_eq_getElem?_getD, List.getElem?_eq_getElem (by have := za0 HNN; omega)]; rfl
   rw [hem] at aE
   have aE' := ((bon hbw1 hb).cell (p := ⟨ge, _, none⟩) (za2 aE)).trans aE
   have hsl : ((List.range k).map fun i => (LS i).length).sum + (LS k).length ≤ 300000 := by
    have h1 := zhs (f := fun i => (LS i).length) (show k + 1 ≤ n by omega)
    rw [List.range_succ, List.map_append, List.sum_append] at h1
    simp at h1 hlen3; omega
   have HSS := za3 (reS_succ ns es LS k)
   obtain ⟨L1, hL1⟩ : ∃ L1, L1 = reS ns es LS k := ⟨_, rfl⟩
   obtain ⟨L0, hL0⟩ : ∃ L0, L0 = L1 ++ embS es k := ⟨_, rfl⟩
   obtain ⟨LT, hLTd⟩ : ∃ LT, LT = LS k := ⟨_, rfl⟩
   obtain ⟨nm, hnmd⟩ : ∃ nm, nm = ns.getD k [] := ⟨_, rfl⟩
   rw [← hL1, ← hLTd, ← hnmd, ← hL0] at HSS
   rw [← hL1] at ho hlen
   rw [← hLTd] at CS hLT hsl
   rw [← hnmd] at aN
   have hl1 : L1.length ≤ 500000 := by omega
   have hl0 : L0.length ≤ 500001 := by rw [hL0, List.length_append]; have := emb_len es k; omega
   have hlT : LT.length ≤ 300000 := by omega
   obtain ⟨em, hemd⟩ : ∃ em, em = es.getD k false := ⟨_, rfl⟩
   have hL0' : L0 = L1 ++ (if em = true then [[101, 109, 98, 101, 100]] else []) := by rw [hL0, embS, hemd]
   have HL0 := za3 hL0'
   rw [← hemd] at aE'
   clear HO hlen hlen2 hlen3 HP HN hNc hEc hL1 hL0 hL0' hLTd hnmd hsl HL HS hnm hem hemd aE HEm
   go_upto_if 82 with fail
   go_cut [5] (fun o wx => ∃ v1, o = v1 ∧ Hid (wx.ownsRow w1.heap.size 9 1 v1 L0.length (zcg L0) ∧ Below w1.heap.size w1 wx))
   case first =>
    cases em
    ·have h0 := za0 HL0
     rw [if_neg (by decide), List.append_nil] at h0
     subst h0
     go_wp2
     go_meet
     case rel => exact ⟨_, rfl, ho, hb⟩
    ·obtain ⟨g1, cp1, W4, E, hLa⟩ := Left.append (s := [101, 109, 98, 101, 100]) ho hb.size (by omega)
     have HE := za3 E
     obtain ⟨pv, cv, rfl, _⟩ := zaq ho
     clear E
     go_wp2_with (at_builtin; refine za4 rfl (.tmp 83) (.tmp 84) 25 rfl rfl rfl (za0 HE) ?_; clear HE)
     go_meet
     case rel => exact ⟨_, rfl, (by rw [za0 HL0]; simpa using hLa.1), hb.trans hLa.2.1⟩
   case rest =>
    clear ho hb d0 d1 d2 d3 d4 HL0 aE'
    obtain ⟨vo, hvo, HOc⟩ := hcut
    have hvo' := hvo.symm
    clear hvo
    subst hvo'
    obtain ⟨ho, hb⟩ := za0 HOc
    have HO2 := za3 ho
    obtain ⟨B, hBd⟩ : ∃ B : World → Prop, B = fun W => Below w1.heap.size w1 W := ⟨_, rfl⟩
    have toB : ∀ W, B W → Below w1.heap.size w1 W := fun W h => by rw [hBd] at h; exact h
    have ofB : ∀ W, Below w1.heap.size w1 W → B W := fun W h => by rw [hBd]; exact h
    have sB : ∀ W W', B W → Below W.heap.size W W' → B W' := fun W W' h hb => ofB _ (bon (toB _ h) hb)
    have sB2 : ∀ W W', B W → Below w1.heap.size W W' → B W' := fun W W' h hb => ofB _ ((toB _ h).trans hb)
    have hbs : ∀ W, B W → w1.heap.size ≤ W.heap.size := fun W h => (toB W h).size
    have hlow : ∀ W, B W → Below w.heap.size w W := fun W h => bon hbw1 (toB W h)
    have cB : ∀ W, B W → _ := fun W h => hB5 W (toB W h)
    have cN : ∀ W, B W → W.cell? ⟨gn, on + k, none⟩ = some (.string ⟨nm.toArray⟩) := fun W h => ((hlow W h).cell (p := ⟨gn, _, none⟩) (za2 aN)).trans aN
    have cP : ∀ W, B W → W.cell? ⟨gp, op + k * 5, none⟩ = some (.int .i64 K') ∧ W.cell? ⟨gp, op + k * 5 + 1, none⟩ = some (.string S') ∧ W.cell? ⟨gp, op + k * 5 + 2, none⟩ = some (.slice qn n1 c1) ∧ W.cell? ⟨gp, op + k * 5 + 3, none⟩ = some (.slice qe n2 c2) ∧ W.cell? ⟨gp, op + k * 5 + 4, none⟩ = some (.slice q3 n3 c3) := fun W h => ⟨((hlow W h).cell (p := ⟨gp, _, none⟩) (za2 aP0)).trans aP0, ((hlow W h).cell (p := ⟨gp, _, none⟩) (za2 aP1)).trans aP1, ((hlow W h).cell (p := ⟨gp, _, none⟩) (za2 aP2)).trans aP2, ((hlow W h).cell (p := ⟨gp, _, none⟩) (za2 aP3)).trans aP3, ((hlow W h).cell (p := ⟨gp, _, none⟩) (za2 aP4)).trans aP4⟩
    have cS : ∀ W, B W → Leaves 49 #[.agg #[.int .i64 K', .string S', .slice qn n1 c1, .slice qe n2 c2, .slice q3 n3 c3]] W LT := fun W h => CS W (hlow W h)
    clear ho HOc hB5 CS aN aP0 aP1 aP2 aP3 aP4
    go_wp2_with fail
    refine zbq (n := 106) (by kernel_rfl) (by kernel_rfl) (by kernel_rfl) rfl B (VP (v27 w.heap.size k gn on gp op (.slice (some ⟨gn, on, none⟩) n cn) ⟨nm.toArray⟩ (.slice (some ⟨gp, op, none⟩) n cp) (.agg #[.int .i64 K', .string S', .slice qn n1 c1, .slice qe n2 c2, .slice q3 n3 c3]))) (XCh w1.heap.size 0 17 (some vo) L0 [(7, 6, [nm]), (14, 13, LT), (16, 15, [[59]])])
     (ofB _ (zad hb)) (XCh.init (fun v hv => Option.some.inj hv ▸ (za0 HO2).drew)) ?each ?fin
    case each =>
     refine ⟨?_, ?_, ?_, ?_, ?_, ?_, ?_, ?_, ?_, ?_, ?_, ?_, ?_, ?_, ?_, ?_, ?_, ?_, trivial⟩
     ·refine YGoal.start rfl (by decide) (by simp) rfl rfl rfl (fun f down hno => ?_) (fun a' f hkp hlt hzn => ?_)
      ·have e7 := za7 down (i := 7) (j := 0) (by kernel_rfl) hno
       have e14 := za7 down (i := 14) (j := 7) (by kernel_rfl) e7
       have e16 := za7 down (i := 16) (j := 14) (by kernel_rfl) e14
       have e17 := za7 down (i := 17) (j := 16) (by kernel_rfl) e16
       exact ⟨e17, by simp [e7, e14, e16]⟩
      ·exact hlt 5 17 (by kernel_rfl) hzn
     ·exact YGoal.plain sB (by decide) (by decide) (by simp) (fun a' W f hz hkp hlt hBW hno down dep => ⟨za1 rfl, zju (by decide) rfl (show a'.eval (.tmp 1) = Value.pointer (some ⟨w.heap.size, 0, none⟩) from hkp 1 (by kernel_rfl)) ⟨_, rfl, Below.refl _ _, rfl⟩⟩)
     ·exact YGoal.plain sB (by decide) (by decide) (by simp) (fun a' W f hz hkp hlt hBW hno down dep => ⟨za1 rfl, zjs rfl (dep 1 87 _ (by kernel_rfl) (by kernel_rfl) rfl) (cB W hBW).2.2.1 ⟨_, rfl, Below.refl _ _, rfl⟩⟩)
     ·exact YGoal.plain sB (by decide) (by decide) (by simp) (fun a' W f hz hkp hlt hBW hno down dep => ⟨za1 rfl, zbl rfl (show a'.eval (.tmp 6) = Value.int .i64 (k : Int) from hkp 6 (by kernel_rfl)) ⟨_, rfl, Below.refl _ _, rfl⟩⟩)
     ·exact YGoal.plain sB (by decide) (by decide) (by simp) (fun a' W f hz hkp hlt hBW hno down dep => ⟨za1 rfl, zhv rfl (dep 2 88 _ (by kernel_rfl) (by kernel_rfl) rfl) (dep 3 89 _ (by kernel_rfl) (by kernel_rfl) rfl) hkn ⟨_, rfl, Below.refl _ _, rfl⟩⟩)
     ·exact YGoal.plain sB (by decide) (by decide) (by simp) (fun a' W f hz hkp hlt hBW hno down dep => ⟨za1 rfl, zfi rfl (dep 4 90 _ (by kernel_rfl) (by kernel_rfl) rfl) (cN W hBW) ⟨_, rfl, Below.refl _ _, rfl⟩⟩)
     ·exact YGoal.src (M := [nm]) sB (by decide) (by decide) (by simp) rfl (fun a' W hz hkp hBW dep => ⟨za1 rfl, zcy rfl (dep 5 91 _ (by kernel_rfl) (by kernel_rfl) rfl) ⟨_, rfl, al1 _ _, src1 W nm⟩⟩)
     ·refine YGoal.app (q := 0) (s := 6) (Lq := L0) (M := [nm]) sB2 hbs (by decide) rfl rfl rfl rfl (by simp) (by simp) (by simp; omega) (by simp) (by kernel_rfl) (by kernel_rfl) (by kernel_rfl) (by kernel_rfl) (fun f v down hno hq => ?_)
      have e14 := za7 down (i := 14) (j := 7) (by kernel_rfl) hno
      have e16 := za7 down (i := 16) (j := 14) (by kernel_rfl) e14
      have e17 := za7 down (i := 17) (j := 16) (by kernel_rfl) e16
      exact ⟨e17, by simp [zao, zav, hq, hno], by simp [zah, hno], fun x => ⟨by simp [zao, zav, zbx, hq, e14], by simp [zah, zbx, e14]⟩⟩
     ·exact YGoal.plain sB (by decide) (by decide) (by simp) (fun a' W f hz hkp hlt hBW hno down dep => ⟨za1 rfl, zju (by decide) rfl (show a'.eval (.tmp 1) = Value.pointer (some ⟨w.heap.size, 0, none⟩) from hkp 1 (by kernel_rfl)) ⟨_, rfl, Below.refl _ _, rfl⟩⟩)
     ·exact YGoal.plain sB (by decide) (by decide) (by simp) (fun a' W f hz hkp hlt hBW hno down dep => ⟨za1 rfl, zjl rfl (dep 8 94 _ (by kernel_rfl) (by kernel_rfl) rfl) (cB W hBW).2.2.2.2 ⟨_, rfl, Below.refl _ _, rfl⟩⟩)
     ·exact YGoal.plain sB (by decide) (by decide) (by simp) (fun a' W f hz hkp hlt hBW hno down dep => ⟨za1 rfl, zbl rfl (show a'.eval (.tmp 6) = Value.int .i64 (k : Int) from hkp 6 (by kernel_rfl)) ⟨_, rfl, Below.refl _ _, rfl⟩⟩)
     ·exact YGoal.plain sB (by decide) (by decide) (by simp) (fun a' W f hz hkp hlt hBW hno down dep => ⟨za1 rfl, zhg rfl (dep 9 95 _ (by kernel_rfl) (by kernel_rfl) rfl) (dep 10 96 _ (by kernel_rfl) (by kernel_rfl) rfl) hkn ⟨_, rfl, Below.refl _ _, rfl⟩⟩)
     ·exact YGoal.plain sB (by decide) (by decide) (by simp) (fun a' W f hz hkp hlt hBW hno down dep => ⟨za1 rfl, zlg rfl (dep 11 97 _ (by kernel_rfl) (by kernel_rfl) rfl) (cP W hBW).1 (cP W hBW).2.1 (cP W hBW).2.2.1 (cP W hBW).2.2.2.1 (cP W hBW).2.2.2.2 ⟨_, rfl, Below.refl _ _, rfl⟩⟩)
     ·exact YGoal.src (M := LT) sB (by decide) (by decide) (by simp) rfl (fun a' W hz hkp hBW dep => ⟨za1 rfl, zcw rfl (dep 12 98 _ (by kernel_rfl) (by kernel_rfl) rfl) zhc ((cS W hBW).mono fun e w' ⟨⟨u, he, h1⟩, hb⟩ => ⟨u, he, u, rfl, hb, SRow.of_owns h1, fun g hg => h1.lt g hg⟩)⟩)
     ·refine YGoal.app (q := 7) (s := 13) (Lq := (L0 ++ [nm])) (M := LT) sB2 hbs (by decide) rfl rfl rfl rfl (by simp) hLT (by simp; omega) (by simp) (by kernel_rfl) (by kernel_rfl) (by kernel_rfl) (by kernel_rfl) (fun f v down hno hq => ?_)
      obtain ⟨v0, e0⟩ := Option.ne_none_iff_exists'.1 (down 7 0 (by kernel_rfl) (by rw [hq]; simp))
      have e16 := za7 down (i := 16) (j := 14) (by kernel_rfl) hno
      have e17 := za7 down (i := 17) (j := 16) (by kernel_rfl) e16
      exact ⟨e17, by simp [zao, zav, e0, hq, hno], by simp [zah, hq, hno], fun x => ⟨by simp [zao, zav, zbx, e0, hq, e16], by simp [zah, zbx, hq, e16]⟩⟩
     ·exact YGoal.src (M := [[59]]) sB (by decide) (by decide) (by simp) rfl (fun a' W hz hkp hBW dep => ⟨za1 rfl, zcy (s := ⟨#[59]⟩) rfl rfl ⟨_, rfl, al1 _ _, src1 W [59]⟩⟩)
     ·refine YGoal.app (q := 14) (s := 15) (Lq := (L0 ++ [nm] ++ LT)) (M := [[59]]) sB2 hbs (by decide) rfl rfl rfl rfl (by simp) (by simp) (by simp; omega) (by simp) (by kernel_rfl) (by kernel_rfl) (by kernel_rfl) (by kernel_rfl) (fun f v down hno hq => ?_)
      obtain ⟨v7, e7⟩ := Option.ne_none_iff_exists'.1 (down 14 7 (by kernel_rfl) (by rw [hq]; simp))
      obtain ⟨v0, e0⟩ := Option.ne_none_iff_exists'.1 (down 7 0 (by kernel_rfl) (by rw [e7]; simp))
      have e17 := za7 down (i := 17) (j := 16) (by kernel_rfl) hno
      exact ⟨e17, by simp [zao, zav, e0, e7, hq, hno], by simp [zah, e7, hq, hno], fun x => ⟨by simp [zao, zav, zbx, e0, e7, hq], by simp [zah, zbx, e7, hq]⟩⟩
     ·refine YGoal.last (q := 16) (by decide) (by simp) rfl rfl rfl (by kernel_rfl) (by kernel_rfl) (fun f v down hq => ?_)
      obtain ⟨v14, e14⟩ := Option.ne_none_iff_exists'.1 (down 16 14 (by kernel_rfl) (by rw [hq]; simp))
      obtain ⟨v7, e7⟩ := Option.ne_none_iff_exists'.1 (down 14 7 (by kernel_rfl) (by rw [e14]; simp))
      obtain ⟨v0, e0⟩ := Option.ne_none_iff_exists'.1 (down 7 0 (by kernel_rfl) (by rw [e7]; simp))
      simp [zao, zav, hq, e0, e7, e14]
    case fin =>
     intro a' W f hz hdf hkp hBW hf hV hX
     have hdone : (∃ v, f 0 = some v) ∧ (∃ v, f 7 = some v) ∧ (∃ v, f 14 = some v) ∧ (∃ v, f 16 = some v) := ⟨⟨_, hf 0 86 (by kernel_rfl)⟩, ⟨_, hf 7 93 (by kernel_rfl)⟩, ⟨_, hf 14 100 (by kernel_rfl)⟩, ⟨_, hf 16 102 (by kernel_rfl)⟩⟩
     have hL : zah f L0 [(7, 6, [nm]), (14, 13, LT), (16, 15, [[59]])] = (L0 ++ [nm] ++ LT ++ [[59]]) := by
      obtain ⟨⟨_, _⟩, ⟨_, e7⟩, ⟨_, e14⟩, ⟨_, e16⟩⟩ := hdone
      simp [zah, e7, e14, e16]
     obtain ⟨hown, _⟩ := hX.2.2 _ (hX.1 _ (hf 17 5 (by kernel_rfl)))
     rw [hL] at hown
     have HB2 := za3 (toB W hBW)
     rw [zd3 hz rfl hdf hkp]
     clear hf hV hX hkp hdone hL cB cN cP cS sB sB2 hbs hlow toB ofB
     generalize hv3 : a'.tmps.getD 5 undef = v3 at hown
     simp only [List.foldl, Option.getD]
     rw [hv3]
     go_wp2
     go_roundw
     case rel => exact ⟨k + 1, v3, by go_num, rfl, by omega, (by rw [za0 HSS]; exact hown), za0 HB2⟩
     case measure => simp [intOf]; omega
  ·obtain rfl : k = n := by omega
   have hlt' : ¬ (k : Int) < (k : Int) := by omega
   obtain ⟨g1, cp1, W4, E, hL1⟩ := Left.append (s := [125]) ho hb.size (by omega)
   have HE := za3 E
   clear E hB5 hlen hlen2 hlen3 HO HP HN HEm
   obtain ⟨pv, cv, rfl, _⟩ := zaq ho
   go_wp2_with (at_builtin; refine za4 rfl (.tmp 103) (.tmp 104) 25 rfl rfl rfl (za0 HE) ?_; clear HE)
   go_ret
   exact ⟨⟨_, rfl, by rw [za0 HL]; simpa using hL1.1.mono hbw1.size⟩, bon hbw1 ((hb).trans hL1.2.1)⟩
def gS (d : Nat) (t : Ty d) : List Bs := (zac d true t).map za5
theorem tyS_le (d : Nat) (t : Ty d) : (tyS d t).length + 1 ≤ 4 * szD d t := by
 have := zi8 d false t
 simpa [tyS, cn] using this
theorem gS_le (d : Nat) (t : Ty d) : (gS d t).length + 1 ≤ 4 * szD d t := by
 have := zi8 d true t
 simpa [gS, cn] using this
theorem zg3 {d : Nat} {t : Ty (d + 1)} (h : ∃ room, zci (d + 1) room t = true) : zcc d t = true ∧ ∃ room, zak d room t.2.2.2.2 = true := by
 obtain ⟨room, h⟩ := h
 rw [zfv, zeh] at h
 simp only [Bool.and_eq_true] at h
 exact ⟨h.1.2, _, h.2⟩
theorem zl3 : ∀ {d : Nat} {t : Ty d}, (∃ room, zci d room t = true) → 0 < (tyS d t).length
 | 0, t, _ => nomatch t
 | d + 1, t, h => by
  have := toks_ne (zg3 h).1
  rw [tyS, List.length_map]
  exact List.length_pos_iff.2 this
theorem gS_pos : ∀ {d : Nat} (t : Ty d), 0 < (gS d t).length
 | 0, t => nomatch t
 | d + 1, t => by
  rw [gS, List.length_map, zac]
  simp
theorem part_map {d : Nat} (ts : List (Ty d)) (i : Nat) (s : Bool) : ((ts[i]?.map (zac d s)).getD []).map za5 = (ts[i]?.map fun t => (zac d s t).map za5).getD [] := by
 cases ts[i]? <;> rfl
theorem tyS_1 {d : Nat} {t : Ty (d + 1)} (h : t.1 = 1) : tyS (d + 1) t = [[105, 110, 116]] := by
 rw [tyS, zac]; simp [h, zcb]
theorem tyS_2 {d : Nat} {t : Ty (d + 1)} (h : t.1 = 2) : tyS (d + 1) t = [[98, 111, 111, 108]] := by
 rw [tyS, zac]; simp [h, zcb]
theorem tyS_3 {d : Nat} {t : Ty (d + 1)} (h : t.1 = 3) : tyS (d + 1) t = [[116, 101, 120, 116]] := by
 rw [tyS, zac]; simp [h, zcb]
theorem tT_text (s : Bs) : za5 (tT s) = s := by rw [zay (show (2 : Int) ≠ 4 by decide) (show (2 : Int) ≠ 5 by decide)]; rfl
theorem tyS_4 {d : Nat} {t : Ty (d + 1)} (h : t.1 = 4) : tyS (d + 1) t = [t.2.1] := by
 rw [tyS, zac]; simp [h, tT_text]
theorem tyS_5 {d : Nat} {t : Ty (d + 1)} (h : t.1 = 5) (hl : t.2.2.2.2.length = 1) : tyS (d + 1) t = [42] :: tyS d (t.2.2.2.2[0]'(by omega)) := by
 rw [tyS, zac]
 have : t.2.2.2.2[0]? = some (t.2.2.2.2[0]'(by omega)) := List.getElem?_eq_getElem _
 simp only [h, this]
 simp [zb7, tyS]
theorem tyS_7 {d : Nat} {t : Ty (d + 1)} (h : t.1 = 7) : tyS (d + 1) t = [102, 110] :: gS (d + 1) t := by
 rw [tyS, gS, zac, zac]
 simp [h, zcb]
theorem tyS_6 {d : Nat} {t : Ty (d + 1)} (h : t.1 = 6) : tyS (d + 1) t = reS t.2.2.1 t.2.2.2.1 (fun i => (t.2.2.2.2[i]?.map (tyS d)).getD []) t.2.2.1.length ++ [[125]] := by
 rw [tyS, zac]
 simp only [h]
 simp only [Bool.false_eq_true, if_false, Int.reduceEq, if_true]
 rw [List.map_append, List.map_cons, List.map_flatMap, zb7, reS]
 simp only [List.map_cons, List.map_nil, zb7]
 congr 3
 funext i
 rw [List.map_append, List.map_append, List.map_cons, part_map, zfr]
 simp only [List.map_cons, List.map_nil, zb7, embS]
 split <;> (simp [zcb]; rfl)
theorem tyS_8 {d : Nat} {t : Ty (d + 1)} (h : t.1 = 8) : tyS (d + 1) t = ifS t.2.2.1 (fun i => (t.2.2.2.2[i]?.map (gS d)).getD []) t.2.2.1.length ++ [[125]] := by
 rw [tyS, zac]
 simp only [h]
 simp only [Bool.false_eq_true, if_false, Int.reduceEq, if_true]
 rw [List.map_append, List.map_cons, List.map_cons, List.map_flatMap, zb7, zcb, ifS]
 simp only [List.map_cons, List.map_nil, zb7]
 congr 4
 funext i
 rw [List.map_append, List.map_cons, part_map, zfr]
 simp only [List.map_cons, List.map_nil, zb7]
 simp
 rfl
theorem sum_part {d : Nat} (ts : List (Ty d)) (f : Ty d → List Bs) (hf : ∀ t, (f t).length ≤ 4 * szD d t) (n : Nat) : ((List.range n).map fun i => ((ts[i]?.map f).getD []).length).sum ≤ 4 * szL d ts := by
 have e : (fun i : Nat => ((ts[i]?.map f).getD []).length) = fun i : Nat => (ts[i]?.map fun t => (f t).length).getD 0 := by
  funext i
  cases ts[i]? <;> rfl
 rw [e]
 refine Nat.le_trans (zgu ts (fun t => (f t).length) n) ?_
 clear e
 induction ts with
 | nil => simp [szL]
 | cons x r ih =>
  have := hf x
  simp only [List.map_cons, List.sum_cons, szL] at ih ⊢
  omega
def SigP (d : Nat) : Prop := ∀ (t : Ty d) (K' : Int) (S' : ByteArray) (qn qe q3 : Option Addr) (n1 c1 n2 c2 n3 c3 : Nat) (w : World), TyValD w d (.agg #[.int .i64 K', .string S', .slice qn n1 c1, .slice qe n2 c2, .slice q3 n3 c3]) t → (∃ room, zci d room t = true) → kindD d t = 7 → szD d t ≤ 60000 →
 Leaves 80 #[.slice q3 n3 c3] w (gS d t)
theorem sigP_zero : SigP 0 := fun t => nomatch t
theorem fn_parts {d : Nat} {t : Ty (d + 1)} (h : t.1 = 7) (hs : zcc d t = true) : 0 < t.2.2.2.2.length := by
 unfold zcc at hs
 rw [h] at hs
 simp [zaw] at hs
 omega
theorem sigP_succ (d : Nat) (IH : zj1 d) : SigP (d + 1) := fun t K' S' qn qe q3 n1 c1 n2 c2 n3 c3 w hv hr hk hz => by
 obtain ⟨pn, pe, pp, cn, ce, cp, e, r1, r2, r3⟩ := hv
 obtain ⟨hsh, room, hps⟩ := zg3 hr
 have hne := fn_parts hk hsh
 have e4 : Value.slice q3 n3 c3 = .slice pp t.2.2.2.2.length cp := by
  injection e with e1
  have := congrArg (fun (x : Array Value) => x[4]?) e1
  simpa using this
 rw [e4]
 have hz' : szL d t.2.2.2.2 ≤ 60000 := by rw [szD] at hz; unfold szL; omega
 have := sig_walk d IH pp cp t.2.2.2.2 w r3 (fun x hx => ⟨_, rights_mem' hps x hx⟩) hne hz'
 rw [← sig_toks d t hne] at this
 exact this
where
 rights_mem' : ∀ {d : Nat} {room : Int} {ts : List (Ty d)}, zak d room ts = true → ∀ u ∈ ts, zci d room u = true
  | 0, _, _, _, u, _ => nomatch u
  | d + 1, room, ts, h, u, hu => by
   rw [zak, List.all_eq_true] at h
   rw [zci, zak, List.all_cons, List.all_nil, Bool.and_true]
   exact h u hu
theorem rights_each : ∀ {d : Nat} {room : Int} {ts : List (Ty d)}, zak d room ts = true → ∀ u ∈ ts, zci d room u = true
 | 0, _, _, _, u, _ => nomatch u
 | d + 1, room, ts, h, u, hu => by
  rw [zak, List.all_eq_true] at h
  rw [zci, zak, List.all_cons, List.all_nil, Bool.and_true]
  exact h u hu
theorem fns_each : ∀ {d : Nat} {ts : List (Ty d)}, fnsB d ts = true → ∀ u ∈ ts, kindD d u = 7
 | 0, _, _, u, _ => nomatch u
 | d + 1, ts, h, u, hu => by
  rw [fnsB, List.all_eq_true] at h
  have h1 : u.1 = 7 := by simpa using h u hu
  exact h1
theorem typed_step (d : Nat) (IH : zj1 d) (SG : SigP d) : zj1 (d + 1) := fun t v w hv hr hz => by
 obtain ⟨pn, pe, pp, cn, ce, cp, rfl, r1, r2, r3⟩ := hv
 obtain ⟨hsh, room, hps⟩ := zg3 hr
 have hpos := zl3 hr
 have hle := tyS_le (d + 1) t
 have hlts := Nat.le_trans (zcr _ t.2.2.2.2) (zd5 _ t.2.2.2.2)
 have hzz : 1 + t.2.1.length + t.2.2.1.length + t.2.2.2.1.length + zgs t.2.2.1 + szL d t.2.2.2.2 ≤ 60000 := by rw [szD] at hz; exact hz
 have hmem := rights_each hps
 suffices h : zfk t.1 ⟨t.2.1.toArray⟩ pn pe pp t.2.2.1.length t.2.2.2.1.length t.2.2.2.2.length cn ce cp w (tyS (d + 1) t) from h.mono fun e w' ⟨⟨u, he, ho⟩, hb⟩ => ⟨⟨u, he, ho, hpos, by omega⟩, hb⟩
 have part : ∀ k (hk : k < t.2.2.2.2.length) W, Below w.heap.size w W → ∀ x, TyValD w d x t.2.2.2.2[k] → Leaves 49 #[x] W (tyS d t.2.2.2.2[k]) := fun k hk W hW x hx => by
  have h1 : szD d t.2.2.2.2[k] ≤ szL d t.2.2.2.2 := ze6 (List.getElem_mem hk)
  exact (IH _ _ W (TyValD.below hW hx) ⟨_, hmem _ (List.getElem_mem hk)⟩ (by omega)).mono fun e w' ⟨⟨u, he, ho, _⟩, hb⟩ => ⟨⟨u, he, ho⟩, hb⟩
 have hsh0 := hsh
 unfold zcc at hsh
 rcases zld hsh0 with h | h | h | h | h | h | h | h
 ·rw [tyS_1 h, h]; exact typed_1 _ _ _ _ _ _ _ _ _ _ _
 ·rw [tyS_2 h, h]; exact typed_2 _ _ _ _ _ _ _ _ _ _ _
 ·rw [tyS_3 h, h]; exact typed_3 _ _ _ _ _ _ _ _ _ _ _
 ·rw [tyS_4 h, h]; exact typed_4 _ _ _ _ _ _ _ _ _ _ _
 ·rw [h] at hsh
  simp [zaw] at hsh
  have hl : t.2.2.2.2.length = 1 := hsh.2.2
  obtain ⟨x, ⟨g, o, K', S', qn, qe, q3, n1, c1, n2, c2, n3, c3, rfl, rfl, a0, a1, a2, a3, a4⟩, hx⟩ := TyRow.at r3 0 (by omega)
  have hp0 : 0 < (tyS d (t.2.2.2.2[0]'(by omega))).length := zl3 ⟨_, hmem _ (List.getElem_mem _)⟩
  have hl0 := tyS_le d (t.2.2.2.2[0]'(by omega))
  have h1 : szD d (t.2.2.2.2[0]'(by omega)) ≤ szL d t.2.2.2.2 := ze6 (List.getElem_mem _)
  rw [tyS_5 h hl, h]
  simp only [Nat.zero_mul, Nat.add_zero] at a0 a1 a2 a3 a4
  generalize hLL : tyS d (t.2.2.2.2[0]'(by omega)) = LL at hp0 hl0 ⊢
  rw [hl]
  subst hLL
  exact typed_5 _ pn pe _ _ cn ce cp w g o _ K' S' qn qe q3 n1 c1 n2 c2 n3 c3 hp0 (by omega) a0 a1 a2 a3 a4 fun W hW => part 0 (by omega) W hW _ hx
 ·rw [h] at hsh
  simp [zaw] at hsh
  obtain ⟨_, ⟨hn, he⟩, _⟩ := hsh
  have hsm := sum_part t.2.2.2.2 (tyS d) (fun u => by have := tyS_le d u; omega) t.2.2.1.length
  rw [tyS_6 h, h]
  rw [show t.2.2.2.1.length = t.2.2.1.length by omega] at r2 ⊢
  rw [show t.2.2.2.2.length = t.2.2.1.length by omega]
  refine typed_6 _ pn pe pp cn ce cp _ w t.2.2.1 t.2.2.2.1 _ rfl (by omega) (by omega) (by omega) r1 r2 fun k hk => ?_
  have hk' : k < t.2.2.2.2.length := by omega
  obtain ⟨x, ⟨g, o, K', S', qn, qe, q3, n1, c1, n2, c2, n3, c3, e, rfl, a0, a1, a2, a3, a4⟩, hx⟩ := TyRow.at r3 k hk'
  have eL : (t.2.2.2.2[k]?.map (tyS d)).getD [] = tyS d t.2.2.2.2[k] := by rw [List.getElem?_eq_getElem hk']; rfl
  simp only [eL]
  exact ⟨g, o, K', S', qn, qe, q3, n1, c1, n2, c2, n3, c3, e, a0, a1, a2, a3, a4, zl3 ⟨_, hmem _ (List.getElem_mem _)⟩, fun W hW => part k hk' W hW _ hx⟩
 ·have hne := fn_parts h hsh0
  have hg := sig_walk d IH pp cp t.2.2.2.2
  rw [tyS_7 h, h]
  refine typed_7 _ pn pe pp _ _ _ cn ce cp w _ (gS_pos t) (by have := gS_le (d + 1) t; omega) fun W hW => ?_
  have := hg W (TyRow.below hW d r3) (fun x hx => ⟨_, hmem x hx⟩) hne (by omega)
  rw [← sig_toks d t hne] at this
  exact this
 ·rw [h] at hsh
  simp [zaw] at hsh
  obtain ⟨_, ⟨⟨hn, _⟩, _⟩, hf⟩ := hsh
  have hsm := sum_part t.2.2.2.2 (gS d) (fun u => by have := gS_le d u; omega) t.2.2.1.length
  rw [tyS_8 h, h]
  rw [show t.2.2.2.2.length = t.2.2.1.length by omega]
  refine typed_8 _ pn pe pp _ cn ce cp _ w t.2.2.1 _ rfl (by omega) (by omega) r1 fun k hk => ?_
  have hk' : k < t.2.2.2.2.length := by omega
  obtain ⟨x, ⟨g, o, K', S', qn, qe, q3, n1, c1, n2, c2, n3, c3, e, rfl, a0, a1, a2, a3, a4⟩, hx⟩ := TyRow.at r3 k hk'
  have eL : (t.2.2.2.2[k]?.map (gS d)).getD [] = gS d t.2.2.2.2[k] := by rw [List.getElem?_eq_getElem hk']; rfl
  simp only [eL]
  have h1 : szD d t.2.2.2.2[k] ≤ szL d t.2.2.2.2 := ze6 (List.getElem_mem hk')
  exact ⟨g, o, q3, n3, c3, e, a4, gS_pos _, fun W hW => SG _ K' S' qn qe q3 n1 c1 n2 c2 n3 c3 W (TyValD.below hW hx) ⟨_, hmem _ (List.getElem_mem _)⟩ (fns_each hf _ (List.getElem_mem _)) (by omega)⟩
theorem zgh : ∀ d, zj1 d ∧ SigP d
 | 0 => ⟨(fun t => nomatch t), sigP_zero⟩
 | d + 1 => ⟨typed_step d (zgh d).1 (zgh d).2, sigP_succ d (zgh d).1⟩
theorem typed_any (d : Nat) : zj1 d := (zgh d).1
end Go.Proofs.YtmpbbmfbgcpplaaGreatDoor
