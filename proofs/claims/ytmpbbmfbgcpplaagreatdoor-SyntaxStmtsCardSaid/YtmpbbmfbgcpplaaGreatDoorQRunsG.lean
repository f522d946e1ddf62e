import Derived.Test.YtmpbbmfbgcpplaaGreatDoorQExF
import Derived.Test.YtmpbbmfbgcpplaaGreatDoorQNamesG
import Derived.Test.YtmpbbmfbgcpplaaGreatDoorQLexB
set_option maxHeartbeats 2000000
set_option maxRecDepth 100000
namespace Go.Proofs.YtmpbbmfbgcpplaaGreatDoor
open Go Go.RowKit Lx
abbrev xBoxV (A K N : Int) (S : ByteArray) (v1 v2 v3 : Value) : Obj := .cells #[.int .i64 A, .int .i64 K, .int .i64 N, .string S, v1, v2, v3] 28
theorem ty_any (k : Int) (p : Option Addr) (n c : Nat) (w : World) :
  Calls Tryz.prog 30 #[.int .i64 k, .slice p n c] w fun e w' => e = .returned (.agg #[.int .i64 k, .string ⟨#[]⟩, .slice none 0 0, .slice none 0 0, .slice p n c]) ∧ Below w.heap.size w w' := by
 go_enter Tryz.func30, Tryz.ntmps30
 go_wp2
 exact bodyPost_ret (v := .agg #[.int .i64 k, .string ⟨#[]⟩, .slice none 0 0, .slice none 0 0, .slice p n c]) (by simp [results, Tryz.results30, go_sem]) rfl ⟨rfl, (Below.refl _ _).alloc (Nat.le_refl _) _⟩
theorem zlp (s : ByteArray) (w : World) :
  Calls Tryz.prog 31 #[.string s] w fun e w' => e = .returned (.agg #[.int .i64 4, .string s, .slice none 0 0, .slice none 0 0, .slice none 0 0]) ∧ Below w.heap.size w w' := by
 go_enter Tryz.func31, Tryz.ntmps31
 go_wp2
 exact bodyPost_ret (v := .agg #[.int .i64 4, .string s, .slice none 0 0, .slice none 0 0, .slice none 0 0]) (by simp [results, Tryz.results31, go_sem]) rfl ⟨rfl, (Below.refl _ _).alloc (Nat.le_refl _) _⟩
theorem zf2 (k : Int) (w : World) :
  Calls Tryz.prog 40 #[.int .i64 k] w fun e w' => e = .returned (.agg #[.int .i64 0, .int .i64 1, .int .i64 k, .string ⟨#[]⟩, .slice none 0 0, .slice none 0 0, .slice none 0 0]) ∧ Below w.heap.size w w' := by
 go_enter Tryz.func40, Tryz.ntmps40
 go_wp2
 exact bodyPost_ret (v := .agg #[.int .i64 0, .int .i64 1, .int .i64 k, .string ⟨#[]⟩, .slice none 0 0, .slice none 0 0, .slice none 0 0]) (by simp [results, Tryz.results40, go_sem]) rfl ⟨rfl, (Below.refl _ _).alloc (Nat.le_refl _) _⟩
theorem zez (s : ByteArray) (w : World) :
  Calls Tryz.prog 37 #[.string s] w fun e w' => e = .returned (.agg #[.int .i64 0, .int .i64 4, .int .i64 0, .string s, .slice none 0 0, .slice none 0 0, .slice none 0 0]) ∧ Below w.heap.size w w' := by
 go_enter Tryz.func37, Tryz.ntmps37
 go_wp2
 exact bodyPost_ret (v := .agg #[.int .i64 0, .int .i64 4, .int .i64 0, .string s, .slice none 0 0, .slice none 0 0, .slice none 0 0]) (by simp [results, Tryz.results37, go_sem]) rfl ⟨rfl, (Below.refl _ _).alloc (Nat.le_refl _) _⟩
theorem told_yes (D d : Nat) (A K N : Int) (S want : Bs) (pt pn pp : Option Addr) (ct cn cp : Nat) (tys : List (Ty D)) (ns : List Bs) (xs : List (Ex D d)) (w : World) (r1 : TyRow w D (.slice pt tys.length ct) tys) (r2 : SRow w (.slice pn ns.length cn) ns) (r3 : ExRow w D d (.slice pp xs.length cp) xs) (rc : ExCap w D d (.slice pp xs.length cp) xs)
  (hs : zgx D d (A, K, N, S, tys, ns, xs)) (hf : ExFits D d xs) (ht : Tab w) (h5 : 4 ≤ w.heap.size) (h : zdn D d (A, K, N, S, tys, ns, xs) = .inr want) :
  Calls Tryz.prog 38 #[.agg #[.int .i64 A, .int .i64 K, .int .i64 N, .string ⟨S.toArray⟩, .slice pt tys.length ct, .slice pn ns.length cn, .slice pp xs.length cp], .string ⟨want.toArray⟩] w fun e w' => e = .returned (.bool true) ∧ Below w.heap.size w w' := by
 obtain ⟨O, hO⟩ : ∃ O : Obj, O = xBox A K N ⟨S.toArray⟩ pt pn pp tys.length ns.length xs.length ct cn cp := ⟨_, rfl⟩
 have hb : Below w.heap.size w (w.alloc O) := (Below.refl _ _).alloc (Nat.le_refl _) O
 have EX : Hid (Calls Tryz.prog 11 #[.agg #[.int .i64 A, .int .i64 K, .int .i64 N, .string ⟨S.toArray⟩, .slice pt tys.length ct, .slice pn ns.length cn, .slice pp xs.length cp]] (w.alloc O) fun e w' => e = .returned (.tuple #[.string ⟨want.toArray⟩, .int .i64 0]) ∧ Below w.heap.size w w') :=
  (Expr_any D d A K N S pt pn pp ct cn cp tys ns xs (w.alloc O) (TyRow.below hb D r1) (r2.below hb) (ExRow.below hb d r3) (ExCap.below hb d rc) hs hf (ht.below hb h5) (by simp; omega)).mono fun e w' ⟨he, hb'⟩ => ⟨by rw [he, h]; rfl, hb.trans (hb'.mono (by simp))⟩
 rw [hO] at EX
 clear hO hb r1 r2 r3 rc hs hf ht h
 go_enter Tryz.func38, Tryz.ntmps38
 go_wp2_with (go_at_call 11; refine (za0 EX).mono ?_; clear EX; rintro x w1 ⟨rfl, hb1⟩)
 go_ret
 exact ⟨by simp, hb1⟩
theorem zfq (k : Int) (A K N A' K' N' : Int) (S S' : ByteArray) (v1 v2 v3 u1 u2 u3 : Value) (w : World) :
  Calls Tryz.prog 39 #[.int .i64 k, .agg #[.int .i64 A, .int .i64 K, .int .i64 N, .string S, v1, v2, v3], .agg #[.int .i64 A', .int .i64 K', .int .i64 N', .string S', u1, u2, u3]] w fun e w' => ∃ g, e = .returned (.agg #[.int .i64 0, .int .i64 k, .int .i64 0, .string ⟨#[]⟩, .slice none 0 0, .slice none 0 0, .slice (some ⟨g, 0, none⟩) 2 2]) ∧ w.heap.size ≤ g ∧ w'.heap[g]? = some (.cells #[.int .i64 A, .int .i64 K, .int .i64 N, .string S, v1, v2, v3, .int .i64 A', .int .i64 K', .int .i64 N', .string S', u1, u2, u3] 28) ∧ Below w.heap.size w w' := by
 go_enter Tryz.func39, Tryz.ntmps39
 go_wp2
 refine bodyPost_ret (v := .agg #[.int .i64 0, .int .i64 k, .int .i64 0, .string ⟨#[]⟩, .slice none 0 0, .slice none 0 0, .slice (some ⟨w.heap.size + 1 + 1 + 1, 0, none⟩) 2 2]) (by simp [results, Tryz.results39, go_sem]) rfl ⟨w.heap.size + 1 + 1 + 1, rfl, by omega, ?_, ((((Below.refl _ _).alloc (Nat.le_refl _) _).alloc (by simp) _).alloc (by simp; omega) _).alloc (by simp; omega) _⟩
 have := zaj (((w.alloc (xBoxV A K N S v1 v2 v3)).alloc (xBoxV A' K' N' S' u1 u2 u3)).alloc (xBoxV 0 k 0 ⟨#[]⟩ (.slice none 0 0) (.slice none 0 0) (.slice (some ⟨w.heap.size + 1 + 1 + 1, 0, none⟩) 2 2))) (.cells #[.int .i64 A, .int .i64 K, .int .i64 N, .string S, v1, v2, v3, .int .i64 A', .int .i64 K', .int .i64 N', .string S', u1, u2, u3] 28)
 simpa [xBoxV] using this
def XRow (W : World) (d : Nat) (v : Value) (xs : List (Ex 0 d)) : Prop := ExRow W 0 d v xs ∧ ExCap W 0 d v xs
theorem XRow.nil (W : World) : ∀ d, XRow W d (.slice none 0 0) []
 | 0 => ⟨⟨none, 0, rfl⟩, trivial⟩
 | _ + 1 => ⟨⟨none, 0, rfl, fun j x h => by simp at h⟩, ⟨none, 0, rfl, by simp, fun j x h => by simp at h⟩⟩
theorem TyRow.nil (W : World) : ∀ d, TyRow W d (.slice none 0 0) []
 | 0 => ⟨none, 0, rfl⟩
 | _ + 1 => ⟨none, 0, rfl, fun j x h => by simp at h⟩
theorem SRow.nil (W : World) : SRow W (.slice none 0 0) [] := ⟨none, 0, rfl, fun j x h => by simp at h⟩
theorem BRow.nil (W : World) : BRow W (.slice none 0 0) [] := ⟨none, 0, rfl, fun j x h => by simp at h⟩
theorem XRow.one {W : World} {g d : Nat} {A K N : Int} {S : Bs} {v : Value} {xs : List (Ex 0 d)} (hg : W.heap[g]? = some (.cells #[.int .i64 A, .int .i64 K, .int .i64 N, .string ⟨S.toArray⟩, .slice none 0 0, .slice none 0 0, v] 28)) (h : XRow W d v xs) :
  XRow W (d + 1) (.slice (some ⟨g, 0, none⟩) 1 1) [(A, K, N, S, [], [], xs)] := by
 have hc := Lib.cell_of_heap hg
 refine ⟨⟨_, 1, rfl, fun j x hx => ?_⟩, ⟨_, 1, rfl, Nat.le_refl _, fun j x hx => ?_⟩⟩
 ·match j, hx with
  | 0, hx =>
   obtain rfl := Option.some.inj hx
   exact ⟨g, 0, _, _, _, rfl, hc 0, hc 1, hc 2, hc 3, hc 4, hc 5, hc 6, TyRow.nil W 0, SRow.nil W, h.1⟩
  | j + 1, hx => cases hx
 ·match j, hx with
  | 0, hx =>
   obtain rfl := Option.some.inj hx
   exact ⟨g, 0, _, rfl, hc 6, h.2⟩
  | j + 1, hx => cases hx
theorem XRow.two {W : World} {g d : Nat} {A K N A' K' N' : Int} {S S' : Bs} {v v' : Value} {xs xs' : List (Ex 0 d)} (hg : W.heap[g]? = some (.cells #[.int .i64 A, .int .i64 K, .int .i64 N, .string ⟨S.toArray⟩, .slice none 0 0, .slice none 0 0, v, .int .i64 A', .int .i64 K', .int .i64 N', .string ⟨S'.toArray⟩, .slice none 0 0, .slice none 0 0, v'] 28)) (h : XRow W d v xs) (h' : XRow W d v' xs') :
  XRow W (d + 1) (.slice (some ⟨g, 0, none⟩) 2 2) [(A, K, N, S, [], [], xs), (A', K', N', S', [], [], xs')] := by
 have hc := Lib.cell_of_heap hg
 refine ⟨⟨_, 2, rfl, fun j x hx => ?_⟩, ⟨_, 2, rfl, Nat.le_refl _, fun j x hx => ?_⟩⟩
 ·match j, hx with
  | 0, hx =>
   obtain rfl := Option.some.inj hx
   exact ⟨g, 0, _, _, _, rfl, hc 0, hc 1, hc 2, hc 3, hc 4, hc 5, hc 6, TyRow.nil W 0, SRow.nil W, h.1⟩
  | 1, hx =>
   obtain rfl := Option.some.inj hx
   exact ⟨g, 0, _, _, _, rfl, hc 7, hc 8, hc 9, hc 10, hc 11, hc 12, hc 13, TyRow.nil W 0, SRow.nil W, h'.1⟩
  | j + 2, hx => cases hx
 ·match j, hx with
  | 0, hx =>
   obtain rfl := Option.some.inj hx
   exact ⟨g, 0, _, rfl, hc 6, h.2⟩
  | 1, hx =>
   obtain rfl := Option.some.inj hx
   exact ⟨g, 0, _, rfl, hc 13, h'.2⟩
  | j + 2, hx => cases hx
theorem TyRow.one {W : World} {g d : Nat} {K : Int} {S : Bs} {vn ve v : Value} {ns : List Bs} {es : List Bool} {ts : List (Ty d)} (hg : W.heap[g]? = some (.cells #[.int .i64 K, .string ⟨S.toArray⟩, vn, ve, v] 53)) (hn : SRow W vn ns) (he : BRow W ve es) (h : TyRow W d v ts) :
  TyRow W (d + 1) (.slice (some ⟨g, 0, none⟩) 1 1) [(K, S, ns, es, ts)] := by
 have hc := Lib.cell_of_heap hg
 refine ⟨_, 1, rfl, fun j x hx => ?_⟩
 match j, hx with
 | 0, hx =>
  obtain rfl := Option.some.inj hx
  exact ⟨g, 0, _, _, _, rfl, hc 0, hc 1, hc 2, hc 3, hc 4, hn, he, h⟩
 | j + 1, hx => cases hx
theorem TyRow.two {W : World} {g d : Nat} {K K' : Int} {S S' : Bs} {vn ve v vn' ve' v' : Value} {ns ns' : List Bs} {es es' : List Bool} {ts ts' : List (Ty d)} (hg : W.heap[g]? = some (.cells #[.int .i64 K, .string ⟨S.toArray⟩, vn, ve, v, .int .i64 K', .string ⟨S'.toArray⟩, vn', ve', v'] 53)) (hn : SRow W vn ns) (he : BRow W ve es) (h : TyRow W d v ts) (hn' : SRow W vn' ns') (he' : BRow W ve' es') (h' : TyRow W d v' ts') :
  TyRow W (d + 1) (.slice (some ⟨g, 0, none⟩) 2 2) [(K, S, ns, es, ts), (K', S', ns', es', ts')] := by
 have hc := Lib.cell_of_heap hg
 refine ⟨_, 2, rfl, fun j x hx => ?_⟩
 match j, hx with
 | 0, hx =>
  obtain rfl := Option.some.inj hx
  exact ⟨g, 0, _, _, _, rfl, hc 0, hc 1, hc 2, hc 3, hc 4, hn, he, h⟩
 | 1, hx =>
  obtain rfl := Option.some.inj hx
  exact ⟨g, 0, _, _, _, rfl, hc 5, hc 6, hc 7, hc 8, hc 9, hn', he', h'⟩
 | j + 2, hx => cases hx
-- the trees of chapter 2's runs, and the answers
def tInt (d : Nat) : Ty (d + 1) := (1, [], [], [], [])
def tB (d : Nat) : Ty (d + 1) := (4, [66], [], [], [])
def tRec (ns : List Bs) : Ty 2 := (6, [], ns, [false, true], [tInt 0, tB 0])
def tP : Ty 3 := (5, [], [], [], [tRec [[97], [98]]])
def tF : Ty 2 := (7, [], [], [], [tInt 0, tB 0])
def tI : Ty 3 := (8, [], [[97]], [], [tF])
theorem ans_p : zj4 2 tP = .inr [42, 32, 123, 32, 97, 32, 105, 110, 116, 32, 59, 32, 101, 109, 98, 101, 100, 32, 98, 32, 66, 32, 59, 32, 125] := by decide +kernel
theorem ans_i : zj4 2 tI = .inr [105, 110, 116, 101, 114, 102, 97, 99, 101, 32, 123, 32, 97, 32, 40, 32, 105, 110, 116, 32, 41, 32, 66, 32, 59, 32, 125] := by decide +kernel
theorem ans_twice : zj4 1 (tRec [[97], [97]]) = .inl 1 := by decide +kernel
theorem ans_small : zj4 0 (4, [97], [], [], []) = .inl 1 := by decide +kernel
theorem zdb (d : Nat) (t : Ty (d + 1)) (r : List (Ty (d + 1))) : nodes (d + 1) (t :: r) = (if t.1 = 4 then 0 else 1) + nodes d t.2.2.2.2 + nodes (d + 1) r := by rw [nodes]
theorem zep : ∀ d, nodes d [] = 0
 | 0 => by rw [nodes]
 | _ + 1 => by rw [nodes]
theorem zi3 (d : Nat) (t : Ty (d + 1)) (r : List (Ty (d + 1))) : deep (d + 1) (t :: r) = max (1 + deep d t.2.2.2.2) (deep (d + 1) r) := by rw [deep]
theorem zjr : ∀ d, deep d [] = 0
 | 0 => by rw [deep]
 | _ + 1 => by rw [deep]
theorem pInt : (tInt 0).2.2.2.2 = [] := rfl
theorem pB : (tB 0).2.2.2.2 = [] := rfl
theorem pR (ns : List Bs) : (tRec ns).2.2.2.2 = [tInt 0, tB 0] := rfl
theorem pF : tF.2.2.2.2 = [tInt 0, tB 0] := rfl
theorem pP : tP.2.2.2.2 = [tRec [[97], [98]]] := rfl
theorem pI : tI.2.2.2.2 = [tF] := rfl
theorem nodes_1 : nodes 1 [tInt 0, tB 0] = 1 := by rw [zdb, zdb, pInt, pB, zep, zep]; rfl
theorem nodes_p : nodes 3 [tP] = 3 := by rw [zdb, pP, zdb, pR, nodes_1, zep, zep]; rfl
theorem nodes_i : nodes 3 [tI] = 3 := by rw [zdb, pI, zdb, pF, nodes_1, zep, zep]; rfl
theorem nodes_pi : nodes 3 [tP, tI] = 6 := by rw [zdb, nodes_i, pP, zdb, pR, nodes_1, zep]; rfl
theorem deep_p : deep 3 [tP] = 3 := by rw [zi3, pP, zi3, pR, zi3, zi3, pInt, pB, zjr, zjr, zjr, zjr]; rfl
theorem names_p : zdf 3 [] [tP] = [[66]] := by decide +kernel
def xN1 (d : Nat) (n : Int) : Ex 0 (d + 1) := (0, 1, n, [], [], [], [])
def xV (d : Nat) (s : Bs) : Ex 0 (d + 1) := (0, 4, 0, s, [], [], [])
def zjk (d : Nat) (k : Int) (x y : Ex 0 d) : Ex 0 (d + 1) := (0, k, 0, [], [], [], [x, y])
def xField (d : Nat) : Ex 0 (d + 2) := (0, 9, 0, [97], [], [], [xV d [120]])
theorem ans_1 : zdn 0 2 (zjk 2 15 (zjk 1 16 (xN1 0 1) (xN1 0 2)) (xN1 1 3)) = .inr [40, 32, 49, 32, 43, 32, 50, 32, 41, 32, 42, 32, 51] := by decide +kernel
theorem ans_2 : zdn 0 2 (zjk 2 16 (xN1 1 1) (zjk 1 15 (xN1 0 2) (xN1 0 3))) = .inr [49, 32, 43, 32, 50, 32, 42, 32, 51] := by decide +kernel
theorem ans_3 : zdn 0 2 (zjk 2 17 (xN1 1 1) (zjk 1 17 (xN1 0 2) (xN1 0 3))) = .inr [49, 32, 45, 32, 40, 32, 50, 32, 45, 32, 51, 32, 41] := by decide +kernel
theorem ans_4 : zdn 0 2 (0, 11, 0, [], [], [], [xField 0]) = .inr [40, 32, 120, 32, 46, 32, 97, 32, 41, 32, 40, 32, 41] := by decide +kernel
theorem ans_5 : zdn 0 1 (0, 10, 0, [97], [], [], [xV 0 [120]]) = .inr [120, 32, 46, 32, 97, 32, 40, 32, 41] := by decide +kernel
theorem ans_6 : zdn 0 2 (0, 14, 0, [], [], [], [zjk 1 18 (xV 0 [120]) (xV 0 [121])]) = .inr [110, 111, 116, 32, 40, 32, 120, 32, 61, 61, 32, 121, 32, 41] := by decide +kernel
theorem ans_7 : zdn 0 2 (zjk 2 18 (zjk 1 18 (xV 0 [120]) (xV 0 [121])) (xV 1 [122])) = .inr [40, 32, 120, 32, 61, 61, 32, 121, 32, 41, 32, 61, 61, 32, 122] := by decide +kernel
theorem ans_8 : zdn 0 0 (xN1 0 (-1)) = .inl 1 := by decide +kernel
theorem rightStmts_nil (w : World) : Calls Tryz.prog 63 #[.slice none 0 0, .int .i64 64] w fun e w' => e = .returned (.bool true) ∧ w' = w := by
 go_enter Tryz.func63, Tryz.ntmps63
 go_wp2
 go_loopw [9] (fun i wr => i = .int .i64 0 ∧ wr = w) (fun _ _ => 0)
 case atStart => exact ⟨rfl, rfl⟩
 case round =>
  obtain ⟨rfl, rfl⟩ := hrel
  go_wp2
  go_ret
  exact ⟨rfl, rfl⟩
theorem writeStmts_nil (v : Value) (w : World) : Calls Tryz.prog 64 #[v, .slice none 0 0] w fun e w' => e = .returned (.tuple #[]) ∧ w' = w := by
 go_enter Tryz.func64, Tryz.ntmps64
 go_wp2
 go_loopw [8] (fun i wr => i = .int .i64 0 ∧ wr = w) (fun _ _ => 0)
 case atStart => exact ⟨rfl, rfl⟩
 case round =>
  obtain ⟨rfl, rfl⟩ := hrel
  go_wp2
  exact bodyPost_end (v := .tuple #[]) (by simp [results, Tryz.results64, go_sem]) rfl ⟨rfl, rfl⟩
theorem Stmts_nil (w : World) (ht : Tab w) (h5 : 4 ≤ w.heap.size) : Calls Tryz.prog 18 #[.slice none 0 0] w fun e w' => e = .returned (.tuple #[.string ⟨#[]⟩, .int .i64 0]) ∧ Below w.heap.size w w' := by
 have ha : Below w.heap.size w (w.alloc (.cells #[.slice none 0 0] 108)) := (Below.refl _ _).alloc (Nat.le_refl _) _
 have TX : Hid (Calls Tryz.prog 56 #[.pointer (some ⟨w.heap.size, 0, none⟩)] (w.alloc (.cells #[.slice none 0 0] 108)) fun e w' => e = .returned (.tuple #[.string ⟨#[]⟩, .int .i64 0]) ∧ Below w.heap.size w w') :=
  (zjm w.heap.size w.heap.size 108 [] _ (WrAt.new w _ (by decide)) (by simp) zae (ht.below ha h5) (by simp; omega)).mono fun e w' ⟨h, hb⟩ => ⟨by rw [h]; rfl, ha.trans (hb.mono (by simp))⟩
 have RS := za3 (rightStmts_nil w)
 have WS := za3 (fun v W => writeStmts_nil v W)
 clear ha ht
 go_enter Tryz.func18, Tryz.ntmps18
 go_wp2_with (first
  | (go_at_call 63; refine (za0 RS).mono ?_; clear RS; rintro x w1 ⟨rfl, rfl⟩)
  | (go_at_call 64; refine (za0 WS _ _).mono ?_; clear WS; rintro x w2 ⟨rfl, rfl⟩)
  | (go_at_call 56; refine (za0 TX).mono ?_; clear TX; rintro x w3 ⟨rfl, hb3⟩))
 go_ret2
 exact ⟨rfl, hb3⟩
theorem al1 (w : World) (O : Obj) : Below w.heap.size w (w.alloc O) := (Below.refl _ _).alloc (Nat.le_refl _) _
theorem al2 (w : World) (O P : Obj) : Below w.heap.size w ((w.alloc O).alloc P) := (al1 w O).alloc (by simp) _
theorem al3 (w : World) (O P Q : Obj) : Below w.heap.size w (((w.alloc O).alloc P).alloc Q) := (al2 w O P).alloc (by simp; omega) _
theorem hp1 (w : World) (O : Obj) : (w.alloc O).heap[w.heap.size]? = some O := zaj w O
theorem hp2a (w : World) (O P : Obj) : ((w.alloc O).alloc P).heap[w.heap.size]? = some O := (((al1 (w.alloc O) P).block _ (by simp)).trans (hp1 w O))
theorem hp2b (w : World) (O P : Obj) : ((w.alloc O).alloc P).heap[w.heap.size + 1]? = some P := by simpa using zaj (w.alloc O) P
theorem hp3a (w : World) (O P Q : Obj) : (((w.alloc O).alloc P).alloc Q).heap[w.heap.size]? = some O := (((al1 ((w.alloc O).alloc P) Q).block _ (by simp; omega)).trans (hp2a w O P))
theorem hp3b (w : World) (O P Q : Obj) : (((w.alloc O).alloc P).alloc Q).heap[w.heap.size + 1]? = some P := (((al1 ((w.alloc O).alloc P) Q).block _ (by simp)).trans (hp2b w O P))
theorem hp3c (w : World) (O P Q : Obj) : (((w.alloc O).alloc P).alloc Q).heap[w.heap.size + 1 + 1]? = some Q := by simpa using zaj ((w.alloc O).alloc P) Q
theorem srow1 {W : World} {g : Nat} {s : Bs} {t : TypeId} (h : W.heap[g]? = some (.cells #[.string ⟨s.toArray⟩] t)) : SRow W (.slice (some ⟨g, 0, none⟩) 1 1) [s] :=
 ⟨_, 1, rfl, fun j x hx => by
  match j, hx with
  | 0, hx => obtain rfl := Option.some.inj hx; exact ⟨g, 0, rfl, Lib.cell_of_heap h 0⟩
  | j + 1, hx => cases hx⟩
theorem srow2 {W : World} {g : Nat} {s u : Bs} {t : TypeId} (h : W.heap[g]? = some (.cells #[.string ⟨s.toArray⟩, .string ⟨u.toArray⟩] t)) : SRow W (.slice (some ⟨g, 0, none⟩) 2 2) [s, u] :=
 ⟨_, 2, rfl, fun j x hx => by
  match j, hx with
  | 0, hx => obtain rfl := Option.some.inj hx; exact ⟨g, 0, rfl, Lib.cell_of_heap h 0⟩
  | 1, hx => obtain rfl := Option.some.inj hx; exact ⟨g, 0, rfl, Lib.cell_of_heap h 1⟩
  | j + 2, hx => cases hx⟩
theorem brow2 {W : World} {g : Nat} {s u : Bool} {t : TypeId} (h : W.heap[g]? = some (.cells #[.bool s, .bool u] t)) : BRow W (.slice (some ⟨g, 0, none⟩) 2 2) [s, u] :=
 ⟨_, 2, rfl, fun j x hx => by
  match j, hx with
  | 0, hx => obtain rfl := Option.some.inj hx; exact ⟨g, 0, rfl, Lib.cell_of_heap h 0⟩
  | 1, hx => obtain rfl := Option.some.inj hx; exact ⟨g, 0, rfl, Lib.cell_of_heap h 1⟩
  | j + 2, hx => cases hx⟩
theorem fit_int : zhy 0 (tInt 0) ∧ zck 0 (tInt 0).2.2.2.2 := ⟨⟨by decide, by decide, (fun _ hs => nomatch hs), by decide, by decide⟩, trivial⟩
theorem fit_B : zhy 0 (tB 0) ∧ zck 0 (tB 0).2.2.2.2 := ⟨⟨by decide, by decide, (fun _ hs => nomatch hs), by decide, by decide⟩, trivial⟩
theorem zgr {d : Nat} {t : Ty (d + 1)} {ts : List (Ty (d + 1))} (h : zhy d t ∧ zck d t.2.2.2.2) (k : zck (d + 1) ts) (hl : ts.length < 10) : zck (d + 1) (t :: ts) :=
 ⟨by simp; omega, fun u hu => by
  rcases List.mem_cons.1 hu with rfl | hu
  ·exact h
  ·exact k.2 u hu⟩
theorem zlk : ∀ d, zck d []
 | 0 => trivial
 | _ + 1 => ⟨Nat.zero_le _, (fun _ ht => nomatch ht)⟩
theorem fits_two : zck 1 [tInt 0, tB 0] := zgr fit_int (zgr fit_B (zlk 1) (by decide)) (by decide)
theorem small_names : ∀ s ∈ ([[97], [98]] : List Bs), s.length ≤ 35184372088832 := fun s hs => by
 simp at hs
 rcases hs with rfl | rfl <;> decide
theorem small_names' : ∀ s ∈ ([[97], [97]] : List Bs), s.length ≤ 35184372088832 := fun s hs => by
 simp at hs
 subst hs; decide
theorem small_one : ∀ s ∈ ([[97]] : List Bs), s.length ≤ 35184372088832 := fun s hs => by
 simp at hs
 subst hs; decide
theorem fit_rec : zhy 1 (tRec [[97], [98]]) ∧ zck 1 (tRec [[97], [98]]).2.2.2.2 := ⟨⟨by decide, by decide, small_names, by decide, by decide⟩, fits_two⟩
theorem fit_rec' : zhy 1 (tRec [[97], [97]]) ∧ zck 1 (tRec [[97], [97]]).2.2.2.2 := ⟨⟨by decide, by decide, small_names', by decide, by decide⟩, fits_two⟩
theorem fit_F : zhy 1 tF ∧ zck 1 tF.2.2.2.2 := ⟨⟨by decide, by decide, (fun _ hs => nomatch hs), by decide, by decide⟩, fits_two⟩
theorem fit_P : zhy 2 tP ∧ zck 2 tP.2.2.2.2 := ⟨⟨by decide, by decide, (fun _ hs => nomatch hs), by decide, by decide⟩, zgr fit_rec (zlk 2) (by decide)⟩
theorem fit_I : zhy 2 tI ∧ zck 2 tI.2.2.2.2 := ⟨⟨by decide, by decide, small_one, by decide, by decide⟩, zgr fit_F (zlk 2) (by decide)⟩
def KnowsP (g : Nat) (W : World) : Prop := TyRow W 2 (.slice (some ⟨g, 0, none⟩) 1 1) [tRec [[97], [98]]]
def KnowsI (g h : Nat) (W : World) : Prop := TyRow W 2 (.slice (some ⟨g, 0, none⟩) 1 1) [tF] ∧ SRow W (.slice (some ⟨h, 0, none⟩) 1 1) [[97]]
theorem KnowsP.below {g : Nat} {w w' : World} (h : KnowsP g w) (hb : Below w.heap.size w w') : KnowsP g w' := TyRow.below hb 2 h
theorem KnowsI.below {g k : Nat} {w w' : World} (h : KnowsI g k w) (hb : Below w.heap.size w w') : KnowsI g k w' := ⟨TyRow.below hb 2 h.1, h.2.below hb⟩
theorem type_p {g : Nat} {W : World} (h : KnowsP g W) (ht : Tab W) (h5 : 4 ≤ W.heap.size) : Calls Tryz.prog 32 #[.agg #[.int .i64 5, .string ⟨#[]⟩, .slice none 0 0, .slice none 0 0, .slice (some ⟨g, 0, none⟩) 1 1]] W fun e w' => e = .returned (.tuple #[.string ⟨#[42, 32, 123, 32, 97, 32, 105, 110, 116, 32, 59, 32, 101, 109, 98, 101, 100, 32, 98, 32, 66, 32, 59, 32, 125]⟩, .int .i64 0]) ∧ Below W.heap.size W w' :=
 (zjp 2 _ tP W ⟨none, none, _, 0, 0, 1, rfl, SRow.nil W, BRow.nil W, h⟩ fit_P.1 fit_P.2 ht h5).mono fun e w' ⟨he, hb⟩ => ⟨by rw [he, ans_p]; rfl, hb⟩
theorem type_i {g k : Nat} {W : World} (h : KnowsI g k W) (ht : Tab W) (h5 : 4 ≤ W.heap.size) : Calls Tryz.prog 32 #[.agg #[.int .i64 8, .string ⟨#[]⟩, .slice (some ⟨k, 0, none⟩) 1 1, .slice none 0 0, .slice (some ⟨g, 0, none⟩) 1 1]] W fun e w' => e = .returned (.tuple #[.string ⟨#[105, 110, 116, 101, 114, 102, 97, 99, 101, 32, 123, 32, 97, 32, 40, 32, 105, 110, 116, 32, 41, 32, 66, 32, 59, 32, 125]⟩, .int .i64 0]) ∧ Below W.heap.size W w' :=
 (zjp 2 _ tI W ⟨_, none, _, 1, 0, 1, rfl, h.2, BRow.nil W, h.1⟩ fit_I.1 fit_I.2 ht h5).mono fun e w' ⟨he, hb⟩ => ⟨by rw [he, ans_i]; rfl, hb⟩
theorem type_small (W : World) (ht : Tab W) (h5 : 4 ≤ W.heap.size) : Calls Tryz.prog 32 #[.agg #[.int .i64 4, .string ⟨#[97]⟩, .slice none 0 0, .slice none 0 0, .slice none 0 0]] W fun e w' => e = .returned (.tuple #[.string ⟨#[]⟩, .int .i64 1]) ∧ Below W.heap.size W w' :=
 (zjp 0 _ (4, [97], [], [], []) W ⟨none, none, none, 0, 0, 0, rfl, SRow.nil W, BRow.nil W, TyRow.nil W 0⟩ ⟨by decide, by decide, (fun _ hs => nomatch hs), by decide, by decide⟩ trivial ht h5).mono fun e w' ⟨he, hb⟩ => ⟨by rw [he, ans_small]; rfl, hb⟩
theorem type_twice {g k l : Nat} {W : World} (h1 : SRow W (.slice (some ⟨k, 0, none⟩) 2 2) [[97], [97]]) (h2 : BRow W (.slice (some ⟨l, 0, none⟩) 2 2) [false, true]) (h3 : TyRow W 1 (.slice (some ⟨g, 0, none⟩) 2 2) [tInt 0, tB 0]) (ht : Tab W) (h5 : 4 ≤ W.heap.size) : Calls Tryz.prog 32 #[.agg #[.int .i64 6, .string ⟨#[]⟩, .slice (some ⟨k, 0, none⟩) 2 2, .slice (some ⟨l, 0, none⟩) 2 2, .slice (some ⟨g, 0, none⟩) 2 2]] W fun e w' => e = .returned (.tuple #[.string ⟨#[]⟩, .int .i64 1]) ∧ Below W.heap.size W w' :=
 (zjp 1 _ (tRec [[97], [97]]) W ⟨_, _, _, 2, 2, 2, rfl, h1, h2, h3⟩ fit_rec'.1 fit_rec'.2 ht h5).mono fun e w' ⟨he, hb⟩ => ⟨by rw [he, ans_twice]; rfl, hb⟩
theorem row_p {g k : Nat} {W : World} (h : KnowsP g W) (hg : W.heap[k]? = some (.cells #[.int .i64 5, .string ⟨#[]⟩, .slice none 0 0, .slice none 0 0, .slice (some ⟨g, 0, none⟩) 1 1] 53)) : TyRow W 3 (.slice (some ⟨k, 0, none⟩) 1 1) [tP] := TyRow.one hg (SRow.nil W) (BRow.nil W) h
theorem row_i {g n k : Nat} {W : World} (h : KnowsI g n W) (hg : W.heap[k]? = some (.cells #[.int .i64 8, .string ⟨#[]⟩, .slice (some ⟨n, 0, none⟩) 1 1, .slice none 0 0, .slice (some ⟨g, 0, none⟩) 1 1] 53)) : TyRow W 3 (.slice (some ⟨k, 0, none⟩) 1 1) [tI] := TyRow.one hg h.2 (BRow.nil W) h.1
theorem row_pi {g g' n k : Nat} {W : World} (hp : KnowsP g' W) (h : KnowsI g n W) (hg : W.heap[k]? = some (.cells #[.int .i64 5, .string ⟨#[]⟩, .slice none 0 0, .slice none 0 0, .slice (some ⟨g', 0, none⟩) 1 1, .int .i64 8, .string ⟨#[]⟩, .slice (some ⟨n, 0, none⟩) 1 1, .slice none 0 0, .slice (some ⟨g, 0, none⟩) 1 1] 53)) : TyRow W 3 (.slice (some ⟨k, 0, none⟩) 2 2) [tP, tI] := TyRow.two hg (SRow.nil W) (BRow.nil W) hp h.2 (BRow.nil W) h.1
theorem bon {u v w : World} (h : Below u.heap.size u v) (k : Below v.heap.size v w) : Below u.heap.size u w := h.trans (k.mono h.size)
theorem kp {v w : World} {g : Nat} {O : Obj} (k : Below v.heap.size v w) (h : v.heap[g]? = some O) : w.heap[g]? = some O := (k.block g (Array.getElem?_eq_some_iff.1 h).1).trans h
theorem tc5 {W : World} {g : Nat} {a b c d e : Value} {t : TypeId} (h : W.heap[g]? = some (.cells #[a, b, c, d, e] t)) : W.cell? ⟨g, 0, none⟩ = some a ∧ W.cell? ⟨g, 1, none⟩ = some b ∧ W.cell? ⟨g, 2, none⟩ = some c ∧ W.cell? ⟨g, 3, none⟩ = some d ∧ W.cell? ⟨g, 4, none⟩ = some e :=
 ⟨by rw [Lib.cell_of_heap h]; rfl, by rw [Lib.cell_of_heap h]; rfl, by rw [Lib.cell_of_heap h]; rfl, by rw [Lib.cell_of_heap h]; rfl, by rw [Lib.cell_of_heap h]; rfl⟩
theorem tc7 {W : World} {g : Nat} {a b c d e f i : Value} {t : TypeId} (h : W.heap[g]? = some (.cells #[a, b, c, d, e, f, i] t)) : W.cell? ⟨g, 0, none⟩ = some a ∧ W.cell? ⟨g, 1, none⟩ = some b ∧ W.cell? ⟨g, 2, none⟩ = some c ∧ W.cell? ⟨g, 3, none⟩ = some d ∧ W.cell? ⟨g, 4, none⟩ = some e ∧ W.cell? ⟨g, 5, none⟩ = some f ∧ W.cell? ⟨g, 6, none⟩ = some i :=
 ⟨by rw [Lib.cell_of_heap h]; rfl, by rw [Lib.cell_of_heap h]; rfl, by rw [Lib.cell_of_heap h]; rfl, by rw [Lib.cell_of_heap h]; rfl, by rw [Lib.cell_of_heap h]; rfl, by rw [Lib.cell_of_heap h]; rfl, by rw [Lib.cell_of_heap h]; rfl⟩
theorem told_x {W : World} {d : Nat} {K N : Int} {S want : Bs} {pp : Option Addr} {cp : Nat} {xs : List (Ex 0 d)} (h : XRow W d (.slice pp xs.length cp) xs) (hs : zgx 0 d (0, K, N, S, [], [], xs)) (hf : ExFits 0 d xs) (ht : Tab W) (h5 : 4 ≤ W.heap.size) (ha : zdn 0 d (0, K, N, S, [], [], xs) = .inr want) :
  Calls Tryz.prog 38 #[.agg #[.int .i64 0, .int .i64 K, .int .i64 N, .string ⟨S.toArray⟩, .slice none 0 0, .slice none 0 0, .slice pp xs.length cp], .string ⟨want.toArray⟩] W fun e w' => e = .returned (.bool true) ∧ Below W.heap.size W w' :=
 told_yes 0 d 0 K N S want none none pp 0 0 cp [] [] xs W (TyRow.nil W 0) (SRow.nil W) h.1 h.2 hs hf ht h5 ha
theorem efn : ∀ d, ExFits 0 d []
 | 0 => trivial
 | _ + 1 => ⟨Nat.zero_le _, (fun _ h => nomatch h)⟩
theorem efc {d : Nat} {x : Ex 0 (d + 1)} {xs : List (Ex 0 (d + 1))} (h : zgx 0 d x ∧ ExFits 0 d (xPs x)) (k : ExFits 0 (d + 1) xs) (hl : xs.length < 10) : ExFits 0 (d + 1) (x :: xs) :=
 ⟨by simp; omega, fun u hu => by
  rcases List.mem_cons.1 hu with rfl | hu
  ·exact h
  ·exact k.2 u hu⟩
theorem zl6 (d : Nat) (n : Int) (h0 : -9223372036854775808 ≤ n) (h1 : n ≤ 9223372036854775807) : zgx 0 d (xN1 d n) ∧ ExFits 0 d (xPs (xN1 d n)) := ⟨⟨Nat.zero_le _, Nat.zero_le _, trivial, Nat.zero_le _, (fun _ h => nomatch h), Nat.zero_le _, h0, h1⟩, efn d⟩
theorem zl1 (d : Nat) (s : Bs) (h : s.length ≤ 35184372088832) : zgx 0 d (xV d s) ∧ ExFits 0 d (xPs (xV d s)) := ⟨⟨h, Nat.zero_le _, trivial, Nat.zero_le _, (fun _ h => nomatch h), Nat.zero_le _, (show (-9223372036854775808 : Int) ≤ 0 by decide), (show (0 : Int) ≤ 9223372036854775807 by decide)⟩, efn d⟩
theorem ef_any {d : Nat} (k : Int) (s : Bs) (xs : List (Ex 0 d)) (hs : s.length ≤ 35184372088832) (hl : xs.length < 10) (h : ExFits 0 d xs) : zgx 0 d (0, k, 0, s, [], [], xs) ∧ ExFits 0 d xs := ⟨⟨hs, Nat.zero_le _, trivial, Nat.zero_le _, (fun _ h => nomatch h), (show xs.length ≤ 1000000 by omega), (show (-9223372036854775808 : Int) ≤ 0 by decide), (show (0 : Int) ≤ 9223372036854775807 by decide)⟩, h⟩
theorem zkh {d : Nat} (k : Int) {x y : Ex 0 (d + 1)} (hx : zgx 0 d x ∧ ExFits 0 d (xPs x)) (hy : zgx 0 d y ∧ ExFits 0 d (xPs y)) : zgx 0 (d + 1) (zjk (d + 1) k x y) ∧ ExFits 0 (d + 1) [x, y] := ef_any k [] [x, y] (by decide) (by simp) (efc hx (efc hy (efn _) (by simp)) (by simp))
theorem told_1 {W : World} {g h : Nat} (H1 : W.heap[g]? = some (.cells #[.int .i64 0, .int .i64 1, .int .i64 1, .string ⟨#[]⟩, .slice none 0 0, .slice none 0 0, .slice none 0 0, .int .i64 0, .int .i64 1, .int .i64 2, .string ⟨#[]⟩, .slice none 0 0, .slice none 0 0, .slice none 0 0] 28))
  (H2 : W.heap[h]? = some (.cells #[.int .i64 0, .int .i64 16, .int .i64 0, .string ⟨#[]⟩, .slice none 0 0, .slice none 0 0, .slice (some ⟨g, 0, none⟩) 2 2, .int .i64 0, .int .i64 1, .int .i64 3, .string ⟨#[]⟩, .slice none 0 0, .slice none 0 0, .slice none 0 0] 28)) (ht : Tab W) (h5 : 4 ≤ W.heap.size) :
  Calls Tryz.prog 38 #[.agg #[.int .i64 0, .int .i64 15, .int .i64 0, .string ⟨#[]⟩, .slice none 0 0, .slice none 0 0, .slice (some ⟨h, 0, none⟩) 2 2], .string ⟨#[40, 32, 49, 32, 43, 32, 50, 32, 41, 32, 42, 32, 51]⟩] W fun e w' => e = .returned (.bool true) ∧ Below W.heap.size W w' := by
 have h1 : XRow W 1 (.slice (some ⟨g, 0, none⟩) 2 2) [xN1 0 1, xN1 0 2] := XRow.two H1 (XRow.nil W 0) (XRow.nil W 0)
 have h2 : XRow W 2 (.slice (some ⟨h, 0, none⟩) 2 2) [zjk 1 16 (xN1 0 1) (xN1 0 2), xN1 1 3] := XRow.two H2 h1 (XRow.nil W 1)
 have hf := zkh (d := 1) 15 (x := zjk 1 16 (xN1 0 1) (xN1 0 2)) (y := xN1 1 3) (zkh (d := 0) 16 (zl6 0 1 (by decide) (by decide)) (zl6 0 2 (by decide) (by decide))) (zl6 1 3 (by decide) (by decide))
 exact told_x (xs := [zjk 1 16 (xN1 0 1) (xN1 0 2), xN1 1 3]) h2 hf.1 hf.2 ht h5 ans_1
theorem told_23 {W : World} {g h : Nat} {k k' : Int} {want : Bs} (H1 : W.heap[g]? = some (.cells #[.int .i64 0, .int .i64 1, .int .i64 2, .string ⟨#[]⟩, .slice none 0 0, .slice none 0 0, .slice none 0 0, .int .i64 0, .int .i64 1, .int .i64 3, .string ⟨#[]⟩, .slice none 0 0, .slice none 0 0, .slice none 0 0] 28))
  (H2 : W.heap[h]? = some (.cells #[.int .i64 0, .int .i64 1, .int .i64 1, .string ⟨#[]⟩, .slice none 0 0, .slice none 0 0, .slice none 0 0, .int .i64 0, .int .i64 k', .int .i64 0, .string ⟨#[]⟩, .slice none 0 0, .slice none 0 0, .slice (some ⟨g, 0, none⟩) 2 2] 28)) (ht : Tab W) (h5 : 4 ≤ W.heap.size)
  (ha : zdn 0 2 (zjk 2 k (xN1 1 1) (zjk 1 k' (xN1 0 2) (xN1 0 3))) = .inr want) :
  Calls Tryz.prog 38 #[.agg #[.int .i64 0, .int .i64 k, .int .i64 0, .string ⟨#[]⟩, .slice none 0 0, .slice none 0 0, .slice (some ⟨h, 0, none⟩) 2 2], .string ⟨want.toArray⟩] W fun e w' => e = .returned (.bool true) ∧ Below W.heap.size W w' := by
 have h1 : XRow W 1 (.slice (some ⟨g, 0, none⟩) 2 2) [xN1 0 2, xN1 0 3] := XRow.two H1 (XRow.nil W 0) (XRow.nil W 0)
 have h2 : XRow W 2 (.slice (some ⟨h, 0, none⟩) 2 2) [xN1 1 1, zjk 1 k' (xN1 0 2) (xN1 0 3)] := XRow.two H2 (XRow.nil W 1) h1
 have hf := zkh (d := 1) k (x := xN1 1 1) (y := zjk 1 k' (xN1 0 2) (xN1 0 3)) (zl6 1 1 (by decide) (by decide)) (zkh (d := 0) k' (zl6 0 2 (by decide) (by decide)) (zl6 0 3 (by decide) (by decide)))
 exact told_x (xs := [xN1 1 1, zjk 1 k' (xN1 0 2) (xN1 0 3)]) h2 hf.1 hf.2 ht h5 ha
abbrev varO (s : ByteArray) : Obj := .cells #[.int .i64 0, .int .i64 4, .int .i64 0, .string s, .slice none 0 0, .slice none 0 0, .slice none 0 0] 28
theorem told_5 {W : World} {g : Nat} (H1 : W.heap[g]? = some (varO ⟨#[120]⟩)) (ht : Tab W) (h5 : 4 ≤ W.heap.size) :
  Calls Tryz.prog 38 #[.agg #[.int .i64 0, .int .i64 10, .int .i64 0, .string ⟨#[97]⟩, .slice none 0 0, .slice none 0 0, .slice (some ⟨g, 0, none⟩) 1 1], .string ⟨#[120, 32, 46, 32, 97, 32, 40, 32, 41]⟩] W fun e w' => e = .returned (.bool true) ∧ Below W.heap.size W w' := by
 have h1 : XRow W 1 (.slice (some ⟨g, 0, none⟩) 1 1) [xV 0 [120]] := XRow.one (S := [120]) H1 (XRow.nil W 0)
 have hf := ef_any 10 [97] [xV 0 [120]] (by decide) (by simp) (efc (zl1 0 [120] (by decide)) (efn _) (by simp))
 exact told_x (S := [97]) (xs := [xV 0 [120]]) h1 hf.1 hf.2 ht h5 ans_5
theorem told_4 {W : World} {g h : Nat} (H1 : W.heap[g]? = some (varO ⟨#[120]⟩)) (H2 : W.heap[h]? = some (.cells #[.int .i64 0, .int .i64 9, .int .i64 0, .string ⟨#[97]⟩, .slice none 0 0, .slice none 0 0, .slice (some ⟨g, 0, none⟩) 1 1] 28)) (ht : Tab W) (h5 : 4 ≤ W.heap.size) :
  Calls Tryz.prog 38 #[.agg #[.int .i64 0, .int .i64 11, .int .i64 0, .string ⟨#[]⟩, .slice none 0 0, .slice none 0 0, .slice (some ⟨h, 0, none⟩) 1 1], .string ⟨#[40, 32, 120, 32, 46, 32, 97, 32, 41, 32, 40, 32, 41]⟩] W fun e w' => e = .returned (.bool true) ∧ Below W.heap.size W w' := by
 have h1 : XRow W 1 (.slice (some ⟨g, 0, none⟩) 1 1) [xV 0 [120]] := XRow.one (S := [120]) H1 (XRow.nil W 0)
 have h2 : XRow W 2 (.slice (some ⟨h, 0, none⟩) 1 1) [xField 0] := XRow.one (S := [97]) H2 h1
 have hf := ef_any 11 [] [xField 0] (by decide) (by simp) (efc (ef_any 9 [97] [xV 0 [120]] (by decide) (by simp) (efc (zl1 0 [120] (by decide)) (efn _) (by simp))) (efn _) (by simp))
 exact told_x (xs := [xField 0]) h2 hf.1 hf.2 ht h5 ans_4
abbrev xyO : Obj := .cells #[.int .i64 0, .int .i64 4, .int .i64 0, .string ⟨#[120]⟩, .slice none 0 0, .slice none 0 0, .slice none 0 0, .int .i64 0, .int .i64 4, .int .i64 0, .string ⟨#[121]⟩, .slice none 0 0, .slice none 0 0, .slice none 0 0] 28
theorem told_6 {W : World} {g h : Nat} (H1 : W.heap[g]? = some xyO) (H2 : W.heap[h]? = some (.cells #[.int .i64 0, .int .i64 18, .int .i64 0, .string ⟨#[]⟩, .slice none 0 0, .slice none 0 0, .slice (some ⟨g, 0, none⟩) 2 2] 28)) (ht : Tab W) (h5 : 4 ≤ W.heap.size) :
  Calls Tryz.prog 38 #[.agg #[.int .i64 0, .int .i64 14, .int .i64 0, .string ⟨#[]⟩, .slice none 0 0, .slice none 0 0, .slice (some ⟨h, 0, none⟩) 1 1], .string ⟨#[110, 111, 116, 32, 40, 32, 120, 32, 61, 61, 32, 121, 32, 41]⟩] W fun e w' => e = .returned (.bool true) ∧ Below W.heap.size W w' := by
 have h1 : XRow W 1 (.slice (some ⟨g, 0, none⟩) 2 2) [xV 0 [120], xV 0 [121]] := XRow.two (S := [120]) (S' := [121]) H1 (XRow.nil W 0) (XRow.nil W 0)
 have h2 : XRow W 2 (.slice (some ⟨h, 0, none⟩) 1 1) [zjk 1 18 (xV 0 [120]) (xV 0 [121])] := XRow.one (S := []) H2 h1
 have hf := ef_any 14 [] [zjk 1 18 (xV 0 [120]) (xV 0 [121])] (by decide) (by simp) (efc (zkh (d := 0) 18 (zl1 0 [120] (by decide)) (zl1 0 [121] (by decide))) (efn _) (by simp))
 exact told_x (xs := [zjk 1 18 (xV 0 [120]) (xV 0 [121])]) h2 hf.1 hf.2 ht h5 ans_6
theorem told_7 {W : World} {g h : Nat} (H1 : W.heap[g]? = some xyO) (H2 : W.heap[h]? = some (.cells #[.int .i64 0, .int .i64 18, .int .i64 0, .string ⟨#[]⟩, .slice none 0 0, .slice none 0 0, .slice (some ⟨g, 0, none⟩) 2 2, .int .i64 0, .int .i64 4, .int .i64 0, .string ⟨#[122]⟩, .slice none 0 0, .slice none 0 0, .slice none 0 0] 28)) (ht : Tab W) (h5 : 4 ≤ W.heap.size) :
  Calls Tryz.prog 38 #[.agg #[.int .i64 0, .int .i64 18, .int .i64 0, .string ⟨#[]⟩, .slice none 0 0, .slice none 0 0, .slice (some ⟨h, 0, none⟩) 2 2], .string ⟨#[40, 32, 120, 32, 61, 61, 32, 121, 32, 41, 32, 61, 61, 32, 122]⟩] W fun e w' => e = .returned (.bool true) ∧ Below W.heap.size W w' := by
 have h1 : XRow W 1 (.slice (some ⟨g, 0, none⟩) 2 2) [xV 0 [120], xV 0 [121]] := XRow.two (S := [120]) (S' := [121]) H1 (XRow.nil W 0) (XRow.nil W 0)
 have h2 : XRow W 2 (.slice (some ⟨h, 0, none⟩) 2 2) [zjk 1 18 (xV 0 [120]) (xV 0 [121]), xV 1 [122]] := XRow.two (S := []) (S' := [122]) H2 h1 (XRow.nil W 1)
 have hf := zkh (d := 1) 18 (x := zjk 1 18 (xV 0 [120]) (xV 0 [121])) (y := xV 1 [122]) (zkh (d := 0) 18 (zl1 0 [120] (by decide)) (zl1 0 [121] (by decide))) (zl1 1 [122] (by decide))
 exact told_x (xs := [zjk 1 18 (xV 0 [120]) (xV 0 [121]), xV 1 [122]]) h2 hf.1 hf.2 ht h5 ans_7
theorem expr_neg1 (W : World) (ht : Tab W) (h5 : 4 ≤ W.heap.size) : Calls Tryz.prog 11 #[.agg #[.int .i64 0, .int .i64 1, .int .i64 (-1), .string ⟨#[]⟩, .slice none 0 0, .slice none 0 0, .slice none 0 0]] W fun e w' => e = .returned (.tuple #[.string ⟨#[]⟩, .int .i64 1]) ∧ Below W.heap.size W w' :=
 (Expr_any 0 0 0 1 (-1) [] none none none 0 0 0 [] [] [] W (TyRow.nil W 0) (SRow.nil W) (XRow.nil W 0).1 (XRow.nil W 0).2 (zl6 0 (-1) (by decide) (by decide)).1 (efn 0) ht h5).mono fun e w' ⟨he, hb⟩ => ⟨by rw [he, show zdn 0 0 (0, 1, -1, [], [], [], []) = .inl 1 from ans_8]; rfl, hb⟩
end Go.Proofs.YtmpbbmfbgcpplaaGreatDoor
