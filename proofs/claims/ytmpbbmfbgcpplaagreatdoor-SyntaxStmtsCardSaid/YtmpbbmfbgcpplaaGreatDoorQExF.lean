import Derived.Test.YtmpbbmfbgcpplaaGreatDoorQExD
import Derived.Test.YtmpbbmfbgcpplaaGreatDoorQExE
import Derived.Test.YtmpbbmfbgcpplaaGreatDoorQExTwo
import Derived.Test.YtmpbbmfbgcpplaaGreatDoorQSynE
import Derived.Test.YtmpbbmfbgcpplaaGreatDoorQExB
set_option maxHeartbeats 4000000
set_option maxRecDepth 100000
namespace Go.Proofs.YtmpbbmfbgcpplaaGreatDoor
open Go Go.RowKit Lx
theorem expr_two (w0 : World) (b : Nat) (T : TypeId) (A K N : Int) (S : ByteArray) (pt pn pp : Option Addr) (nt n q ct cn cp : Nat) (tk : List Tok) (hP : Puts w0 b T (fun _ => True) 85 #[.pointer (some ⟨b, 0, none⟩), .agg #[.int .i64 A, .int .i64 K, .int .i64 N, .string S, .slice pt nt ct, .slice pn n cn, .slice pp q cp]] tk) (h2 : twoB K = true) :
  Puts w0 b T (fun _ => True) 55 #[.pointer (some ⟨b, 0, none⟩), .agg #[.int .i64 A, .int .i64 K, .int .i64 N, .string S, .slice pt nt ct, .slice pn n cn, .slice pp q cp]] (tk) := by
 intro ts w hw hts hb0 _
 obtain ⟨ok0, hS⟩ := zht hw hts hb0 #[.int .i64 A, .int .i64 K, .int .i64 N, .string S, .slice pt nt ct, .slice pn n cn, .slice pp q cp] 28 (by decide)
 have TW := za3 (fun W => zh9 K W)
 rw [h2] at TW
 have P0 := za3 (hP.ok (fun _ _ => trivial) hS ok0)
 clear ok0 hS hw hb0 hts hP
 go_enter Tryz.func55, Tryz.ntmps55
 go_wp2_with (first | (go_at_call 84; refine (za0 TW _).mono ?_; clear TW; rintro x w4 ⟨rfl, rfl⟩) | (go_at_call 85; refine (za0 P0).mono ?_; clear P0; rintro x wa ⟨rfl, ok⟩))
 exact bodyPost_end (v := .tuple #[]) (by simp [results, Tryz.results55, go_sem]) rfl (ok.fin rfl)
theorem zfz (w0 : World) (b : Nat) (T : TypeId) (A K N : Int) (S : ByteArray) (pt pn pp : Option Addr) (nt n q ct cn cp : Nat) (tk : List Tok) (hP : Puts w0 b T (fun _ => True) 86 #[.pointer (some ⟨b, 0, none⟩), .agg #[.int .i64 A, .int .i64 K, .int .i64 N, .string S, .slice pt nt ct, .slice pn n cn, .slice pp q cp]] tk) (h2 : twoB K = false) (h3 : zea K = true) :
  Puts w0 b T (fun _ => True) 55 #[.pointer (some ⟨b, 0, none⟩), .agg #[.int .i64 A, .int .i64 K, .int .i64 N, .string S, .slice pt nt ct, .slice pn n cn, .slice pp q cp]] (tk) := by
 intro ts w hw hts hb0 _
 obtain ⟨ok0, hS⟩ := zht hw hts hb0 #[.int .i64 A, .int .i64 K, .int .i64 N, .string S, .slice pt nt ct, .slice pn n cn, .slice pp q cp] 28 (by decide)
 have TW := za3 (fun W => zh9 K W)
 rw [h2] at TW
 have LD := za3 (fun W => zg1 K W)
 rw [h3] at LD
 have P0 := za3 (hP.ok (fun _ _ => trivial) hS ok0)
 clear ok0 hS hw hb0 hts hP
 go_enter Tryz.func55, Tryz.ntmps55
 go_wp2_with (first | (go_at_call 84; refine (za0 TW _).mono ?_; clear TW; rintro x w4 ⟨rfl, rfl⟩) | (go_at_call 83; refine (za0 LD _).mono ?_; clear LD; rintro x w5 ⟨rfl, rfl⟩) | (go_at_call 86; refine (za0 P0).mono ?_; clear P0; rintro x wa ⟨rfl, ok⟩))
 exact bodyPost_end (v := .tuple #[]) (by simp [results, Tryz.results55, go_sem]) rfl (ok.fin rfl)
theorem zdz (w0 : World) (b : Nat) (T : TypeId) (A K N : Int) (S : ByteArray) (pt pn pp : Option Addr) (nt n q ct cn cp : Nat) (tk : List Tok) (hP : Puts w0 b T (fun _ => True) 90 #[.pointer (some ⟨b, 0, none⟩), .agg #[.int .i64 A, .int .i64 K, .int .i64 N, .string S, .slice pt nt ct, .slice pn n cn, .slice pp q cp]] tk) (h2 : twoB K = false) (h3 : zea K = false) (h4 : K ≠ 13) (h5 : K ≠ 14) :
  Puts w0 b T (fun _ => True) 55 #[.pointer (some ⟨b, 0, none⟩), .agg #[.int .i64 A, .int .i64 K, .int .i64 N, .string S, .slice pt nt ct, .slice pn n cn, .slice pp q cp]] (tk) := by
 intro ts w hw hts hb0 _
 obtain ⟨ok0, hS⟩ := zht hw hts hb0 #[.int .i64 A, .int .i64 K, .int .i64 N, .string S, .slice pt nt ct, .slice pn n cn, .slice pp q cp] 28 (by decide)
 have TW := za3 (fun W => zh9 K W)
 rw [h2] at TW
 have LD := za3 (fun W => zg1 K W)
 rw [h3] at LD
 have P0 := za3 (hP.ok (fun _ _ => trivial) hS ok0)
 have h4' : (K == 13) = false := beq_eq_false_iff_ne.2 h4
 have h5' : (K == 14) = false := beq_eq_false_iff_ne.2 h5
 clear ok0 hS hw hb0 hts hP
 go_enter Tryz.func55, Tryz.ntmps55
 go_wp2_with (first | (go_at_call 84; refine (za0 TW _).mono ?_; clear TW; rintro x w4 ⟨rfl, rfl⟩) | (go_at_call 83; refine (za0 LD _).mono ?_; clear LD; rintro x w5 ⟨rfl, rfl⟩) | (go_at_call 90; refine (za0 P0).mono ?_; clear P0; rintro x wa ⟨rfl, ok⟩))
 exact bodyPost_end (v := .tuple #[]) (by simp [results, Tryz.results55, go_sem]) rfl (ok.fin rfl)
theorem expr_neg (w0 : World) (b : Nat) (T : TypeId) (A N : Int) (S : ByteArray) (pt pn pp : Option Addr) (nt n ct cn cp : Nat) (K0 : Int) (tk0 : List Tok) (hP0 : ExPart w0 b T pp 0 K0 tk0) :
  Puts w0 b T (fun _ => True) 55 #[.pointer (some ⟨b, 0, none⟩), .agg #[.int .i64 A, .int .i64 13, .int .i64 N, .string S, .slice pt nt ct, .slice pn n cn, .slice pp 1 cp]] (tS [45] :: zaz K0 6 tk0) := by
 intro ts w hw hts hb0 _
 obtain ⟨g, o, A0, N0, S0, p1, p2, p3, n1, n2, n3, c1, c2, c3, rfl, wt0, ff⟩ := hP0.first
 obtain ⟨ok0, hS⟩ := zht hw hts hb0 #[.int .i64 A, .int .i64 13, .int .i64 N, .string S, .slice pt nt ct, .slice pn n cn, .slice (some ⟨g, o, none⟩) 1 cp] 28 (by decide)
 have TW := za3 (fun W => zh9 13 W)
 rw [show twoB 13 = false from rfl] at TW
 have LD := za3 (fun W => zg1 13 W)
 rw [show zea 13 = false from rfl] at LD
 have P0 := za3 ((zbn w0 b T [45]).ok (fun _ _ => trivial) hS ok0)
 have P1 := za3 (zdy w0 b T _ _ _ _ _ _ _ _ _ _ _ _ _ 6 _ wt0)
 have FF := za3 ff
 have HS := za3 hS
 clear ok0 hS hw hb0 hts wt0 ff hP0
 go_enter Tryz.func55, Tryz.ntmps55
 go_wp2_with (first | (go_at_call 84; refine (za0 TW _).mono ?_; clear TW; rintro x w4 ⟨rfl, rfl⟩) | (go_at_call 83; refine (za0 LD _).mono ?_; clear LD; rintro x w5 ⟨rfl, rfl⟩) | (go_at_call 87; refine (za0 P0).mono ?_; clear P0; rintro x wa ⟨rfl, ok⟩; have m := xBox.cells ok.2.2.2.2.2; obtain ⟨m0, m1, m2, m3, m4, m5, m6⟩ := m; obtain ⟨y0, y1, y2, y3, y4, y5, y6⟩ := za0 FF _ ok.2.2.1; have OK1 := za3 ok; clear ok) | (go_at_call 88; refine ((za0 P1).ok (fun _ _ => trivial) (za0 HS) (za0 OK1)).mono ?_; clear P1; rintro x wb ⟨rfl, ok⟩))
 exact bodyPost_end (v := .tuple #[]) (by simp [results, Tryz.results55, go_sem]) rfl (ok.fin rfl)
theorem expr_not (w0 : World) (b : Nat) (T : TypeId) (A N : Int) (S : ByteArray) (pt pn pp : Option Addr) (nt n ct cn cp : Nat) (K0 : Int) (tk0 : List Tok) (hP0 : ExPart w0 b T pp 0 K0 tk0) :
  Puts w0 b T (fun _ => True) 55 #[.pointer (some ⟨b, 0, none⟩), .agg #[.int .i64 A, .int .i64 14, .int .i64 N, .string S, .slice pt nt ct, .slice pn n cn, .slice pp 1 cp]] (tW [110, 111, 116] :: zaz K0 6 tk0) := by
 intro ts w hw hts hb0 _
 obtain ⟨g, o, A0, N0, S0, p1, p2, p3, n1, n2, n3, c1, c2, c3, rfl, wt0, ff⟩ := hP0.first
 obtain ⟨ok0, hS⟩ := zht hw hts hb0 #[.int .i64 A, .int .i64 14, .int .i64 N, .string S, .slice pt nt ct, .slice pn n cn, .slice (some ⟨g, o, none⟩) 1 cp] 28 (by decide)
 have TW := za3 (fun W => zh9 14 W)
 rw [show twoB 14 = false from rfl] at TW
 have LD := za3 (fun W => zg1 14 W)
 rw [show zea 14 = false from rfl] at LD
 have P0 := za3 ((zb9 w0 b T [110, 111, 116]).ok (fun _ _ => trivial) hS ok0)
 have P1 := za3 (zdy w0 b T _ _ _ _ _ _ _ _ _ _ _ _ _ 6 _ wt0)
 have FF := za3 ff
 have HS := za3 hS
 clear ok0 hS hw hb0 hts wt0 ff hP0
 go_enter Tryz.func55, Tryz.ntmps55
 go_wp2_with (first | (go_at_call 84; refine (za0 TW _).mono ?_; clear TW; rintro x w4 ⟨rfl, rfl⟩) | (go_at_call 83; refine (za0 LD _).mono ?_; clear LD; rintro x w5 ⟨rfl, rfl⟩) | (go_at_call 89; refine (za0 P0).mono ?_; clear P0; rintro x wa ⟨rfl, ok⟩; have m := xBox.cells ok.2.2.2.2.2; obtain ⟨m0, m1, m2, m3, m4, m5, m6⟩ := m; obtain ⟨y0, y1, y2, y3, y4, y5, y6⟩ := za0 FF _ ok.2.2.1; have OK1 := za3 ok; clear ok) | (go_at_call 88; refine ((za0 P1).ok (fun _ _ => trivial) (za0 HS) (za0 OK1)).mono ?_; clear P1; rintro x wb ⟨rfl, ok⟩))
 exact bodyPost_end (v := .tuple #[]) (by simp [results, Tryz.results55, go_sem]) rfl (ok.fin rfl)
def exT (K N : Int) (S : Bs) (nm : Nat → Bs) (q : Nat) (Ks : Nat → Int) (tk : Nat → List Tok) (typ : List Tok) : List Tok :=
 if twoB K = true then zaz (Ks 0) (if K = 18 ∨ K = 19 then zbj K + 1 else zbj K) (tk 0) ++ zja K ++ zaz (Ks 1) (zbj K + 1) (tk 1)
 else if K = 12 then zaz (Ks 0) 7 (tk 0) ++ tW [116, 111] :: typ
 else if K = 9 then zaz (Ks 0) 7 (tk 0) ++ [tS [46], tN S]
 else if K = 10 then zaz (Ks 0) 7 (tk 0) ++ tS [46] :: tN S :: zfy (q - 1) (fun k => zaz (Ks (k + 1)) 1 (tk (k + 1)))
 else if K = 11 then (if Ks 0 = 9 then zeq (tk 0) else zaz (Ks 0) 7 (tk 0)) ++ zfy (q - 1) (fun k => zaz (Ks (k + 1)) 1 (tk (k + 1)))
 else if K = 13 then tS [45] :: zaz (Ks 0) 6 (tk 0)
 else if K = 14 then tW [110, 111, 116] :: zaz (Ks 0) 6 (tk 0)
 else if K = 1 then [(0, 4, [], N)]
 else if K = 2 then [(0, 5, S, 0)]
 else if K = 3 then [if N = 0 then tW [102, 97, 108, 115, 101] else tW [116, 114, 117, 101]]
 else if K = 4 then [tN S]
 else if K = 5 then [tW [115, 101, 108, 102]]
 else if K = 6 then tW [110, 105, 108] :: typ
 else if K = 7 then litT S q nm (fun k => zaz (Ks k) 1 (tk k))
 else if K = 8 then tW [110, 101, 119] :: litT S q nm (fun k => zaz (Ks k) 1 (tk k))
 else []
def zij (D : Nat) : (d : Nat) → Ex D d → List Tok
 | 0, _ => []
 | d + 1, x => exT (zfn x) (xN x) (xS x) (fun i => (xNs x).getD i []) (xPs x).length (fun i => ((xPs x)[i]?.map (zd0 D d)).getD 0) (fun i => ((xPs x)[i]?.map (zij D d)).getD []) (((xT x)[0]?.map (zac D false)).getD [])
def ExCap (W : World) (D : Nat) : (d : Nat) → Value → List (Ex D d) → Prop
 | 0, _, _ => True
 | d + 1, v, xs => ∃ (p : Option Addr) (c : Nat), v = .slice p xs.length c ∧ xs.length ≤ c ∧ ∀ j x, xs[j]? = some x → ∃ (g o : Nat) (vp : Value), p = some ⟨g, o, none⟩ ∧ W.cell? ⟨g, o + j * 7 + 6, none⟩ = some vp ∧ ExCap W D d vp (xPs x)
def XAt (w0 : World) (D d : Nat) : Prop := ∀ (b : Nat) (T : TypeId) (A K N : Int) (S : Bs) (pt pn pp : Option Addr) (ct cn cp : Nat) (tys : List (Ty D)) (ns : List Bs) (xs : List (Ex D d)),
 TyRow w0 D (.slice pt tys.length ct) tys → SRow w0 (.slice pn ns.length cn) ns → ExRow w0 D d (.slice pp xs.length cp) xs → ExCap w0 D d (.slice pp xs.length cp) xs → zgx D d (A, K, N, S, tys, ns, xs) → ExFits D d xs → (∃ room, zbi D (d + 1) room (A, K, N, S, tys, ns, xs) = true) →
 XPuts w0 b T A K N ⟨S.toArray⟩ pt pn pp tys.length ns.length xs.length ct cn cp (zij D (d + 1) (A, K, N, S, tys, ns, xs))
def PartsX (w0 : World) (D d : Nat) : Prop := ∀ (b : Nat) (T : TypeId) (pp : Option Addr) (cp : Nat) (xs : List (Ex D d)), ExRow w0 D d (.slice pp xs.length cp) xs → ExCap w0 D d (.slice pp xs.length cp) xs → ExFits D d xs →
 (∀ (k : Nat) (x : Ex D d), xs[k]? = some x → ∃ room, zbi D d room x = true) → ∀ k, k < xs.length → ExPart w0 b T pp k ((xs[k]?.map (zd0 D d)).getD 0) ((xs[k]?.map (zij D d)).getD [])
theorem partsX_of (w0 : World) (D d : Nat) (H : XAt w0 D d) : PartsX w0 D (d + 1) := fun b T pp cp xs hr hc hf hR k hk => by
 obtain ⟨p, c, e, hp⟩ := hr
 injection e with e1 e2 e3
 subst e1
 obtain ⟨p', c', e, _, hp'⟩ := hc
 injection e with e1 e2 e3
 subst e1
 have hk' : xs[k]? = some xs[k] := by simp
 obtain ⟨g, o, vt, vn, vp, rfl, a0, a1, a2, a3, a4, a5, a6, q1, q2, q3⟩ := hp k _ hk'
 obtain ⟨g', o', vp', e, a6', hcp⟩ := hp' k _ hk'
 obtain ⟨rfl, rfl⟩ : g = g' ∧ o = o' := by simpa using e
 obtain rfl : vp = vp' := Option.some.inj (a6.symm.trans a6')
 obtain ⟨f1, f2⟩ := hf.2 _ (List.mem_of_getElem? hk')
 obtain ⟨p1, c1, rfl⟩ := q1.slice
 obtain ⟨p2, c2, rfl, h2⟩ := q2
 obtain ⟨p3, c3, rfl⟩ := q3.slice
 rw [hk']
 exact ⟨g, o, _, _, _, p1, p2, p3, _, _, _, c1, c2, c3, rfl, a0, a1, a2, a3, a4, a5, a6, H b T _ _ _ _ p1 p2 p3 c1 c2 c3 _ _ _ q1 ⟨p2, c2, rfl, h2⟩ q3 hcp f1 f2 (hR k _ hk')⟩
theorem right_partsX {D d : Nat} {x : Ex D (d + 1)} (h : ∃ room, zbi D (d + 1) room x = true) : zc4 D d x = true ∧ zak D 64 (xT x) = true ∧ ∀ (k : Nat) (y : Ex D d), (xPs x)[k]? = some y → ∃ room, zbi D d room y = true := by
 obtain ⟨room, h⟩ := h
 simp only [zbi, Bool.and_eq_true] at h
 refine ⟨h.1.1.2, h.1.2, fun k y hy => ?_⟩
 have hk : k < (xPs x).length := (List.getElem?_eq_some_iff.1 hy).1
 have := List.all_eq_true.1 h.2 k (List.mem_range.2 hk)
 rw [hy] at this
 exact ⟨_, this⟩
theorem shapeX_le {K : Int} (h : zce K ≠ none) : 1 ≤ K ∧ K ≤ 21 := by
 apply Decidable.byContradiction
 intro hk
 apply h
 unfold zce
 repeat rw [if_neg (by omega)]
theorem exprX_of (w0 : World) (D d : Nat) (H : PartsX w0 D d) : XAt w0 D d := fun b T A K N S pt pn pp ct cn cp tys ns xs hT hN hX hC hs hf hr => by
 obtain ⟨hsh, hrt, hrp⟩ := right_partsX hr
 have PX := H b T pp cp xs hX hC hf hrp
 have hcap : 1 ≤ xs.length → xs.length ≤ cp := fun h1 => by
  match d, xs, hC with
  | 0, [], _ => simp at h1
  | d + 1, xs, hC =>
   obtain ⟨p, c, e, h, _⟩ := hC
   injection e with e1 e2 e3
   omega
 have s3 : zck D tys := hs.2.2.1
 have s6 : xs.length ≤ 1000000 := hs.2.2.2.2.2.1
 replace hrt : zak D 64 tys = true := hrt
 show XPuts w0 b T A K N ⟨S.toArray⟩ pt pn pp tys.length ns.length xs.length ct cn cp (exT K N S (fun i => ns.getD i []) xs.length (fun i => (xs[i]?.map (zd0 D d)).getD 0) (fun i => (xs[i]?.map (zij D d)).getD []) ((tys[0]?.map (zac D false)).getD []))
 obtain ⟨Ks, hKs⟩ : ∃ Ks : Nat → Int, Ks = fun i => (xs[i]?.map (zd0 D d)).getD 0 := ⟨_, rfl⟩
 obtain ⟨tk, htk⟩ : ∃ tk : Nat → List Tok, tk = fun i => (xs[i]?.map (zij D d)).getD [] := ⟨_, rfl⟩
 have PX' : ∀ k, k < xs.length → ExPart w0 b T pp k (Ks k) (tk k) := fun k hk => by rw [hKs, htk]; exact PX k hk
 rw [← hKs, ← htk]
 have hNm : ∀ k, k < ns.length → ∃ g o, pn = some ⟨g, o, none⟩ ∧ w0.cell? ⟨g, o + k, none⟩ = some (.string ⟨(ns.getD k []).toArray⟩) := fun k hk => by
  obtain ⟨p, c, e, hp⟩ := hN
  injection e with e1 e2 e3
  subst e1
  obtain ⟨g, o, e, a⟩ := hp k ns[k] (by simp)
  exact ⟨g, o, e, by rw [a, getD_at (s := ns[k]) (by simp)]⟩
 have hTy : tys.length = 1 → TyPart w0 b T 77 pt 0 ((tys[0]?.map (zac D false)).getD []) := fun h1 => by
  have h0 : tys[0]? = some tys[0] := by simp
  have := (zc5 w0 D).1 b T pt ct tys hT s3 ⟨64, hrt⟩ (by simp) 0 _ h0
  rw [h0]
  exact this
 obtain ⟨typ, htyp⟩ : ∃ t, t = (tys[0]?.map (zac D false)).getD [] := ⟨_, rfl⟩
 rw [← htyp] at hTy ⊢
 clear hKs htk htyp PX H hr hrt hrp
 replace hsh : (match zce K with | none => false | some (says, mostN, types, named, least, most) => decide (0 ≤ N) && decide (N ≤ mostN) && decide ((tys.length : Int) = types) && decide (least ≤ (xs.length : Int)) && decide ((xs.length : Int) ≤ most) && zis says S && zdq named ns xs.length) = true := hsh
 have hK : 1 ≤ K ∧ K ≤ 21 := by
  rcases hx : zce K with _ | y
  ·rw [hx] at hsh
   exact absurd hsh (by simp)
  ·exact shapeX_le (by rw [hx]; simp)
 have hk : K = 1 ∨ K = 2 ∨ K = 3 ∨ K = 4 ∨ K = 5 ∨ K = 6 ∨ K = 7 ∨ K = 8 ∨ K = 9 ∨ K = 10 ∨ K = 11 ∨ K = 12 ∨ K = 13 ∨ K = 14 ∨ 15 ≤ K := by omega
 rcases hk with rfl | rfl | rfl | rfl | rfl | rfl | rfl | rfl | rfl | rfl | rfl | rfl | rfl | rfl | h15
 ·exact zdz w0 b T A 1 N ⟨S.toArray⟩ pt pn pp tys.length ns.length xs.length ct cn cp _ (prim1 w0 b T A N S pt pn pp tys.length ns.length xs.length ct cn cp) rfl rfl (by decide) (by decide)
 ·exact zdz w0 b T A 2 N ⟨S.toArray⟩ pt pn pp tys.length ns.length xs.length ct cn cp _ (prim2 w0 b T A N S pt pn pp tys.length ns.length xs.length ct cn cp) rfl rfl (by decide) (by decide)
 ·exact zdz w0 b T A 3 N ⟨S.toArray⟩ pt pn pp tys.length ns.length xs.length ct cn cp _ (prim3 w0 b T A N S pt pn pp tys.length ns.length xs.length ct cn cp) rfl rfl (by decide) (by decide)
 ·exact zdz w0 b T A 4 N ⟨S.toArray⟩ pt pn pp tys.length ns.length xs.length ct cn cp _ (prim4 w0 b T A N S pt pn pp tys.length ns.length xs.length ct cn cp) rfl rfl (by decide) (by decide)
 ·exact zdz w0 b T A 5 N ⟨S.toArray⟩ pt pn pp tys.length ns.length xs.length ct cn cp _ (prim5 w0 b T A N S pt pn pp tys.length ns.length xs.length ct cn cp) rfl rfl (by decide) (by decide)
 ·have h1 : tys.length = 1 := by simp [zce] at hsh; omega
  have := zdz w0 b T A 6 N ⟨S.toArray⟩ pt pn pp 1 ns.length xs.length ct cn cp _ (prim6 w0 b T A N S pt pn pp ns.length xs.length ct cn cp typ (hTy h1)) rfl rfl (by decide) (by decide)
  rw [h1]
  exact this
 ·have h1 : ns.length = xs.length := by simp [zce, zdq] at hsh; exact hsh.2.1
  have := zdz w0 b T A 7 N ⟨S.toArray⟩ pt pn pp tys.length xs.length xs.length ct cn cp _ (prim7 w0 b T A N S pt pn pp tys.length xs.length xs.length ct cn cp _ (lit_any w0 b T A 7 N S pt pn pp tys.length xs.length ct cn cp s6 (fun i => ns.getD i []) Ks tk (h1 ▸ hNm) PX')) rfl rfl (by decide) (by decide)
  rw [h1]
  exact this
 ·have h1 : ns.length = xs.length := by simp [zce, zdq] at hsh; exact hsh.2.1
  have := zdz w0 b T A 8 N ⟨S.toArray⟩ pt pn pp tys.length xs.length xs.length ct cn cp _ (prim8 w0 b T A N S pt pn pp tys.length xs.length xs.length ct cn cp _ (lit_any w0 b T A 8 N S pt pn pp tys.length xs.length ct cn cp s6 (fun i => ns.getD i []) Ks tk (h1 ▸ hNm) PX')) rfl rfl (by decide) (by decide)
  rw [h1]
  exact this
 ·have h1 : xs.length = 1 := by simp [zce] at hsh; omega
  have := zfz w0 b T A 9 N ⟨S.toArray⟩ pt pn pp tys.length ns.length 1 ct cn cp _ (post_field w0 b T A N S pt pn pp tys.length ns.length ct cn cp (Ks 0) (tk 0) (PX' 0 (by omega))) rfl rfl
  rw [h1]
  exact this
 ·have h1 : 1 ≤ xs.length := by simp [zce] at hsh; omega
  exact zfz w0 b T A 10 N ⟨S.toArray⟩ pt pn pp tys.length ns.length xs.length ct cn cp _ (post_call w0 b T A N S pt pn pp tys.length ns.length xs.length (xs.length - 1) ct cn cp (by omega) s6 (hcap h1) Ks tk PX') rfl rfl
 ·have h1 : 1 ≤ xs.length := by simp [zce] at hsh; omega
  by_cases h9 : Ks 0 = 9
  ·have := zfz w0 b T A 11 N ⟨S.toArray⟩ pt pn pp tys.length ns.length xs.length ct cn cp _ (post_apply9 w0 b T A N S pt pn pp tys.length ns.length xs.length (xs.length - 1) ct cn cp (by omega) s6 (hcap h1) Ks tk PX' h9) rfl rfl
   simpa [exT, twoB, h9] using this
  ·have := zfz w0 b T A 11 N ⟨S.toArray⟩ pt pn pp tys.length ns.length xs.length ct cn cp _ (post_apply w0 b T A N S pt pn pp tys.length ns.length xs.length (xs.length - 1) ct cn cp (by omega) s6 (hcap h1) Ks tk PX' h9) rfl rfl
   simpa [exT, twoB, h9] using this
 ·have h1 : xs.length = 1 := by simp [zce] at hsh; omega
  have h2 : tys.length = 1 := by simp [zce] at hsh; omega
  have := zfz w0 b T A 12 N ⟨S.toArray⟩ pt pn pp 1 ns.length 1 ct cn cp _ (post_to w0 b T A N S pt pn pp ns.length ct cn cp (Ks 0) (tk 0) typ (PX' 0 (by omega)) (hTy h2)) rfl rfl
  rw [h1, h2]
  exact this
 ·have h1 : xs.length = 1 := by simp [zce] at hsh; omega
  have := expr_neg w0 b T A N ⟨S.toArray⟩ pt pn pp tys.length ns.length ct cn cp (Ks 0) (tk 0) (PX' 0 (by omega))
  rw [h1]
  exact this
 ·have h1 : xs.length = 1 := by simp [zce] at hsh; omega
  have := expr_not w0 b T A N ⟨S.toArray⟩ pt pn pp tys.length ns.length ct cn cp (Ks 0) (tk 0) (PX' 0 (by omega))
  rw [h1]
  exact this
 ·have h2 : xs.length = 2 := by
   simp [zce, show K ≠ 1 by omega, show K ≠ 2 by omega, show K ≠ 3 by omega, show K ≠ 4 by omega, show K ≠ 5 by omega, show K ≠ 6 by omega, show K ≠ 7 by omega, show K ≠ 8 by omega, show K ≠ 9 by omega, show K ≠ 10 by omega, show K ≠ 11 by omega, show K ≠ 12 by omega, show K ≠ 13 by omega, show K ≠ 14 by omega, h15, hK.2] at hsh
   omega
  have ht : twoB K = true := by simp [twoB, h15, hK.2]
  have := expr_two w0 b T A K N ⟨S.toArray⟩ pt pn pp tys.length ns.length 2 ct cn cp _ (twoSided_puts w0 b T A K N ⟨S.toArray⟩ pt pn pp tys.length ns.length ct cn cp (Ks 0) (Ks 1) (tk 0) (tk 1) h15 hK.2 (PX' 0 (by omega)) (PX' 1 (by omega))) ht
  rw [h2, exT, if_pos ht]
  exact this
theorem zes (w0 : World) (D : Nat) : ∀ d, PartsX w0 D d
 | 0 => fun _ _ _ _ xs _ _ _ _ k hk => by
  match xs with
  | [] => simp at hk
  | x :: _ => exact nomatch x
 | d + 1 => partsX_of w0 D d (exprX_of w0 D d (zes w0 D d))
theorem writeExpr_any (w0 : World) (D d : Nat) : XAt w0 D d := exprX_of w0 D d (zes w0 D d)
theorem partT_fits {K a : Int} {tk : List Tok} (h : Fits tk) : Fits (zaz K a tk) := by
 unfold zaz zeq; split
 ·exact zap (by decide) (zaf h (zap (by decide) zae))
 ·exact h
theorem zll {n : Nat} {f : Nat → List Tok} (h : ∀ i, Fits (f i)) : Fits ((List.range n).flatMap (zcu f)) := zi9 fun i _ => by
 unfold zcu; split
 ·exact zaf (zap (by decide) zae) (h i)
 ·exact zaf zae (h i)
theorem argsT_fits {n : Nat} {f : Nat → List Tok} (h : ∀ i, Fits (f i)) : Fits (zfy n f) := zap (by decide) (zaf (zll h) (zap (by decide) zae))
theorem litT_fits {S : Bs} {n : Nat} {nm : Nat → Bs} {f : Nat → List Tok} (hS : S.length ≤ 35184372088832) (hn : ∀ i, (nm i).length ≤ 35184372088832) (h : ∀ i, Fits (f i)) : Fits (litT S n nm f) :=
 zap hS (zap (by decide) (zaf (zll fun i => zap (hn i) (zap (by decide) (h i))) (zap (by decide) zae)))
theorem operT_fits (K : Int) : Fits (zja K) := by
 unfold zja
 repeat' split
 all_goals first | exact zap (by decide) zae | exact zae
theorem iteF {p : Prop} [Decidable p] {a b : List Tok} (ha : Fits a) (hb : Fits b) : Fits (if p then a else b) := by
 by_cases h : p
 ·rw [if_pos h]; exact ha
 ·rw [if_neg h]; exact hb
theorem exT_fits {K N : Int} {S : Bs} {nm : Nat → Bs} {q : Nat} {Ks : Nat → Int} {tk : Nat → List Tok} {typ : List Tok} (hS : S.length ≤ 35184372088832) (h0 : -9223372036854775808 ≤ N) (h1 : N ≤ 9223372036854775807) (hn : ∀ i, (nm i).length ≤ 35184372088832) (ht : ∀ i, Fits (tk i)) (hty : Fits typ) : Fits (exT K N S nm q Ks tk typ) := by
 have hp := fun i a => partT_fits (K := Ks i) (a := a) (ht i)
 rw [exT]
 by_cases k0 : twoB K = true
 ·rw [if_pos k0]
  exact zaf (zaf (hp _ _) (operT_fits _)) (hp _ _)
 rw [if_neg k0]
 by_cases k1 : K = 12
 ·rw [if_pos k1]
  exact zaf (hp _ _) (zap (by decide) hty)
 rw [if_neg k1]
 by_cases k2 : K = 9
 ·rw [if_pos k2]
  exact zaf (hp _ _) (zap (by decide) (zap hS zae))
 rw [if_neg k2]
 by_cases k3 : K = 10
 ·rw [if_pos k3]
  exact zaf (hp _ _) (zap (by decide) (zap hS (argsT_fits fun i => hp _ _)))
 rw [if_neg k3]
 by_cases k4 : K = 11
 ·rw [if_pos k4]
  exact zaf (iteF (zap (by decide) (zaf (ht 0) (zap (by decide) zae))) (hp _ _)) (argsT_fits fun i => hp _ _)
 rw [if_neg k4]
 by_cases k5 : K = 13
 ·rw [if_pos k5]
  exact zap (by decide) (hp _ _)
 rw [if_neg k5]
 by_cases k6 : K = 14
 ·rw [if_pos k6]
  exact zap (by decide) (hp _ _)
 rw [if_neg k6]
 by_cases k7 : K = 1
 ·rw [if_pos k7]
  exact fits_cons ⟨Nat.zero_le _, h0, h1⟩ zae
 rw [if_neg k7]
 by_cases k8 : K = 2
 ·rw [if_pos k8]
  exact zap hS zae
 rw [if_neg k8]
 by_cases k9 : K = 3
 ·rw [if_pos k9]
  by_cases z : N = 0
  ·rw [if_pos z]; exact zap (by decide) zae
  ·rw [if_neg z]; exact zap (by decide) zae
 rw [if_neg k9]
 by_cases k10 : K = 4
 ·rw [if_pos k10]
  exact zap hS zae
 rw [if_neg k10]
 by_cases k11 : K = 5
 ·rw [if_pos k11]
  exact zap (by decide) zae
 rw [if_neg k11]
 by_cases k12 : K = 6
 ·rw [if_pos k12]
  exact zap (by decide) hty
 rw [if_neg k12]
 by_cases k13 : K = 7
 ·rw [if_pos k13]
  exact litT_fits hS hn fun i => hp _ _
 rw [if_neg k13]
 by_cases k14 : K = 8
 ·rw [if_pos k14]
  exact zap (by decide) (litT_fits hS hn fun i => hp _ _)
 rw [if_neg k14]
 exact zae
theorem zkj (D : Nat) : ∀ (d : Nat) (xs : List (Ex D d)), ExFits D d xs → ∀ x ∈ xs, Fits (zij D d x)
 | 0, _, _, x, _ => nomatch x
 | d + 1, xs, h, x, hx => by
  obtain ⟨⟨s1, s2, s3, s4, s5, s6, s7, s8⟩, hp⟩ := h.2 x hx
  exact exT_fits s1 s7 s8 (fun i => zjq s5) (fun i => zi2 fun a ha => zkj D d _ hp a ha) (zi2 fun a ha => zfg D false _ s3 a ha)
def zdn (D d : Nat) (x : Ex D (d + 1)) : Sum Nat Bs := if zbi D (d + 1) 64 x = true then join (zar [] (zij D (d + 1) x)) else .inl 1
theorem ExCap.below {w w' : World} {D : Nat} (hb : Below w.heap.size w w') : ∀ (d : Nat) {v : Value} {xs : List (Ex D d)}, ExCap w D d v xs → ExCap w' D d v xs
 | 0, _, _, h => h
 | d + 1, v, xs, h => by
  obtain ⟨p, c, rfl, hc, hp⟩ := h
  refine ⟨p, c, rfl, hc, fun j t ht => ?_⟩
  obtain ⟨g, o, vp, rfl, a6, r3⟩ := hp j t ht
  exact ⟨g, o, vp, rfl, (hb.cell (p := ⟨g, _, none⟩) (za2 a6)).trans a6, ExCap.below hb d r3⟩
theorem Expr_any (D d : Nat) (A K N : Int) (S : Bs) (pt pn pp : Option Addr) (ct cn cp : Nat) (tys : List (Ty D)) (ns : List Bs) (xs : List (Ex D d)) (w : World) (r1 : TyRow w D (.slice pt tys.length ct) tys) (r2 : SRow w (.slice pn ns.length cn) ns) (r3 : ExRow w D d (.slice pp xs.length cp) xs) (rc : ExCap w D d (.slice pp xs.length cp) xs)
  (hs : zgx D d (A, K, N, S, tys, ns, xs)) (hf : ExFits D d xs) (ht : Tab w) (h5 : 4 ≤ w.heap.size) :
  Calls Tryz.prog 11 #[.agg #[.int .i64 A, .int .i64 K, .int .i64 N, .string ⟨S.toArray⟩, .slice pt tys.length ct, .slice pn ns.length cn, .slice pp xs.length cp]] w fun e w' => e = .returned (zbk (zdn D d (A, K, N, S, tys, ns, xs))) ∧ Below w.heap.size w w' := by
 have hv0 : ExVal w D d (.agg #[.int .i64 A, .int .i64 K, .int .i64 N, .string ⟨S.toArray⟩, .slice pt tys.length ct, .slice pn ns.length cn, .slice pp xs.length cp]) (A, K, N, S, tys, ns, xs) := ⟨pt, pn, pp, ct, cn, cp, rfl, r1, r2, r3⟩
 obtain ⟨O, hO⟩ : ∃ O : Obj, O = xBox A K N ⟨S.toArray⟩ pt pn pp tys.length ns.length xs.length ct cn cp := ⟨_, rfl⟩
 have hb : Below w.heap.size w (w.alloc O) := (Below.refl _ _).alloc (Nat.le_refl _) O
 have RT := za3 (zfl D d _ _ 64 (w.alloc O) (hv0.below hb) hs hf (by omega) (by omega) (ht.below hb h5) (by simp; omega))
 obtain ⟨X, hX⟩ : ∃ X : Ex D (d + 1), X = (A, K, N, S, tys, ns, xs) := ⟨_, rfl⟩
 have HA : Hid (zdn D d X = if zbi D (d + 1) 64 X = true then join (zar [] (zij D (d + 1) X)) else .inl 1) := rfl
 have hsX : zgx D d X ∧ ExFits D d (xPs X) := hX ▸ ⟨hs, hf⟩
 rw [← hX] at RT ⊢
 by_cases hr : zbi D (d + 1) 64 X = true
 ·rw [if_pos hr] at HA
  rw [hr] at RT
  obtain ⟨s, y, hj⟩ := zeg (join (zar [] (zij D (d + 1) X)))
  have CL : Hid (∀ w1 : World, Below (w.alloc O).heap.size (w.alloc O) w1 → (w1.alloc (.cells #[.slice none 0 0] 97)).heap[w.heap.size]? = some O ∧
    Calls Tryz.prog 55 #[.pointer (some ⟨w1.heap.size, 0, none⟩), .agg #[.int .i64 A, .int .i64 K, .int .i64 N, .string ⟨S.toArray⟩, .slice pt tys.length ct, .slice pn ns.length cn, .slice pp xs.length cp]] (w1.alloc (.cells #[.slice none 0 0] 97)) fun e w' => e = .returned (.tuple #[]) ∧ Below w.heap.size w w' ∧
     Calls Tryz.prog 56 #[.pointer (some ⟨w1.heap.size, 0, none⟩)] w' fun e w'' => e = .returned (.tuple #[.string s, .int .i64 y]) ∧ Below w.heap.size w w'') := fun w1 hb1 => by
   have hw1 : Below w.heap.size w w1 := hb.trans (hb1.mono (by simp))
   have hs1 := hw1.size
   have hblk : w1.heap[w.heap.size]? = some O := (hb1.block _ (by simp)).trans (zaj _ _)
   replace hblk := (((Below.refl w1.heap.size w1).alloc (Nat.le_refl _) (.cells #[.slice none 0 0] 97)).block _ (Array.getElem?_eq_some_iff.1 hblk).1).trans hblk
   refine ⟨hblk, ?_⟩
   have ha : Below w1.heap.size w1 (w1.alloc (.cells #[.slice none 0 0] 97)) := (Below.refl _ _).alloc (Nat.le_refl _) _
   refine (writeExpr_any w1 D d w1.heap.size 97 A K N S pt pn pp ct cn cp tys ns xs (TyRow.below hw1 D r1) (r2.below hw1) (ExRow.below hw1 d r3) (ExCap.below hw1 d rc) hs hf ⟨64, hX ▸ hr⟩ [] _ (WrAt.new w1 _ (by decide)) (by simp) ha trivial).mono ?_
   rintro x w2 ⟨rfl, hW2, hB2, _⟩
   have hb2 : Below w.heap.size w w2 := hw1.trans ((ha.trans hB2).mono hs1)
   refine ⟨rfl, hb2, ?_⟩
   rw [← hX] at hW2
   rw [← hj]
   refine (zjm _ _ _ _ w2 hW2 (zbu _ _ (by simp)) (zjd _ _ zae (zkj D (d + 1) [X] ⟨by simp, fun u hu => by rw [List.mem_singleton] at hu; rw [hu]; exact hsX⟩ X (by simp))) (ht.below hb2 h5) (by have := hb2.size; omega)).mono ?_
   rintro x w3 ⟨rfl, hb3⟩
   exact ⟨rfl, hb2.trans (hb3.mono hb2.size)⟩
  have HJ := za3 hj
  clear hj hv0 hs hf ht hb r1 r2 r3 rc hX hsX
  rw [hO] at CL RT
  clear hO
  go_enter Tryz.func11, Tryz.ntmps11
  go_wp2_with (first
   | (go_at_call 54; refine (za0 RT).mono ?_; clear RT; rintro x w1 ⟨rfl, hb1⟩; obtain ⟨hblk, wt⟩ := za0 CL w1 hb1; obtain ⟨f0, f1, f2, f3, f4, f5, f6⟩ := xBox.cells hblk; have WT := za3 wt; clear wt CL hblk)
   | (go_at_call 55; refine (za0 WT).mono ?_; clear WT; rintro x w2 ⟨rfl, hb2, tx⟩; have TX := za3 tx; clear tx)
   | (go_at_call 56; refine (za0 TX).mono ?_; clear TX; rintro x w3 ⟨rfl, hb3⟩))
  go_ret2
  exact ⟨by rw [za0 HA, za0 HJ]; rfl, hb3⟩
 ·have hr := (Bool.not_eq_true _).mp hr
  rw [if_neg (by rw [hr]; simp)] at HA
  rw [hr] at RT
  have HB := za3 hb
  clear hv0 hs hf ht hb r1 r2 r3 rc hX hsX
  rw [hO] at RT HB
  clear hO
  go_enter Tryz.func11, Tryz.ntmps11
  go_wp2_with (go_at_call 54; refine (za0 RT).mono ?_; clear RT; rintro x w1 ⟨rfl, hb1⟩)
  go_ret2
  exact ⟨by rw [za0 HA]; rfl, (za0 HB).trans (hb1.mono (by simp))⟩
end Go.Proofs.YtmpbbmfbgcpplaaGreatDoor
