/-
  coillaw1.LexBlanks, walked: it answers true, whatever text and bytes it is handed.
-/
import Derived.Test.YtkahhkeohmljaaaDoorLexed
import Derived.Test.YtkahhkeohmljaaaDoorFew
import Derived.Test.YtkahhkeohmljaaaDoorBare
import Derived.Test.YtkahhkeohmljaaaDoorLaws10
namespace Go.Proofs.YtkahhkeohmljaaaDoor
open Go Go.RowKit Lx

/-- A slice of bytes as it lies. -/
def FillRow (W : World) (p : Option Addr) (n : Nat) : Prop := ∀ j, j < n → ∃ (g o : Nat) (x : Int), p = some ⟨g, o, none⟩ ∧ 0 ≤ x ∧ x < 256 ∧ W.cell? ⟨g, o + j, none⟩ = some (.int .u8 x)
theorem FillRow.below {w W : World} {p : Option Addr} {n : Nat} (h : FillRow w p n) (hb : Below w.heap.size w W) : FillRow W p n := by
  intro j hj
  obtain ⟨g, o, x, rfl, h0, h1, hc⟩ := h j hj
  exact ⟨g, o, x, rfl, h0, h1, (hb.cell (p := ⟨g, _, none⟩) (cell_lt hc)).trans hc⟩
def rowCells : Array Value := (rows5.map fun r => Value.string ⟨r.toArray⟩).toArray
theorem row_cell {w W : World} (hb : Below (w.alloc (.cells rowCells 9)).heap.size (w.alloc (.cells rowCells 9)) W) : ∀ j, j < 5 → W.cell? ⟨w.heap.size, j, none⟩ = some (.string ⟨(rows5.getD j []).toArray⟩) := by
  intro j hj
  refine (hb.cell (p := ⟨w.heap.size, j, none⟩) (by simp)).trans ?_
  rw [World.cell?_alloc_at _ _ _ _ (by rfl)]
  match j, hj with
  | 0, _ => rfl
  | 1, _ => rfl
  | 2, _ => rfl
  | 3, _ => rfl
  | 4, _ => rfl
theorem rows_at {j : Nat} (h : j < 5) : Gap (rows5.getD j []) ∧ (rows5.getD j []).length ≤ 16 := by
  have hl : j < rows5.length := h
  have e : rows5.getD j [] = rows5[j] := by rw [List.getD_eq_getElem?_getD, List.getElem?_eq_getElem hl]; rfl
  rw [e]
  exact rows_gap _ (List.getElem_mem hl)
/-- What has been put together behind k tokens. -/
def Put (x : List Tok) (k : Nat) (s : ByteArray) : Prop := ∃ gs : List (Bs × Tok), gs.map (·.2) = x.take k ∧ (∀ p ∈ gs, Gap p.1) ∧ s = ⟨(mixed gs).toArray⟩
theorem Put.more {x : List Tok} {k : Nat} {s : ByteArray} {t : Tok} {g : Bs} (h : Put x k s) (ht : x[k]? = some t) (hg : Gap g) : Put x (k + 1) (s ++ ⟨g.toArray⟩ ++ ⟨(tokText t).toArray⟩) := by
  obtain ⟨gs, h1, h2, rfl⟩ := h
  refine ⟨gs ++ [(g, t)], ?_, ?_, ?_⟩
  · rw [List.map_append, h1, List.take_add_one, ht]; rfl
  · intro p hp
    rcases List.mem_append.1 hp with hp | hp
    · exact h2 p hp
    · rw [List.mem_singleton.1 hp]; exact hg
  · apply ByteArray.ext
    apply Array.ext'
    rw [mixed_snoc]
    simp
theorem Put.done {x : List Tok} {k : Nat} {s : ByteArray} (h : Put x k s) (hk : x.length ≤ k) (hs : ∀ t ∈ x, sound t = true ∧ t.2.2.2 ≤ 9223372036854775807) (hn : x.length ≤ 4096) (hl : s.size ≤ 60000) :
    ∃ y, lex (s ++ ⟨theEnd.toArray⟩ : ByteArray).data.toList = (y, none) ∧ bareT y = bareT x := by
  obtain ⟨gs, h1, h2, rfl⟩ := h
  rw [List.take_of_length_le hk] at h1
  have hl' : (mixed gs).length ≤ 60000 := by
    have : (mixed gs).toArray.size ≤ 60000 := hl
    simpa using this
  obtain ⟨y, h3, h4⟩ := mixed_lex h2 h1 hs hn hl'
  refine ⟨y, ?_, bareT_eq h4⟩
  rw [← h3, ByteArray.data_append]
  simp
theorem mk_size (l : Bs) : ByteArray.size ⟨l.toArray⟩ = l.length := by show l.toArray.size = _; simp
set_option maxHeartbeats 10000000 in
set_option maxRecDepth 100000 in
theorem LexBlanks_any (s : ByteArray) (fp : Option Addr) (fn fc : Nat) (w : World) (hs : s.size ≤ 9223372036854775807) (hfn : fn ≤ 9223372036854775807) (hF : FillRow w fp fn) (hg : ErrType w) (ht : Tab w) (h5 : 5 ≤ w.heap.size) :
    Calls Tryd.prog 4 #[.string s, .slice fp fn fc] w fun e w' => e = .returned (.bool true) ∧ Below w.heap.size w w' := by
  have HB : Below w.heap.size w w := Below.refl _ _
  have RN := hide (fun W (hb : Below w.heap.size w W) => Runs_b (w0 := w) W hb hg ht h5)
  have HT := hide ht
  clear hg ht
  have hS := (fewB_size s 1500).1
  have FW := hide (few_any s 1500 w hs (by omega))
  revert hS FW
  generalize fewB s 1500 = S
  intro hS FW
  clear hs
  rcases hx : lex S.data.toList with ⟨x, _ | ⟨p, y⟩⟩
  · obtain ⟨_, hlay, hmany⟩ := lex_ok hx
    have TK := hide (fun W => Tokens_ok S x W (by omega) hx)
    have AL : Hid (∀ t ∈ x, sound t = true ∧ 0 ≤ t.2.2.2 ∧ t.2.2.2 ≤ 9223372036854775807 ∧ (tokText t).length ≤ 1500) := fun t ht => by
      obtain ⟨q1, q2, q3, q4, _⟩ := hlay.all t ht
      rw [len_data] at q4
      exact ⟨q1, q2, q3, by omega⟩
    have HFL := hide (fun W (hb : Below w.heap.size w W) => hF.below hb)
    clear hx hlay hF
    go_enter Tryd.func4, Tryd.ntmps4
    go_wp2_with (first | (go_at_call 14; refine (unhide FW).mono ?_; rintro e w' ⟨rfl, rfl⟩) | (go_at_call 8; refine (unhide TK _).mono ?_; rintro e w1 ⟨v, rfl, hv, hb1⟩))
    replace HB := step0 HB hb1
    clear hb1 TK FW
    obtain ⟨p, c, rfl, hp⟩ := hv
    have HV : Hid (TokRow w1 (.slice p x.length c) x) := ⟨p, c, rfl, hp⟩
    clear hp
    have HR := hide (fun W hb => row_cell (w := w1) (W := W) hb)
    have HB1 := HB.alloc HB.size (.cells rowCells 9)
    have h1W : Hid (∀ W, Below (w1.alloc (.cells rowCells 9)).heap.size (w1.alloc (.cells rowCells 9)) W → Below w1.heap.size w1 W) := fun W hb => step0 ((Below.refl _ _).alloc (Nat.le_refl _) _) hb
    rw [show rowCells = #[.string ⟨#[32]⟩, .string ⟨#[10]⟩, .string ⟨#[9, 32, 13]⟩, .string ⟨#[47, 47, 32, 97, 32, 34, 32, 114, 101, 109, 97, 114, 107, 32, 255, 10]⟩, .string ⟨#[32, 47, 47, 10, 10]⟩] from rfl] at HR HB1 h1W
    revert HR HB1 h1W
    generalize w1.alloc (.cells #[.string ⟨#[32]⟩, .string ⟨#[10]⟩, .string ⟨#[9, 32, 13]⟩, .string ⟨#[47, 47, 32, 97, 32, 34, 32, 114, 101, 109, 97, 114, 107, 32, 255, 10]⟩, .string ⟨#[32, 47, 47, 10, 10]⟩] 9) = W2
    intro HR HB1 h1W
    clear HB
    go_loopw [8, 9] (fun q i wr => ∃ (k : Nat) (Q : ByteArray), i = .int .i64 k ∧ q = .string Q ∧ k ≤ x.length ∧ Q.size ≤ k * 1600 ∧ Hid (Put x k Q) ∧ Below W2.heap.size W2 wr) (fun _ i _ => x.length - (intOf i).toNat)
    case atStart => exact ⟨0, ⟨#[]⟩, rfl, rfl, by omega, by decide, ⟨[], rfl, by simp, rfl⟩, Below.refl _ _⟩
    case round =>
      obtain ⟨k, Q, rfl, rfl, hk, hQ, HK, hb⟩ := hrel
      by_cases hlt : k < x.length
      · have hget : x[k]? = some x[k] := by simp [hlt]
        have hlt' : (k : Int) < (x.length : Int) := by omega
        obtain ⟨p', c', hpc, hp'⟩ := unhide HV
        cases hpc
        obtain ⟨g, o, hpe, a0, a1, a2, a3⟩ := hp' k x[k] hget
        clear hp'
        have hgl := cell_lt a0
        have hb1 := unhide h1W _ hb
        have b0 := (hb1.cell (p := ⟨g, _, none⟩) hgl).trans a0
        have b1 := (hb1.cell (p := ⟨g, _, none⟩) hgl).trans a1
        have b2 := (hb1.cell (p := ⟨g, _, none⟩) hgl).trans a2
        have b3 := (hb1.cell (p := ⟨g, _, none⟩) hgl).trans a3
        obtain ⟨q1, q2, q3, q4⟩ := unhide AL x[k] (by simp)
        have PM := hide (fun (r : Bs) (hr : Gap r) => (unhide HK).more hget hr)
        clear a0 a1 a2 a3 HK hget
        revert b0 b1 b2 b3 q1 q2 q3 q4 PM
        generalize x[k] = t
        obtain ⟨pl, kd, sy, nv⟩ := t
        intro b0 b1 b2 b3 q1 q2 q3 q4 PM
        subst hpe
        obtain ⟨T, hT⟩ : ∃ T : ByteArray, (⟨(tokText (pl, kd, sy, nv)).toArray⟩ : ByteArray) = T := ⟨_, rfl⟩
        have hTs : T.size ≤ 1500 := by rw [← hT, mk_size]; exact q4
        have HJ : Hid (joinAns (join [(pl, kd, sy, nv)]) = .tuple #[.string T, .int .i64 0]) := by show _ = _; rw [join_one q1 (by omega), ← hT]; rfl
        have HF : Hid (Fits [(pl, kd, sy, nv)]) := by
          intro z hz
          rw [List.mem_singleton.1 hz]
          have := own_le q1
          exact ⟨Nat.le_trans this (Nat.le_trans q4 (by omega)), Int.le_trans (by omega) q2, q3⟩
        rw [hT] at PM
        clear hT q1 q2 q3 q4
        have HB2 := step0 HB1 hb
        have J1 := hide (fun W (hb : Below w.heap.size w W) => Join_b (w0 := w) _ [(pl, kd, sy, nv)] _ _ (TokRow.of_new W [(pl, kd, sy, nv)] 1 _ rfl) (by simp) (unhide HF) (hb.alloc hb.size _) (unhide HT) h5 (unhide HJ))
        clear HF HJ
        by_cases hf0 : fn = 0
        · subst hf0
          have PN := unhide PM [32] gap_blank
          have PN := hide PN
          have hs32 : ByteArray.size ⟨[32].toArray⟩ = 1 := rfl
          have hQT : (Q ++ ⟨[32].toArray⟩ ++ T).size ≤ (k + 1) * 1600 := by rw [ByteArray.size_append, ByteArray.size_append, hs32]; omega
          go_wp2_with (go_at_call 10; go_fit (unhide J1 _ HB2); rintro e w3 ⟨rfl, hb3⟩)
          go_roundw
          case rel => exact ⟨k + 1, _, by go_num, rfl, by omega, hQT, PN, step1 hb hb3⟩
          case measure => simp [intOf]; omega
        · obtain ⟨m, hm⟩ : ∃ m : Nat, m = k % fn := ⟨_, rfl⟩
          have hm1 : m < fn := by rw [hm]; exact Nat.mod_lt _ (by omega)
          have e1 : (k : Int).tmod (fn : Int) = (m : Int) := by rw [hm]; simp [Int.tmod]
          have hm2 : (m : Int) < (fn : Int) := by omega
          have hfp : 0 < (fn : Int) := by omega
          obtain ⟨gf, of, xf, rfl, hx0, hx1, hcf⟩ := unhide HFL w (Below.refl _ _) m hm1
          have hgf := cell_lt hcf
          have CF := hide (fun W (hb : Below w.heap.size w W) => (hb.cell (p := ⟨gf, _, none⟩) hgf).trans hcf)
          obtain ⟨r, hr⟩ : ∃ r : Nat, r = xf.toNat % 5 := ⟨_, rfl⟩
          have hr5 : r < 5 := by rw [hr]; exact Nat.mod_lt _ (by omega)
          have hr5' : (r : Int) < 5 := by omega
          have e2 : xf.tmod 5 = (r : Int) := by
            obtain ⟨xn, rfl⟩ : ∃ xn : Nat, xf = xn := ⟨xf.toNat, by omega⟩
            rw [hr]; simp [Int.tmod]
          obtain ⟨hgap, hlen⟩ := rows_at hr5
          have PN := hide (unhide PM _ hgap)
          have RC := hide (fun W hb => unhide HR W hb r hr5)
          clear hm hr hcf hgap PM HFL
          revert PN RC hlen
          generalize rows5.getD r [] = row
          intro hlen PN RC
          obtain ⟨R, hR⟩ : ∃ R : ByteArray, (⟨row.toArray⟩ : ByteArray) = R := ⟨_, rfl⟩
          have hRs : R.size ≤ 16 := by rw [← hR, mk_size]; exact hlen
          rw [hR] at PN RC
          clear hlen hR
          have hQT : (Q ++ R ++ T).size ≤ (k + 1) * 1600 := by rw [ByteArray.size_append, ByteArray.size_append]; omega
          go_wp2_with (go_at_call 10; go_fit (unhide J1 _ HB2); rintro e w3 ⟨rfl, hb3⟩; have c1 := unhide CF _ (step1 HB2 hb3); have c2 := unhide RC _ (step1 hb hb3))
          go_roundw
          case rel => exact ⟨k + 1, _, by go_num, rfl, by omega, hQT, PN, step1 hb hb3⟩
          case measure => simp [intOf]; omega
      · have hb1 := unhide h1W _ hb
        have HB2 := step0 HB1 hb
        by_cases hbig : 60000 < Q.size
        · have hbig' : 60000 < (Q.size : Int) := by omega
          clear HK
          go_wp2_with (go_at_call 3; refine (unhide RN _ HB2).mono ?_; rintro e wl ⟨rfl, hbl⟩)
          go_ret
          exact ⟨rfl, step0 HB2 hbl⟩
        · obtain ⟨y, hy, hby⟩ := (unhide HK).done (by omega) (fun t ht => ⟨(unhide AL t ht).1, (unhide AL t ht).2.2.1⟩ ) hmany (by omega)
          have hbig' : (Q.size : Int) ≤ 60000 := by omega
          have hYs : (Q ++ ⟨theEnd.toArray⟩).size ≤ 140737488355328 := by
            rw [ByteArray.size_append, show ByteArray.size ⟨theEnd.toArray⟩ = 7 from rfl]; omega
          have hyl : y.length = x.length := by have := congrArg List.length hby; simpa [bareT] using this
          have TK := hide (fun W => Tokens_ok (Q ++ ⟨theEnd.toArray⟩) y W hYs hy)
          rw [show theEnd.toArray = #[32, 47, 47, 32, 101, 110, 100] from rfl] at TK
          have BX := hide (fun W (hb : Below w1.heap.size w1 W) => bare_any _ x W (by omega) ((unhide HV).below hb))
          have BY := hide (fun v W (hv : TokRow W v y) => bare_any v y W (by omega) hv)
          have hbl : (bareT x).length ≤ 1000000 := by simp [bareT]; omega
          have HBY := hide hby
          clear HK AL hy hYs hby hyl
          go_wp2_with (first
            | (go_at_call 8; refine (unhide TK _).mono ?_; rintro e w3 ⟨v, rfl, hv, hb3⟩; clear TK)
            | (go_at_call 16; refine (unhide BX _ (step0 hb1 hb3)).mono ?_; rintro e w4 ⟨u1, rfl, hu1, hb4⟩; clear BX)
            | (go_at_call 16; refine (unhide BY _ _ (hv.below hb4)).mono ?_; rintro e w5 ⟨u2, rfl, hu2, hb5⟩; rw [unhide HBY] at hu2; have ST := hide (SameTok_any u1 u2 (bareT x) w5 hbl (hu1.below hb5) hu2))
            | (go_at_call 15; refine (unhide ST).mono ?_; rintro e w6 ⟨rfl, hb6⟩)
            | (go_at_call 3; refine (unhide RN _ (step0 (step0 (step0 (step0 HB2 hb3) hb4) hb5) hb6)).mono ?_; rintro e wl ⟨rfl, hbl'⟩))
          go_ret
          exact ⟨rfl, step0 (step0 (step0 (step0 (step0 HB2 hb3) hb4) hb5) hb6) hbl'⟩
  · have TK := hide (fun W => Tokens_no S p y W (by omega) (by rw [hx]))
    clear hx
    go_enter Tryd.func4, Tryd.ntmps4
    go_wp2_with (first | (go_at_call 14; refine (unhide FW).mono ?_; rintro e w' ⟨rfl, rfl⟩) | (go_at_call 8; refine (unhide TK _).mono ?_; rintro e w1 ⟨b, rfl, hr, hb1⟩; replace HB := step0 HB hb1) | (go_at_call 3; refine (unhide RN _ HB).mono ?_; rintro e wl ⟨rfl, hbl⟩))
    go_ret
    exact ⟨rfl, step0 HB hbl⟩
end Go.Proofs.YtkahhkeohmljaaaDoor
