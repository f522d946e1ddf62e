/-
  coilref1.Digits, walked: the decimal numeral.
-/
import Derived.Test.YthplgkkailieoaaGreatDoorSame
import Derived.Lib.ItoaLen
import Derived.Laws.IdiomStrings
import Derived.Deep.RegionWith
namespace Go.Proofs.YthplgkkailieoaaGreatDoor
open Go Go.RowKit Lx

theorem str1 (W : World) (b : Nat) (x : UInt8) (v : Int) (hv : v = (x.toNat : Int)) (h : W.cell? ⟨b, 0, none⟩ = some (.int .u8 v)) :
    (convert 83 9 (.slice (some ⟨b, 0, none⟩) 1 1)).run Tryz.prog W = .ok (.string ⟨#[x]⟩) W := by
  subst hv
  refine run_convert_bytes_back (P := Tryz.prog) W 83 9 5 ⟨b, 0, none⟩ 1 [x] Tryz.underlying83 Tryz.underlying5 Tryz.underlying9 fun j hj => ?_
  have : j = 0 := by simp at hj; omega
  subst this
  exact h
theorem str1_new (W : World) (x : UInt8) (v : Int) (hv : v = (x.toNat : Int)) :
    (convert 83 9 (.slice (some ⟨W.heap.size, 0, none⟩) 1 1)).run Tryz.prog (W.alloc (.cells #[.int .u8 v] 5)) = .ok (.string ⟨#[x]⟩) (W.alloc (.cells #[.int .u8 v] 5)) :=
  str1 _ _ x v hv (by rw [World.cell?_alloc_at _ _ _ _ (by rfl)]; rfl)
theorem str1_drew (W : World) (x : UInt8) (v : Int) (hv : v = (x.toNat : Int)) :
    (convert 83 9 (.slice (some ⟨W.heap.size, 0, none⟩) 1 1)).run Tryz.prog (W.alloc (.cells #[.int .u8 v] 5)).drew = .ok (.string ⟨#[x]⟩) (W.alloc (.cells #[.int .u8 v] 5)).drew :=
  str1 _ _ x v hv (by show (W.alloc (.cells #[.int .u8 v] 5)).cell? _ = _; rw [World.cell?_alloc_at _ _ _ _ (by rfl)]; rfl)
theorem str1_below {W w1 : World} (x : UInt8) (v : Int) (hv : v = (x.toNat : Int)) (hb : Below (W.alloc (.cells #[.int .u8 v] 5)).drew.heap.size (W.alloc (.cells #[.int .u8 v] 5)).drew w1) :
    (convert 83 9 (.slice (some ⟨W.heap.size, 0, none⟩) 1 1)).run Tryz.prog w1 = .ok (.string ⟨#[x]⟩) w1 :=
  str1 _ _ x v hv ((hb.cell (p := ⟨W.heap.size, 0, none⟩) (by show W.heap.size < (W.alloc _).heap.size; simp)).trans (by show (W.alloc (.cells #[.int .u8 v] 5)).cell? _ = _; rw [World.cell?_alloc_at _ _ _ _ (by rfl)]; rfl))
theorem app_one (l : Bs) (x : UInt8) : (⟨l.toArray⟩ ++ ⟨#[x]⟩ : ByteArray) = ⟨(l ++ [x]).toArray⟩ := by
  apply ByteArray.ext
  apply Array.ext'
  simp
theorem undrew {w W : World} (h : Below w.drew.heap.size w.drew W) : Below w.heap.size w W := ⟨h.os, h.tape, h.output, h.size, h.block⟩
theorem dig_byte {d : Nat} (h : d < 10) : (48 + (d : Int)) = ((UInt8.ofNat (48 + d)).toNat : Int) := by
  rw [UInt8.toNat_ofNat']; omega
set_option maxHeartbeats 1000000 in
set_option maxRecDepth 100000 in
theorem Digits_any (n : Nat) (hn : n ≤ 9223372036854775807) (w : World) :
    Calls Tryz.prog 62 #[.int .i64 n] w fun e w' => e = .returned (.string ⟨(Lib.decDigits n).toArray⟩) ∧ Below w.heap.size w w' := by
  induction n using Nat.strongRecOn generalizing w with
  | _ n ih =>
    by_cases h : n < 10
    · obtain ⟨x, hx, hv⟩ : ∃ x : UInt8, Lib.decDigits n = [x] ∧ 48 + (n : Int) = (x.toNat : Int) := ⟨_, by rw [Lib.decDigits, dif_pos h], dig_byte h⟩
      have HF := hide hx
      have kc := fun W => str1_new W x (48 + n) hv
      clear ih hv hx
      go_enter Tryz.func62, Tryz.ntmps62
      go_wp2
      go_ret
      exact ⟨by rw [unhide HF]; rfl, (Below.refl _ _).alloc (Nat.le_refl _) _⟩
    · obtain ⟨q, hq⟩ : ∃ q : Nat, q = n / 10 := ⟨_, rfl⟩
      obtain ⟨r, hr⟩ : ∃ r : Nat, r = n % 10 := ⟨_, rfl⟩
      obtain ⟨x, hx, hv⟩ : ∃ x : UInt8, Lib.decDigits n = Lib.decDigits q ++ [x] ∧ 48 + (r : Int) = (x.toNat : Int) := ⟨_, by rw [Lib.decDigits, dif_neg h, hq], by rw [hr]; exact dig_byte (by omega)⟩
      have HF := hide hx
      have IH := hide (fun W => ih q (by omega) (by omega) W)
      have HL : ByteArray.size ⟨(Lib.decDigits q).toArray⟩ ≤ 20 := by show (Lib.decDigits q).toArray.size ≤ _; rw [List.size_toArray, Lib.decDigits_length]; exact Lib.nDigits_le20 _ (by omega)
      have HL2 : (Lib.decDigits q).length ≤ 20 := by rw [Lib.decDigits_length]; exact Lib.nDigits_le20 _ (by omega)
      have kc := fun W => str1_new W x (48 + r) hv
      have kc2 := fun W => str1_drew W x (48 + r) hv
      have KD := hide (fun W w1 hb => str1_below (W := W) (w1 := w1) x (48 + r) hv hb)
      have e1 : IntKind.i64.wrap ((n : Int) / 10) = (q : Int) := by rw [IntKind.wrap_i64]; omega
      have e2 : (n : Int).tmod 10 = (r : Int) := by rw [hr]; simp [Int.tmod]
      have e3 : IntKind.i64.wrap (48 + (r : Int)) = 48 + (r : Int) := by rw [IntKind.wrap_i64]; omega
      have e4 : IntKind.u8.wrap (48 + (r : Int)) = 48 + (r : Int) := by rw [IntKind.wrap_u8]; omega
      clear ih hx hq hr hv
      go_enter Tryz.func62, Tryz.ntmps62
      go_wp2
      go_region_with (go_at_call 62; refine (unhide IH _).mono ?_; rintro e w1 ⟨rfl, hb⟩; obtain ⟨hc', hf'⟩ := bcell hb; have hz := hb.size; try (have kd := unhide KD _ _ hb))
      all_goals
        go_wp2
        go_ret
        refine ⟨by rw [unhide HF]; exact congrArg (fun s => Ending.returned (Value.string s)) (app_one _ _), ?_⟩
        first
        | exact (undrew hb).alloc hz _
        | exact ((Below.refl _ _).alloc (Nat.le_refl _) _).trans ((undrew hb).mono (by simp))
end Go.Proofs.YthplgkkailieoaaGreatDoor
