/- What frame.count does when called (a walk over the translated program): for any bytes of at most 2^46; the number's cell is its own. -/
import Derived.Test.YtfcakghegdaeoabFSpl
namespace Go.Proofs.Ytfcakghegdaeoab.Clep
open Go.RowKit
set_option linter.unusedVariables false

theorem load_any (R : Nat) (p : Int) (w : World) (h0 : w.cell? ⟨R, 0, none⟩ = some (.int .i64 p)) :
    Calls Try.prog 25 #[.pointer (some ⟨R, 0, none⟩)] w fun e w' => e = .returned (.int .i64 p) ∧ w' = w := by
  have hld := run_call_load (P := Try.prog) Try.func35 (by kernel_rfl) (by kernel_rfl) (by kernel_rfl) .i64 (by kernel_rfl) h0
  go_enter Try.func25, Try.ntmps25
  go_wp2
  go_ret
  exact ⟨rfl, rfl⟩
theorem add_any (R : Nat) (p : Int) (w : World) (h0 : w.cell? ⟨R, 0, none⟩ = some (.int .i64 p)) (hf : w.frozen? ⟨R, 0, none⟩ = false) (h1 : 0 ≤ p) (h2 : p ≤ 4611686018427387904) :
    Calls Try.prog 34 #[.pointer (some ⟨R, 0, none⟩), .int .i64 1] w fun e w' => e = .returned (.int .i64 (p + 1)) ∧ w' = w.setCell ⟨R, 0, none⟩ (.int .i64 (p + 1)) := by
  have hadd := run_call_add (P := Try.prog) Try.func38 (by kernel_rfl) (by kernel_rfl) (by kernel_rfl) .i64 (by kernel_rfl) (y := 1) (s := p + 1) h0 hf (by
    simp [go_sem, IntKind.wrap, IntKind.bits, IntKind.signed]
    omega)
  go_enter Try.func34, Try.ntmps34
  go_wp2
  go_ret
  exact ⟨rfl, rfl⟩

set_option maxHeartbeats 400000 in
theorem count_any (ao : Option Addr) (len cap R : Nat) (zs : List Int) (w : World) (hm : len ≤ 70368744177664) (hR : R < w.heap.size) (HB : ∀ W, Below R w W → Bs W ao len cap zs)
    (h0 : w.cell? ⟨R, 0, none⟩ = some (.int .i64 0)) (hf : w.frozen? ⟨R, 0, none⟩ = false) :
    Calls Try.prog 24 #[.slice ao len cap, .pointer (some ⟨R, 0, none⟩)] w fun e w' => e = .returned (.tuple #[.int .i64 ((SP zs).2.1 : Nat), .int .i64 (SP zs).2.2]) ∧ Below R w w' ∧
      w'.cell? ⟨R, 0, none⟩ = some (.int .i64 ((SP zs).1.length : Nat)) ∧ w'.frozen? ⟨R, 0, none⟩ = false := by
  have hl := hide (HB w (Below.refl _ _)).1
  have hrz := hide (bs_range (HB w (Below.refl _ _)))
  have H := hide HB
  clear HB
  go_enter Try.func24, Try.ntmps24
  go_wp2
  go_loopw [6] (fun u wr => ∃ P j : Nat, u = .int .i64 P ∧ P ≤ len ∧ j ≤ P ∧ Hid (At zs j P) ∧ Hid (Below R w wr) ∧ Hid (wr.cell? ⟨R, 0, none⟩ = some (.int .i64 j)) ∧ Hid (wr.frozen? ⟨R, 0, none⟩ = false)) (fun u _ => len - (intOf u).toNat)
  case atStart => exact ⟨0, 0, rfl, by omega, by omega, hide (At.start zs), hide (Below.refl _ _), hide h0, hide hf⟩
  case round =>
    obtain ⟨P, j, rfl, hP, hjP, hat, hbl, hcl, hfl⟩ := hrel
    by_cases hlt : P < len
    · have C := hide (check_any ao len cap zs P wr hm (H.out _ hbl.out) hP)
      have hRr : R < wr.heap.size := Nat.lt_of_lt_of_le hR hbl.out.size
      by_cases hc : ce (zs.drop P) = 0
      · have hk := ce_ok _ hc
        have hst := hat.out.step hc
        have hlr := ln_range (zs.drop P) (range_of (ByteL.drop hrz.out P))
        rw [List.length_drop, hl.out] at hk
        have hp : cp (zs.drop P) P = .agg #[.int .i64 (kd (zs.drop P)), .int .i64 (P + 8), .int .i64 (P + 8 + ln (zs.drop P))] := by unfold cp; rw [if_pos hc]; rfl
        rw [hp, hc] at C
        have HST := hide hst.1
        clear hp hst
        generalize kd (zs.drop P) = K at *
        generalize ln (zs.drop P) = L at *
        obtain ⟨N, rfl⟩ := Int.eq_ofNat_of_zero_le hlr.1
        go_wp2_with fail
        refine C.out.mono ?_
        rintro e w1 ⟨hb1, rfl⟩
        have b2 := hb1.alloc hb1.size (Obj.cells #[Value.int IntKind.i64 K, Value.int IntKind.i64 (P + 8), Value.int IntKind.i64 (P + 8 + N)] 65)
        have VP := var3_new w1 K (P + 8) (P + 8 + N)
        have c2 := (b2.cell (p := ⟨R, 0, none⟩) hRr).trans hcl.out
        have f2 := (b2.frozen (p := ⟨R, 0, none⟩) hRr).trans hfl.out
        have b2R := b2.mono (Nat.le_of_lt hRr)
        have hne : R < w1.heap.size := Nat.lt_of_lt_of_le hRr hb1.size
        have V2 := hide VP
        have B2 := hide b2R
        have C2 := hide c2
        have F2 := hide f2
        clear VP b2 b2R c2 f2 hb1 C
        go_wp2_with fail
        generalize w1.alloc (Obj.cells #[Value.int IntKind.i64 K, Value.int IntKind.i64 (P + 8), Value.int IntKind.i64 (P + 8 + N)] 65) = w2 at *
        refine (add_any R j w2 C2.out F2.out (by omega) (by omega)).mono ?_
        rintro e w3 ⟨rfl, hw3⟩
        have n0 : (⟨R, 0, none⟩ : Addr) ≠ ⟨w1.heap.size, 0, none⟩ := by intro h; injection h with h1; omega
        have n1 : (⟨R, 0, none⟩ : Addr) ≠ ⟨w1.heap.size, 1, none⟩ := by simp
        have n2 : (⟨R, 0, none⟩ : Addr) ≠ ⟨w1.heap.size, 2, none⟩ := by simp
        have q0 : w3.cell? ⟨w1.heap.size, 0, none⟩ = some (.int .i64 K) := by rw [hw3, World.cell?_setCell_other (h := n0)]; exact V2.out.1
        have q1 : w3.cell? ⟨w1.heap.size, 1, none⟩ = some (.int .i64 (P + 8)) := by rw [hw3, World.cell?_setCell_other (h := n1)]; exact V2.out.2.1
        have q2 : w3.cell? ⟨w1.heap.size, 2, none⟩ = some (.int .i64 (P + 8 + N)) := by rw [hw3, World.cell?_setCell_other (h := n2)]; exact V2.out.2.2.1
        have C3 := hide (show w3.cell? ⟨R, 0, none⟩ = some (.int .i64 ((j : Int) + 1)) by rw [hw3, World.cell?_setCell_same (h := C2.out)])
        have F3 := hide (show w3.frozen? ⟨R, 0, none⟩ = false by rw [hw3, World.frozen?_setCell]; exact F2.out)
        have B3 := hide (show Below R wr w3 by rw [hw3]; exact B2.out.setCell (Nat.le_refl _) _)
        clear hw3 n0 n1 n2 V2 B2 C2 F2
        go_wp2_with fail
        refine (next_any _ _ _ w3 (by omega) (by omega)).mono ?_
        rintro e w4 ⟨rfl, hb4⟩
        have hR3 : R < w3.heap.size := Nat.lt_of_lt_of_le hRr B3.out.size
        have C4 := hide ((hb4.cell (p := ⟨R, 0, none⟩) hR3).trans C3.out)
        have F4 := hide ((hb4.frozen (p := ⟨R, 0, none⟩) hR3).trans F3.out)
        have B4 := hide (hbl.out.trans (B3.out.trans (hb4.mono (Nat.le_of_lt hR3))))
        clear hb4 q0 q1 q2 C3 F3 B3
        go_wp2
        go_roundw
        case rel => exact ⟨P + (N + 12), j + 1, by rw [show (P : Int) + 8 + (N : Int) + 4 = ((P + (N + 12) : Nat) : Int) from by omega], by omega, by omega, HST, B4, hide (by rw [C4.out]; rfl), F4⟩
        case measure => simp [intOf]; omega
      · have hst := hat.out.stop (by rw [hl.out]; exact hlt) hc
        have hp : cp (zs.drop P) P = .agg #[.int .i64 0, .int .i64 0, .int .i64 0] := by unfold cp; rw [if_neg hc]; rfl
        rw [hp] at C
        have HST := hide hst
        clear hp hst
        generalize ce (zs.drop P) = E at *
        go_wp2_with fail
        refine C.out.mono ?_
        rintro e w1 ⟨hb1, rfl⟩
        have b2 := hb1.alloc hb1.size (Obj.cells #[Value.int IntKind.i64 0, Value.int IntKind.i64 0, Value.int IntKind.i64 0] 65)
        have C2 := hide ((b2.cell (p := ⟨R, 0, none⟩) hRr).trans hcl.out)
        have F2 := hide ((b2.frozen (p := ⟨R, 0, none⟩) hRr).trans hfl.out)
        have B2 := hide (hbl.out.trans (b2.mono (Nat.le_of_lt hRr)))
        clear b2 hb1 C
        go_wp2
        go_ret2
        exact ⟨by rw [HST.out.2.1, HST.out.2.2]; rfl, B2.out, by rw [HST.out.1]; exact C2.out, F2.out⟩
    · have h8 : P = len := by omega
      have hen := hat.out.end (by rw [hl.out]; exact h8)
      have HE := hide hen
      clear hen
      go_wp2
      go_ret2
      exact ⟨by rw [HE.out.2.1, HE.out.2.2]; rfl, hbl.out, by rw [HE.out.1]; exact hcl.out, hfl.out⟩

end Go.Proofs.Ytfcakghegdaeoab.Clep
