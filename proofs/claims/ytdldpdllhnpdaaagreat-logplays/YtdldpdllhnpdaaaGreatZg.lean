/- What the tally of package item does when called: it counts items, and those that may be; whether both numbers are one. Conditions: its two cells hold what is said. -/
import Derived.Test.YtdldpdllhnpdaaaGreatZe
import Derived.Test.YtdldpdllhnpdaaaGreatZd
import Derived.Maps.AppendAt
import Derived.Test.YtdldpdllhnpdaaaGreatZa
namespace Go.Proofs.YtdldpdllhnpdaaaGreat.Clep
open Go.RowKit
set_option linter.unusedVariables false
set_option maxRecDepth 10000

/-- The block R holds the numbers a and f, and may be written. -/
def Ta (w : World) (R : Nat) (a f : Int) : Prop := w.cell? ⟨R, 0, none⟩ = some (.int .i64 a) ∧ w.cell? ⟨R, 1, none⟩ = some (.int .i64 f) ∧ w.frozen? ⟨R, 0, none⟩ = false ∧ w.frozen? ⟨R, 1, none⟩ = false
theorem Ta.lt {w : World} {R : Nat} {a f : Int} (h : Ta w R a f) : R < w.heap.size := World.block_lt_of_cell? w _ h.1
theorem Ta.grown {w w' : World} {R : Nat} {a f : Int} {row : Option Nat} (h : Ta w R a f) (hg : w.grownBy w' row) (hne : some R ≠ row) : Ta w' R a f := by
  have hb := hg.block R h.lt hne
  exact ⟨gb_cell hg _ h.1 hne, gb_cell hg _ h.2.1 hne, (World.frozen?_of_block (a := ⟨R, 0, none⟩) (w := w) hb).trans h.2.2.1, (World.frozen?_of_block (a := ⟨R, 1, none⟩) (w := w) hb).trans h.2.2.2⟩
theorem Ta.keep {w w' : World} {R : Nat} {a f : Int} (h : Ta w R a f) (hb : Below w.heap.size w w') : Ta w' R a f := h.grown (gb_below hb none) (by simp)
theorem Ta.set0 {w : World} {R : Nat} {a f : Int} (h : Ta w R a f) (n : Int) : Ta (w.setCell ⟨R, 0, none⟩ (.int .i64 n)) R n f := by
  obtain ⟨h0, h1, f0, f1⟩ := h
  refine ⟨?_, ?_, by simpa using f0, by simpa using f1⟩
  · rw [World.cell?_setCell_same (h := h0)]
  · rw [World.cell?_setCell_other (h := by simp)]; exact h1
theorem Ta.set1 {w : World} {R : Nat} {a f : Int} (h : Ta w R a f) (n : Int) : Ta (w.setCell ⟨R, 1, none⟩ (.int .i64 n)) R a n := by
  obtain ⟨h0, h1, f0, f1⟩ := h
  refine ⟨?_, ?_, by simpa using f0, by simpa using f1⟩
  · rw [World.cell?_setCell_other (h := by simp)]; exact h0
  · rw [World.cell?_setCell_same (h := h1)]

set_option maxHeartbeats 400000 in
theorem tsum_any (R : Nat) (a f : Int) (w : World) (h : Ta w R a f) :
    Calls Tryz.prog 80 #[.pointer (some ⟨R, 0, none⟩)] w fun e w' => e = .returned (.int .i64 a) ∧ w' = w := by
  have hld := run_call_load (P := Tryz.prog) Tryz.func56 (by kernel_rfl) (by kernel_rfl) (by kernel_rfl) .i64 (by kernel_rfl) h.1
  clear h
  go_enter Tryz.func80, Tryz.ntmps80
  go_wp2
  go_ret
  exact ⟨rfl, rfl⟩
theorem load_any (R i : Nat) (a : Int) (w : World) (h : w.cell? ⟨R, i, none⟩ = some (.int .i64 a)) :
    Calls Tryz.prog 31 #[.pointer (some ⟨R, i, none⟩)] w fun e w' => e = .returned (.int .i64 a) ∧ w' = w := by
  have hld := run_call_load (P := Tryz.prog) Tryz.func56 (by kernel_rfl) (by kernel_rfl) (by kernel_rfl) .i64 (by kernel_rfl) h
  go_enter Tryz.func31, Tryz.ntmps31
  go_wp2
  go_ret
  exact ⟨rfl, rfl⟩

set_option maxHeartbeats 400000 in
theorem allfine_any (R : Nat) (a f : Int) (w : World) (h : Ta w R a f) :
    Calls Tryz.prog 70 #[.pointer (some ⟨R, 0, none⟩)] w fun e w' => e = .returned (.bool (f == a)) ∧ Below w.heap.size w w' := by
  have c0 : Hid (∀ p : Kp w, Calls Tryz.prog 31 #[.pointer (some ⟨R, 0, none⟩)] p.W fun e w'' => e = .returned (.int .i64 a) ∧ ∃ q : Kp w, w'' = q.W) := hide fun p => kp_same (load_any R 0 a _ (h.keep p.h).1)
  have c1 : Hid (∀ p : Kp w, Calls Tryz.prog 31 #[.pointer (some ⟨R, 1, none⟩)] p.W fun e w'' => e = .returned (.int .i64 f) ∧ ∃ q : Kp w, w'' = q.W) := hide fun p => kp_same (load_any R 1 f _ (h.keep p.h).2.1)
  have hne : Nonempty (Kp w) := ⟨⟨w, Below.refl _ _⟩⟩
  clear h
  go_enter Tryz.func70, Tryz.ntmps70
  go_wp2_with fail
  refine wp_region_kept (by kernel_rfl) (by kernel_rfl) ?_
  repeat (first
    | go_big_quiet_step (first | (go_at_call 31; exact c0.out _) | (go_at_call 31; exact c1.out _))
    | fail)
  refine wpQuiet_nil ?_
  intro w1 hw'
  have HB : Hid (Below w.heap.size w w1) := by
    obtain ⟨⟨w3', hb3⟩, hw''⟩ := hw'
    rw [hw'']; exact hb3
  clear hw' c0 c1 hne
  go_wp2
  go_ret
  exact ⟨rfl, HB.out⟩

theorem add_any (R i : Nat) (a y : Int) (w : World) (h : w.cell? ⟨R, i, none⟩ = some (.int .i64 a)) (hf : w.frozen? ⟨R, i, none⟩ = false) (h0 : 0 ≤ a + y) (h1 : a + y ≤ 9223372036854775807) :
    Calls Tryz.prog 29 #[.pointer (some ⟨R, i, none⟩), .int .i64 y] w fun e w' => e = .returned (.int .i64 (a + y)) ∧ w' = w.setCell ⟨R, i, none⟩ (.int .i64 (a + y)) := by
  have hadd := run_call_add (P := Tryz.prog) Tryz.func54 (by kernel_rfl) (by kernel_rfl) (by kernel_rfl) .i64 (by kernel_rfl) (y := y) (s := a + y) h hf (by
    simp [go_sem, IntKind.wrap, IntKind.bits, IntKind.signed]
    omega)
  go_enter Tryz.func29, Tryz.ntmps29
  go_wp2
  go_ret
  exact ⟨rfl, rfl⟩

set_option maxHeartbeats 800000 in
theorem count_core (R : Nat) (a f S K T V X : Int) (o : Bool) (ho : Hid (okI S K T V X = o)) (w : World) (h : Ta w R a f) (ha : 0 ≤ a ∧ a ≤ 100000) (hf : 0 ≤ f ∧ f ≤ 100000) :
    Calls Tryz.prog 69 #[.pointer (some ⟨R, 0, none⟩), .agg #[.int .i64 S, .int .i64 K, .int .u64 T, .int .u64 V, .int .i64 X]] w fun e w' =>
      e = .returned (.tuple #[]) ∧ Ta w' R (a + 1) (f + if o then 1 else 0) ∧ w.grownBy w' (some R) := by
  have hR := h.lt
  have h1 := h.keep ((Below.refl _ w).alloc (Nat.le_refl _) (Obj.cells #[Value.int IntKind.i64 S, Value.int IntKind.i64 K, Value.int IntKind.u64 T, Value.int IntKind.u64 V, Value.int IntKind.i64 X] 48))
  have T0 := hide h1
  have T1 := hide (h1.set0 (a + 1))
  have G1 := hide ((gb_below ((Below.refl _ w).alloc (Nat.le_refl _) (Obj.cells #[Value.int IntKind.i64 S, Value.int IntKind.i64 K, Value.int IntKind.u64 T, Value.int IntKind.u64 V, Value.int IntKind.i64 X] 48)) (some R)).trans (gb_set _ ⟨R, 0, none⟩ (.int .i64 (a + 1))))
  have V1 := hide ((vi_new w S K T V X).grown (gb_set _ ⟨R, 0, none⟩ (.int .i64 (a + 1))) (by simp; omega))
  clear h h1
  go_enter Tryz.func69, Tryz.ntmps69
  go_wp2_with fail
  refine (add_any R 0 a 1 _ T0.out.1 T0.out.2.2.1 (by omega) (by omega)).mono ?_
  rintro e w1 ⟨rfl, hw1⟩
  rw [← hw1] at T1 G1 V1
  clear hw1 T0
  have V2 := V1.out
  unfold Vi at V2
  obtain ⟨v0, v1, v2, v3, v4⟩ := V2
  go_wp2_with fail
  refine (ok_any S K T V X _).mono ?_
  rw [ho.out]
  rintro e w2 ⟨rfl, hb2⟩
  have T2 := hide (T1.out.keep hb2)
  have G2 := hide (G1.out.trans (gb_below hb2 (some R)))
  clear hb2 v0 v1 v2 v3 v4 V1 T1 G1
  clear ho
  cases o with
  | true =>
    go_wp2_with fail
    refine (add_any R 1 f 1 _ T2.out.2.1 T2.out.2.2.2 (by omega) (by omega)).mono ?_
    rintro e w3 ⟨rfl, rfl⟩
    go_wp2
    go_end0
    exact ⟨rfl, by simpa using T2.out.set1 (f + 1), G2.out.trans (gb_set _ ⟨R, 1, none⟩ (.int .i64 (f + 1)))⟩
  | false =>
    go_wp2
    go_end0
    exact ⟨rfl, by simpa using T2.out, G2.out⟩
theorem count_any (R : Nat) (a f S K T V X : Int) (w : World) (h : Ta w R a f) (ha : 0 ≤ a ∧ a ≤ 100000) (hf : 0 ≤ f ∧ f ≤ 100000) :
    Calls Tryz.prog 69 #[.pointer (some ⟨R, 0, none⟩), .agg #[.int .i64 S, .int .i64 K, .int .u64 T, .int .u64 V, .int .i64 X]] w fun e w' =>
      e = .returned (.tuple #[]) ∧ Ta w' R (a + 1) (f + if okI S K T V X then 1 else 0) ∧ w.grownBy w' (some R) := count_core R a f S K T V X _ (hide rfl) w h ha hf

end Go.Proofs.YtdldpdllhnpdaaaGreat.Clep

/- Plain mathematics of numbers as bytes: what Put, Take, Sign, Unsign of package num come to; what is put is taken again. No conditions. -/
namespace Go.Proofs.YtdldpdllhnpdaaaGreat.Clep
open Go.RowKit
set_option linter.unusedVariables false
set_option maxRecDepth 10000

def sgn (n : Int) : Int := if n < 0 then -2 * n - 1 else 2 * n
def usgn (n : Int) : Int := if n % 2 = 1 then -(n / 2) - 1 else n / 2
theorem sgn_range (n : Int) (h0 : -9223372036854775808 ≤ n) (h1 : n ≤ 9223372036854775807) : 0 ≤ sgn n ∧ sgn n ≤ 18446744073709551615 := by
  unfold sgn; split <;> omega
theorem usgn_range (n : Int) (h0 : 0 ≤ n) (h1 : n ≤ 18446744073709551615) : -9223372036854775808 ≤ usgn n ∧ usgn n ≤ 9223372036854775807 := by
  unfold usgn; split <;> omega
theorem usgn_sgn (n : Int) : usgn (sgn n) = n := by
  unfold usgn sgn; split <;> split <;> omega
theorem sgn_usgn (n : Int) (h0 : 0 ≤ n) : sgn (usgn n) = n := by
  unfold usgn sgn; split <;> split <;> omega
theorem sign_bits (n : Int) (h0 : -9223372036854775808 ≤ n) (h1 : n ≤ 9223372036854775807) :
    bits BinOp.xor IntKind.u64 (IntKind.u64.wrap (IntKind.u64.wrap n * 2)) (IntKind.u64.wrap (n / 9223372036854775808)) = sgn n := by
  simp only [IntKind.wrap_u64]
  unfold sgn
  by_cases hn : n < 0
  · rw [if_pos hn]
    rw [show n / 9223372036854775808 % 18446744073709551616 = ((18446744073709551615 : Nat) : Int) from by omega,
      show n % 18446744073709551616 * 2 % 18446744073709551616 = (((2 * n + 18446744073709551616).toNat : Nat) : Int) from by omega,
      u64_xor_nat _ _ (by omega) (by omega), xor_all _ (by omega)]
    omega
  · rw [if_neg hn]
    rw [show n / 9223372036854775808 % 18446744073709551616 = ((0 : Nat) : Int) from by omega,
      show n % 18446744073709551616 * 2 % 18446744073709551616 = (((2 * n).toNat : Nat) : Int) from by omega,
      u64_xor_nat _ _ (by omega) (by omega), Nat.xor_zero]
    omega
theorem i64_xor (a b : Int) : bits .xor .i64 a b = IntKind.i64.wrap ((BitVec.ofInt 64 a ^^^ BitVec.ofInt 64 b).toNat : Int) := rfl
theorem i64_xor_ones (a : Nat) (ha : a < 9223372036854775808) : bits .xor .i64 (a : Int) (-1) = -1 - (a : Int) := by
  rw [i64_xor, show BitVec.ofInt 64 (-1) = BitVec.allOnes 64 from by decide, BitVec.xor_allOnes, BitVec.toNat_not, ofInt_u64 a (by omega)]
  simp [IntKind.wrap, IntKind.bits, IntKind.signed]
  omega
theorem i64_xor_zero (a : Nat) (ha : a < 9223372036854775808) : bits .xor .i64 (a : Int) 0 = (a : Int) := by
  rw [i64_xor, show BitVec.ofInt 64 0 = 0#64 from by decide, BitVec.xor_zero, ofInt_u64 a (by omega)]
  simp [IntKind.wrap, IntKind.bits, IntKind.signed]
  omega
theorem unsign_bits (n : Int) (h0 : 0 ≤ n) (h1 : n ≤ 18446744073709551615) :
    bits BinOp.xor IntKind.i64 (n / 2) (wrap64 (-wrap64 (bits BinOp.and IntKind.u64 n 1))) = usgn n := by
  have ha : bits BinOp.and IntKind.u64 n 1 = n % 2 := by
    rw [u64_and n 1 h0 (by omega) (by omega) (by omega), show (1 : Int).toNat = 1 from rfl, nat_mask1]
    omega
  rw [ha, show n / 2 = (((n / 2).toNat : Nat) : Int) from by omega]
  unfold usgn
  by_cases hn : n % 2 = 1
  · rw [if_pos hn, hn, show wrap64 (-wrap64 1) = -1 from by decide +kernel, i64_xor_ones _ (by omega)]
    omega
  · rw [if_neg hn, show n % 2 = 0 from by omega, show wrap64 (-wrap64 0) = 0 from by decide +kernel, i64_xor_zero _ (by omega)]
    omega
def tk : List Int → Nat → Int → Int × Int × Int
  | [], _, _ => (0, 0, 4)
  | c :: r, i, n => if i = 9 ∧ 1 < c then (0, 0, 3) else if 128 ≤ c then tk r (i + 1) (n + (c - 128) * 2 ^ (7 * i))
      else if c = 0 ∧ 0 < i then (0, 0, 3) else (n + c * 2 ^ (7 * i), (i : Int) + 1, 0)
theorem tk_end (zs : List Int) (k : Nat) (n : Int) (h : zs.length ≤ k) : tk (zs.drop k) k n = (0, 0, 4) := by
  rw [List.drop_eq_nil_of_le h]; rfl
theorem tk_over (zs : List Int) (k : Nat) (n : Int) (h : k < zs.length) (h9 : k = 9) (hc : 1 < zs.getD k 0) : tk (zs.drop k) k n = (0, 0, 3) := by
  rw [drop_get zs k h, tk, if_pos ⟨h9, hc⟩]
theorem tk_more (zs : List Int) (k : Nat) (n : Int) (h : k < zs.length) (h9 : k < 9) (hc : 128 ≤ zs.getD k 0) :
    tk (zs.drop k) k n = tk (zs.drop (k + 1)) (k + 1) (n + (zs.getD k 0 - 128) * 2 ^ (7 * k)) := by
  rw [drop_get zs k h, tk, if_neg (by omega), if_pos hc]
theorem tk_zero (zs : List Int) (k : Nat) (n : Int) (h : k < zs.length) (h0 : 0 < k) (hc : zs.getD k 0 = 0) : tk (zs.drop k) k n = (0, 0, 3) := by
  rw [drop_get zs k h, tk, if_neg (by omega), if_neg (by omega), if_pos ⟨hc, h0⟩]
theorem tk_last (zs : List Int) (k : Nat) (n : Int) (h : k < zs.length) (h9 : k = 9 → zs.getD k 0 ≤ 1) (hc : zs.getD k 0 < 128) (h0 : zs.getD k 0 = 0 → k = 0) :
    tk (zs.drop k) k n = (n + zs.getD k 0 * 2 ^ (7 * k), (k : Int) + 1, 0) := by
  rw [drop_get zs k h, tk, if_neg (by omega), if_neg (by omega), if_neg (by omega)]
theorem or_shift (N c : Int) (k : Nat) (hk : k ≤ 9) (hN : 0 ≤ N ∧ N < 2 ^ (7 * k)) (h0 : 0 ≤ c) (hc : c < 256) (h9 : k = 9 → c ≤ 1) :
    bits BinOp.or IntKind.u64 N (IntKind.u64.wrap (IntKind.u64.wrap (bits BinOp.andNot IntKind.u8 c 128) * 2 ^ (7 * k))) = N + (c % 128) * 2 ^ (7 * k) := by
  obtain ⟨C, rfl⟩ := Int.eq_ofNat_of_zero_le h0
  obtain ⟨M, rfl⟩ := Int.eq_ofNat_of_zero_le hN.1
  have e1 : bits BinOp.andNot IntKind.u8 (C : Int) 128 = ((C % 128 : Nat) : Int) := by
    rw [show (128 : Int) = ((128 : Nat) : Int) from rfl, u8_andNot_nat C 128 (by omega) (by omega), show 255 - 128 = 127 from rfl, nat_mask7]
  have hp : (2 : Nat) ^ (7 * k) ≤ 2 ^ 63 := Nat.pow_le_pow_right (by omega) (by omega)
  have hd : C % 128 * 2 ^ (7 * k) < 18446744073709551616 := by
    by_cases h : k = 9
    · subst h; have := h9 rfl; have hC : C ≤ 1 := by omega
      have : C % 128 ≤ 1 := by omega
      calc C % 128 * 2 ^ (7 * 9) ≤ 1 * 2 ^ (7 * 9) := Nat.mul_le_mul_right _ this
        _ < 18446744073709551616 := by decide
    · have hp' : (2 : Nat) ^ (7 * k) ≤ 2 ^ 56 := Nat.pow_le_pow_right (by omega) (by omega)
      calc C % 128 * 2 ^ (7 * k) ≤ 127 * 2 ^ 56 := Nat.mul_le_mul (by omega) hp'
        _ < 18446744073709551616 := by decide
  have hM : M < 2 ^ (7 * k) := by have := hN.2; exact_mod_cast this
  rw [e1, IntKind.wrap_u64, IntKind.wrap_u64]
  rw [show ((C % 128 : Nat) : Int) % 18446744073709551616 = ((C % 128 : Nat) : Int) from by omega,
    show ((C % 128 : Nat) : Int) * 2 ^ (7 * k) = ((C % 128 * 2 ^ (7 * k) : Nat) : Int) from by push_cast; rfl,
    show ((C % 128 * 2 ^ (7 * k) : Nat) : Int) % 18446744073709551616 = ((C % 128 * 2 ^ (7 * k) : Nat) : Int) from by omega,
    u64_or_nat M _ (by omega) hd, Nat.or_comm, nat_join (7 * k) _ _ (Nat.mul_mod_left _ _) hM]
  push_cast
  omega
theorem shift_lt (N c : Int) (k : Nat) (hN : 0 ≤ N ∧ N < 2 ^ (7 * k)) (h0 : 128 ≤ c) (hc : c < 256) : 0 ≤ N + (c - 128) * 2 ^ (7 * k) ∧ N + (c - 128) * 2 ^ (7 * k) < 2 ^ (7 * (k + 1)) := by
  obtain ⟨C, hC⟩ := Int.eq_ofNat_of_zero_le (show 0 ≤ c - 128 by omega)
  obtain ⟨M, rfl⟩ := Int.eq_ofNat_of_zero_le hN.1
  have hM : M < 2 ^ (7 * k) := by have := hN.2; exact_mod_cast this
  rw [hC, show ((M : Int) + (C : Int) * 2 ^ (7 * k)) = ((M + C * 2 ^ (7 * k) : Nat) : Int) from by push_cast; rfl]
  refine ⟨by omega, ?_⟩
  have h1 : C * 2 ^ (7 * k) ≤ 127 * 2 ^ (7 * k) := Nat.mul_le_mul_right _ (by omega)
  have h2 : (2 : Nat) ^ (7 * (k + 1)) = 128 * 2 ^ (7 * k) := by rw [show 7 * (k + 1) = 7 * k + 7 from by omega, Nat.pow_add]; omega
  have : M + C * 2 ^ (7 * k) < 2 ^ (7 * (k + 1)) := by omega
  exact_mod_cast this
theorem and_high (c : Int) (h0 : 0 ≤ c) (hc : c < 256) : (bits BinOp.and IntKind.u8 c 128 != 0) = decide (128 ≤ c) := by
  obtain ⟨C, rfl⟩ := Int.eq_ofNat_of_zero_le h0
  rw [show (128 : Int) = ((128 : Nat) : Int) from rfl, u8_and_nat C 128 (by omega) (by omega), show (128 : Nat) = 2 ^ 7 from rfl, nat_bit 7 C]
  by_cases h : 128 ≤ C
  · rw [show C / 2 ^ 7 % 2 = 1 from by omega]; simp; omega
  · rw [show C / 2 ^ 7 % 2 = 0 from by omega]; simp; omega
def enc : Nat → Int → List Int
  | 0, n => [n]
  | f + 1, n => if n < 128 then [n] else (n % 128 + 128) :: enc f (n / 128)
/-- What Put writes of n. -/
def pu (n : Int) : List Int := enc 9 n
theorem enc_small (f : Nat) (n : Int) (h : n < 128) : enc f n = [n] := by
  cases f with
  | zero => rfl
  | succ f => rw [enc, if_pos h]
theorem enc_big (f : Nat) (n : Int) (h : 128 ≤ n) : enc (f + 1) n = (n % 128 + 128) :: enc f (n / 128) := by
  rw [enc, if_neg (by omega)]
theorem fuel_step (f : Nat) (n : Int) (h0 : 128 ≤ n) (h : n < 128 ^ (f + 1)) : ∃ g, f = g + 1 ∧ n / 128 < 128 ^ (g + 1) := by
  cases f with
  | zero => exact absurd h (by simp; omega)
  | succ g =>
    refine ⟨g, rfl, ?_⟩
    have e : (128 : Int) ^ (g + 1 + 1) = 128 ^ (g + 1) * 128 := Int.pow_succ _ _
    rw [e] at h
    generalize (128 : Int) ^ (g + 1) = q at *
    omega
theorem u64_fuel (n : Int) (h : n ≤ 18446744073709551615) : n < 128 ^ (9 + 1) := by
  have : (128 : Int) ^ (9 + 1) = 1180591620717411303424 := by decide
  omega
theorem enc_len : ∀ (f : Nat) (n : Int), 1 ≤ (enc f n).length ∧ (enc f n).length ≤ f + 1
  | 0, n => by simp [enc]
  | f + 1, n => by
    have := enc_len f (n / 128)
    rw [enc]; split <;> simp; omega
theorem enc_range : ∀ (f : Nat) (n : Int), 0 ≤ n → n < 128 ^ (f + 1) → ∀ z ∈ enc f n, 0 ≤ z ∧ z < 256
  | 0, n, h0, h, z, hz => by simp [enc] at hz; subst hz; simp at h; omega
  | f + 1, n, h0, h, z, hz => by
    by_cases hs : n < 128
    · rw [enc_small _ _ hs] at hz; simp at hz; subst hz; omega
    · rw [enc_big _ _ (by omega)] at hz
      obtain ⟨g, hg, hlt⟩ := fuel_step (f + 1) n (by omega) h
      obtain rfl : f = g := by omega
      rcases List.mem_cons.1 hz with rfl | hz
      · omega
      · exact enc_range f (n / 128) (by omega) hlt z hz
theorem or_high (n : Int) (h0 : 0 ≤ n) : bits BinOp.or IntKind.u8 (IntKind.u8.wrap n) 128 = n % 128 + 128 := by
  rw [IntKind.wrap_u8']
  obtain ⟨N, rfl⟩ := Int.eq_ofNat_of_zero_le h0
  rw [show (128 : Int) = ((128 : Nat) : Int) from rfl, show ((N : Int) % 256) = ((N % 256 : Nat) : Int) from by omega, u8_or_nat _ _ (by omega) (by omega)]
  have h1 : N % 256 ||| 128 = N % 128 + 128 := by
    have hj : (128 : Nat) ||| N % 128 = 128 + N % 128 := nat_join 7 128 (N % 128) (by decide) (by omega)
    by_cases hb : N % 256 < 128
    · rw [show N % 256 = N % 128 from by omega, Nat.or_comm, hj]; omega
    · have h2 : (128 : Nat) ||| N % 128 = N % 256 := by rw [hj]; omega
      rw [← h2, Nat.or_comm, ← Nat.or_assoc, Nat.or_self, hj]; omega
  rw [h1]; omega
theorem pow7 (i : Nat) : (2 : Int) ^ (7 * (i + 1)) = 128 * 2 ^ (7 * i) := by
  rw [show 7 * (i + 1) = 7 * i + 7 from by omega, Int.pow_add]
  rw [Int.mul_comm]; rfl
theorem pow7_pos (i : Nat) : (0 : Int) < 2 ^ (7 * i) := Int.pow_pos (by omega)
/-- All of hi go on; the last one ends. -/
theorem enc_split : ∀ (f : Nat) (n : Int), 0 ≤ n → n < 128 ^ (f + 1) → ∃ hi last, enc f n = hi ++ [last] ∧ (∀ z ∈ hi, 128 ≤ z ∧ z < 256) ∧ 0 ≤ last ∧ last < 128 ∧ hi.length ≤ f
  | 0, n, h0, h => ⟨[], n, by simp [enc], by simp, h0, by simpa using h, by simp⟩
  | f + 1, n, h0, h => by
    by_cases hs : n < 128
    · exact ⟨[], n, by simp [enc_small _ _ hs], by simp, h0, hs, by simp⟩
    · obtain ⟨g, hg, hlt⟩ := fuel_step (f + 1) n (by omega) h
      obtain rfl : f = g := by omega
      obtain ⟨hi, last, e, hh, h1, h2, h3⟩ := enc_split f (n / 128) (by omega) hlt
      refine ⟨(n % 128 + 128) :: hi, last, by rw [enc_big _ _ (by omega), e]; rfl, ?_, h1, h2, by simp; omega⟩
      intro z hz
      rcases List.mem_cons.1 hz with rfl | hz
      · omega
      · exact hh z hz
theorem tk_highs : ∀ (l r : List Int) (i : Nat) (n : Int), (∀ z ∈ l, 128 ≤ z) → i + l.length ≤ 9 → ∃ n', tk (l ++ r) i n = tk r (i + l.length) n'
  | [], r, i, n, _, _ => ⟨n, by simp⟩
  | c :: l, r, i, n, h, hl => by
    simp only [List.length_cons] at hl
    obtain ⟨n', e⟩ := tk_highs l r (i + 1) (n + (c - 128) * 2 ^ (7 * i)) (fun z hz => h z (List.mem_cons_of_mem _ hz)) (by omega)
    refine ⟨n', ?_⟩
    rw [List.cons_append, tk, if_neg (by omega), if_pos (h c (by simp)), e]
    simp only [List.length_cons]
    rw [show i + 1 + l.length = i + (l.length + 1) from by omega]
theorem tk_enc : ∀ (f : Nat) (n : Int) (i : Nat) (acc : Int) (r : List Int), 0 ≤ n → n < 128 ^ (f + 1) → n * 2 ^ (7 * i) ≤ 18446744073709551615 → (n = 0 → i = 0) → i ≤ 9 →
    tk (enc f n ++ r) i acc = (acc + n * 2 ^ (7 * i), (i : Int) + (enc f n).length, 0)
  | f, n, i, acc, r, h0, h, hb, hz, hi => by
    have h9 : i = 9 → n ≤ 1 := by
      intro e; subst e
      rw [show (2 : Int) ^ (7 * 9) = 9223372036854775808 from by decide] at hb
      omega
    by_cases hs : n < 128
    · rw [enc_small _ _ hs]
      show tk (n :: r) i acc = _
      rw [tk, if_neg (by omega), if_neg (by omega), if_neg (by omega)]
      rfl
    · cases f with
      | zero => simp at h; omega
      | succ f =>
        obtain ⟨g, hg, hlt⟩ := fuel_step (f + 1) n (by omega) h
        obtain rfl : f = g := by omega
        have hp := pow7_pos i
        have hq := pow7 i
        have e1 : n * 2 ^ (7 * i) = (n % 128) * 2 ^ (7 * i) + n / 128 * 2 ^ (7 * (i + 1)) := by
          rw [hq, ← Int.mul_assoc, ← Int.add_mul]
          congr 1; omega
        have hnn : 0 ≤ (n % 128) * 2 ^ (7 * i) := Int.mul_nonneg (by omega) (by omega)
        rw [enc_big _ _ (by omega), List.cons_append, tk, if_neg (by omega), if_pos (by omega),
          tk_enc f (n / 128) (i + 1) _ r (by omega) hlt (by omega) (by omega) (by omega)]
        rw [show n % 128 + 128 - 128 = n % 128 from by omega, Int.add_assoc, ← e1]
        simp only [List.length_cons]
        refine Prod.ext rfl (Prod.ext ?_ rfl)
        simp only
        omega
theorem tk_pu (n : Int) (r : List Int) (h0 : 0 ≤ n) (h1 : n ≤ 18446744073709551615) : tk (pu n ++ r) 0 0 = (n, ((pu n).length : Int), 0) := by
  have := tk_enc 9 n 0 0 r h0 (u64_fuel n h1) (by simpa using h1) (fun _ => rfl) (by omega)
  unfold pu
  rw [this]
  simp
theorem pu_range (n : Int) (h0 : 0 ≤ n) (h1 : n ≤ 18446744073709551615) : ∀ z ∈ pu n, 0 ≤ z ∧ z < 256 := enc_range 9 n h0 (u64_fuel n h1)
theorem pu_len (n : Int) : 1 ≤ (pu n).length ∧ (pu n).length ≤ 10 := enc_len 9 n
theorem tk_size : ∀ (zs : List Int) (i : Nat) (n : Int), i ≤ 9 → 0 ≤ (tk zs i n).2.1 ∧ (tk zs i n).2.1 ≤ 10 ∧ (tk zs i n).2.1 ≤ i + zs.length
  | [], i, n, _ => by simp only [tk, List.length_nil]; omega
  | c :: r, i, n, hi => by
    rw [tk]
    simp only [List.length_cons]
    split
    · simp only; omega
    · split
      · rename_i h1 h2
        have := tk_size r (i + 1) (n + (c - 128) * 2 ^ (7 * i)) (by omega)
        omega
      · split <;> simp only <;> omega
/-- What a Take leaves: no error, or one; the number fits; it took a byte at least, and no more than there are. -/
theorem tk_facts : ∀ (zs : List Int) (i : Nat) (n : Int), i ≤ 9 → (∀ z ∈ zs, 0 ≤ z ∧ z < 256) → 0 ≤ n → n < 2 ^ (7 * i) →
    0 ≤ (tk zs i n).1 ∧ (tk zs i n).1 ≤ 18446744073709551615 ∧ ((tk zs i n).2.2 = 0 → (i : Int) + 1 ≤ (tk zs i n).2.1)
  | [], i, n, _, _, _, _ => by simp [tk]
  | c :: r, i, n, hi, hz, h0, hn => by
    have hc := hz c (by simp)
    rw [tk]
    split
    · simp
    · split
      · rename_i h1 h2
        have hs := shift_lt n c i ⟨h0, hn⟩ h2 (by omega)
        have := tk_facts r (i + 1) (n + (c - 128) * 2 ^ (7 * i)) (by omega) (fun z hz' => hz z (by simp [hz'])) hs.1 hs.2
        omega
      · split
        · simp
        · rename_i h1 h2 h3
          have hp := pow7_pos i
          have hnn : 0 ≤ c * 2 ^ (7 * i) := Int.mul_nonneg hc.1 (by omega)
          refine ⟨by simp only; omega, ?_, fun _ => by simp only; omega⟩
          simp only
          by_cases h9 : i = 9
          · subst h9
            have hc1 : c ≤ 1 := by omega
            rw [show (2 : Int) ^ (7 * 9) = 9223372036854775808 from by decide] at *
            omega
          · have h8 : (2 : Int) ^ (7 * i) ≤ 2 ^ 56 := by
              have : (2 : Nat) ^ (7 * i) ≤ 2 ^ 56 := Nat.pow_le_pow_right (by omega) (by omega)
              exact_mod_cast this
            have hm : c * 2 ^ (7 * i) ≤ 127 * 2 ^ (7 * i) := Int.mul_le_mul_of_nonneg_right (by omega) (by omega)
            rw [show (2 : Int) ^ 56 = 72057594037927936 from by decide] at h8
            omega

end Go.Proofs.YtdldpdllhnpdaaaGreat.Clep

/- What num.Take, num.Sign and num.Unsign do when called: for any bytes, any whole number. No conditions. -/
namespace Go.Proofs.YtdldpdllhnpdaaaGreat.Clep
open Go.RowKit
set_option linter.unusedVariables false
set_option maxRecDepth 10000

theorem sign_any (n : Int) (w : World) (h0 : -9223372036854775808 ≤ n) (h1 : n ≤ 9223372036854775807) :
    Calls Tryz.prog 85 #[.int .i64 n] w fun e w' => e = .returned (.int .u64 (sgn n)) ∧ w' = w := by
  have hb := sign_bits n h0 h1
  have HB : Hid (bits BinOp.xor IntKind.u64 (IntKind.u64.wrap (IntKind.u64.wrap n * 2)) (IntKind.u64.wrap (n / 9223372036854775808)) = sgn n) := hide hb
  clear hb
  go_enter Tryz.func85, Tryz.ntmps85
  go_wp2
  go_ret
  exact ⟨ret_eq (congrArg (Value.int IntKind.u64) HB.out), rfl⟩
theorem unsign_any (n : Int) (w : World) (h0 : 0 ≤ n) (h1 : n ≤ 18446744073709551615) :
    Calls Tryz.prog 101 #[.int .u64 n] w fun e w' => e = .returned (.int .i64 (usgn n)) ∧ w' = w := by
  have hb := unsign_bits n h0 h1
  have HB : Hid (bits BinOp.xor IntKind.i64 (n / 2) (wrap64 (-wrap64 (bits BinOp.and IntKind.u64 n 1))) = usgn n) := hide hb
  clear hb
  go_enter Tryz.func101, Tryz.ntmps101
  go_wp2
  go_ret
  exact ⟨ret_eq (congrArg (Value.int IntKind.i64) HB.out), rfl⟩
def tup (r : Int × Int × Int) : Value := .tuple #[.int .u64 r.1, .int .i64 r.2.1, .int .i64 r.2.2]
set_option maxHeartbeats 800000 in
theorem take_core (ao : Option Addr) (len cap : Nat) (zs : List Int) (w : World) (r : Int × Int × Int) (hr : Hid (tk zs 0 0 = r)) (hm : len ≤ 9223372036854775807) (hl : Hid (zs.length = len))
    (hz : Hid (∀ i, 0 ≤ zs.getD i 0 ∧ zs.getD i 0 < 256))
    (hc : Hid (0 < len → ∃ b off, ao = some ⟨b, off, none⟩ ∧ ∀ i, i < len → w.cell? ⟨b, off + i, none⟩ = some (.int .u8 (zs.getD i 0)))) :
    Calls Tryz.prog 99 #[.slice ao len cap] w fun e w' => e = .returned (tup r) ∧ w' = w := by
  go_enter Tryz.func99, Tryz.ntmps99
  go_wp2
  go_loop [2, 9] (fun n i => ∃ k : Nat, ∃ N : Int, k ≤ len ∧ k ≤ 9 ∧ i = .int .i64 k ∧ n = .int .u64 N ∧ Hid (tk (zs.drop k) k N = r) ∧ Hid (0 ≤ N ∧ N < 2 ^ (7 * k))) (fun _ i => len - (intOf i).toNat)
  case atStart => exact ⟨0, 0, Nat.zero_le _, by omega, rfl, rfl, hide (by simpa using hr.out), hide (by simp)⟩
  case round =>
    obtain ⟨k, N, hk, hk9, rfl, rfl, hT, hN⟩ := hrel
    by_cases hlt : k < len
    · obtain ⟨b, off, rfl, hcc⟩ := hc.out (by omega)
      have hck := hcc k hlt
      have hzk := hz.out k
      have hkl : Hid (k < zs.length) := hide (by rw [hl.out]; exact hlt)
      have ha := and_high (zs.getD k 0) hzk.1 hzk.2
      have HO := hide (fun h9 => or_shift N (zs.getD k 0) k hk9 hN.out hzk.1 hzk.2 h9)
      have HX := hide (fun h9 hc => tk_over zs k N hkl.out h9 hc)
      have HM := hide (fun h9 hc => tk_more zs k N hkl.out h9 hc)
      have HZ := hide (fun h0 hc => tk_zero zs k N hkl.out h0 hc)
      have HL := hide (fun h9 hc h0 => tk_last zs k N hkl.out h9 hc h0)
      have HS := hide (fun h0 hc => shift_lt N (zs.getD k 0) k hN.out h0 hc)
      clear hcc
      generalize zs.getD k 0 = c at *
      by_cases h9 : k = 9
      · have h9b : ((k : Int) == 9) = true := by simp; omega
        have H9 := hide h9
        clear h9
        by_cases hc1 : 1 < c
        · go_wp2
          go_ret3
          exact ⟨ret_eq (by have := hT.out; rw [HX.out H9.out hc1] at this; subst this; rfl), rfl⟩
        · have hcn : ¬ 128 ≤ c := by omega
          rw [decide_eq_false hcn] at ha
          by_cases hc0 : c = 0
          · have hcb : (c == 0) = true := by simp [hc0]
            have H0 := hide hc0
            have hkp : (0 : Int) < (k : Int) := by have := H9.out; omega
            clear hc0
            go_wp2
            go_ret3
            exact ⟨ret_eq (by have := hT.out; rw [HZ.out (by have := H9.out; omega) H0.out] at this; subst this; rfl), rfl⟩
          · have hcb : (c == 0) = false := by simp; omega
            go_wp2
            go_ret3
            refine ⟨ret_eq ?_, rfl⟩
            have := hT.out
            rw [HL.out (by omega) (by omega) (by omega)] at this
            subst this
            have e := HO.out (by omega)
            rw [show c % 128 = c from by omega] at e
            simp only [tup]
            rw [← e]
            rfl
      · have hk9b : ((k : Int) == 9) = false := by simp; omega
        by_cases hc1 : 128 ≤ c
        · rw [decide_eq_true hc1] at ha
          go_wp2
          go_round
          case rel =>
            have e := HO.out (by omega)
            rw [show c % 128 = c - 128 from by omega] at e
            exact ⟨k + 1, _, by omega, by omega, by go_num, rfl, hide (by rw [e, ← HM.out (by omega) hc1]; exact hT.out), hide (by rw [e]; exact HS.out hc1 (by omega))⟩
          case measure => simp [intOf]; omega
        · rw [decide_eq_false hc1] at ha
          by_cases hz0 : c = 0 ∧ 0 < k
          · have hcb : (c == 0) = true := by simp [hz0.1]
            have hkp : (0 : Int) < (k : Int) := by omega
            have H0 := hide hz0
            clear hz0
            go_wp2
            go_ret3
            exact ⟨ret_eq (by have := hT.out; rw [HZ.out H0.out.2 H0.out.1] at this; subst this; rfl), rfl⟩
          · have H0 := hide hz0
            clear hz0
            have hlast := hide (HL.out (by omega) (by omega) (by have := H0.out; omega))
            have hor := HO.out (by omega)
            rw [show c % 128 = c from by omega] at hor
            have HR := hide hor
            clear hor
            by_cases hc0 : c = 0
            · have hcb : (c == 0) = true := by simp [hc0]
              have hkp : ¬ (0 : Int) < (k : Int) := by have := H0.out; omega
              clear hc0
              go_wp2
              go_ret3
              refine ⟨ret_eq ?_, rfl⟩
              have := hT.out
              rw [hlast.out] at this
              subst this
              simp only [tup]
              rw [← HR.out]
              rfl
            · have hcb : (c == 0) = false := by simp; omega
              go_wp2
              go_ret3
              refine ⟨ret_eq ?_, rfl⟩
              have := hT.out
              rw [hlast.out] at this
              subst this
              simp only [tup]
              rw [← HR.out]
              rfl
    · go_wp2
      go_ret3
      have := hT.out
      rw [tk_end zs k N (by have := hl.out; omega)] at this
      subst this
      exact ⟨rfl, rfl⟩
theorem take_any (ao : Option Addr) (len cap : Nat) (zs : List Int) (w : World) (hm : len ≤ 9223372036854775807) (h : Bs w ao len cap zs) :
    Calls Tryz.prog 99 #[.slice ao len cap] w fun e w' => e = .returned (tup (tk zs 0 0)) ∧ w' = w :=
  take_core ao len cap zs w _ (hide rfl) hm (hide h.1) (hide h.2.2.1) (hide h.2.2.2)
theorem take_none (ao : Option Addr) (cap : Nat) (w : World) : Calls Tryz.prog 99 #[.slice ao 0 cap] w fun e w' => e = .returned (tup (0, 0, 4)) ∧ w' = w :=
  take_core ao 0 cap [] w _ (hide rfl) (by omega) (hide rfl) (hide (range_of (by simp))) (hide fun h => by omega)

end Go.Proofs.YtdldpdllhnpdaaaGreat.Clep

/- What num.room, num.grow and num.Put do when called: for any bytes of at most 2^46, any number. -/
namespace Go.Proofs.YtdldpdllhnpdaaaGreat.Clep
open Go.RowKit
set_option linter.unusedVariables false
set_option maxRecDepth 10000

set_option maxHeartbeats 400000 in
theorem room_any (ao : Option Addr) (len cap : Nat) (zs : List Int) (w : World) (n : Int) (h0 : 0 ≤ n) (h1 : n ≤ 1000000) (hm : len ≤ 70368744177664) (h : Bs w ao len cap zs) :
    Calls Tryz.prog 84 #[.slice ao len cap, .int .i64 n] w fun e w' => ∃ v, e = .returned v ∧ Own w' w.heap.size v zs ∧ Below w.heap.size w w' := by
  obtain ⟨i0, hi, hz0, hz1, hz2⟩ := info_parts info5
  have hcs := hide (bs_cells h)
  have hnl := hide h.2.1.2
  have hzl := hide h.1
  clear h
  go_enter Tryz.func84, Tryz.ntmps84
  go_wp2_with (first
    | (at_make; refine wpList_make_own _ rfl _ _ 40 rfl w.heap.size 5 i0 (.int .u8 0) 1 Tryz.underlying40 hi hz0 hz1 .i64 .i64 _ (len + n.toNat) rfl rfl ?c1 ?c2 ?c3 ?c4 ?_)
    | fail)
  case c1 => omega
  case c2 => rw [hz2]; omega
  case c3 => unfold maxLen; omega
  case c4 => exact Nat.le_refl _
  intro w1 hown hg
  have hb1 : Hid (Below w.heap.size w w1) := hide ((Below.refl _ _).grown hg (Nat.le_refl _) (fun k hk => by cases hk))
  have HG := hide hg
  clear hg
  go_wp2_with (first
    | (at_builtin; refine wpList_append_fits_any _ rfl (.tmp 11) (.tmp 12) 40 rfl w.heap.size 5 i0 1 Tryz.underlying40 hi hz1 w.heap.size 0 (len + n.toNat) [] rfl hown ao len cap (bv zs) rfl ?d1 ?d2 ?d3 ?d4 ?d5 ?_)
    | fail)
  case d1 => rw [bv_len, hzl.out]; omega
  case d2 => exact hnl.out
  case d3 =>
    intro ad had j u hu
    exact HG.out.cell (hcs.out ad had j u hu) (by intro h; cases h)
  case d4 => exact bv_one zs
  case d5 => omega
  intro w2 hown2 hg2
  have hb2 := hide (hb1.out.grown hg2 hb1.out.size (fun k hk => by cases hk; exact Nat.le_refl _))
  have HO := hide hown2
  clear hg2 hown2 hown
  go_wp2
  go_ret
  refine ⟨_, rfl, ?_, hb2.out⟩
  have := HO.out
  unfold Own
  rw [hzl.out]
  first | exact this | simpa using this
set_option maxHeartbeats 400000 in
theorem grow_any (v : Value) (xs : List Int) (B : Nat) (w : World) (n : Int) (h0 : 0 ≤ n) (h1 : n ≤ 18446744073709551615) (hm : xs.length ≤ 100000000000000) (h : Own w B v xs) (hB : B ≤ w.heap.size) :
    Calls Tryz.prog 83 #[v, .int .u64 n] w fun e w' => ∃ v', e = .returned v' ∧ Own w' B v' (xs ++ pu n) ∧ Below B w w' := by
  obtain ⟨i0, hi, hz0, hz1, hz2⟩ := info_parts info5
  have H := hide h
  have hfu := hide (u64_fuel n h1)
  clear h
  go_enter Tryz.func83, Tryz.ntmps83
  go_wp2
  go_loopw [0, 1] (fun u m wr => ∃ (f : Nat) (N : Int) (ys : List Int), m = .int .u64 N ∧ 0 ≤ N ∧ N ≤ 18446744073709551615 ∧ ys.length + f ≤ xs.length + 9 ∧ Hid (N < 128 ^ (f + 1)) ∧
      Hid (ys ++ enc f N = xs ++ pu n) ∧ Hid (Own wr B u ys) ∧ Hid (Below B w wr)) (fun _ m _ => (intOf m).toNat)
  case atStart => exact ⟨9, n, xs, rfl, h0, h1, by omega, hfu, hide rfl, H, hide (Below.refl _ _)⟩
  case round =>
    obtain ⟨f, N, ys, rfl, hN0, hN1, hf, hfu2, he, hown, hbel⟩ := hrel
    by_cases hb : 128 ≤ N
    · obtain ⟨g, hg1, hg2⟩ := fuel_step f N hb hfu2.out
      have HG := hide hg1
      have HG2 := hide hg2
      have hsz := hide hbel.out.size
      have HOR := hide (or_high N hN0)
      clear hg1 hg2
      go_wp2_with (first
        | (at_builtin; refine wpList_append_own _ rfl _ _ 40 rfl B 5 i0 (.int .u8 0) 1 1 Tryz.underlying40 hi hz0 hz1 hz2 rfl (by decide) _ _ _ rfl (hown.out.alloc _) ⟨wr.heap.size, 0, none⟩ 1 1 [.int .u8 (bits BinOp.or IntKind.u8 (IntKind.u8.wrap N) 128)] rfl rfl ?c1 ?c2 ?c3 ?c4 ?c5 ?_)
        | fail)
      case c1 => exact cell_one_new _ _ _
      case c2 => intro u hu; simp at hu; subst hu; rfl
      case c3 => unfold maxLen; omega
      case c4 => omega
      case c5 => have := hsz.out; simp; omega
      intro v' w1 hown' hgrow _
      have HW := hide hown'
      have HW2 := hide hgrow
      clear hown' hgrow
      go_wp2
      go_roundw
      case rel =>
        have hw := HW.out
        rw [HOR.out] at hw
        exact ⟨g, _, ys ++ [N % 128 + 128], rfl, by omega, by omega, by have := HG.out; simp; omega, HG2, hide (by rw [← he.out, HG.out, enc_big g N hb]; simp), hide (own_snoc hw), hide (below_step hbel.out (by have := hsz.out; omega) hown.out HW2.out)⟩
      case measure => simp [intOf]; omega
    · have hsz := hide hbel.out.size
      go_wp2_with (first
        | (at_builtin; refine wpList_append_own _ rfl _ _ 40 rfl B 5 i0 (.int .u8 0) 1 1 Tryz.underlying40 hi hz0 hz1 hz2 rfl (by decide) _ _ _ rfl (hown.out.alloc _) ⟨wr.heap.size, 0, none⟩ 1 1 [.int .u8 N] rfl rfl ?e1 ?e2 ?e3 ?e4 ?e5 ?_)
        | fail)
      case e2 => rfl
      case e3 => unfold maxLen; omega
      case e4 => omega
      case e5 => have := hsz.out; simp; omega
      intro v' w1 hown' hgrow _
      have HW := hide hown'
      have HW2 := hide hgrow
      clear hown' hgrow
      go_wp2
      go_ret
      refine ⟨_, rfl, ?_, below_step hbel.out (by have := hsz.out; omega) hown.out HW2.out⟩
      rw [← he.out, enc_small f N (by omega)]
      exact own_snoc HW.out
set_option maxHeartbeats 400000 in
theorem put_any (ao : Option Addr) (len cap : Nat) (zs : List Int) (w : World) (n : Int) (h0 : 0 ≤ n) (h1 : n ≤ 18446744073709551615) (hm : len ≤ 70368744177664) (h : Bs w ao len cap zs) :
    Calls Tryz.prog 71 #[.slice ao len cap, .int .u64 n] w fun e w' => ∃ v, e = .returned v ∧ Own w' w.heap.size v (zs ++ pu n) ∧ Below w.heap.size w w' := by
  have hzl := hide h.1
  have H := hide h
  clear h
  go_enter Tryz.func71, Tryz.ntmps71
  go_wp2_with fail
  refine (room_any ao len cap zs w 10 (by omega) (by omega) hm H.out).mono ?_
  rintro e w1 ⟨v, rfl, ho, hb⟩
  have HO := hide ho
  have HB := hide hb
  clear ho hb
  go_wp2_with fail
  refine (grow_any v zs w.heap.size w1 n h0 h1 (by have := hzl.out; omega) HO.out HB.out.size).mono ?_
  rintro e w2 ⟨v', rfl, ho2, hb2⟩
  have HO2 := hide ho2
  have HB2 := hide hb2
  clear ho2 hb2
  go_wp2
  go_ret
  exact ⟨_, rfl, HO2.out, HB.out.trans HB2.out⟩

end Go.Proofs.YtdldpdllhnpdaaaGreat.Clep

/- What num.Eight does when called: for any bytes of at most 2^46, any number. -/
namespace Go.Proofs.YtdldpdllhnpdaaaGreat.Clep
open Go.RowKit
set_option linter.unusedVariables false

end Go.Proofs.YtdldpdllhnpdaaaGreat.Clep
