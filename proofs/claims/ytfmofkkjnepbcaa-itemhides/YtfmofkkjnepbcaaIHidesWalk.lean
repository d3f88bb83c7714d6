/- The statement ItemHides, walked: for any numbers. No conditions. -/
import Derived.Test.YtfmofkkjnepbcaaILaw
namespace Go.Proofs.Ytfmofkkjnepbcaa.Clep
open Go.RowKit
set_option linter.unusedVariables false

theorem and16u (a : Int) : 0 ≤ bits .and .u64 a 65535 ∧ bits .and .u64 a 65535 ≤ 65535 := by
  have e : bits .and .u64 a 65535 = IntKind.u64.wrap ((BitVec.ofInt 64 a &&& BitVec.ofInt 64 65535).toNat : Int) := rfl
  have hle : (BitVec.ofInt 64 a &&& BitVec.ofInt 64 65535).toNat ≤ 65535 := by
    rw [BitVec.toNat_and]; exact Nat.le_trans Nat.and_le_right (by decide)
  rw [e]
  generalize (BitVec.ofInt 64 a &&& BitVec.ofInt 64 65535).toNat = k at *
  rw [IntKind.wrap_u64]
  omega
theorem and8i (a : Int) : 0 ≤ bits .and .i64 a 255 ∧ bits .and .i64 a 255 ≤ 255 := by
  have e : bits .and .i64 a 255 = IntKind.i64.wrap ((BitVec.ofInt 64 a &&& BitVec.ofInt 64 255).toNat : Int) := rfl
  have hle : (BitVec.ofInt 64 a &&& BitVec.ofInt 64 255).toNat ≤ 255 := by
    rw [BitVec.toNat_and]; exact Nat.le_trans Nat.and_le_right (by decide)
  rw [e]
  generalize (BitVec.ofInt 64 a &&& BitVec.ofInt 64 255).toNat = k at *
  simp [IntKind.wrap, IntKind.bits, IntKind.signed]
  omega

/-- Four items, in blocks of their own behind w. -/
def Four (w W : World) (a b c d : It) : Prop := Vt W w.heap.size 0 a ∧ Vt W (w.heap.size + 1) 0 b ∧ Vt W (w.heap.size + 1 + 1) 0 c ∧ Vt W (w.heap.size + 1 + 1 + 1) 0 d ∧ Below w.heap.size w W
theorem four_new (w : World) (a b c d : It) : Four w ((((w.alloc (Obj.cells #[Value.int IntKind.i64 a.S, Value.int IntKind.i64 a.K, Value.int IntKind.u64 a.T, Value.int IntKind.u64 a.V, Value.int IntKind.i64 a.X] 24)).alloc (Obj.cells #[Value.int IntKind.i64 b.S, Value.int IntKind.i64 b.K, Value.int IntKind.u64 b.T, Value.int IntKind.u64 b.V, Value.int IntKind.i64 b.X] 24)).alloc (Obj.cells #[Value.int IntKind.i64 c.S, Value.int IntKind.i64 c.K, Value.int IntKind.u64 c.T, Value.int IntKind.u64 c.V, Value.int IntKind.i64 c.X] 24)).alloc (Obj.cells #[Value.int IntKind.i64 d.S, Value.int IntKind.i64 d.K, Value.int IntKind.u64 d.T, Value.int IntKind.u64 d.V, Value.int IntKind.i64 d.X] 24)) a b c d := by
  unfold Four Vt Vi
  refine ⟨?_, ?_, ?_, ?_, ((((Below.refl _ w).alloc (Nat.le_refl _) _).alloc (by simp) _).alloc (by simp; omega) _).alloc (by simp; omega) _⟩ <;> simp [go_sem]
theorem Four.keep {w W W' : World} {a b c d : It} (h : Four w W a b c d) (hb : Below W.heap.size W W') : Four w W' a b c d := ⟨h.1.keep hb, h.2.1.keep hb, h.2.2.1.keep hb, h.2.2.2.1.keep hb, bmore h.2.2.2.2 hb⟩
theorem xor1_ne (s : Int) (h0 : 0 ≤ s) (h1 : s ≤ 255) : bits .xor .i64 s 1 ≠ s := by
  obtain ⟨n, rfl⟩ := Int.eq_ofNat_of_zero_le h0
  have hn : n < 256 := by omega
  have : ∀ n : Fin 256, bits .xor .i64 (n.val : Int) 1 ≠ (n.val : Int) := by decide +kernel
  exact this ⟨n, hn⟩

set_option maxHeartbeats 1000000 in
theorem hides_st (a b s v t : Int) (w : World) (hlt : bits BinOp.and IntKind.u64 b 65535 < bits BinOp.and IntKind.u64 a 65535) (hc : bits BinOp.and IntKind.u64 v 65535 ≤ bits BinOp.and IntKind.u64 b 65535) : Calls Try.prog 8 #[.int .u64 a, .int .u64 b, .int .i64 s, .int .u64 v, .int .u64 t] w fun e w' => e = .returned (.bool true) ∧ Below w.heap.size w w' := by
    have hA := and16u a
    have hB := and16u b
    have hV := and16u v
    have hT := and16u t
    have hS := and8i s
    have hX := xor1_ne _ hS.1 hS.2
    have H0 := hide (four_new w ⟨bits BinOp.and IntKind.i64 s 255, 2, bits BinOp.and IntKind.u64 t 65535, bits BinOp.and IntKind.u64 v 65535 + 1, 0⟩ ⟨bits BinOp.and IntKind.i64 s 255, 1, 0, bits BinOp.and IntKind.u64 b 65535 + 1, 0⟩ ⟨bits BinOp.and IntKind.i64 s 255, 1, 0, bits BinOp.and IntKind.u64 a 65535 + 1, 0⟩ ⟨bits BinOp.xor IntKind.i64 (bits BinOp.and IntKind.i64 s 255) 1, 1, 0, bits BinOp.and IntKind.u64 b 65535 + 1, 0⟩)
    have hX2 := hide hX
    clear hX
    go_enter Try.func8, Try.ntmps8
    go_wp2_with fail
    generalize bits BinOp.xor IntKind.i64 (bits BinOp.and IntKind.i64 s 255) 1 = XX at *
    generalize bits BinOp.and IntKind.i64 s 255 = SS at *
    generalize bits BinOp.and IntKind.u64 t 65535 = TT at *
    generalize bits BinOp.and IntKind.u64 v 65535 = VV at *
    generalize bits BinOp.and IntKind.u64 b 65535 = LO at *
    generalize bits BinOp.and IntKind.u64 a 65535 = HI at *
    have e1 := hide (show hidesI SS 1 (LO + 1) SS 2 (VV + 1) = true by unfold hidesI; simp; omega)
    have e2 := hide (show hidesI SS 1 (HI + 1) SS 2 (VV + 1) = true ∨ ¬ VV ≤ LO by unfold hidesI; simp; omega)
    have e3 := hide (show hidesI XX 1 (LO + 1) SS 2 (VV + 1) = false by unfold hidesI; simp; intro h; exact absurd h hX2.out)
    have e4 := hide (show hidesI SS 1 (LO + 1) SS 1 (HI + 1) = false by unfold hidesI; simp)
    have hcd : decide (VV ≤ LO) = true := by simp; omega
    have e5 := hide (show hidesI SS 2 (VV + 1) SS 2 (VV + 1) = false by unfold hidesI; simp)
    refine (hides_any SS 1 0 (LO + 1) 0 SS 2 TT (VV + 1) 0 _).mono ?_
    rw [e1.out]
    rintro e w1 ⟨rfl, b⟩
    have H1 := hide (H0.out.keep b)
    clear b H0
    have q := H1.out
    unfold Four Vt Vi at q
    simp only at q
    obtain ⟨⟨p0, p1, p2, p3, p4⟩, ⟨q0, q1, q2, q3, q4⟩, ⟨r0, r1, r2, r3, r4⟩, ⟨s0, s1, s2, s3, s4⟩, -⟩ := q
    go_wp2_with fail
    refine (hides_any SS 1 0 (LO + 1) 0 SS 2 TT (VV + 1) 0 _).mono ?_
    rw [e1.out]
    rintro e w2 ⟨rfl, b⟩
    have H2 := hide (H1.out.keep b)
    clear b H1 p0 p1 p2 p3 p4 q0 q1 q2 q3 q4 r0 r1 r2 r3 r4 s0 s1 s2 s3 s4
    have q := H2.out
    unfold Four Vt Vi at q
    simp only at q
    obtain ⟨⟨p0, p1, p2, p3, p4⟩, ⟨q0, q1, q2, q3, q4⟩, ⟨r0, r1, r2, r3, r4⟩, ⟨s0, s1, s2, s3, s4⟩, -⟩ := q
    go_wp2_with fail
    refine (hides_any SS 1 0 (HI + 1) 0 SS 2 TT (VV + 1) 0 _).mono ?_
    rw [(e2.out.resolve_right (by omega))]
    rintro e w3 ⟨rfl, b⟩
    have H3 := hide (H2.out.keep b)
    clear b H2 p0 p1 p2 p3 p4 q0 q1 q2 q3 q4 r0 r1 r2 r3 r4 s0 s1 s2 s3 s4
    have q := H3.out
    unfold Four Vt Vi at q
    simp only at q
    obtain ⟨⟨p0, p1, p2, p3, p4⟩, ⟨q0, q1, q2, q3, q4⟩, ⟨r0, r1, r2, r3, r4⟩, ⟨s0, s1, s2, s3, s4⟩, -⟩ := q
    go_wp2_with fail
    refine (hides_any XX 1 0 (LO + 1) 0 SS 2 TT (VV + 1) 0 _).mono ?_
    rw [e3.out]
    rintro e w4 ⟨rfl, b⟩
    have H4 := hide (H3.out.keep b)
    clear b H3 p0 p1 p2 p3 p4 q0 q1 q2 q3 q4 r0 r1 r2 r3 r4 s0 s1 s2 s3 s4
    have q := H4.out
    unfold Four Vt Vi at q
    simp only at q
    obtain ⟨⟨p0, p1, p2, p3, p4⟩, ⟨q0, q1, q2, q3, q4⟩, ⟨r0, r1, r2, r3, r4⟩, ⟨s0, s1, s2, s3, s4⟩, -⟩ := q
    go_wp2_with fail
    refine (hides_any SS 1 0 (LO + 1) 0 SS 1 0 (HI + 1) 0 _).mono ?_
    rw [e4.out]
    rintro e w5 ⟨rfl, b⟩
    have H5 := hide (H4.out.keep b)
    clear b H4 p0 p1 p2 p3 p4 q0 q1 q2 q3 q4 r0 r1 r2 r3 r4 s0 s1 s2 s3 s4
    have q := H5.out
    unfold Four Vt Vi at q
    simp only at q
    obtain ⟨⟨p0, p1, p2, p3, p4⟩, ⟨q0, q1, q2, q3, q4⟩, ⟨r0, r1, r2, r3, r4⟩, ⟨s0, s1, s2, s3, s4⟩, -⟩ := q
    go_wp2_with fail
    refine (hides_any SS 2 TT (VV + 1) 0 SS 2 TT (VV + 1) 0 _).mono ?_
    rw [e5.out]
    rintro e w6 ⟨rfl, b⟩
    have H6 := hide (H5.out.keep b)
    clear b H5 p0 p1 p2 p3 p4 q0 q1 q2 q3 q4 r0 r1 r2 r3 r4 s0 s1 s2 s3 s4
    go_wp2_with fail
    refine (awake5_any _).mono ?_
    rintro e w9 ⟨rfl, b⟩
    have HB := hide (bmore H6.out.2.2.2.2 b)
    clear b H6
    go_wp2
    go_ret
    exact ⟨rfl, HB.out⟩

set_option maxHeartbeats 1000000 in
theorem hides_sf (a b s v t : Int) (w : World) (hlt : bits BinOp.and IntKind.u64 b 65535 < bits BinOp.and IntKind.u64 a 65535) (hc : ¬ bits BinOp.and IntKind.u64 v 65535 ≤ bits BinOp.and IntKind.u64 b 65535) : Calls Try.prog 8 #[.int .u64 a, .int .u64 b, .int .i64 s, .int .u64 v, .int .u64 t] w fun e w' => e = .returned (.bool true) ∧ Below w.heap.size w w' := by
    have hA := and16u a
    have hB := and16u b
    have hV := and16u v
    have hT := and16u t
    have hS := and8i s
    have hX := xor1_ne _ hS.1 hS.2
    have H0 := hide (four_new w ⟨bits BinOp.and IntKind.i64 s 255, 2, bits BinOp.and IntKind.u64 t 65535, bits BinOp.and IntKind.u64 v 65535 + 1, 0⟩ ⟨bits BinOp.and IntKind.i64 s 255, 1, 0, bits BinOp.and IntKind.u64 b 65535 + 1, 0⟩ ⟨bits BinOp.and IntKind.i64 s 255, 1, 0, bits BinOp.and IntKind.u64 a 65535 + 1, 0⟩ ⟨bits BinOp.xor IntKind.i64 (bits BinOp.and IntKind.i64 s 255) 1, 1, 0, bits BinOp.and IntKind.u64 b 65535 + 1, 0⟩)
    have hX2 := hide hX
    clear hX
    go_enter Try.func8, Try.ntmps8
    go_wp2_with fail
    generalize bits BinOp.xor IntKind.i64 (bits BinOp.and IntKind.i64 s 255) 1 = XX at *
    generalize bits BinOp.and IntKind.i64 s 255 = SS at *
    generalize bits BinOp.and IntKind.u64 t 65535 = TT at *
    generalize bits BinOp.and IntKind.u64 v 65535 = VV at *
    generalize bits BinOp.and IntKind.u64 b 65535 = LO at *
    generalize bits BinOp.and IntKind.u64 a 65535 = HI at *
    have e1 := hide (show hidesI SS 1 (LO + 1) SS 2 (VV + 1) = false by unfold hidesI; simp; omega)
    have e2 := hide (show hidesI SS 1 (HI + 1) SS 2 (VV + 1) = true ∨ ¬ VV ≤ LO by unfold hidesI; simp; omega)
    have e3 := hide (show hidesI XX 1 (LO + 1) SS 2 (VV + 1) = false by unfold hidesI; simp; intro h; exact absurd h hX2.out)
    have e4 := hide (show hidesI SS 1 (LO + 1) SS 1 (HI + 1) = false by unfold hidesI; simp)
    have hcd : decide (VV ≤ LO) = false := by simp; omega
    have e5 := hide (show hidesI SS 2 (VV + 1) SS 2 (VV + 1) = false by unfold hidesI; simp)
    refine (hides_any SS 1 0 (LO + 1) 0 SS 2 TT (VV + 1) 0 _).mono ?_
    rw [e1.out]
    rintro e w1 ⟨rfl, b⟩
    have H1 := hide (H0.out.keep b)
    clear b H0
    have q := H1.out
    unfold Four Vt Vi at q
    simp only at q
    obtain ⟨⟨p0, p1, p2, p3, p4⟩, ⟨q0, q1, q2, q3, q4⟩, ⟨r0, r1, r2, r3, r4⟩, ⟨s0, s1, s2, s3, s4⟩, -⟩ := q
    go_wp2_with fail
    refine (hides_any SS 1 0 (LO + 1) 0 SS 2 TT (VV + 1) 0 _).mono ?_
    rw [e1.out]
    rintro e w2 ⟨rfl, b⟩
    have H2 := hide (H1.out.keep b)
    clear b H1 p0 p1 p2 p3 p4 q0 q1 q2 q3 q4 r0 r1 r2 r3 r4 s0 s1 s2 s3 s4
    have q := H2.out
    unfold Four Vt Vi at q
    simp only at q
    obtain ⟨⟨p0, p1, p2, p3, p4⟩, ⟨q0, q1, q2, q3, q4⟩, ⟨r0, r1, r2, r3, r4⟩, ⟨s0, s1, s2, s3, s4⟩, -⟩ := q
    go_wp2_with fail
    refine (hides_any XX 1 0 (LO + 1) 0 SS 2 TT (VV + 1) 0 _).mono ?_
    rw [e3.out]
    rintro e w3 ⟨rfl, b⟩
    have H3 := hide (H2.out.keep b)
    clear b H2 p0 p1 p2 p3 p4 q0 q1 q2 q3 q4 r0 r1 r2 r3 r4 s0 s1 s2 s3 s4
    have q := H3.out
    unfold Four Vt Vi at q
    simp only at q
    obtain ⟨⟨p0, p1, p2, p3, p4⟩, ⟨q0, q1, q2, q3, q4⟩, ⟨r0, r1, r2, r3, r4⟩, ⟨s0, s1, s2, s3, s4⟩, -⟩ := q
    go_wp2_with fail
    refine (hides_any SS 1 0 (LO + 1) 0 SS 1 0 (HI + 1) 0 _).mono ?_
    rw [e4.out]
    rintro e w4 ⟨rfl, b⟩
    have H4 := hide (H3.out.keep b)
    clear b H3 p0 p1 p2 p3 p4 q0 q1 q2 q3 q4 r0 r1 r2 r3 r4 s0 s1 s2 s3 s4
    have q := H4.out
    unfold Four Vt Vi at q
    simp only at q
    obtain ⟨⟨p0, p1, p2, p3, p4⟩, ⟨q0, q1, q2, q3, q4⟩, ⟨r0, r1, r2, r3, r4⟩, ⟨s0, s1, s2, s3, s4⟩, -⟩ := q
    go_wp2_with fail
    refine (hides_any SS 2 TT (VV + 1) 0 SS 2 TT (VV + 1) 0 _).mono ?_
    rw [e5.out]
    rintro e w5 ⟨rfl, b⟩
    have H5 := hide (H4.out.keep b)
    clear b H4 p0 p1 p2 p3 p4 q0 q1 q2 q3 q4 r0 r1 r2 r3 r4 s0 s1 s2 s3 s4
    go_wp2_with fail
    refine (awake5_any _).mono ?_
    rintro e w9 ⟨rfl, b⟩
    have HB := hide (bmore H5.out.2.2.2.2 b)
    clear b H5
    go_wp2
    go_ret
    exact ⟨rfl, HB.out⟩

set_option maxHeartbeats 1000000 in
theorem hides_nt (a b s v t : Int) (w : World) (hlt : ¬ bits BinOp.and IntKind.u64 b 65535 < bits BinOp.and IntKind.u64 a 65535) (hc : bits BinOp.and IntKind.u64 v 65535 ≤ bits BinOp.and IntKind.u64 a 65535) : Calls Try.prog 8 #[.int .u64 a, .int .u64 b, .int .i64 s, .int .u64 v, .int .u64 t] w fun e w' => e = .returned (.bool true) ∧ Below w.heap.size w w' := by
    have hA := and16u a
    have hB := and16u b
    have hV := and16u v
    have hT := and16u t
    have hS := and8i s
    have hX := xor1_ne _ hS.1 hS.2
    have H0 := hide (four_new w ⟨bits BinOp.and IntKind.i64 s 255, 2, bits BinOp.and IntKind.u64 t 65535, bits BinOp.and IntKind.u64 v 65535 + 1, 0⟩ ⟨bits BinOp.and IntKind.i64 s 255, 1, 0, bits BinOp.and IntKind.u64 a 65535 + 1, 0⟩ ⟨bits BinOp.and IntKind.i64 s 255, 1, 0, bits BinOp.and IntKind.u64 b 65535 + 1, 0⟩ ⟨bits BinOp.xor IntKind.i64 (bits BinOp.and IntKind.i64 s 255) 1, 1, 0, bits BinOp.and IntKind.u64 a 65535 + 1, 0⟩)
    have hX2 := hide hX
    clear hX
    go_enter Try.func8, Try.ntmps8
    go_wp2_with fail
    generalize bits BinOp.xor IntKind.i64 (bits BinOp.and IntKind.i64 s 255) 1 = XX at *
    generalize bits BinOp.and IntKind.i64 s 255 = SS at *
    generalize bits BinOp.and IntKind.u64 t 65535 = TT at *
    generalize bits BinOp.and IntKind.u64 v 65535 = VV at *
    generalize bits BinOp.and IntKind.u64 a 65535 = LO at *
    generalize bits BinOp.and IntKind.u64 b 65535 = HI at *
    have e1 := hide (show hidesI SS 1 (LO + 1) SS 2 (VV + 1) = true by unfold hidesI; simp; omega)
    have e2 := hide (show hidesI SS 1 (HI + 1) SS 2 (VV + 1) = true ∨ ¬ VV ≤ LO by unfold hidesI; simp; omega)
    have e3 := hide (show hidesI XX 1 (LO + 1) SS 2 (VV + 1) = false by unfold hidesI; simp; intro h; exact absurd h hX2.out)
    have e4 := hide (show hidesI SS 1 (LO + 1) SS 1 (HI + 1) = false by unfold hidesI; simp)
    have hcd : decide (VV ≤ LO) = true := by simp; omega
    have e5 := hide (show hidesI SS 2 (VV + 1) SS 2 (VV + 1) = false by unfold hidesI; simp)
    refine (hides_any SS 1 0 (LO + 1) 0 SS 2 TT (VV + 1) 0 _).mono ?_
    rw [e1.out]
    rintro e w1 ⟨rfl, b⟩
    have H1 := hide (H0.out.keep b)
    clear b H0
    have q := H1.out
    unfold Four Vt Vi at q
    simp only at q
    obtain ⟨⟨p0, p1, p2, p3, p4⟩, ⟨q0, q1, q2, q3, q4⟩, ⟨r0, r1, r2, r3, r4⟩, ⟨s0, s1, s2, s3, s4⟩, -⟩ := q
    go_wp2_with fail
    refine (hides_any SS 1 0 (LO + 1) 0 SS 2 TT (VV + 1) 0 _).mono ?_
    rw [e1.out]
    rintro e w2 ⟨rfl, b⟩
    have H2 := hide (H1.out.keep b)
    clear b H1 p0 p1 p2 p3 p4 q0 q1 q2 q3 q4 r0 r1 r2 r3 r4 s0 s1 s2 s3 s4
    have q := H2.out
    unfold Four Vt Vi at q
    simp only at q
    obtain ⟨⟨p0, p1, p2, p3, p4⟩, ⟨q0, q1, q2, q3, q4⟩, ⟨r0, r1, r2, r3, r4⟩, ⟨s0, s1, s2, s3, s4⟩, -⟩ := q
    go_wp2_with fail
    refine (hides_any SS 1 0 (HI + 1) 0 SS 2 TT (VV + 1) 0 _).mono ?_
    rw [(e2.out.resolve_right (by omega))]
    rintro e w3 ⟨rfl, b⟩
    have H3 := hide (H2.out.keep b)
    clear b H2 p0 p1 p2 p3 p4 q0 q1 q2 q3 q4 r0 r1 r2 r3 r4 s0 s1 s2 s3 s4
    have q := H3.out
    unfold Four Vt Vi at q
    simp only at q
    obtain ⟨⟨p0, p1, p2, p3, p4⟩, ⟨q0, q1, q2, q3, q4⟩, ⟨r0, r1, r2, r3, r4⟩, ⟨s0, s1, s2, s3, s4⟩, -⟩ := q
    go_wp2_with fail
    refine (hides_any XX 1 0 (LO + 1) 0 SS 2 TT (VV + 1) 0 _).mono ?_
    rw [e3.out]
    rintro e w4 ⟨rfl, b⟩
    have H4 := hide (H3.out.keep b)
    clear b H3 p0 p1 p2 p3 p4 q0 q1 q2 q3 q4 r0 r1 r2 r3 r4 s0 s1 s2 s3 s4
    have q := H4.out
    unfold Four Vt Vi at q
    simp only at q
    obtain ⟨⟨p0, p1, p2, p3, p4⟩, ⟨q0, q1, q2, q3, q4⟩, ⟨r0, r1, r2, r3, r4⟩, ⟨s0, s1, s2, s3, s4⟩, -⟩ := q
    go_wp2_with fail
    refine (hides_any SS 1 0 (LO + 1) 0 SS 1 0 (HI + 1) 0 _).mono ?_
    rw [e4.out]
    rintro e w5 ⟨rfl, b⟩
    have H5 := hide (H4.out.keep b)
    clear b H4 p0 p1 p2 p3 p4 q0 q1 q2 q3 q4 r0 r1 r2 r3 r4 s0 s1 s2 s3 s4
    have q := H5.out
    unfold Four Vt Vi at q
    simp only at q
    obtain ⟨⟨p0, p1, p2, p3, p4⟩, ⟨q0, q1, q2, q3, q4⟩, ⟨r0, r1, r2, r3, r4⟩, ⟨s0, s1, s2, s3, s4⟩, -⟩ := q
    go_wp2_with fail
    refine (hides_any SS 2 TT (VV + 1) 0 SS 2 TT (VV + 1) 0 _).mono ?_
    rw [e5.out]
    rintro e w6 ⟨rfl, b⟩
    have H6 := hide (H5.out.keep b)
    clear b H5 p0 p1 p2 p3 p4 q0 q1 q2 q3 q4 r0 r1 r2 r3 r4 s0 s1 s2 s3 s4
    go_wp2_with fail
    refine (awake5_any _).mono ?_
    rintro e w9 ⟨rfl, b⟩
    have HB := hide (bmore H6.out.2.2.2.2 b)
    clear b H6
    go_wp2
    go_ret
    exact ⟨rfl, HB.out⟩

set_option maxHeartbeats 1000000 in
theorem hides_nf (a b s v t : Int) (w : World) (hlt : ¬ bits BinOp.and IntKind.u64 b 65535 < bits BinOp.and IntKind.u64 a 65535) (hc : ¬ bits BinOp.and IntKind.u64 v 65535 ≤ bits BinOp.and IntKind.u64 a 65535) : Calls Try.prog 8 #[.int .u64 a, .int .u64 b, .int .i64 s, .int .u64 v, .int .u64 t] w fun e w' => e = .returned (.bool true) ∧ Below w.heap.size w w' := by
    have hA := and16u a
    have hB := and16u b
    have hV := and16u v
    have hT := and16u t
    have hS := and8i s
    have hX := xor1_ne _ hS.1 hS.2
    have H0 := hide (four_new w ⟨bits BinOp.and IntKind.i64 s 255, 2, bits BinOp.and IntKind.u64 t 65535, bits BinOp.and IntKind.u64 v 65535 + 1, 0⟩ ⟨bits BinOp.and IntKind.i64 s 255, 1, 0, bits BinOp.and IntKind.u64 a 65535 + 1, 0⟩ ⟨bits BinOp.and IntKind.i64 s 255, 1, 0, bits BinOp.and IntKind.u64 b 65535 + 1, 0⟩ ⟨bits BinOp.xor IntKind.i64 (bits BinOp.and IntKind.i64 s 255) 1, 1, 0, bits BinOp.and IntKind.u64 a 65535 + 1, 0⟩)
    have hX2 := hide hX
    clear hX
    go_enter Try.func8, Try.ntmps8
    go_wp2_with fail
    generalize bits BinOp.xor IntKind.i64 (bits BinOp.and IntKind.i64 s 255) 1 = XX at *
    generalize bits BinOp.and IntKind.i64 s 255 = SS at *
    generalize bits BinOp.and IntKind.u64 t 65535 = TT at *
    generalize bits BinOp.and IntKind.u64 v 65535 = VV at *
    generalize bits BinOp.and IntKind.u64 a 65535 = LO at *
    generalize bits BinOp.and IntKind.u64 b 65535 = HI at *
    have e1 := hide (show hidesI SS 1 (LO + 1) SS 2 (VV + 1) = false by unfold hidesI; simp; omega)
    have e2 := hide (show hidesI SS 1 (HI + 1) SS 2 (VV + 1) = true ∨ ¬ VV ≤ LO by unfold hidesI; simp; omega)
    have e3 := hide (show hidesI XX 1 (LO + 1) SS 2 (VV + 1) = false by unfold hidesI; simp; intro h; exact absurd h hX2.out)
    have e4 := hide (show hidesI SS 1 (LO + 1) SS 1 (HI + 1) = false by unfold hidesI; simp)
    have hcd : decide (VV ≤ LO) = false := by simp; omega
    have e5 := hide (show hidesI SS 2 (VV + 1) SS 2 (VV + 1) = false by unfold hidesI; simp)
    refine (hides_any SS 1 0 (LO + 1) 0 SS 2 TT (VV + 1) 0 _).mono ?_
    rw [e1.out]
    rintro e w1 ⟨rfl, b⟩
    have H1 := hide (H0.out.keep b)
    clear b H0
    have q := H1.out
    unfold Four Vt Vi at q
    simp only at q
    obtain ⟨⟨p0, p1, p2, p3, p4⟩, ⟨q0, q1, q2, q3, q4⟩, ⟨r0, r1, r2, r3, r4⟩, ⟨s0, s1, s2, s3, s4⟩, -⟩ := q
    go_wp2_with fail
    refine (hides_any SS 1 0 (LO + 1) 0 SS 2 TT (VV + 1) 0 _).mono ?_
    rw [e1.out]
    rintro e w2 ⟨rfl, b⟩
    have H2 := hide (H1.out.keep b)
    clear b H1 p0 p1 p2 p3 p4 q0 q1 q2 q3 q4 r0 r1 r2 r3 r4 s0 s1 s2 s3 s4
    have q := H2.out
    unfold Four Vt Vi at q
    simp only at q
    obtain ⟨⟨p0, p1, p2, p3, p4⟩, ⟨q0, q1, q2, q3, q4⟩, ⟨r0, r1, r2, r3, r4⟩, ⟨s0, s1, s2, s3, s4⟩, -⟩ := q
    go_wp2_with fail
    refine (hides_any XX 1 0 (LO + 1) 0 SS 2 TT (VV + 1) 0 _).mono ?_
    rw [e3.out]
    rintro e w3 ⟨rfl, b⟩
    have H3 := hide (H2.out.keep b)
    clear b H2 p0 p1 p2 p3 p4 q0 q1 q2 q3 q4 r0 r1 r2 r3 r4 s0 s1 s2 s3 s4
    have q := H3.out
    unfold Four Vt Vi at q
    simp only at q
    obtain ⟨⟨p0, p1, p2, p3, p4⟩, ⟨q0, q1, q2, q3, q4⟩, ⟨r0, r1, r2, r3, r4⟩, ⟨s0, s1, s2, s3, s4⟩, -⟩ := q
    go_wp2_with fail
    refine (hides_any SS 1 0 (LO + 1) 0 SS 1 0 (HI + 1) 0 _).mono ?_
    rw [e4.out]
    rintro e w4 ⟨rfl, b⟩
    have H4 := hide (H3.out.keep b)
    clear b H3 p0 p1 p2 p3 p4 q0 q1 q2 q3 q4 r0 r1 r2 r3 r4 s0 s1 s2 s3 s4
    have q := H4.out
    unfold Four Vt Vi at q
    simp only at q
    obtain ⟨⟨p0, p1, p2, p3, p4⟩, ⟨q0, q1, q2, q3, q4⟩, ⟨r0, r1, r2, r3, r4⟩, ⟨s0, s1, s2, s3, s4⟩, -⟩ := q
    go_wp2_with fail
    refine (hides_any SS 2 TT (VV + 1) 0 SS 2 TT (VV + 1) 0 _).mono ?_
    rw [e5.out]
    rintro e w5 ⟨rfl, b⟩
    have H5 := hide (H4.out.keep b)
    clear b H4 p0 p1 p2 p3 p4 q0 q1 q2 q3 q4 r0 r1 r2 r3 r4 s0 s1 s2 s3 s4
    go_wp2_with fail
    refine (awake5_any _).mono ?_
    rintro e w9 ⟨rfl, b⟩
    have HB := hide (bmore H5.out.2.2.2.2 b)
    clear b H5
    go_wp2
    go_ret
    exact ⟨rfl, HB.out⟩

theorem hides_walk (a b s v t : Int) (w : World) : Calls Try.prog 8 #[.int .u64 a, .int .u64 b, .int .i64 s, .int .u64 v, .int .u64 t] w fun e w' => e = .returned (.bool true) ∧ Below w.heap.size w w' := by
  by_cases hlt : bits BinOp.and IntKind.u64 b 65535 < bits BinOp.and IntKind.u64 a 65535
  · by_cases hc : bits BinOp.and IntKind.u64 v 65535 ≤ bits BinOp.and IntKind.u64 b 65535
    · exact hides_st a b s v t w hlt hc
    · exact hides_sf a b s v t w hlt hc
  · by_cases hc : bits BinOp.and IntKind.u64 v 65535 ≤ bits BinOp.and IntKind.u64 a 65535
    · exact hides_nt a b s v t w hlt hc
    · exact hides_nf a b s v t w hlt hc

end Go.Proofs.Ytfmofkkjnepbcaa.Clep
