/- The statement EditFields, walked: for any two Metas and any number. No conditions. -/
import Derived.Test.YtgopcaemgcnapaaEAwake
import Derived.Test.YtgopcaemgcnapaaESame
namespace Go.Proofs.Ytgopcaemgcnapaa.Clep
open Go.RowKit
set_option linter.unusedVariables false
set_option maxRecDepth 10000

theorem andu (x : Int) (m : Nat) (hm : m < 9223372036854775808) : 0 ≤ bits .and .u64 x m ∧ bits .and .u64 x m ≤ m := by
  have e : bits .and .u64 x m = IntKind.u64.wrap ((BitVec.ofInt 64 x &&& BitVec.ofInt 64 (m : Int)).toNat : Int) := rfl
  have hle : (BitVec.ofInt 64 x &&& BitVec.ofInt 64 (m : Int)).toNat ≤ m := by
    rw [BitVec.toNat_and]
    refine Nat.le_trans Nat.and_le_right ?_
    rw [BitVec.ofInt_natCast, BitVec.toNat_ofNat]
    exact Nat.mod_le _ _
  rw [e]
  generalize (BitVec.ofInt 64 x &&& BitVec.ofInt 64 (m : Int)).toNat = k at *
  simp [IntKind.wrap, IntKind.bits, IntKind.signed]
  omega
theorem andi (x : Int) (m : Nat) (hm : m < 9223372036854775808) : 0 ≤ bits .and .i64 x m ∧ bits .and .i64 x m ≤ m := by
  have e : bits .and .i64 x m = IntKind.i64.wrap ((BitVec.ofInt 64 x &&& BitVec.ofInt 64 (m : Int)).toNat : Int) := rfl
  have hle : (BitVec.ofInt 64 x &&& BitVec.ofInt 64 (m : Int)).toNat ≤ m := by
    rw [BitVec.toNat_and]
    refine Nat.le_trans Nat.and_le_right ?_
    rw [BitVec.ofInt_natCast, BitVec.toNat_ofNat]
    exact Nat.mod_le _ _
  rw [e]
  generalize (BitVec.ofInt 64 x &&& BitVec.ofInt 64 (m : Int)).toNat = k at *
  simp [IntKind.wrap, IntKind.bits, IntKind.signed]
  omega
theorem put0_le {a b m : Int} (ha : a ≤ m) (hb : b ≤ m) : put0 a b ≤ m := by unfold put0; split <;> assumption
theorem appl_fields (x0 x1 x2 x3 g y0 y1 y2 y3 : Int) (h : (x0 ≤ 65535 ∧ x1 ≤ 65535 ∧ x2 ≤ 65535 ∧ x3 ≤ 65535) ∧ (0 ≤ g ∧ g ≤ 255) ∧ y0 ≤ 255 ∧ y1 ≤ 255 ∧ y2 ≤ 255 ∧ y3 ≤ 255) :
    appl ⟨9, [], x0, x1, x2, x3⟩ ⟨[], [], g, y0, y1, y2, y3⟩ = some ⟨put0 9 g, [], put0 x0 y0, put0 x1 y1, put0 x2 y2, put0 x3 y3⟩ := by
  have h1 : 1 ≤ put0 9 g ∧ put0 9 g ≤ 1073741824 := by unfold put0; split <;> omega
  have l0 := put0_le (a := x0) (b := y0) (m := 281474976710656) (by omega) (by omega)
  have l1 := put0_le (a := x1) (b := y1) (m := 281474976710656) (by omega) (by omega)
  have l2 := put0_le (a := x2) (b := y2) (m := 281474976710656) (by omega) (by omega)
  have l3 := put0_le (a := x3) (b := y3) (m := 281474976710656) (by omega) (by omega)
  unfold appl dropN after
  simp only [List.append_nil]
  rw [if_pos]
  unfold vok vwH
  simp [once, h1, l0, l1, l2, l3]

set_option maxHeartbeats 4000000 in
theorem fields_walk (A0 A1 A2 A3 B0 B1 B2 B3 lg : Int) (w : World) :
    Calls Try.prog 4 #[.agg #[.int .u64 A0, .int .u64 A1, .int .u64 A2, .int .u64 A3], .agg #[.int .u64 B0, .int .u64 B1, .int .u64 B2, .int .u64 B3], .int .i64 lg] w fun e w' => e = .returned (.bool true) ∧ Below w.heap.size w w' := by
  have X0 : 0 ≤ bits .and .u64 A0 65535 ∧ bits .and .u64 A0 65535 ≤ 65535 := andu A0 65535 (by omega)
  have X1 : 0 ≤ bits .and .u64 A1 65535 ∧ bits .and .u64 A1 65535 ≤ 65535 := andu A1 65535 (by omega)
  have X2 : 0 ≤ bits .and .u64 A2 65535 ∧ bits .and .u64 A2 65535 ≤ 65535 := andu A2 65535 (by omega)
  have X3 : 0 ≤ bits .and .u64 A3 65535 ∧ bits .and .u64 A3 65535 ≤ 65535 := andu A3 65535 (by omega)
  have Y0 : 0 ≤ bits .and .u64 B0 255 ∧ bits .and .u64 B0 255 ≤ 255 := andu B0 255 (by omega)
  have Y1 : 0 ≤ bits .and .u64 B1 255 ∧ bits .and .u64 B1 255 ≤ 255 := andu B1 255 (by omega)
  have Y2 : 0 ≤ bits .and .u64 B2 255 ∧ bits .and .u64 B2 255 ≤ 255 := andu B2 255 (by omega)
  have Y3 : 0 ≤ bits .and .u64 B3 255 ∧ bits .and .u64 B3 255 ≤ 255 := andu B3 255 (by omega)
  have G0 : 0 ≤ bits .and .i64 lg 255 ∧ bits .and .i64 lg 255 ≤ 255 := andi lg 255 (by omega)
  have HX := hide (And.intro (And.intro X0 X1) (And.intro X2 X3))
  have HY := hide (And.intro (And.intro Y0 Y1) (And.intro Y2 Y3))
  have HG := hide G0
  clear X0 X1 X2 X3 Y0 Y1 Y2 Y3 G0
  go_enter Try.func4, Try.ntmps4
  go_wp2_with fail
  generalize bits .and .u64 A0 65535 = x0 at *
  generalize bits .and .u64 A1 65535 = x1 at *
  generalize bits .and .u64 A2 65535 = x2 at *
  generalize bits .and .u64 A3 65535 = x3 at *
  generalize bits .and .u64 B0 255 = y0 at *
  generalize bits .and .u64 B1 255 = y1 at *
  generalize bits .and .u64 B2 255 = y2 at *
  generalize bits .and .u64 B3 255 = y3 at *
  generalize bits .and .i64 lg 255 = g at *
  obtain ⟨⟨⟨x0a, x0b⟩, x1a, x1b⟩, ⟨x2a, x2b⟩, x3a, x3b⟩ := HX.out
  obtain ⟨⟨⟨y0a, y0b⟩, y1a, y1b⟩, ⟨y2a, y2b⟩, y3a, y3b⟩ := HY.out
  obtain ⟨ga, gb⟩ := HG.out
  have HB0 := hide (show Below w.heap.size w (((w.alloc (Obj.cells #[.int .u64 x0, .int .u64 x1, .int .u64 x2, .int .u64 x3] 45)).alloc (Obj.cells #[.int .u64 y0, .int .u64 y1, .int .u64 y2, .int .u64 y3] 45)).alloc (Obj.cells #[.int .i64 9, .slice none 0 0, .int .u64 x0, .int .u64 x1, .int .u64 x2, .int .u64 x3] 26)) from by
    have A1 := (Below.refl w.heap.size w).alloc (Nat.le_refl _) (Obj.cells #[.int .u64 x0, .int .u64 x1, .int .u64 x2, .int .u64 x3] 45)
    have A2 := A1.alloc A1.size (Obj.cells #[.int .u64 y0, .int .u64 y1, .int .u64 y2, .int .u64 y3] 45)
    exact A2.alloc A2.size _)
  have HKB := hide (show Ek (((w.alloc (Obj.cells #[.int .u64 x0, .int .u64 x1, .int .u64 x2, .int .u64 x3] 45)).alloc (Obj.cells #[.int .u64 y0, .int .u64 y1, .int .u64 y2, .int .u64 y3] 45)).alloc (Obj.cells #[.int .i64 9, .slice none 0 0, .int .u64 x0, .int .u64 x1, .int .u64 x2, .int .u64 x3] 26)) (w.heap.size + 1) #[.int .u64 y0, .int .u64 y1, .int .u64 y2, .int .u64 y3] 45 ∧ Ek (((w.alloc (Obj.cells #[.int .u64 x0, .int .u64 x1, .int .u64 x2, .int .u64 x3] 45)).alloc (Obj.cells #[.int .u64 y0, .int .u64 y1, .int .u64 y2, .int .u64 y3] 45)).alloc (Obj.cells #[.int .i64 9, .slice none 0 0, .int .u64 x0, .int .u64 x1, .int .u64 x2, .int .u64 x3] 26)) (w.heap.size + 2) #[.int .i64 9, .slice none 0 0, .int .u64 x0, .int .u64 x1, .int .u64 x2, .int .u64 x3] 26 from by
    have h2 := ek_old (ek_new (w.alloc (Obj.cells #[.int .u64 x0, .int .u64 x1, .int .u64 x2, .int .u64 x3] 45)) #[.int .u64 y0, .int .u64 y1, .int .u64 y2, .int .u64 y3] 45) (Obj.cells #[.int .i64 9, .slice none 0 0, .int .u64 x0, .int .u64 x1, .int .u64 x2, .int .u64 x3] 26)
    have h3 := ek_new ((w.alloc (Obj.cells #[.int .u64 x0, .int .u64 x1, .int .u64 x2, .int .u64 x3] 45)).alloc (Obj.cells #[.int .u64 y0, .int .u64 y1, .int .u64 y2, .int .u64 y3] 45)) #[.int .i64 9, .slice none 0 0, .int .u64 x0, .int .u64 x1, .int .u64 x2, .int .u64 x3] 26
    rw [show (w.alloc (Obj.cells #[.int .u64 x0, .int .u64 x1, .int .u64 x2, .int .u64 x3] 45)).heap.size = w.heap.size + 1 from by simp] at h2
    rw [show ((w.alloc (Obj.cells #[.int .u64 x0, .int .u64 x1, .int .u64 x2, .int .u64 x3] 45)).alloc (Obj.cells #[.int .u64 y0, .int .u64 y1, .int .u64 y2, .int .u64 y3] 45)).heap.size = w.heap.size + 2 from by simp] at h3
    exact ⟨h2, h3⟩)
  have HSZ := hide (show (((w.alloc (Obj.cells #[.int .u64 x0, .int .u64 x1, .int .u64 x2, .int .u64 x3] 45)).alloc (Obj.cells #[.int .u64 y0, .int .u64 y1, .int .u64 y2, .int .u64 y3] 45)).alloc (Obj.cells #[.int .i64 9, .slice none 0 0, .int .u64 x0, .int .u64 x1, .int .u64 x2, .int .u64 x3] 26)).heap.size = w.heap.size + 3 by simp)
  generalize hwa : (((w.alloc (Obj.cells #[.int .u64 x0, .int .u64 x1, .int .u64 x2, .int .u64 x3] 45)).alloc (Obj.cells #[.int .u64 y0, .int .u64 y1, .int .u64 y2, .int .u64 y3] 45)).alloc (Obj.cells #[.int .i64 9, .slice none 0 0, .int .u64 x0, .int .u64 x1, .int .u64 x2, .int .u64 x3] 26)) = wa at *
  clear hwa HX HY HG
  have C1 := hide ((apply_any none none none 0 0 0 0 0 0 ⟨9, [], x0, x1, x2, x3⟩ ⟨[], [], g, y0, y1, y2, y3⟩ wa (fs_nil wa) (zs_nil wa) (fs_nil wa) (by omega) (by omega) (by omega) rfl).mono fun e w' h => by
    rw [appl_fields x0 x1 x2 x3 g y0 y1 y2 y3 (by omega)] at h
    exact apr_some h)
  unfold vwV edV at C1
  simp only [List.length_nil] at C1
  refine C1.out.mono ?_
  rintro e w1 ⟨a1, c1, rfl, hc1, ho1, hf1, hb1⟩
  have B1 := hide (HB0.out.trans (hb1.mono HB0.out.size))
  have kb := HKB.out.1.below hb1 HKB.out.1.lt
  have kv := HKB.out.2.below hb1 HKB.out.2.lt
  have b0 : w1.cell? ⟨w.heap.size + 1, 0, none⟩ = some (.int .u64 y0) := kb.cell rfl
  have b1 : w1.cell? ⟨w.heap.size + 1, 1, none⟩ = some (.int .u64 y1) := kb.cell rfl
  have b2 : w1.cell? ⟨w.heap.size + 1, 2, none⟩ = some (.int .u64 y2) := kb.cell rfl
  have b3 : w1.cell? ⟨w.heap.size + 1, 3, none⟩ = some (.int .u64 y3) := kb.cell rfl
  have v0 : w1.cell? ⟨w.heap.size + 1 + 1, 0, none⟩ = some (.int .i64 9) := kv.cell rfl
  have v1 : w1.cell? ⟨w.heap.size + 1 + 1, 1, none⟩ = some (.slice none 0 0) := kv.cell rfl
  have v2 : w1.cell? ⟨w.heap.size + 1 + 1, 2, none⟩ = some (.int .u64 x0) := kv.cell rfl
  have v3 : w1.cell? ⟨w.heap.size + 1 + 1, 3, none⟩ = some (.int .u64 x1) := kv.cell rfl
  have v4 : w1.cell? ⟨w.heap.size + 1 + 1, 4, none⟩ = some (.int .u64 x2) := kv.cell rfl
  have v5 : w1.cell? ⟨w.heap.size + 1 + 1, 5, none⟩ = some (.int .u64 x3) := kv.cell rfl
  have hlb : w.heap.size + 1 < w1.heap.size := kb.lt
  have hlb0 : w.heap.size < w1.heap.size := by omega
  have hlv : w.heap.size + 1 + 1 < w1.heap.size := kv.lt
  have HF := hide (fun W (hW : Below w1.heap.size w1 W) => hf1.below hW (Nat.le_refl _))
  have C2 := hide (show ∀ (W : World) (b0 b1 b2 b3 b4 : Int), Below w1.heap.size w1 W → b0 = put0 9 g → b1 = put0 x0 y0 → b2 = put0 x1 y1 → b3 = put0 x2 y2 → b4 = put0 x3 y3 → Calls Try.prog 12 #[.agg #[.int .i64 (put0 9 g), .slice a1 0 c1, .int .u64 (put0 x0 y0), .int .u64 (put0 x1 y1), .int .u64 (put0 x2 y2), .int .u64 (put0 x3 y3)], .agg #[.int .i64 b0, .slice none 0 0, .int .u64 b1, .int .u64 b2, .int .u64 b3, .int .u64 b4]] W fun e w' => e = .returned (.bool true) ∧ Below w.heap.size w w' from fun W b0 b1 b2 b3 b4 hW e0 e1 e2 e3 e4 =>
    (sameview_any a1 none 0 c1 0 0 ⟨put0 9 g, [], put0 x0 y0, put0 x1 y1, put0 x2 y2, put0 x3 y3⟩ ⟨b0, [], b1, b2, b3, b4⟩ W (HF.out W hW) (fs_nil W) (by omega) (by omega)).mono fun e w' ⟨o, he, ho, hb⟩ => by
      have : o = true := ho.2 (by rw [e0, e1, e2, e3, e4])
      subst this
      exact ⟨he, (B1.out.trans (hW.mono B1.out.size)).trans (hb.mono (Nat.le_trans B1.out.size hW.size))⟩)
  have HA := hide awake_any
  clear C1 kb kv hf1 ho1 hb1 HKB
  go_wp2_with fail
  all_goals
    refine (C2.out _ _ _ _ _ _ (((Below.refl _ w1).alloc (Nat.le_refl _) _).alloc (by simp) _) (by unfold put0; split <;> omega) (by unfold put0; split <;> omega) (by unfold put0; split <;> omega) (by unfold put0; split <;> omega) (by unfold put0; split <;> omega)).mono ?_
    rintro e w5 ⟨rfl, hb5⟩
    have HB5 := hide hb5
    clear hb5 b0 b1 b2 b3 v0 v1 v2 v3 v4 v5 C2 HF
    go_wp2_with (go_at_call 13; refine (HA.out _).mono ?_; rintro e w6 ⟨rfl, hb6⟩)
    go_ret
    exact ⟨rfl, HB5.out.trans (hb6.mono HB5.out.size)⟩

end Go.Proofs.Ytgopcaemgcnapaa.Clep
