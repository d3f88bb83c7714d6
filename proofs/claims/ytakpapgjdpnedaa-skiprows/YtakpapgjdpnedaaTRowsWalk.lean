/- SkipRows: rising items put with towers of one height, walked. No conditions. -/
import Derived.Test.YtakpapgjdpnedaaTUse
namespace Go.Proofs.Ytakpapgjdpnedaa.Clep
open Go.RowKit
set_option linter.unusedVariables false

theorem putW_end (x : It) (h : Nat) : ∀ (ws : List (It × Nat)), (∀ p ∈ ws, p.1.less x = true) → putW x h ws = (true, ws ++ [(x, h)])
  | [], _ => rfl
  | (y, g) :: r, hl => by
    show (if y.less x then _ else _) = _
    rw [if_pos (hl (y, g) (by simp)), putW_end x h r fun p hp => hl p (by simp [hp])]
    rfl
theorem and8 (a : Int) : 0 ≤ bits .and .i64 a 255 ∧ bits .and .i64 a 255 ≤ 255 := by
  have e : bits .and .i64 a 255 = IntKind.i64.wrap ((BitVec.ofInt 64 a &&& BitVec.ofInt 64 255).toNat : Int) := rfl
  have hle : (BitVec.ofInt 64 a &&& BitVec.ofInt 64 255).toNat ≤ 255 := by
    rw [BitVec.toNat_and]; exact Nat.le_trans Nat.and_le_right (by decide)
  rw [e]
  generalize (BitVec.ofInt 64 a &&& BitVec.ofInt 64 255).toNat = k at *
  simp [IntKind.wrap, IntKind.bits, IntKind.signed]
  omega
theorem and9 (a : Int) : 0 ≤ bits .and .u64 a 511 ∧ bits .and .u64 a 511 ≤ 511 := by
  have e : bits .and .u64 a 511 = IntKind.u64.wrap ((BitVec.ofInt 64 a &&& BitVec.ofInt 64 511).toNat : Int) := rfl
  have hle : (BitVec.ofInt 64 a &&& BitVec.ofInt 64 511).toNat ≤ 511 := by
    rw [BitVec.toNat_and]; exact Nat.le_trans Nat.and_le_right (by decide)
  rw [e]
  generalize (BitVec.ofInt 64 a &&& BitVec.ofInt 64 511).toNat = k at *
  simp [IntKind.wrap, IntKind.bits, IntKind.signed]
  omega
theorem row_num (x : Int) (k : Nat) (hx : 0 ≤ x ∧ x ≤ 255) (hk : 0 < k ∧ k ≤ 100) : ∃ N : Nat, wrap64 (x.tmod k + 1) = N ∧ 1 ≤ N ∧ N ≤ k := by
  have e : x.tmod k = x % k := Int.tmod_eq_emod_of_nonneg hx.1
  have h1 : 0 ≤ x % (k : Int) := Int.emod_nonneg _ (by omega)
  have h2 : x % (k : Int) < k := Int.emod_lt_of_pos _ (by omega)
  rw [e]
  generalize x % (k : Int) = y at *
  refine ⟨(y + 1).toNat, ?_, by omega, by omega⟩
  rw [show wrap64 (y + 1) = y + 1 from by simp [wrap64]; omega]
  omega
def rowX (k : Nat) : It := ⟨5, 2, (10 * k : Nat), 1, 0⟩
def rowW (h n : Nat) : List (It × Nat) := (List.range n).map fun k => (rowX k, h)
theorem rowW_put (h n : Nat) (hh : 1 ≤ h ∧ h ≤ 6) (hn : n < 1000) : putA (rowX n) h (rowW h n) = ((true, 0), rowW h (n + 1)) := by
  unfold putA
  rw [if_pos ⟨ok_iff.2 (show (0 : Int) ≤ 5 ∧ (5 : Int) ≤ 255 ∧ (1 : Int) ≤ 1 ∧ (1 : Int) ≤ 281474976710656 ∧ (((2 : Int) = 1 ∧ ((10 * n : Nat) : Int) = 0 ∧ (0 : Int) = 0) ∨ ((2 : Int) = 2 ∧ ((10 * n : Nat) : Int) ≤ 1099511627776)) by omega), by omega, by omega⟩, show (h : Int).toNat = h from by omega, putW_end]
  · simp [rowW, List.range_succ]
  · intro p hp
    obtain ⟨k, hk, rfl⟩ := List.mem_map.1 hp
    have := List.mem_range.1 hk
    exact less_iff.2 (show (5 : Int) < 5 ∨ (5 : Int) = 5 ∧ ((2 : Int) < 2 ∨ (2 : Int) = 2 ∧ ((10 * k : Nat) : Int) < ((10 * n : Nat) : Int)) by omega)
theorem rowW_len (h n : Nat) : (rowW h n).length = n := by simp [rowW]
theorem rowW_lev (h n k : Nat) (hk : 1 ≤ k ∧ k ≤ 6) : (levW k (rowW h n)).length = if k ≤ h then n else 0 := by
  unfold levW
  rw [if_pos (by omega), List.length_map]
  by_cases hkh : k ≤ h
  · rw [if_pos hkh, List.filter_eq_self.2, rowW_len]
    intro p hp
    obtain ⟨j, hj, rfl⟩ := List.mem_map.1 hp
    simp; omega
  · rw [if_neg hkh, List.filter_eq_nil_iff.2]; rfl
    intro p hp
    obtain ⟨j, hj, rfl⟩ := List.mem_map.1 hp
    simp; omega
theorem find_range {α : Type} (f : Nat → α) (p : α → Bool) (n k : Nat) (hk : ∀ j, j < n → (p (f j) = true ↔ k ≤ j)) : ((List.range n).map f).find? p = if k < n then some (f k) else none := by
  by_cases hkn : k < n
  · rw [if_pos hkn]
    obtain ⟨r, rfl⟩ : ∃ r, n = k + (1 + r) := ⟨n - k - 1, by omega⟩
    rw [List.range_add, List.map_append, List.find?_append]
    have h1 : ((List.range k).map f).find? p = none := by
      rw [List.find?_eq_none]
      intro x hx
      obtain ⟨j, hj, rfl⟩ := List.mem_map.1 hx
      have := List.mem_range.1 hj
      intro hp
      have := (hk j (by omega)).1 hp
      omega
    rw [h1]
    have h2 : p (f k) = true := (hk k (by omega)).2 (Nat.le_refl _)
    have h3 : List.range (1 + r) = 0 :: (List.range r).map (1 + ·) := by rw [List.range_add]; rfl
    rw [h3]
    simp [h2]
  · rw [if_neg hkn, List.find?_eq_none]
    intro x hx
    obtain ⟨j, hj, rfl⟩ := List.mem_map.1 hx
    have := List.mem_range.1 hj
    intro hp
    have := (hk j (by omega)).1 hp
    omega
theorem rowW_from (h n a : Nat) : fromW ⟨5, 2, a, 1, 0⟩ (rowW h n) = if (a + 9) / 10 < n then some (rowX ((a + 9) / 10)) else none := by
  unfold fromW rowW
  rw [find_range _ _ n ((a + 9) / 10)]
  · split <;> rfl
  · intro j hj
    have : (!(rowX j).less ⟨5, 2, a, 1, 0⟩) = true ↔ ¬ (10 * j < a) := by
      rw [Bool.not_eq_true', nless_iff]
      show (¬ ((5 : Int) < 5 ∨ (5 : Int) = 5 ∧ ((2 : Int) < 2 ∨ (2 : Int) = 2 ∧ ((10 * j : Nat) : Int) < (a : Int)))) ↔ _
      omega
    rw [this]
    omega

set_option maxRecDepth 100000 in
set_option maxHeartbeats 2000000 in
theorem rows_any (n h a : Int) (ha : 0 ≤ a ∧ a ≤ 18446744073709551615) (w : World) : Calls Try.prog 5 #[.int .i64 n, .int .i64 h, .int .u64 a] w fun e w' => e = .returned (.bool true) ∧ Below w.heap.size w w' := by
  have an := and8 n
  have ah8 := and8 h
  go_enter Try.func5, Try.ntmps5
  go_wp2_with fail
  refine (new_h w).mono ?_
  rintro e w1 ⟨L, rfl, hh, hb⟩
  have H1 := hide hh
  have B1 := hide hb
  clear hh hb
  obtain ⟨N, hN⟩ : ∃ N : Nat, wrap64 ((bits .and .i64 n 255).tmod 50 + 1) = N ∧ 1 ≤ N ∧ N ≤ 50 := row_num _ 50 an (by omega)
  obtain ⟨H, hH⟩ : ∃ H : Nat, wrap64 ((bits .and .i64 h 255).tmod 6 + 1) = H ∧ 1 ≤ H ∧ H ≤ 6 := row_num _ 6 ah8 (by omega)
  have N50 := hN.2
  have H6 := hH.2
  have eN := hide hN.1
  have eH := hide hH.1
  clear hN hH an ah8
  go_wp2_with fail
  rw [eN.out, eH.out]
  generalize bits .and .i64 n 255 = n1
  generalize bits .and .i64 h 255 = h1
  generalize n1.tmod 50 = n2
  generalize h1.tmod 6 = h2
  clear eN eH
  go_loopw [8, 9, 10] (fun s8 _ _ wr => ∃ i : Nat, s8 = .int .i64 i ∧ i ≤ N ∧ Hid (∃ B, Held wr L B (rowW H i) ∧ ∀ b, B b → w.heap.size ≤ b) ∧ Hid (Below w.heap.size w wr)) (fun s8 _ _ _ => N - (intOf s8).toNat)
  case atStart => exact ⟨0, rfl, by omega, hide ⟨_, H1.out, fun b hb => hb.1⟩, B1⟩
  case round =>
    obtain ⟨i, rfl, hi, hheld, hbel⟩ := hrel
    by_cases hlt : i < N
    · obtain ⟨B, hB, hBw⟩ := hheld.out
      have C1 := hide (put_h wr L B (rowW H i) 5 2 (10 * (i : Int)) 1 0 H hB (it_wf _ _ _ _ _ (by omega)) (by rw [rowW_len]; omega))
      rw [show (⟨5, 2, 10 * (i : Int), 1, 0⟩ : It) = rowX i from by simp [rowX], rowW_put H i H6 (by omega)] at C1
      have HBW := hide hBw
      clear hB hBw
      go_wp2_with fail
      refine C1.out.mono ?_
      rintro e w2 ⟨rfl, hh, hc⟩
      have H2 : Hid (∃ B, Held w2 L B (rowW H (i + 1)) ∧ ∀ b, B b → w.heap.size ≤ b) := hide ⟨_, hh, fun b hb => by
        rcases hb with e | e
        · exact HBW.out b e
        · have := hbel.out.size; omega⟩
      have B2 := hide (Below.ch hbel.out hc hbel.out.size HBW.out)
      clear hh hc C1
      go_wp2_with fail
      go_roundw
      case rel => first | exact ⟨i + 1, by go_num, by omega, H2, B2⟩ | ((repeat apply Exists.intro); exact ⟨⟨i + 1, by go_num, by omega, H2, B2⟩, rfl⟩)
      case measure => simp [intOf]; omega
    · obtain rfl : i = N := by omega
      go_wp2_with fail
      go_loopw [11, 12] (fun s11 _ wq => ∃ k : Nat, s11 = .int .i64 (k + 1 : Nat) ∧ k ≤ 6 ∧ Hid (∃ B, Held wq L B (rowW H i) ∧ ∀ b, B b → w.heap.size ≤ b) ∧ Hid (Below w.heap.size w wq)) (fun s11 _ _ => 8 - (intOf s11).toNat)
      case atStart => exact ⟨0, rfl, by omega, hheld, hbel⟩
      case round =>
        obtain ⟨k, rfl, hk, hheld2, hbel2⟩ := hrel
        clear hheld hbel
        by_cases hk6 : k < 6
        · obtain ⟨B, hB, hBw⟩ := hheld2.out
          have C1 := hide (level_h wr L B (rowW H i) ((k + 1 : Nat) : Int) hB (by rw [rowW_len]; omega))
          have hlen := rowW_lev H i (k + 1) (by omega)
          by_cases hkh : k + 1 ≤ H
          · have HL := hide (show (levW ((k + 1 : Nat) : Int) (rowW H i)).length = i by rw [hlen, if_pos hkh])
            have hg : ((k + 1 : Nat) : Int) ≤ (H : Int) := by omega
            clear hlen hB
            go_wp2_with fail
            refine C1.out.mono ?_
            rintro e w2 ⟨a1, c1, rfl, -, -, b2⟩
            rw [HL.out]
            have H2 : Hid (∃ B, Held w2 L B (rowW H i) ∧ ∀ b, B b → w.heap.size ≤ b) := by
              obtain ⟨B, q1, q2⟩ := hheld2.out
              exact hide ⟨B, q1.keep b2, q2⟩
            have B2 := hide (bmore hbel2.out b2)
            clear b2 C1
            go_wp2_with fail
            go_roundw
            case rel => first | exact ⟨k + 1, by go_num, by omega, H2, B2⟩ | ((repeat apply Exists.intro); exact ⟨⟨k + 1, by go_num, by omega, H2, B2⟩, rfl⟩)
            case measure => simp [intOf]; omega
          · have HL := hide (show (levW ((k + 1 : Nat) : Int) (rowW H i)).length = 0 by rw [hlen, if_neg hkh])
            have hg : ¬ ((k + 1 : Nat) : Int) ≤ (H : Int) := by omega
            clear hlen hB
            go_wp2_with fail
            refine C1.out.mono ?_
            rintro e w2 ⟨a1, c1, rfl, -, -, b2⟩
            rw [HL.out]
            have H2 : Hid (∃ B, Held w2 L B (rowW H i) ∧ ∀ b, B b → w.heap.size ≤ b) := by
              obtain ⟨B, q1, q2⟩ := hheld2.out
              exact hide ⟨B, q1.keep b2, q2⟩
            have B2 := hide (bmore hbel2.out b2)
            clear b2 C1
            go_wp2_with fail
            go_roundw
            case rel => first | exact ⟨k + 1, by go_num, by omega, H2, B2⟩ | ((repeat apply Exists.intro); exact ⟨⟨k + 1, by go_num, by omega, H2, B2⟩, rfl⟩)
            case measure => simp [intOf]; omega
        · obtain rfl : k = 6 := by omega
          obtain ⟨A, hA⟩ : ∃ A : Nat, bits .and .u64 a 511 = A ∧ A ≤ 511 := ⟨(bits .and .u64 a 511).toNat, by have := and9 a; omega⟩
          have eA := hide hA.1
          have A5 := hA.2
          clear hA
          obtain ⟨B, hB, hBw⟩ := hheld2.out
          have C1 := hide (from_h wr L B (rowW H i) 5 2 A 1 0 hB _ (rowW_from H i A))
          clear hB hBw
          go_wp2_with fail
          rw [eA.out]
          generalize bits .and .u64 a 511 = a1
          by_cases hq : (A + 9) / 10 < i
          · rw [if_pos hq] at C1
            refine C1.out.mono ?_
            rintro e w2 ⟨rfl, b2⟩
            unfold itV rowX
            simp only [Option.getD_some, Option.isSome_some]
            have B2 := hide (bmore hbel2.out b2)
            have heq : 10 * (((A : Int) + 9) / 10) = ((A : Int) + 9) / 10 * 10 := by omega
            have hng : ¬ ((10 : Int) * i ≤ ((A : Int) + 9) / 10 * 10) := by omega
            have BA := fun (o : Obj) => hide (B2.out.alloc B2.out.size o)
            clear C1 b2 eA
            go_wp2_with fail
            refine (awake_any _).mono ?_
            rintro e w3 ⟨rfl, b3⟩
            have B3 := hide (bmore (BA _).out b3)
            clear b3 BA
            go_wp2
            go_ret
            exact ⟨rfl, B3.out⟩
          · rw [if_neg hq] at C1
            refine C1.out.mono ?_
            rintro e w2 ⟨rfl, b2⟩
            unfold itV it0
            simp only [Option.getD_none, Option.isSome_none]
            have B2 := hide (bmore hbel2.out b2)
            have hng : (10 : Int) * i ≤ ((A : Int) + 9) / 10 * 10 := by omega
            have BA := fun (o : Obj) => hide (B2.out.alloc B2.out.size o)
            clear C1 b2 eA
            go_wp2_with fail
            refine (awake_any _).mono ?_
            rintro e w3 ⟨rfl, b3⟩
            have B3 := hide (bmore (BA _).out b3)
            clear b3 BA
            go_wp2
            go_ret
            exact ⟨rfl, B3.out⟩

end Go.Proofs.Ytakpapgjdpnedaa.Clep
