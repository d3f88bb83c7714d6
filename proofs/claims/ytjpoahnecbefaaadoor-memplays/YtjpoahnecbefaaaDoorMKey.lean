/- What item.Key, sum.Hash and the document's own Key and Hash do when called: for any item, any bytes. Conditions: the kinds' own bounds. -/
import Derived.Test.YtjpoahnecbefaaaDoorNEight
import Derived.Test.YtjpoahnecbefaaaDoorAppend
import Derived.Test.YtjpoahnecbefaaaDoorIVar
import Derived.Deep.RegionHeldLaw
import Derived.Laws.Bits64b
import Derived.Laws.Bits64
namespace Go.Proofs.YtjpoahnecbefaaaDoor.Clep
open Go.RowKit
set_option linter.unusedVariables false

theorem ownAt_bs {w : World} {B : Nat} {v : Value} {zs : List Int} (h : Own w B v zs) (hz : ∀ z ∈ zs, 0 ≤ z ∧ z < 256) : ∃ ao cap, v = .slice ao zs.length cap ∧ Bs w ao zs.length cap zs := by
  obtain ⟨ao, cap, h1, _, h2, _⟩ := own_bs h (range_of hz)
  exact ⟨ao, cap, h1, h2⟩
theorem bs_new2 (w : World) (a b : Int) (ha : 0 ≤ a ∧ a < 256) (hb : 0 ≤ b ∧ b < 256) : Bs (w.alloc (.cells #[.int .u8 a, .int .u8 b] 5)) (some ⟨w.heap.size, 0, none⟩) 2 2 [a, b] := by
  refine ⟨rfl, ⟨Nat.le_refl _, fun h => by cases h⟩, range_of (by intro z hz; simp only [List.mem_cons, List.not_mem_nil, or_false] at hz; omega), fun _ => ⟨w.heap.size, 0, rfl, fun i hi => ?_⟩⟩
  match i, hi with
  | 0, _ => simp
  | 1, _ => simp

set_option maxRecDepth 100000 in
set_option maxHeartbeats 800000 in
theorem key_any (S K T V X : Int) (w : World) (hT : 0 ≤ T ∧ T ≤ 18446744073709551615) :
    Calls Tryd.prog 36 #[.agg #[.int .i64 S, .int .i64 K, .int .u64 T, .int .u64 V, .int .i64 X]] w fun e w' => ∃ v, e = .returned v ∧ Own w' w.heap.size v ([S % 256, K % 256] ++ e8 T 8) ∧ Below w.heap.size w w' := by
  have A1 := hide (((Below.refl _ w).alloc (Nat.le_refl _) (Obj.cells #[Value.int IntKind.i64 S, Value.int IntKind.i64 K, Value.int IntKind.u64 T, Value.int IntKind.u64 V, Value.int IntKind.i64 X] 32)).alloc (by simp) (Obj.cells #[Value.int IntKind.u8 (S % 256), Value.int IntKind.u8 (K % 256)] 5))
  have hs0 : (w.alloc (Obj.cells #[Value.int IntKind.i64 S, Value.int IntKind.i64 K, Value.int IntKind.u64 T, Value.int IntKind.u64 V, Value.int IntKind.i64 X] 32)).heap.size = w.heap.size + 1 := by simp
  have S1 := bs_new2 (w.alloc (Obj.cells #[Value.int IntKind.i64 S, Value.int IntKind.i64 K, Value.int IntKind.u64 T, Value.int IntKind.u64 V, Value.int IntKind.i64 X] 32)) (S % 256) (K % 256) (by omega) (by omega)
  rw [hs0] at S1
  have BS1 := hide S1
  have hs1 := hide (show w.heap.size ≤ ((w.alloc (Obj.cells #[Value.int IntKind.i64 S, Value.int IntKind.i64 K, Value.int IntKind.u64 T, Value.int IntKind.u64 V, Value.int IntKind.i64 X] 32)).alloc (Obj.cells #[Value.int IntKind.u8 (S % 256), Value.int IntKind.u8 (K % 256)] 5)).heap.size by simp; omega)
  clear S1 hs0
  go_enter Tryd.func36, Tryd.ntmps36
  go_wp2_with fail
  refine (eight_any _ 2 2 [S % 256, K % 256] _ T hT.1 hT.2 (by omega) BS1.out).mono ?_
  rintro e w2 ⟨v, rfl, o, b⟩
  have O := hide (own_base o hs1.out)
  have HB := hide (bmore A1.out b)
  clear o b
  go_wp2
  go_ret
  exact ⟨_, rfl, O.out, HB.out⟩

/-- One byte laid over a hash. -/
def lay (h : Nat) (z : Nat) : Nat := 1099511628211 * (h ^^^ z) % 18446744073709551616
/-- A hash over a text. -/
def hs : List Int → Nat → Nat
  | [], h => h
  | z :: r, h => hs r (lay h z.toNat)
def fnv (zs : List Int) : Nat := hs zs 14695981039346656037
theorem lay_lt (h z : Nat) : lay h z < 18446744073709551616 := Nat.mod_lt _ (by decide)
theorem hs_lt : ∀ (zs : List Int) (h : Nat), h < 18446744073709551616 → hs zs h < 18446744073709551616
  | [], h, hh => hh
  | z :: r, h, hh => hs_lt r _ (lay_lt _ _)
theorem fnv_lt (zs : List Int) : fnv zs < 18446744073709551616 := hs_lt zs _ (by decide)
theorem lay_bits (h : Nat) (z : Int) (hh : h < 18446744073709551616) (hz : 0 ≤ z ∧ z < 256) : bits BinOp.xor IntKind.u64 (h : Int) z * 1099511628211 % 18446744073709551616 = ((lay h z.toNat : Nat) : Int) := by
  obtain ⟨Z, rfl⟩ := Int.eq_ofNat_of_zero_le hz.1
  rw [bits_xor_u64_nat _ _ hh (by omega)]
  unfold lay
  simp only [Int.toNat_natCast]
  omega
theorem lay_any (h : Nat) (z : Int) (w : World) (hh : h < 18446744073709551616) (hz : 0 ≤ z ∧ z < 256) :
    Calls Tryd.prog 52 #[.int .u64 h, .int .u8 z] w fun e w' => e = .returned (.int .u64 (lay h z.toNat : Nat)) ∧ w' = w := by
  have HB := hide (lay_bits h z hh hz)
  go_enter Tryd.func52, Tryd.ntmps52
  go_wp2
  go_ret
  exact ⟨by rw [← HB.out]; rfl, rfl⟩
theorem hs_at (zs : List Int) (k h : Nat) (hk : k < zs.length) : hs (zs.drop k) h = hs (zs.drop (k + 1)) (lay h (zs.getD k 0).toNat) := by
  rw [drop_get zs k hk]; rfl
theorem hash_any (ao : Option Addr) (len cap : Nat) (zs : List Int) (w : World) (hm : len ≤ 9223372036854775807) (h : Bs w ao len cap zs) :
    Calls Tryd.prog 35 #[.slice ao len cap] w fun e w' => e = .returned (.int .u64 (fnv zs : Nat)) ∧ w' = w := by
  have hz := hide h.2.2.1
  have hl := hide h.1
  have hc4 := hide h.2.2.2
  clear h
  go_enter Tryd.func35, Tryd.ntmps35
  go_wp2
  go_loop [3, 8] (fun v i => ∃ k C : Nat, k ≤ len ∧ i = .int .i64 k ∧ v = .int .u64 C ∧ C < 18446744073709551616 ∧ Hid (hs (zs.drop k) C = fnv zs)) (fun _ i => len - (intOf i).toNat)
  case atStart => exact ⟨0, 14695981039346656037, by omega, rfl, rfl, by omega, hide (by simp [fnv])⟩
  case round =>
    obtain ⟨k, C, hk, rfl, rfl, hC, hT⟩ := hrel
    by_cases hlt : k < len
    · obtain ⟨b, off, rfl, hcell⟩ := hc4.out (by omega)
      have hck := hcell k hlt
      have hzk := hz.out k
      have HT := hide (show hs (zs.drop (k + 1)) (lay C (zs.getD k 0).toNat) = fnv zs by rw [← hT.out]; exact (hs_at zs k C (by rw [hl.out]; exact hlt)).symm)
      generalize zs.getD k 0 = z at *
      clear hcell
      go_wp2_with fail
      refine (lay_any C z _ hC hzk).mono ?_
      rintro e w1 ⟨rfl, rfl⟩
      go_wp2
      go_round
      case rel => exact ⟨k + 1, _, by omega, by go_num, rfl, lay_lt _ _, HT⟩
      case measure => simp [intOf]; omega
    · have h8 : k = len := by omega
      subst h8
      have hT' := hide (show C = fnv zs from by have := hT.out; rwa [List.drop_eq_nil_of_le (by rw [hl.out]; exact Nat.le_refl _)] at this)
      go_wp2
      go_ret
      exact ⟨by rw [← hT'.out]; rfl, rfl⟩

/-- The bytes of an item's key. -/
def kb (S K T : Int) : List Int := [S % 256, K % 256] ++ e8 T 8
theorem kb_range (S K T : Int) : ∀ z ∈ kb S K T, 0 ≤ z ∧ z < 256 := by
  intro z hz
  unfold kb at hz
  rcases List.mem_append.1 hz with h | h
  · simp only [List.mem_cons, List.not_mem_nil, or_false] at h; omega
  · exact e8_range T z h
theorem kb_len (S K T : Int) : (kb S K T).length = 10 := by simp [kb, e8_len]

end Go.Proofs.YtjpoahnecbefaaaDoor.Clep
