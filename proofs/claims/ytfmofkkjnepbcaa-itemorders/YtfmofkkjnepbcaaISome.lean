/- What the statements own function Some makes, and how keys of items stand: for any numbers. No conditions. -/
import Derived.Test.YtfmofkkjnepbcaaILaw
import Derived.Test.YtfmofkkjnepbcaaIReadItem
import Derived.Test.YtfmofkkjnepbcaaNTexts
import Derived.Deep.RegionHeldLaw
namespace Go.Proofs.Ytfmofkkjnepbcaa.Clep
open Go.RowKit
set_option linter.unusedVariables false

theorem andi (a : Int) (m : Nat) (hm : m < 9223372036854775808) : 0 ≤ bits .and .i64 a (m : Int) ∧ bits .and .i64 a (m : Int) ≤ m := by
  have e : bits .and .i64 a (m : Int) = IntKind.i64.wrap ((BitVec.ofInt 64 a &&& BitVec.ofInt 64 (m : Int)).toNat : Int) := rfl
  have hle : (BitVec.ofInt 64 a &&& BitVec.ofInt 64 (m : Int)).toNat ≤ m := by
    rw [BitVec.toNat_and]
    refine Nat.le_trans Nat.and_le_right ?_
    rw [BitVec.toNat_ofInt]
    omega
  rw [e]
  generalize (BitVec.ofInt 64 a &&& BitVec.ofInt 64 (m : Int)).toNat = k at *
  simp [IntKind.wrap, IntKind.bits, IntKind.signed]
  omega
theorem andu (a : Int) (m : Nat) (hm : m < 18446744073709551616) : 0 ≤ bits .and .u64 a (m : Int) ∧ bits .and .u64 a (m : Int) ≤ m := by
  have e : bits .and .u64 a (m : Int) = IntKind.u64.wrap ((BitVec.ofInt 64 a &&& BitVec.ofInt 64 (m : Int)).toNat : Int) := rfl
  have hle : (BitVec.ofInt 64 a &&& BitVec.ofInt 64 (m : Int)).toNat ≤ m := by
    rw [BitVec.toNat_and]
    refine Nat.le_trans Nat.and_le_right ?_
    rw [BitVec.toNat_ofInt]
    omega
  rw [e]
  generalize (BitVec.ofInt 64 a &&& BitVec.ofInt 64 (m : Int)).toNat = k at *
  rw [IntKind.wrap_u64]
  omega

/-- The item that Some makes. -/
def someI (s k t v x : Int) : It := if bits .and .i64 k 3 = 0 then ⟨bits .and .i64 s 255, 1, 0, bits .and .u64 v 281474976710655 + 1, 0⟩ else ⟨bits .and .i64 s 255, 2, bits .and .u64 t 1099511627775, bits .and .u64 v 281474976710655 + 1, x⟩
theorem some_rng (s k t v x : Int) : (0 ≤ (someI s k t v x).S ∧ (someI s k t v x).S ≤ 255) ∧ (1 ≤ (someI s k t v x).K ∧ (someI s k t v x).K ≤ 2) ∧ (0 ≤ (someI s k t v x).T ∧ (someI s k t v x).T ≤ 1099511627775) := by
  have h1 : 0 ≤ bits .and .i64 s 255 ∧ bits .and .i64 s 255 ≤ 255 := andi s 255 (by omega)
  have h2 : 0 ≤ bits .and .u64 t 1099511627775 ∧ bits .and .u64 t 1099511627775 ≤ 1099511627775 := andu t 1099511627775 (by omega)
  unfold someI
  split <;> simp only <;> omega

theorem some_results {w : World} {R : Nat} {S K T V X : Int} (h : Vx w R S K T V X) (ts : Array Value) (h2 : ts.getD 10 undef = .pointer (some ⟨R, 0, none⟩)) :
    (results Try.f28 ts).run Try.prog w = .ok (.agg #[.int .i64 S, .int .i64 K, .int .u64 T, .int .u64 V, .int .i64 X]) w := by
  obtain ⟨⟨h0, h1, h3, h4, h5⟩, -⟩ := h
  simp only [Nat.zero_add] at h1 h3 h4 h5
  rw [Array.getD_eq_getD_getElem?] at h2
  simp [results, Try.results28, go_sem, h0, h1, h2, h3, h4, h5]

set_option maxHeartbeats 1000000 in
theorem some_any (s k t v x : Int) (w : World) : Calls Try.prog 28 #[.int .i64 s, .int .i64 k, .int .u64 t, .int .u64 v, .int .i64 x] w fun e w' =>
    e = .returned (.agg #[.int .i64 (someI s k t v x).S, .int .i64 (someI s k t v x).K, .int .u64 (someI s k t v x).T, .int .u64 (someI s k t v x).V, .int .i64 (someI s k t v x).X]) ∧ Below w.heap.size w w' := by
  have hv : 0 ≤ bits .and .u64 v 281474976710655 ∧ bits .and .u64 v 281474976710655 ≤ 281474976710655 := andu v 281474976710655 (by omega)
  by_cases hk : bits .and .i64 k 3 = 0
  · have hp := hide (show someI s k t v x = ⟨bits .and .i64 s 255, 1, 0, bits .and .u64 v 281474976710655 + 1, 0⟩ by unfold someI; rw [if_pos hk])
    have hkb : (bits .and .i64 k 3 == 0) = true := by rw [hk]; rfl
    clear hk
    go_enter Try.func28, Try.ntmps28
    go_wp2_with fail
    have e : (someI s k t v x).S = (bits BinOp.and IntKind.i64 s 255) ∧ (someI s k t v x).K = 1 ∧ (someI s k t v x).T = 0 ∧ (someI s k t v x).V = (bits BinOp.and IntKind.u64 v 281474976710655 + 1) ∧ (someI s k t v x).X = 0 := by rw [hp.out]; exact ⟨rfl, rfl, rfl, rfl, rfl⟩
    refine bodyPost_ret (some_results ((vx_new w (bits BinOp.and IntKind.i64 s 255) 1 0 (bits BinOp.and IntKind.u64 v 281474976710655 + 1) 0).grown (gb_below ((Below.refl _ _).alloc (Nat.le_refl _) (Obj.cells #[Value.int IntKind.i64 (bits BinOp.and IntKind.i64 s 255), Value.int IntKind.i64 1, Value.int IntKind.u64 0, Value.int IntKind.u64 (bits BinOp.and IntKind.u64 v 281474976710655 + 1), Value.int IntKind.i64 0] 24)) none) (by simp)) _ rfl) rfl ⟨?_, ((Below.refl _ w).alloc (Nat.le_refl _) _).alloc (by simp) _⟩
    rw [e.1, e.2.1, e.2.2.1, e.2.2.2.1, e.2.2.2.2]
  · have hp := hide (show someI s k t v x = ⟨bits .and .i64 s 255, 2, bits .and .u64 t 1099511627775, bits .and .u64 v 281474976710655 + 1, x⟩ by unfold someI; rw [if_neg hk])
    have hkb : (bits .and .i64 k 3 == 0) = false := by simp [hk]
    clear hk
    go_enter Try.func28, Try.ntmps28
    go_wp2_with fail
    have e : (someI s k t v x).S = (bits BinOp.and IntKind.i64 s 255) ∧ (someI s k t v x).K = 2 ∧ (someI s k t v x).T = (bits BinOp.and IntKind.u64 t 1099511627775) ∧ (someI s k t v x).V = (bits BinOp.and IntKind.u64 v 281474976710655 + 1) ∧ (someI s k t v x).X = x := by rw [hp.out]; exact ⟨rfl, rfl, rfl, rfl, rfl⟩
    refine bodyPost_ret (some_results ((vx_new w (bits BinOp.and IntKind.i64 s 255) 2 (bits BinOp.and IntKind.u64 t 1099511627775) (bits BinOp.and IntKind.u64 v 281474976710655 + 1) x).grown (gb_below ((Below.refl _ _).alloc (Nat.le_refl _) (Obj.cells #[Value.int IntKind.i64 (bits BinOp.and IntKind.i64 s 255), Value.int IntKind.i64 2, Value.int IntKind.u64 (bits BinOp.and IntKind.u64 t 1099511627775), Value.int IntKind.u64 (bits BinOp.and IntKind.u64 v 281474976710655 + 1), Value.int IntKind.i64 x] 24)) none) (by simp)) _ rfl) rfl ⟨?_, ((Below.refl _ w).alloc (Nat.le_refl _) _).alloc (by simp) _⟩
    rw [e.1, e.2.1, e.2.2.1, e.2.2.2.1, e.2.2.2.2]

/-- What the key of an item is. -/
def ky (x : It) : List Int := [x.S % 256, x.K % 256] ++ e8 x.T 8
theorem ky_range (x : It) : ∀ z ∈ ky x, 0 ≤ z ∧ z < 256 := cat_range (by intro z hz; simp only [List.mem_cons, List.not_mem_nil, or_false] at hz; omega) (e8_range x.T)
theorem ky_len (x : It) : (ky x).length = 10 := by unfold ky; rw [List.length_append, e8_len]; rfl
def Sm (x : It) : Prop := (0 ≤ x.S ∧ x.S ≤ 255) ∧ (1 ≤ x.K ∧ x.K ≤ 2) ∧ (0 ≤ x.T ∧ x.T ≤ 1099511627775)
theorem ky_val (x : It) (h : Sm x) : val (ky x) = x.S * 4722366482869645213696 + x.K * 18446744073709551616 + x.T := by
  obtain ⟨hS, hK, hT⟩ := h
  have e := val_e8 x.T hT.1 (by omega)
  have l := e8_len x.T 8
  unfold ky
  show (x.S % 256) * 256 ^ ((x.K % 256 :: e8 x.T 8).length) + ((x.K % 256) * 256 ^ ((e8 x.T 8).length) + val (e8 x.T 8)) = _
  rw [List.length_cons, l, e, show (256 : Int) ^ (8 + 1) = 4722366482869645213696 from by decide, show (256 : Int) ^ 8 = 18446744073709551616 from by decide, show x.S % 256 = x.S from by omega, show x.K % 256 = x.K from by omega]
  omega
theorem ky_less (a b : It) (ha : Sm a) (hb : Sm b) : Op.bytesLess (strOfNums (ky a)).toList (strOfNums (ky b)).toList = lessI a.S a.K a.T b.S b.K b.T := by
  rw [toList_str, toList_str, less_val _ _ (by rw [ky_len, ky_len]) (ky_range a) (ky_range b), ky_val a ha, ky_val b hb]
  obtain ⟨hS, hK, hT⟩ := ha
  obtain ⟨hS', hK', hT'⟩ := hb
  unfold lessI
  rw [decide_eq_decide]
  omega
theorem ky_same (a b : It) (ha : Sm a) (hb : Sm b) : ((strOfNums (ky a)).toList == (strOfNums (ky b)).toList) = sameI a.S a.K a.T b.S b.K b.T := by
  rw [str_eq _ _ (ky_range a) (ky_range b)]
  unfold sameI
  rw [decide_eq_decide]
  constructor
  · intro h
    have hv := congrArg val h
    rw [ky_val a ha, ky_val b hb] at hv
    obtain ⟨hS, hK, hT⟩ := ha
    obtain ⟨hS', hK', hT'⟩ := hb
    omega
  · rintro ⟨h1, h2, h3⟩
    unfold ky
    rw [h1, h2, h3]

end Go.Proofs.Ytfmofkkjnepbcaa.Clep
