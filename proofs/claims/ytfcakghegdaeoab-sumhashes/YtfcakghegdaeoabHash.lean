/- What sum.Hash and sum.Mix do when called (walks over the translated program), and what a hash is: for any bytes, any two numbers. No conditions but the kinds' own bounds. -/
import Derived.Test.YtfcakghegdaeoabSum
namespace Go.Proofs.Ytfcakghegdaeoab.Clep
open Go.RowKit
set_option linter.unusedVariables false

/-- One byte laid over a hash. -/
def lay (h : Nat) (z : Nat) : Nat := 1099511628211 * (h ^^^ z) % 18446744073709551616
/-- A hash over a text. -/
def hs : List Int → Nat → Nat
  | [], h => h
  | z :: r, h => hs r (lay h z.toNat)
def fnv (zs : List Int) : Nat := hs zs 14695981039346656037
theorem lay_lt (h z : Nat) : lay h z < 18446744073709551616 := Nat.mod_lt _ (by decide)
theorem hs_lt : ∀ (zs : List Int) (h : Nat), h < 18446744073709551616 → hs zs h < 18446744073709551616
  | [], h, hh => hh
  | z :: r, h, hh => hs_lt r _ (lay_lt _ _)
theorem fnv_lt (zs : List Int) : fnv zs < 18446744073709551616 := hs_lt zs _ (by decide)
theorem hs_append : ∀ (xs ys : List Int) (h : Nat), hs (xs ++ ys) h = hs ys (hs xs h)
  | [], ys, h => rfl
  | x :: xs, ys, h => by rw [List.cons_append, hs, hs_append xs]; rfl
theorem lay_inj (h x y : Nat) (hh : h < 18446744073709551616) (hx : x < 256) (hy : y < 256) (e : lay h x = lay h y) : x = y := by
  unfold lay at e
  have inv : ∀ a : Nat, a < 18446744073709551616 → 14886173955864302971 * (1099511628211 * a % 18446744073709551616) % 18446744073709551616 = a := by
    intro a ha
    omega
  have h1 := inv (h ^^^ x) (Nat.xor_lt_two_pow (n := 64) hh (by omega))
  have h2 := inv (h ^^^ y) (Nat.xor_lt_two_pow (n := 64) hh (by omega))
  rw [e, h2] at h1
  have := congrArg (h ^^^ ·) h1
  simpa [← Nat.xor_assoc] using this.symm
/-- SumHashes. -/
theorem fnv_last (zs : List Int) (x : Int) : fnv (zs ++ [x]) = lay (fnv zs) x.toNat := by unfold fnv; rw [hs_append]; rfl

theorem lay_bits (h : Nat) (z : Int) (hh : h < 18446744073709551616) (hz : 0 ≤ z ∧ z < 256) : bits BinOp.xor IntKind.u64 (h : Int) z * 1099511628211 % 18446744073709551616 = ((lay h z.toNat : Nat) : Int) := by
  obtain ⟨Z, rfl⟩ := Int.eq_ofNat_of_zero_le hz.1
  rw [u64_xor_nat _ _ hh (by omega)]
  unfold lay
  simp only [Int.toNat_natCast]
  omega
theorem lay_any (h : Nat) (z : Int) (w : World) (hh : h < 18446744073709551616) (hz : 0 ≤ z ∧ z < 256) :
    Calls Try.prog 23 #[.int .u64 h, .int .u8 z] w fun e w' => e = .returned (.int .u64 (lay h z.toNat : Nat)) ∧ w' = w := by
  have HB := hide (lay_bits h z hh hz)
  go_enter Try.func23, Try.ntmps23
  go_wp2
  go_ret
  exact ⟨by rw [← HB.out]; rfl, rfl⟩

theorem hs_at (zs : List Int) (k h : Nat) (hk : k < zs.length) : hs (zs.drop k) h = hs (zs.drop (k + 1)) (lay h (zs.getD k 0).toNat) := by
  rw [drop_get zs k hk]; rfl
theorem hash_any (ao : Option Addr) (len cap : Nat) (zs : List Int) (w : World) (hm : len ≤ 9223372036854775807) (h : Bs w ao len cap zs) :
    Calls Try.prog 10 #[.slice ao len cap] w fun e w' => e = .returned (.int .u64 (fnv zs : Nat)) ∧ w' = w := by
  have hz := hide h.2.2.1
  have hl := hide h.1
  have hc4 := hide h.2.2.2
  clear h
  go_enter Try.func10, Try.ntmps10
  go_wp2
  go_loop [3, 8] (fun v i => ∃ k C : Nat, k ≤ len ∧ i = .int .i64 k ∧ v = .int .u64 C ∧ C < 18446744073709551616 ∧ Hid (hs (zs.drop k) C = fnv zs)) (fun _ i => len - (intOf i).toNat)
  case atStart => exact ⟨0, 14695981039346656037, by omega, rfl, rfl, by omega, hide (by simp [fnv])⟩
  case round =>
    obtain ⟨k, C, hk, rfl, rfl, hC, hT⟩ := hrel
    by_cases hlt : k < len
    · obtain ⟨b, off, rfl, hcell⟩ := hc4.out (by omega)
      have hck := hcell k hlt
      have hzk := hz.out k
      have HT := hide (show hs (zs.drop (k + 1)) (lay C (zs.getD k 0).toNat) = fnv zs by rw [← hT.out]; exact (hs_at zs k C (by rw [hl.out]; exact hlt)).symm)
      generalize zs.getD k 0 = z at *
      clear hcell
      go_wp2_with fail
      refine (lay_any C z _ hC hzk).mono ?_
      rintro e w1 ⟨rfl, rfl⟩
      go_wp2
      go_round
      case rel => exact ⟨k + 1, _, by omega, by go_num, rfl, lay_lt _ _, HT⟩
      case measure => simp [intOf]; omega
    · have h8 : k = len := by omega
      subst h8
      have hT' := hide (show C = fnv zs from by have := hT.out; rwa [List.drop_eq_nil_of_le (by rw [hl.out]; exact Nat.le_refl _)] at this)
      go_wp2
      go_ret
      exact ⟨by rw [← hT'.out]; rfl, rfl⟩

end Go.Proofs.Ytfcakghegdaeoab.Clep
