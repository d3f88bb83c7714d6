/- The statement NumTakes, called at any bytes, answers true, in new memory alone. No conditions. -/
import Derived.Test.YtonfnpcgjcicdaaRefTake
namespace Go.Proofs.Ytonfnpcgjcicdaa.Clep
open Go.RowKit
set_option linter.unusedVariables false

theorem u64_bounds {n : Int} (h : (Lit.int .u64 n).wf = true) : 0 ≤ n ∧ n ≤ 18446744073709551615 := by
  simp only [Lit.wf, IntKind.min, IntKind.max, IntKind.signed, IntKind.bits, Bool.and_eq_true] at h
  simp at h
  omega

theorem u8_bounds {n : Int} (h : (Lit.int .u8 n).wf = true) : 0 ≤ n ∧ n < 256 := by
  simp only [Lit.wf, IntKind.min, IntKind.max, IntKind.signed, IntKind.bits, Bool.and_eq_true] at h
  simp at h
  omega

theorem bs_of_row {w : World} {a : Option Addr} {len cap : Nat} {zs : List Int}
    (h : (a = none ∧ len = 0 ∧ cap = 0 ∧ zs = []) ∨ ∃ x, a = some x ∧ len ≤ cap ∧ cap ≤ maxLen ∧ zs.length = cap ∧ (∀ i, i < zs.length → w.cell? (x.add i) = some (.int .u8 (zs.getD i 0))) ∧ ∀ n ∈ zs, (Lit.int .u8 n).wf = true) :
    Bs w a len cap (zs.take len) ∧ len ≤ 9223372036854775807 := by
  rcases h with ⟨rfl, rfl, rfl, rfl⟩ | ⟨x, rfl, hl, hm, hz, hcell, hwz⟩
  · exact ⟨bs_nil w, by omega⟩
  · unfold maxLen at hm
    refine ⟨⟨by rw [List.length_take]; omega, ⟨hl, fun h => by cases h⟩, range_of fun z hz => u8_bounds (hwz z (List.mem_of_mem_take hz)), fun h0 => ?_⟩, by omega⟩
    obtain ⟨b, off, spot⟩ := x
    have hc := hcell 0 (by omega)
    have hspot : spot = none := by simpa [Addr.add] using World.cell?_spot hc
    subst hspot
    refine ⟨b, off, rfl, fun i hi => ?_⟩
    have := hcell i (by omega)
    rw [add_plain] at this
    rw [this]
    simp [List.getD, hi]

theorem str_size (zs : List Int) : (strOfNums zs).size = zs.length := by simp [strOfNums, ByteArray.size]

set_option maxHeartbeats 1000000 in
theorem takes_walk (a0 : Option Addr) (len0 cap0 : Nat) (zs : List Int) (w : World) (h : Bs w a0 len0 cap0 zs) (hm : len0 ≤ 9223372036854775807) :
    Calls Try.prog 6 #[.slice a0 len0 cap0] w fun e w' => e = .returned (.bool true) ∧ Below w.heap.size w w' := by
  have H := hide h
  have hcv := conv_bs h
  have HZ := hide h.2.2.1
  have HL := hide h.1
  clear h
  go_enter Try.func6, Try.ntmps6
  go_wp2_with fail
  refine (take_any a0 len0 cap0 zs _ hm H.out).mono ?_
  generalize hr : tk zs 0 0 = r
  have HR := hide hr
  clear hr
  rintro e w1 ⟨rfl, rfl⟩
  unfold tup
  obtain ⟨x, y, z⟩ := r
  go_wp2_with fail
  refine (reftake_any (strOfNums zs) zs _ (by rw [str_size, HL.out]; exact hm) (sz_of zs HZ.out) HZ.out).mono ?_
  rw [HR.out]
  rintro e w1 ⟨rfl, rfl⟩
  unfold tup
  go_wp2_with fail
  refine (uneight_any a0 len0 cap0 zs _ hm H.out).mono ?_
  generalize hr : ue zs = r
  have HR2 := hide hr
  clear hr
  rintro e w1 ⟨rfl, rfl⟩
  unfold tup2
  obtain ⟨x2, y2⟩ := r
  go_wp2_with fail
  refine (refuneight_any (strOfNums zs) zs _ (by rw [str_size, HL.out]; exact hm) (sz_of zs HZ.out) HZ.out).mono ?_
  rw [HR2.out]
  rintro e w1 ⟨rfl, rfl⟩
  unfold tup2
  go_wp2_with (go_at_call 11; refine (awake_any _).mono ?_; rintro e w' ⟨rfl, hbel⟩)
  go_ret
  exact ⟨rfl, hbel⟩
end Go.Proofs.Ytonfnpcgjcicdaa.Clep
