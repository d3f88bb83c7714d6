/- What the functions of package stamp do when called (walks over the translated program, in one goroutine): Make, Split, New, Next, See, Now, Lease, Renew, each as one outcome function. A Clock is three cells of one block: node, counter, lease. Conditions: the cells may be written. -/
import Derived.Test.YtchipmjceiamfaaBase
import Derived.Tactics
import Derived.Tactics2
import Derived.Laws.Pointers
import Derived.Laws.LoneSync
import Derived.RegionTactic
import Derived.RegionCalls
import Derived.Laws.NewBlocks
namespace Go.Proofs.Ytchipmjceiamfaa.Clep
open Go.RowKit
set_option linter.unusedVariables false

def top40 : Int := 1099511627776
/-- What Make answers. -/
def mkv (c nd : Int) : Int × Int := if 0 ≤ nd ∧ nd < 7 then (if 1 ≤ c ∧ c ≤ 1099511627776 then (c * 8 + nd, 0) else (0, 16)) else (0, 1)
/-- What Next answers (version, error), and the counter behind it. -/
def nxv (nd c l : Int) : Int × Int × Int := if 1099511627776 ≤ c then (0, 16, c) else if l ≤ c then (0, 19, c) else ((c + 1) * 8 + nd, 0, c + 1)
/-- The counter behind a See. -/
def seev (c v : Int) : Int := if c < min (v / 8) 1099511627776 then min (v / 8) 1099511627776 else c
/-- What Renew answers, and the lease behind it. -/
def rnv (l t : Int) : Bool × Int := if l < t ∧ t ≤ 1099511627776 then (true, t) else (false, l)
/-- The block b holds a Clock. -/
def Ck (w : World) (b : Nat) (nd c l : Int) : Prop :=
  w.cell? ⟨b, 0, none⟩ = some (.int .i64 nd) ∧ w.cell? ⟨b, 1, none⟩ = some (.int .u64 c) ∧ w.cell? ⟨b, 2, none⟩ = some (.int .u64 l) ∧ w.frozen? ⟨b, 1, none⟩ = false ∧ w.frozen? ⟨b, 2, none⟩ = false

set_option maxRecDepth 100000 in
theorem isNode_any (nd : Int) (w : World) :
    Calls Try.prog 17 #[.int .i64 nd] w fun e w' => e = .returned (.bool (decide (0 ≤ nd ∧ nd < 7))) ∧ w' = w := by
  by_cases h0 : 0 ≤ nd
  · by_cases h1 : nd < 7
    · rw [show decide (0 ≤ nd ∧ nd < 7) = true from by simp; omega]
      go_enter Try.func17, Try.ntmps17
      go_wp2
      go_ret
      exact ⟨rfl, rfl⟩
    · rw [show decide (0 ≤ nd ∧ nd < 7) = false from by simp; omega]
      go_enter Try.func17, Try.ntmps17
      go_wp2
      go_ret
      exact ⟨rfl, rfl⟩
  · rw [show decide (0 ≤ nd ∧ nd < 7) = false from by simp; omega]
    go_enter Try.func17, Try.ntmps17
    go_wp2
    go_ret
    exact ⟨rfl, rfl⟩

set_option maxRecDepth 100000 in
theorem make_any (c nd : Int) (w : World) (hc : 0 ≤ c ∧ c ≤ 18446744073709551615) :
    Calls Try.prog 15 #[.int .u64 c, .int .i64 nd] w fun e w' => e = .returned (.tuple #[.int .u64 (mkv c nd).1, .int .i64 (mkv c nd).2]) ∧ w' = w := by
  have hI := hide (isNode_any nd)
  by_cases hn : 0 ≤ nd ∧ nd < 7
  · rw [show decide (0 ≤ nd ∧ nd < 7) = true from by simp; omega] at hI
    by_cases h1 : c < 1
    · rw [show mkv c nd = (0, 16) from by unfold mkv; rw [if_pos hn, if_neg (by omega)]]
      go_enter Try.func15, Try.ntmps15
      go_wp2_with fail
      refine (hI.out _).mono ?_
      rintro e w1 ⟨rfl, rfl⟩
      go_wp2
      go_ret2
      exact ⟨rfl, rfl⟩
    · by_cases h2 : 1099511627776 < c
      · rw [show mkv c nd = (0, 16) from by unfold mkv; rw [if_pos hn, if_neg (by omega)]]
        go_enter Try.func15, Try.ntmps15
        go_wp2_with fail
        refine (hI.out _).mono ?_
        rintro e w1 ⟨rfl, rfl⟩
        go_wp2
        go_ret2
        exact ⟨rfl, rfl⟩
      · rw [show mkv c nd = (c * 8 + nd, 0) from by unfold mkv; rw [if_pos hn, if_pos (by omega)]]
        obtain ⟨C, rfl⟩ := Int.eq_ofNat_of_zero_le hc.1
        obtain ⟨M, rfl⟩ := Int.eq_ofNat_of_zero_le hn.1
        go_enter Try.func15, Try.ntmps15
        go_wp2_with fail
        refine (hI.out _).mono ?_
        rintro e w1 ⟨rfl, rfl⟩
        go_wp2
        go_ret2
        exact ⟨by first | rfl | (congr 5 <;> omega), rfl⟩
  · rw [show decide (0 ≤ nd ∧ nd < 7) = false from by simp; omega] at hI
    rw [show mkv c nd = (0, 1) from by unfold mkv; rw [if_neg hn]]
    go_enter Try.func15, Try.ntmps15
    go_wp2_with fail
    refine (hI.out _).mono ?_
    rintro e w1 ⟨rfl, rfl⟩
    go_wp2
    go_ret2
    exact ⟨rfl, rfl⟩

set_option maxRecDepth 100000 in
theorem split_any (v : Nat) (w : World) (hv : v ≤ 18446744073709551615) :
    Calls Try.prog 16 #[.int .u64 v] w fun e w' => e = .returned (.tuple #[.int .u64 ((v / 8 : Nat) : Int), .int .i64 ((v % 8 : Nat) : Int)]) ∧ w' = w := by
  go_enter Try.func16, Try.ntmps16
  go_wp2
  go_ret2
  exact ⟨rfl, rfl⟩

theorem loadU (a : Addr) (x : Int) (w : World) (h0 : w.cell? a = some (.int .u64 x)) :
    Calls Try.prog 22 #[.pointer (some a)] w fun e w' => e = .returned (.int .u64 x) ∧ w' = w := by
  have hld := run_call_load (P := Try.prog) Try.func24 (by kernel_rfl) (by kernel_rfl) (by kernel_rfl) .u64 (by kernel_rfl) h0
  go_enter Try.func22, Try.ntmps22
  go_wp2
  go_ret
  exact ⟨rfl, rfl⟩
theorem casU (a : Addr) (x y : Int) (w : World) (h0 : w.cell? a = some (.int .u64 x)) (hf : w.frozen? a = false) :
    Calls Try.prog 21 #[.pointer (some a), .int .u64 x, .int .u64 y] w fun e w' => e = .returned (.bool true) ∧ w' = w.setCell a (.int .u64 y) := by
  have hld := run_call_cas_hit (P := Try.prog) Try.func23 (by kernel_rfl) (by kernel_rfl) (by kernel_rfl) .u64 (by kernel_rfl) (y := y) h0 hf
  go_enter Try.func21, Try.ntmps21
  go_wp2
  go_ret
  exact ⟨rfl, rfl⟩
theorem now_any (b i : Nat) (x : Int) (w : World) (h0 : w.cell? ⟨b, i, none⟩ = some (.int .u64 x)) :
    Calls Try.prog 20 #[.pointer (some ⟨b, i, none⟩)] w fun e w' => e = .returned (.int .u64 x) ∧ w' = w := by
  have hL := hide (loadU ⟨b, i, none⟩ x w h0)
  go_enter Try.func20, Try.ntmps20
  go_wp2_with fail
  refine hL.out.mono ?_
  rintro e w1 ⟨rfl, rfl⟩
  go_wp2
  go_ret
  exact ⟨rfl, rfl⟩
theorem step_any (b i : Nat) (x : Int) (w : World) (h0 : w.cell? ⟨b, i, none⟩ = some (.int .u64 x)) (hf : w.frozen? ⟨b, i, none⟩ = false) (hx : 0 ≤ x ∧ x ≤ 1099511627776) :
    Calls Try.prog 19 #[.pointer (some ⟨b, i, none⟩), .int .u64 x] w fun e w' => e = .returned (.bool true) ∧ w' = w.setCell ⟨b, i, none⟩ (.int .u64 (x + 1)) := by
  have hL := hide (casU ⟨b, i, none⟩ x (x + 1) w h0 hf)
  go_enter Try.func19, Try.ntmps19
  go_wp2_with fail
  refine hL.out.mono ?_
  rintro e w1 ⟨rfl, rfl⟩
  go_wp2
  go_ret
  exact ⟨rfl, rfl⟩
theorem raise_up (b i : Nat) (x t : Int) (w : World) (h0 : w.cell? ⟨b, i, none⟩ = some (.int .u64 x)) (hf : w.frozen? ⟨b, i, none⟩ = false) (hx : x < t) :
    Calls Try.prog 18 #[.pointer (some ⟨b, i, none⟩), .int .u64 t] w fun e w' => e = .returned (.bool true) ∧ w' = w.setCell ⟨b, i, none⟩ (.int .u64 t) := by
  have hN := hide (now_any b i x w h0)
  have hL := hide (casU ⟨b, i, none⟩ x t w h0 hf)
  go_enter Try.func18, Try.ntmps18
  go_wp2_with fail
  refine hN.out.mono ?_
  rintro e w1 ⟨rfl, rfl⟩
  go_wp2
  go_loopw [5] (fun u wr => u = .int .u64 x ∧ wr = w1) (fun _ _ => 0)
  case atStart => exact ⟨rfl, rfl⟩
  case round =>
    obtain ⟨rfl, rfl⟩ := hrel
    go_wp2_with fail
    refine hL.out.mono ?_
    rintro e w2 ⟨rfl, rfl⟩
    go_wp2
    go_ret
    exact ⟨rfl, rfl⟩
theorem raise_no (b i : Nat) (x t : Int) (w : World) (h0 : w.cell? ⟨b, i, none⟩ = some (.int .u64 x)) (hx : ¬ x < t) :
    Calls Try.prog 18 #[.pointer (some ⟨b, i, none⟩), .int .u64 t] w fun e w' => e = .returned (.bool false) ∧ w' = w := by
  have hN := hide (now_any b i x w h0)
  go_enter Try.func18, Try.ntmps18
  go_wp2_with fail
  refine hN.out.mono ?_
  rintro e w1 ⟨rfl, rfl⟩
  go_wp2
  go_loopw [5] (fun u wr => u = .int .u64 x ∧ wr = w1) (fun _ _ => 0)
  case atStart => exact ⟨rfl, rfl⟩
  case round =>
    obtain ⟨rfl, rfl⟩ := hrel
    go_wp2
    go_ret
    exact ⟨rfl, rfl⟩

end Go.Proofs.Ytchipmjceiamfaa.Clep
