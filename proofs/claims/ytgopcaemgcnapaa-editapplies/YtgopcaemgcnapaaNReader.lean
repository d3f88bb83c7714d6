/- What the reader of package num does when called: its place, and the number that it takes. Conditions: the reader's cells hold what is said, and are its own. -/
import Derived.Test.YtgopcaemgcnapaaNNum
import Derived.Test.YtgopcaemgcnapaaBase
import Derived.Test.YtgopcaemgcnapaaNUs
namespace Go.Proofs.Ytgopcaemgcnapaa.Clep
open Go.RowKit
set_option linter.unusedVariables false
set_option maxRecDepth 10000

def tup2 (r : Int × Int) : Value := .tuple #[.int .u64 r.1, .int .i64 r.2]
set_option maxHeartbeats 400000 in
theorem place_any (R : Nat) (p : Int) (w : World) (h0 : w.cell? ⟨R, 1, none⟩ = some (.int .i64 p)) (h1 : 0 ≤ p) (h2 : p ≤ 9223372036854775807) :
    Calls Try.prog 63 #[.pointer (some ⟨R, 0, none⟩)] w fun e w' => e = .returned (.int .i64 p) ∧ w' = w := by
  have hld := run_call_load (P := Try.prog) Try.func60 (by kernel_rfl) (by kernel_rfl) (by kernel_rfl) .i64 (by kernel_rfl) h0
  go_enter Try.func63, Try.ntmps63
  go_wp2
  go_ret
  exact ⟨rfl, rfl⟩

set_option maxHeartbeats 1000000 in
theorem rtake_in (R P len cap b off : Nat) (zs : List Int) (w : World) (x s e : Int) (hr : Hid (tk (zs.drop P) 0 0 = (x, s, e))) (hs : 0 ≤ s ∧ s ≤ 10) (h : Bs w (some ⟨b, off, none⟩) len cap zs) (hP : P < len) (hm : len ≤ 4611686018427387904) (hcap : len ≤ cap) (hcm : cap ≤ 9223372036854775807)
    (h0 : w.cell? ⟨R, 0, none⟩ = some (.slice (some ⟨b, off, none⟩) len cap)) (h1 : w.cell? ⟨R, 1, none⟩ = some (.int .i64 P)) (f1 : w.frozen? ⟨R, 1, none⟩ = false) :
    Calls Try.prog 62 #[.pointer (some ⟨R, 0, none⟩)] w fun en w' => en = .returned (tup2 (x, e)) ∧ ∃ w1, Below w.heap.size w w1 ∧ w' = w1.setCell ⟨R, 1, none⟩ (.int .i64 (P + s)) := by
  have hR : R < w.heap.size := World.block_lt_of_cell? w _ h0
  have c0 : ∀ p : Kp w, p.W.cell? ⟨R, 0, none⟩ = some (.slice (some ⟨b, off, none⟩) len cap) := fun p => by rw [p.h.cell (p := ⟨R, 0, none⟩) hR]; exact h0
  have c1 : Hid (∀ W, Below w.heap.size w W → W.cell? ⟨R, 1, none⟩ = some (.int .i64 P)) := hide fun W hW => by rw [hW.cell (p := ⟨R, 1, none⟩) hR]; exact h1
  have cf : Hid (∀ W, Below w.heap.size w W → W.frozen? ⟨R, 1, none⟩ = false) := hide fun W hW => by rw [hW.frozen (p := ⟨R, 1, none⟩) hR]; exact f1
  have cP : Hid (∀ p : Kp w, Calls Try.prog 63 #[.pointer (some ⟨R, 0, none⟩)] p.W fun e w'' => e = .returned (.int .i64 P) ∧ ∃ q : Kp w, w'' = q.W) := hide fun p => kp_same (place_any R P _ (c1.out _ p.h) (by omega) (by omega))
  have cT : Hid (∀ p : Kp w, Calls Try.prog 64 #[.slice (some ⟨b, off + P, none⟩) (len - P) (cap - P)] p.W fun en w'' => en = .returned (.tuple #[.int .u64 x, .int .i64 s, .int .i64 e]) ∧ ∃ q : Kp w, w'' = q.W) := hide fun p => kp_same (by
    have := take_any _ (len - P) (cap - P) (zs.drop P) p.W (by omega) ((h.below p.h (Nat.le_refl _)).dropAt P (by omega))
    rwa [hr.out] at this)
  have hne : Nonempty (Kp w) := ⟨⟨w, Below.refl _ _⟩⟩
  have hlt : P < cap := by omega
  clear h h0 h1 f1
  go_enter Try.func62, Try.ntmps62
  go_wp2_with fail
  refine wp_region_kept (by kernel_rfl) (by kernel_rfl) ?_
  repeat (first
    | go_big_quiet_step (first | (go_at_call 63; exact cP.out _) | (go_at_call 64; exact cT.out _))
    | fail)
  refine wpQuiet_nil ?_
  intro w1 hw'
  have HB : Hid (Below w.heap.size w w1) := by
    obtain ⟨⟨w3', hb3⟩, hw''⟩ := hw'
    rw [hw'']; exact hb3
  have k1 := c1.out _ HB.out
  have kf := cf.out _ HB.out
  have hadd := run_call_add (P := Try.prog) Try.func59 (by kernel_rfl) (by kernel_rfl) (by kernel_rfl) .i64 (by kernel_rfl) (y := s) (s := (P : Int) + s) k1 kf (by
    simp [go_sem, IntKind.wrap, IntKind.bits, IntKind.signed]
    omega)
  clear hw' c0 hne cP cT c1 cf
  go_wp2
  go_ret2
  exact ⟨rfl, w1, HB.out, rfl⟩

/-- At the end of the bytes nothing is taken. -/
theorem rtake_end (R P len cap : Nat) (ao : Option Addr) (w : World) (hP : P = len) (hm : len ≤ 4611686018427387904) (hcap : len ≤ cap) (hcm : cap ≤ 9223372036854775807)
    (h0 : w.cell? ⟨R, 0, none⟩ = some (.slice ao len cap)) (h1 : w.cell? ⟨R, 1, none⟩ = some (.int .i64 P)) (f1 : w.frozen? ⟨R, 1, none⟩ = false) :
    Calls Try.prog 62 #[.pointer (some ⟨R, 0, none⟩)] w fun en w' => en = .returned (tup2 (0, 4)) ∧ ∃ w1, Below w.heap.size w w1 ∧ w' = w1.setCell ⟨R, 1, none⟩ (.int .i64 P) := by
  subst hP
  have hR : R < w.heap.size := World.block_lt_of_cell? w _ h0
  have c0 : ∀ p : Kp w, p.W.cell? ⟨R, 0, none⟩ = some (.slice ao P cap) := fun p => by rw [p.h.cell (p := ⟨R, 0, none⟩) hR]; exact h0
  have c1 : Hid (∀ W, Below w.heap.size w W → W.cell? ⟨R, 1, none⟩ = some (.int .i64 P)) := hide fun W hW => by rw [hW.cell (p := ⟨R, 1, none⟩) hR]; exact h1
  have cf : Hid (∀ W, Below w.heap.size w W → W.frozen? ⟨R, 1, none⟩ = false) := hide fun W hW => by rw [hW.frozen (p := ⟨R, 1, none⟩) hR]; exact f1
  have cP : Hid (∀ p : Kp w, Calls Try.prog 63 #[.pointer (some ⟨R, 0, none⟩)] p.W fun e w'' => e = .returned (.int .i64 P) ∧ ∃ q : Kp w, w'' = q.W) := hide fun p => kp_same (place_any R P _ (c1.out _ p.h) (by omega) (by omega))
  have cT : Hid (∀ (p : Kp w) (ad : Option Addr) (c : Nat), Calls Try.prog 64 #[.slice ad 0 c] p.W fun en w'' => en = .returned (.tuple #[.int .u64 0, .int .i64 0, .int .i64 4]) ∧ ∃ q : Kp w, w'' = q.W) := hide fun p ad c => kp_same (take_none ad c p.W)
  have hne : Nonempty (Kp w) := ⟨⟨w, Below.refl _ _⟩⟩
  clear h0 h1 f1
  go_enter Try.func62, Try.ntmps62
  go_wp2_with fail
  refine wp_region_kept (by kernel_rfl) (by kernel_rfl) ?_
  repeat (first
    | go_big_quiet_step (first | (go_at_call 63; exact cP.out _) | (go_at_call 64; exact cT.out _ _ _))
    | fail)
  refine wpQuiet_nil ?_
  intro w1 hw'
  have HB : Hid (Below w.heap.size w w1) := by
    obtain ⟨⟨w3', hb3⟩, hw''⟩ := hw'
    rw [hw'']; exact hb3
  have k1 := c1.out _ HB.out
  have kf := cf.out _ HB.out
  have hadd := run_call_add (P := Try.prog) Try.func59 (by kernel_rfl) (by kernel_rfl) (by kernel_rfl) .i64 (by kernel_rfl) (y := 0) (s := (P : Int)) k1 kf (by
    simp [go_sem, IntKind.wrap, IntKind.bits, IntKind.signed]
    omega)
  clear hw' c0 hne cP cT c1 cf
  go_wp2
  all_goals
    go_ret2
    exact ⟨rfl, w1, HB.out, rfl⟩

end Go.Proofs.Ytgopcaemgcnapaa.Clep
