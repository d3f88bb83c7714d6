/- What the statements' own function awake answers when called: true, in new memory alone. No conditions. -/
import Derived.Test.YtchipmjceiamfaaKHeld
namespace Go.Proofs.Ytchipmjceiamfaa.Clep
open Go.RowKit
set_option linter.unusedVariables false

theorem Below.put {w w1 w2 : World} {B b : Nat} (h : Below B w w1) (hg : w1.grownBy w2 (some b)) (hb : B ≤ b) (hs : B ≤ w1.heap.size) : Below B w w2 :=
  h.grown hg hs (fun k hk => by cases hk; exact hb)

set_option maxRecDepth 100000 in
set_option maxHeartbeats 400000 in
theorem awake_any (w : World) : Calls Try.prog 9 #[] w fun e w' => e = .returned (.bool true) ∧ Below w.heap.size w w' := by
  go_enter Try.func9, Try.ntmps9
  go_wp2_with fail
  refine (New_ok 2 0 w (by omega) (by omega)).mono ?_
  rintro e w1 ⟨rfl, hk, hb⟩
  have K1 := hide hk
  have B1 := hide hb
  have L1 := hide hk.lt
  clear hk hb
  obtain ⟨b, hbb⟩ : ∃ b, w.heap.size = b := ⟨_, rfl⟩
  have HBB := hide hbb
  rw [hbb] at K1 B1 L1
  rw [hbb]
  clear hbb
  go_wp2_with fail
  refine (Next_any b 2 0 0 w1 K1.out (by omega) (by omega)).mono ?_
  rw [show nxv 2 0 0 = (0, 19, 0) from by decide]
  rintro e w2 ⟨rfl, hk, hg⟩
  have K2 := hide hk
  have B2 := hide (Below.put B1.out hg (Nat.le_refl _) (Nat.le_of_lt L1.out))
  have L2 := hide hk.lt
  clear hk hg
  go_wp2_with fail
  refine (Renew_any b 2 0 0 10 w2 K2.out).mono ?_
  rw [show rnv 0 10 = (true, 10) from by decide]
  rintro e w3 ⟨rfl, hk, hg⟩
  have K3 := hide hk
  have B3 := hide (Below.put B2.out hg (Nat.le_refl _) (Nat.le_of_lt L2.out))
  have L3 := hide hk.lt
  clear hk hg
  go_wp2_with fail
  refine (Next_any b 2 0 10 w3 K3.out (by omega) (by omega)).mono ?_
  rw [show nxv 2 0 10 = (10, 0, 1) from by decide]
  rintro e w4 ⟨rfl, hk, hg⟩
  have K4 := hide hk
  have B4 := hide (Below.put B3.out hg (Nat.le_refl _) (Nat.le_of_lt L3.out))
  clear hk hg
  go_wp2_with fail
  refine (Now_any b 2 1 10 w4 K4.out).mono ?_
  rintro e w5 ⟨rfl, rfl⟩
  go_wp2_with fail
  refine (Lease_any b 2 1 10 _ K4.out).mono ?_
  rintro e w5 ⟨rfl, rfl⟩
  go_wp2
  go_ret
  exact ⟨rfl, HBB.out ▸ B4.out⟩

end Go.Proofs.Ytchipmjceiamfaa.Clep
