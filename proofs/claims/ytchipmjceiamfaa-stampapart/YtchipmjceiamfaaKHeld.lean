/- What New, Next, See, Now, Lease and Renew of a Clock do when called: each writes at most the Clock's own block. Conditions: numbers within their kinds. -/
import Derived.Test.YtchipmjceiamfaaKClock
import Derived.Maps.AppendAt
import Derived.Maps.Range
import Derived.Deep.AppendLies
import Derived.OwnWalk
namespace Go.Proofs.Ytchipmjceiamfaa.Clep
open Go.RowKit
set_option linter.unusedVariables false

theorem grown_set (w : World) (b i : Nat) (v : Value) : w.grownBy (w.setCell ⟨b, i, none⟩ v) (some b) :=
  ⟨rfl, rfl, rfl, by simp [World.setCell], fun k _ hk => Below.heap_setCell _ _ _ _ (fun e => hk (by simp [e]))⟩
theorem Ck.lt {w : World} {b : Nat} {nd c l : Int} (h : Ck w b nd c l) : b < w.heap.size := World.block_lt_of_cell? w _ h.1
theorem Ck.grown {w w' : World} {row : Option Nat} {b : Nat} {nd c l : Int} (h : Ck w b nd c l) (hg : w.grownBy w' row) (hne : some b ≠ row) : Ck w' b nd c l :=
  ⟨hg.cell h.1 hne, hg.cell h.2.1 hne, hg.cell h.2.2.1 hne, (World.grownBy.frozen_far hg _ h.lt hne).trans h.2.2.2.1, (World.grownBy.frozen_far hg _ h.lt hne).trans h.2.2.2.2⟩
theorem Ck.below {w w' : World} {B b : Nat} {nd c l : Int} (h : Ck w b nd c l) (hb : Below B w w') (hB : b < B) : Ck w' b nd c l := by
  refine ⟨?_, ?_, ?_, ?_, ?_⟩
  · rw [hb.cell (p := ⟨b, 0, none⟩) hB]; exact h.1
  · rw [hb.cell (p := ⟨b, 1, none⟩) hB]; exact h.2.1
  · rw [hb.cell (p := ⟨b, 2, none⟩) hB]; exact h.2.2.1
  · rw [hb.frozen (p := ⟨b, 1, none⟩) hB]; exact h.2.2.2.1
  · rw [hb.frozen (p := ⟨b, 2, none⟩) hB]; exact h.2.2.2.2
theorem Ck.set1 {w : World} {b : Nat} {nd c l : Int} (h : Ck w b nd c l) (x : Int) : Ck (w.setCell ⟨b, 1, none⟩ (.int .u64 x)) b nd x l := by
  refine ⟨?_, World.cell?_setCell_same _ _ _ h.2.1, ?_, ?_, ?_⟩
  · rw [World.cell?_setCell_other (h := by simp)]; exact h.1
  · rw [World.cell?_setCell_other (h := by simp)]; exact h.2.2.1
  · rw [World.frozen?_setCell]; exact h.2.2.2.1
  · rw [World.frozen?_setCell]; exact h.2.2.2.2
theorem Ck.set2 {w : World} {b : Nat} {nd c l : Int} (h : Ck w b nd c l) (x : Int) : Ck (w.setCell ⟨b, 2, none⟩ (.int .u64 x)) b nd c x := by
  refine ⟨?_, ?_, World.cell?_setCell_same _ _ _ h.2.2.1, ?_, ?_⟩
  · rw [World.cell?_setCell_other (h := by simp)]; exact h.1
  · rw [World.cell?_setCell_other (h := by simp)]; exact h.2.1
  · rw [World.frozen?_setCell]; exact h.2.2.2.1
  · rw [World.frozen?_setCell]; exact h.2.2.2.2

theorem Now_any (b : Nat) (nd c l : Int) (w : World) (h : Ck w b nd c l) :
    Calls Try.prog 13 #[.pointer (some ⟨b, 0, none⟩)] w fun e w' => e = .returned (.int .u64 c) ∧ w' = w := by
  have hN := hide (now_any b 1 c w h.2.1)
  have h0 := h.1
  have H := hide h
  clear h
  go_enter Try.func13, Try.ntmps13
  go_wp2_with fail
  refine hN.out.mono ?_
  rintro e w1 ⟨rfl, rfl⟩
  go_wp2
  go_ret
  exact ⟨rfl, rfl⟩
theorem Lease_any (b : Nat) (nd c l : Int) (w : World) (h : Ck w b nd c l) :
    Calls Try.prog 14 #[.pointer (some ⟨b, 0, none⟩)] w fun e w' => e = .returned (.int .u64 l) ∧ w' = w := by
  have hN := hide (now_any b 2 l w h.2.2.1)
  have h0 := h.1
  have H := hide h
  clear h
  go_enter Try.func14, Try.ntmps14
  go_wp2_with fail
  refine hN.out.mono ?_
  rintro e w1 ⟨rfl, rfl⟩
  go_wp2
  go_ret
  exact ⟨rfl, rfl⟩

set_option maxRecDepth 100000 in
set_option maxHeartbeats 400000 in
theorem Next_any (b : Nat) (nd c l : Int) (w : World) (h : Ck w b nd c l) (hc : 0 ≤ c ∧ c ≤ 18446744073709551615) (hn : 0 ≤ nd ∧ nd < 7) :
    Calls Try.prog 10 #[.pointer (some ⟨b, 0, none⟩)] w fun e w' => e = .returned (.tuple #[.int .u64 (nxv nd c l).1, .int .i64 (nxv nd c l).2.1]) ∧ Ck w' b nd (nxv nd c l).2.2 l ∧ w.grownBy w' (some b) := by
  have hN := hide (Now_any b nd c l w h)
  have hL := hide (Lease_any b nd c l w h)
  have h0 := h.1
  have H := hide h
  clear h
  by_cases h1 : 1099511627776 ≤ c
  · rw [show nxv nd c l = (0, 16, c) from by unfold nxv; rw [if_pos h1]]
    go_enter Try.func10, Try.ntmps10
    go_wp2
    go_loopw [4] (fun _ wr => wr = w) (fun _ _ => 0)
    case atStart => rfl
    case round =>
      obtain rfl := hrel
      go_wp2_with fail
      refine hN.out.mono ?_
      rintro e w1 ⟨rfl, rfl⟩
      go_wp2
      go_ret2
      exact ⟨rfl, H.out, World.grownBy.refl _ _⟩
  · by_cases h2 : l ≤ c
    · rw [show nxv nd c l = (0, 19, c) from by unfold nxv; rw [if_neg h1, if_pos h2]]
      go_enter Try.func10, Try.ntmps10
      go_wp2
      go_loopw [4] (fun _ wr => wr = w) (fun _ _ => 0)
      case atStart => rfl
      case round =>
        obtain rfl := hrel
        go_wp2_with fail
        refine hN.out.mono ?_
        rintro e w1 ⟨rfl, rfl⟩
        go_wp2_with fail
        refine hL.out.mono ?_
        rintro e w1 ⟨rfl, rfl⟩
        go_wp2
        go_ret2
        exact ⟨rfl, H.out, World.grownBy.refl _ _⟩
    · rw [show nxv nd c l = ((c + 1) * 8 + nd, 0, c + 1) from by unfold nxv; rw [if_neg h1, if_neg h2]]
      have hS := hide (step_any b 1 c w H.out.2.1 H.out.2.2.2.1 ⟨hc.1, by omega⟩)
      have hM := hide (make_any (c + 1) nd (w.setCell ⟨b, 1, none⟩ (.int .u64 (c + 1))) ⟨by omega, by omega⟩)
      rw [show mkv (c + 1) nd = ((c + 1) * 8 + nd, 0) from by unfold mkv; rw [if_pos hn, if_pos (by omega)]] at hM
      have h0' := (H.out.set1 (c + 1)).1
      go_enter Try.func10, Try.ntmps10
      go_wp2
      go_loopw [4] (fun _ wr => wr = w) (fun _ _ => 0)
      case atStart => rfl
      case round =>
        obtain rfl := hrel
        go_wp2_with fail
        refine hN.out.mono ?_
        rintro e w1 ⟨rfl, rfl⟩
        go_wp2_with fail
        refine hL.out.mono ?_
        rintro e w1 ⟨rfl, rfl⟩
        go_wp2_with fail
        refine hS.out.mono ?_
        rintro e w1 ⟨rfl, rfl⟩
        go_wp2_with fail
        refine hM.out.mono ?_
        rintro e w1 ⟨rfl, rfl⟩
        go_wp2
        go_ret2
        exact ⟨rfl, H.out.set1 _, grown_set _ _ _ _⟩

set_option maxRecDepth 100000 in
theorem See_any (b : Nat) (nd c l : Int) (v : Nat) (w : World) (h : Ck w b nd c l) (hv : v ≤ 18446744073709551615) :
    Calls Try.prog 11 #[.pointer (some ⟨b, 0, none⟩), .int .u64 v] w fun e w' => e = .returned (.tuple #[]) ∧ Ck w' b nd (seev c v) l ∧ w.grownBy w' (some b) := by
  have hS := hide (split_any v w hv)
  have h0 := h.1
  have H := hide h
  clear h
  obtain ⟨m, hm⟩ : ∃ m : Int, m = min ((v / 8 : Nat) : Int) 1099511627776 := ⟨_, rfl⟩
  have hmm : ((v : Int) / 8) = ((v / 8 : Nat) : Int) := by omega
  unfold seev
  rw [hmm, ← hm]
  have hR : Hid (Calls Try.prog 18 #[.pointer (some ⟨b, 1, none⟩), .int .u64 m] w fun e w' => (∃ z, e = .returned (.bool z)) ∧ Ck w' b nd (if c < m then m else c) l ∧ w.grownBy w' (some b)) := by
    by_cases hx : c < m
    · rw [if_pos hx]
      refine (raise_up b 1 c m w H.out.2.1 H.out.2.2.2.1 hx).mono ?_
      rintro e w' ⟨rfl, rfl⟩
      exact ⟨⟨_, rfl⟩, H.out.set1 _, grown_set _ _ _ _⟩
    · rw [if_neg hx]
      refine (raise_no b 1 c m w H.out.2.1 hx).mono ?_
      rintro e w' ⟨rfl, rfl⟩
      exact ⟨⟨_, rfl⟩, H.out, World.grownBy.refl _ _⟩
  generalize (if c < m then m else c) = C at *
  clear hmm
  generalize v / 8 = q at *
  generalize v % 8 = r at *
  rcases Nat.lt_or_ge 1099511627776 q with hq | hq
  rotate_left
  · obtain rfl : m = q := by omega
    clear hm
    have hq' : (q : Int) ≤ 1099511627776 := by omega
    go_enter Try.func11, Try.ntmps11
    go_wp2_with fail
    refine hS.out.mono ?_
    rintro e w1 ⟨rfl, rfl⟩
    go_wp2_with fail
    refine hR.out.mono ?_
    rintro e w2 ⟨⟨z, rfl⟩, hk, hg⟩
    go_wp2
    go_end0
    exact ⟨rfl, hk, hg⟩
  · obtain rfl : m = 1099511627776 := by omega
    clear hm
    have hq' : (1099511627776 : Int) < (q : Int) := by omega
    go_enter Try.func11, Try.ntmps11
    go_wp2_with fail
    refine hS.out.mono ?_
    rintro e w1 ⟨rfl, rfl⟩
    go_wp2_with fail
    refine hR.out.mono ?_
    rintro e w2 ⟨⟨z, rfl⟩, hk, hg⟩
    go_wp2
    go_end0
    exact ⟨rfl, hk, hg⟩

set_option maxRecDepth 100000 in
theorem Renew_any (b : Nat) (nd c l t : Int) (w : World) (h : Ck w b nd c l) :
    Calls Try.prog 12 #[.pointer (some ⟨b, 0, none⟩), .int .u64 t] w fun e w' => e = .returned (.bool (rnv l t).1) ∧ Ck w' b nd c (rnv l t).2 ∧ w.grownBy w' (some b) := by
  have h0 := h.1
  have H := hide h
  clear h
  by_cases h1 : t ≤ 1099511627776
  · by_cases h2 : l < t
    · rw [show rnv l t = (true, t) from by unfold rnv; rw [if_pos ⟨h2, h1⟩]]
      have hR := hide (raise_up b 2 l t w H.out.2.2.1 H.out.2.2.2.2 h2)
      go_enter Try.func12, Try.ntmps12
      go_wp2_with fail
      refine hR.out.mono ?_
      rintro e w1 ⟨rfl, rfl⟩
      go_wp2
      go_ret
      exact ⟨rfl, H.out.set2 _, grown_set _ _ _ _⟩
    · rw [show rnv l t = (false, l) from by unfold rnv; rw [if_neg (fun k => h2 k.1)]]
      have hR := hide (raise_no b 2 l t w H.out.2.2.1 h2)
      go_enter Try.func12, Try.ntmps12
      go_wp2_with fail
      refine hR.out.mono ?_
      rintro e w1 ⟨rfl, rfl⟩
      go_wp2
      go_ret
      exact ⟨rfl, H.out, World.grownBy.refl _ _⟩
  · rw [show rnv l t = (false, l) from by unfold rnv; rw [if_neg (fun k => h1 k.2)]]
    go_enter Try.func12, Try.ntmps12
    go_wp2
    go_ret
    exact ⟨rfl, H.out, World.grownBy.refl _ _⟩

theorem ck_new (w : World) (nd : Int) : Ck (w.alloc (Obj.cells #[.int .i64 nd, .int .u64 0, .int .u64 0] 57)) w.heap.size nd 0 0 := by
  refine ⟨by simp, by simp, by simp, by simp, by simp⟩

set_option maxRecDepth 100000 in
theorem New_ok (nd fr : Int) (w : World) (hn : 0 ≤ nd ∧ nd < 7) (hf : 0 ≤ fr ∧ fr ≤ 1099511627776) :
    Calls Try.prog 8 #[.int .i64 nd, .int .u64 fr] w fun e w' => e = .returned (.tuple #[.pointer (some ⟨w.heap.size, 0, none⟩), .int .i64 0]) ∧ Ck w' w.heap.size nd fr fr ∧ Below w.heap.size w w' := by
  have hI := hide (isNode_any nd)
  rw [show decide (0 ≤ nd ∧ nd < 7) = true from by simp; omega] at hI
  have hg : ¬ (1099511627776 < fr) := by omega
  go_enter Try.func8, Try.ntmps8
  go_wp2_with fail
  refine (hI.out _).mono ?_
  rintro e w1 ⟨rfl, rfl⟩
  have K0 := hide (ck_new w1 nd)
  have B0 := hide ((Below.refl w1.heap.size w1).alloc (Nat.le_refl _) (Obj.cells #[.int .i64 nd, .int .u64 0, .int .u64 0] 57))
  have R1 : Hid (Calls Try.prog 18 #[.pointer (some ⟨w1.heap.size, 1, none⟩), .int .u64 fr] (w1.alloc (Obj.cells #[.int .i64 nd, .int .u64 0, .int .u64 0] 57)) fun e w' => (∃ z, e = .returned (.bool z)) ∧ Ck w' w1.heap.size nd fr 0 ∧ Below w1.heap.size w1 w') := by
    by_cases hx : 0 < fr
    · refine (raise_up w1.heap.size 1 0 fr _ K0.out.2.1 K0.out.2.2.2.1 hx).mono ?_
      rintro e w' ⟨rfl, rfl⟩
      exact ⟨⟨_, rfl⟩, K0.out.set1 _, B0.out.setCell (Nat.le_refl _) _⟩
    · refine (raise_no w1.heap.size 1 0 fr _ K0.out.2.1 hx).mono ?_
      rintro e w' ⟨rfl, rfl⟩
      obtain rfl : fr = 0 := by omega
      exact ⟨⟨_, rfl⟩, K0.out, B0.out⟩
  go_wp2_with fail
  refine R1.out.mono ?_
  rintro e w2 ⟨⟨z, rfl⟩, hk, hb⟩
  have K2 := hide hk
  have B2 := hide hb
  have R2 : Hid (Calls Try.prog 18 #[.pointer (some ⟨w1.heap.size, 2, none⟩), .int .u64 fr] w2 fun e w' => (∃ z, e = .returned (.bool z)) ∧ Ck w' w1.heap.size nd fr fr ∧ Below w1.heap.size w1 w') := by
    by_cases hx : 0 < fr
    · refine (raise_up w1.heap.size 2 0 fr _ K2.out.2.2.1 K2.out.2.2.2.2 hx).mono ?_
      rintro e w' ⟨rfl, rfl⟩
      exact ⟨⟨_, rfl⟩, K2.out.set2 _, B2.out.setCell (Nat.le_refl _) _⟩
    · refine (raise_no w1.heap.size 2 0 fr _ K2.out.2.2.1 hx).mono ?_
      rintro e w' ⟨rfl, rfl⟩
      obtain rfl : fr = 0 := by omega
      exact ⟨⟨_, rfl⟩, K2.out, B2.out⟩
  have c0 := hk.1
  clear hk hb K0 B0 R1
  go_wp2_with fail
  refine R2.out.mono ?_
  rintro e w3 ⟨⟨z, rfl⟩, hk, hb⟩
  have K3 := hide hk
  have B3 := hide hb
  clear hk hb
  go_wp2
  go_ret2
  exact ⟨rfl, K3.out, B3.out⟩

theorem New_bad (nd fr : Int) (w : World) (E : Int) (hE : (¬ (0 ≤ nd ∧ nd < 7) ∧ E = 1) ∨ ((0 ≤ nd ∧ nd < 7) ∧ 1099511627776 < fr ∧ E = 16)) :
    Calls Try.prog 8 #[.int .i64 nd, .int .u64 fr] w fun e w' => e = .returned (.tuple #[.pointer none, .int .i64 E]) ∧ w' = w := by
  have hI := hide (isNode_any nd)
  rcases hE with ⟨hn, rfl⟩ | ⟨hn, hg, rfl⟩
  · rw [show decide (0 ≤ nd ∧ nd < 7) = false from by simp; omega] at hI
    go_enter Try.func8, Try.ntmps8
    go_wp2_with fail
    refine (hI.out _).mono ?_
    rintro e w1 ⟨rfl, rfl⟩
    go_wp2
    go_ret2
    exact ⟨rfl, rfl⟩
  · rw [show decide (0 ≤ nd ∧ nd < 7) = true from by simp; omega] at hI
    go_enter Try.func8, Try.ntmps8
    go_wp2_with fail
    refine (hI.out _).mono ?_
    rintro e w1 ⟨rfl, rfl⟩
    go_wp2
    go_ret2
    exact ⟨rfl, rfl⟩

end Go.Proofs.Ytchipmjceiamfaa.Clep
