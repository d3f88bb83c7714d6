/- What the statements' Few and same do when called (walks over the translated program). No conditions. -/
import Derived.Test.YtcbphalhjajapaaHAwake
import Derived.BigRegion
namespace Go.Proofs.Ytcbphalhjajapaa.Clep
open Go.RowKit
set_option linter.unusedVariables false
set_option linter.unusedSimpArgs false

/-- What Few answers. -/
def FewR (n : Nat) (w : World) (e : Ending) (w' : World) : Prop := ∃ b : Bool, e = .returned (.bool b) ∧ (b = true → n ≤ 50) ∧ Below w.heap.size w w'
set_option maxRecDepth 100000 in
set_option maxHeartbeats 2000000 in
theorem few_any (a : Option Addr) (n c : Nat) (l : List He) (w : World) (h : Hs w a n c l) (hn : n ≤ 9223372036854775807) :
    Calls Try.prog 9 #[.slice a n c] w (FewR n w) := by
  have HR := hide (show ∀ (b : Bool) W, (b = true → n ≤ 50) → Below w.heap.size w W → FewR n w (.returned (.bool b)) W from fun b W h1 h2 => ⟨b, rfl, h1, h2⟩)
  generalize FewR n w = Q at *
  have HS := hide (fun W (hW : Below w.heap.size w W) => h.below hW (Nat.le_refl _))
  clear h
  go_enter Try.func9, Try.ntmps9
  go_wp2_with fail
  go_loopw [3, 4] (fun s t wr => ∃ (k : Nat) (z : Int), k ≤ n ∧ k ≤ 51 ∧ t = .int .i64 k ∧ s = .int .i64 z ∧ Hid (0 ≤ z ∧ z ≤ 10000 * k) ∧ Hid (Below w.heap.size w wr)) (fun _ t _ => 51 - (intOf t).toNat)
  case atStart => exact ⟨0, 0, by omega, by omega, rfl, rfl, hide ⟨by omega, by omega⟩, hide (Below.refl _ _)⟩
  case round =>
    obtain ⟨k, z, hk, hk2, rfl, rfl, hz, hb⟩ := hrel
    by_cases hlt : k < n
    · by_cases h50 : k ≤ 50
      · obtain ⟨x, ab, off, hx, rfl, hok, x0, x1, x2, x3, x4⟩ := hs_at (HS.out _ hb.out) k hlt
        have h1 := hok.1.2
        have h2 := hok.2.1.2
        generalize x.fz.length = F at *
        generalize x.gz.length = G at *
        have q1 : (k : Int) < (n : Int) := by omega
        have q2 : (k : Int) ≤ 50 := by omega
        obtain ⟨z1, z2⟩ := hz.out
        obtain ⟨F2, hF2⟩ : ∃ F2 : Int, min (F : Int) 5000 = F2 := ⟨_, rfl⟩
        obtain ⟨G2, hG2⟩ : ∃ G2 : Int, min (G : Int) 5000 = G2 := ⟨_, rfl⟩
        have hFr : 0 ≤ F2 ∧ F2 ≤ 5000 := by omega
        have hGr : 0 ≤ G2 ∧ G2 ≤ 5000 := by omega
        clear hx hok
        go_wp2_with fail
        go_region
        go_wp2
        go_roundw
        case rel => exact ⟨k + 1, z + F2 + G2, by omega, by omega, by go_num, rfl, hide ⟨by omega, by omega⟩, hide hb.out.drew⟩
        case measure => simp [intOf]; omega
      · have q1 : (k : Int) < (n : Int) := by omega
        have q2 : ¬ ((k : Int) ≤ 50) := by omega
        have q3 : ¬ ((n : Int) ≤ 50) := by omega
        have HB := hide hb.out
        clear hz hb
        go_wp2
        exact HR.out false _ (fun e => (by cases e)) HB.out
    · have q1 : ¬ ((k : Int) < (n : Int)) := by omega
      have HB := hide hb.out
      clear hz hb
      by_cases h50 : n ≤ 50
      · have q3 : ((n : Int) ≤ 50) := by omega
        go_wp2
        exact HR.out _ _ (fun _ => h50) HB.out
      · have q3 : ¬ ((n : Int) ≤ 50) := by omega
        go_wp2
        exact HR.out false _ (fun e => (by cases e)) HB.out
theorem take_same (xs ys : List Int) (h : ∀ i, i < xs.length → xs[i]? = ys[i]?) (hl : xs.length = ys.length) : xs = ys := by
  apply List.ext_getElem?
  intro i
  by_cases hi : i < xs.length
  · exact h i hi
  · rw [List.getElem?_eq_none (by omega), List.getElem?_eq_none (by omega)]
set_option maxRecDepth 100000 in
set_option maxHeartbeats 2000000 in
theorem same_any (a b : Option Addr) (n c m d : Nat) (xs ys : List Int) (w : World) (h : Zs w a n c xs) (k : Zs w b m d ys) (hn : n ≤ 1000000) (hm : m ≤ 1000000) :
    Calls Try.prog 14 #[.slice a n c, .slice b m d] w fun e w' => e = .returned (.bool (decide (xs = ys))) ∧ Below w.heap.size w w' := by
  have HX := hide (fun W (hW : Below w.heap.size w W) => h.below hW (Nat.le_refl _))
  have HY := hide (fun W (hW : Below w.heap.size w W) => k.below hW (Nat.le_refl _))
  have HLX := hide h.1
  have HLY := hide k.1
  clear h k
  obtain ⟨R, hR⟩ : ∃ R, decide (xs = ys) = R := ⟨_, rfl⟩
  rw [hR]
  have HRR := hide hR
  clear hR
  by_cases hnm : n = m
  · subst hnm
    have q0 : ((n : Int) != (n : Int)) = false := by simp
    go_enter Try.func14, Try.ntmps14
    go_wp2_with fail
    go_loopw [5] (fun t wr => ∃ i : Nat, i ≤ n ∧ t = .int .i64 i ∧ Hid (xs.take i = ys.take i) ∧ Hid (Below w.heap.size w wr)) (fun t _ => n - (intOf t).toNat)
    case atStart => exact ⟨0, by omega, rfl, hide (by simp), hide (Below.refl _ _)⟩
    case round =>
      obtain ⟨i, hi, rfl, hs, hb⟩ := hrel
      by_cases hlt : i < n
      · obtain ⟨z, zb, zo, hz, rfl, hzc, _, _⟩ := zs_at (HX.out _ hb.out) i hlt
        obtain ⟨y, yb, yo, hy, rfl, hyc, _, _⟩ := zs_at (HY.out _ hb.out) i hlt
        have q1 : (i : Int) < (n : Int) := by omega
        have HZ := hide (And.intro hz hy)
        clear hz hy
        by_cases e : z = y
        · subst e
          have q2 : (z != z) = false := by simp
          have HE := hide (show xs.take (i + 1) = ys.take (i + 1) from by rw [List.take_add_one, List.take_add_one, HZ.out.1, HZ.out.2, hs.out])
          clear hs
          go_wp2_with fail
          go_region
          go_wp2
          go_roundw
          case rel => exact ⟨i + 1, by omega, by go_num, HE, hide hb.out.drew⟩
          case measure => simp [intOf]; omega
        · have q2 : (z != y) = true := by simpa using e
          have HN := hide (show R = false from HRR.out.symm.trans (decide_eq_false (fun e2 => by
            subst e2
            have h1 := HZ.out.1
            rw [HZ.out.2] at h1
            exact e (Option.some.inj h1).symm)))
          clear e hs
          go_wp2_with fail
          go_region
          go_wp2
          go_ret
          exact ⟨by rw [HN.out]; rfl, hb.out.drew⟩
      · obtain rfl : i = n := by omega
        have q1 : ¬ ((i : Int) < (i : Int)) := by omega
        have HN := hide (show R = true from HRR.out.symm.trans (decide_eq_true (by
          have := hs.out
          rwa [List.take_of_length_le (by rw [HLX.out]; exact Nat.le_refl _), List.take_of_length_le (by rw [HLY.out]; exact Nat.le_refl _)] at this)))
        have HB := hide hb.out
        clear hs hb
        go_wp2
        go_ret
        exact ⟨by rw [HN.out]; rfl, HB.out⟩
  · have HN := hide (show R = false from HRR.out.symm.trans (decide_eq_false (fun e2 => by
      have h1 := HLX.out
      rw [e2, HLY.out] at h1
      exact hnm h1.symm)))
    have q0 : ((n : Int) != (m : Int)) = true := by simpa using fun e => hnm (by omega)
    clear hnm
    go_enter Try.func14, Try.ntmps14
    go_wp2
    go_ret
    exact ⟨by rw [HN.out]; rfl, Below.refl _ _⟩

end Go.Proofs.Ytcbphalhjajapaa.Clep
