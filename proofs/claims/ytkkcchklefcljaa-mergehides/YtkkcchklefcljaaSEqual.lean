/- What slices.Equal and the document's own Equal do when called: for any two rows of items. No conditions. -/
import Derived.Test.YtkkcchklefcljaaSRow
import Derived.Laws.StructEq
import Derived.BigRegion
namespace Go.Proofs.Ytkkcchklefcljaa.Clep
open Go.RowKit
set_option linter.unusedVariables false
set_option maxRecDepth 10000

set_option maxHeartbeats 2000000 in
theorem refequal_any (a b : Option Addr) (n c n' c' : Nat) (l m : List It) (w : World) (h0 : Is w a n c l) (h1 : Is w b n' c' m) (hn : n ≤ 9223372036854775807) (hn' : n' ≤ 9223372036854775807) :
    Calls Try.prog 14 #[.slice a n c, .slice b n' c'] w fun e w' => ∃ o, e = .returned (.bool o) ∧ (o = true ↔ l = m) ∧ Below w.heap.size w w' := by
  have hl := h0.1
  have hl' := h1.1
  by_cases hlen : n = n'
  · subst hlen
    have H0 := hide (fun W (hW : Below w.heap.size w W) => h0.below hW (Nat.le_refl _))
    have H1 := hide (fun W (hW : Below w.heap.size w W) => h1.below hW (Nat.le_refl _))
    have HL := hide hl
    have HL' := hide hl'
    have hnn : ((n : Int) != (n : Int)) = false := by simp
    clear h0 h1
    go_enter Try.func14, Try.ntmps14
    go_wp2_with fail
    go_loopw [5] (fun i wr => ∃ k : Nat, k ≤ n ∧ i = .int .i64 k ∧ Hid (l.take k = m.take k) ∧ Hid (Below w.heap.size w wr)) (fun i _ => n - (intOf i).toNat)
    case atStart => exact ⟨0, by omega, rfl, hide (by simp), hide (Below.refl _ _)⟩
    case round =>
      obtain ⟨k, hk, rfl, heq, hbel⟩ := hrel
      by_cases hlt : k < n
      · have hI0 := H0.out _ hbel.out
        have hI1 := H1.out _ hbel.out
        obtain ⟨b0, off, ea, hc⟩ := hI0.2.2.2 (by omega)
        obtain ⟨b1, off', eb, hc'⟩ := hI1.2.2.2 (by omega)
        subst ea eb
        obtain ⟨x, hx⟩ : ∃ x, l[k]? = some x := ⟨_, List.getElem?_eq_getElem (by rw [hl]; exact hlt)⟩
        obtain ⟨y, hy⟩ : ∃ y, m[k]? = some y := ⟨_, List.getElem?_eq_getElem (by rw [hl']; exact hlt)⟩
        have hv := hc k x hx
        have hu := hc' k y hy
        have HX := hide hx
        have HY := hide hy
        obtain ⟨S, K, T, V, X⟩ := x
        obtain ⟨S', K', T', V', X'⟩ := y
        unfold Vt Vi at hv hu
        simp only at hv hu
        obtain ⟨v0, v1, v2, v3, v4⟩ := hv
        obtain ⟨u0, u1, u2, u3, u4⟩ := hu
        have hno : Hid (¬ (S = S' ∧ K = K' ∧ T = T' ∧ V = V' ∧ X = X') → ¬ l = m) := hide (fun h e => by
          subst e
          rw [hx] at hy
          simp at hy
          exact h hy)
        clear hI0 hI1 hc hc' hx hy
        by_cases e0 : S = S'
        · subst e0
          by_cases e1 : K = K'
          · subst e1
            by_cases e2 : T = T'
            · subst e2
              by_cases e3 : V = V'
              · subst e3
                by_cases e4 : X = X'
                · subst e4
                  go_wp2_with fail
                  go_region
                  go_wp2
                  go_roundw
                  case rel => exact ⟨k + 1, by omega, by go_num, hide (by rw [List.take_add_one, List.take_add_one, HX.out, HY.out, heq.out]), hide hbel.out.drew⟩
                  case measure => simp [intOf]; omega
                · have hno2 := hide (hno.out (by simp [e4]))
                  have q : (X == X') = false := by simpa using e4
                  clear e4 hno
                  go_wp2_with fail
                  go_region
                  go_wp2
                  go_ret
                  exact ⟨false, rfl, by simp [hno2.out], hbel.out.drew⟩
              · have hno2 := hide (hno.out (by simp [e3]))
                have q : (V == V') = false := by simpa using e3
                clear e3 hno
                go_wp2_with fail
                go_region
                go_wp2
                go_ret
                exact ⟨false, rfl, by simp [hno2.out], hbel.out.drew⟩
            · have hno2 := hide (hno.out (by simp [e2]))
              have q : (T == T') = false := by simpa using e2
              clear e2 hno
              go_wp2_with fail
              go_region
              go_wp2
              go_ret
              exact ⟨false, rfl, by simp [hno2.out], hbel.out.drew⟩
          · have hno2 := hide (hno.out (by simp [e1]))
            have q : (K == K') = false := by simpa using e1
            clear e1 hno
            go_wp2_with fail
            go_region
            go_wp2
            go_ret
            exact ⟨false, rfl, by simp [hno2.out], hbel.out.drew⟩
        · have hno2 := hide (hno.out (by simp [e0]))
          have q : (S == S') = false := by simpa using e0
          clear e0 hno
          go_wp2_with fail
          go_region
          go_wp2
          go_ret
          exact ⟨false, rfl, by simp [hno2.out], hbel.out.drew⟩
      · obtain rfl : k = n := by omega
        have HE := hide (show l = m by
          have := heq.out
          rwa [show l.take k = l from by rw [← HL.out]; exact List.take_length, show m.take k = m from by rw [← HL'.out]; exact List.take_length] at this)
        go_wp2
        go_ret
        exact ⟨true, rfl, by simp [HE.out], hbel.out⟩
  · have hno : Hid (¬ l = m) := hide (fun e => hlen (by rw [← hl, ← hl', e]))
    have hnn : ((n : Int) != (n' : Int)) = true := by simp; omega
    clear h0 h1
    go_enter Try.func14, Try.ntmps14
    go_wp2
    go_ret
    exact ⟨false, rfl, by simp [hno.out], Below.refl _ _⟩

end Go.Proofs.Ytkkcchklefcljaa.Clep
