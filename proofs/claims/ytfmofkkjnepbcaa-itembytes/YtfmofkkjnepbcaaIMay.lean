/- What the document's own May and Equal do when called: for any items; for two rows of the same items. No conditions. -/
import Derived.Test.YtfmofkkjnepbcaaIOwn
import Derived.BigRegion
import Derived.Laws.StructEq
namespace Go.Proofs.Ytfmofkkjnepbcaa.Clep
open Go.RowKit
set_option linter.unusedVariables false

/-- The error of Bytes. -/
def may (l : List It) : Int := if 2000 < l.length then 2 else if l.all It.ok = true then 0 else 1

theorem all_take_succ (l : List It) (k : Nat) (x : It) (h : l[k]? = some x) : (l.take (k + 1)).all It.ok = ((l.take k).all It.ok && x.ok) := by
  rw [List.take_add_one, h]
  simp [List.all_append, Option.toList]
theorem all_false_of (l : List It) (k : Nat) (x : It) (h : l[k]? = some x) (hx : x.ok = false) : l.all It.ok = false := by
  rw [List.all_eq_false]
  exact ⟨x, List.mem_of_getElem? h, by simp [hx]⟩

set_option maxHeartbeats 800000 in
theorem may_any (ao : Option Addr) (len cap : Nat) (l : List It) (w : World) (hm : len ≤ 9223372036854775807) (h : Is w ao len cap l) :
    Calls Try.prog 23 #[.slice ao len cap] w fun e w' => e = .returned (.int .i64 (may l)) ∧ Below w.heap.size w w' := by
  have hl := h.1
  by_cases hlong : 2000 < len
  · have hp := hide (show may l = 2 by unfold may; rw [if_pos (by omega)])
    clear h
    go_enter Try.func23, Try.ntmps23
    go_wp2
    go_ret
    exact ⟨by rw [hp.out]; rfl, Below.refl _ _⟩
  · have hp := hide (show may l = if l.all It.ok = true then 0 else 1 by unfold may; rw [if_neg (by omega)])
    have H1 := hide (fun W (hW : Below w.heap.size w W) => h.below hW (Nat.le_refl _))
    have HL := hide hl
    clear h
    go_enter Try.func23, Try.ntmps23
    go_wp2_with fail
    go_loopw [3] (fun i wr => ∃ k : Nat, k ≤ len ∧ i = .int .i64 k ∧ Hid ((l.take k).all It.ok = true) ∧ Hid (Below w.heap.size w wr)) (fun i _ => len - (intOf i).toNat)
    case atStart => exact ⟨0, by omega, rfl, hide (by simp), hide (Below.refl _ _)⟩
    case round =>
      obtain ⟨k, hk, rfl, hal, hbel⟩ := hrel
      by_cases hlt : k < len
      · have hI := H1.out _ hbel.out
        obtain ⟨b, off, rfl, hc⟩ := hI.2.2.2 (by omega)
        obtain ⟨x, hx⟩ : ∃ x, l[k]? = some x := ⟨_, List.getElem?_eq_getElem (by rw [hl]; exact hlt)⟩
        have hv := hc k x hx
        have HS := hide (all_take_succ l k x hx)
        have HF := hide (all_false_of l k x hx)
        unfold It.ok at HS HF
        obtain ⟨S, K, T, V, X⟩ := x
        unfold Vt Vi at hv
        simp only at hv HS HF
        obtain ⟨v0, v1, v2, v3, v4⟩ := hv
        clear hI hc hx
        go_wp2_with fail
        refine (refok_any S K T V X wr).mono ?_
        generalize okI S K T V X = o at *
        rintro e w1 ⟨rfl, b1⟩
        have B1 := hide (bmore hbel.out b1)
        clear b1 hbel v0 v1 v2 v3 v4
        cases o with
        | false =>
          have hp2 := hide (show may l = 1 by rw [hp.out, if_neg (by have := HF.out rfl; unfold It.ok at *; simp_all)])
          clear HS HF hp
          go_wp2
          go_ret
          exact ⟨by rw [hp2.out]; rfl, B1.out⟩
        | true =>
          have ha2 := hide (show (l.take (k + 1)).all It.ok = true by have := HS.out; have := hal.out; unfold It.ok at *; simp_all)
          clear HS HF
          go_wp2
          go_roundw
          case rel => exact ⟨k + 1, by omega, by go_num, ha2, B1⟩
          case measure => simp [intOf]; omega
      · obtain rfl : k = len := by omega
        have hp2 := hide (show may l = 0 by
          rw [hp.out, if_pos]
          have := hal.out
          rwa [show l.take k = l from by rw [← HL.out]; exact List.take_length] at this)
        go_wp2
        go_ret
        exact ⟨by rw [hp2.out]; rfl, hbel.out⟩

set_option maxHeartbeats 800000 in
theorem equal_same (a0 a1 : Option Addr) (len cap0 cap1 : Nat) (l : List It) (w : World) (hm : len ≤ 9223372036854775807) (h0 : Is w a0 len cap0 l) (h1 : Is w a1 len cap1 l) :
    Calls Try.prog 26 #[.slice a0 len cap0, .slice a1 len cap1] w fun e w' => e = .returned (.bool true) ∧ Below w.heap.size w w' := by
  have hl := h0.1
  have H0 := hide (fun W (hW : Below w.heap.size w W) => h0.below hW (Nat.le_refl _))
  have H1 := hide (fun W (hW : Below w.heap.size w W) => h1.below hW (Nat.le_refl _))
  clear h0 h1
  go_enter Try.func26, Try.ntmps26
  go_wp2_with fail
  go_loopw [5] (fun i wr => ∃ k : Nat, k ≤ len ∧ i = .int .i64 k ∧ Hid (Below w.heap.size w wr)) (fun i _ => len - (intOf i).toNat)
  case atStart => exact ⟨0, by omega, rfl, hide (Below.refl _ _)⟩
  case round =>
    obtain ⟨k, hk, rfl, hbel⟩ := hrel
    by_cases hlt : k < len
    · have hI0 := H0.out _ hbel.out
      have hI1 := H1.out _ hbel.out
      obtain ⟨b, off, rfl, hc⟩ := hI0.2.2.2 (by omega)
      obtain ⟨b', off', rfl, hc'⟩ := hI1.2.2.2 (by omega)
      obtain ⟨x, hx⟩ : ∃ x, l[k]? = some x := ⟨_, List.getElem?_eq_getElem (by rw [hl]; exact hlt)⟩
      have hv := hc k x hx
      have hu := hc' k x hx
      obtain ⟨S, K, T, V, X⟩ := x
      unfold Vt Vi at hv hu
      simp only at hv hu
      obtain ⟨v0, v1, v2, v3, v4⟩ := hv
      obtain ⟨u0, u1, u2, u3, u4⟩ := hu
      clear hI0 hI1 hc hc' hx
      go_wp2_with fail
      go_region
      go_wp2
      go_roundw
      case rel => exact ⟨k + 1, by omega, by go_num, hide hbel.out.drew⟩
      case measure => simp [intOf]; omega
    · go_wp2
      go_ret
      exact ⟨rfl, hbel.out⟩

end Go.Proofs.Ytfmofkkjnepbcaa.Clep
