/- What num.List does when called (a walk over the translated program): for any bytes of at most 2^46, any numbers up to a million. -/
import Derived.Test.YtgopcaemgcnapaaNReader
namespace Go.Proofs.Ytgopcaemgcnapaa.Clep
open Go.RowKit
set_option linter.unusedVariables false
set_option maxRecDepth 10000

/-- What List writes of ns. -/
def li (ns : List Int) : List Int := pu (ns.length : Int) ++ rest ns 0

set_option maxHeartbeats 1000000 in
theorem list_any (ao : Option Addr) (len cap : Nat) (zs : List Int) (a1 : Option Addr) (len1 cap1 : Nat) (ns : List Int) (w : World) (hm : len ≤ 35184372088832) (h : Bs w ao len cap zs) (hm1 : len1 ≤ 100000) (h1 : Us w a1 len1 cap1 ns) :
    Calls Try.prog 54 #[.slice ao len cap, .slice a1 len1 cap1] w fun e w' => ∃ v, e = .returned v ∧ Own w' w.heap.size v (zs ++ li ns) ∧ Below w.heap.size w w' := by
  have H := hide h
  have H1 := hide h1
  have hzl := hide h.1
  have hnl := hide h1.1
  have hz := hide h1.2.2.1
  clear h h1
  go_enter Try.func54, Try.ntmps54
  go_wp2_with fail
  refine (room_any ao len cap zs w _ (by omega) (by omega) (by omega) H.out).mono ?_
  rintro e w1 ⟨v, rfl, ho, hb⟩
  have HO := hide ho
  have HB := hide hb
  clear ho hb
  go_wp2_with fail
  refine (grow_any v zs w.heap.size w1 _ (by omega) (by omega) (by have := hzl.out; omega) HO.out HB.out.size).mono ?_
  rintro e w2 ⟨v', rfl, ho2, hb2⟩
  have HO2 := hide ho2
  have HB2 := hide (HB.out.trans hb2)
  clear ho2 hb2
  go_wp2_with fail
  go_loopw [5, 19] (fun u i wr => ∃ k : Nat, k ≤ len1 ∧ i = .int .i64 k ∧ Hid (Own wr w.heap.size u (zs ++ pu (len1 : Int) ++ rows ns k)) ∧ Hid (Below w.heap.size w wr)) (fun _ i _ => len1 - (intOf i).toNat)
  case atStart => exact ⟨0, by omega, rfl, hide (by simpa [rows] using HO2.out), HB2⟩
  case round =>
    obtain ⟨k, hk, rfl, hown, hbel⟩ := hrel
    by_cases hlt : k < len1
    · obtain ⟨b, off, rfl, hcell⟩ := (H1.out.below hbel.out (Nat.le_refl _)).2.2.2 (by omega)
      have hck := hcell k hlt
      have hzk := hz.out k
      have HS := hide (rows_succ ns k (by rw [hnl.out]; exact hlt))
      have HLn := hide (rows_len ns k (by rw [hnl.out]; omega))
      have HPL := hide (pu_len (len1 : Int))
      clear hcell
      generalize ns.getD k 0 = c at *
      go_wp2_with fail
      refine (grow_any _ _ w.heap.size wr c hzk.1 hzk.2 ?_ hown.out hbel.out.size).mono ?_
      · rw [List.length_append, List.length_append]; have := HLn.out; have := HPL.out; have := hzl.out; omega
      rintro e w3 ⟨v3, rfl, ho3, hb3⟩
      rw [List.append_assoc _ (rows ns k), ← HS.out] at ho3
      have HO3 := hide ho3
      have HB3 := hide (hbel.out.trans hb3)
      clear ho3 hb3
      go_wp2_with fail
      go_roundw
      case rel => exact ⟨k + 1, by omega, by go_num, HO3, HB3⟩
      case measure => simp [intOf]; omega
    · have HE : Hid (zs ++ pu (len1 : Int) ++ rows ns k = zs ++ li ns) := hide (by unfold li; rw [rows_all ns k (by rw [hnl.out]; omega), hnl.out, List.append_assoc])
      go_wp2
      go_ret
      exact ⟨_, rfl, by rw [← HE.out]; exact hown.out, hbel.out⟩

end Go.Proofs.Ytgopcaemgcnapaa.Clep
