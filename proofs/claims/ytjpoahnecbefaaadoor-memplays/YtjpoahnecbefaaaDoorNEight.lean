/- What num.Eight does when called: for any bytes of at most 2^46, any number. -/
import Derived.Test.YtjpoahnecbefaaaDoorNPut
namespace Go.Proofs.YtjpoahnecbefaaaDoor.Clep
open Go.RowKit
set_option linter.unusedVariables false

set_option maxRecDepth 100000 in
set_option maxHeartbeats 800000 in
theorem eight_any (ao : Option Addr) (len cap : Nat) (zs : List Int) (w : World) (n : Int) (h0 : 0 ≤ n) (h1 : n ≤ 18446744073709551615) (hm : len ≤ 70368744177664) (h : Bs w ao len cap zs) :
    Calls Tryd.prog 53 #[.slice ao len cap, .int .u64 n] w fun e w' => ∃ v, e = .returned v ∧ Own w' w.heap.size v (zs ++ e8 n 8) ∧ Below w.heap.size w w' := by
  obtain ⟨i0, hi, hz0, hz1, hz2⟩ := info_parts info5
  have hzl := hide h.1
  have H := hide h
  clear h
  go_enter Tryd.func53, Tryd.ntmps53
  go_wp2_with fail
  refine (room_any ao len cap zs w 8 (by omega) (by omega) hm H.out).mono ?_
  rintro e w1 ⟨v, rfl, ho, hb⟩
  have HO := hide ho
  have HB := hide hb
  clear ho hb
  go_wp2_with fail
  go_loopw [5, 9] (fun u i wr => ∃ k : Nat, k ≤ 8 ∧ i = .int .i64 k ∧ Hid (Own wr w.heap.size u (zs ++ e8 n k)) ∧ Hid (Below w.heap.size w wr)) (fun _ i _ => 8 - (intOf i).toNat)
  case atStart => exact ⟨0, by omega, rfl, hide (by simpa [e8] using HO.out), HB⟩
  case round =>
    obtain ⟨k, hk, rfl, hown, hbel⟩ := hrel
    have hsz := hide hbel.out.size
    have hll : (zs ++ e8 n k).length = len + k := by rw [List.length_append, hzl.out, e8_len]
    by_cases hlt : k < 8
    · go_wp2_with (first
        | (at_builtin; refine wpList_append_own _ rfl (.tmp 12) (.tmp 19) 70 rfl w.heap.size 5 i0 (.int .u8 0) 1 1 Tryd.underlying70 hi hz0 hz1 hz2 rfl (by decide) _ _ _ rfl (hown.out.alloc _) ⟨wr.heap.size, 0, none⟩ 1 1 [.int .u8 (n / 2 ^ (8 * (7 - k)) % 256)] rfl rfl ?c1 ?c2 ?c3 ?c4 ?c5 ?_)
        | fail)
      case c1 => exact cell_one_new _ _ _
      case c2 => intro u hu; simp at hu; subst hu; rfl
      case c3 => unfold maxLen; omega
      case c4 => omega
      case c5 => have := hsz.out; simp; omega
      intro v' w2 hown' hgrow _
      have HW := hide hown'
      have HW2 := hide hgrow
      clear hown' hgrow
      go_wp2
      go_roundw
      case rel => exact ⟨k + 1, by omega, by go_num, hide (by rw [e8_succ, ← List.append_assoc]; exact own_snoc (by rw [hll]; exact HW.out)), hide (below_step hbel.out hsz.out hown.out HW2.out)⟩
      case measure => simp [intOf]; omega
    · have h8 : k = 8 := by omega
      subst h8
      go_wp2
      go_ret
      exact ⟨_, rfl, hown.out, hbel.out⟩

end Go.Proofs.YtjpoahnecbefaaaDoor.Clep
