/- What num.room, num.grow and num.Put do when called: for any bytes of at most 2^46, any number. -/
import Derived.Test.YtjpoahnecbefaaaDoorNTake
namespace Go.Proofs.YtjpoahnecbefaaaDoor.Clep
open Go.RowKit
set_option linter.unusedVariables false

set_option maxHeartbeats 400000 in
theorem room_any (ao : Option Addr) (len cap : Nat) (zs : List Int) (w : World) (n : Int) (h0 : 0 ≤ n) (h1 : n ≤ 1000000) (hm : len ≤ 70368744177664) (h : Bs w ao len cap zs) :
    Calls Tryd.prog 69 #[.slice ao len cap, .int .i64 n] w fun e w' => ∃ v, e = .returned v ∧ Own w' w.heap.size v zs ∧ Below w.heap.size w w' := by
  obtain ⟨i0, hi, hz0, hz1, hz2⟩ := info_parts info5
  have hcs := hide (bs_cells h)
  have hnl := hide h.2.1.2
  have hzl := hide h.1
  clear h
  go_enter Tryd.func69, Tryd.ntmps69
  go_wp2_with (first
    | (at_make; refine wpList_make_own _ rfl _ _ 70 rfl w.heap.size 5 i0 (.int .u8 0) 1 Tryd.underlying70 hi hz0 hz1 .i64 .i64 _ (len + n.toNat) rfl rfl ?c1 ?c2 ?c3 ?c4 ?_)
    | fail)
  case c1 => omega
  case c2 => rw [hz2]; omega
  case c3 => unfold maxLen; omega
  case c4 => exact Nat.le_refl _
  intro w1 hown hg
  have hb1 : Hid (Below w.heap.size w w1) := hide ((Below.refl _ _).grown hg (Nat.le_refl _) (fun k hk => by cases hk))
  have HG := hide hg
  clear hg
  go_wp2_with (first
    | (at_builtin; refine wpList_append_fits_any _ rfl (.tmp 11) (.tmp 12) 70 rfl w.heap.size 5 i0 1 Tryd.underlying70 hi hz1 w.heap.size 0 (len + n.toNat) [] rfl hown ao len cap (bv zs) rfl ?d1 ?d2 ?d3 ?d4 ?d5 ?_)
    | fail)
  case d1 => rw [bv_len, hzl.out]; omega
  case d2 => exact hnl.out
  case d3 =>
    intro ad had j u hu
    exact HG.out.cell (hcs.out ad had j u hu) (by intro h; cases h)
  case d4 => exact bv_one zs
  case d5 => omega
  intro w2 hown2 hg2
  have hb2 := hide (hb1.out.grown hg2 hb1.out.size (fun k hk => by cases hk; exact Nat.le_refl _))
  have HO := hide hown2
  clear hg2 hown2 hown
  go_wp2
  go_ret
  refine ⟨_, rfl, ?_, hb2.out⟩
  have := HO.out
  unfold Own
  rw [hzl.out]
  first | exact this | simpa using this
end Go.Proofs.YtjpoahnecbefaaaDoor.Clep
