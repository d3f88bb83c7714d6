/- The statement NumCuts, called at any numbers and any cut, answers true, in new memory alone. No conditions. -/
import Derived.Test.YtonfnpcgjcicdaaListMath
namespace Go.Proofs.Ytonfnpcgjcicdaa.Clep
open Go.RowKit
set_option linter.unusedVariables false

theorem and16 (a : Int) : 0 ≤ bits .and .i64 a 65535 ∧ bits .and .i64 a 65535 ≤ 65535 := by
  have e : bits .and .i64 a 65535 = IntKind.i64.wrap ((BitVec.ofInt 64 a &&& BitVec.ofInt 64 65535).toNat : Int) := rfl
  have hle : (BitVec.ofInt 64 a &&& BitVec.ofInt 64 65535).toNat ≤ 65535 := by
    rw [BitVec.toNat_and]; exact Nat.le_trans Nat.and_le_right (by decide)
  rw [e]
  generalize (BitVec.ofInt 64 a &&& BitVec.ofInt 64 65535).toNat = k at *
  simp [IntKind.wrap, IntKind.bits, IntKind.signed]
  omega

set_option maxHeartbeats 1000000 in
theorem cuts_long (a0 : Option Addr) (len0 cap0 : Nat) (cut : Int) (w : World) (hl : 40 < len0) (hm : len0 ≤ 9223372036854775807) :
    Calls Try.prog 4 #[.slice a0 len0 cap0, .int .i64 cut] w fun e w' => e = .returned (.bool true) ∧ Below w.heap.size w w' := by
  go_enter Try.func4, Try.ntmps4
  go_wp2_with (go_at_call 11; refine (awake_any _).mono ?_; rintro e w' ⟨rfl, hbel⟩)
  go_ret
  exact ⟨rfl, hbel⟩

theorem Bs.take {w : World} {ao : Option Addr} {len cap : Nat} {zs : List Int} (h : Bs w ao len cap zs) (k : Nat) (hk : k ≤ len) (hn : ao ≠ none) : Bs w ao k cap (zs.take k) := by
  refine ⟨by rw [List.length_take, h.1]; omega, ⟨by have := h.2.1.1; omega, fun e => absurd e hn⟩, range_of fun z hz => ?_, fun h0 => ?_⟩
  · obtain ⟨j, hj, rfl⟩ := List.getElem_of_mem (List.mem_of_mem_take hz)
    have := h.2.2.1 j
    simpa [List.getD, List.getElem?_eq_getElem hj] using this
  · obtain ⟨b, off, ho, hc⟩ := h.2.2.2 (by omega)
    refine ⟨b, off, ho, fun i hi => ?_⟩
    rw [hc i (by omega)]
    simp [List.getD, hi]
/-- A row of numbers of the call's own, as a slice value. -/
theorem ownU_at {w : World} {B : Nat} {v : Value} {ns : List Int} (h : OwnU w B v ns) : ∃ ao cap, v = .slice ao ns.length cap := by
  obtain ⟨_, ⟨rfl, hn⟩ | ⟨g, cap, cur, rfl, _⟩⟩ := h
  · exact ⟨none, 0, by rw [hn]⟩
  · exact ⟨_, cap, rfl⟩

set_option maxRecDepth 100000 in
set_option maxHeartbeats 2000000 in
theorem cuts_core (a0 : Option Addr) (len0 cap0 : Nat) (ns : List Int) (cut : Int) (w : World) (h : Us w a0 len0 cap0 ns) (hl : len0 ≤ 40) (L : Nat) (hL : Hid ((li ns).length = L)) (r2 : List Int × Int × Int) (hr2 : Hid (ul (li ns) ((len0 : Int) - 1) = r2)) (hw : r2.2.2 = if len0 = 0 then 0 else 2) :
    Calls Try.prog 4 #[.slice a0 len0 cap0, .int .i64 cut] w fun e w' => e = .returned (.bool true) ∧ Below w.heap.size w w' := by
  have H := hide h
  have hnl := hide h.1
  have hz := hide h.2.2.1
  clear h
  have hLb : 1 ≤ L ∧ L ≤ 500 := by have := li_len ns (by rw [hnl.out]; omega); have := hL.out; have := hnl.out; omega
  have hLn : ((L : Int) == 0) = false := beq_eq_false_iff_ne.2 (by omega)
  obtain ⟨K, hKL, hK⟩ : ∃ K : Nat, K < L ∧ (bits BinOp.and IntKind.i64 cut 65535).tmod (L : Int) = (K : Int) := by
    have ha := and16 cut
    refine ⟨((bits BinOp.and IntKind.i64 cut 65535) % (L : Int)).toNat, ?_, ?_⟩
    · have := Int.emod_lt_of_pos (bits BinOp.and IntKind.i64 cut 65535) (show (0 : Int) < (L : Int) by omega)
      have := Int.emod_nonneg (bits BinOp.and IntKind.i64 cut 65535) (show (L : Int) ≠ 0 by omega)
      omega
    · rw [Int.tmod_eq_emod_of_nonneg ha.1]
      have := Int.emod_nonneg (bits BinOp.and IntKind.i64 cut 65535) (show (L : Int) ≠ 0 by omega)
      omega
  have HW := hide hw
  clear hw
  go_enter Try.func4, Try.ntmps4
  go_wp2_with fail
  refine (list_any none 0 0 [] a0 len0 cap0 ns w (by omega) (bs_nil _) (by omega) H.out).mono ?_
  rintro e w1 ⟨v, rfl, ho, hb⟩
  rw [List.nil_append] at ho
  obtain ⟨g, cap, rfl, hcp, hcm, hbs⟩ := own_at ho (li_range ns hz.out (by rw [hnl.out]; omega)) L hL.out (by omega)
  have HBS := hide hbs
  have HB := hide hb
  clear ho hb hbs
  go_wp2_with fail
  refine (unlist_any (some ⟨g, 0, none⟩) K cap ((li ns).take K) 100 w1 (by omega) hcm (HBS.out.take K (by omega) (by intro h; cases h)) (by omega) (by omega) ([], 0, 4) (hide (ul_cut ns hz.out (by rw [hnl.out]; omega) 100 (by rw [hnl.out]; omega) K (by rw [hL.out]; exact hKL)))).mono ?_
  rintro e w2 ⟨v2, rfl, ho2, hb2⟩
  obtain ⟨ao2, cap2, hv2⟩ := ownU_at ho2
  rw [hv2]
  simp only [List.length_nil]
  have HB2 := hide hb2
  clear ho2 hb2 hv2
  obtain ⟨rl, rs, re⟩ := r2
  simp only at HW
  go_wp2_with fail
  refine (unlist_any (some ⟨g, 0, none⟩) L cap (li ns) _ w2 (by omega) hcm (HBS.out.below HB2.out (Nat.le_refl _)) (by omega) (by omega) (rl, rs, re) hr2).mono ?_
  rintro e w3 ⟨v3, rfl, ho3, hb3⟩
  simp only
  have HB3 := hide (HB.out.trans ((HB2.out.trans (hb3.mono HB2.out.size)).mono HB.out.size))
  clear ho3 hb3
  by_cases hz0 : len0 = 0
  · have hzb : ((len0 : Int) == 0) = true := by simp [hz0]
    have hre : (re == 0) = true := by have := HW.out; rw [if_pos hz0] at this; simp [this]
    clear hz0
    go_wp2_with (go_at_call 11; refine (awake_any _).mono ?_; rintro e w' ⟨rfl, hbel⟩)
    go_ret
    exact ⟨rfl, HB3.out.trans (hbel.mono HB3.out.size)⟩
  · have hzb : ((len0 : Int) == 0) = false := beq_eq_false_iff_ne.2 (by omega)
    have hre : (re == 2) = true := by have := HW.out; rw [if_neg hz0] at this; simp [this]
    clear hz0
    go_wp2_with (go_at_call 11; refine (awake_any _).mono ?_; rintro e w' ⟨rfl, hbel⟩)
    go_ret
    exact ⟨rfl, HB3.out.trans (hbel.mono HB3.out.size)⟩

theorem cuts_walk (a0 : Option Addr) (len0 cap0 : Nat) (ns : List Int) (cut : Int) (w : World) (h : Us w a0 len0 cap0 ns) (hm : len0 ≤ 9223372036854775807) :
    Calls Try.prog 4 #[.slice a0 len0 cap0, .int .i64 cut] w fun e w' => e = .returned (.bool true) ∧ Below w.heap.size w w' := by
  by_cases hl : len0 ≤ 40
  · refine cuts_core a0 len0 cap0 ns cut w h hl _ (hide rfl) _ (hide rfl) ?_
    by_cases h0 : len0 = 0
    · rw [if_pos h0]
      have hn : ns = [] := List.eq_nil_of_length_eq_zero (by rw [h.1]; exact h0)
      subst hn
      subst h0
      decide
    · rw [if_neg h0, show (len0 : Int) = (ns.length : Int) from by rw [h.1], ul_short ns h.2.2.1 (by rw [h.1]; omega) (by rw [h.1]; omega)]
  · exact cuts_long a0 len0 cap0 cut w (by omega) hm

end Go.Proofs.Ytonfnpcgjcicdaa.Clep
