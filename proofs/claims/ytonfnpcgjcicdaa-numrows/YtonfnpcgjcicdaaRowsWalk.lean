/- The statement NumRows, called at any row of numbers, answers true, in new memory alone. No conditions. -/
import Derived.Test.YtonfnpcgjcicdaaUs
namespace Go.Proofs.Ytonfnpcgjcicdaa.Clep
open Go.RowKit
set_option linter.unusedVariables false

set_option maxHeartbeats 2000000 in
theorem rows_small (a0 : Option Addr) (len0 cap0 : Nat) (ns : List Int) (w : World) (hcap : len0 ≤ cap0) (hm : len0 ≤ 9223372036854775807) (hN : Hid (ns.length = len0)) (hs : len0 ≤ 50)
    (hz : Hid (∀ i, 0 ≤ ns.getD i 0 ∧ ns.getD i 0 ≤ 18446744073709551615))
    (hc : Hid (∀ w', Below w.heap.size w w' → 0 < len0 → ∃ b off, a0 = some ⟨b, off, none⟩ ∧ ∀ i, i < len0 → w'.cell? ⟨b, off + i, none⟩ = some (.int .u64 (ns.getD i 0)))) :
    Calls Try.prog 3 #[.slice a0 len0 cap0] w fun e w' => e = .returned (.bool true) ∧ Below w.heap.size w w' := by
  go_enter Try.func3, Try.ntmps3
  go_wp2_with fail
  go_loopw [3, 5] (fun v i wr => ∃ (k : Nat) (ao : Option Addr) (cap : Nat) (L : Nat), k ≤ len0 ∧ i = .int .i64 k ∧ v = .slice ao L cap ∧ L ≤ 500 ∧ L ≤ cap ∧ cap ≤ 9223372036854775807 ∧ Hid (L = (rows ns k).length ∧ (0 < L → ∃ g, ao = some ⟨g, 0, none⟩)) ∧ Hid (Bs wr ao L cap (rows ns k)) ∧ Hid (Below w.heap.size w wr)) (fun _ i _ => 50 - (intOf i).toNat)
  case atStart => exact ⟨0, none, 0, 0, by omega, rfl, rfl, by omega, by omega, by omega, hide ⟨rfl, fun h => by omega⟩, hide (bs_nil _), hide (Below.refl _ _)⟩
  case round =>
    obtain ⟨k, ao, cap, L, hk, rfl, rfl, hL, hLc, hcm, hLe, hbs, hbel⟩ := hrel
    by_cases hlt : k < len0
    · obtain ⟨b, off, rfl, hcell⟩ := hc.out wr hbel.out (by omega)
      have hck := hcell k hlt
      have hzk := hz.out k
      have hkl : k < len0 := by omega
      have HS := hide (rows_succ ns k (by rw [hN.out]; exact hlt))
      have HLn := hide (rows_len ns (k + 1) (by rw [hN.out]; omega))
      have HR := hide (rows_range ns hz.out (k + 1))
      have HPL := hide (pu_len (ns.getD k 0))
      clear hcell
      generalize ns.getD k 0 = c at *
      go_wp2_with fail
      refine (put_any ao L cap (rows ns k) _ c hzk.1 hzk.2 (by omega) hbs.out).mono ?_
      rintro e w1 ⟨v, rfl, ho, hb⟩
      rw [← HS.out] at ho
      obtain ⟨g, cap', hv, hlc', hcm', hbs'⟩ := own_at ho HR.out _ rfl (by rw [HS.out, List.length_append]; have := HPL.out; omega)
      obtain ⟨L', hL'⟩ : ∃ L', L' = (rows ns (k + 1)).length := ⟨_, rfl⟩
      rw [← hL'] at hv hlc' hbs'
      have hLL : L' ≤ 500 := by rw [hL']; have := HLn.out; omega
      have HL' := hide hL'
      have HBS := hide hbs'
      have HB := hide (hbel.out.trans (hb.mono hbel.out.size))
      rw [hv]
      clear ho hbs' hL' hb hv
      go_wp2_with fail
      go_roundw
      case rel => exact ⟨k + 1, _, cap', L', by omega, by go_num, rfl, hLL, hlc', hcm', hide ⟨HL'.out, fun _ => ⟨g, rfl⟩⟩, HBS, HB⟩
      case measure => simp [intOf]; omega
    · have hkN : rows ns k = rest ns 0 := rows_all ns k (by rw [hN.out]; omega)
      have HL2 : Hid (L = (rest ns 0).length ∧ (0 < L → ∃ g, ao = some ⟨g, 0, none⟩)) := hide (by rw [← hkN]; exact hLe.out)
      have HBS : Hid (Bs wr ao L cap (rest ns 0)) := hide (by rw [← hkN]; exact hbs.out)
      have HC := hide (hc.out wr hbel.out)
      clear hkN hLe hbs
      go_wp2_with fail
      go_loop [6, 7] (fun t i => ∃ (k : Nat) (A : Nat), k ≤ len0 ∧ i = .int .i64 k ∧ t = .int .i64 A ∧ A ≤ L ∧ Hid (A = (rows ns k).length)) (fun _ i => 50 - (intOf i).toNat)
      case atStart => exact ⟨0, 0, by omega, rfl, rfl, by omega, hide (by simp [rows])⟩
      case round =>
        obtain ⟨k, A, hk, rfl, rfl, hAL, hA⟩ := hrel
        by_cases hlt : k < len0
        · obtain ⟨b, off, rfl, hcell⟩ := HC.out (by omega)
          have hck := hcell k hlt
          have hzk := hz.out k
          have hkl : k < len0 := by omega
          have hkn : k < ns.length := by rw [hN.out]; exact hlt
          have hsum : (rows ns (k + 1)).length ≤ L := by
            have h1 := congrArg List.length (rows_rest ns (k + 1))
            rw [List.length_append] at h1; have := HL2.out.1; omega
          have HS : Hid ((rows ns (k + 1)).length = A + (pu (ns.getD k 0)).length) := hide (by rw [rows_succ ns k hkn, List.length_append, ← hA.out])
          have hpl := pu_len (ns.getD k 0)
          have hAlt : A < L := by have := HS.out; omega
          have hsum2 : A + (pu (ns.getD k 0)).length ≤ L := by have := HS.out; omega
          obtain ⟨g, hg⟩ := HL2.out.2 (by omega)
          have HT : Hid (tk (rest ns k) 0 0 = (ns.getD k 0, ((pu (ns.getD k 0)).length : Int), 0)) := hide (tk_rest ns hz.out k hkn)
          subst hg
          have hbd := HBS.out.drop A (by omega)
          rw [show (rest ns 0).drop A = rest ns k from by rw [hA.out]; exact drop_rows ns k] at hbd
          have HBD := hide hbd
          clear hcell hkn hsum hbd
          generalize (pu (ns.getD k 0)).length = K at *
          generalize ns.getD k 0 = c at *
          go_wp2_with fail
          refine (take_any _ (L - A) (cap - A) (rest ns k) _ (by omega) HBD.out).mono ?_
          rw [HT.out]
          rintro e w1 ⟨rfl, rfl⟩
          unfold tup
          go_wp2_with fail
          go_round
          case rel => exact ⟨k + 1, A + K, by omega, by go_num, by go_num, by omega, hide HS.out.symm⟩
          case measure => simp [intOf]; omega
        · have hAe : A = L := by
            rw [hA.out, HL2.out.1, rows_all ns k (by rw [hN.out]; omega)]
          subst hAe
          go_wp2_with (first
            | (go_at_call 10; refine (take_none _ _ _).mono ?_; rintro e w1 ⟨rfl, rfl⟩; unfold tup)
            | (go_at_call 11; refine (awake_any _).mono ?_; rintro e w' ⟨rfl, hbel2⟩))
          all_goals
            go_ret
            exact ⟨rfl, hbel.out.trans (hbel2.mono hbel.out.size)⟩

set_option maxHeartbeats 2000000 in
theorem rows_big (a0 : Option Addr) (len0 cap0 : Nat) (ns : List Int) (w : World) (hcap : len0 ≤ cap0) (hm : len0 ≤ 9223372036854775807) (hN : Hid (ns.length = 50)) (hs : 50 < len0)
    (hz : Hid (∀ i, 0 ≤ ns.getD i 0 ∧ ns.getD i 0 ≤ 18446744073709551615))
    (hc : Hid (∀ w', Below w.heap.size w w' → 0 < 50 → ∃ b off, a0 = some ⟨b, off, none⟩ ∧ ∀ i, i < 50 → w'.cell? ⟨b, off + i, none⟩ = some (.int .u64 (ns.getD i 0)))) :
    Calls Try.prog 3 #[.slice a0 len0 cap0] w fun e w' => e = .returned (.bool true) ∧ Below w.heap.size w w' := by
  go_enter Try.func3, Try.ntmps3
  go_wp2_with fail
  go_loopw [3, 5] (fun v i wr => ∃ (k : Nat) (ao : Option Addr) (cap : Nat) (L : Nat), k ≤ 50 ∧ i = .int .i64 k ∧ v = .slice ao L cap ∧ L ≤ 500 ∧ L ≤ cap ∧ cap ≤ 9223372036854775807 ∧ Hid (L = (rows ns k).length ∧ (0 < L → ∃ g, ao = some ⟨g, 0, none⟩)) ∧ Hid (Bs wr ao L cap (rows ns k)) ∧ Hid (Below w.heap.size w wr)) (fun _ i _ => 50 - (intOf i).toNat)
  case atStart => exact ⟨0, none, 0, 0, by omega, rfl, rfl, by omega, by omega, by omega, hide ⟨rfl, fun h => by omega⟩, hide (bs_nil _), hide (Below.refl _ _)⟩
  case round =>
    obtain ⟨k, ao, cap, L, hk, rfl, rfl, hL, hLc, hcm, hLe, hbs, hbel⟩ := hrel
    by_cases hlt : k < 50
    · obtain ⟨b, off, rfl, hcell⟩ := hc.out wr hbel.out (by omega)
      have hck := hcell k hlt
      have hzk := hz.out k
      have hkl : k < len0 := by omega
      have HS := hide (rows_succ ns k (by rw [hN.out]; exact hlt))
      have HLn := hide (rows_len ns (k + 1) (by rw [hN.out]; omega))
      have HR := hide (rows_range ns hz.out (k + 1))
      have HPL := hide (pu_len (ns.getD k 0))
      clear hcell
      generalize ns.getD k 0 = c at *
      go_wp2_with fail
      refine (put_any ao L cap (rows ns k) _ c hzk.1 hzk.2 (by omega) hbs.out).mono ?_
      rintro e w1 ⟨v, rfl, ho, hb⟩
      rw [← HS.out] at ho
      obtain ⟨g, cap', hv, hlc', hcm', hbs'⟩ := own_at ho HR.out _ rfl (by rw [HS.out, List.length_append]; have := HPL.out; omega)
      obtain ⟨L', hL'⟩ : ∃ L', L' = (rows ns (k + 1)).length := ⟨_, rfl⟩
      rw [← hL'] at hv hlc' hbs'
      have hLL : L' ≤ 500 := by rw [hL']; have := HLn.out; omega
      have HL' := hide hL'
      have HBS := hide hbs'
      have HB := hide (hbel.out.trans (hb.mono hbel.out.size))
      rw [hv]
      clear ho hbs' hL' hb hv
      go_wp2_with fail
      go_roundw
      case rel => exact ⟨k + 1, _, cap', L', by omega, by go_num, rfl, hLL, hlc', hcm', hide ⟨HL'.out, fun _ => ⟨g, rfl⟩⟩, HBS, HB⟩
      case measure => simp [intOf]; omega
    · have hkN : rows ns k = rest ns 0 := rows_all ns k (by rw [hN.out]; omega)
      have HL2 : Hid (L = (rest ns 0).length ∧ (0 < L → ∃ g, ao = some ⟨g, 0, none⟩)) := hide (by rw [← hkN]; exact hLe.out)
      have HBS : Hid (Bs wr ao L cap (rest ns 0)) := hide (by rw [← hkN]; exact hbs.out)
      have HC := hide (hc.out wr hbel.out)
      clear hkN hLe hbs
      go_wp2_with fail
      go_loop [6, 7] (fun t i => ∃ (k : Nat) (A : Nat), k ≤ 50 ∧ i = .int .i64 k ∧ t = .int .i64 A ∧ A ≤ L ∧ Hid (A = (rows ns k).length)) (fun _ i => 50 - (intOf i).toNat)
      case atStart => exact ⟨0, 0, by omega, rfl, rfl, by omega, hide (by simp [rows])⟩
      case round =>
        obtain ⟨k, A, hk, rfl, rfl, hAL, hA⟩ := hrel
        by_cases hlt : k < 50
        · obtain ⟨b, off, rfl, hcell⟩ := HC.out (by omega)
          have hck := hcell k hlt
          have hzk := hz.out k
          have hkl : k < len0 := by omega
          have hkn : k < ns.length := by rw [hN.out]; exact hlt
          have hsum : (rows ns (k + 1)).length ≤ L := by
            have h1 := congrArg List.length (rows_rest ns (k + 1))
            rw [List.length_append] at h1; have := HL2.out.1; omega
          have HS : Hid ((rows ns (k + 1)).length = A + (pu (ns.getD k 0)).length) := hide (by rw [rows_succ ns k hkn, List.length_append, ← hA.out])
          have hpl := pu_len (ns.getD k 0)
          have hAlt : A < L := by have := HS.out; omega
          have hsum2 : A + (pu (ns.getD k 0)).length ≤ L := by have := HS.out; omega
          obtain ⟨g, hg⟩ := HL2.out.2 (by omega)
          have HT : Hid (tk (rest ns k) 0 0 = (ns.getD k 0, ((pu (ns.getD k 0)).length : Int), 0)) := hide (tk_rest ns hz.out k hkn)
          subst hg
          have hbd := HBS.out.drop A (by omega)
          rw [show (rest ns 0).drop A = rest ns k from by rw [hA.out]; exact drop_rows ns k] at hbd
          have HBD := hide hbd
          clear hcell hkn hsum hbd
          generalize (pu (ns.getD k 0)).length = K at *
          generalize ns.getD k 0 = c at *
          go_wp2_with fail
          refine (take_any _ (L - A) (cap - A) (rest ns k) _ (by omega) HBD.out).mono ?_
          rw [HT.out]
          rintro e w1 ⟨rfl, rfl⟩
          unfold tup
          go_wp2_with fail
          go_round
          case rel => exact ⟨k + 1, A + K, by omega, by go_num, by go_num, by omega, hide HS.out.symm⟩
          case measure => simp [intOf]; omega
        · have hAe : A = L := by
            rw [hA.out, HL2.out.1, rows_all ns k (by rw [hN.out]; omega)]
          subst hAe
          go_wp2_with (first
            | (go_at_call 10; refine (take_none _ _ _).mono ?_; rintro e w1 ⟨rfl, rfl⟩; unfold tup)
            | (go_at_call 11; refine (awake_any _).mono ?_; rintro e w' ⟨rfl, hbel2⟩))
          all_goals
            go_ret
            exact ⟨rfl, hbel.out.trans (hbel2.mono hbel.out.size)⟩

theorem take_cells {w : World} {a0 : Option Addr} {len0 cap0 : Nat} {ns : List Int} (h : Us w a0 len0 cap0 ns) (N : Nat) (hN : N ≤ len0) :
    ∀ w', Below w.heap.size w w' → 0 < N → ∃ b off, a0 = some ⟨b, off, none⟩ ∧ ∀ i, i < N → w'.cell? ⟨b, off + i, none⟩ = some (.int .u64 ((ns.take N).getD i 0)) := by
  intro w' hb h0
  obtain ⟨b, off, ho, hc⟩ := (h.below hb (Nat.le_refl _)).2.2.2 (by omega)
  refine ⟨b, off, ho, fun i hi => ?_⟩
  rw [hc i (by omega)]
  simp [List.getD, hi]
theorem rows_walk (a0 : Option Addr) (len0 cap0 : Nat) (ns : List Int) (w : World) (h : Us w a0 len0 cap0 ns) (hm : len0 ≤ 9223372036854775807) :
    Calls Try.prog 3 #[.slice a0 len0 cap0] w fun e w' => e = .returned (.bool true) ∧ Below w.heap.size w w' := by
  have hr : ∀ N, ∀ i, 0 ≤ (ns.take N).getD i 0 ∧ (ns.take N).getD i 0 ≤ 18446744073709551615 := by
    intro N
    refine urange_of fun z hz => ?_
    obtain ⟨j, hj, rfl⟩ := List.getElem_of_mem (List.mem_of_mem_take hz)
    have := h.2.2.1 j
    simpa [List.getD, List.getElem?_eq_getElem hj] using this
  by_cases hs : len0 ≤ 50
  · exact rows_small a0 len0 cap0 (ns.take len0) w h.2.1.1 hm (hide (by rw [List.length_take, h.1]; omega)) hs (hide (hr _)) (hide (take_cells h len0 (Nat.le_refl _)))
  · exact rows_big a0 len0 cap0 (ns.take 50) w h.2.1.1 hm (hide (by rw [List.length_take, h.1]; omega)) (by omega) (hide (hr _)) (hide (take_cells h 50 (by omega)))
end Go.Proofs.Ytonfnpcgjcicdaa.Clep
