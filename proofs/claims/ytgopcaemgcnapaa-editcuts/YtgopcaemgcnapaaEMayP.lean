/- What edit.mayBe does when called (a walk over the translated program): for any Edit. -/
import Derived.Test.YtgopcaemgcnapaaEOkW
namespace Go.Proofs.Ytgopcaemgcnapaa.Clep
open Go.RowKit
set_option linter.unusedVariables false
set_option maxRecDepth 10000

def mayB (E : Ed) : Bool := decide (E.d.length ≤ 40) && (E.d.all okN && (flk E.a && (((E.lg == 0) || okN E.lg) && [E.fl, E.ct, E.at9, E.ls].all okV)))
theorem mayB_iff (E : Ed) : mayB E = true ↔ emay E = 0 := by
  unfold mayB emay edH flk okN okV
  cases h1 : E.d.all (fun n => decide (1 ≤ n ∧ n ≤ 1073741824)) <;> cases h2 : E.a.all Fi.ok
  · simp
  · simp
  · simp
  · simp only [Bool.true_and, Bool.and_true, Bool.and_eq_true, decide_eq_true_eq, List.all_cons, List.all_nil, Bool.or_eq_true, beq_iff_eq]
    constructor
    · rintro ⟨a1, a2, a3, a4, a5, a6, a7⟩
      rw [if_pos (by omega)]
    · intro h
      split at h
      · rename_i hh; omega
      · cases h
set_option maxHeartbeats 1000000 in
theorem maybe_any (da : Option Addr) (dn dc : Nat) (aa : Option Addr) (an ac : Nat) (E : Ed) (w : World) (hd : Zs w da dn dc E.d) (ha : Fs w aa an ac E.a) (hdn : dn ≤ 9223372036854775807) (han : an ≤ 9223372036854775807) :
    Calls Try.prog 29 #[edV da dn dc aa an ac E] w fun e w' => e = .returned (.bool (mayB E)) ∧ Below w.heap.size w w' := by
  have hld := hd.1
  have HD := hide (fun W (hW : Below w.heap.size w W) => hd.below hW (Nat.le_refl _))
  have HA := hide (fun W (hW : Below w.heap.size w W) => ha.below hW (Nat.le_refl _))
  have HM := hide (show mayB E = (decide (E.d.length ≤ 40) && (E.d.all okN && (flk E.a && (((E.lg == 0) || okN E.lg) && [E.fl, E.ct, E.at9, E.ls].all okV)))) from rfl)
  generalize mayB E = M at *
  obtain ⟨d, a, lg, fl, ct, at9, ls⟩ := E
  unfold edV
  simp only at hld HD HA HM ⊢
  rw [hld] at HM
  clear hd ha
  have A0 := (Below.refl w.heap.size w).alloc (Nat.le_refl _) (Obj.cells #[.slice da dn dc, .slice aa an ac, .int .i64 lg, .int .u64 fl, .int .u64 ct, .int .u64 at9, .int .u64 ls] 31)
  have HB0 := hide A0
  have hK := hide (show ∀ W, Below (w.heap.size + 1) (w.alloc (Obj.cells #[.slice da dn dc, .slice aa an ac, .int .i64 lg, .int .u64 fl, .int .u64 ct, .int .u64 at9, .int .u64 ls] 31)) W → Ek W w.heap.size #[.slice da dn dc, .slice aa an ac, .int .i64 lg, .int .u64 fl, .int .u64 ct, .int .u64 at9, .int .u64 ls] 31 from fun W hW => (ek_new w _ _).below hW (by omega))
  have CN := hide numok_any
  have CF := hide (fun W (hW : Below w.heap.size w W) => filesok_any aa an ac a W (HA.out W hW) han)
  have CV := hide (fun p W (hW : Uz W p [fl, ct, at9, ls]) => versok_any p 4 _ W hW rfl (by omega))
  clear A0
  by_cases h40 : dn ≤ 40
  · have g1 : (dn : Int) ≤ 40 := by omega
    rw [show decide (dn ≤ 40) = true from decide_eq_true h40, Bool.true_and] at HM
    go_enter Try.func29, Try.ntmps29
    go_wp2_with fail
    generalize hwa : w.alloc (Obj.cells #[.slice da dn dc, .slice aa an ac, .int .i64 lg, .int .u64 fl, .int .u64 ct, .int .u64 at9, .int .u64 ls] 31) = wa at *
    have hsa : wa.heap.size = w.heap.size + 1 := by rw [← hwa]; simp
    clear hwa
    have hZ0 := hide (HD.out wa HB0.out)
    go_loop [12] (fun s => ∃ k : Nat, k ≤ dn ∧ s = .int .i64 k ∧ Hid ((d.take k).all okN = true)) (fun s => dn - (intOf s).toNat)
    case atStart => exact ⟨0, by omega, rfl, hide (by simp)⟩
    case round =>
      obtain ⟨k, hk, rfl, hall⟩ := hrel
      by_cases hlt : k < dn
      · obtain ⟨z, b, off, hz, rfl, hc, hz1, hz2⟩ := zs_at hZ0.out k hlt
        have NK := hide (numok_any z wa)
        obtain ⟨o, ho⟩ : ∃ o, okN z = o := ⟨_, rfl⟩
        rw [ho] at NK
        have HBD := hide (show o = false → M = false from fun e => by rw [HM.out, all_bad hz (by rw [ho, e])]; rfl)
        have HTD := hide (show o = true → (d.take (k + 1)).all okN = true from fun e => all_more hz (by rw [ho, e]) hall.out)
        clear hz ho
        go_wp2_with fail
        refine NK.out.mono ?_
        rintro e w1 ⟨rfl, hw1⟩
        subst hw1
        clear NK
        cases o with
        | false =>
          obtain rfl : M = false := HBD.out (by first | rfl | trivial)
          clear HBD HTD HM
          go_wp2
          go_ret
          exact ⟨rfl, HB0.out⟩
        | true =>
          have HT := hide (HTD.out (by first | rfl | trivial))
          clear HBD HTD
          go_wp2
          go_round
          case rel => exact ⟨k + 1, by omega, by go_num, HT⟩
          case measure => simp [intOf]; omega
      · obtain rfl : k = dn := by omega
        have hdall : d.all okN = true := by have := hall.out; rwa [List.take_of_length_le (by omega)] at this
        rw [hdall, Bool.true_and] at HM
        clear hall hdall
        have k1 : wa.cell? ⟨w.heap.size, 1, none⟩ = some (.slice aa an ac) := (hK.out _ (Below.refl _ _)).cell rfl
        obtain ⟨o1, e1⟩ : ∃ o, flk a = o := ⟨_, rfl⟩
        rw [e1] at HM CF
        go_wp2_with fail
        refine (CF.out _ HB0.out).mono ?_
        rintro e w2 ⟨rfl, hb2⟩
        have HB2 := hide (HB0.out.trans (hb2.mono (by omega)))
        have HC2 := hide (hb2.mono (Nat.le_of_eq hsa.symm))
        clear CF hb2 k1 e1
        cases o1 with
        | false =>
          obtain rfl : M = false := by rw [HM.out]; rfl
          clear HM
          go_wp2
          go_ret
          exact ⟨rfl, HB2.out⟩
        | true =>
          rw [Bool.true_and] at HM
          have kk := hK.out _ HC2.out
          have k2 : w2.cell? ⟨w.heap.size, 2, none⟩ = some (.int .i64 lg) := kk.cell rfl
          have k3 : w2.cell? ⟨w.heap.size, 3, none⟩ = some (.int .u64 fl) := kk.cell rfl
          have k4 : w2.cell? ⟨w.heap.size, 4, none⟩ = some (.int .u64 ct) := kk.cell rfl
          have k5 : w2.cell? ⟨w.heap.size, 5, none⟩ = some (.int .u64 at9) := kk.cell rfl
          have k6 : w2.cell? ⟨w.heap.size, 6, none⟩ = some (.int .u64 ls) := kk.cell rfl
          have HB4 := hide (HB2.out.alloc HB2.out.size (Obj.cells #[.int .u64 fl, .int .u64 ct, .int .u64 at9, .int .u64 ls] 24))
          have HU := hide (uz4 (ek_new w2 #[.int .u64 fl, .int .u64 ct, .int .u64 at9, .int .u64 ls] 24))
          obtain ⟨o4, e4⟩ : ∃ o, [fl, ct, at9, ls].all okV = o := ⟨_, rfl⟩
          rw [e4] at HM CV
          clear kk e4
          by_cases hl0 : lg = 0
          · subst hl0
            obtain rfl : M = o4 := by rw [HM.out]; simp
            clear HM
            go_wp2_with fail
            refine (CV.out _ _ HU.out).mono ?_
            rintro e w4 ⟨rfl, rfl⟩
            clear CV HU k2 k3 k4 k5 k6
            go_wp2
            go_ret
            exact ⟨rfl, HB4.out⟩
          · have q0 : (lg == 0) = false := by simpa using hl0
            rw [q0, Bool.false_or] at HM
            obtain ⟨o3, e3⟩ : ∃ o, okN lg = o := ⟨_, rfl⟩
            have NK := hide (numok_any lg w2)
            rw [e3] at HM NK
            clear hl0 e3
            go_wp2_with fail
            refine NK.out.mono ?_
            rintro e w3 ⟨rfl, hw3⟩
            subst hw3
            clear NK
            cases o3 with
            | false =>
              obtain rfl : M = false := by rw [HM.out]; rfl
              clear HM
              go_wp2
              go_ret
              exact ⟨rfl, HB2.out⟩
            | true =>
              obtain rfl : M = o4 := by rw [HM.out]; rfl
              clear HM
              go_wp2_with fail
              refine (CV.out _ _ HU.out).mono ?_
              rintro e w4 ⟨rfl, rfl⟩
              clear CV HU k2 k3 k4 k5 k6
              go_wp2
              go_ret
              exact ⟨rfl, HB4.out⟩
  · rw [show decide (dn ≤ 40) = false from decide_eq_false h40, Bool.false_and] at HM
    obtain rfl : M = false := HM.out
    have g3 : (40 : Int) < (dn : Int) := by omega
    clear HM
    go_enter Try.func29, Try.ntmps29
    go_wp2
    go_ret
    exact ⟨rfl, HB0.out⟩

end Go.Proofs.Ytgopcaemgcnapaa.Clep
