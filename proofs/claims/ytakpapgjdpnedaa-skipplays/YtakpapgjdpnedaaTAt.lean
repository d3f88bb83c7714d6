/- What the statements' own function at does when called: where an item stands, or would, in a row of items. No conditions. -/
import Derived.Test.YtakpapgjdpnedaaTUse
namespace Go.Proofs.Ytakpapgjdpnedaa.Clep
open Go.RowKit
set_option linter.unusedVariables false

/-- How many stand ahead of x. -/
def posL (x : It) : List It → Nat
  | [] => 0
  | y :: r => if y.less x then posL x r + 1 else 0
def isL (x : It) (l : List It) : Bool := match l[posL x l]? with | some y => y.same x | none => false
theorem posL_le (x : It) : ∀ l : List It, posL x l ≤ l.length
  | [] => by simp [posL]
  | y :: r => by
    unfold posL
    have := posL_le x r
    split
    · simp; omega
    · simp

set_option maxHeartbeats 1600000 in
theorem at_any (ao : Option Addr) (n cap : Nat) (l : List It) (S K T V X : Int) (w : World) (h : Is w ao n cap l) (hm : n ≤ 1099511627776) :
    Calls Try.prog 10 #[.slice ao n cap, .agg #[.int .i64 S, .int .i64 K, .int .u64 T, .int .u64 V, .int .i64 X]] w fun e w' =>
      e = .returned (.tuple #[.int .i64 (posL ⟨S, K, T, V, X⟩ l), .bool (isL ⟨S, K, T, V, X⟩ l)]) ∧ Below w.heap.size w w' := by
  obtain ⟨w0, hw0⟩ : ∃ w0, w0 = w.alloc (Obj.cells #[Value.int IntKind.i64 S, Value.int IntKind.i64 K, Value.int IntKind.u64 T, Value.int IntKind.u64 V, Value.int IntKind.i64 X] 29) := ⟨_, rfl⟩
  have B0 : Below w.heap.size w w0 := by rw [hw0]; exact (Below.refl _ _).alloc (Nat.le_refl _) _
  have hx := vi_new w S K T V X
  rw [← hw0] at hx
  have HX := hide hx
  have HB0 := hide B0
  have hl := h.1
  have HL := hide hl
  have H0 := hide (fun W (hW : Below w0.heap.size w0 W) => h.below (bmore B0 hW) (Nat.le_refl _))
  obtain ⟨R, hR⟩ : ∃ R, R = w.heap.size := ⟨_, rfl⟩
  have HR := hide hR
  rw [← hR] at HX
  clear h B0 hx hl
  go_enter Try.func10, Try.ntmps10
  go_wp2_with fail
  rw [← hw0, ← hR]
  clear hw0 hR
  go_loopw [6] (fun s6 wr => ∃ k : Nat, s6 = .int .i64 k ∧ k ≤ n ∧ Hid (posL ⟨S, K, T, V, X⟩ l = k + posL ⟨S, K, T, V, X⟩ (l.drop k)) ∧ Hid (Below w0.heap.size w0 wr)) (fun s6 _ => n - (intOf s6).toNat)
  case atStart => exact ⟨0, rfl, by omega, hide (by simp), hide (Below.refl _ _)⟩
  case round =>
    obtain ⟨k, rfl, hk, hpos, hbel⟩ := hrel
    have HV := hide (HX.out.keep hbel.out)
    have hne : Nonempty (Kp wr) := ⟨⟨_, Below.refl _ _⟩⟩
    have d0 : ∀ p : Kp wr, p.W.cell? ⟨R, 0, none⟩ = some (.int .i64 S) := fun p => (Vi.keep HV.out p.h).1
    have d1 : ∀ p : Kp wr, p.W.cell? ⟨R, 1, none⟩ = some (.int .i64 K) := fun p => (Vi.keep HV.out p.h).2.1
    have d2 : ∀ p : Kp wr, p.W.cell? ⟨R, 2, none⟩ = some (.int .u64 T) := fun p => (Vi.keep HV.out p.h).2.2.1
    have d3 : ∀ p : Kp wr, p.W.cell? ⟨R, 3, none⟩ = some (.int .u64 V) := fun p => (Vi.keep HV.out p.h).2.2.2.1
    have d4 : ∀ p : Kp wr, p.W.cell? ⟨R, 4, none⟩ = some (.int .i64 X) := fun p => (Vi.keep HV.out p.h).2.2.2.2
    by_cases hlt : k < n
    · have hI := H0.out _ hbel.out
      obtain ⟨b0, off, ea, hcc⟩ := hI.2.2.2 (by omega)
      subst ea
      obtain ⟨y, hy⟩ : ∃ y, l[k]? = some y := ⟨_, List.getElem?_eq_getElem (by rw [HL.out]; exact hlt)⟩
      have HU := hide (hcc k y hy)
      have hdr : l.drop k = y :: l.drop (k + 1) := by
        rw [List.drop_eq_getElem_cons (by rw [HL.out]; exact hlt)]
        congr 1
        rw [List.getElem?_eq_getElem (by rw [HL.out]; exact hlt)] at hy
        injection hy
      have hp2 := hpos.out
      rw [hdr] at hp2
      obtain ⟨S0, K0, T0, V0, X0⟩ := y
      have HP2 : Hid (posL ⟨S, K, T, V, X⟩ l = k + if lessI S0 K0 T0 S K T = true then posL ⟨S, K, T, V, X⟩ (l.drop (k + 1)) + 1 else 0) := hide hp2
      unfold Vt at HU
      simp only at HU
      have HY := hide hy
      have f0 : ∀ p : Kp wr, p.W.cell? ⟨b0, off + k * 5, none⟩ = some (.int .i64 S0) := fun p => (HU.out.keep p.h).1
      have f1 : ∀ p : Kp wr, p.W.cell? ⟨b0, off + k * 5 + 1, none⟩ = some (.int .i64 K0) := fun p => (HU.out.keep p.h).2.1
      have f2 : ∀ p : Kp wr, p.W.cell? ⟨b0, off + k * 5 + 2, none⟩ = some (.int .u64 T0) := fun p => (HU.out.keep p.h).2.2.1
      have f3 : ∀ p : Kp wr, p.W.cell? ⟨b0, off + k * 5 + 3, none⟩ = some (.int .u64 V0) := fun p => (HU.out.keep p.h).2.2.2.1
      have f4 : ∀ p : Kp wr, p.W.cell? ⟨b0, off + k * 5 + 4, none⟩ = some (.int .i64 X0) := fun p => (HU.out.keep p.h).2.2.2.2
      have cl : Hid (∀ p : Kp wr, Calls Try.prog 18 #[.agg #[.int .i64 S0, .int .i64 K0, .int .u64 T0, .int .u64 V0, .int .i64 X0], .agg #[.int .i64 S, .int .i64 K, .int .u64 T, .int .u64 V, .int .i64 X]] p.W fun e w'' => e = .returned (.bool (lessI S0 K0 T0 S K T)) ∧ ∃ q : Kp wr, w'' = q.W) := hide fun p => kp_call (refless_any S0 K0 T0 V0 X0 S K T V X _)
      have hs3 : (k : Int) < (n : Int) := by omega
      clear hI hcc hy hdr hp2
      generalize lessI S0 K0 T0 S K T = o at *
      go_wp2_with fail
      refine wp_region_kept (by kernel_rfl) (by kernel_rfl) ?_
      repeat (first
        | go_big_quiet_step (first | (go_at_call 18; exact cl.out _))
        | fail)
      refine wpQuiet_nil ?_
      intro w4 hw'
      have HB4 : Hid (Below wr.heap.size wr w4) := by
        obtain ⟨⟨w3', hb3⟩, hw''⟩ := hw'
        rw [hw'']; exact hide hb3
      clear hw' hne cl d0 d1 d2 d3 d4 f0 f1 f2 f3 f4
      cases o with
      | true =>
        have B4 := hide (bmore hbel.out HB4.out)
        have HN := hide (show posL ⟨S, K, T, V, X⟩ l = k + 1 + posL ⟨S, K, T, V, X⟩ (l.drop (k + 1)) by rw [HP2.out, if_pos rfl]; omega)
        go_wp2_with fail
        go_roundw
        case rel => first | exact ⟨k + 1, by go_num, by omega, HN, B4⟩ | ((repeat apply Exists.intro); exact ⟨⟨k + 1, by go_num, by omega, HN, B4⟩, rfl⟩)
        case measure => simp [intOf]; omega
      | false =>
        have hpk : posL ⟨S, K, T, V, X⟩ l = k := by rw [HP2.out]; simp
        have his : isL ⟨S, K, T, V, X⟩ l = sameI S0 K0 T0 S K T := by
          unfold isL
          rw [hpk, HY.out]; rfl
        have HPK := hide hpk
        have HIS := hide his
        have HV4 := hide (HV.out.keep HB4.out)
        have HU4 := hide (HU.out.keep HB4.out)
        have d0 : ∀ p : Kp w4, p.W.cell? ⟨R, 0, none⟩ = some (.int .i64 S) := fun p => (Vi.keep HV4.out p.h).1
        have d1 : ∀ p : Kp w4, p.W.cell? ⟨R, 1, none⟩ = some (.int .i64 K) := fun p => (Vi.keep HV4.out p.h).2.1
        have d2 : ∀ p : Kp w4, p.W.cell? ⟨R, 2, none⟩ = some (.int .u64 T) := fun p => (Vi.keep HV4.out p.h).2.2.1
        have d3 : ∀ p : Kp w4, p.W.cell? ⟨R, 3, none⟩ = some (.int .u64 V) := fun p => (Vi.keep HV4.out p.h).2.2.2.1
        have d4 : ∀ p : Kp w4, p.W.cell? ⟨R, 4, none⟩ = some (.int .i64 X) := fun p => (Vi.keep HV4.out p.h).2.2.2.2
        have f0 : ∀ p : Kp w4, p.W.cell? ⟨b0, off + k * 5, none⟩ = some (.int .i64 S0) := fun p => (HU4.out.keep p.h).1
        have f1 : ∀ p : Kp w4, p.W.cell? ⟨b0, off + k * 5 + 1, none⟩ = some (.int .i64 K0) := fun p => (HU4.out.keep p.h).2.1
        have f2 : ∀ p : Kp w4, p.W.cell? ⟨b0, off + k * 5 + 2, none⟩ = some (.int .u64 T0) := fun p => (HU4.out.keep p.h).2.2.1
        have f3 : ∀ p : Kp w4, p.W.cell? ⟨b0, off + k * 5 + 3, none⟩ = some (.int .u64 V0) := fun p => (HU4.out.keep p.h).2.2.2.1
        have f4 : ∀ p : Kp w4, p.W.cell? ⟨b0, off + k * 5 + 4, none⟩ = some (.int .i64 X0) := fun p => (HU4.out.keep p.h).2.2.2.2
        have cl : Hid (∀ p : Kp w4, Calls Try.prog 25 #[.agg #[.int .i64 S0, .int .i64 K0, .int .u64 T0, .int .u64 V0, .int .i64 X0], .agg #[.int .i64 S, .int .i64 K, .int .u64 T, .int .u64 V, .int .i64 X]] p.W fun e w'' => e = .returned (.bool (sameI S0 K0 T0 S K T)) ∧ ∃ q : Kp w4, w'' = q.W) := hide fun p => kp_call (refsame_any S0 K0 T0 V0 X0 S K T V X _)
        have hne : Nonempty (Kp w4) := ⟨⟨_, Below.refl _ _⟩⟩
        clear hpk his
        generalize sameI S0 K0 T0 S K T = o at *
        go_wp2_with fail
        refine wp_region_kept (by kernel_rfl) (by kernel_rfl) ?_
        repeat (first
          | go_big_quiet_step (first | (go_at_call 25; exact cl.out _))
          | fail)
        refine wpQuiet_nil ?_
        intro w5 hw'
        have HB5 : Hid (Below w.heap.size w w5) := by
          obtain ⟨⟨w3', hb3⟩, hw''⟩ := hw'
          rw [hw'']; exact hide (bmore (bmore (bmore HB0.out hbel.out) HB4.out) hb3)
        clear hw' hne cl d0 d1 d2 d3 d4 f0 f1 f2 f3 f4
        go_wp2
        go_ret2
        exact ⟨by rw [HPK.out, HIS.out]; rfl, HB5.out⟩
    · obtain rfl : k = n := by omega
      have hpk : posL ⟨S, K, T, V, X⟩ l = k := by
        rw [hpos.out, List.drop_eq_nil_of_le (by rw [HL.out]; exact Nat.le_refl _)]; rfl
      have his : isL ⟨S, K, T, V, X⟩ l = false := by
        unfold isL
        rw [hpk, List.getElem?_eq_none (by rw [HL.out]; exact Nat.le_refl _)]
      have HPK := hide hpk
      have HIS := hide his
      clear hpk his d0 d1 d2 d3 d4
      have hs3 : ¬ ((k : Int) < (k : Int)) := by omega
      go_wp2_with fail
      refine wp_region_kept (by kernel_rfl) (by kernel_rfl) ?_
      repeat (first
        | go_big_quiet_step (fail)
        | fail)
      refine wpQuiet_nil ?_
      intro w4 hw'
      have HB4 : Hid (Below wr.heap.size wr w4) := by
        obtain ⟨⟨w3', hb3⟩, hw''⟩ := hw'
        rw [hw'']; exact hide hb3
      clear hw' hne
      have hne : Nonempty (Kp w4) := ⟨⟨_, Below.refl _ _⟩⟩
      go_wp2_with fail
      refine wp_region_kept (by kernel_rfl) (by kernel_rfl) ?_
      repeat (first
        | go_big_quiet_step (fail)
        | fail)
      refine wpQuiet_nil ?_
      intro w5 hw'
      have HB5 : Hid (Below w.heap.size w w5) := by
        obtain ⟨⟨w3', hb3⟩, hw''⟩ := hw'
        rw [hw'']; exact hide (bmore (bmore (bmore HB0.out hbel.out) HB4.out) hb3)
      clear hw' hne
      go_wp2
      go_ret2
      exact ⟨by rw [HPK.out, HIS.out]; rfl, HB5.out⟩

end Go.Proofs.Ytakpapgjdpnedaa.Clep
