/- What the document's own Rises, and block.rises, fits and the document's own BlockMay do when called: for any items. Conditions: at most 2^39 items. -/
import Derived.Test.YtodhljiboakjnaaGreatZc
namespace Go.Proofs.YtodhljiboakjnaaGreat.Clep
open Go.RowKit
set_option linter.unusedVariables false

theorem rise_last : ∀ {l : List It} {y z : It}, Rise l → l.getLast? = some z → y ∈ l → y = z ∨ y.less z = true := by
  intro l y z hr hz hy
  obtain ⟨r, rfl⟩ : ∃ r, l = r ++ [z] := by
    have hne : l ≠ [] := by intro e; subst e; simp at hz
    refine ⟨l.dropLast, ?_⟩
    have := List.dropLast_concat_getLast hne
    rw [List.getLast?_eq_some_getLast hne] at hz
    simp only [Option.some.injEq] at hz
    rw [hz] at this; exact this.symm
  rcases List.mem_append.1 hy with h | h
  · exact .inr ((List.pairwise_append.1 hr).2.2 y h z (by simp))
  · exact .inl (by simpa using h)
/-- Do items that may be rise? -/
def risB (l : List It) : Bool := decide (Rise l) && l.all It.ok
theorem risB_iff {l : List It} : risB l = true ↔ Rise l ∧ ∀ x ∈ l, x.ok = true := by
  unfold risB; simp only [Bool.and_eq_true, decide_eq_true_eq, List.all_eq_true]
theorem risB_false {l : List It} (h : ¬ (Rise l ∧ ∀ x ∈ l, x.ok = true)) : risB l = false := by
  cases e : risB l with
  | false => rfl
  | true => exact absurd (risB_iff.1 e) h
/-- The first k rise and may be. -/
def Rp (l : List It) (k : Nat) : Prop := Rise (l.take k) ∧ ∀ x ∈ l.take k, x.ok = true
theorem rp_step {l : List It} {k : Nat} {x : It} (h : Rp l k) (hx : l[k]? = some x) (ho : x.ok = true) (hp : ∀ y, (l.take k).getLast? = some y → y.less x = true) : Rp l (k + 1) := by
  have e : l.take (k + 1) = l.take k ++ [x] := by rw [List.take_add_one, hx]; rfl
  rw [Rp, e]
  refine ⟨List.pairwise_append.2 ⟨h.1, by simp, fun a ha b hb => ?_⟩, fun y hy => ?_⟩
  · rw [List.mem_singleton.1 hb]
    cases hq : (l.take k).getLast? with
    | none => rw [List.getLast?_eq_none_iff] at hq; rw [hq] at ha; simp at ha
    | some z =>
      have hz := hp z hq
      rcases rise_last h.1 hq ha with e | hl
      · rw [e]; exact hz
      · exact less_trans hl hz
  · rcases List.mem_append.1 hy with h1 | h1
    · exact h.2 y h1
    · rw [List.mem_singleton.1 h1]; exact ho
theorem ris_not_ok {l : List It} {k : Nat} {x : It} (hx : l[k]? = some x) (ho : x.ok = false) : risB l = false := risB_false fun h => by
  rw [h.2 x (List.mem_of_getElem? hx)] at ho; cases ho
theorem ris_not_less {l : List It} {k : Nat} {y x : It} (hy : l[k]? = some y) (hx : l[k + 1]? = some x) (hh : y.less x = false) : risB l = false := risB_false fun hs => by
  have h1 := List.getElem?_eq_some_iff.1 hy
  have h2 := List.getElem?_eq_some_iff.1 hx
  have := List.pairwise_iff_getElem.1 hs.1 k (k + 1) h1.1 h2.1 (by omega)
  rw [h1.2, h2.2, hh] at this; cases this

set_option maxRecDepth 4000 in
set_option maxHeartbeats 4000000 in
theorem rises_any (a : Option Addr) (n c : Nat) (l : List It) (w : World) (h : Is w a n c l) (hn : n ≤ 549755813888) : Calls Tryz.prog 31 #[.slice a n c] w fun e w' => e = .returned (.bool (risB l)) ∧ Below w.heap.size w w' := by
  have hl := h.1
  have H0 := hide (fun W (hW : Below w.heap.size w W) => h.below hW (Nat.le_refl _))
  clear h
  go_enter Tryz.func31, Tryz.ntmps31
  go_wp2_with fail
  go_loopw [3] (fun i wr => ∃ k : Nat, k ≤ n ∧ i = .int .i64 k ∧ Hid (Rp l k) ∧ Hid (Below w.heap.size w wr)) (fun i _ => n - (intOf i).toNat)
  case atStart => exact ⟨0, by omega, rfl, hide ⟨by simp, by simp⟩, hide (Below.refl _ _)⟩
  case round =>
    obtain ⟨k, hk, rfl, hrp, hbel⟩ := hrel
    by_cases hlt : k < n
    · obtain ⟨b0, off, ea, hc⟩ := (H0.out _ hbel.out).2.2.2 (by omega)
      subst ea
      obtain ⟨x, hx⟩ : ∃ x, l[k]? = some x := ⟨_, List.getElem?_eq_getElem (by rw [hl]; exact hlt)⟩
      have hv := hide (hc k x hx)
      have HX := hide hx
      have hnok := hide (fun h : x.ok = false => ris_not_ok hx h)
      obtain ⟨S, K, T, V, X⟩ := x
      unfold Vt at hv
      simp only at hv
      have d0 : ∀ p : Kp wr, p.W.cell? ⟨b0, off + k * 5, none⟩ = some (.int .i64 S) := fun p => (hv.out.keep p.h).1
      have d1 : ∀ p : Kp wr, p.W.cell? ⟨b0, off + k * 5 + 1, none⟩ = some (.int .i64 K) := fun p => (hv.out.keep p.h).2.1
      have d2 : ∀ p : Kp wr, p.W.cell? ⟨b0, off + k * 5 + 2, none⟩ = some (.int .u64 T) := fun p => (hv.out.keep p.h).2.2.1
      have d3 : ∀ p : Kp wr, p.W.cell? ⟨b0, off + k * 5 + 3, none⟩ = some (.int .u64 V) := fun p => (hv.out.keep p.h).2.2.2.1
      have d4 : ∀ p : Kp wr, p.W.cell? ⟨b0, off + k * 5 + 4, none⟩ = some (.int .i64 X) := fun p => (hv.out.keep p.h).2.2.2.2
      obtain ⟨o, ho⟩ : ∃ o, okI S K T V X = o := ⟨_, rfl⟩
      have cO : Hid (∀ p : Kp wr, Calls Tryz.prog 26 #[.agg #[.int .i64 S, .int .i64 K, .int .u64 T, .int .u64 V, .int .i64 X]] p.W fun e w'' => e = .returned (.bool o) ∧ ∃ q : Kp wr, w'' = q.W) := hide fun p => kp_call (by rw [← ho]; exact refok_any S K T V X _)
      have HO := hide ho
      have hne : Nonempty (Kp wr) := ⟨⟨_, Below.refl _ _⟩⟩
      clear hx ho
      cases o with
      | false =>
        have hr := hide (hnok.out (by unfold It.ok; exact HO.out))
        clear hc
        go_wp2_with fail
        refine wp_region_kept (by kernel_rfl) (by kernel_rfl) ?_
        repeat (first
          | go_big_quiet_step (first | (go_at_call 26; exact cO.out _))
          | fail)
        refine wpQuiet_nil ?_
        intro w3 hw'
        have HB3 : Hid (Below w.heap.size w w3) := by
          obtain ⟨⟨w3', hb3⟩, hw''⟩ := hw'
          rw [hw'']; exact bmore hbel.out hb3
        clear hw' hne cO d0 d1 d2 d3 d4
        go_wp2
        go_ret
        exact ⟨by rw [hr.out]; rfl, HB3.out⟩
      | true =>
        cases k with
        | zero =>
          have hr := hide (rp_step hrp.out HX.out (by unfold It.ok; exact HO.out) (by simp))
          simp only [Nat.zero_mul, Nat.add_zero] at d0 d1 d2 d3 d4
          clear hc
          go_wp2_with fail
          refine wp_region_kept (by kernel_rfl) (by kernel_rfl) ?_
          repeat (first
            | go_big_quiet_step (first | (go_at_call 26; exact cO.out _))
            | fail)
          refine wpQuiet_nil ?_
          intro w3 hw'
          have HB3 : Hid (Below w.heap.size w w3) := by
            obtain ⟨⟨w3', hb3⟩, hw''⟩ := hw'
            rw [hw'']; exact bmore hbel.out hb3
          clear hw' hne cO d0 d1 d2 d3 d4
          go_wp2
          go_roundw
          case rel => exact ⟨1, by omega, by go_num, hr, HB3⟩
          case measure => simp [intOf]; omega
        | succ k =>
          obtain ⟨y, hy⟩ : ∃ y, l[k]? = some y := ⟨_, List.getElem?_eq_getElem (by rw [hl]; omega)⟩
          have hlast : Hid ((l.take (k + 1)).getLast? = some y) := hide (by rw [List.take_add_one, hy]; simp)
          have hnl := hide (fun h : y.less ⟨S, K, T, V, X⟩ = false => ris_not_less hy HX.out h)
          have hv9 := hide (hc k y hy)
          obtain ⟨S0, K0, T0, V0', X0⟩ := y
          unfold Vt at hv9
          simp only at hv9
          have f0 : ∀ p : Kp wr, p.W.cell? ⟨b0, off + k * 5, none⟩ = some (.int .i64 S0) := fun p => (hv9.out.keep p.h).1
          have f1 : ∀ p : Kp wr, p.W.cell? ⟨b0, off + k * 5 + 1, none⟩ = some (.int .i64 K0) := fun p => (hv9.out.keep p.h).2.1
          have f2 : ∀ p : Kp wr, p.W.cell? ⟨b0, off + k * 5 + 2, none⟩ = some (.int .u64 T0) := fun p => (hv9.out.keep p.h).2.2.1
          have f3 : ∀ p : Kp wr, p.W.cell? ⟨b0, off + k * 5 + 3, none⟩ = some (.int .u64 V0') := fun p => (hv9.out.keep p.h).2.2.2.1
          have f4 : ∀ p : Kp wr, p.W.cell? ⟨b0, off + k * 5 + 4, none⟩ = some (.int .i64 X0) := fun p => (hv9.out.keep p.h).2.2.2.2
          obtain ⟨o3, ho3⟩ : ∃ o, lessI S0 K0 T0 S K T = o := ⟨_, rfl⟩
          have c0 : Hid (∀ p : Kp wr, Calls Tryz.prog 20 #[.agg #[.int .i64 S0, .int .i64 K0, .int .u64 T0, .int .u64 V0', .int .i64 X0], .agg #[.int .i64 S, .int .i64 K, .int .u64 T, .int .u64 V, .int .i64 X]] p.W fun e w'' => e = .returned (.bool o3) ∧ ∃ q : Kp wr, w'' = q.W) := hide fun p => kp_call (by rw [← ho3]; exact refless_any S0 K0 T0 V0' X0 S K T V X _)
          have HO3 := hide ho3
          have hs1 : ((k + 1 : Nat) : Int) - 1 = (k : Int) := by omega
          have hs2 : IntKind.i64.wrap (k : Int) = (k : Int) := by simp [IntKind.wrap, IntKind.bits, IntKind.signed]; omega
          have hs3 : (0 : Int) < ((k + 1 : Nat) : Int) := by omega
          have hs4 : (k : Int) < (n : Int) := by omega
          clear hc hy ho3
          cases o3 with
          | false =>
            have hr := hide (hnl.out (by unfold It.less; exact HO3.out))
            go_wp2_with fail
            refine wp_region_kept (by kernel_rfl) (by kernel_rfl) ?_
            repeat (first
              | go_big_quiet_step (first | (go_at_call 26; exact cO.out _) | (go_at_call 20; exact c0.out _))
              | fail)
            refine wpQuiet_nil ?_
            intro w3 hw'
            have HB3 : Hid (Below w.heap.size w w3) := by
              obtain ⟨⟨w3', hb3⟩, hw''⟩ := hw'
              rw [hw'']; exact bmore hbel.out hb3
            clear hw' hne cO c0 d0 d1 d2 d3 d4 f0 f1 f2 f3 f4
            go_wp2
            go_ret
            exact ⟨by rw [hr.out]; rfl, HB3.out⟩
          | true =>
            have hr := hide (rp_step hrp.out HX.out (by unfold It.ok; exact HO.out) (fun y hy => by rw [hlast.out] at hy; cases hy; unfold It.less; exact HO3.out))
            go_wp2_with fail
            refine wp_region_kept (by kernel_rfl) (by kernel_rfl) ?_
            repeat (first
              | go_big_quiet_step (first | (go_at_call 26; exact cO.out _) | (go_at_call 20; exact c0.out _))
              | fail)
            refine wpQuiet_nil ?_
            intro w3 hw'
            have HB3 : Hid (Below w.heap.size w w3) := by
              obtain ⟨⟨w3', hb3⟩, hw''⟩ := hw'
              rw [hw'']; exact bmore hbel.out hb3
            clear hw' hne cO c0 d0 d1 d2 d3 d4 f0 f1 f2 f3 f4
            go_wp2
            go_roundw
            case rel => exact ⟨k + 1 + 1, by omega, by go_num, hr, HB3⟩
            case measure => simp [intOf]; omega
    · obtain rfl : k = n := by omega
      have hr := hide (show risB l = true from risB_iff.2 (by have := hrp.out; rw [Rp, show l.take k = l from by rw [← hl]; exact List.take_length] at this; exact this))
      go_wp2
      go_ret
      exact ⟨by rw [hr.out]; rfl, hbel.out⟩

theorem rise_step {l : List It} {k : Nat} {y x : It} (h : Rise (l.take (k + 1))) (hy : l[k]? = some y) (hx : l[k + 1]? = some x) (hh : y.less x = true) : Rise (l.take (k + 1 + 1)) := by
  have e : l.take (k + 1 + 1) = l.take (k + 1) ++ [x] := by rw [List.take_add_one, hx]; rfl
  have hlast : (l.take (k + 1)).getLast? = some y := by rw [List.take_add_one, hy]; simp
  rw [e]
  refine List.pairwise_append.2 ⟨h, by simp, fun a ha b hb => ?_⟩
  rw [List.mem_singleton.1 hb]
  rcases rise_last h hlast ha with e | hl
  · rw [e]; exact hh
  · exact less_trans hl hh
theorem rise_not {l : List It} {k : Nat} {y x : It} (hy : l[k]? = some y) (hx : l[k + 1]? = some x) (hh : y.less x = false) : decide (Rise l) = false := by
  refine decide_eq_false fun hs => ?_
  have h1 := List.getElem?_eq_some_iff.1 hy
  have h2 := List.getElem?_eq_some_iff.1 hx
  have := List.pairwise_iff_getElem.1 hs k (k + 1) h1.1 h2.1 (by omega)
  rw [h1.2, h2.2, hh] at this; cases this

set_option maxRecDepth 100000 in
set_option maxHeartbeats 4000000 in
theorem brises_any (a : Option Addr) (n c : Nat) (l : List It) (w : World) (h : Is w a n c l) (hn : n ≤ 549755813888) : Calls Tryz.prog 99 #[.slice a n c] w fun e w' => e = .returned (.bool (decide (Rise l))) ∧ Below w.heap.size w w' := by
  have hl := h.1
  have H0 := hide (fun W (hW : Below w.heap.size w W) => h.below hW (Nat.le_refl _))
  clear h
  go_enter Tryz.func99, Tryz.ntmps99
  go_wp2_with fail
  go_loopw [3] (fun i wr => ∃ k : Nat, (k + 1 ≤ n ∨ k = 0) ∧ i = .int .i64 (k + 1 : Nat) ∧ Hid (Rise (l.take (k + 1))) ∧ Hid (Below w.heap.size w wr)) (fun i _ => n - (intOf i).toNat)
  case atStart => exact ⟨0, .inr rfl, rfl, hide (by
    cases l with
    | nil => exact List.Pairwise.nil
    | cons x r => show List.Pairwise _ (x :: r.take 0); simp), hide (Below.refl _ _)⟩
  case round =>
    obtain ⟨k, hk, rfl, hrp, hbel⟩ := hrel
    by_cases hlt : k + 1 < n
    · obtain ⟨b0, off, ea, hc⟩ := (H0.out _ hbel.out).2.2.2 (by omega)
      subst ea
      obtain ⟨x, hx⟩ : ∃ x, l[k + 1]? = some x := ⟨_, List.getElem?_eq_getElem (by rw [hl]; exact hlt)⟩
      obtain ⟨y, hy⟩ : ∃ y, l[k]? = some y := ⟨_, List.getElem?_eq_getElem (by rw [hl]; omega)⟩
      have hv := hide (hc (k + 1) x hx)
      have hv9 := hide (hc k y hy)
      have hnl := hide (fun h : y.less x = false => rise_not hy hx h)
      have hyl := hide (fun h : y.less x = true => rise_step hrp.out hy hx h)
      obtain ⟨S, K, T, V, X⟩ := x
      obtain ⟨S0, K0, T0, V0', X0⟩ := y
      unfold Vt at hv hv9
      simp only at hv hv9
      have d0 : ∀ p : Kp wr, p.W.cell? ⟨b0, off + (k + 1) * 5, none⟩ = some (.int .i64 S) := fun p => (hv.out.keep p.h).1
      have d1 : ∀ p : Kp wr, p.W.cell? ⟨b0, off + (k + 1) * 5 + 1, none⟩ = some (.int .i64 K) := fun p => (hv.out.keep p.h).2.1
      have d2 : ∀ p : Kp wr, p.W.cell? ⟨b0, off + (k + 1) * 5 + 2, none⟩ = some (.int .u64 T) := fun p => (hv.out.keep p.h).2.2.1
      have d3 : ∀ p : Kp wr, p.W.cell? ⟨b0, off + (k + 1) * 5 + 3, none⟩ = some (.int .u64 V) := fun p => (hv.out.keep p.h).2.2.2.1
      have d4 : ∀ p : Kp wr, p.W.cell? ⟨b0, off + (k + 1) * 5 + 4, none⟩ = some (.int .i64 X) := fun p => (hv.out.keep p.h).2.2.2.2
      have f0 : ∀ p : Kp wr, p.W.cell? ⟨b0, off + k * 5, none⟩ = some (.int .i64 S0) := fun p => (hv9.out.keep p.h).1
      have f1 : ∀ p : Kp wr, p.W.cell? ⟨b0, off + k * 5 + 1, none⟩ = some (.int .i64 K0) := fun p => (hv9.out.keep p.h).2.1
      have f2 : ∀ p : Kp wr, p.W.cell? ⟨b0, off + k * 5 + 2, none⟩ = some (.int .u64 T0) := fun p => (hv9.out.keep p.h).2.2.1
      have f3 : ∀ p : Kp wr, p.W.cell? ⟨b0, off + k * 5 + 3, none⟩ = some (.int .u64 V0') := fun p => (hv9.out.keep p.h).2.2.2.1
      have f4 : ∀ p : Kp wr, p.W.cell? ⟨b0, off + k * 5 + 4, none⟩ = some (.int .i64 X0) := fun p => (hv9.out.keep p.h).2.2.2.2
      obtain ⟨o3, ho3⟩ : ∃ o, lessI S0 K0 T0 S K T = o := ⟨_, rfl⟩
      have c0 : Hid (∀ p : Kp wr, Calls Tryz.prog 49 #[.agg #[.int .i64 S0, .int .i64 K0, .int .u64 T0, .int .u64 V0', .int .i64 X0], .agg #[.int .i64 S, .int .i64 K, .int .u64 T, .int .u64 V, .int .i64 X]] p.W fun e w'' => e = .returned (.bool o3) ∧ ∃ q : Kp wr, w'' = q.W) := hide fun p => kp_call (by rw [← ho3]; exact less_any S0 K0 T0 V0' X0 S K T V X _)
      have HO3 := hide ho3
      have hs1 : ((k + 1 : Nat) : Int) - 1 = (k : Int) := by omega
      have hs2 : IntKind.i64.wrap (k : Int) = (k : Int) := by simp [IntKind.wrap, IntKind.bits, IntKind.signed]; omega
      have hs4 : (k : Int) < (n : Int) := by omega
      have hne : Nonempty (Kp wr) := ⟨⟨_, Below.refl _ _⟩⟩
      clear hc hx hy ho3
      cases o3 with
      | false =>
        have hr := hide (hnl.out (by unfold It.less; exact HO3.out))
        go_wp2_with fail
        refine wp_region_kept (by kernel_rfl) (by kernel_rfl) ?_
        repeat (first
          | go_big_quiet_step (first | (go_at_call 49; exact c0.out _))
          | fail)
        refine wpQuiet_nil ?_
        intro w3 hw'
        have HB3 : Hid (Below w.heap.size w w3) := by
          obtain ⟨⟨w3', hb3⟩, hw''⟩ := hw'
          rw [hw'']; exact bmore hbel.out hb3
        clear hw' hne c0 d0 d1 d2 d3 d4 f0 f1 f2 f3 f4
        go_wp2
        go_ret
        exact ⟨by rw [hr.out]; rfl, HB3.out⟩
      | true =>
        have hr := hide (hyl.out (by unfold It.less; exact HO3.out))
        go_wp2_with fail
        refine wp_region_kept (by kernel_rfl) (by kernel_rfl) ?_
        repeat (first
          | go_big_quiet_step (first | (go_at_call 49; exact c0.out _))
          | fail)
        refine wpQuiet_nil ?_
        intro w3 hw'
        have HB3 : Hid (Below w.heap.size w w3) := by
          obtain ⟨⟨w3', hb3⟩, hw''⟩ := hw'
          rw [hw'']; exact bmore hbel.out hb3
        clear hw' hne c0 d0 d1 d2 d3 d4 f0 f1 f2 f3 f4
        go_wp2
        go_roundw
        case rel => exact ⟨k + 1, .inl (by omega), by go_num, hr, HB3⟩
        case measure => simp [intOf]; omega
    · have hr := hide (show decide (Rise l) = true from decide_eq_true (by have := hrp.out; rwa [List.take_of_length_le (by omega)] at this))
      go_wp2
      go_ret
      exact ⟨by rw [hr.out]; rfl, hbel.out⟩

/-- As many as a block may have, and they rise. -/
def fit (l : List It) : Bool := decide (0 < l.length ∧ l.length ≤ 100 ∧ Rise l)
theorem fit_iff {l : List It} : fit l = true ↔ 0 < l.length ∧ l.length ≤ 100 ∧ Rise l := by unfold fit; simp
theorem fits_any (a : Option Addr) (n c : Nat) (l : List It) (w : World) (h : Is w a n c l) (hn : n ≤ 9223372036854775807) : Calls Tryz.prog 82 #[.slice a n c] w fun e w' => e = .returned (.bool (fit l)) ∧ Below w.heap.size w w' := by
  have hl := h.1
  have HR := hide (fun hk : n ≤ 549755813888 => brises_any a n c l w h hk)
  clear h
  by_cases h0 : 0 < n
  · by_cases h1 : n ≤ 100
    · have hr := hide (HR.out (by omega))
      have hf := hide (show decide (Rise l) = fit l by
        unfold fit
        rw [Bool.eq_iff_iff]; simp only [decide_eq_true_eq]
        exact ⟨fun h => ⟨by omega, by omega, h⟩, fun h => h.2.2⟩)
      clear HR
      go_enter Tryz.func82, Tryz.ntmps82
      go_wp2_with (first | (go_at_call 99; refine hr.out.mono ?_; rintro e w1 ⟨rfl, hw1⟩))
      go_ret
      exact ⟨by rw [hf.out]; rfl, hw1⟩
    · have hf := hide (show fit l = false by unfold fit; refine decide_eq_false fun h => ?_; omega)
      clear HR
      go_enter Tryz.func82, Tryz.ntmps82
      go_wp2
      go_ret
      exact ⟨by rw [hf.out]; rfl, Below.refl _ _⟩
  · obtain rfl : n = 0 := by omega
    have hf := hide (show fit l = false by unfold fit; refine decide_eq_false fun h => ?_; omega)
    clear HR
    go_enter Tryz.func82, Tryz.ntmps82
    go_wp2
    go_ret
    exact ⟨by rw [hf.out]; rfl, Below.refl _ _⟩

/-- The error of Put. -/
def bme (l : List It) : Int := if 100 < l.length then 2 else if 0 < l.length ∧ risB l = true then 0 else 1
end Go.Proofs.YtodhljiboakjnaaGreat.Clep

/- What table.check, and the document's own TableMay, do when called. Conditions: at most 2^39 items. -/
namespace Go.Proofs.YtodhljiboakjnaaGreat.Clep
open Go.RowKit
set_option linter.unusedVariables false
set_option maxRecDepth 10000

def tme (l : List It) : Int := if 2000 < l.length then 2 else if risB l = true then 0 else 1
theorem tme_long {l : List It} (h : 2000 < l.length) : tme l = 2 := by unfold tme; rw [if_pos h]
theorem tme_ris {l : List It} (h : l.length ≤ 2000) (hr : risB l = true) : tme l = 0 := by unfold tme; rw [if_neg (by omega), if_pos hr]
theorem tme_not {l : List It} (h : l.length ≤ 2000) (hr : risB l = false) : tme l = 1 := by unfold tme; rw [if_neg (by omega), hr]; rfl
theorem tablemay_any (a : Option Addr) (n c : Nat) (l : List It) (w : World) (h : Is w a n c l) (hn : n ≤ 9223372036854775807) : Calls Tryz.prog 12 #[.slice a n c] w fun e w' => e = .returned (.int .i64 (tme l)) ∧ Below w.heap.size w w' := by
  have hl := h.1
  by_cases hgt : 2000 < n
  · have HT := hide (tme_long (l := l) (by omega))
    clear h hl
    go_enter Tryz.func12, Tryz.ntmps12
    go_wp2
    go_ret
    exact ⟨by rw [HT.out]; rfl, Below.refl _ _⟩
  · have hle : n ≤ 2000 := by omega
    have hR := rises_any a n c l w h (by omega)
    obtain ⟨o, ho⟩ : ∃ o, risB l = o := ⟨_, rfl⟩
    rw [ho] at hR
    have HR := hide hR
    have HL : Hid (l.length ≤ 2000) := hide (by omega)
    cases o with
    | false =>
      have HT := hide (tme_not HL.out ho)
      clear h hl hR ho
      go_enter Tryz.func12, Tryz.ntmps12
      go_wp2_with (first | (go_at_call 31; refine HR.out.mono ?_; rintro e w1 ⟨rfl, hb1⟩))
      go_ret
      exact ⟨by rw [HT.out]; rfl, hb1⟩
    | true =>
      have HT := hide (tme_ris HL.out ho)
      clear h hl hR ho
      go_enter Tryz.func12, Tryz.ntmps12
      go_wp2_with (first | (go_at_call 31; refine HR.out.mono ?_; rintro e w1 ⟨rfl, hb1⟩))
      go_ret
      exact ⟨by rw [HT.out]; rfl, hb1⟩
set_option maxRecDepth 4000 in
set_option maxHeartbeats 4000000 in
theorem check_l (a : Option Addr) (n c : Nat) (l : List It) (w : World) (h : Is w a n c l) (hn : n ≤ 9223372036854775807) : Calls Tryz.prog 28 #[.slice a n c] w fun e w' => e = .returned (.int .i64 (tme l)) ∧ Below w.heap.size w w' := by
  have hl := h.1
  by_cases hgt : 2000 < n
  · have HT := hide (tme_long (l := l) (by omega))
    clear h hl
    go_enter Tryz.func28, Tryz.ntmps28
    go_wp2
    go_ret
    exact ⟨by rw [HT.out]; rfl, Below.refl _ _⟩
  have hle : n ≤ 2000 := by omega
  have HN := hide (fun h : risB l = false => tme_not (by omega) h)
  have HY := hide (fun h : risB l = true => tme_ris (by omega) h)
  have H0 := hide (fun W (hW : Below w.heap.size w W) => h.below hW (Nat.le_refl _))
  clear h
  go_enter Tryz.func28, Tryz.ntmps28
  go_wp2_with fail
  go_loopw [10] (fun i wr => ∃ k : Nat, k ≤ n ∧ i = .int .i64 k ∧ Hid (Rp l k) ∧ Hid (Below w.heap.size w wr)) (fun i _ => n - (intOf i).toNat)
  case atStart => exact ⟨0, by omega, rfl, hide ⟨by simp, by simp⟩, hide (Below.refl _ _)⟩
  case round =>
    obtain ⟨k, hk, rfl, hrp, hbel⟩ := hrel
    by_cases hlt : k < n
    · obtain ⟨b0, off, ea, hc⟩ := (H0.out _ hbel.out).2.2.2 (by omega)
      subst ea
      obtain ⟨x, hx⟩ : ∃ x, l[k]? = some x := ⟨_, List.getElem?_eq_getElem (by rw [hl]; exact hlt)⟩
      have hv := hide (hc k x hx)
      have HX := hide hx
      have hnok := hide (fun h : x.ok = false => ris_not_ok hx h)
      obtain ⟨S, K, T, V, X⟩ := x
      unfold Vt at hv
      simp only at hv
      obtain ⟨d0, d1, d2, d3, d4⟩ := hv.out
      go_wp2_with fail
      generalize hW1 : wr.alloc (Obj.cells #[Value.int IntKind.i64 S, Value.int IntKind.i64 K, Value.int IntKind.u64 T, Value.int IntKind.u64 V, Value.int IntKind.i64 X] 25) = w1
      have hv1 : Hid (Vi w1 wr.heap.size 0 S K T V X) := hide (by rw [← hW1]; exact vi_new wr S K T V X)
      have HB1 : Hid (Below w.heap.size w w1) := hide (by rw [← hW1]; exact bmore hbel.out ((Below.refl _ wr).alloc (Nat.le_refl _) _))
      have HC1 : Hid (∀ i y, l[i]? = some y → Vt w1 b0 (off + i * 5) y) := hide (fun i y hy => by rw [← hW1]; exact (hc i y hy).keep ((Below.refl _ wr).alloc (Nat.le_refl _) _))
      generalize wr.heap.size = R at hv1 ⊢
      clear hW1 hc hv d0 d1 d2 d3 d4
      have d0 : ∀ p : Kp w1, p.W.cell? ⟨R, 0, none⟩ = some (.int .i64 S) := fun p => (hv1.out.keep p.h).1
      have d1 : ∀ p : Kp w1, p.W.cell? ⟨R, 1, none⟩ = some (.int .i64 K) := fun p => (hv1.out.keep p.h).2.1
      have d2 : ∀ p : Kp w1, p.W.cell? ⟨R, 2, none⟩ = some (.int .u64 T) := fun p => (hv1.out.keep p.h).2.2.1
      have d3 : ∀ p : Kp w1, p.W.cell? ⟨R, 3, none⟩ = some (.int .u64 V) := fun p => (hv1.out.keep p.h).2.2.2.1
      have d4 : ∀ p : Kp w1, p.W.cell? ⟨R, 4, none⟩ = some (.int .i64 X) := fun p => (hv1.out.keep p.h).2.2.2.2
      obtain ⟨o, ho⟩ : ∃ o, okI S K T V X = o := ⟨_, rfl⟩
      have cO : Hid (∀ p : Kp w1, Calls Tryz.prog 51 #[.agg #[.int .i64 S, .int .i64 K, .int .u64 T, .int .u64 V, .int .i64 X]] p.W fun e w'' => e = .returned (.bool o) ∧ ∃ q : Kp w1, w'' = q.W) := hide fun p => kp_call (by rw [← ho]; exact ok_any S K T V X _)
      have HO := hide ho
      have hne : Nonempty (Kp w1) := ⟨⟨_, Below.refl _ _⟩⟩
      clear hx ho
      cases o with
      | false =>
        have hr := hide (HN.out (hnok.out (by unfold It.ok; exact HO.out)))
        refine wp_region_kept (by kernel_rfl) (by kernel_rfl) ?_
        repeat (first
          | go_big_quiet_step (first | (go_at_call 51; exact cO.out _))
          | fail)
        refine wpQuiet_nil ?_
        intro w3 hw'
        have HB3 : Hid (Below w.heap.size w w3) := by
          obtain ⟨⟨w3', hb3⟩, hw''⟩ := hw'
          rw [hw'']; exact bmore HB1.out hb3
        clear hw' hne cO d0 d1 d2 d3 d4
        go_wp2
        go_ret
        exact ⟨by rw [hr.out]; rfl, HB3.out⟩
      | true =>
        cases k with
        | zero =>
          have hr := hide (rp_step hrp.out HX.out (by unfold It.ok; exact HO.out) (by simp))
          refine wp_region_kept (by kernel_rfl) (by kernel_rfl) ?_
          repeat (first
            | go_big_quiet_step (first | (go_at_call 51; exact cO.out _))
            | fail)
          refine wpQuiet_nil ?_
          intro w3 hw'
          have HB3 : Hid (Below w.heap.size w w3) := by
            obtain ⟨⟨w3', hb3⟩, hw''⟩ := hw'
            rw [hw'']; exact bmore HB1.out hb3
          clear hw' hne cO d0 d1 d2 d3 d4
          go_wp2
          go_roundw
          case rel => exact ⟨1, by omega, by go_num, hr, HB3⟩
          case measure => simp [intOf]; omega
        | succ k =>
          obtain ⟨y, hy⟩ : ∃ y, l[k]? = some y := ⟨_, List.getElem?_eq_getElem (by rw [hl]; omega)⟩
          have hlast : Hid ((l.take (k + 1)).getLast? = some y) := hide (by rw [List.take_add_one, hy]; simp)
          have hnl := hide (fun h : y.less ⟨S, K, T, V, X⟩ = false => ris_not_less hy HX.out h)
          have hv9 := hide (HC1.out k y hy)
          obtain ⟨S0, K0, T0, V0', X0⟩ := y
          unfold Vt at hv9
          simp only at hv9
          have f0 : ∀ p : Kp w1, p.W.cell? ⟨b0, off + k * 5, none⟩ = some (.int .i64 S0) := fun p => (hv9.out.keep p.h).1
          have f1 : ∀ p : Kp w1, p.W.cell? ⟨b0, off + k * 5 + 1, none⟩ = some (.int .i64 K0) := fun p => (hv9.out.keep p.h).2.1
          have f2 : ∀ p : Kp w1, p.W.cell? ⟨b0, off + k * 5 + 2, none⟩ = some (.int .u64 T0) := fun p => (hv9.out.keep p.h).2.2.1
          have f3 : ∀ p : Kp w1, p.W.cell? ⟨b0, off + k * 5 + 3, none⟩ = some (.int .u64 V0') := fun p => (hv9.out.keep p.h).2.2.2.1
          have f4 : ∀ p : Kp w1, p.W.cell? ⟨b0, off + k * 5 + 4, none⟩ = some (.int .i64 X0) := fun p => (hv9.out.keep p.h).2.2.2.2
          obtain ⟨o3, ho3⟩ : ∃ o, lessI S0 K0 T0 S K T = o := ⟨_, rfl⟩
          have c0 : Hid (∀ p : Kp w1, Calls Tryz.prog 49 #[.agg #[.int .i64 S0, .int .i64 K0, .int .u64 T0, .int .u64 V0', .int .i64 X0], .agg #[.int .i64 S, .int .i64 K, .int .u64 T, .int .u64 V, .int .i64 X]] p.W fun e w'' => e = .returned (.bool o3) ∧ ∃ q : Kp w1, w'' = q.W) := hide fun p => kp_call (by rw [← ho3]; exact less_any S0 K0 T0 V0' X0 S K T V X _)
          have HO3 := hide ho3
          have hs1 : ((k + 1 : Nat) : Int) - 1 = (k : Int) := by omega
          have hs2 : IntKind.i64.wrap (k : Int) = (k : Int) := by simp [IntKind.wrap, IntKind.bits, IntKind.signed]; omega
          have hs3 : (0 : Int) < ((k + 1 : Nat) : Int) := by omega
          have hs4 : (k : Int) < (n : Int) := by omega
          clear hy ho3
          cases o3 with
          | false =>
            have hr := hide (HN.out (hnl.out (by unfold It.less; exact HO3.out)))
            refine wp_region_kept (by kernel_rfl) (by kernel_rfl) ?_
            repeat (first
              | go_big_quiet_step (first | (go_at_call 51; exact cO.out _) | (go_at_call 49; exact c0.out _))
              | fail)
            refine wpQuiet_nil ?_
            intro w3 hw'
            have HB3 : Hid (Below w.heap.size w w3) := by
              obtain ⟨⟨w3', hb3⟩, hw''⟩ := hw'
              rw [hw'']; exact bmore HB1.out hb3
            clear hw' hne cO c0 d0 d1 d2 d3 d4 f0 f1 f2 f3 f4
            go_wp2
            go_ret
            exact ⟨by rw [hr.out]; rfl, HB3.out⟩
          | true =>
            have hr := hide (rp_step hrp.out HX.out (by unfold It.ok; exact HO.out) (fun y hy => by rw [hlast.out] at hy; cases hy; unfold It.less; exact HO3.out))
            refine wp_region_kept (by kernel_rfl) (by kernel_rfl) ?_
            repeat (first
              | go_big_quiet_step (first | (go_at_call 51; exact cO.out _) | (go_at_call 49; exact c0.out _))
              | fail)
            refine wpQuiet_nil ?_
            intro w3 hw'
            have HB3 : Hid (Below w.heap.size w w3) := by
              obtain ⟨⟨w3', hb3⟩, hw''⟩ := hw'
              rw [hw'']; exact bmore HB1.out hb3
            clear hw' hne cO c0 d0 d1 d2 d3 d4 f0 f1 f2 f3 f4
            go_wp2
            go_roundw
            case rel => exact ⟨k + 1 + 1, by omega, by go_num, hr, HB3⟩
            case measure => simp [intOf]; omega
    · obtain rfl : k = n := by omega
      have hr := hide (HY.out (risB_iff.2 (by have := hrp.out; rw [Rp, show l.take k = l from by rw [← hl]; exact List.take_length] at this; exact this)))
      go_wp2
      go_ret
      exact ⟨by rw [hr.out]; rfl, hbel.out⟩

end Go.Proofs.YtodhljiboakjnaaGreat.Clep
