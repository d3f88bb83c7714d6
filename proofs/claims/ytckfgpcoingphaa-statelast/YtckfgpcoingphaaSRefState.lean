/- What the document's own Rises and State do when called: for any items. Conditions: at most 2^39 items. -/
import Derived.Test.YtckfgpcoingphaaSRefAdd
namespace Go.Proofs.Ytckfgpcoingphaa.Clep
open Go.RowKit
set_option linter.unusedVariables false

/-- Do items that may be rise? -/
def risB (l : List It) : Bool := decide (Rise l) && l.all It.ok
theorem risB_iff {l : List It} : risB l = true ↔ Rise l ∧ ∀ x ∈ l, x.ok = true := by
  unfold risB; simp only [Bool.and_eq_true, decide_eq_true_eq, List.all_eq_true]
theorem risB_false {l : List It} (h : ¬ (Rise l ∧ ∀ x ∈ l, x.ok = true)) : risB l = false := by
  cases e : risB l with
  | false => rfl
  | true => exact absurd (risB_iff.1 e) h
/-- The first k rise and may be. -/
def Rp (l : List It) (k : Nat) : Prop := Rise (l.take k) ∧ ∀ x ∈ l.take k, x.ok = true
theorem rp_step {l : List It} {k : Nat} {x : It} (h : Rp l k) (hx : l[k]? = some x) (ho : x.ok = true) (hp : ∀ y, (l.take k).getLast? = some y → y.less x = true) : Rp l (k + 1) := by
  have e : l.take (k + 1) = l.take k ++ [x] := by rw [List.take_add_one, hx]; rfl
  rw [Rp, e]
  refine ⟨List.pairwise_append.2 ⟨h.1, by simp, fun a ha b hb => ?_⟩, fun y hy => ?_⟩
  · rw [List.mem_singleton.1 hb]
    cases hq : (l.take k).getLast? with
    | none => rw [List.getLast?_eq_none_iff] at hq; rw [hq] at ha; simp at ha
    | some z =>
      have hz := hp z hq
      rcases rise_last h.1 hq ha with e | hl
      · rw [e]; exact hz
      · exact less_trans hl hz
  · rcases List.mem_append.1 hy with h1 | h1
    · exact h.2 y h1
    · rw [List.mem_singleton.1 h1]; exact ho
theorem ris_not_ok {l : List It} {k : Nat} {x : It} (hx : l[k]? = some x) (ho : x.ok = false) : risB l = false := risB_false fun h => by
  rw [h.2 x (List.mem_of_getElem? hx)] at ho; cases ho
theorem ris_not_less {l : List It} {k : Nat} {y x : It} (hy : l[k]? = some y) (hx : l[k + 1]? = some x) (hh : y.less x = false) : risB l = false := risB_false fun hs => by
  have h1 := List.getElem?_eq_some_iff.1 hy
  have h2 := List.getElem?_eq_some_iff.1 hx
  have := List.pairwise_iff_getElem.1 hs.1 k (k + 1) h1.1 h2.1 (by omega)
  rw [h1.2, h2.2, hh] at this; cases this

set_option maxRecDepth 4000 in
set_option maxHeartbeats 4000000 in
theorem rises_any (a : Option Addr) (n c : Nat) (l : List It) (w : World) (h : Is w a n c l) (hn : n ≤ 549755813888) : Calls Try.prog 46 #[.slice a n c] w fun e w' => e = .returned (.bool (risB l)) ∧ Below w.heap.size w w' := by
  have hl := h.1
  have H0 := hide (fun W (hW : Below w.heap.size w W) => h.below hW (Nat.le_refl _))
  clear h
  go_enter Try.func46, Try.ntmps46
  go_wp2_with fail
  go_loopw [3] (fun i wr => ∃ k : Nat, k ≤ n ∧ i = .int .i64 k ∧ Hid (Rp l k) ∧ Hid (Below w.heap.size w wr)) (fun i _ => n - (intOf i).toNat)
  case atStart => exact ⟨0, by omega, rfl, hide ⟨by simp, by simp⟩, hide (Below.refl _ _)⟩
  case round =>
    obtain ⟨k, hk, rfl, hrp, hbel⟩ := hrel
    by_cases hlt : k < n
    · obtain ⟨b0, off, ea, hc⟩ := (H0.out _ hbel.out).2.2.2 (by omega)
      subst ea
      obtain ⟨x, hx⟩ : ∃ x, l[k]? = some x := ⟨_, List.getElem?_eq_getElem (by rw [hl]; exact hlt)⟩
      have hv := hide (hc k x hx)
      have HX := hide hx
      have hnok := hide (fun h : x.ok = false => ris_not_ok hx h)
      obtain ⟨S, K, T, V, X⟩ := x
      unfold Vt at hv
      simp only at hv
      have d0 : ∀ p : Kp wr, p.W.cell? ⟨b0, off + k * 5, none⟩ = some (.int .i64 S) := fun p => (hv.out.keep p.h).1
      have d1 : ∀ p : Kp wr, p.W.cell? ⟨b0, off + k * 5 + 1, none⟩ = some (.int .i64 K) := fun p => (hv.out.keep p.h).2.1
      have d2 : ∀ p : Kp wr, p.W.cell? ⟨b0, off + k * 5 + 2, none⟩ = some (.int .u64 T) := fun p => (hv.out.keep p.h).2.2.1
      have d3 : ∀ p : Kp wr, p.W.cell? ⟨b0, off + k * 5 + 3, none⟩ = some (.int .u64 V) := fun p => (hv.out.keep p.h).2.2.2.1
      have d4 : ∀ p : Kp wr, p.W.cell? ⟨b0, off + k * 5 + 4, none⟩ = some (.int .i64 X) := fun p => (hv.out.keep p.h).2.2.2.2
      obtain ⟨o, ho⟩ : ∃ o, okI S K T V X = o := ⟨_, rfl⟩
      have cO : Hid (∀ p : Kp wr, Calls Try.prog 17 #[.agg #[.int .i64 S, .int .i64 K, .int .u64 T, .int .u64 V, .int .i64 X]] p.W fun e w'' => e = .returned (.bool o) ∧ ∃ q : Kp wr, w'' = q.W) := hide fun p => kp_call (by rw [← ho]; exact refok_any S K T V X _)
      have HO := hide ho
      have hne : Nonempty (Kp wr) := ⟨⟨_, Below.refl _ _⟩⟩
      clear hx ho
      cases o with
      | false =>
        have hr := hide (hnok.out (by unfold It.ok; exact HO.out))
        clear hc
        go_wp2_with fail
        refine wp_region_kept (by kernel_rfl) (by kernel_rfl) ?_
        repeat (first
          | go_big_quiet_step (first | (go_at_call 17; exact cO.out _))
          | fail)
        refine wpQuiet_nil ?_
        intro w3 hw'
        have HB3 : Hid (Below w.heap.size w w3) := by
          obtain ⟨⟨w3', hb3⟩, hw''⟩ := hw'
          rw [hw'']; exact bmore hbel.out hb3
        clear hw' hne cO d0 d1 d2 d3 d4
        go_wp2
        go_ret
        exact ⟨by rw [hr.out]; rfl, HB3.out⟩
      | true =>
        cases k with
        | zero =>
          have hr := hide (rp_step hrp.out HX.out (by unfold It.ok; exact HO.out) (by simp))
          simp only [Nat.zero_mul, Nat.add_zero] at d0 d1 d2 d3 d4
          clear hc
          go_wp2_with fail
          refine wp_region_kept (by kernel_rfl) (by kernel_rfl) ?_
          repeat (first
            | go_big_quiet_step (first | (go_at_call 17; exact cO.out _))
            | fail)
          refine wpQuiet_nil ?_
          intro w3 hw'
          have HB3 : Hid (Below w.heap.size w w3) := by
            obtain ⟨⟨w3', hb3⟩, hw''⟩ := hw'
            rw [hw'']; exact bmore hbel.out hb3
          clear hw' hne cO d0 d1 d2 d3 d4
          go_wp2
          go_roundw
          case rel => exact ⟨1, by omega, by go_num, hr, HB3⟩
          case measure => simp [intOf]; omega
        | succ k =>
          obtain ⟨y, hy⟩ : ∃ y, l[k]? = some y := ⟨_, List.getElem?_eq_getElem (by rw [hl]; omega)⟩
          have hlast : Hid ((l.take (k + 1)).getLast? = some y) := hide (by rw [List.take_add_one, hy]; simp)
          have hnl := hide (fun h : y.less ⟨S, K, T, V, X⟩ = false => ris_not_less hy HX.out h)
          have hv9 := hide (hc k y hy)
          obtain ⟨S0, K0, T0, V0', X0⟩ := y
          unfold Vt at hv9
          simp only at hv9
          have f0 : ∀ p : Kp wr, p.W.cell? ⟨b0, off + k * 5, none⟩ = some (.int .i64 S0) := fun p => (hv9.out.keep p.h).1
          have f1 : ∀ p : Kp wr, p.W.cell? ⟨b0, off + k * 5 + 1, none⟩ = some (.int .i64 K0) := fun p => (hv9.out.keep p.h).2.1
          have f2 : ∀ p : Kp wr, p.W.cell? ⟨b0, off + k * 5 + 2, none⟩ = some (.int .u64 T0) := fun p => (hv9.out.keep p.h).2.2.1
          have f3 : ∀ p : Kp wr, p.W.cell? ⟨b0, off + k * 5 + 3, none⟩ = some (.int .u64 V0') := fun p => (hv9.out.keep p.h).2.2.2.1
          have f4 : ∀ p : Kp wr, p.W.cell? ⟨b0, off + k * 5 + 4, none⟩ = some (.int .i64 X0) := fun p => (hv9.out.keep p.h).2.2.2.2
          obtain ⟨o3, ho3⟩ : ∃ o, lessI S0 K0 T0 S K T = o := ⟨_, rfl⟩
          have c0 : Hid (∀ p : Kp wr, Calls Try.prog 58 #[.agg #[.int .i64 S0, .int .i64 K0, .int .u64 T0, .int .u64 V0', .int .i64 X0], .agg #[.int .i64 S, .int .i64 K, .int .u64 T, .int .u64 V, .int .i64 X]] p.W fun e w'' => e = .returned (.bool o3) ∧ ∃ q : Kp wr, w'' = q.W) := hide fun p => kp_call (by rw [← ho3]; exact refless_any S0 K0 T0 V0' X0 S K T V X _)
          have HO3 := hide ho3
          have hs1 : ((k + 1 : Nat) : Int) - 1 = (k : Int) := by omega
          have hs2 : IntKind.i64.wrap (k : Int) = (k : Int) := by simp [IntKind.wrap, IntKind.bits, IntKind.signed]; omega
          have hs3 : (0 : Int) < ((k + 1 : Nat) : Int) := by omega
          have hs4 : (k : Int) < (n : Int) := by omega
          clear hc hy ho3
          cases o3 with
          | false =>
            have hr := hide (hnl.out (by unfold It.less; exact HO3.out))
            go_wp2_with fail
            refine wp_region_kept (by kernel_rfl) (by kernel_rfl) ?_
            repeat (first
              | go_big_quiet_step (first | (go_at_call 17; exact cO.out _) | (go_at_call 58; exact c0.out _))
              | fail)
            refine wpQuiet_nil ?_
            intro w3 hw'
            have HB3 : Hid (Below w.heap.size w w3) := by
              obtain ⟨⟨w3', hb3⟩, hw''⟩ := hw'
              rw [hw'']; exact bmore hbel.out hb3
            clear hw' hne cO c0 d0 d1 d2 d3 d4 f0 f1 f2 f3 f4
            go_wp2
            go_ret
            exact ⟨by rw [hr.out]; rfl, HB3.out⟩
          | true =>
            have hr := hide (rp_step hrp.out HX.out (by unfold It.ok; exact HO.out) (fun y hy => by rw [hlast.out] at hy; cases hy; unfold It.less; exact HO3.out))
            go_wp2_with fail
            refine wp_region_kept (by kernel_rfl) (by kernel_rfl) ?_
            repeat (first
              | go_big_quiet_step (first | (go_at_call 17; exact cO.out _) | (go_at_call 58; exact c0.out _))
              | fail)
            refine wpQuiet_nil ?_
            intro w3 hw'
            have HB3 : Hid (Below w.heap.size w w3) := by
              obtain ⟨⟨w3', hb3⟩, hw''⟩ := hw'
              rw [hw'']; exact bmore hbel.out hb3
            clear hw' hne cO c0 d0 d1 d2 d3 d4 f0 f1 f2 f3 f4
            go_wp2
            go_roundw
            case rel => exact ⟨k + 1 + 1, by omega, by go_num, hr, HB3⟩
            case measure => simp [intOf]; omega
    · obtain rfl : k = n := by omega
      have hr := hide (show risB l = true from risB_iff.2 (by have := hrp.out; rw [Rp, show l.take k = l from by rw [← hl]; exact List.take_length] at this; exact this))
      go_wp2
      go_ret
      exact ⟨by rw [hr.out]; rfl, hbel.out⟩

theorem stB_of {l : List It} (h : ∀ t ∈ l, ∀ x ∈ l, t.hides x = false) : risB l = stB l := by
  rw [Bool.eq_iff_iff, risB_iff, stB_iff]
  exact ⟨fun a => ⟨a.1, a.2, h⟩, fun a => ⟨a.1, a.2.1⟩⟩

set_option maxRecDepth 4000 in
set_option maxHeartbeats 4000000 in
theorem state_any (a : Option Addr) (n c : Nat) (l : List It) (w : World) (h : Is w a n c l) (hn : n ≤ 549755813888) : Calls Try.prog 22 #[.slice a n c] w fun e w' => e = .returned (.bool (stB l)) ∧ Below w.heap.size w w' := by
  have hl := h.1
  have H0 := hide (fun W (hW : Below w.heap.size w W) => h.below hW (Nat.le_refl _))
  clear h
  go_enter Try.func22, Try.ntmps22
  go_wp2_with fail
  go_loopw [3] (fun s3 wr => ∃ i : Nat, i ≤ n ∧ s3 = .int .i64 i ∧ Hid (∀ t ∈ l.take i, ∀ x ∈ l, t.hides x = false) ∧ Hid (Below w.heap.size w wr)) (fun s3 _ => n - (intOf s3).toNat)
  case atStart => exact ⟨0, by omega, rfl, hide (by simp), hide (Below.refl _ _)⟩
  case round =>
    obtain ⟨i, hi, rfl, hal, hbel0⟩ := hrel
    by_cases hlt : i < n
    · obtain ⟨x, hx⟩ : ∃ x, l[i]? = some x := ⟨_, List.getElem?_eq_getElem (by rw [hl]; exact hlt)⟩
      have HX := hide hx
      have hal2 : Hid ((∀ y ∈ l, x.hides y = false) → ∀ t ∈ l.take (i + 1), ∀ y ∈ l, t.hides y = false) := hide fun h t ht y hy => by
        rw [List.take_add_one, hx] at ht
        rcases List.mem_append.1 ht with h1 | h1
        · exact hal.out t h1 y hy
        · have e : t = x := by simpa using h1
          rw [e]; exact h y hy
      obtain ⟨S, K, T, V, X⟩ := x
      clear hx
      go_wp2_with fail
      go_loopw [4] (fun s4 wr => ∃ k : Nat, k ≤ n ∧ s4 = .int .i64 k ∧ Hid (∀ y ∈ l.take k, It.hides ⟨S, K, T, V, X⟩ y = false) ∧ Hid (Below w.heap.size w wr)) (fun s4 _ => n - (intOf s4).toNat)
      case atStart => exact ⟨0, by omega, rfl, hide (by simp), hbel0⟩
      case round =>
        obtain ⟨k, hk, rfl, hin, hbel⟩ := hrel
        obtain ⟨b0, off, ea, hc⟩ := (H0.out _ hbel.out).2.2.2 (by omega)
        subst ea
        have hvx := hide (hc i _ HX.out)
        unfold Vt at hvx
        simp only at hvx
        have qx := hvx.out
        unfold Vi at qx
        obtain ⟨v0, v1, v2, v3, v4⟩ := qx
        by_cases hlk : k < n
        · by_cases hK : K = 1
          · have hKb : (K == 1) = true := by simp [hK]
            clear hK
            obtain ⟨y, hy⟩ : ∃ y, l[k]? = some y := ⟨_, List.getElem?_eq_getElem (by rw [hl]; exact hlk)⟩
            have hvy := hide (hc k y hy)
            have HY := hide hy
            obtain ⟨S0, K0, T0, V0', X0⟩ := y
            unfold Vt at hvy
            simp only at hvy
            have d0 : ∀ p : Kp wr, p.W.cell? ⟨b0, off + i * 5, none⟩ = some (.int .i64 S) := fun p => (hvx.out.keep p.h).1
            have d1 : ∀ p : Kp wr, p.W.cell? ⟨b0, off + i * 5 + 1, none⟩ = some (.int .i64 K) := fun p => (hvx.out.keep p.h).2.1
            have d2 : ∀ p : Kp wr, p.W.cell? ⟨b0, off + i * 5 + 2, none⟩ = some (.int .u64 T) := fun p => (hvx.out.keep p.h).2.2.1
            have d3 : ∀ p : Kp wr, p.W.cell? ⟨b0, off + i * 5 + 3, none⟩ = some (.int .u64 V) := fun p => (hvx.out.keep p.h).2.2.2.1
            have d4 : ∀ p : Kp wr, p.W.cell? ⟨b0, off + i * 5 + 4, none⟩ = some (.int .i64 X) := fun p => (hvx.out.keep p.h).2.2.2.2
            have f0 : ∀ p : Kp wr, p.W.cell? ⟨b0, off + k * 5, none⟩ = some (.int .i64 S0) := fun p => (hvy.out.keep p.h).1
            have f1 : ∀ p : Kp wr, p.W.cell? ⟨b0, off + k * 5 + 1, none⟩ = some (.int .i64 K0) := fun p => (hvy.out.keep p.h).2.1
            have f2 : ∀ p : Kp wr, p.W.cell? ⟨b0, off + k * 5 + 2, none⟩ = some (.int .u64 T0) := fun p => (hvy.out.keep p.h).2.2.1
            have f3 : ∀ p : Kp wr, p.W.cell? ⟨b0, off + k * 5 + 3, none⟩ = some (.int .u64 V0') := fun p => (hvy.out.keep p.h).2.2.2.1
            have f4 : ∀ p : Kp wr, p.W.cell? ⟨b0, off + k * 5 + 4, none⟩ = some (.int .i64 X0) := fun p => (hvy.out.keep p.h).2.2.2.2
            obtain ⟨o3, ho3⟩ : ∃ o, hidesI S K V S0 K0 V0' = o := ⟨_, rfl⟩
            have c0 : Hid (∀ p : Kp wr, Calls Try.prog 45 #[.agg #[.int .i64 S, .int .i64 K, .int .u64 T, .int .u64 V, .int .i64 X], .agg #[.int .i64 S0, .int .i64 K0, .int .u64 T0, .int .u64 V0', .int .i64 X0]] p.W fun e w'' => e = .returned (.bool o3) ∧ ∃ q : Kp wr, w'' = q.W) := hide fun p => kp_call (by rw [← ho3]; exact refhides_any S K T V X S0 K0 T0 V0' X0 _)
            have HO3 := hide ho3
            have hne : Nonempty (Kp wr) := ⟨⟨_, Below.refl _ _⟩⟩
            clear hc hy ho3
            cases o3 with
            | true =>
              have hr := hide (show stB l = false from stB_false fun hs => by
                have := hs.2.2 _ (List.mem_of_getElem? HX.out) _ (List.mem_of_getElem? HY.out)
                unfold It.hides at this
                rw [HO3.out] at this; cases this)
              go_wp2_with fail
              refine wp_region_kept (by kernel_rfl) (by kernel_rfl) ?_
              repeat (first
                | go_big_quiet_step (first | (go_at_call 45; exact c0.out _))
                | fail)
              refine wpQuiet_nil ?_
              intro w3 hw'
              have HB3 : Hid (Below w.heap.size w w3) := by
                obtain ⟨⟨w3', hb3⟩, hw''⟩ := hw'
                rw [hw'']; exact bmore hbel.out hb3
              clear hw' hne c0 d0 d1 d2 d3 d4 f0 f1 f2 f3 f4 v0 v1 v2 v3 v4
              go_wp2
              go_ret
              exact ⟨by rw [hr.out]; rfl, HB3.out⟩
            | false =>
              have hr := hide (pre_snoc (p := It.hides ⟨S, K, T, V, X⟩) HY.out (by unfold It.hides; exact HO3.out) hin.out)
              go_wp2_with fail
              refine wp_region_kept (by kernel_rfl) (by kernel_rfl) ?_
              repeat (first
                | go_big_quiet_step (first | (go_at_call 45; exact c0.out _))
                | fail)
              refine wpQuiet_nil ?_
              intro w3 hw'
              have HB3 : Hid (Below w.heap.size w w3) := by
                obtain ⟨⟨w3', hb3⟩, hw''⟩ := hw'
                rw [hw'']; exact bmore hbel.out hb3
              clear hw' hne c0 d0 d1 d2 d3 d4 f0 f1 f2 f3 f4 v0 v1 v2 v3 v4
              go_wp2
              go_roundw
              case rel => exact ⟨k + 1, by omega, by go_num, hr, HB3⟩
              case measure => simp [intOf]; omega
          · have hKb : (K == 1) = false := by simp [hK]
            have hr := hide (hal2.out fun y _ => by rw [nhides_iff]; simp only; omega)
            clear hK hc
            go_wp2
            go_roundw
            case rel => exact ⟨i + 1, by omega, by go_num, hr, hbel⟩
            case measure => simp [intOf]; omega
        · obtain rfl : k = n := by omega
          have hr := hide (hal2.out fun y hy => hin.out y (by rwa [show l.take k = l from by rw [← hl]; exact List.take_length]))
          clear hc
          go_wp2
          go_roundw
          case rel => exact ⟨i + 1, by omega, by go_num, hr, hbel⟩
          case measure => simp [intOf]; omega
    · obtain rfl : i = n := by omega
      have hr := hide (stB_of (l := l) (by have := hal.out; rwa [show l.take i = l from by rw [← hl]; exact List.take_length] at this))
      have II := hide (H0.out _ hbel0.out)
      go_wp2_with fail
      refine (rises_any _ _ _ _ _ II.out hn).mono ?_
      rw [hr.out]
      rintro e w1 ⟨rfl, b1⟩
      have B1 := hide (bmore hbel0.out b1)
      go_wp2
      go_ret
      exact ⟨rfl, B1.out⟩

end Go.Proofs.Ytckfgpcoingphaa.Clep
