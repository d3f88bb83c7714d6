/- What frame.Take does when called (a walk over the translated program): for any bytes of at most 2^46, any place. -/
import Derived.Test.YtgopcaemgcnapaaCheck
namespace Go.Proofs.Ytgopcaemgcnapaa.Clep
open Go.RowKit
set_option linter.unusedVariables false
set_option maxRecDepth 10000

/-- The body of the frame that X begins with. -/
def bo (X : List Int) : List Int := (bd X).take (ln X).toNat
theorem ce_ok (X : List Int) (h : ce X = 0) : 8 ≤ X.length ∧ he X = 0 ∧ 1 ≤ kd X ∧ kd X ≤ 100 ∧ ln X ≤ 60000 ∧ (ln X).toNat + 12 ≤ X.length ∧ be X = 0 := by
  unfold ce at h
  split at h
  · cases h
  · split at h
    · rename_i h2; exact absurd h h2
    · split at h
      · cases h
      · split at h
        · cases h
        · rename_i h1 h2 h3 h4
          exact ⟨by omega, by simpa using h2, by omega, by omega, by omega, by omega, h⟩
theorem bo_len (X : List Int) (h : ce X = 0) : (bo X).length = (ln X).toNat := by
  have := ce_ok X h
  unfold bo bd
  rw [List.length_take, List.length_drop, List.length_take]
  omega
theorem bo_cut (zs : List Int) (P n : Nat) (hn : (ln (zs.drop P)).toNat = n) : (zs.take (P + 8 + n)).drop (P + 8) = bo (zs.drop P) := by
  unfold bo bd
  rw [hn, ← List.drop_drop, List.drop_take, show P + 8 + n - P = 8 + n from by omega, List.drop_take, show 8 + n - 8 = n from by omega, List.drop_take, show n + 12 - 8 = n + 4 from by omega, List.take_take, Nat.min_eq_left (by omega)]

theorem ftake_arg (ao : Option Addr) (len cap : Nat) (p : Int) (w : World) (hm : len ≤ 70368744177664) (hp : p < 0 ∨ (len : Int) < p) :
    Calls Try.prog 32 #[.slice ao len cap, .int .i64 p] w fun e w' => e = .returned (.tuple #[.int .i64 0, .slice none 0 0, .int .i64 0, .int .i64 1]) ∧ w' = w := by
  go_enter Try.func32, Try.ntmps32
  rcases hp with hp | hp
  · go_wp2
    refine bodyPost_ret (by simp [results, Try.results32, go_sem]) rfl ⟨rfl, rfl⟩
  · have hp2 : ¬ p < 0 := by omega
    go_wp2
    refine bodyPost_ret (by simp [results, Try.results32, go_sem]) rfl ⟨rfl, rfl⟩

theorem ftake_bad (ao : Option Addr) (len cap : Nat) (zs : List Int) (P : Nat) (w : World) (hm : len ≤ 70368744177664) (h : Bs w ao len cap zs) (hP : P ≤ len) (hc : ce (zs.drop P) ≠ 0) :
    Calls Try.prog 32 #[.slice ao len cap, .int .i64 P] w fun e w' => e = .returned (.tuple #[.int .i64 0, .slice none 0 0, .int .i64 0, .int .i64 (ce (zs.drop P))]) ∧ Below w.heap.size w w' := by
  have C := hide (check_any ao len cap zs P w hm h hP)
  have hp : cp (zs.drop P) P = .agg #[.int .i64 0, .int .i64 0, .int .i64 0] := by unfold cp; rw [if_neg hc]; rfl
  rw [hp] at C
  clear h hp
  generalize ce (zs.drop P) = E at *
  go_enter Try.func32, Try.ntmps32
  go_wp2_with fail
  refine C.out.mono ?_
  rintro e w1 ⟨hb, rfl⟩
  have HB := hide (hb.alloc hb.size (Obj.cells #[Value.int IntKind.i64 0, Value.int IntKind.i64 0, Value.int IntKind.i64 0] 109))
  clear hb C
  go_wp2
  refine bodyPost_ret (by simp [results, Try.results32, go_sem]) rfl ⟨rfl, HB.out⟩

set_option maxHeartbeats 400000 in
theorem ftake_good (ao : Option Addr) (len cap : Nat) (zs : List Int) (P : Nat) (w : World) (hm : len ≤ 70368744177664) (h : Bs w ao len cap zs) (hP : P ≤ len) (X : List Int) (hX : X = zs.drop P) (hc : ce X = 0) :
    Calls Try.prog 32 #[.slice ao len cap, .int .i64 P] w fun e w' => ∃ v, e = .returned (.tuple #[.int .i64 (kd X), v, .int .i64 (P + 12 + ln X), .int .i64 0]) ∧ Own w' w.heap.size v (bo X) ∧ Below w.heap.size w w' := by
  have C := hide (check_any ao len cap zs P w hm h hP)
  have hk := ce_ok X hc
  have hXl : X.length = len - P := by rw [hX, List.length_drop, h.1]
  have hlr := ln_range X (by rw [hX]; exact range_of (ByteL.drop (bs_range h) P))
  rw [← hX] at C
  have hp : cp X P = .agg #[.int .i64 (kd X), .int .i64 (P + 8), .int .i64 (P + 8 + ln X)] := by unfold cp; rw [if_pos hc]; rfl
  rw [hp, hc] at C
  have cB : Hid (∀ W, Below w.heap.size w W → Calls Try.prog 57 #[.agg #[.int .i64 (kd X), .int .i64 ((P : Int) + 8), .int .i64 ((P : Int) + 8 + ln X)], .slice ao len cap] W fun e w' => ∃ v, e = .returned v ∧ Hid (∀ W', Below w'.heap.size w' W' → Own W' w.heap.size v (bo X)) ∧ Below w.heap.size w w' ∧ Below W.heap.size W w') := hide fun W hW => by
    have hcu : (zs.take ((P : Int) + 8 + ln X).toNat).drop ((P : Int) + 8).toNat = bo X := by
      rw [hX, ← bo_cut zs P (ln (zs.drop P)).toNat rfl, ← hX]
      congr 2 <;> omega
    refine (body_any ao len cap zs (kd X) (P + 8) (P + 8 + ln X) W hm (h.below hW (Nat.le_refl _)) (by omega) (by omega) (by omega)).mono ?_
    rintro e w' ⟨v, he, ho, hb⟩
    rw [hcu] at ho
    exact ⟨v, he, hide fun W' hW' => own_base (own_keep ho hW') hW.size, hW.trans (hb.mono hW.size), hb⟩
  have cN : Hid (∀ W, Below w.heap.size w W → Calls Try.prog 58 #[.agg #[.int .i64 (kd X), .int .i64 ((P : Int) + 8), .int .i64 ((P : Int) + 8 + ln X)]] W fun e w' => e = .returned (.int .i64 ((P : Int) + 8 + ln X + 4)) ∧ Below w.heap.size w w' ∧ Below W.heap.size W w') := hide fun W hW =>
    (next_any (kd X) _ _ W (by omega) (by omega)).mono fun e w' ⟨he, hb⟩ => ⟨he, hW.trans (hb.mono hW.size), hb⟩
  clear h hp hX
  generalize bo X = Y at *
  generalize kd X = K at *
  generalize ln X = L at *
  clear hk hXl hc
  go_enter Try.func32, Try.ntmps32
  go_wp2_with fail
  refine C.out.mono ?_
  rintro e w1 ⟨hb1, rfl⟩
  have hb2 := hb1.alloc hb1.size (Obj.cells #[Value.int IntKind.i64 K, Value.int IntKind.i64 (P + 8), Value.int IntKind.i64 (P + 8 + L)] 109)
  have VP := var3_new w1 K (P + 8) (P + 8 + L)
  have hcP : ∀ W, Below (w1.alloc (Obj.cells #[Value.int IntKind.i64 K, Value.int IntKind.i64 (P + 8), Value.int IntKind.i64 (P + 8 + L)] 109)).heap.size (w1.alloc (Obj.cells #[Value.int IntKind.i64 K, Value.int IntKind.i64 (P + 8), Value.int IntKind.i64 (P + 8 + L)] 109)) W → Var3 W w1.heap.size K (P + 8) (P + 8 + L) := fun W hW => VP.below hW (Nat.le_refl _)
  have HB2 := hide hb2
  have HVP := hide hcP
  have HVQ := hide VP
  clear hb1 hb2 hcP VP C
  go_wp2_with fail
  generalize w1.alloc (Obj.cells #[Value.int IntKind.i64 K, Value.int IntKind.i64 (P + 8), Value.int IntKind.i64 (P + 8 + L)] 109) = w2 at *
  have dB : Hid (∀ W, Below w2.heap.size w2 W → Calls Try.prog 57 #[.agg #[.int .i64 K, .int .i64 ((P : Int) + 8), .int .i64 ((P : Int) + 8 + L)], .slice ao len cap] W fun e w' => ∃ v, e = .returned v ∧ Hid (∀ W', Below w'.heap.size w' W' → Own W' w.heap.size v Y) ∧ Below w2.heap.size w2 w' ∧ Below W.heap.size W w') := hide fun W hW =>
    (cB.out W (HB2.out.trans (hW.mono HB2.out.size))).mono fun e w' ⟨v, he, ho, _, hb⟩ => ⟨v, he, ho, hW.trans (hb.mono hW.size), hb⟩
  have dN : Hid (∀ W, Below w2.heap.size w2 W → Calls Try.prog 58 #[.agg #[.int .i64 K, .int .i64 ((P : Int) + 8), .int .i64 ((P : Int) + 8 + L)]] W fun e w' => e = .returned (.int .i64 ((P : Int) + 8 + L + 4)) ∧ Below w2.heap.size w2 w' ∧ Below W.heap.size W w') := hide fun W hW =>
    (cN.out W (HB2.out.trans (hW.mono HB2.out.size))).mono fun e w' ⟨he, _, hb⟩ => ⟨he, hW.trans (hb.mono hW.size), hb⟩
  obtain ⟨p0, p1, p2, g0, g1, g2⟩ := HVQ.out
  have hb0 : Below w2.heap.size w2 w2 := Below.refl _ _
  clear cB cN HVQ
  go_region_held_law (fun W => Below w2.heap.size w2 W ∧ W.cell? ⟨w1.heap.size, 0, none⟩ = some (.int .i64 K) ∧ W.cell? ⟨w1.heap.size, 1, none⟩ = some (.int .i64 ((P : Int) + 8)) ∧ W.cell? ⟨w1.heap.size, 2, none⟩ = some (.int .i64 ((P : Int) + 8 + L)))
    (first | exact ⟨by assumption, (HVP.out _ (by assumption)).1, (HVP.out _ (by assumption)).2.1, (HVP.out _ (by assumption)).2.2.1⟩ | exact ⟨Below.drew (by assumption), (HVP.out _ (Below.drew (by assumption))).1, (HVP.out _ (Below.drew (by assumption))).2.1, (HVP.out _ (Below.drew (by assumption))).2.2.1⟩)
    (first
    | (go_at_call 58; refine (dN.out _ (And.left (by assumption))).mono ?_; rintro e w' ⟨rfl, hb, hbn⟩)
    | (go_at_call 57; refine (dB.out _ (And.left (by assumption))).mono ?_; rintro e w' ⟨v, rfl, ho, hb, hbb⟩))
  have HO := hide (ho.out _ hbn)
  have HB := hide (HB2.out.trans (hb.mono HB2.out.size))
  rename_i hHeld
  clear hb hbn hHeld hbb ho dB dN HVP p0 p1 p2 g0 g1 g2 hb0
  go_wp2
  refine bodyPost_ret (v := .tuple #[.int .i64 K, v, .int .i64 (P + 8 + L + 4), .int .i64 0]) (by simp [results, Try.results32, go_sem]) rfl ⟨v, ?_, HO.out, HB.out⟩
  rw [show (P : Int) + 8 + L + 4 = P + 12 + L from by omega]

end Go.Proofs.Ytgopcaemgcnapaa.Clep
