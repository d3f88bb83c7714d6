/- What state.Ok and Add do when called: for any items. Conditions: at most 2^39 items. -/
import Derived.Test.YtckfgpcoingphabSOf
namespace Go.Proofs.Ytckfgpcoingphab.Clep
open Go.RowKit
set_option linter.unusedVariables false

/-- Is l a state? -/
def stB (l : List It) : Bool := decide (Rise l) && l.all It.ok && l.all (fun t => l.all fun x => !t.hides x)
theorem stB_iff {l : List It} : stB l = true ↔ stP l := by
  unfold stB stP
  simp only [Bool.and_eq_true, decide_eq_true_eq, List.all_eq_true, Bool.not_eq_true']
  constructor
  · rintro ⟨⟨a, b⟩, c⟩; exact ⟨a, b, c⟩
  · rintro ⟨a, b, c⟩; exact ⟨⟨a, b⟩, c⟩
theorem stB_false {l : List It} (h : ¬ stP l) : stB l = false := by
  cases e : stB l with
  | false => rfl
  | true => exact absurd (stB_iff.1 e) h
/-- The first k items of l pass, and gn is the last delete of them. -/
def Op1 (l : List It) (k : Nat) (gn : It) : Prop := Sc (l.take k) (l.take k, gn) ∧ ∀ x ∈ l.take k, x.ok = true
theorem op1_zero (l : List It) : Op1 l 0 it0 := ⟨by simpa using sc_nil, by simp⟩
theorem op1_end {l : List It} {gn : It} (h : Op1 l l.length gn) : stB l = true := by
  have h1 := h.1.1
  have h2 := h.2
  rw [List.take_length] at h1 h2
  exact stB_iff.2 ⟨h1.1, h2, h1.2.2.1⟩
theorem op1_step {l : List It} {k : Nat} {gn x : It} (h : Op1 l k gn) (hx : l[k]? = some x) (ho : x.ok = true) (hh : gn.hides x = false) (hp : ∀ y, (l.take k).getLast? = some y → y.less x = true) : Op1 l (k + 1) (if x.K = 1 then x else gn) := by
  have e : l.take (k + 1) = l.take k ++ [x] := by rw [List.take_add_one, hx]; rfl
  obtain ⟨hs, hok⟩ := h
  have hlt : ∀ y ∈ l.take k, y.less x = true := by
    intro y hy
    cases hq : (l.take k).getLast? with
    | none => rw [List.getLast?_eq_none_iff] at hq; rw [hq] at hy; simp at hy
    | some z =>
      have hz := hp z hq
      rcases rise_last hs.1.1 hq hy with e | hl
      · rw [e]; exact hz
      · exact less_trans hl hz
  have hnt : isTh (l.take k) x = false := by
    unfold isTh
    cases hq : (l.take k).getLast? with
    | none => rfl
    | some z =>
      have hz := hp z hq
      show z.same x = false
      rw [less_iff] at hz; rw [nsame_iff]; omega
  have st := scan_step (x := x) hs (fun y hy => ⟨hok y hy, less_asymm (hlt y hy), fun h => by have := hlt y hy; rw [less_iff] at this; rw [same_iff] at h; omega⟩) ho
  have e2 : scan1 (l.take k, gn) x = (l.take k ++ [x], if x.K = 1 then x else gn) := by
    unfold scan1; rw [if_neg (by simp [hh, hnt])]
  rw [e2, ← e] at st
  refine ⟨st, fun y hy => ?_⟩
  rw [e] at hy
  rcases List.mem_append.1 hy with h | h
  · exact hok y h
  · rw [List.mem_singleton.1 h]; exact ho
theorem not_ok {l : List It} {k : Nat} {x : It} (hx : l[k]? = some x) (ho : x.ok = false) : stB l = false := stB_false fun h => by
  rw [h.2.1 x (List.mem_of_getElem? hx)] at ho; cases ho
theorem not_hid {l : List It} {k : Nat} {gn x : It} (h : Op1 l k gn) (hx : l[k]? = some x) (hh : gn.hides x = true) : stB l = false := stB_false fun hs => by
  have hg : gn ∈ l := List.mem_of_mem_take (h.1.2.1 (by rw [hides_iff] at hh; exact hh.1))
  rw [hs.2.2 gn hg x (List.mem_of_getElem? hx)] at hh; cases hh
theorem not_less {l : List It} {k : Nat} {y x : It} (hy : l[k]? = some y) (hx : l[k + 1]? = some x) (hh : y.less x = false) : stB l = false := stB_false fun hs => by
  have h1 := List.getElem?_eq_some_iff.1 hy
  have h2 := List.getElem?_eq_some_iff.1 hx
  have := List.pairwise_iff_getElem.1 hs.1 k (k + 1) h1.1 h2.1 (by omega)
  rw [h1.2, h2.2, hh] at this; cases this

set_option maxRecDepth 4000 in
set_option maxHeartbeats 4000000 in
theorem sok_any (a : Option Addr) (n c : Nat) (l : List It) (w : World) (h : Is w a n c l) (hn : n ≤ 549755813888) : Calls Try.prog 16 #[.slice a n c] w fun e w' => e = .returned (.bool (stB l)) ∧ Below w.heap.size w w' := by
  have hl := h.1
  have H0 := hide (fun W (hW : Below w.heap.size w W) => h.below hW (Nat.le_refl _))
  have B0 := hide ((Below.refl _ w).alloc (Nat.le_refl _) (Obj.cells #[Value.int IntKind.i64 0, Value.int IntKind.i64 0, Value.int IntKind.u64 0, Value.int IntKind.u64 0, Value.int IntKind.i64 0] 26))
  have V0 := hide (vx_new w 0 0 0 0 0)
  clear h
  go_enter Try.func16, Try.ntmps16
  go_wp2_with fail
  obtain ⟨R, hR⟩ : ∃ R, R = w.heap.size := ⟨_, rfl⟩
  have HR := hide hR
  rw [← hR] at V0 ⊢
  clear hR
  go_loopw [8] (fun i wr => ∃ (k : Nat) (gn : It), k ≤ n ∧ i = .int .i64 k ∧ Hid (Op1 l k gn) ∧ Hid (Below w.heap.size w wr) ∧ Hid (Vx wr R gn.S gn.K gn.T gn.V gn.X)) (fun i _ => n - (intOf i).toNat)
  case atStart => exact ⟨0, it0, by omega, rfl, hide (op1_zero l), B0, V0⟩
  case round =>
    obtain ⟨k, gn, hk, rfl, hop, hbel, hvx⟩ := hrel
    by_cases hlt : k < n
    · obtain ⟨b0, off, ea, hc⟩ := (H0.out _ hbel.out).2.2.2 (by omega)
      subst ea
      obtain ⟨x, hx⟩ : ∃ x, l[k]? = some x := ⟨_, List.getElem?_eq_getElem (by rw [hl]; exact hlt)⟩
      have hv := hc k x hx
      have HX := hide hx
      have hnok := hide (fun h : x.ok = false => not_ok hx h)
      have hnh := hide (fun h : gn.hides x = true => not_hid hop.out hx h)
      obtain ⟨S, K, T, V, X⟩ := x
      obtain ⟨gS, gK, gT, gV, gX⟩ := gn
      unfold Vt Vi at hv
      simp only at hv
      obtain ⟨v0, v1, v2, v3, v4⟩ := hv
      have HB := hide (hbel.out.alloc hbel.out.size (Obj.cells #[Value.int IntKind.i64 S, Value.int IntKind.i64 K, Value.int IntKind.u64 T, Value.int IntKind.u64 V, Value.int IntKind.i64 X] 26))
      have X0 := hide (vi_new wr S K T V X)
      have hvx1 := hide (hvx.out.keep ((Below.refl _ _).alloc (Nat.le_refl _) (Obj.cells #[Value.int IntKind.i64 S, Value.int IntKind.i64 K, Value.int IntKind.u64 T, Value.int IntKind.u64 V, Value.int IntKind.i64 X] 26)))
      clear hc hx
      go_wp2_with fail
      refine (ok_any S K T V X _).mono ?_
      obtain ⟨o, ho⟩ : ∃ o, okI S K T V X = o := ⟨_, rfl⟩
      rw [ho]
      have HO := hide ho
      clear ho
      rintro e w1 ⟨rfl, b1⟩
      have HB1 := hide (bmore HB.out b1)
      have X1 := X0.out.keep b1
      have HX1 := hide X1
      have VX1 := hide (hvx1.out.keep b1)
      unfold Vi at X1
      simp only [Nat.zero_add] at X1
      obtain ⟨x0, x1, x2, x3, x4⟩ := X1
      have g1 := VX1.out.1
      unfold Vi at g1
      simp only [Nat.zero_add] at g1
      obtain ⟨y0, y1, y2, y3, y4⟩ := g1
      clear v0 v1 v2 v3 v4 b1 X0 hvx1 HB hvx
      cases o with
      | false =>
        have hr := hide (hnok.out (by unfold It.ok; exact HO.out))
        go_wp2
        go_ret
        exact ⟨by rw [hr.out]; rfl, HB1.out⟩
      | true =>
        go_wp2_with fail
        refine (hides_any gS gK gT gV gX S K T V X _).mono ?_
        obtain ⟨o2, ho2⟩ : ∃ o, hidesI gS gK gV S K V = o := ⟨_, rfl⟩
        rw [ho2]
        have HO2 := hide ho2
        clear ho2
        rintro e w2 ⟨rfl, b2⟩
        have HB2 := hide (bmore HB1.out b2)
        have X2 := HX1.out.keep b2
        have HX2 := hide X2
        have VX2 := hide (VX1.out.keep b2)
        clear x0 x1 x2 x3 x4 y0 y1 y2 y3 y4 b2 HX1 VX1 HB1
        cases o2 with
        | true =>
          have hr := hide (hnh.out (by unfold It.hides; exact HO2.out))
          clear X2
          go_wp2
          go_ret
          exact ⟨by rw [hr.out]; rfl, HB2.out⟩
        | false =>
          have hfin : Hid (∀ w3, Below w2.heap.size w2 w3 → (∀ y, (l.take k).getLast? = some y → y.less ⟨S, K, T, V, X⟩ = true) → Op1 l (k + 1) (if K = 1 then ⟨S, K, T, V, X⟩ else ⟨gS, gK, gT, gV, gX⟩)) := hide fun w3 _ h => op1_step hop.out HX.out (by unfold It.ok; exact HO.out) (by unfold It.hides; exact HO2.out) h
          cases k with
          | zero =>
            have hpre := hide (show ∀ y, (l.take 0).getLast? = some y → y.less ⟨S, K, T, V, X⟩ = true by simp)
            have hne : Nonempty (Kp w2) := ⟨⟨_, Below.refl _ _⟩⟩
            clear X2
            go_wp2_with fail
            refine wp_region_kept (by kernel_rfl) (by kernel_rfl) ?_
            repeat (first
              | go_big_quiet_step (fail)
              | fail)
            refine wpQuiet_nil ?_
            intro w3 hw'
            have HB3 : Hid (Below w2.heap.size w2 w3) := by
              obtain ⟨⟨w3', hb3⟩, hw''⟩ := hw'
              rw [hw'']; exact hb3
            clear hw' hne
            have HB4 := hide (bmore HB2.out HB3.out)
            have VX4 := hide (VX2.out.keep HB3.out)
            have X4 := HX2.out.keep HB3.out
            unfold Vi at X4
            simp only [Nat.zero_add] at X4
            obtain ⟨x0, x1, x2, x3, x4⟩ := X4
            have G4 := VX4.out
            unfold Vx Vi Vf at G4
            simp only [Nat.zero_add] at G4
            obtain ⟨⟨y0, y1, y2, y3, y4⟩, z0, z1, z2, z3, z4⟩ := G4
            have hop2 := hide (hfin.out w3 HB3.out hpre.out)
            by_cases hK : K = 1
            · have hKb : (K == 1) = true := by simp [hK]
              rw [if_pos hK] at hop2
              clear hK
              go_wp2
              go_roundw
              case rel => exact ⟨0 + 1, ⟨S, K, T, V, X⟩, by omega, by go_num, hop2, hide (HB4.out.grown (gb_putI w3 R S K T V X) HB4.out.size (fun k hk => by cases hk; rw [HR.out]; exact Nat.le_refl _)), hide (VX4.out.put S K T V X)⟩
              case measure => simp [intOf]; omega
            · have hKb : (K == 1) = false := by simp [hK]
              rw [if_neg hK] at hop2
              clear hK
              go_wp2
              go_roundw
              case rel => exact ⟨0 + 1, ⟨gS, gK, gT, gV, gX⟩, by omega, by go_num, hop2, HB4, VX4⟩
              case measure => simp [intOf]; omega
          | succ k =>
            obtain ⟨y, hy⟩ : ∃ y, l[k]? = some y := ⟨_, List.getElem?_eq_getElem (by rw [hl]; omega)⟩
            have hlast : Hid ((l.take (k + 1)).getLast? = some y) := hide (by rw [List.take_add_one, hy]; simp)
            have hnl := hide (fun h : y.less ⟨S, K, T, V, X⟩ = false => not_less hy HX.out h)
            obtain ⟨b9, off9, ea, hc9⟩ := (H0.out _ HB2.out).2.2.2 (by omega)
            cases ea
            have hv9 := hide (hc9 k y hy)
            obtain ⟨S0, K0, T0, V0', X0⟩ := y
            unfold Vt at hv9
            simp only at hv9
            have d0 : ∀ p : Kp w2, p.W.cell? ⟨b0, off + k * 5, none⟩ = some (.int .i64 S0) := fun p => (hv9.out.keep p.h).1
            have d1 : ∀ p : Kp w2, p.W.cell? ⟨b0, off + k * 5 + 1, none⟩ = some (.int .i64 K0) := fun p => (hv9.out.keep p.h).2.1
            have d2 : ∀ p : Kp w2, p.W.cell? ⟨b0, off + k * 5 + 2, none⟩ = some (.int .u64 T0) := fun p => (hv9.out.keep p.h).2.2.1
            have d3 : ∀ p : Kp w2, p.W.cell? ⟨b0, off + k * 5 + 3, none⟩ = some (.int .u64 V0') := fun p => (hv9.out.keep p.h).2.2.2.1
            have d4 : ∀ p : Kp w2, p.W.cell? ⟨b0, off + k * 5 + 4, none⟩ = some (.int .i64 X0) := fun p => (hv9.out.keep p.h).2.2.2.2
            have f0 : ∀ p : Kp w2, p.W.cell? ⟨wr.heap.size, 0, none⟩ = some (.int .i64 S) := fun p => (HX2.out.keep p.h).1
            have f1 : ∀ p : Kp w2, p.W.cell? ⟨wr.heap.size, 1, none⟩ = some (.int .i64 K) := fun p => (HX2.out.keep p.h).2.1
            have f2 : ∀ p : Kp w2, p.W.cell? ⟨wr.heap.size, 2, none⟩ = some (.int .u64 T) := fun p => (HX2.out.keep p.h).2.2.1
            have f3 : ∀ p : Kp w2, p.W.cell? ⟨wr.heap.size, 3, none⟩ = some (.int .u64 V) := fun p => (HX2.out.keep p.h).2.2.2.1
            have f4 : ∀ p : Kp w2, p.W.cell? ⟨wr.heap.size, 4, none⟩ = some (.int .i64 X) := fun p => (HX2.out.keep p.h).2.2.2.2
            have c0 : Hid (∀ p : Kp w2, Calls Try.prog 27 #[.agg #[.int .i64 S0, .int .i64 K0, .int .u64 T0, .int .u64 V0', .int .i64 X0], .agg #[.int .i64 S, .int .i64 K, .int .u64 T, .int .u64 V, .int .i64 X]] p.W fun e w'' => e = .returned (.bool (lessI S0 K0 T0 S K T)) ∧ ∃ q : Kp w2, w'' = q.W) := hide fun p => kp_call (less_any S0 K0 T0 V0' X0 S K T V X _)
            have hne : Nonempty (Kp w2) := ⟨⟨_, Below.refl _ _⟩⟩
            obtain ⟨o3, ho3⟩ : ∃ o, lessI S0 K0 T0 S K T = o := ⟨_, rfl⟩
            rw [ho3] at c0
            have HO3 := hide ho3
            have hs1 : ((k + 1 : Nat) : Int) - 1 = (k : Int) := by omega
            have hs2 : IntKind.i64.wrap (k : Int) = (k : Int) := by simp [IntKind.wrap, IntKind.bits, IntKind.signed]; omega
            have hs3 : (0 : Int) < ((k + 1 : Nat) : Int) := by omega
            have hs4 : (k : Int) < (n : Int) := by omega
            clear hc9 hy ho3 X2
            go_wp2_with fail
            refine wp_region_kept (by kernel_rfl) (by kernel_rfl) ?_
            repeat (first
              | go_big_quiet_step (first | (go_at_call 27; exact c0.out _))
              | fail)
            refine wpQuiet_nil ?_
            intro w3 hw'
            have HB3 : Hid (Below w2.heap.size w2 w3) := by
              obtain ⟨⟨w3', hb3⟩, hw''⟩ := hw'
              rw [hw'']; exact hb3
            clear hw' hne c0 d0 d1 d2 d3 d4 f0 f1 f2 f3 f4
            cases o3 with
            | false =>
              have hr := hide (hnl.out (by unfold It.less; exact HO3.out))
              go_wp2
              go_ret
              exact ⟨by rw [hr.out]; rfl, bmore HB2.out HB3.out⟩
            | true =>
              have hpre := hide (show ∀ y, (l.take (k + 1)).getLast? = some y → y.less ⟨S, K, T, V, X⟩ = true from fun y hy => by rw [hlast.out] at hy; cases hy; unfold It.less; exact HO3.out)
              have HB4 := hide (bmore HB2.out HB3.out)
              have VX4 := hide (VX2.out.keep HB3.out)
              have X4 := HX2.out.keep HB3.out
              unfold Vi at X4
              simp only [Nat.zero_add] at X4
              obtain ⟨x0, x1, x2, x3, x4⟩ := X4
              have G4 := VX4.out
              unfold Vx Vi Vf at G4
              simp only [Nat.zero_add] at G4
              obtain ⟨⟨y0, y1, y2, y3, y4⟩, z0, z1, z2, z3, z4⟩ := G4
              have hop2 := hide (hfin.out w3 HB3.out hpre.out)
              by_cases hK : K = 1
              · have hKb : (K == 1) = true := by simp [hK]
                rw [if_pos hK] at hop2
                clear hK
                go_wp2
                go_roundw
                case rel => exact ⟨k + 1 + 1, ⟨S, K, T, V, X⟩, by omega, by go_num, hop2, hide (HB4.out.grown (gb_putI w3 R S K T V X) HB4.out.size (fun k hk => by cases hk; rw [HR.out]; exact Nat.le_refl _)), hide (VX4.out.put S K T V X)⟩
                case measure => simp [intOf]; omega
              · have hKb : (K == 1) = false := by simp [hK]
                rw [if_neg hK] at hop2
                clear hK
                go_wp2
                go_roundw
                case rel => exact ⟨k + 1 + 1, ⟨gS, gK, gT, gV, gX⟩, by omega, by go_num, hop2, HB4, VX4⟩
                case measure => simp [intOf]; omega
    · obtain rfl : k = n := by omega
      have hr := hide (show stB l = true from op1_end (by rw [hl]; exact hop.out))
      go_wp2
      go_ret
      exact ⟨by rw [hr.out]; rfl, hbel.out⟩

theorem every_any (S K T V X : Int) (w : World) : Calls Try.prog 20 #[.agg #[.int .i64 S, .int .i64 K, .int .u64 T, .int .u64 V, .int .i64 X]] w fun e w' => e = .returned (.bool true) ∧ Below w.heap.size w w' := by
  go_enter Try.func20, Try.ntmps20
  go_wp2
  go_ret
  exact ⟨rfl, (Below.refl _ w).alloc (Nat.le_refl _) _⟩
theorem wn_every (w : World) : Wn w (.func (.func 20) #[] #[]) (fun _ => true) :=
  ⟨20, #[], rfl, enters_of Try.func20 (by kernel_rfl) rfl, fun W _ x => every_any x.S x.K x.T x.V x.X W⟩

/-- What Add answers. -/
def saddL (l : List It) (x : It) : List It := if stB l then ofL (l ++ [x]) else l
set_option maxHeartbeats 800000 in
theorem add_any (a : Option Addr) (n c : Nat) (l : List It) (S K T V X : Int) (w : World) (h : Is w a n c l) (hn : n ≤ 549755813888) (hw : It.wf ⟨S, K, T, V, X⟩) : Calls Try.prog 10 #[.slice a n c, .agg #[.int .i64 S, .int .i64 K, .int .u64 T, .int .u64 V, .int .i64 X]] w (Ans (saddL l ⟨S, K, T, V, X⟩) w) := by
  have B0 : Below w.heap.size w (w.alloc (Obj.cells #[Value.int IntKind.i64 S, Value.int IntKind.i64 K, Value.int IntKind.u64 T, Value.int IntKind.u64 V, Value.int IntKind.i64 X] 26)) := (Below.refl _ w).alloc (Nat.le_refl _) _
  have HB0 := hide B0
  have X0 := hide (vi_new w S K T V X)
  have H0 := hide (fun W (hW : Below w.heap.size w W) => h.below hW (Nat.le_refl _))
  have HL := hide h.1
  have HW := hide h.2.2.1
  clear h B0
  go_enter Try.func10, Try.ntmps10
  go_wp2_with fail
  refine (sok_any a n c l _ (H0.out _ HB0.out) hn).mono ?_
  obtain ⟨o, ho⟩ : ∃ o, stB l = o := ⟨_, rfl⟩
  rw [ho]
  rintro e w1 ⟨rfl, b1⟩
  have HB1 := hide (bmore HB0.out b1)
  have X1 := X0.out.keep b1
  have I1 := hide (H0.out _ HB1.out)
  clear b1 HB0 X0
  cases o with
  | false =>
    have hr : Hid (saddL l ⟨S, K, T, V, X⟩ = l) := hide (by unfold saddL; simp [ho])
    have hp := hide (pick_any (.func (.func 20) #[] #[]) _ 1 1 [l] (fun _ => true) _ (wn_every _) (lss_one I1.out hn) (by simp [HL.out]; omega) (by omega))
    have hf : [l].flatten.filter (fun _ => true) = l := by simp
    rw [hf] at hp
    have HB2 := hide (HB1.out.alloc HB1.out.size (Obj.cells #[.slice a n c] 22))
    clear ho X1 hf
    go_wp2_with fail
    refine hp.out.mono ?_
    rintro e w2 ⟨v, rfl, o2, b2⟩
    have O2 := hide o2
    have B2 := hide (bmore HB2.out b2)
    clear o2 b2 hp
    go_wp2
    go_ret
    rw [hr.out]
    exact ans_own O2.out HW.out B2.out
  | true =>
    have hr : Hid (saddL l ⟨S, K, T, V, X⟩ = ofL (l ++ [⟨S, K, T, V, X⟩])) := hide (by unfold saddL; simp [ho])
    have I2 := is_one w1 S K T V X hw
    have D1 : Below w1.heap.size w1 (w1.alloc (Obj.cells #[Value.int IntKind.i64 S, Value.int IntKind.i64 K, Value.int IntKind.u64 T, Value.int IntKind.u64 V, Value.int IntKind.i64 X] 26)) := (Below.refl _ w1).alloc (Nat.le_refl _) _
    have hp := settle_any _ 2 2 [l, [⟨S, K, T, V, X⟩]] _ (lss_two (I1.out.below D1 (Nat.le_refl _)) I2 hn (by omega)) (by simp [HL.out]; omega) (by omega)
    have hf : [l, [⟨S, K, T, V, X⟩]].flatten = l ++ [(⟨S, K, T, V, X⟩ : It)] := by simp
    rw [hf, show (w1.alloc (Obj.cells #[Value.int IntKind.i64 S, Value.int IntKind.i64 K, Value.int IntKind.u64 T, Value.int IntKind.u64 V, Value.int IntKind.i64 X] 26)).heap.size = w1.heap.size + 1 from by simp] at hp
    have HP := hide hp
    have HB2 := hide ((bmore HB1.out D1).alloc (bmore HB1.out D1).size (Obj.cells #[.slice a n c, .slice (some ⟨w1.heap.size, 0, none⟩) 1 1] 22))
    unfold Vi at X1
    simp only [Nat.zero_add] at X1
    obtain ⟨x0, x1, x2, x3, x4⟩ := X1
    clear ho hf hp D1 I2
    go_wp2_with fail
    refine HP.out.mono ?_
    rintro e w2 ⟨a', c', rfl, h1, h2, h3⟩
    have H1 := hide h1
    have H3 := hide (bmore HB2.out h3)
    clear h1 h3 HP
    go_wp2
    go_ret
    rw [hr.out]
    exact ⟨a', c', rfl, H1.out, h2, H3.out⟩

end Go.Proofs.Ytckfgpcoingphab.Clep
