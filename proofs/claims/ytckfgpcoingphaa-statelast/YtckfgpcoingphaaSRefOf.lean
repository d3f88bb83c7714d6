/- What the document's own Of, Join and Add do when called: for any items. Conditions: at most 2^38 items. -/
import Derived.Test.YtckfgpcoingphaaSRefState
namespace Go.Proofs.Ytckfgpcoingphaa.Clep
open Go.RowKit
set_option linter.unusedVariables false

theorem ans_c {l : List It} {w : World} {e : Ending} {w' : World} (h : Ans l w e w') : ∃ a n c, e = .returned (.slice a n c) ∧ (Is w' a n c l ∧ c ≤ 9223372036854775807) ∧ Below w.heap.size w w' := by
  obtain ⟨a, c, h1, h2, h3, h4⟩ := h
  exact ⟨a, _, c, h1, ⟨h2, h3⟩, h4⟩
theorem fold_snoc (l : List It) (k : Nat) (x : It) (o : List It) (h : l[k]? = some x) : (l.take (k + 1)).foldl addOk o = addOk ((l.take k).foldl addOk o) x := by
  rw [List.take_add_one, h]; simp
/-- A list value, with how long it may be. -/
def Li (w : World) (v : Value) (l : List It) : Prop := ∃ a n c, v = .slice a n c ∧ Is w a n c l ∧ c ≤ 9223372036854775807

set_option maxHeartbeats 2000000 in
theorem refof_any (a : Option Addr) (n c : Nat) (l : List It) (w : World) (h : Is w a n c l) (hn : n ≤ 274877906944) : Calls Try.prog 20 #[.slice a n c] w (Ans (ofL l) w) := by
  have hl := h.1
  have H0 := hide (fun W (hW : Below w.heap.size w W) => h.below hW (Nat.le_refl _))
  have HW := hide h.2.2.1
  have HBL : Hid (([] : List It).length ≤ 274877906944) := hide (by simp)
  clear h
  go_enter Try.func20, Try.ntmps20
  go_wp2_with fail
  go_loopw [3, 4] (fun so si wr => ∃ k : Nat, k ≤ n ∧ si = .int .i64 k ∧ Li wr so ((l.take k).foldl addOk []) ∧ Hid (Below w.heap.size w wr)) (fun _ si _ => n - (intOf si).toNat)
  case atStart => exact ⟨0, by omega, rfl, ⟨none, 0, 0, rfl, by simpa using is_nil _, by omega⟩, hide (Below.refl _ _)⟩
  case round =>
    obtain ⟨k, hk, rfl, ⟨ao, no, co, rfl, hio, hco⟩, hbel⟩ := hrel
    have HIO := hide hio
    by_cases hlt : k < n
    · obtain ⟨b0, off, ea, hc⟩ := (H0.out _ hbel.out).2.2.2 (by omega)
      subst ea
      obtain ⟨x, hx⟩ : ∃ x, l[k]? = some x := ⟨_, List.getElem?_eq_getElem (by rw [hl]; exact hlt)⟩
      have hv := hide (hc k x hx)
      have HX := hide (fold_snoc l k x ([] : List It) hx)
      have hxw := hide (HW.out x (List.mem_of_getElem? hx))
      have hno : no ≤ 549755813888 := by
        have h1 := hio.1
        have h2 := fold_len (l.take k) ([] : List It)
        rw [List.length_take] at h2
        have := HBL.out
        omega
      obtain ⟨S, K, T, V, X⟩ := x
      unfold Vt at hv
      simp only at hv
      have q := hv.out
      unfold Vi at q
      obtain ⟨v0, v1, v2, v3, v4⟩ := q
      obtain ⟨o, ho⟩ : ∃ o, okI S K T V X = o := ⟨_, rfl⟩
      have HO := hide ho
      clear hc hx hio
      go_wp2_with fail
      refine (refok_any S K T V X wr).mono ?_
      rw [ho]
      clear ho
      rintro e w1 ⟨rfl, b1⟩
      have B1 := hide (bmore hbel.out b1)
      have IO1 := hide (HIO.out.below b1 (Nat.le_refl _))
      have hv1 := hide (hv.out.keep b1)
      clear v0 v1 v2 v3 v4 b1 HIO hv
      cases o with
      | true =>
        have HXT : Hid ((l.take (k + 1)).foldl addOk ([] : List It) = addL ((l.take k).foldl addOk ([] : List It)) ⟨S, K, T, V, X⟩) := hide (by rw [HX.out]; unfold addOk; rw [if_pos (by unfold It.ok; exact HO.out)])
        have q := hv1.out
        unfold Vi at q
        obtain ⟨v0, v1, v2, v3, v4⟩ := q
        go_wp2_with fail
        refine (refadd_any _ _ _ _ S K T V X w1 IO1.out hno hco hxw.out).mono ?_
        intro e w2 hans
        obtain ⟨a2, n2, c2, rfl, i2, b2⟩ := ans_c hans
        have I2 := hide i2
        have B2 := hide (bmore B1.out b2)
        clear hans i2 b2 v0 v1 v2 v3 v4
        go_wp2
        go_roundw
        case rel => exact ⟨k + 1, by omega, by go_num, ⟨a2, n2, c2, rfl, by rw [HXT.out]; exact I2.out.1, I2.out.2⟩, B2⟩
        case measure => simp [intOf]; omega
      | false =>
        have HXT : Hid ((l.take (k + 1)).foldl addOk ([] : List It) = (l.take k).foldl addOk ([] : List It)) := hide (by rw [HX.out]; unfold addOk; rw [if_neg (by unfold It.ok; rw [HO.out]; simp)])
        go_wp2
        go_roundw
        case rel => exact ⟨k + 1, by omega, by go_num, ⟨ao, no, co, rfl, by rw [HXT.out]; exact IO1.out, hco⟩, B1⟩
        case measure => simp [intOf]; omega
    · obtain rfl : k = n := by omega
      have HE := hide (show l.take k = l by rw [← hl]; exact List.take_length)
      clear hio
      go_wp2
      go_ret
      have := HIO.out
      rw [HE.out] at this
      exact ⟨ao, co, by rw [show (ofL l).length = no from this.1]; rfl, by rw [show (ofL l).length = no from this.1]; exact this, hco, hbel.out⟩

set_option maxHeartbeats 4000000 in
theorem refjoin_any (a b : Option Addr) (n c n' c' : Nat) (l m : List It) (w : World) (h : Is w a n c l) (h' : Is w b n' c' m) (hn : n ≤ 274877906944) (hn' : n' ≤ 274877906944) (hc0 : c ≤ 9223372036854775807) : Calls Try.prog 23 #[.slice a n c, .slice b n' c'] w (Ans (ofL (l ++ m)) w) := by
  have hl := h'.1
  have H0 := hide (fun W (hW : Below w.heap.size w W) => h'.below hW (Nat.le_refl _))
  have HW := hide h'.2.2.1
  have HL := hide (fun W (hW : Below w.heap.size w W) => h.below hW (Nat.le_refl _))
  have HBL : Hid ((ofL l).length ≤ 274877906944) := hide (by have := ofL_len l; have := h.1; omega)
  have HJ := hide (ofL_join l m)
  obtain ⟨o0, ho0⟩ : ∃ o, stB l = o := ⟨_, rfl⟩
  have HS := hide ho0
  clear h h' ho0
  go_enter Try.func23, Try.ntmps23
  go_wp2_with fail
  refine (state_any a n c l w (HL.out _ (Below.refl _ _)) (by omega)).mono ?_
  rw [HS.out]
  rintro e w1 ⟨rfl, b1⟩
  have B1 := hide b1
  clear b1
  cases o0 with
  | true =>
    have L0 : Hid (Li w1 (.slice a n c) (ofL l)) := hide ⟨a, n, c, rfl, by rw [ofL_self (stB_iff.1 HS.out)]; exact HL.out _ B1.out, hc0⟩
    go_wp2_with fail
    go_loopw [5, 6] (fun so si wr => ∃ k : Nat, k ≤ n' ∧ si = .int .i64 k ∧ Li wr so ((m.take k).foldl addOk (ofL l)) ∧ Hid (Below w.heap.size w wr)) (fun _ si _ => n' - (intOf si).toNat)
    case atStart => exact ⟨0, by omega, rfl, by simpa using L0.out, B1⟩
    case round =>
      obtain ⟨k, hk, rfl, ⟨ao, no, co, rfl, hio, hco⟩, hbel⟩ := hrel
      have HIO := hide hio
      by_cases hlt : k < n'
      · obtain ⟨b0, off, ea, hc⟩ := (H0.out _ hbel.out).2.2.2 (by omega)
        subst ea
        obtain ⟨x, hx⟩ : ∃ x, m[k]? = some x := ⟨_, List.getElem?_eq_getElem (by rw [hl]; exact hlt)⟩
        have hv := hide (hc k x hx)
        have HX := hide (fold_snoc m k x (ofL l) hx)
        have hxw := hide (HW.out x (List.mem_of_getElem? hx))
        have hno : no ≤ 549755813888 := by
          have h1 := hio.1
          have h2 := fold_len (m.take k) (ofL l)
          rw [List.length_take] at h2
          have := HBL.out
          omega
        obtain ⟨S, K, T, V, X⟩ := x
        unfold Vt at hv
        simp only at hv
        have q := hv.out
        unfold Vi at q
        obtain ⟨v0, v1, v2, v3, v4⟩ := q
        obtain ⟨o, ho⟩ : ∃ o, okI S K T V X = o := ⟨_, rfl⟩
        have HO := hide ho
        clear hc hx hio
        go_wp2_with fail
        refine (refok_any S K T V X wr).mono ?_
        rw [ho]
        clear ho
        rintro e w1 ⟨rfl, b1⟩
        have B1 := hide (bmore hbel.out b1)
        have IO1 := hide (HIO.out.below b1 (Nat.le_refl _))
        have hv1 := hide (hv.out.keep b1)
        clear v0 v1 v2 v3 v4 b1 HIO hv
        cases o with
        | true =>
          have HXT : Hid ((m.take (k + 1)).foldl addOk (ofL l) = addL ((m.take k).foldl addOk (ofL l)) ⟨S, K, T, V, X⟩) := hide (by rw [HX.out]; unfold addOk; rw [if_pos (by unfold It.ok; exact HO.out)])
          have q := hv1.out
          unfold Vi at q
          obtain ⟨v0, v1, v2, v3, v4⟩ := q
          go_wp2_with fail
          refine (refadd_any _ _ _ _ S K T V X w1 IO1.out hno hco hxw.out).mono ?_
          intro e w2 hans
          obtain ⟨a2, n2, c2, rfl, i2, b2⟩ := ans_c hans
          have I2 := hide i2
          have B2 := hide (bmore B1.out b2)
          clear hans i2 b2 v0 v1 v2 v3 v4
          go_wp2
          go_roundw
          case rel => exact ⟨k + 1, by omega, by go_num, ⟨a2, n2, c2, rfl, by rw [HXT.out]; exact I2.out.1, I2.out.2⟩, B2⟩
          case measure => simp [intOf]; omega
        | false =>
          have HXT : Hid ((m.take (k + 1)).foldl addOk (ofL l) = (m.take k).foldl addOk (ofL l)) := hide (by rw [HX.out]; unfold addOk; rw [if_neg (by unfold It.ok; rw [HO.out]; simp)])
          go_wp2
          go_roundw
          case rel => exact ⟨k + 1, by omega, by go_num, ⟨ao, no, co, rfl, by rw [HXT.out]; exact IO1.out, hco⟩, B1⟩
          case measure => simp [intOf]; omega
      · obtain rfl : k = n' := by omega
        have HE := hide (show m.take k = m by rw [← hl]; exact List.take_length)
        clear hio
        go_wp2
        go_ret
        have := HIO.out
        rw [HE.out, HJ.out] at this
        exact ⟨ao, co, by rw [show (ofL (l ++ m)).length = no from this.1]; rfl, by rw [show (ofL (l ++ m)).length = no from this.1]; exact this, hco, hbel.out⟩
  | false =>
    go_wp2_with fail
    refine (refof_any a n c l w1 (HL.out _ B1.out) hn).mono ?_
    intro e w2 hans
    obtain ⟨a2, n2, c2, rfl, i2, b2⟩ := ans_c hans
    have L0 : Hid (Li w2 (.slice a2 n2 c2) (ofL l)) := hide ⟨a2, n2, c2, rfl, i2.1, i2.2⟩
    replace B1 := hide (bmore B1.out b2)
    clear hans i2 b2
    go_wp2_with fail
    go_loopw [5, 6] (fun so si wr => ∃ k : Nat, k ≤ n' ∧ si = .int .i64 k ∧ Li wr so ((m.take k).foldl addOk (ofL l)) ∧ Hid (Below w.heap.size w wr)) (fun _ si _ => n' - (intOf si).toNat)
    case atStart => exact ⟨0, by omega, rfl, by simpa using L0.out, B1⟩
    case round =>
      obtain ⟨k, hk, rfl, ⟨ao, no, co, rfl, hio, hco⟩, hbel⟩ := hrel
      have HIO := hide hio
      by_cases hlt : k < n'
      · obtain ⟨b0, off, ea, hc⟩ := (H0.out _ hbel.out).2.2.2 (by omega)
        subst ea
        obtain ⟨x, hx⟩ : ∃ x, m[k]? = some x := ⟨_, List.getElem?_eq_getElem (by rw [hl]; exact hlt)⟩
        have hv := hide (hc k x hx)
        have HX := hide (fold_snoc m k x (ofL l) hx)
        have hxw := hide (HW.out x (List.mem_of_getElem? hx))
        have hno : no ≤ 549755813888 := by
          have h1 := hio.1
          have h2 := fold_len (m.take k) (ofL l)
          rw [List.length_take] at h2
          have := HBL.out
          omega
        obtain ⟨S, K, T, V, X⟩ := x
        unfold Vt at hv
        simp only at hv
        have q := hv.out
        unfold Vi at q
        obtain ⟨v0, v1, v2, v3, v4⟩ := q
        obtain ⟨o, ho⟩ : ∃ o, okI S K T V X = o := ⟨_, rfl⟩
        have HO := hide ho
        clear hc hx hio
        go_wp2_with fail
        refine (refok_any S K T V X wr).mono ?_
        rw [ho]
        clear ho
        rintro e w1 ⟨rfl, b1⟩
        have B1 := hide (bmore hbel.out b1)
        have IO1 := hide (HIO.out.below b1 (Nat.le_refl _))
        have hv1 := hide (hv.out.keep b1)
        clear v0 v1 v2 v3 v4 b1 HIO hv
        cases o with
        | true =>
          have HXT : Hid ((m.take (k + 1)).foldl addOk (ofL l) = addL ((m.take k).foldl addOk (ofL l)) ⟨S, K, T, V, X⟩) := hide (by rw [HX.out]; unfold addOk; rw [if_pos (by unfold It.ok; exact HO.out)])
          have q := hv1.out
          unfold Vi at q
          obtain ⟨v0, v1, v2, v3, v4⟩ := q
          go_wp2_with fail
          refine (refadd_any _ _ _ _ S K T V X w1 IO1.out hno hco hxw.out).mono ?_
          intro e w2 hans
          obtain ⟨a2, n2, c2, rfl, i2, b2⟩ := ans_c hans
          have I2 := hide i2
          have B2 := hide (bmore B1.out b2)
          clear hans i2 b2 v0 v1 v2 v3 v4
          go_wp2
          go_roundw
          case rel => exact ⟨k + 1, by omega, by go_num, ⟨a2, n2, c2, rfl, by rw [HXT.out]; exact I2.out.1, I2.out.2⟩, B2⟩
          case measure => simp [intOf]; omega
        | false =>
          have HXT : Hid ((m.take (k + 1)).foldl addOk (ofL l) = (m.take k).foldl addOk (ofL l)) := hide (by rw [HX.out]; unfold addOk; rw [if_neg (by unfold It.ok; rw [HO.out]; simp)])
          go_wp2
          go_roundw
          case rel => exact ⟨k + 1, by omega, by go_num, ⟨ao, no, co, rfl, by rw [HXT.out]; exact IO1.out, hco⟩, B1⟩
          case measure => simp [intOf]; omega
      · obtain rfl : k = n' := by omega
        have HE := hide (show m.take k = m by rw [← hl]; exact List.take_length)
        clear hio
        go_wp2
        go_ret
        have := HIO.out
        rw [HE.out, HJ.out] at this
        exact ⟨ao, co, by rw [show (ofL (l ++ m)).length = no from this.1]; rfl, by rw [show (ofL (l ++ m)).length = no from this.1]; exact this, hco, hbel.out⟩

/-- The document's Add answers the same. -/
theorem saddL_eq (l : List It) (x : It) : saddL l x = if stB l && x.ok then addL l x else l := by
  unfold saddL
  cases hs : stB l with
  | false => simp
  | true =>
    have e := ofL_join l [x]
    rw [ofL_self (stB_iff.1 hs)] at e
    simp only [List.foldl_cons, List.foldl_nil] at e
    simp only [if_true, Bool.true_and]
    rw [← e]
    rfl
set_option maxHeartbeats 2000000 in
theorem refAdd_any (a : Option Addr) (n c : Nat) (l : List It) (S K T V X : Int) (w : World) (h : Is w a n c l) (hn : n ≤ 549755813888) (hc : c ≤ 9223372036854775807) (hw : It.wf ⟨S, K, T, V, X⟩) : Calls Try.prog 24 #[.slice a n c, .agg #[.int .i64 S, .int .i64 K, .int .u64 T, .int .u64 V, .int .i64 X]] w (Ans (saddL l ⟨S, K, T, V, X⟩) w) := by
  have hl := h.1
  have HB := hide ((Below.refl _ w).alloc (Nat.le_refl _) (Obj.cells #[Value.int IntKind.i64 S, Value.int IntKind.i64 K, Value.int IntKind.u64 T, Value.int IntKind.u64 V, Value.int IntKind.i64 X] 29))
  have X0 := hide (vi_new w S K T V X)
  have H0 := hide (fun W (hW : Below w.heap.size w W) => h.below hW (Nat.le_refl _))
  have HE := hide (saddL_eq l ⟨S, K, T, V, X⟩)
  have hwx := hide hw
  obtain ⟨o0, ho0⟩ : ∃ o, stB l = o := ⟨_, rfl⟩
  obtain ⟨o1, ho1⟩ : ∃ o, okI S K T V X = o := ⟨_, rfl⟩
  have HS := hide ho0
  have HO := hide ho1
  clear h hw ho0 ho1
  go_enter Try.func24, Try.ntmps24
  go_wp2_with fail
  refine (state_any a n c l _ (H0.out _ HB.out) hn).mono ?_
  rw [HS.out]
  rintro e w1 ⟨rfl, b1⟩
  have B1 := hide (bmore HB.out b1)
  have X1 := hide (X0.out.keep b1)
  have I1 := hide (H0.out _ B1.out)
  clear b1 HB X0
  cases o0 with
  | false =>
    have hr := hide (show saddL l ⟨S, K, T, V, X⟩ = l by rw [HE.out, HS.out]; simp)
    go_wp2
    go_ret
    rw [hr.out]
    unfold Ans
    rw [hl]
    exact ⟨a, c, rfl, I1.out, hc, B1.out⟩
  | true =>
    have q := X1.out
    unfold Vi at q
    simp only [Nat.zero_add] at q
    obtain ⟨v0, v1, v2, v3, v4⟩ := q
    go_wp2_with fail
    refine (refok_any S K T V X w1).mono ?_
    rw [HO.out]
    rintro e w2 ⟨rfl, b2⟩
    replace B1 := hide (bmore B1.out b2)
    replace X1 := hide (X1.out.keep b2)
    replace I1 := hide (H0.out _ B1.out)
    clear b2 v0 v1 v2 v3 v4
    cases o1 with
    | false =>
      have hr := hide (show saddL l ⟨S, K, T, V, X⟩ = l by rw [HE.out, HS.out, show It.ok ⟨S, K, T, V, X⟩ = false from by unfold It.ok; exact HO.out]; simp)
      go_wp2
      go_ret
      rw [hr.out]
      unfold Ans
      rw [hl]
      exact ⟨a, c, rfl, I1.out, hc, B1.out⟩
    | true =>
      have hr := hide (show saddL l ⟨S, K, T, V, X⟩ = addL l ⟨S, K, T, V, X⟩ by rw [HE.out, HS.out, show It.ok ⟨S, K, T, V, X⟩ = true from by unfold It.ok; exact HO.out]; simp)
      have q := X1.out
      unfold Vi at q
      simp only [Nat.zero_add] at q
      obtain ⟨v0, v1, v2, v3, v4⟩ := q
      go_wp2_with fail
      refine (refadd_any a n c l S K T V X w2 I1.out hn hc hwx.out).mono ?_
      rintro e w3 ⟨a3, c3, rfl, i3, k3, b3⟩
      have I3 := hide i3
      have B3 := hide (bmore B1.out b3)
      clear i3 b3 v0 v1 v2 v3 v4
      go_wp2
      go_ret
      rw [hr.out]
      exact ⟨a3, c3, rfl, I3.out, k3, B3.out⟩

end Go.Proofs.Ytckfgpcoingphaa.Clep
