/- What the document's own add does when called: for any items. Conditions: at most 2^39 items. -/
import Derived.Test.YtckfgpcoingphaaSAwake
namespace Go.Proofs.Ytckfgpcoingphaa.Clep
open Go.RowKit
set_option linter.unusedVariables false

/-- The row of the call's own, the item in its variable, and what was there. -/
structure Ra (w wr : World) (R0 : Nat) (S K T V X : Int) (v : Value) (out : List It) : Prop where
  own : OwnI wr (R0 + 1) v out
  vx : Vi wr R0 0 S K T V X
  bel : Below w.heap.size w wr
  r0 : R0 = w.heap.size
  wf : ∀ z ∈ out, z.wf
theorem Ra.keep {w wr w' : World} {R0 : Nat} {S K T V X : Int} {v : Value} {out : List It} (h : Ra w wr R0 S K T V X v out) (hb : Below wr.heap.size wr w') : Ra w w' R0 S K T V X v out :=
  ⟨ownI_keep h.own hb, h.vx.keep hb, bmore h.bel hb, h.r0, h.wf⟩
theorem Ra.app {w wr w' : World} {R0 : Nat} {S K T V X : Int} {v v' : Value} {out : List It} {z : It} (h : Ra w wr R0 S K T V X v out) (hg : wr.grownBy w' v.ownBlock) (ho : OwnI w' (R0 + 1) v' (out ++ [z])) (hz : z.wf) : Ra w w' R0 S K T V X v' (out ++ [z]) := by
  have hlt := fun k hk => (World.ownsRow.lt h.own k hk).1
  refine ⟨ho, h.vx.grown hg (fun e => by have := hlt _ e.symm; omega), h.bel.grown hg h.bel.size (fun k hk => by have := hlt k hk; have := h.r0; omega), h.r0, fun y hy => ?_⟩
  rcases List.mem_append.1 hy with h1 | h1
  · exact h.wf y h1
  · rw [List.mem_singleton.1 h1]; exact hz

set_option maxRecDepth 4000 in
set_option maxHeartbeats 8000000 in
theorem refadd_any (a : Option Addr) (n c : Nat) (l : List It) (S K T V X : Int) (w : World) (h : Is w a n c l) (hn : n ≤ 549755813888) (hc : c ≤ 9223372036854775807) (hw : It.wf ⟨S, K, T, V, X⟩) : Calls Try.prog 41 #[.slice a n c, .agg #[.int .i64 S, .int .i64 K, .int .u64 T, .int .u64 V, .int .i64 X]] w (Ans (addL l ⟨S, K, T, V, X⟩) w) := by
  have hl := h.1
  have H0 := hide (fun W (hW : Below w.heap.size w W) => h.below hW (Nat.le_refl _))
  have HWl := hide h.2.2.1
  have HWx := hide hw
  obtain ⟨A, hA⟩ : ∃ A, addGo ⟨S, K, T, V, X⟩ l [] false = A := ⟨_, rfl⟩
  have HA := hide (show addL l ⟨S, K, T, V, X⟩ = A.getD l by unfold addL; rw [hA])
  have HA0 := hide hA
  have R0 : Hid (Ra w (w.alloc (Obj.cells #[Value.int IntKind.i64 S, Value.int IntKind.i64 K, Value.int IntKind.u64 T, Value.int IntKind.u64 V, Value.int IntKind.i64 X] 29)) w.heap.size S K T V X (.slice none 0 0) []) := hide ⟨ownI_nil _ _, vi_new w S K T V X, (Below.refl _ _).alloc (Nat.le_refl _) _, rfl, by simp⟩
  clear h hA hw
  go_enter Try.func41, Try.ntmps41
  go_wp2_with fail
  obtain ⟨Rx, hRx⟩ : ∃ R, R = w.heap.size := ⟨_, rfl⟩
  rw [← hRx] at R0 ⊢
  have HRx := hide hRx
  clear hRx
  go_loopw [5, 6, 7] (fun s5 s6 s7 wr => ∃ (i : Nat) (out : List It) (put : Bool), i ≤ n ∧ s7 = .int .i64 i ∧ s6 = .bool put ∧ Hid (Ra w wr Rx S K T V X s5 out) ∧ Hid (addGo ⟨S, K, T, V, X⟩ (l.drop i) out put = A) ∧ Hid (out.length ≤ i + if put then 1 else 0)) (fun _ _ s7 _ => n - (intOf s7).toNat)
  case atStart => exact ⟨0, [], false, by omega, rfl, rfl, R0, by simpa using HA0, hide (by simp)⟩
  case round =>
    obtain ⟨i, out, put, hi, rfl, rfl, hra, hgo, hol⟩ := hrel
    have hol2 : Hid (out.length ≤ i + 1) := hide (by have := hol.out; split at this <;> omega)
    have hbs : Hid (Rx + 1 ≤ wr.heap.size) := hide hra.out.vx.lt
    by_cases hlt : i < n
    · obtain ⟨b0, off, ea, hcc⟩ := (H0.out _ hra.out.bel).2.2.2 (by omega)
      subst ea
      obtain ⟨y, hy⟩ : ∃ y, l[i]? = some y := ⟨_, List.getElem?_eq_getElem (by rw [hl]; exact hlt)⟩
      have hv := hcc i y hy
      have hyw := hide (HWl.out y (List.mem_of_getElem? hy))
      have hdr : l.drop i = y :: l.drop (i + 1) := by
        have := List.drop_eq_getElem_cons (l := l) (i := i) (by rw [hl]; exact hlt)
        rw [this]
        congr 1
        rw [List.getElem?_eq_getElem (by rw [hl]; exact hlt)] at hy
        simpa using hy
      have hstep := hide hgo.out
      rw [hdr] at hstep
      unfold addGo at hstep
      obtain ⟨yS, yK, yT, yV, yX⟩ := y
      unfold Vt Vi at hv
      simp only at hv
      obtain ⟨v0, v1, v2, v3, v4⟩ := hv
      have ra1 := hide (hra.out.keep ((Below.refl _ _).alloc (Nat.le_refl _) (Obj.cells #[Value.int IntKind.i64 yS, Value.int IntKind.i64 yK, Value.int IntKind.u64 yT, Value.int IntKind.u64 yV, Value.int IntKind.i64 yX] 29)))
      have Y1 := hide (vi_new wr yS yK yT yV yX)
      have hYb : Hid (some wr.heap.size ≠ u5.ownBlock) := hide fun e => by have := (World.ownsRow.lt hra.out.own _ e.symm).2; omega
      have x1 := ra1.out.vx
      unfold Vi at x1
      simp only [Nat.zero_add] at x1
      obtain ⟨x0, x1, x2, x3, x4⟩ := x1
      obtain ⟨o1, ho1⟩ : ∃ o, It.hides (⟨yS, yK, yT, yV, yX⟩ : It) (⟨S, K, T, V, X⟩ : It) = o := ⟨_, rfl⟩
      obtain ⟨o2, ho2⟩ : ∃ o, It.same (⟨S, K, T, V, X⟩ : It) (⟨yS, yK, yT, yV, yX⟩ : It) = o := ⟨_, rfl⟩
      obtain ⟨o3, ho3⟩ : ∃ o, It.wins (⟨S, K, T, V, X⟩ : It) (⟨yS, yK, yT, yV, yX⟩ : It) = o := ⟨_, rfl⟩
      obtain ⟨o4, ho4⟩ : ∃ o, It.less (⟨S, K, T, V, X⟩ : It) (⟨yS, yK, yT, yV, yX⟩ : It) = o := ⟨_, rfl⟩
      obtain ⟨o5, ho5⟩ : ∃ o, It.hides (⟨S, K, T, V, X⟩ : It) (⟨yS, yK, yT, yV, yX⟩ : It) = o := ⟨_, rfl⟩
      rw [ho1, ho2, ho3, ho4, ho5] at hstep
      unfold It.hides at ho1 ho5
      unfold It.same at ho2
      unfold It.wins at ho3
      unfold It.less at ho4
      simp only at ho1 ho2 ho3 ho4 ho5
      have HO1 := hide ho1
      have HO2 := hide ho2
      have HO3 := hide ho3
      have HO4 := hide ho4
      have HO5 := hide ho5
      clear hcc hy hdr hra hgo ho1 ho2 ho3 ho4 ho5
      cases o1 with
      | true =>
        go_wp2_with fail
        refine (refhides_any yS yK yT yV yX S K T V X _).mono ?_
        rw [HO1.out]
        rintro e w2 ⟨rfl, b2⟩
        have ra2 := hide (ra1.out.keep b2)
        have Y2 := hide (Y1.out.keep b2)
        clear x0 x1 x2 x3 x4 v0 v1 v2 v3 v4 ra1 Y1 b2
        have qx := ra2.out.vx
        unfold Vi at qx
        simp only [Nat.zero_add] at qx
        obtain ⟨x0, x1, x2, x3, x4⟩ := qx
        have qy := Y2.out
        unfold Vi at qy
        simp only [Nat.zero_add] at qy
        obtain ⟨y0, y1, y2, y3, y4⟩ := qy
        have hr : Hid (addL l (⟨S, K, T, V, X⟩ : It) = l) := hide (by rw [HA.out, ← hstep.out]; simp)
        have II := hide (H0.out _ ra2.out.bel)
        go_wp2
        go_ret
        rw [hr.out]
        unfold Ans
        rw [hl]
        exact ⟨_, c, rfl, II.out, hc, ra2.out.bel⟩
      | false =>
        go_wp2_with fail
        refine (refhides_any yS yK yT yV yX S K T V X _).mono ?_
        rw [HO1.out]
        rintro e w2 ⟨rfl, b2⟩
        have ra2 := hide (ra1.out.keep b2)
        have Y2 := hide (Y1.out.keep b2)
        clear x0 x1 x2 x3 x4 v0 v1 v2 v3 v4 ra1 Y1 b2
        have qx := ra2.out.vx
        unfold Vi at qx
        simp only [Nat.zero_add] at qx
        obtain ⟨x0, x1, x2, x3, x4⟩ := qx
        have qy := Y2.out
        unfold Vi at qy
        simp only [Nat.zero_add] at qy
        obtain ⟨y0, y1, y2, y3, y4⟩ := qy
        cases o2 with
        | true =>
          go_wp2_with fail
          refine (refsame_any S K T V X yS yK yT yV yX _).mono ?_
          rw [HO2.out]
          rintro e w3 ⟨rfl, b3⟩
          have ra3 := hide (ra2.out.keep b3)
          have Y3 := hide (Y2.out.keep b3)
          clear x0 x1 x2 x3 x4 y0 y1 y2 y3 y4 ra2 Y2 b3
          have qx := ra3.out.vx
          unfold Vi at qx
          simp only [Nat.zero_add] at qx
          obtain ⟨x0, x1, x2, x3, x4⟩ := qx
          have qy := Y3.out
          unfold Vi at qy
          simp only [Nat.zero_add] at qy
          obtain ⟨y0, y1, y2, y3, y4⟩ := qy
          cases o3 with
          | true =>
            go_wp2_with fail
            refine (refwins_any S K T V X yS yK yT yV yX _).mono ?_
            rw [HO3.out]
            rintro e w4 ⟨rfl, b4⟩
            have ra4 := hide (ra3.out.keep b4)
            have Y4 := hide (Y3.out.keep b4)
            clear x0 x1 x2 x3 x4 y0 y1 y2 y3 y4 ra3 Y3 b4
            go_wp2
            go_roundw
            case rel => exact ⟨i + 1, out, put, by omega, by go_num, rfl, ra4, hide (by have := hstep.out; simpa using this), hide (by have := hol.out; split at this <;> simp_all <;> omega)⟩
            case measure => simp [intOf]; omega
          | false =>
            go_wp2_with fail
            refine (refwins_any S K T V X yS yK yT yV yX _).mono ?_
            rw [HO3.out]
            rintro e w4 ⟨rfl, b4⟩
            have ra4 := hide (ra3.out.keep b4)
            have Y4 := hide (Y3.out.keep b4)
            clear x0 x1 x2 x3 x4 y0 y1 y2 y3 y4 ra3 Y3 b4
            have hr : Hid (addL l (⟨S, K, T, V, X⟩ : It) = l) := hide (by rw [HA.out, ← hstep.out]; simp)
            have II := hide (H0.out _ ra4.out.bel)
            go_wp2
            go_ret
            rw [hr.out]
            unfold Ans
            rw [hl]
            exact ⟨_, c, rfl, II.out, hc, ra4.out.bel⟩
        | false =>
          go_wp2_with fail
          refine (refsame_any S K T V X yS yK yT yV yX _).mono ?_
          rw [HO2.out]
          rintro e w3 ⟨rfl, b3⟩
          have ra3 := hide (ra2.out.keep b3)
          have Y3 := hide (Y2.out.keep b3)
          clear x0 x1 x2 x3 x4 y0 y1 y2 y3 y4 ra2 Y2 b3
          have qx := ra3.out.vx
          unfold Vi at qx
          simp only [Nat.zero_add] at qx
          obtain ⟨x0, x1, x2, x3, x4⟩ := qx
          have qy := Y3.out
          unfold Vi at qy
          simp only [Nat.zero_add] at qy
          obtain ⟨y0, y1, y2, y3, y4⟩ := qy
          cases put with
          | true =>
            have hlx : Hid (out.length + 1 ≤ 1099511627776) := hide (by have := hol2.out; omega)
            cases o5 with
            | true =>
              go_wp2_with fail
              refine (refhides_any S K T V X yS yK yT yV yX _).mono ?_
              rw [HO5.out]
              rintro e w4 ⟨rfl, b4⟩
              have ra4 := hide (ra3.out.keep b4)
              have Y4 := hide (Y3.out.keep b4)
              clear x0 x1 x2 x3 x4 y0 y1 y2 y3 y4 ra3 Y3 b4
              go_wp2
              go_roundw
              case rel => exact ⟨i + 1, out, true, by omega, by go_num, rfl, ra4, hide (by have := hstep.out; simpa using this), hide (by have := hol.out; simp at this ⊢; omega)⟩
              case measure => simp [intOf]; omega
            | false =>
              go_wp2_with fail
              refine (refhides_any S K T V X yS yK yT yV yX _).mono ?_
              rw [HO5.out]
              rintro e w4 ⟨rfl, b4⟩
              have ra4 := hide (ra3.out.keep b4)
              have Y4 := hide (Y3.out.keep b4)
              clear x0 x1 x2 x3 x4 y0 y1 y2 y3 y4 ra3 Y3 b4
              have qx := ra4.out.vx
              unfold Vi at qx
              simp only [Nat.zero_add] at qx
              obtain ⟨x0, x1, x2, x3, x4⟩ := qx
              have qy := Y4.out
              unfold Vi at qy
              simp only [Nat.zero_add] at qy
              obtain ⟨y0, y1, y2, y3, y4⟩ := qy
              have ra4a := hide (ra4.out.keep ((Below.refl _ _).alloc (Nat.le_refl _) (Obj.cells #[Value.int IntKind.i64 yS, Value.int IntKind.i64 yK, Value.int IntKind.u64 yT, Value.int IntKind.u64 yV, Value.int IntKind.i64 yX] 29)))
              have Y4a := hide (Y4.out.keep ((Below.refl _ _).alloc (Nat.le_refl _) (Obj.cells #[Value.int IntKind.i64 yS, Value.int IntKind.i64 yK, Value.int IntKind.u64 yT, Value.int IntKind.u64 yV, Value.int IntKind.i64 yX] 29)))
              have IA4 := hide (is_one w4 yS yK yT yV yX hyw.out)
              have hs4 : Hid (Rx + 1 ≤ (w4.alloc (Obj.cells #[Value.int IntKind.i64 yS, Value.int IntKind.i64 yK, Value.int IntKind.u64 yT, Value.int IntKind.u64 yV, Value.int IntKind.i64 yX] 29)).heap.size) := hide ra4a.out.vx.lt
              go_wp2_with (at_builtin; refine wpList_append_items rfl _ _ rfl (Rx + 1) _ out rfl ra4a.out.own _ 1 1 [(⟨yS, yK, yT, yV, yX⟩ : It)] rfl IA4.out hlx.out hs4.out ?_; intro v5 w5 o5 g5 k5)
              have ra5 := hide (ra4a.out.app g5 o5 hyw.out)
              go_roundw
              case rel => exact ⟨i + 1, out ++ [(⟨yS, yK, yT, yV, yX⟩ : It)], true, by omega, by go_num, rfl, ra5, hide (by have := hstep.out; simpa using this), hide (by have := hol.out; simp at this ⊢; omega)⟩
              case measure => simp [intOf]; omega
          | false =>
            cases o4 with
            | true =>
              go_wp2_with fail
              refine (refless_any S K T V X yS yK yT yV yX _).mono ?_
              rw [HO4.out]
              rintro e w4 ⟨rfl, b4⟩
              have ra4 := hide (ra3.out.keep b4)
              have Y4 := hide (Y3.out.keep b4)
              clear x0 x1 x2 x3 x4 y0 y1 y2 y3 y4 ra3 Y3 b4
              have qx := ra4.out.vx
              unfold Vi at qx
              simp only [Nat.zero_add] at qx
              obtain ⟨x0, x1, x2, x3, x4⟩ := qx
              have qy := Y4.out
              unfold Vi at qy
              simp only [Nat.zero_add] at qy
              obtain ⟨y0, y1, y2, y3, y4⟩ := qy
              have hlx : Hid (out.length + 1 ≤ 1099511627776) := hide (by have := hol2.out; omega)
              have hlx2 : Hid ((out ++ [(⟨S, K, T, V, X⟩ : It)]).length + 1 ≤ 1099511627776) := hide (by have := hol2.out; simp; omega)
              have ra4a := hide (ra4.out.keep ((Below.refl _ _).alloc (Nat.le_refl _) (Obj.cells #[Value.int IntKind.i64 S, Value.int IntKind.i64 K, Value.int IntKind.u64 T, Value.int IntKind.u64 V, Value.int IntKind.i64 X] 29)))
              have Y4a := hide (Y4.out.keep ((Below.refl _ _).alloc (Nat.le_refl _) (Obj.cells #[Value.int IntKind.i64 S, Value.int IntKind.i64 K, Value.int IntKind.u64 T, Value.int IntKind.u64 V, Value.int IntKind.i64 X] 29)))
              have IA4 := hide (is_one w4 S K T V X HWx.out)
              have hs4 : Hid (Rx + 1 ≤ (w4.alloc (Obj.cells #[Value.int IntKind.i64 S, Value.int IntKind.i64 K, Value.int IntKind.u64 T, Value.int IntKind.u64 V, Value.int IntKind.i64 X] 29)).heap.size) := hide ra4a.out.vx.lt
              have hYc : Hid (∀ v6 w6, OwnI w6 (Rx + 1) v6 (out ++ [(⟨S, K, T, V, X⟩ : It)]) → (w4.alloc (Obj.cells #[Value.int IntKind.i64 S, Value.int IntKind.i64 K, Value.int IntKind.u64 T, Value.int IntKind.u64 V, Value.int IntKind.i64 X] 29)).grownBy w6 u5.ownBlock → Ra w w6 Rx S K T V X v6 (out ++ [(⟨S, K, T, V, X⟩ : It)]) ∧ Vi w6 wr.heap.size 0 yS yK yT yV yX) := hide fun v6 w6 o6 g6 => ⟨ra4a.out.app g6 o6 HWx.out, Y4a.out.grown g6 hYb.out⟩
              go_wp2_with (at_builtin; refine wpList_append_items rfl _ _ rfl (Rx + 1) _ out rfl ra4a.out.own _ 1 1 [(⟨S, K, T, V, X⟩ : It)] rfl IA4.out hlx.out hs4.out ?_; intro v5 w5 o5 g5 k5; obtain ⟨rr5, yy5⟩ := hYc.out _ _ o5 g5; have ra5 := hide rr5; have Y5 := hide yy5; clear rr5 yy5 o5 g5 k5 x0 x1 x2 x3 x4 y0 y1 y2 y3 y4; have qx := ra5.out.vx; unfold Vi at qx; simp only [Nat.zero_add] at qx; obtain ⟨x0, x1, x2, x3, x4⟩ := qx; have qy := Y5.out; unfold Vi at qy; simp only [Nat.zero_add] at qy; obtain ⟨y0, y1, y2, y3, y4⟩ := qy)
              clear ra4 Y4 ra4a Y4a IA4 hs4 hYc
              cases o5 with
              | true =>
                refine (refhides_any S K T V X yS yK yT yV yX _).mono ?_
                rw [HO5.out]
                rintro e w6 ⟨rfl, b6⟩
                have ra6 := hide (ra5.out.keep b6)
                have Y6 := hide (Y5.out.keep b6)
                clear x0 x1 x2 x3 x4 y0 y1 y2 y3 y4 ra5 Y5 b6
                go_wp2
                go_roundw
                case rel => exact ⟨i + 1, out ++ [(⟨S, K, T, V, X⟩ : It)], true, by omega, by go_num, rfl, ra6, hide (by have := hstep.out; simpa using this), hide (by have := hol.out; simp at this ⊢; omega)⟩
                case measure => simp [intOf]; omega
              | false =>
                refine (refhides_any S K T V X yS yK yT yV yX _).mono ?_
                rw [HO5.out]
                rintro e w6 ⟨rfl, b6⟩
                have ra6 := hide (ra5.out.keep b6)
                have Y6 := hide (Y5.out.keep b6)
                clear x0 x1 x2 x3 x4 y0 y1 y2 y3 y4 ra5 Y5 b6
                have qx := ra6.out.vx
                unfold Vi at qx
                simp only [Nat.zero_add] at qx
                obtain ⟨x0, x1, x2, x3, x4⟩ := qx
                have qy := Y6.out
                unfold Vi at qy
                simp only [Nat.zero_add] at qy
                obtain ⟨y0, y1, y2, y3, y4⟩ := qy
                have ra6a := hide (ra6.out.keep ((Below.refl _ _).alloc (Nat.le_refl _) (Obj.cells #[Value.int IntKind.i64 yS, Value.int IntKind.i64 yK, Value.int IntKind.u64 yT, Value.int IntKind.u64 yV, Value.int IntKind.i64 yX] 29)))
                have Y6a := hide (Y6.out.keep ((Below.refl _ _).alloc (Nat.le_refl _) (Obj.cells #[Value.int IntKind.i64 yS, Value.int IntKind.i64 yK, Value.int IntKind.u64 yT, Value.int IntKind.u64 yV, Value.int IntKind.i64 yX] 29)))
                have IA6 := hide (is_one w6 yS yK yT yV yX hyw.out)
                have hs6 : Hid (Rx + 1 ≤ (w6.alloc (Obj.cells #[Value.int IntKind.i64 yS, Value.int IntKind.i64 yK, Value.int IntKind.u64 yT, Value.int IntKind.u64 yV, Value.int IntKind.i64 yX] 29)).heap.size) := hide ra6a.out.vx.lt
                go_wp2_with (at_builtin; refine wpList_append_items rfl _ _ rfl (Rx + 1) _ (out ++ [(⟨S, K, T, V, X⟩ : It)]) rfl ra6a.out.own _ 1 1 [(⟨yS, yK, yT, yV, yX⟩ : It)] rfl IA6.out hlx2.out hs6.out ?_; intro v7 w7 o7 g7 k7)
                have ra7 := hide (ra6a.out.app g7 o7 hyw.out)
                go_roundw
                case rel => exact ⟨i + 1, out ++ [(⟨S, K, T, V, X⟩ : It)] ++ [(⟨yS, yK, yT, yV, yX⟩ : It)], true, by omega, by go_num, rfl, ra7, hide (by have := hstep.out; simpa using this), hide (by have := hol.out; simp at this ⊢; omega)⟩
                case measure => simp [intOf]; omega
            | false =>
              go_wp2_with fail
              refine (refless_any S K T V X yS yK yT yV yX _).mono ?_
              rw [HO4.out]
              rintro e w4 ⟨rfl, b4⟩
              have ra4 := hide (ra3.out.keep b4)
              have Y4 := hide (Y3.out.keep b4)
              clear x0 x1 x2 x3 x4 y0 y1 y2 y3 y4 ra3 Y3 b4
              have qx := ra4.out.vx
              unfold Vi at qx
              simp only [Nat.zero_add] at qx
              obtain ⟨x0, x1, x2, x3, x4⟩ := qx
              have qy := Y4.out
              unfold Vi at qy
              simp only [Nat.zero_add] at qy
              obtain ⟨y0, y1, y2, y3, y4⟩ := qy
              have hlx : Hid (out.length + 1 ≤ 1099511627776) := hide (by have := hol2.out; omega)
              cases o5 with
              | true =>
                go_wp2_with fail
                refine (refhides_any S K T V X yS yK yT yV yX _).mono ?_
                rw [HO5.out]
                rintro e w5 ⟨rfl, b5⟩
                have ra5 := hide (ra4.out.keep b5)
                have Y5 := hide (Y4.out.keep b5)
                clear x0 x1 x2 x3 x4 y0 y1 y2 y3 y4 ra4 Y4 b5
                go_wp2
                go_roundw
                case rel => exact ⟨i + 1, out, false, by omega, by go_num, rfl, ra5, hide (by have := hstep.out; simpa using this), hide (by have := hol.out; simp at this ⊢; omega)⟩
                case measure => simp [intOf]; omega
              | false =>
                go_wp2_with fail
                refine (refhides_any S K T V X yS yK yT yV yX _).mono ?_
                rw [HO5.out]
                rintro e w5 ⟨rfl, b5⟩
                have ra5 := hide (ra4.out.keep b5)
                have Y5 := hide (Y4.out.keep b5)
                clear x0 x1 x2 x3 x4 y0 y1 y2 y3 y4 ra4 Y4 b5
                have qx := ra5.out.vx
                unfold Vi at qx
                simp only [Nat.zero_add] at qx
                obtain ⟨x0, x1, x2, x3, x4⟩ := qx
                have qy := Y5.out
                unfold Vi at qy
                simp only [Nat.zero_add] at qy
                obtain ⟨y0, y1, y2, y3, y4⟩ := qy
                have ra5a := hide (ra5.out.keep ((Below.refl _ _).alloc (Nat.le_refl _) (Obj.cells #[Value.int IntKind.i64 yS, Value.int IntKind.i64 yK, Value.int IntKind.u64 yT, Value.int IntKind.u64 yV, Value.int IntKind.i64 yX] 29)))
                have Y5a := hide (Y5.out.keep ((Below.refl _ _).alloc (Nat.le_refl _) (Obj.cells #[Value.int IntKind.i64 yS, Value.int IntKind.i64 yK, Value.int IntKind.u64 yT, Value.int IntKind.u64 yV, Value.int IntKind.i64 yX] 29)))
                have IA5 := hide (is_one w5 yS yK yT yV yX hyw.out)
                have hs5 : Hid (Rx + 1 ≤ (w5.alloc (Obj.cells #[Value.int IntKind.i64 yS, Value.int IntKind.i64 yK, Value.int IntKind.u64 yT, Value.int IntKind.u64 yV, Value.int IntKind.i64 yX] 29)).heap.size) := hide ra5a.out.vx.lt
                go_wp2_with (at_builtin; refine wpList_append_items rfl _ _ rfl (Rx + 1) _ out rfl ra5a.out.own _ 1 1 [(⟨yS, yK, yT, yV, yX⟩ : It)] rfl IA5.out hlx.out hs5.out ?_; intro v6 w6 o6 g6 k6)
                have ra6 := hide (ra5a.out.app g6 o6 hyw.out)
                go_roundw
                case rel => exact ⟨i + 1, out ++ [(⟨yS, yK, yT, yV, yX⟩ : It)], false, by omega, by go_num, rfl, ra6, hide (by have := hstep.out; simpa using this), hide (by have := hol.out; simp at this ⊢; omega)⟩
                case measure => simp [intOf]; omega
    · obtain rfl : i = n := by omega
      have hstep := hide hgo.out
      rw [show l.drop i = [] from by rw [← hl]; exact List.drop_length] at hstep
      unfold addGo at hstep
      have qx := hra.out.vx
      unfold Vi at qx
      simp only [Nat.zero_add] at qx
      obtain ⟨x0, x1, x2, x3, x4⟩ := qx
      cases put with
      | true =>
        have hr : Hid (addL l (⟨S, K, T, V, X⟩ : It) = out) := hide (by rw [HA.out, ← hstep.out]; simp)
        go_wp2
        go_ret
        rw [hr.out]
        exact ans_own (w1 := w) (ownI_base hra.out.own (by have := hra.out.r0; omega)) hra.out.wf hra.out.bel
      | false =>
        have hr : Hid (addL l (⟨S, K, T, V, X⟩ : It) = out ++ [(⟨S, K, T, V, X⟩ : It)]) := hide (by rw [HA.out, ← hstep.out]; simp)
        have hlx : Hid (out.length + 1 ≤ 1099511627776) := hide (by have := hol2.out; omega)
        have ra1a := hide (hra.out.keep ((Below.refl _ _).alloc (Nat.le_refl _) (Obj.cells #[Value.int IntKind.i64 S, Value.int IntKind.i64 K, Value.int IntKind.u64 T, Value.int IntKind.u64 V, Value.int IntKind.i64 X] 29)))
        have IA1 := hide (is_one wr S K T V X HWx.out)
        have hs1 : Hid (Rx + 1 ≤ (wr.alloc (Obj.cells #[Value.int IntKind.i64 S, Value.int IntKind.i64 K, Value.int IntKind.u64 T, Value.int IntKind.u64 V, Value.int IntKind.i64 X] 29)).heap.size) := hide ra1a.out.vx.lt
        go_wp2_with (at_builtin; refine wpList_append_items rfl _ _ rfl (Rx + 1) _ out rfl ra1a.out.own _ 1 1 [(⟨S, K, T, V, X⟩ : It)] rfl IA1.out hlx.out hs1.out ?_; intro v2 w2 o2 g2 k2)
        have ra2 := hide (ra1a.out.app g2 o2 HWx.out)
        go_ret
        rw [hr.out]
        exact ans_own (w1 := w) (ownI_base ra2.out.own (by have := ra2.out.r0; omega)) ra2.out.wf ra2.out.bel

end Go.Proofs.Ytckfgpcoingphaa.Clep
