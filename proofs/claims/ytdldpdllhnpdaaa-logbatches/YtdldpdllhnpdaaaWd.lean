/- LogBounds, walked: it answers true. For any number, any place, an item that may not be or none. -/
import Derived.Test.YtdldpdllhnpdaaaLc
import Derived.Test.YtdldpdllhnpdaaaLe
import Derived.Test.YtdldpdllhnpdaaaZa
namespace Go.Proofs.Ytdldpdllhnpdaaa.Clep
open Go.RowKit Go.Maps
set_option linter.unusedVariables false
set_option maxRecDepth 10000

/-- The statement's own items. -/
def bit (k : Nat) : It := ⟨bits .and .i64 (k : Int) 255, 2, 1099511627776 - (k : Int), 281474976710656 - (k : Int), -9223372036854775808⟩
theorem bit_wf (k : Nat) (hk : k ≤ 3000) : (bit k).wf := by
  have h := and_mask (k : Int) 255 (by decide)
  rw [show (((255 : Nat) : Int)) = 255 from rfl] at h
  unfold bit It.wf
  simp only
  refine ⟨⟨by omega, by omega⟩, ⟨by omega, by omega⟩, ⟨by omega, by omega⟩, ⟨by omega, by omega⟩, ⟨by omega, by omega⟩⟩
def bl (n : Nat) : List It := (List.range n).map bit
theorem bl_len (n : Nat) : (bl n).length = n := by simp [bl]
theorem bl_succ (n : Nat) : bl (n + 1) = bl n ++ [bit n] := by unfold bl; rw [List.range_succ, List.map_append]; rfl
theorem bl_wf (n : Nat) (hn : n ≤ 3000) : ∀ x ∈ bl n, x.wf := by
  intro x hx
  obtain ⟨i, hi, rfl⟩ := List.mem_map.1 hx
  have := List.mem_range.1 hi
  exact bit_wf i (by omega)
theorem bl_at (n p : Nat) (hp : p < n) : (bl n)[p]? = some (bit p) := by
  unfold bl
  rw [List.getElem?_map, List.getElem?_range hp]; rfl
theorem cvs_setK : ∀ (l : List It) (p : Nat) (x : It) (k : Int), l[p]? = some x → (cvs l).set (p * 5 + 1) (.int .i64 k) = cvs (l.set p ⟨x.S, k, x.T, x.V, x.X⟩)
  | [], p, x, k, h => by simp at h
  | y :: r, 0, x, k, h => by
    simp only [List.getElem?_cons_zero, Option.some.injEq] at h
    subst h
    simp [cvs, cv]
  | y :: r, p + 1, x, k, h => by
    simp only [List.getElem?_cons_succ] at h
    have ih := cvs_setK r p x k h
    have e : cvs (y :: r) = cv y ++ cvs r := by simp [cvs]
    have e2 : cvs ((y :: r).set (p + 1) ⟨x.S, k, x.T, x.V, x.X⟩) = cv y ++ cvs (r.set p ⟨x.S, k, x.T, x.V, x.X⟩) := by simp [cvs]
    rw [e, e2, ← ih, List.set_append, if_neg (by simp [cv]; omega)]
    congr 2
    simp [cv]; omega
theorem own_shape {w : World} {B : Nat} {v : Value} {zs : List Int} (h : Own w B v zs) : ∃ a c, v = .slice a zs.length c := by
  obtain ⟨_, ⟨rfl, hn⟩ | ⟨g, c, _, rfl, _⟩⟩ := h
  · exact ⟨none, 0, by rw [hn]⟩
  · exact ⟨_, _, rfl⟩
/-- What stands in memory: the items, one of them turned or none. -/
def Bd (w wr : World) (g n c : Nat) (l : List It) : Prop := OwnI wr w.heap.size (.slice (some ⟨g, 0, none⟩) n c) l ∧ l.length = n ∧ (∀ x ∈ l, x.wf) ∧ Below w.heap.size w wr
theorem Bd.is {w wr : World} {g n c : Nat} {l : List It} (h : Bd w wr g n c l) : Is wr (some ⟨g, 0, none⟩) n c l := by
  obtain ⟨h1, h2, h3, _⟩ := h
  obtain ⟨ao, cap, e, _, hi, _⟩ := ownI_is h1 h3
  rw [h2] at e hi
  injection e with e1 e2 e3
  subst e1 e3
  exact hi

set_option maxRecDepth 8000 in
set_option maxHeartbeats 4000000 in
theorem bounds_walk (x y : Int) (bad : Bool) (w : World) :
    Calls Try.prog 3 #[.int .i64 x, .int .i64 y, .bool bad] w fun e w' => e = .returned (.bool true) ∧ Below w.heap.size w w' := by
  obtain ⟨m, hm, hm2⟩ : ∃ m : Nat, bits .and .i64 x 255 = (m : Int) ∧ m ≤ 255 := by
    have h := and_mask x 255 (by decide)
    rw [show (((255 : Nat) : Int)) = 255 from rfl] at h
    obtain ⟨m, hm⟩ := Int.eq_ofNat_of_zero_le h.1
    exact ⟨m, hm, by omega⟩
  obtain ⟨n, hn⟩ : ∃ n, n = m + 1900 := ⟨_, rfl⟩
  have hni : (m : Int) + 1900 = (n : Int) := by omega
  have hn1 : 1900 ≤ n := by omega
  have hn2 : n ≤ 2155 := by omega
  clear hn
  go_enter Try.func3, Try.ntmps3
  go_wp2_with fail
  go_loopw [7, 8] (fun v i wr => ∃ k : Nat, k ≤ n ∧ i = .int .i64 k ∧ Hid (OwnI wr w.heap.size v (bl k)) ∧ Hid (Below w.heap.size w wr)) (fun _ i _ => n - (intOf i).toNat)
  case atStart => exact ⟨0, by omega, rfl, hide (ownI_nil _ _), hide (Below.refl _ _)⟩
  case round =>
    obtain ⟨k, hk, rfl, hown, hbel⟩ := hrel
    by_cases hlt : k < n
    · have hlt' : (k : Int) < (n : Int) := by omega
      have hwf := bit_wf k (by omega)
      unfold bit at hwf
      have IS := is_one wr _ _ _ _ _ hwf
      have BA := (Below.refl _ wr).alloc (Nat.le_refl _) (Obj.cells #[Value.int IntKind.i64 (bits BinOp.and IntKind.i64 (k : Int) 255), Value.int IntKind.i64 2, Value.int IntKind.u64 (1099511627776 - (k : Int)), Value.int IntKind.u64 (281474976710656 - (k : Int)), Value.int IntKind.i64 (-9223372036854775808)] 25)
      have HO := hide (ownI_keep hown.out BA)
      have HIS := hide IS
      have HBA := hide (bmore hbel.out BA)
      have HS := hide (bl_succ k)
      have hl := bl_len k
      have t1 : ((1099511627776 - (k : Int)) % 18446744073709551616) = 1099511627776 - (k : Int) := by omega
      have t2 : ((281474976710656 - (k : Int)) % 18446744073709551616) = 281474976710656 - (k : Int) := by omega
      have t3 : ((k : Int) % 18446744073709551616) = (k : Int) := by omega
      clear hwf IS BA
      go_wp2_with (first
        | (at_builtin; refine wpList_append_items rfl _ _ rfl w.heap.size _ (bl k) rfl HO.out _ 1 1 _ rfl HIS.out (by omega) HBA.out.size ?_)
        | fail)
      intro v' w' ho' hg' hk'
      have HO2 := hide (show OwnI w' w.heap.size v' (bl (k + 1)) by rw [HS.out]; exact ho')
      have HB2 := hide (HBA.out.grown hg' HBA.out.size hk')
      clear ho' hg' hk' HO HBA HIS
      go_wp2
      go_roundw
      case rel => exact ⟨k + 1, by omega, by go_num, HO2, HB2⟩
      case measure => simp [intOf]; omega
    · obtain rfl : k = n := by omega
      have hl := bl_len k
      have hwf := bl_wf k (by omega)
      obtain ⟨g, c, hv⟩ : ∃ g c, u7 = .slice (some ⟨g, 0, none⟩) k c := by
        obtain ⟨_, ⟨_, e⟩ | ⟨g, c, _, e, _⟩⟩ := hown.out
        · omega
        · rw [hl] at e; exact ⟨g, c, e⟩
      subst hv
      have HB0 : Hid (Bd w wr g k c (bl k)) := hide ⟨hown.out, hl, hwf, hbel.out⟩
      obtain ⟨P, hP, hPl⟩ := place_of y 65535 (by decide) (k : Int) k rfl (by omega)
      rw [show (((65535 : Nat) : Int)) = 65535 from rfl] at hP
      have hSET : Hid (Bd w (wr.setCell ⟨g, P * 5 + 1, none⟩ (.int .i64 3)) g k c ((bl k).set P ⟨(bit P).S, 3, (bit P).T, (bit P).V, (bit P).X⟩)) := hide (by
        have ho := hown.out
        unfold OwnI at ho
        rw [hl] at ho
        have hs := ho.stored (P * 5 + 1) (.int .i64 3)
        rw [cvs_setK (bl k) P (bit P) 3 (bl_at k P hPl)] at hs
        refine ⟨?_, by rw [List.length_set, hl], ?_, hbel.out.grown hs.2 hbel.out.size (fun q hq => by cases hq; exact (World.ownsRow.lt hown.out g rfl).1)⟩
        · unfold OwnI; rw [List.length_set, hl]; exact hs.1
        · intro z hz
          rcases List.mem_or_eq_of_mem_set hz with q | rfl
          · exact hwf z q
          · have := bit_wf P (by omega)
            unfold It.wf at *
            exact ⟨this.1, ⟨by show (-9223372036854775808 : Int) ≤ 3; omega, by show (3 : Int) ≤ 9223372036854775807; omega⟩, this.2.2⟩)
      have hcP : ∃ v, wr.cell? ⟨g, P * 5 + 1, none⟩ = some v := by
        have ho := hown.out
        unfold OwnI at ho
        rw [hl] at ho
        rw [ho.cellAt (P * 5 + 1) (by omega)]
        exact ⟨_, List.getElem?_eq_getElem (by rw [cvs_len, hl]; omega)⟩
      obtain ⟨v1, hcP⟩ := hcP
      have hfP : wr.frozen? ⟨g, P * 5 + 1, none⟩ = false := by
        have ho := hown.out
        unfold OwnI at ho
        rw [hl] at ho
        exact ho.frozenAt (P * 5 + 1)
      have hkc : Hid (k ≤ c) := hide (by have := HB0.out.is.2.1.1; exact this)
      have hkn : ¬ ((k : Int) < (k : Int)) := by omega
      clear hown hbel hwf hl
      cases bad with
      | false =>
        go_wp2_with fail
        obtain ⟨W, hW⟩ : ∃ W, W = wr := ⟨_, rfl⟩
        rw [← hW] at HB0 ⊢
        obtain ⟨l, HL⟩ : ∃ l, Hid (Bd w W g k c l) := ⟨_, HB0⟩
        clear hW
        have BT := hide (batch_any _ k c l W HL.out.is (by omega))
        have HB := hide HL.out.2.2.2
        have HI := hide (fun w1 (hb : Below W.heap.size W w1) => HL.out.is.below hb (Nat.le_refl _))
        clear hSET HB0 HL
        obtain ⟨E, hE⟩ : ∃ E, bmay l = E := ⟨_, rfl⟩
        rw [hE] at BT
        have HE := hide hE
        clear hE
        refine BT.out.mono ?_
        rintro e w1 ⟨v1, rfl, ho1, hb1⟩
        obtain ⟨a1, c1, rfl⟩ := own_shape ho1
        have HLB := hide (show E ≠ 0 → (if E = 0 then bt l else []).length = 0 from fun h => by rw [if_neg h]; rfl)
        generalize (if E = 0 then bt l else []).length = LB at *
        have HBW := hide (HB.out.trans (hb1.mono HB.out.size))
        have HI1 := hide (HI.out _ hb1)
        have B2 := hide (batch_bad none 0 0 [] w1 (is_nil w1) (by omega) 1 rfl (by decide))
        clear ho1 hb1 BT HI HB
        go_wp2_with fail
        refine B2.out.mono ?_
        rintro e w2 ⟨rfl, hb2⟩
        have HB2 := hide (bmore HBW.out hb2)
        have RM := hide (rmay_any _ k c l w2 (HI1.out.below hb2 (Nat.le_refl _)) (by omega))
        rw [HE.out] at RM
        clear hb2 B2 HI1 HBW
        go_wp2_with fail
        refine RM.out.mono ?_
        rintro e w3 ⟨rfl, hb3⟩
        have HB3 := hide (bmore HB2.out hb3)
        have AW := hide (lawake_any w3)
        clear hb3 RM HB2
        by_cases hE0 : E = 0
        · subst hE0
          go_wp2_with fail
          refine AW.out.mono ?_
          rintro e w4 ⟨rfl, hb4⟩
          have HB4 := hide (bmore HB3.out hb4)
          clear hb4 AW
          go_wp2
          go_ret
          exact ⟨rfl, HB4.out⟩
        · obtain rfl : LB = 0 := HLB.out hE0
          clear HLB
          go_wp2_with fail
          refine AW.out.mono ?_
          rintro e w4 ⟨rfl, hb4⟩
          have HB4 := hide (bmore HB3.out hb4)
          clear hb4 AW
          go_wp2
          go_ret
          exact ⟨rfl, HB4.out⟩
      | true =>
        go_wp2_with fail
        generalize hW : wr.setCell ⟨g, P * 5 + 1, none⟩ (.int .i64 3) = W at *
        obtain ⟨l, HL⟩ : ∃ l, Hid (Bd w W g k c l) := ⟨_, hSET⟩
        clear hW
        have BT := hide (batch_any _ k c l W HL.out.is (by omega))
        have HB := hide HL.out.2.2.2
        have HI := hide (fun w1 (hb : Below W.heap.size W w1) => HL.out.is.below hb (Nat.le_refl _))
        clear hSET HB0 HL
        obtain ⟨E, hE⟩ : ∃ E, bmay l = E := ⟨_, rfl⟩
        rw [hE] at BT
        have HE := hide hE
        clear hE
        refine BT.out.mono ?_
        rintro e w1 ⟨v1, rfl, ho1, hb1⟩
        obtain ⟨a1, c1, rfl⟩ := own_shape ho1
        have HLB := hide (show E ≠ 0 → (if E = 0 then bt l else []).length = 0 from fun h => by rw [if_neg h]; rfl)
        generalize (if E = 0 then bt l else []).length = LB at *
        have HBW := hide (HB.out.trans (hb1.mono HB.out.size))
        have HI1 := hide (HI.out _ hb1)
        have B2 := hide (batch_bad none 0 0 [] w1 (is_nil w1) (by omega) 1 rfl (by decide))
        clear ho1 hb1 BT HI HB
        go_wp2_with fail
        refine B2.out.mono ?_
        rintro e w2 ⟨rfl, hb2⟩
        have HB2 := hide (bmore HBW.out hb2)
        have RM := hide (rmay_any _ k c l w2 (HI1.out.below hb2 (Nat.le_refl _)) (by omega))
        rw [HE.out] at RM
        clear hb2 B2 HI1 HBW
        go_wp2_with fail
        refine RM.out.mono ?_
        rintro e w3 ⟨rfl, hb3⟩
        have HB3 := hide (bmore HB2.out hb3)
        have AW := hide (lawake_any w3)
        clear hb3 RM HB2
        by_cases hE0 : E = 0
        · subst hE0
          go_wp2_with fail
          refine AW.out.mono ?_
          rintro e w4 ⟨rfl, hb4⟩
          have HB4 := hide (bmore HB3.out hb4)
          clear hb4 AW
          go_wp2
          go_ret
          exact ⟨rfl, HB4.out⟩
        · obtain rfl : LB = 0 := HLB.out hE0
          clear HLB
          go_wp2_with fail
          refine AW.out.mono ?_
          rintro e w4 ⟨rfl, hb4⟩
          have HB4 := hide (bmore HB3.out hb4)
          clear hb4 AW
          go_wp2
          go_ret
          exact ⟨rfl, HB4.out⟩

end Go.Proofs.Ytdldpdllhnpdaaa.Clep
