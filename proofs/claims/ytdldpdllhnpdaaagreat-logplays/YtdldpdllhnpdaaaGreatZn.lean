/- What the document's own Bytes does when called: for at most 2000 items. No conditions. -/
import Derived.Test.YtdldpdllhnpdaaaGreatZm
namespace Go.Proofs.YtdldpdllhnpdaaaGreat.Clep
open Go.RowKit
set_option linter.unusedVariables false
set_option maxRecDepth 10000

theorem fro_bs {W W' : World} {ao : Option Addr} {len cap : Nat} {zs : List Int} (h : Bs W ao len cap zs) (hb : Fro W W') : Bs W' ao len cap zs := h.below hb (Nat.le_refl _)

set_option maxHeartbeats 8000000 in
set_option maxRecDepth 4000 in
theorem refbytes_any (ao : Option Addr) (len cap : Nat) (l : List It) (w : World) (hl : len ≤ 2000) (h : Is w ao len cap l) :
    Calls Tryz.prog 26 #[.slice ao len cap] w fun e w' => e = .returned (.string (strOfNums (ibn l))) ∧ Below w.heap.size w w' := by
  have hll := h.1
  have H1 := hide (fun W (hW : Below w.heap.size w W) => h.below hW (Nat.le_refl _))
  have HL := hide hll
  clear h
  go_enter Tryz.func26, Tryz.ntmps26
  go_wp2_with fail
  refine (refnum_any w len (by omega) (by omega)).mono ?_
  rintro e w1 ⟨rfl, b1⟩
  have B1 := hide b1
  clear b1
  go_wp2_with fail
  go_loopw [3, 4] (fun u i wr => ∃ k : Nat, k ≤ len ∧ u = .string (strOfNums (pu len ++ ibs (l.take k))) ∧ i = .int .i64 k ∧ Hid (Below w.heap.size w wr)) (fun _ i _ => len - (intOf i).toNat)
  case atStart => exact ⟨0, by omega, by simp [ibs], rfl, B1⟩
  case round =>
    obtain ⟨k, hk, rfl, rfl, hbel⟩ := hrel
    by_cases hlt : k < len
    · have hI := H1.out _ hbel.out
      obtain ⟨b, off, rfl, hc⟩ := hI.2.2.2 (by omega)
      obtain ⟨x, hx⟩ : ∃ x, l[k]? = some x := ⟨_, List.getElem?_eq_getElem (by rw [hll]; exact hlt)⟩
      have hxw := hI.2.2.1 x (List.mem_of_getElem? hx)
      have hv := hc k x hx
      have HS := hide (ibs_succ l k x hx)
      have hle := ibs_len (l.take k)
      have hpl := pu_len (len : Nat)
      rw [List.length_take] at hle
      unfold It.b at HS
      unfold It.wf at hxw
      obtain ⟨S, K, T, V, X⟩ := x
      unfold Vt Vi at hv
      simp only at hv HS hxw
      obtain ⟨v0, v1, v2, v3, v4⟩ := hv
      obtain ⟨_, _, hT, hV, hX⟩ := hxw
      have hsX := sgn_range X hX.1 hX.2
      have lT := pu_len T
      have lV := pu_len V
      have lX := pu_len (sgn X)
      clear hI hc hx
      obtain ⟨A, hA⟩ : ∃ A, pu len ++ ibs (l.take k) = A := ⟨_, rfl⟩
      have hAl : A.length ≤ 70000 := by rw [← hA, List.length_append]; omega
      have HA4 := hide (show pu len ++ ibs (l.take (k + 1)) = A ++ [S % 256, K % 256] ++ pu T ++ pu V ++ pu (sgn X) by rw [HS.out, ← hA]; simp [ib])
      have add : ∀ (a c : List Int) (W : World), a.length ≤ 80000 → c.length ≤ 10 → (Op.stringOp .add (strOfNums a) (strOfNums c)).run Tryz.prog W = .ok (.string (strOfNums (a ++ c))) W := fun a c W h1 h2 => by
        rw [← str_app]
        exact run_string_add_sum W _ _ (by rw [str_size, str_size]; omega)
      have a1 : ∀ W : World, (Op.stringOp .add (strOfNums A) (strOfNums [S % 256, K % 256])).run Tryz.prog W = .ok (.string (strOfNums (A ++ [S % 256, K % 256]))) W := fun W => add _ _ W (by omega) (by simp)
      have a2 : ∀ W : World, (Op.stringOp .add (strOfNums (A ++ [S % 256, K % 256])) (strOfNums (pu T))).run Tryz.prog W = .ok (.string (strOfNums (A ++ [S % 256, K % 256] ++ pu T))) W := fun W => add _ _ W (by simp; omega) (by omega)
      have a3 : ∀ W : World, (Op.stringOp .add (strOfNums (A ++ [S % 256, K % 256] ++ pu T)) (strOfNums (pu V))).run Tryz.prog W = .ok (.string (strOfNums (A ++ [S % 256, K % 256] ++ pu T ++ pu V))) W := fun W => add _ _ W (by simp only [List.length_append, List.length_cons, List.length_nil]; omega) (by omega)
      have a4 : ∀ W : World, (Op.stringOp .add (strOfNums (A ++ [S % 256, K % 256] ++ pu T ++ pu V)) (strOfNums (pu (sgn X)))).run Tryz.prog W = .ok (.string (strOfNums (A ++ [S % 256, K % 256] ++ pu T ++ pu V ++ pu (sgn X)))) W := fun W => add _ _ W (by simp only [List.length_append, List.length_cons, List.length_nil]; omega) (by omega)
      rw [hA]
      have z0 : (strOfNums A).size ≤ 70000 := by rw [str_size]; exact hAl
      have z1 : (strOfNums [S % 256, K % 256]).size = 2 := by rw [str_size]; rfl
      have z2 : (strOfNums (pu T)).size ≤ 10 := by rw [str_size]; omega
      have z3 : (strOfNums (pu V)).size ≤ 10 := by rw [str_size]; omega
      have z4 : (strOfNums (pu (sgn X))).size ≤ 10 := by rw [str_size]; omega
      have z5 : (strOfNums (A ++ [S % 256, K % 256])).size ≤ 70002 := by rw [str_size]; simp; omega
      have z6 : (strOfNums (A ++ [S % 256, K % 256] ++ pu T)).size ≤ 70012 := by rw [str_size]; simp only [List.length_append, List.length_cons, List.length_nil]; omega
      have z7 : (strOfNums (A ++ [S % 256, K % 256] ++ pu T ++ pu V)).size ≤ 70022 := by rw [str_size]; simp only [List.length_append, List.length_cons, List.length_nil]; omega
      go_wp2_with fail
      have V2 := hide (vi_new wr S K T V X)
      have B2 := hide (bmore hbel.out ((Below.refl _ wr).alloc (Nat.le_refl _) (Obj.cells #[Value.int IntKind.i64 S, Value.int IntKind.i64 K, Value.int IntKind.u64 T, Value.int IntKind.u64 V, Value.int IntKind.i64 X] 48)))
      generalize wr.alloc (Obj.cells #[Value.int IntKind.i64 S, Value.int IntKind.i64 K, Value.int IntKind.u64 T, Value.int IntKind.u64 V, Value.int IntKind.i64 X] 48) = w2 at *
      generalize wr.heap.size = R at *
      have cN : Hid (∀ (W : World) (n : Int), (0 ≤ n ∧ n ≤ 18446744073709551615) → Below w2.heap.size w2 W → Calls Tryz.prog 49 #[.int .u64 n] W fun e w' => e = .returned (.string (strOfNums (pu n))) ∧ Below w2.heap.size w2 w' ∧ Fro W w') := hide fun W n h0 hW =>
        (refnum_any W n h0.1 h0.2).mono fun e w' h => ⟨h.1, hW.trans (h.2.mono hW.size), h.2⟩
      have cS : Hid (∀ (W : World), Below w2.heap.size w2 W → Calls Tryz.prog 50 #[.int .i64 X] W fun e w' => e = .returned (.int .u64 (sgn X)) ∧ Below w2.heap.size w2 w' ∧ Fro W w') := hide fun W hW =>
        (refsign_any X W hX.1 hX.2).mono fun e w' h => ⟨h.1, by rw [h.2]; exact hW, by rw [h.2]; exact Below.refl _ _⟩
      have hB1 : Hid (∀ W : World, Bs (W.alloc (.cells #[.int .u8 (IntKind.u8.wrap S), .int .u8 (IntKind.u8.wrap K)] 5)) (some ⟨W.heap.size, 0, none⟩) 2 2 [S % 256, K % 256]) := hide fun W => by
        rw [IntKind.wrap_u8', IntKind.wrap_u8']
        exact bs_new2 W (S % 256) (K % 256) (by omega) (by omega)
      have hB0 : Hid (∀ W : World, Bs (W.alloc (.cells #[.int .u8 (IntKind.u8.wrap S), .int .u8 (IntKind.u8.wrap K)] 5)).drew (some ⟨W.heap.size, 0, none⟩) 2 2 [S % 256, K % 256]) := hide fun W => fro_bs (hB1.out W) (Below.refl _ _).drew
      have hcv0 : ∀ W : World, (convert 40 9 (.slice (some ⟨W.heap.size, 0, none⟩) 2 2)).run Tryz.prog (W.alloc (.cells #[.int .u8 (IntKind.u8.wrap S), .int .u8 (IntKind.u8.wrap K)] 5)).drew = .ok (.string (strOfNums [S % 256, K % 256])) (W.alloc (.cells #[.int .u8 (IntKind.u8.wrap S), .int .u8 (IntKind.u8.wrap K)] 5)).drew := fun W => conv_bs (hB0.out W)
      have hcv1 : ∀ W : World, (convert 40 9 (.slice (some ⟨W.heap.size, 0, none⟩) 2 2)).run Tryz.prog (W.alloc (.cells #[.int .u8 (IntKind.u8.wrap S), .int .u8 (IntKind.u8.wrap K)] 5)) = .ok (.string (strOfNums [S % 256, K % 256])) (W.alloc (.cells #[.int .u8 (IntKind.u8.wrap S), .int .u8 (IntKind.u8.wrap K)] 5)) := fun W => conv_bs (hB1.out W)
      have HK : Hid (∀ W, Below w2.heap.size w2 W → (Below w2.heap.size w2 W ∧ W.cell? ⟨R, 0, none⟩ = some (.int .i64 S) ∧ W.cell? ⟨R, 1, none⟩ = some (.int .i64 K) ∧ W.cell? ⟨R, 2, none⟩ = some (.int .u64 T) ∧ W.cell? ⟨R, 3, none⟩ = some (.int .u64 V) ∧ W.cell? ⟨R, 4, none⟩ = some (.int .i64 X))) := hide fun W hW => ⟨hW, by have := V2.out.keep hW; unfold Vi at this; simpa using this⟩
      have hAl2 : Hid (∀ (W : World) (o : Obj), Below w2.heap.size w2 W → Below w2.heap.size w2 (W.alloc o)) := hide fun W o hW => hW.alloc hW.size o
      have hb0 : Below w2.heap.size w2 w2 := Below.refl _ _
      obtain ⟨-, q0, q1, q2, q3, q4⟩ := HK.out _ hb0
      have HS4 := hide (show strOfNums (pu len ++ ibs (l.take (k + 1))) = strOfNums (A ++ [S % 256, K % 256] ++ pu T ++ pu V ++ pu (sgn X)) by rw [HA4.out])
      generalize strOfNums (A ++ [S % 256, K % 256] ++ pu T ++ pu V ++ pu (sgn X)) = s4 at *
      generalize strOfNums (A ++ [S % 256, K % 256] ++ pu T ++ pu V) = s3 at *
      generalize strOfNums (A ++ [S % 256, K % 256] ++ pu T) = s2 at *
      generalize strOfNums (A ++ [S % 256, K % 256]) = s1 at *
      generalize strOfNums A = s0 at *
      clear add hA hAl lT lV lX hle hpl HS v0 v1 v2 v3 v4
      go_region_held_law (fun W => Below w2.heap.size w2 W ∧ W.cell? ⟨R, 0, none⟩ = some (.int .i64 S) ∧ W.cell? ⟨R, 1, none⟩ = some (.int .i64 K) ∧ W.cell? ⟨R, 2, none⟩ = some (.int .u64 T) ∧ W.cell? ⟨R, 3, none⟩ = some (.int .u64 V) ∧ W.cell? ⟨R, 4, none⟩ = some (.int .i64 X))
        (first
        | exact HK.out _ (by assumption)
        | exact HK.out _ (Below.drew (by assumption))
        | exact HK.out _ (hAl2.out _ _ (by assumption))
        | exact HK.out _ (Below.drew (hAl2.out _ _ (by assumption))))
        (first
        | (go_at_call 49; refine (cN.out _ _ (by assumption) (And.left (by assumption))).mono ?_; rintro e w' ⟨rfl, hb, hbs⟩; (first
        | (have hbx := fro_bs (hB0.out _) hbs; have hcx := conv_bs hbx)
        | (have hbx := fro_bs (hB1.out _) hbs; have hcx := conv_bs hbx)
        | (have hbx' := fro_bs (by assumption) hbs; have hcx' := conv_bs hbx')
        | skip))
        | (go_at_call 50; refine (cS.out _ (And.left (by assumption))).mono ?_; rintro e w' ⟨rfl, hb, hbs⟩; (first
        | (have hbx := fro_bs (hB0.out _) hbs; have hcx := conv_bs hbx)
        | (have hbx := fro_bs (hB1.out _) hbs; have hcx := conv_bs hbx)
        | (have hbx' := fro_bs (by assumption) hbs; have hcx' := conv_bs hbx')
        | skip)))
      all_goals
        rename_i hX
        have HB := hide (bmore B2.out hX.1)
        clear hX HK hAl2 hb0 q0 q1 q2 q3 q4 hcv0 hcv1 hB0 hB1 cN cS V2 B2
        go_wp2
        go_roundw
        case rel => exact ⟨k + 1, by omega, by rw [HS4.out], by go_num, HB⟩
        case measure => simp [intOf]; omega
    · obtain rfl : k = len := by omega
      have e : Hid (pu k ++ ibs (l.take k) = ibn l) := hide (by unfold ibn; rw [HL.out, show l.take k = l from by rw [← HL.out]; exact List.take_length])
      rw [e.out]
      go_wp2
      go_ret
      exact ⟨rfl, hbel.out⟩

end Go.Proofs.YtdldpdllhnpdaaaGreat.Clep
