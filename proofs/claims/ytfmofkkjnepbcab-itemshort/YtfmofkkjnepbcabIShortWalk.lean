/- The statement ItemShort, walked: for any items and any item. No conditions. -/
import Derived.Test.YtfmofkkjnepbcabIStep
namespace Go.Proofs.Ytfmofkkjnepbcab.Clep
open Go.RowKit
set_option linter.unusedVariables false

theorem enc_short : ∀ (f k : Nat) (n : Int), n < 128 ^ (k + 1) → (enc f n).length ≤ k + 1
  | 0, k, n, _ => by simp [enc]
  | f + 1, k, n, h => by
    rw [enc]
    split
    · simp
    · cases k with
      | zero => simp at h; omega
      | succ k =>
        have e : (128 : Int) ^ (k + 1 + 1) = 128 ^ (k + 1) * 128 := Int.pow_succ _ _
        rw [e] at h
        have := enc_short f k (n / 128) (by generalize (128 : Int) ^ (k + 1) = q at *; omega)
        simp only [List.length_cons]
        omega
theorem ib_short (S K T V X : Int) (h : okI S K T V X = true) : (ib S K T V X).length ≤ 25 := by
  unfold okI at h
  simp only [decide_eq_true_eq] at h
  have hT : T ≤ 1099511627776 := by omega
  have h1 := enc_short 9 5 T (by have : (128 : Int) ^ (5 + 1) = 4398046511104 := by decide
                                 omega)
  have h2 := enc_short 9 6 V (by have : (128 : Int) ^ (6 + 1) = 562949953421312 := by decide
                                 omega)
  have h3 := pu_len (sgn X)
  unfold ib
  simp only [List.length_append, List.length_cons, List.length_nil]
  unfold pu at *
  omega
theorem ibn_snoc (l : List It) (S K T V X : Int) (hl : l.length ≤ 100) (h : okI S K T V X = true) : (ibn l).length + 5 ≤ (ibn (l ++ [⟨S, K, T, V, X⟩])).length ∧ (ibn (l ++ [⟨S, K, T, V, X⟩])).length ≤ (ibn l).length + 28 ∧ (ibn l).length ≤ 10000 := by
  have h1 := ib_short S K T V X h
  have h2 := ib_len S K T V X
  have h3 := ibs_len l
  unfold ibn
  have e1 : pu (l.length : Nat) = [(l.length : Int)] := enc_small 9 _ (by omega)
  have e2 : pu ((l ++ [⟨S, K, T, V, X⟩] : List It).length : Nat) = [((l ++ [⟨S, K, T, V, X⟩] : List It).length : Int)] := enc_small 9 _ (by simp; omega)
  have e3 : ibs (l ++ [⟨S, K, T, V, X⟩]) = ibs l ++ ib S K T V X := by simp [ibs, It.b]
  rw [e1, e2, e3]
  simp only [List.length_append, List.length_cons, List.length_nil]
  omega

set_option maxHeartbeats 800000 in
theorem short_not (a0 : Option Addr) (len0 cap0 : Nat) (l : List It) (S K T V X : Int) (w : World) (h : Is w a0 len0 cap0 l) (hm : len0 ≤ 9223372036854775807) (hc : 100 < len0 ∨ may l ≠ 0 ∨ okI S K T V X = false) :
    Calls Try.prog 3 #[.slice a0 len0 cap0, .agg #[.int .i64 S, .int .i64 K, .int .u64 T, .int .u64 V, .int .i64 X]] w fun e w' => e = .returned (.bool true) ∧ Below w.heap.size w w' := by
  have A0 : Below w.heap.size w (w.alloc (Obj.cells #[Value.int IntKind.i64 S, Value.int IntKind.i64 K, Value.int IntKind.u64 T, Value.int IntKind.u64 V, Value.int IntKind.i64 X] 25)) := (Below.refl _ w).alloc (Nat.le_refl _) _
  have H := hide (h.below A0 (Nat.le_refl _))
  have B0 := hide A0
  have V0 := hide (vi_new w S K T V X)
  clear h A0
  by_cases hlen : 100 < len0
  · clear hc
    go_enter Try.func3, Try.ntmps3
    go_wp2_with fail
    refine (awake5_any _).mono ?_
    rintro e w2 ⟨rfl, b2⟩
    have B2 := hide (bmore B0.out b2)
    clear b2
    go_wp2
    go_ret
    exact ⟨rfl, B2.out⟩
  · by_cases hz : may l = 0
    · have hk := hide (show okI S K T V X = false by rcases hc with h | h | h; exact absurd h hlen; exact absurd hz h; exact h)
      have HZ := hide hz
      clear hz hc
      go_enter Try.func3, Try.ntmps3
      go_wp2_with fail
      refine (may_any a0 len0 cap0 l _ hm H.out).mono ?_
      rw [HZ.out]
      rintro e w1 ⟨rfl, b1⟩
      have B1 := hide (bmore B0.out b1)
      have q := V0.out.keep b1
      unfold Vi at q
      simp only [Nat.zero_add] at q
      obtain ⟨q0, q1, q2, q3, q4⟩ := q
      clear b1 B0 V0 H
      go_wp2_with fail
      refine (refok_any S K T V X w1).mono ?_
      rw [hk.out]
      rintro e w2 ⟨rfl, b2⟩
      have B2 := hide (bmore B1.out b2)
      clear b2 B1 q0 q1 q2 q3 q4
      go_wp2_with fail
      refine (awake5_any _).mono ?_
      rintro e w3 ⟨rfl, b3⟩
      have B3 := hide (bmore B2.out b3)
      clear b3
      go_wp2
      go_ret
      exact ⟨rfl, B3.out⟩
    · obtain ⟨m, hmm⟩ : ∃ m, may l = m := ⟨_, rfl⟩
      have hmb : (m != 0) = true := by rw [← hmm]; simp [hz]
      have HZ := hide hmm
      clear hz hc hmm
      go_enter Try.func3, Try.ntmps3
      go_wp2_with fail
      refine (may_any a0 len0 cap0 l _ hm H.out).mono ?_
      rw [HZ.out]
      rintro e w1 ⟨rfl, b1⟩
      have B1 := hide (bmore B0.out b1)
      clear b1 B0 V0 H
      go_wp2_with fail
      refine (awake5_any _).mono ?_
      rintro e w3 ⟨rfl, b3⟩
      have B3 := hide (bmore B1.out b3)
      clear b3
      go_wp2
      go_ret
      exact ⟨rfl, B3.out⟩

set_option maxHeartbeats 2000000 in
set_option maxRecDepth 8000 in
theorem short_core (a0 : Option Addr) (len0 cap0 : Nat) (l : List It) (S K T V X : Int) (w : World) (h : Is w a0 len0 cap0 l) (hl : len0 ≤ 100) (hal : Hid (l.all It.ok = true)) (hok : Hid (okI S K T V X = true)) (hw : Hid (It.wf ⟨S, K, T, V, X⟩))
    (L1 L2 : Nat) (hL1 : Hid ((ibn l).length = L1)) (hL2 : Hid ((ibn (l ++ [⟨S, K, T, V, X⟩])).length = L2)) (hLa : (L1 : Int) + 5 ≤ (L2 : Int)) (hLb : (L2 : Int) ≤ (L1 : Int) + 28) (hLc : L1 ≤ 10000) :
    Calls Try.prog 3 #[.slice a0 len0 cap0, .agg #[.int .i64 S, .int .i64 K, .int .u64 T, .int .u64 V, .int .i64 X]] w fun e w' => e = .returned (.bool true) ∧ Below w.heap.size w w' := by
  have A0 : Below w.heap.size w (w.alloc (Obj.cells #[Value.int IntKind.i64 S, Value.int IntKind.i64 K, Value.int IntKind.u64 T, Value.int IntKind.u64 V, Value.int IntKind.i64 X] 25)) := (Below.refl _ w).alloc (Nat.le_refl _) _
  have H := hide (h.below A0 (Nat.le_refl _))
  have HL := hide h.1
  have HW := hide h.2.2.1
  have B0 := hide A0
  have V0 := hide (vi_new w S K T V X)
  have hmay := hide (show may l = 0 by unfold may; rw [if_neg (by rw [HL.out]; omega), if_pos hal.out])
  clear h A0
  go_enter Try.func3, Try.ntmps3
  go_wp2_with fail
  generalize w.alloc (Obj.cells #[Value.int IntKind.i64 S, Value.int IntKind.i64 K, Value.int IntKind.u64 T, Value.int IntKind.u64 V, Value.int IntKind.i64 X] 25) = w0 at *
  refine (may_any a0 len0 cap0 l _ (by omega) H.out).mono ?_
  rw [hmay.out]
  rintro e w1 ⟨rfl, b1⟩
  have B1 := hide (bmore B0.out b1)
  have H1 := hide (H.out.below b1 (Nat.le_refl _))
  have V1 := hide (V0.out.keep b1)
  have q := V1.out
  unfold Vi at q
  simp only [Nat.zero_add] at q
  obtain ⟨q0, q1, q2, q3, q4⟩ := q
  clear b1 B0 V0 H
  go_wp2_with fail
  refine (refok_any S K T V X w1).mono ?_
  rw [hok.out]
  rintro e w2 ⟨rfl, b2⟩
  have B2 := hide (bmore B1.out b2)
  have H2 := hide (H1.out.below b2 (Nat.le_refl _))
  have V2 := hide (V1.out.keep b2)
  clear b2 B1 H1 V1 q0 q1 q2 q3 q4
  go_wp2_with fail
  refine (bytes_any none a0 0 0 len0 cap0 [] l w2 (by omega) (by omega) (bs_nil _) H2.out hal.out).mono ?_
  rw [List.nil_append]
  rintro e w3 ⟨v3, rfl, o3, b3⟩
  obtain ⟨ao3, cap3, hv3, -⟩ := own_conv o3 (by
    unfold ibn
    exact cat_range (pu_range _ (by omega) (by have := HL.out; omega)) (ibs_range l HW.out)) L1 hL1.out
  rw [hv3]
  have B3 := hide (bmore B2.out b3)
  have H3 := hide (H2.out.below b3 (Nat.le_refl _))
  have V3 := hide (V2.out.keep b3)
  clear b3 B2 H2 V2 o3 hv3
  go_wp2_with fail
  have HK : Hid (∀ W, Below w3.heap.size w3 W → (Below w3.heap.size w3 W ∧ W.cell? ⟨w.heap.size, 0, none⟩ = some (.int .i64 S) ∧ W.cell? ⟨w.heap.size, 1, none⟩ = some (.int .i64 K) ∧ W.cell? ⟨w.heap.size, 2, none⟩ = some (.int .u64 T) ∧ W.cell? ⟨w.heap.size, 3, none⟩ = some (.int .u64 V) ∧ W.cell? ⟨w.heap.size, 4, none⟩ = some (.int .i64 X))) := hide fun W hW => ⟨hW, V3.out.keep hW⟩
  have HI : Hid (∀ W, Below w3.heap.size w3 W → Is W a0 len0 cap0 l) := hide fun W hW => H3.out.below hW (Nat.le_refl _)
  have hA : Hid (∀ (W : World) (o : Obj), Below w3.heap.size w3 W → Below w3.heap.size w3 (W.alloc o)) := hide fun W o hW => hW.alloc hW.size o
  have cB : Hid (∀ (W : World) (v : Value), Below w3.heap.size w3 W → OwnI W w3.heap.size v (l ++ [⟨S, K, T, V, X⟩]) → Calls Try.prog 7 #[.slice none 0 0, v] W fun e w' => ∃ a c, e = .returned (.tuple #[.slice a L2 c, .int .i64 0]) ∧ Below w3.heap.size w3 w') := hide fun W v hW hv => by
    have hwf : ∀ x ∈ l ++ [(⟨S, K, T, V, X⟩ : It)], x.wf := fun x hx => by
      rcases List.mem_append.1 hx with h | h
      · exact HW.out x h
      · rw [List.mem_singleton.1 h]; exact hw.out
    have hll : (l ++ [(⟨S, K, T, V, X⟩ : It)]).length = len0 + 1 := by rw [List.length_append, HL.out]; rfl
    obtain ⟨ao, cap, rfl, -, his, -⟩ := ownI_is hv hwf
    refine (bytes_any none ao 0 0 _ cap [] _ W (by rw [hll]; omega) (by omega) (bs_nil _) his (by rw [List.all_append, hal.out]; simp [It.ok, hok.out])).mono ?_
    rw [List.nil_append]
    rintro e w' ⟨v', rfl, o', b'⟩
    obtain ⟨ao', cap', hv', -⟩ := own_conv o' (by
      unfold ibn
      exact cat_range (pu_range _ (by omega) (by rw [hll]; omega)) (ibs_range _ hwf)) L2 hL2.out
    rw [hv']
    exact ⟨ao', cap', rfl, hW.trans (b'.mono hW.size)⟩
  have hb0 : Below w3.heap.size w3 w3 := Below.refl _ _
  have hln := hide (show ([] : List It).length + len0 ≤ 1099511627776 by simp; omega)
  have hln2 := hide (show l.length + 1 ≤ 1099511627776 by rw [HL.out]; omega)
  obtain ⟨-, q0, q1, q2, q3, q4⟩ := HK.out _ hb0
  clear hmay H3 V3
  go_region_held_law (fun W => Below w3.heap.size w3 W ∧ W.cell? ⟨w.heap.size, 0, none⟩ = some (.int .i64 S) ∧ W.cell? ⟨w.heap.size, 1, none⟩ = some (.int .i64 K) ∧ W.cell? ⟨w.heap.size, 2, none⟩ = some (.int .u64 T) ∧ W.cell? ⟨w.heap.size, 3, none⟩ = some (.int .u64 V) ∧ W.cell? ⟨w.heap.size, 4, none⟩ = some (.int .i64 X))
    (first
    | exact HK.out _ (by assumption)
    | exact HK.out _ (Below.drew (by assumption))
    | exact HK.out _ (hA.out _ _ (by assumption))
    | exact HK.out _ (hA.out _ _ (And.left (by assumption)))
    | exact HK.out _ (Below.drew (hA.out _ _ (by assumption)))
    | exact HK.out _ (Below.drew (hA.out _ _ (And.left (by assumption))))
    | exact HK.out _ (Below.drew (hA.out _ _ (hA.out _ _ hb0)))
    | exact HK.out _ (hA.out _ _ (hA.out _ _ hb0)))
    (first
    | (refine step_append_items rfl _ _ rfl w3.heap.size _ [] rfl (ownI_empty (by first | exact hpS _ _ _ (by first | rfl | simp) | exact hpD (hpS _ _ _ (by first | rfl | simp)) | exact hpO _ (hpS _ _ _ (by first | rfl | simp)) | exact hpO _ (hpD (hpS _ _ _ (by first | rfl | simp))) | exact hpD (hpO _ (hpS _ _ _ (by first | rfl | simp))) | exact hpD (hpO _ (hpD (hpS _ _ _ (by first | rfl | simp))))) (by first | exact Nat.le_refl _ | exact Nat.le_succ _)) a0 len0 cap0 l rfl (HI.out _ (And.left (by assumption))) hln.out (Below.size (And.left (by assumption))) ?_; intro v4 w4 o4 g4 k4; have hb4 : Below w3.heap.size w3 w4 := Below.grown (And.left (by assumption)) g4 (Below.size (And.left (by assumption))) k4)
    | (refine step_append_items rfl _ _ rfl w3.heap.size v4 l rfl (by first | exact o4 | exact ownI_keep o4 ((Below.refl _ _).alloc (Nat.le_refl _) _) | exact ownI_keep o4 ((Below.refl _ _).alloc (Nat.le_refl _) _).drew) _ 1 1 _ rfl (is_block hw.out (by first | exact hpS _ _ _ (by first | rfl | simp) | exact hpD (hpS _ _ _ (by first | rfl | simp)) | exact hpG g4 (hpS _ _ _ (by first | rfl | simp)) (by intro e; injection e with e2; first | (simp only at e2; omega) | (simp at e2) | omega) | exact hpG g4 (hpD (hpS _ _ _ (by first | rfl | simp))) (by intro e; injection e with e2; first | (simp only at e2; omega) | (simp at e2) | omega) | exact hpG g4 (hpO _ (hpS _ _ _ (by first | rfl | simp))) (by intro e; injection e with e2; first | (simp only at e2; omega) | (simp at e2) | omega) | exact hpG g4 (hpO _ (hpD (hpS _ _ _ (by first | rfl | simp)))) (by intro e; injection e with e2; first | (simp only at e2; omega) | (simp at e2) | omega) | exact hpG g4 (hpD (hpO _ (hpS _ _ _ (by first | rfl | simp)))) (by intro e; injection e with e2; first | (simp only at e2; omega) | (simp at e2) | omega) | exact hpG g4 (hpD (hpO _ (hpD (hpS _ _ _ (by first | rfl | simp))))) (by intro e; injection e with e2; first | (simp only at e2; omega) | (simp at e2) | omega))) hln2.out (Below.size (And.left (by assumption))) ?_; intro v5 w5 o5 g5 k5; have hb5 : Below w3.heap.size w3 w5 := Below.grown (And.left (by assumption)) g5 (Below.size (And.left (by assumption))) k5)
    | (go_at_call 7; refine (cB.out _ _ (And.left (by assumption)) (by assumption)).mono ?_; rintro e w' ⟨a, c, rfl, hb⟩))
  all_goals
    have B4 := hide (bmore B3.out hb)
    have I5 := hide (is_one w' 0 2 0 1 0 (by unfold It.wf; simp))
    have B5 := hide (bmore B4.out ((Below.refl _ w').alloc (Nat.le_refl _) (Obj.cells #[Value.int IntKind.i64 0, Value.int IntKind.i64 2, Value.int IntKind.u64 0, Value.int IntKind.u64 1, Value.int IntKind.i64 0] 25)))
    clear HK HI hA cB hb0 hb q0 q1 q2 q3 q4 B4 B3
    go_wp2_with fail
    refine (bytes_any none _ 0 0 1 1 [] [⟨0, 2, 0, 1, 0⟩] _ (by omega) (by omega) (bs_nil _) I5.out (by decide)).mono ?_
    rintro e w6 ⟨v6, rfl, o6, b6⟩
    obtain ⟨ao6, cap6, hv6, -⟩ := own_conv o6 (by decide) 6 (by decide)
    rw [hv6]
    have B6 := hide (bmore B5.out b6)
    clear o6 b6 hv6 I5 B5
    go_wp2_with fail
    refine (awake5_any _).mono ?_
    rintro e w7 ⟨rfl, b7⟩
    have B7 := hide (bmore B6.out b7)
    clear b7
    go_wp2
    go_ret
    exact ⟨rfl, B7.out⟩

theorem short_walk (a0 : Option Addr) (len0 cap0 : Nat) (l : List It) (x : It) (w : World) (h : Is w a0 len0 cap0 l) (hm : len0 ≤ 9223372036854775807) (hw : x.wf) :
    Calls Try.prog 3 #[.slice a0 len0 cap0, .agg #[.int .i64 x.S, .int .i64 x.K, .int .u64 x.T, .int .u64 x.V, .int .i64 x.X]] w fun e w' => e = .returned (.bool true) ∧ Below w.heap.size w w' := by
  obtain ⟨S, K, T, V, X⟩ := x
  by_cases hc : 100 < len0 ∨ may l ≠ 0 ∨ okI S K T V X = false
  · exact short_not a0 len0 cap0 l S K T V X w h hm hc
  · have h1 : len0 ≤ 100 := by omega
    have h2 : may l = 0 := by omega
    have h3 : okI S K T V X = true := by
      cases hk : okI S K T V X with
      | true => rfl
      | false => exact absurd (.inr (.inr hk)) hc
    have hal : l.all It.ok = true := by
      unfold may at h2
      rw [if_neg (by have := h.1; omega)] at h2
      split at h2
      · assumption
      · omega
    have hL := ibn_snoc l S K T V X (by rw [h.1]; exact h1) h3
    exact short_core a0 len0 cap0 l S K T V X w h h1 hal h3 hw _ _ (hide rfl) (hide rfl) (by omega) (by omega) hL.2.2

end Go.Proofs.Ytfmofkkjnepbcab.Clep
