/- What the document's own Eight, Key and Hash do when called: for any item, any text. Conditions: the kinds' own bounds. -/
import Derived.Test.YtjpoahnecbefaaaDoorMKey
import Derived.Test.YtjpoahnecbefaaaDoorNRefPut
import Derived.Deep.RegionHeldLaw
namespace Go.Proofs.YtjpoahnecbefaaaDoor.Clep
open Go.RowKit
set_option linter.unusedVariables false

theorem str_app (a b : List Int) : strOfNums a ++ strOfNums b = strOfNums (a ++ b) := by
  have := str_cat a b
  rw [ByteArray.toList_eq, ByteArray.toList_eq] at this
  have h2 : (strOfNums (a ++ b)).data = (strOfNums a ++ strOfNums b).data := by
    apply Array.toList_inj.1; exact this
  cases h : strOfNums (a ++ b)
  cases h' : strOfNums a ++ strOfNums b
  rw [h, h'] at h2
  simp at h2
  rw [h2]

/-- All that was there in W is kept. -/
def Fro (W W' : World) : Prop := Below W.heap.size W W'
set_option maxRecDepth 100000 in
set_option maxHeartbeats 2000000 in
theorem refkey_any (S K T V X : Int) (w : World) (hT : 0 ≤ T ∧ T ≤ 18446744073709551615) :
    Calls Tryd.prog 38 #[.agg #[.int .i64 S, .int .i64 K, .int .u64 T, .int .u64 V, .int .i64 X]] w fun e w' => e = .returned (.string (strOfNums ([S % 256, K % 256] ++ e8 T 8))) ∧ Below w.heap.size w w' := by
  have c0 : Hid (∀ w1 W : World, Below w1.heap.size w1 W → Calls Tryd.prog 54 #[.int .u64 T] W fun e w' => e = .returned (.string (strOfNums (e8 T 8))) ∧ Below w1.heap.size w1 w' ∧ Fro W w') := hide fun w1 W hW =>
    (refeight_any W T hT.1 hT.2).mono fun e w' h => ⟨h.1, hW.trans (h.2.mono hW.size), h.2⟩
  have hcv : ∀ W W' : World, Fro (W.alloc (.cells #[.int .u8 (IntKind.u8.wrap S), .int .u8 (IntKind.u8.wrap K)] 5)).drew W' → (convert 70 9 (.slice (some ⟨W.heap.size, 0, none⟩) 2 2)).run Tryd.prog W' = .ok (.string (strOfNums [S % 256, K % 256])) W' := fun W W' h => by
    rw [IntKind.wrap_u8', IntKind.wrap_u8'] at h
    have hB : Below (W.alloc (.cells #[.int .u8 (S % 256), .int .u8 (K % 256)] 5)).heap.size (W.alloc (.cells #[.int .u8 (S % 256), .int .u8 (K % 256)] 5)) W' := (Below.refl _ _).drew.trans h
    exact conv_bs ((bs_new2 W (S % 256) (K % 256) (by omega) (by omega)).below hB (Nat.le_refl _))
  have hcv0 : ∀ W : World, (convert 70 9 (.slice (some ⟨W.heap.size, 0, none⟩) 2 2)).run Tryd.prog (W.alloc (.cells #[.int .u8 (IntKind.u8.wrap S), .int .u8 (IntKind.u8.wrap K)] 5)).drew = .ok (.string (strOfNums [S % 256, K % 256])) (W.alloc (.cells #[.int .u8 (IntKind.u8.wrap S), .int .u8 (IntKind.u8.wrap K)] 5)).drew := fun W => hcv W _ (Below.refl _ _)
  have hcv1 : ∀ W : World, (convert 70 9 (.slice (some ⟨W.heap.size, 0, none⟩) 2 2)).run Tryd.prog (W.alloc (.cells #[.int .u8 (IntKind.u8.wrap S), .int .u8 (IntKind.u8.wrap K)] 5)) = .ok (.string (strOfNums [S % 256, K % 256])) (W.alloc (.cells #[.int .u8 (IntKind.u8.wrap S), .int .u8 (IntKind.u8.wrap K)] 5)) := fun W => by
    rw [IntKind.wrap_u8', IntKind.wrap_u8']
    exact conv_bs (bs_new2 W (S % 256) (K % 256) (by omega) (by omega))
  have hadd : ∀ W : World, (Op.stringOp .add (strOfNums [S % 256, K % 256]) (strOfNums (e8 T 8))).run Tryd.prog W = .ok (.string (strOfNums ([S % 256, K % 256] ++ e8 T 8))) W := fun W => by
    rw [← str_app]
    exact run_string_add_sum W _ _ (by rw [str_size, str_size, e8_len]; simp)
  have h1 : (strOfNums [S % 256, K % 256]).size = 2 := by rw [str_size]; rfl
  have h2 : (strOfNums (e8 T 8)).size = 8 := by rw [str_size, e8_len]
  have V1 := hide (vi_new w S K T V X)
  have B1 := hide ((Below.refl _ w).alloc (Nat.le_refl _) (Obj.cells #[Value.int IntKind.i64 S, Value.int IntKind.i64 K, Value.int IntKind.u64 T, Value.int IntKind.u64 V, Value.int IntKind.i64 X] 32))
  generalize strOfNums ([S % 256, K % 256] ++ e8 T 8) = SF at *
  generalize strOfNums (e8 T 8) = SE at *
  generalize strOfNums [S % 256, K % 256] = SH at *
  go_enter Tryd.func38, Tryd.ntmps38
  go_wp2_with fail
  generalize w.alloc (Obj.cells #[Value.int IntKind.i64 S, Value.int IntKind.i64 K, Value.int IntKind.u64 T, Value.int IntKind.u64 V, Value.int IntKind.i64 X] 32) = w1 at *
  have q := V1.out
  unfold Vi at q
  obtain ⟨q0, q1, q2, q3, q4⟩ := q
  have hb0 : Below w1.heap.size w1 w1 := Below.refl _ _
  have HK : Hid (∀ W, Below w1.heap.size w1 W → W.cell? ⟨w.heap.size, 0, none⟩ = some (.int .i64 S) ∧ W.cell? ⟨w.heap.size, 0 + 1, none⟩ = some (.int .i64 K) ∧ W.cell? ⟨w.heap.size, 0 + 2, none⟩ = some (.int .u64 T)) := hide fun W hW => by
    have := V1.out.keep hW
    exact ⟨this.1, this.2.1, this.2.2.1⟩
  simp only [Nat.zero_add] at HK q1 q2
  have hS2 : Hid (∀ W, Below w1.heap.size w1 W →
      (Below w1.heap.size w1 (W.alloc (.cells #[.int .u8 (IntKind.u8.wrap S), .int .u8 (IntKind.u8.wrap K)] 5)).drew ∧ (W.alloc (.cells #[.int .u8 (IntKind.u8.wrap S), .int .u8 (IntKind.u8.wrap K)] 5)).drew.cell? ⟨w.heap.size, 0, none⟩ = some (.int .i64 S) ∧ (W.alloc (.cells #[.int .u8 (IntKind.u8.wrap S), .int .u8 (IntKind.u8.wrap K)] 5)).drew.cell? ⟨w.heap.size, 1, none⟩ = some (.int .i64 K) ∧ (W.alloc (.cells #[.int .u8 (IntKind.u8.wrap S), .int .u8 (IntKind.u8.wrap K)] 5)).drew.cell? ⟨w.heap.size, 2, none⟩ = some (.int .u64 T))) := hide fun W h =>
    ⟨(h.alloc h.size _).drew, HK.out _ (h.alloc h.size _).drew⟩
  have hS3 : Hid (∀ W, Below w1.heap.size w1 W →
      (Below w1.heap.size w1 (W.alloc (.cells #[.int .u8 (IntKind.u8.wrap S), .int .u8 (IntKind.u8.wrap K)] 5)) ∧ (W.alloc (.cells #[.int .u8 (IntKind.u8.wrap S), .int .u8 (IntKind.u8.wrap K)] 5)).cell? ⟨w.heap.size, 0, none⟩ = some (.int .i64 S) ∧ (W.alloc (.cells #[.int .u8 (IntKind.u8.wrap S), .int .u8 (IntKind.u8.wrap K)] 5)).cell? ⟨w.heap.size, 1, none⟩ = some (.int .i64 K) ∧ (W.alloc (.cells #[.int .u8 (IntKind.u8.wrap S), .int .u8 (IntKind.u8.wrap K)] 5)).cell? ⟨w.heap.size, 2, none⟩ = some (.int .u64 T))) := hide fun W h =>
    ⟨(h.alloc h.size _), HK.out _ (h.alloc h.size _)⟩
  go_region_held_law (fun W => Below w1.heap.size w1 W ∧ W.cell? ⟨w.heap.size, 0, none⟩ = some (.int .i64 S) ∧ W.cell? ⟨w.heap.size, 1, none⟩ = some (.int .i64 K) ∧ W.cell? ⟨w.heap.size, 2, none⟩ = some (.int .u64 T))
    (first | exact ⟨by assumption, HK.out _ (by assumption)⟩ | exact hS2.out _ (by assumption) | exact hS3.out _ (by assumption) | exact ⟨Below.drew (by assumption), HK.out _ (Below.drew (by assumption))⟩)
    (first
    | (go_at_call 54; refine (c0.out w1 _ (And.left (by assumption))).mono ?_; rintro e w' ⟨rfl, hb, hbs⟩))
  all_goals
    rename_i hX
    have HB := hide (bmore B1.out hX.1)
    clear hX hcv hcv0 hcv1 hS2 hS3 HK c0 q0 q1 q2 q3 q4
    go_wp2
    go_ret
    exact ⟨rfl, HB.out⟩

theorem refhash_any (s : ByteArray) (zs : List Int) (w : World) (hm : s.size ≤ 9223372036854775807) (hs : Sz s zs) (hr : ∀ z ∈ zs, 0 ≤ z ∧ z < 256) :
    Calls Tryd.prog 37 #[.string s] w fun e w' => e = .returned (.int .u64 (fnv zs : Nat)) ∧ w' = w := by
  have hz := hide (range_of hr)
  have HS := hide hs
  clear hs hr
  go_enter Tryd.func37, Tryd.ntmps37
  go_wp2
  go_loop [3, 4] (fun v i => ∃ k C : Nat, k ≤ s.size ∧ i = .int .i64 k ∧ v = .int .u64 C ∧ C < 18446744073709551616 ∧ Hid (hs (zs.drop k) C = fnv zs)) (fun _ i => s.size - (intOf i).toNat)
  case atStart => exact ⟨0, 14695981039346656037, by omega, rfl, rfl, by omega, hide (by simp [fnv])⟩
  case round =>
    obtain ⟨k, C, hk, rfl, rfl, hC, hT⟩ := hrel
    by_cases hlk : k < s.size
    · have hck := HS.out.2 k hlk
      have hzk := hz.out k
      have HT := hide (show hs (zs.drop (k + 1)) (lay C (zs.getD k 0).toNat) = fnv zs by rw [← hT.out]; exact (hs_at zs k C (by rw [← HS.out.1]; exact hlk)).symm)
      have HB := hide (lay_bits C (zs.getD k 0) hC hzk)
      generalize hzz : zs.getD k 0 = z at *
      clear hzz
      go_wp2
      go_round
      case rel => exact ⟨k + 1, lay C z.toNat, by omega, by go_num, by rw [← HB.out]; rfl, lay_lt _ _, HT⟩
      case measure => simp [intOf]; omega
    · have h8 : k = s.size := by omega
      subst h8
      have hT' := hide (show C = fnv zs from by have := hT.out; rwa [List.drop_eq_nil_of_le (by rw [← HS.out.1]; exact Nat.le_refl _)] at this)
      go_wp2
      go_ret
      exact ⟨by rw [← hT'.out]; rfl, rfl⟩

end Go.Proofs.YtjpoahnecbefaaaDoor.Clep
