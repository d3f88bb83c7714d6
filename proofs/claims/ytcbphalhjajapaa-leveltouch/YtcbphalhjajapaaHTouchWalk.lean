/- LevelTouch, walked. No conditions. -/
import Derived.Test.YtcbphalhjajapaaHAwake
import Derived.Test.YtcbphalhjajapaaHInvG
namespace Go.Proofs.Ytcbphalhjajapaa.Clep
open Go.RowKit
set_option linter.unusedVariables false
set_option linter.unusedSimpArgs false

theorem bs_one {W : World} {q : Nat} {A : Int} {T : TypeId} (h : Ek W q #[.int .u8 A] T) (h0 : 0 ≤ A) (h1 : A < 256) : Bs W (some ⟨q, 0, none⟩) 1 1 [A] :=
  ⟨rfl, ⟨Nat.le_refl _, fun e => by cases e⟩, range_of (by intro z hz; rw [List.mem_singleton.1 hz]; omega), fun _ => ⟨q, 0, rfl, fun i hi => by
    obtain rfl : i = 0 := by omega
    exact h.cell rfl⟩⟩
theorem ltB_one (a b : Int) (ha : 0 ≤ a ∧ a < 256) (hb : 0 ≤ b ∧ b < 256) : ltB [a] [b] = decide (a < b) := by
  unfold ltB ub
  simp only [List.map_cons, List.map_nil, Op.bytesLess]
  obtain ⟨n, rfl⟩ := Int.eq_ofNat_of_zero_le ha.1
  obtain ⟨m, rfl⟩ := Int.eq_ofNat_of_zero_le hb.1
  have h1 : (UInt8.ofNat n < UInt8.ofNat m) ↔ ((n : Int) < (m : Int)) := by
    rw [UInt8.lt_iff_toNat_lt]
    simp
    omega
  by_cases h : (n : Int) < (m : Int)
  · simp [h1.2 h, h]
  · simp [UInt8.not_lt.1 (mt h1.1 h), h]
/-- A file of the statement's. -/
def hx (N : Int) (f g : Nat) (A B M : Int) : He := ⟨N, 0, some ⟨f, 0, none⟩, 1, [A], some ⟨g, 0, none⟩, 1, [B], M⟩
theorem hx_ok {W : World} {f g : Nat} {N A B M : Int} {T : TypeId} (hf : Ek W f #[.int .u8 A] T) (hg : Ek W g #[.int .u8 B] T) (hA : 0 ≤ A ∧ A < 256) (hB : 0 ≤ B ∧ B < 256) (hN : hi64 N) (hM : hi64 M) : (hx N f g A B M).ok W :=
  ⟨⟨bs_one hf hA.1 hA.2, (show 1 ≤ 9223372036854775807 by decide)⟩, ⟨bs_one hg hB.1 hB.2, (show 1 ≤ 9223372036854775807 by decide)⟩, hN, (show hi64 0 from ⟨by decide, by decide⟩), hM⟩
theorem tch_xy {N N' : Int} {f g f' g' : Nat} {A B C D M M' : Int} (hA : 0 ≤ A ∧ A < 256) (hB : 0 ≤ B ∧ B < 256) (hC : 0 ≤ C ∧ C < 256) (hD : 0 ≤ D ∧ D < 256) :
    tch (hx N f g A B M) (hx N' f' g' C D M') = (!(M == 0) && (!(M' == 0) && (!(decide (B < C)) && !(decide (D < A))))) := by
  unfold tch hx
  simp only
  rw [ltB_one B C hB hC, ltB_one D A hD hA]
/-- The memory that the statement has made ahead of its last row. -/
structure Tw (w W : World) (A B C D : Int) : Prop where
  e0 : Ek W (w.heap.size) #[.int .u8 A] 5
  e1 : Ek W (w.heap.size + 1) #[.int .u8 B] 5
  e2 : Ek W (w.heap.size + 1 + 1) #[.int .i64 1, .int .i64 0, .slice (some ⟨w.heap.size, 0, none⟩) 1 1, .slice (some ⟨w.heap.size + 1, 0, none⟩) 1 1, .int .i64 2] 27
  e3 : Ek W (w.heap.size + 1 + 1 + 1) #[.int .u8 C] 5
  e4 : Ek W (w.heap.size + 1 + 1 + 1 + 1) #[.int .u8 D] 5
  e5 : Ek W (w.heap.size + 1 + 1 + 1 + 1 + 1) #[.int .i64 2, .int .i64 0, .slice (some ⟨w.heap.size + 1 + 1 + 1, 0, none⟩) 1 1, .slice (some ⟨w.heap.size + 1 + 1 + 1 + 1, 0, none⟩) 1 1, .int .i64 2] 27
  e6 : Ek W (w.heap.size + 1 + 1 + 1 + 1 + 1 + 1) #[.int .i64 2, .int .i64 0, .slice (some ⟨w.heap.size + 1 + 1 + 1, 0, none⟩) 1 1, .slice (some ⟨w.heap.size + 1 + 1 + 1 + 1, 0, none⟩) 1 1, .int .i64 0] 27
  b : Below w.heap.size w W
theorem tw_made (w : World) (A B C D : Int) : Tw w (((((((w.alloc (Obj.cells #[.int .u8 A] 5)).alloc (Obj.cells #[.int .u8 B] 5)).alloc (Obj.cells #[.int .i64 1, .int .i64 0, .slice (some ⟨w.heap.size, 0, none⟩) 1 1, .slice (some ⟨w.heap.size + 1, 0, none⟩) 1 1, .int .i64 2] 27)).alloc (Obj.cells #[.int .u8 C] 5)).alloc (Obj.cells #[.int .u8 D] 5)).alloc (Obj.cells #[.int .i64 2, .int .i64 0, .slice (some ⟨w.heap.size + 1 + 1 + 1, 0, none⟩) 1 1, .slice (some ⟨w.heap.size + 1 + 1 + 1 + 1, 0, none⟩) 1 1, .int .i64 2] 27)).alloc (Obj.cells #[.int .i64 2, .int .i64 0, .slice (some ⟨w.heap.size + 1 + 1 + 1, 0, none⟩) 1 1, .slice (some ⟨w.heap.size + 1 + 1 + 1 + 1, 0, none⟩) 1 1, .int .i64 0] 27)) A B C D := by
  have s1 : ∀ (x : World) (o : Obj), (x.alloc o).heap.size = x.heap.size + 1 := fun x o => by simp
  have n0 := ek_new w (#[.int .u8 A] : Array Value) 5
  have n1 := ek_new (w.alloc (Obj.cells #[.int .u8 A] 5)) (#[.int .u8 B] : Array Value) 5
  rw [s1] at n1
  have n2 := ek_new ((w.alloc (Obj.cells #[.int .u8 A] 5)).alloc (Obj.cells #[.int .u8 B] 5)) (#[.int .i64 1, .int .i64 0, .slice (some ⟨w.heap.size, 0, none⟩) 1 1, .slice (some ⟨w.heap.size + 1, 0, none⟩) 1 1, .int .i64 2] : Array Value) 27
  rw [s1, s1] at n2
  have n3 := ek_new (((w.alloc (Obj.cells #[.int .u8 A] 5)).alloc (Obj.cells #[.int .u8 B] 5)).alloc (Obj.cells #[.int .i64 1, .int .i64 0, .slice (some ⟨w.heap.size, 0, none⟩) 1 1, .slice (some ⟨w.heap.size + 1, 0, none⟩) 1 1, .int .i64 2] 27)) (#[.int .u8 C] : Array Value) 5
  rw [s1, s1, s1] at n3
  have n4 := ek_new ((((w.alloc (Obj.cells #[.int .u8 A] 5)).alloc (Obj.cells #[.int .u8 B] 5)).alloc (Obj.cells #[.int .i64 1, .int .i64 0, .slice (some ⟨w.heap.size, 0, none⟩) 1 1, .slice (some ⟨w.heap.size + 1, 0, none⟩) 1 1, .int .i64 2] 27)).alloc (Obj.cells #[.int .u8 C] 5)) (#[.int .u8 D] : Array Value) 5
  rw [s1, s1, s1, s1] at n4
  have n5 := ek_new (((((w.alloc (Obj.cells #[.int .u8 A] 5)).alloc (Obj.cells #[.int .u8 B] 5)).alloc (Obj.cells #[.int .i64 1, .int .i64 0, .slice (some ⟨w.heap.size, 0, none⟩) 1 1, .slice (some ⟨w.heap.size + 1, 0, none⟩) 1 1, .int .i64 2] 27)).alloc (Obj.cells #[.int .u8 C] 5)).alloc (Obj.cells #[.int .u8 D] 5)) (#[.int .i64 2, .int .i64 0, .slice (some ⟨w.heap.size + 1 + 1 + 1, 0, none⟩) 1 1, .slice (some ⟨w.heap.size + 1 + 1 + 1 + 1, 0, none⟩) 1 1, .int .i64 2] : Array Value) 27
  rw [s1, s1, s1, s1, s1] at n5
  have n6 := ek_new ((((((w.alloc (Obj.cells #[.int .u8 A] 5)).alloc (Obj.cells #[.int .u8 B] 5)).alloc (Obj.cells #[.int .i64 1, .int .i64 0, .slice (some ⟨w.heap.size, 0, none⟩) 1 1, .slice (some ⟨w.heap.size + 1, 0, none⟩) 1 1, .int .i64 2] 27)).alloc (Obj.cells #[.int .u8 C] 5)).alloc (Obj.cells #[.int .u8 D] 5)).alloc (Obj.cells #[.int .i64 2, .int .i64 0, .slice (some ⟨w.heap.size + 1 + 1 + 1, 0, none⟩) 1 1, .slice (some ⟨w.heap.size + 1 + 1 + 1 + 1, 0, none⟩) 1 1, .int .i64 2] 27)) (#[.int .i64 2, .int .i64 0, .slice (some ⟨w.heap.size + 1 + 1 + 1, 0, none⟩) 1 1, .slice (some ⟨w.heap.size + 1 + 1 + 1 + 1, 0, none⟩) 1 1, .int .i64 0] : Array Value) 27
  rw [s1, s1, s1, s1, s1, s1] at n6
  exact ⟨ek_old (ek_old (ek_old (ek_old (ek_old (ek_old (n0) _) _) _) _) _) _, ek_old (ek_old (ek_old (ek_old (ek_old (n1) _) _) _) _) _, ek_old (ek_old (ek_old (ek_old (n2) _) _) _) _, ek_old (ek_old (ek_old (n3) _) _) _, ek_old (ek_old (n4) _) _, ek_old (n5) _, n6, ((((((((Below.refl _ w).alloc (Nat.le_refl _) _).alloc (by simp <;> omega) _).alloc (by simp <;> omega) _).alloc (by simp <;> omega) _).alloc (by simp <;> omega) _).alloc (by simp <;> omega) _).alloc (by simp <;> omega) _)⟩
/-- What the last row leans on. -/
theorem tw_calls {w W : World} {A B C D : Int} (h : Tw w W A B C D) (hA : 0 ≤ A ∧ A < 256) (hB : 0 ≤ B ∧ B < 256) (hC : 0 ≤ C ∧ C < 256) (hD : 0 ≤ D ∧ D < 256) (hab : A ≤ B) (hcd : C ≤ D) (T : Bool) (hT : (!(decide (B < C)) && !(decide (D < A))) = T) :
    ∀ W1, Below W.heap.size W W1 → (Calls Try.prog 13 #[He.v (hx 1 (w.heap.size) (w.heap.size + 1) A B 2), He.v (hx 2 (w.heap.size + 1 + 1 + 1) (w.heap.size + 1 + 1 + 1 + 1) C D 2)] W1 fun e w'' => e = .returned (.bool T) ∧ Below W1.heap.size W1 w'') ∧ (Calls Try.prog 13 #[He.v (hx 2 (w.heap.size + 1 + 1 + 1) (w.heap.size + 1 + 1 + 1 + 1) C D 2), He.v (hx 1 (w.heap.size) (w.heap.size + 1) A B 2)] W1 fun e w'' => e = .returned (.bool T) ∧ Below W1.heap.size W1 w'') ∧ (Calls Try.prog 13 #[He.v (hx 1 (w.heap.size) (w.heap.size + 1) A B 2), He.v (hx 1 (w.heap.size) (w.heap.size + 1) A B 2)] W1 fun e w'' => e = .returned (.bool true) ∧ Below W1.heap.size W1 w'') ∧ (Calls Try.prog 13 #[He.v (hx 1 (w.heap.size) (w.heap.size + 1) A B 2), He.v (hx 2 (w.heap.size + 1 + 1 + 1) (w.heap.size + 1 + 1 + 1 + 1) C D 0)] W1 fun e w'' => e = .returned (.bool false) ∧ Below W1.heap.size W1 w'') ∧ (Calls Try.prog 13 #[He.v (hx 2 (w.heap.size + 1 + 1 + 1) (w.heap.size + 1 + 1 + 1 + 1) C D 0), He.v (hx 2 (w.heap.size + 1 + 1 + 1) (w.heap.size + 1 + 1 + 1 + 1) C D 0)] W1 fun e w'' => e = .returned (.bool false) ∧ Below W1.heap.size W1 w'') := by
  intro W1 hW
  have r1 : hi64 1 := ⟨by decide, by decide⟩
  have r2 : hi64 2 := ⟨by decide, by decide⟩
  have r0 : hi64 0 := ⟨by decide, by decide⟩
  have ox := (hx_ok h.e0 h.e1 hA hB r1 r2).below hW (Nat.le_refl _)
  have oy := (hx_ok h.e3 h.e4 hC hD r2 r2).below hW (Nat.le_refl _)
  have oz := (hx_ok h.e3 h.e4 hC hD r2 r0).below hW (Nat.le_refl _)
  have n1 : decide (B < A) = false := decide_eq_false (by omega)
  have n2 : decide (D < C) = false := decide_eq_false (by omega)
  have t1 : tch (hx 1 (w.heap.size) (w.heap.size + 1) A B 2) (hx 2 (w.heap.size + 1 + 1 + 1) (w.heap.size + 1 + 1 + 1 + 1) C D 2) = T := by rw [tch_xy hA hB hC hD]; exact hT
  have t2 : tch (hx 2 (w.heap.size + 1 + 1 + 1) (w.heap.size + 1 + 1 + 1 + 1) C D 2) (hx 1 (w.heap.size) (w.heap.size + 1) A B 2) = T := by rw [tch_xy hC hD hA hB, ← hT]; cases decide (B < C) <;> cases decide (D < A) <;> rfl
  have t3 : tch (hx 1 (w.heap.size) (w.heap.size + 1) A B 2) (hx 1 (w.heap.size) (w.heap.size + 1) A B 2) = true := by rw [tch_xy hA hB hA hB, n1]; rfl
  have t4 : tch (hx 1 (w.heap.size) (w.heap.size + 1) A B 2) (hx 2 (w.heap.size + 1 + 1 + 1) (w.heap.size + 1 + 1 + 1 + 1) C D 0) = false := by rw [tch_xy hA hB hC hD]; rfl
  have t5 : tch (hx 2 (w.heap.size + 1 + 1 + 1) (w.heap.size + 1 + 1 + 1 + 1) C D 0) (hx 2 (w.heap.size + 1 + 1 + 1) (w.heap.size + 1 + 1 + 1 + 1) C D 0) = false := by rw [tch_xy hC hD hC hD]; rfl
  refine ⟨?_, ?_, ?_, ?_, ?_⟩
  · rw [← t1]; exact touch_any _ _ W1 ox oy
  · rw [← t2]; exact touch_any _ _ W1 oy ox
  · rw [← t3]; exact touch_any _ _ W1 ox ox
  · rw [← t4]; exact touch_any _ _ W1 ox oz
  · rw [← t5]; exact touch_any _ _ W1 oz oz
/-- What the slots of the last row hold. -/
def tcV0 (w : World) (A B C D : Int) : Nat → Value
  | 0 => .agg #[.int .i64 1, .int .i64 0, .slice (some ⟨w.heap.size, 0, none⟩) 1 1, .slice (some ⟨w.heap.size + 1, 0, none⟩) 1 1, .int .i64 2]
  | 1 => .agg #[.int .i64 2, .int .i64 0, .slice (some ⟨w.heap.size + 1 + 1 + 1, 0, none⟩) 1 1, .slice (some ⟨w.heap.size + 1 + 1 + 1 + 1, 0, none⟩) 1 1, .int .i64 2]
  | 2 => .bool false
  | 3 => .int .u8 B
  | 4 => .int .u8 C
  | 5 => .bool true
  | 6 => .bool true
  | 7 => undef
  | 8 => undef
  | 9 => undef
  | 10 => .bool true
  | 11 => .bool false
  | 12 => .bool true
  | 13 => .bool true
  | 14 => .agg #[.int .i64 1, .int .i64 0, .slice (some ⟨w.heap.size, 0, none⟩) 1 1, .slice (some ⟨w.heap.size + 1, 0, none⟩) 1 1, .int .i64 2]
  | 15 => .agg #[.int .i64 2, .int .i64 0, .slice (some ⟨w.heap.size + 1 + 1 + 1, 0, none⟩) 1 1, .slice (some ⟨w.heap.size + 1 + 1 + 1 + 1, 0, none⟩) 1 1, .int .i64 2]
  | 16 => .bool false
  | 17 => .agg #[.int .i64 2, .int .i64 0, .slice (some ⟨w.heap.size + 1 + 1 + 1, 0, none⟩) 1 1, .slice (some ⟨w.heap.size + 1 + 1 + 1 + 1, 0, none⟩) 1 1, .int .i64 2]
  | 18 => .agg #[.int .i64 1, .int .i64 0, .slice (some ⟨w.heap.size, 0, none⟩) 1 1, .slice (some ⟨w.heap.size + 1, 0, none⟩) 1 1, .int .i64 2]
  | 19 => .bool false
  | 20 => .bool true
  | 21 => .bool true
  | 22 => .bool true
  | 23 => .agg #[.int .i64 1, .int .i64 0, .slice (some ⟨w.heap.size, 0, none⟩) 1 1, .slice (some ⟨w.heap.size + 1, 0, none⟩) 1 1, .int .i64 2]
  | 24 => .agg #[.int .i64 1, .int .i64 0, .slice (some ⟨w.heap.size, 0, none⟩) 1 1, .slice (some ⟨w.heap.size + 1, 0, none⟩) 1 1, .int .i64 2]
  | 25 => .bool true
  | 26 => .bool true
  | 27 => .bool true
  | 28 => .agg #[.int .i64 1, .int .i64 0, .slice (some ⟨w.heap.size, 0, none⟩) 1 1, .slice (some ⟨w.heap.size + 1, 0, none⟩) 1 1, .int .i64 2]
  | 29 => .agg #[.int .i64 2, .int .i64 0, .slice (some ⟨w.heap.size + 1 + 1 + 1, 0, none⟩) 1 1, .slice (some ⟨w.heap.size + 1 + 1 + 1 + 1, 0, none⟩) 1 1, .int .i64 0]
  | 30 => .bool false
  | 31 => .bool true
  | 32 => .bool true
  | 33 => .bool true
  | 34 => .agg #[.int .i64 2, .int .i64 0, .slice (some ⟨w.heap.size + 1 + 1 + 1, 0, none⟩) 1 1, .slice (some ⟨w.heap.size + 1 + 1 + 1 + 1, 0, none⟩) 1 1, .int .i64 0]
  | 35 => .agg #[.int .i64 2, .int .i64 0, .slice (some ⟨w.heap.size + 1 + 1 + 1, 0, none⟩) 1 1, .slice (some ⟨w.heap.size + 1 + 1 + 1 + 1, 0, none⟩) 1 1, .int .i64 0]
  | 36 => .bool false
  | 37 => .bool true
  | 38 => .bool true
  | 39 => .bool true
  | 40 => .bool true
  | 41 => .bool true
  | 42 => .bool true
  | _ => undef
/-- What the slots of the last row hold. -/
def tcV1 (w : World) (A B C D : Int) : Nat → Value
  | 0 => .agg #[.int .i64 1, .int .i64 0, .slice (some ⟨w.heap.size, 0, none⟩) 1 1, .slice (some ⟨w.heap.size + 1, 0, none⟩) 1 1, .int .i64 2]
  | 1 => .agg #[.int .i64 2, .int .i64 0, .slice (some ⟨w.heap.size + 1 + 1 + 1, 0, none⟩) 1 1, .slice (some ⟨w.heap.size + 1 + 1 + 1 + 1, 0, none⟩) 1 1, .int .i64 2]
  | 2 => .bool false
  | 3 => .int .u8 B
  | 4 => .int .u8 C
  | 5 => .bool false
  | 6 => .bool false
  | 7 => .int .u8 D
  | 8 => .int .u8 A
  | 9 => .bool true
  | 10 => .bool true
  | 11 => .bool false
  | 12 => .bool true
  | 13 => .bool true
  | 14 => .agg #[.int .i64 1, .int .i64 0, .slice (some ⟨w.heap.size, 0, none⟩) 1 1, .slice (some ⟨w.heap.size + 1, 0, none⟩) 1 1, .int .i64 2]
  | 15 => .agg #[.int .i64 2, .int .i64 0, .slice (some ⟨w.heap.size + 1 + 1 + 1, 0, none⟩) 1 1, .slice (some ⟨w.heap.size + 1 + 1 + 1 + 1, 0, none⟩) 1 1, .int .i64 2]
  | 16 => .bool false
  | 17 => .agg #[.int .i64 2, .int .i64 0, .slice (some ⟨w.heap.size + 1 + 1 + 1, 0, none⟩) 1 1, .slice (some ⟨w.heap.size + 1 + 1 + 1 + 1, 0, none⟩) 1 1, .int .i64 2]
  | 18 => .agg #[.int .i64 1, .int .i64 0, .slice (some ⟨w.heap.size, 0, none⟩) 1 1, .slice (some ⟨w.heap.size + 1, 0, none⟩) 1 1, .int .i64 2]
  | 19 => .bool false
  | 20 => .bool true
  | 21 => .bool true
  | 22 => .bool true
  | 23 => .agg #[.int .i64 1, .int .i64 0, .slice (some ⟨w.heap.size, 0, none⟩) 1 1, .slice (some ⟨w.heap.size + 1, 0, none⟩) 1 1, .int .i64 2]
  | 24 => .agg #[.int .i64 1, .int .i64 0, .slice (some ⟨w.heap.size, 0, none⟩) 1 1, .slice (some ⟨w.heap.size + 1, 0, none⟩) 1 1, .int .i64 2]
  | 25 => .bool true
  | 26 => .bool true
  | 27 => .bool true
  | 28 => .agg #[.int .i64 1, .int .i64 0, .slice (some ⟨w.heap.size, 0, none⟩) 1 1, .slice (some ⟨w.heap.size + 1, 0, none⟩) 1 1, .int .i64 2]
  | 29 => .agg #[.int .i64 2, .int .i64 0, .slice (some ⟨w.heap.size + 1 + 1 + 1, 0, none⟩) 1 1, .slice (some ⟨w.heap.size + 1 + 1 + 1 + 1, 0, none⟩) 1 1, .int .i64 0]
  | 30 => .bool false
  | 31 => .bool true
  | 32 => .bool true
  | 33 => .bool true
  | 34 => .agg #[.int .i64 2, .int .i64 0, .slice (some ⟨w.heap.size + 1 + 1 + 1, 0, none⟩) 1 1, .slice (some ⟨w.heap.size + 1 + 1 + 1 + 1, 0, none⟩) 1 1, .int .i64 0]
  | 35 => .agg #[.int .i64 2, .int .i64 0, .slice (some ⟨w.heap.size + 1 + 1 + 1, 0, none⟩) 1 1, .slice (some ⟨w.heap.size + 1 + 1 + 1 + 1, 0, none⟩) 1 1, .int .i64 0]
  | 36 => .bool false
  | 37 => .bool true
  | 38 => .bool true
  | 39 => .bool true
  | 40 => .bool true
  | 41 => .bool true
  | 42 => .bool true
  | _ => undef
/-- What the slots of the last row hold. -/
def tcV2 (w : World) (A B C D : Int) : Nat → Value
  | 0 => .agg #[.int .i64 1, .int .i64 0, .slice (some ⟨w.heap.size, 0, none⟩) 1 1, .slice (some ⟨w.heap.size + 1, 0, none⟩) 1 1, .int .i64 2]
  | 1 => .agg #[.int .i64 2, .int .i64 0, .slice (some ⟨w.heap.size + 1 + 1 + 1, 0, none⟩) 1 1, .slice (some ⟨w.heap.size + 1 + 1 + 1 + 1, 0, none⟩) 1 1, .int .i64 2]
  | 2 => .bool true
  | 3 => .int .u8 B
  | 4 => .int .u8 C
  | 5 => .bool false
  | 6 => .bool false
  | 7 => .int .u8 D
  | 8 => .int .u8 A
  | 9 => .bool false
  | 10 => .bool false
  | 11 => .bool true
  | 12 => .bool true
  | 13 => .bool true
  | 14 => .agg #[.int .i64 1, .int .i64 0, .slice (some ⟨w.heap.size, 0, none⟩) 1 1, .slice (some ⟨w.heap.size + 1, 0, none⟩) 1 1, .int .i64 2]
  | 15 => .agg #[.int .i64 2, .int .i64 0, .slice (some ⟨w.heap.size + 1 + 1 + 1, 0, none⟩) 1 1, .slice (some ⟨w.heap.size + 1 + 1 + 1 + 1, 0, none⟩) 1 1, .int .i64 2]
  | 16 => .bool true
  | 17 => .agg #[.int .i64 2, .int .i64 0, .slice (some ⟨w.heap.size + 1 + 1 + 1, 0, none⟩) 1 1, .slice (some ⟨w.heap.size + 1 + 1 + 1 + 1, 0, none⟩) 1 1, .int .i64 2]
  | 18 => .agg #[.int .i64 1, .int .i64 0, .slice (some ⟨w.heap.size, 0, none⟩) 1 1, .slice (some ⟨w.heap.size + 1, 0, none⟩) 1 1, .int .i64 2]
  | 19 => .bool true
  | 20 => .bool true
  | 21 => .bool true
  | 22 => .bool true
  | 23 => .agg #[.int .i64 1, .int .i64 0, .slice (some ⟨w.heap.size, 0, none⟩) 1 1, .slice (some ⟨w.heap.size + 1, 0, none⟩) 1 1, .int .i64 2]
  | 24 => .agg #[.int .i64 1, .int .i64 0, .slice (some ⟨w.heap.size, 0, none⟩) 1 1, .slice (some ⟨w.heap.size + 1, 0, none⟩) 1 1, .int .i64 2]
  | 25 => .bool true
  | 26 => .bool true
  | 27 => .bool true
  | 28 => .agg #[.int .i64 1, .int .i64 0, .slice (some ⟨w.heap.size, 0, none⟩) 1 1, .slice (some ⟨w.heap.size + 1, 0, none⟩) 1 1, .int .i64 2]
  | 29 => .agg #[.int .i64 2, .int .i64 0, .slice (some ⟨w.heap.size + 1 + 1 + 1, 0, none⟩) 1 1, .slice (some ⟨w.heap.size + 1 + 1 + 1 + 1, 0, none⟩) 1 1, .int .i64 0]
  | 30 => .bool false
  | 31 => .bool true
  | 32 => .bool true
  | 33 => .bool true
  | 34 => .agg #[.int .i64 2, .int .i64 0, .slice (some ⟨w.heap.size + 1 + 1 + 1, 0, none⟩) 1 1, .slice (some ⟨w.heap.size + 1 + 1 + 1 + 1, 0, none⟩) 1 1, .int .i64 0]
  | 35 => .agg #[.int .i64 2, .int .i64 0, .slice (some ⟨w.heap.size + 1 + 1 + 1, 0, none⟩) 1 1, .slice (some ⟨w.heap.size + 1 + 1 + 1 + 1, 0, none⟩) 1 1, .int .i64 0]
  | 36 => .bool false
  | 37 => .bool true
  | 38 => .bool true
  | 39 => .bool true
  | 40 => .bool true
  | 41 => .bool true
  | 42 => .bool true
  | _ => undef
/-- What follows the statement's two conditionals. -/
def rest3T : Option Code → Code
  | some (.seq _ (.seq _ (.seq _ r))) => r
  | _ => .skip
set_option maxRecDepth 100000 in
set_option maxHeartbeats 8000000 in
theorem touch_tail (A B C D : Int) (w : World) (hA : 0 ≤ A ∧ A < 256) (hB : 0 ≤ B ∧ B < 256) (hC : 0 ≤ C ∧ C < 256) (hD : 0 ≤ D ∧ D < 256) (hab : A ≤ B) (hcd : C ≤ D)
    (t4 t5 t6 t7 t8 t9 t10 t11 t12 t13 t14 t15 t16 t17 t18 t19 t20 t21 t22 t23 t24 t25 t26 t27 t28 t29 t30 t31 t32 t33 t34 t35 t36 t37 t38 t39 t40 t41 t42 t43 t44 t45 t46 t47 t48 t49 t50 t51 t52 t53 t54 t55 t56 t57 t58 t59 t60 t61 t62 t63 t64 t65 t66 t67 t68 t69 t70 t71 t72 t73 t74 t75 : Value) :
    Code.wp Try.prog (rest3T Try.f8.body) (bodyPost Try.prog Try.f8 fun e w' => e = .returned (.bool true) ∧ Below w.heap.size w w') ⟨#[.int .u8 A, .int .u8 B, .int .u8 C, .int .u8 D, t4, t5, t6, t7, t8, t9, t10, t11, t12, t13, t14, t15, t16, t17, t18, t19, t20, t21, t22, t23, t24, t25, t26, t27, t28, t29, t30, t31, t32, t33, t34, t35, t36, t37, t38, t39, t40, t41, t42, t43, t44, t45, t46, t47, t48, t49, t50, t51, t52, t53, t54, t55, t56, t57, t58, t59, t60, t61, t62, t63, t64, t65, t66, t67, t68, t69, t70, t71, t72, t73, t74, t75], []⟩ w := by
  obtain ⟨Q', hQ'⟩ : ∃ Q', Q' = bodyPost Try.prog Try.f8 fun e w' => e = .returned (.bool true) ∧ Below w.heap.size w w' := ⟨_, rfl⟩
  rw [← hQ']
  dsimp only [rest3T, Try.f8]
  subst hQ'
  have HTW := hide (tw_made w A B C D)
  have HRG := hide (⟨hA, hB, hC, hD⟩ : (0 ≤ A ∧ A < 256) ∧ (0 ≤ B ∧ B < 256) ∧ (0 ≤ C ∧ C < 256) ∧ (0 ≤ D ∧ D < 256))
  have HO1 := hide hab
  have HO2 := hide hcd
  clear hA hB hC hD hab hcd
  go_wp2_with fail
  generalize (((((((w.alloc (Obj.cells #[.int .u8 A] 5)).alloc (Obj.cells #[.int .u8 B] 5)).alloc (Obj.cells #[.int .i64 1, .int .i64 0, .slice (some ⟨w.heap.size, 0, none⟩) 1 1, .slice (some ⟨w.heap.size + 1, 0, none⟩) 1 1, .int .i64 2] 27)).alloc (Obj.cells #[.int .u8 C] 5)).alloc (Obj.cells #[.int .u8 D] 5)).alloc (Obj.cells #[.int .i64 2, .int .i64 0, .slice (some ⟨w.heap.size + 1 + 1 + 1, 0, none⟩) 1 1, .slice (some ⟨w.heap.size + 1 + 1 + 1 + 1, 0, none⟩) 1 1, .int .i64 2] 27)).alloc (Obj.cells #[.int .i64 2, .int .i64 0, .slice (some ⟨w.heap.size + 1 + 1 + 1, 0, none⟩) 1 1, .slice (some ⟨w.heap.size + 1 + 1 + 1 + 1, 0, none⟩) 1 1, .int .i64 0] 27)) = W at *
  have HB := hide HTW.out.b
  rcases (show (B < C) ∨ (¬ (B < C) ∧ D < A) ∨ (¬ (B < C) ∧ ¬ (D < A)) from by omega) with p1 | ⟨p1, p2⟩ | ⟨p1, p2⟩
  · have HC := hide (tw_calls HTW.out HRG.out.1 HRG.out.2.1 HRG.out.2.2.1 HRG.out.2.2.2 HO1.out HO2.out false (by rw [decide_eq_true p1]; rfl))
    unfold hx He.v at HC
    refine region_sv (tcV0 w A B C D) (by kernel_rfl) (by kernel_rfl) (by kernel_rfl) ?step ?fin
    case step =>
      intro L a W i hap hI hi hLi hw
      have hi2 : i < 43 := hi
      rcases (show i = 0 ∨ i = 1 ∨ i = 2 ∨ i = 3 ∨ i = 4 ∨ i = 5 ∨ i = 6 ∨ i = 7 ∨ i = 8 ∨ i = 9 ∨ i = 10 ∨ i = 11 ∨ i = 12 ∨ i = 13 ∨ i = 14 ∨ i = 15 ∨ i = 16 ∨ i = 17 ∨ i = 18 ∨ i = 19 ∨ i = 20 ∨ i = 21 ∨ i = 22 ∨ i = 23 ∨ i = 24 ∨ i = 25 ∨ i = 26 ∨ i = 27 ∨ i = 28 ∨ i = 29 ∨ i = 30 ∨ i = 31 ∨ i = 32 ∨ i = 33 ∨ i = 34 ∨ i = 35 ∨ i = 36 ∨ i = 37 ∨ i = 38 ∨ i = 39 ∨ i = 40 ∨ i = 41 ∨ i = 42 by omega) with rfl | rfl | rfl | rfl | rfl | rfl | rfl | rfl | rfl | rfl | rfl | rfl | rfl | rfl | rfl | rfl | rfl | rfl | rfl | rfl | rfl | rfl | rfl | rfl | rfl | rfl | rfl | rfl | rfl | rfl | rfl | rfl | rfl | rfl | rfl | rfl | rfl | rfl | rfl | rfl | rfl | rfl | rfl
      · have e9 := hI.kept 9 _ (by decide +kernel) rfl
        have k0 := ((HTW.out.e2).below hI.g HTW.out.e2.lt).cell (o := 0) rfl
        have k1 := ((HTW.out.e2).below hI.g HTW.out.e2.lt).cell (o := 1) rfl
        have k2 := ((HTW.out.e2).below hI.g HTW.out.e2.lt).cell (o := 2) rfl
        have k3 := ((HTW.out.e2).below hI.g HTW.out.e2.lt).cell (o := 3) rfl
        have k4 := ((HTW.out.e2).below hI.g HTW.out.e2.lt).cell (o := 4) rfl
        refine hI.pure hap (by decide +kernel) (i := 0) (d := 34) rfl rfl rfl (v := .agg #[.int .i64 1, .int .i64 0, .slice (some ⟨w.heap.size, 0, none⟩) 1 1, .slice (some ⟨w.heap.size + 1, 0, none⟩) 1 1, .int .i64 2]) rfl (fun _ _ _ _ h => h) hI.g ?_
        intro K hKK
        go_simp
        exact hKK
      · have e10 := hI.kept 10 _ (by decide +kernel) rfl
        have k0 := ((HTW.out.e5).below hI.g HTW.out.e5.lt).cell (o := 0) rfl
        have k1 := ((HTW.out.e5).below hI.g HTW.out.e5.lt).cell (o := 1) rfl
        have k2 := ((HTW.out.e5).below hI.g HTW.out.e5.lt).cell (o := 2) rfl
        have k3 := ((HTW.out.e5).below hI.g HTW.out.e5.lt).cell (o := 3) rfl
        have k4 := ((HTW.out.e5).below hI.g HTW.out.e5.lt).cell (o := 4) rfl
        refine hI.pure hap (by decide +kernel) (i := 1) (d := 35) rfl rfl rfl (v := .agg #[.int .i64 2, .int .i64 0, .slice (some ⟨w.heap.size + 1 + 1 + 1, 0, none⟩) 1 1, .slice (some ⟨w.heap.size + 1 + 1 + 1 + 1, 0, none⟩) 1 1, .int .i64 2]) rfl (fun _ _ _ _ h => h) hI.g ?_
        intro K hKK
        go_simp
        exact hKK
      · have e34 : a.tmps[34]? = some (.agg #[.int .i64 1, .int .i64 0, .slice (some ⟨w.heap.size, 0, none⟩) 1 1, .slice (some ⟨w.heap.size + 1, 0, none⟩) 1 1, .int .i64 2]) := hI.sv 0 34 (by decide +kernel) (hw 0 (by kernel_rfl)) (by kernel_rfl)
        have e35 : a.tmps[35]? = some (.agg #[.int .i64 2, .int .i64 0, .slice (some ⟨w.heap.size + 1 + 1 + 1, 0, none⟩) 1 1, .slice (some ⟨w.heap.size + 1 + 1 + 1 + 1, 0, none⟩) 1 1, .int .i64 2]) := hI.sv 1 35 (by decide +kernel) (hw 1 (by kernel_rfl)) (by kernel_rfl)
        refine hI.more hap (by decide +kernel) (i := 2) (d := 36) rfl rfl rfl ?_
        intro K hKK
        have HW := hI.g
        go_simp
        refine ((HC.out W HW).1).mono ?_
        rintro e W' ⟨rfl, hb'⟩
        exact hKK _ W' rfl (fun _ _ _ _ h => h) (Below.trans HW (hb'.mono HW.size))
      · have e1 := hI.kept 1 _ (by decide +kernel) rfl
        refine hI.pure hap (by decide +kernel) (i := 3) (d := 37) rfl rfl rfl (v := .int .u8 B) rfl (fun _ _ _ _ h => h) hI.g ?_
        intro K hKK
        go_simp
        exact hKK
      · have e2 := hI.kept 2 _ (by decide +kernel) rfl
        refine hI.pure hap (by decide +kernel) (i := 4) (d := 38) rfl rfl rfl (v := .int .u8 C) rfl (fun _ _ _ _ h => h) hI.g ?_
        intro K hKK
        go_simp
        exact hKK
      · have e37 : a.tmps[37]? = some (.int .u8 B) := hI.sv 3 37 (by decide +kernel) (hw 3 (by kernel_rfl)) (by kernel_rfl)
        have e38 : a.tmps[38]? = some (.int .u8 C) := hI.sv 4 38 (by decide +kernel) (hw 4 (by kernel_rfl)) (by kernel_rfl)
        refine hI.pure hap (by decide +kernel) (i := 5) (d := 39) rfl rfl rfl (v := .bool true) rfl (fun _ _ _ _ h => h) hI.g ?_
        intro K hKK
        go_simp
        exact hKK
      · have e39 : a.tmps[39]? = some (.bool true) := hI.sv 5 39 (by decide +kernel) (hw 5 (by kernel_rfl)) (by kernel_rfl)
        refine hI.pure hap (by decide +kernel) (i := 6) (d := 40) rfl rfl rfl (v := .bool true) rfl (fun _ _ _ _ h => h) hI.g ?_
        intro K hKK
        go_simp
        exact hKK
      · have eg : a.tmps[40]? = some (.bool true) := hI.sv 6 40 (by decide +kernel) (hw 6 (by kernel_rfl)) (by kernel_rfl)
        exact hI.gskip hap (by decide +kernel) (i := 7) (d := 41) rfl rfl (j := 6) (dj := 40) rfl (by kernel_rfl) eg rfl rfl (fun _ _ _ _ h => h) hI.g
      · have eg : a.tmps[40]? = some (.bool true) := hI.sv 6 40 (by decide +kernel) (hw 6 (by kernel_rfl)) (by kernel_rfl)
        exact hI.gskip hap (by decide +kernel) (i := 8) (d := 42) rfl rfl (j := 6) (dj := 40) rfl (by kernel_rfl) eg rfl rfl (fun _ _ _ _ h => h) hI.g
      · have eg : a.tmps[40]? = some (.bool true) := hI.sv 6 40 (by decide +kernel) (hw 6 (by kernel_rfl)) (by kernel_rfl)
        exact hI.gskip hap (by decide +kernel) (i := 9) (d := 43) rfl rfl (j := 6) (dj := 40) rfl (by kernel_rfl) eg rfl rfl (fun _ _ _ _ h => h) hI.g
      · have e40 : a.tmps[40]? = some (.bool true) := hI.sv 6 40 (by decide +kernel) (hw 6 (by kernel_rfl)) (by kernel_rfl)
        have e43 : a.tmps[43]? = some (undef) := hI.sv 9 43 (by decide +kernel) (hw 9 (by kernel_rfl)) (by kernel_rfl)
        refine hI.pure hap (by decide +kernel) (i := 10) (d := 44) rfl rfl rfl (v := .bool true) rfl (fun _ _ _ _ h => h) hI.g ?_
        intro K hKK
        go_simp
        exact hKK
      · have e44 : a.tmps[44]? = some (.bool true) := hI.sv 10 44 (by decide +kernel) (hw 10 (by kernel_rfl)) (by kernel_rfl)
        refine hI.pure hap (by decide +kernel) (i := 11) (d := 45) rfl rfl rfl (v := .bool false) rfl (fun _ _ _ _ h => h) hI.g ?_
        intro K hKK
        go_simp
        exact hKK
      · have e36 : a.tmps[36]? = some (.bool false) := hI.sv 2 36 (by decide +kernel) (hw 2 (by kernel_rfl)) (by kernel_rfl)
        have e45 : a.tmps[45]? = some (.bool false) := hI.sv 11 45 (by decide +kernel) (hw 11 (by kernel_rfl)) (by kernel_rfl)
        refine hI.pure hap (by decide +kernel) (i := 12) (d := 46) rfl rfl rfl (v := .bool true) rfl (fun _ _ _ _ h => h) hI.g ?_
        intro K hKK
        go_simp
        exact hKK
      · have e46 : a.tmps[46]? = some (.bool true) := hI.sv 12 46 (by decide +kernel) (hw 12 (by kernel_rfl)) (by kernel_rfl)
        refine hI.pure hap (by decide +kernel) (i := 13) (d := 47) rfl rfl rfl (v := .bool true) rfl (fun _ _ _ _ h => h) hI.g ?_
        intro K hKK
        go_simp
        exact hKK
      · have e9 := hI.kept 9 _ (by decide +kernel) rfl
        have eg : a.tmps[47]? = some (.bool true) := hI.sv 13 47 (by decide +kernel) (hw 13 (by kernel_rfl)) (by kernel_rfl)
        have k0 := ((HTW.out.e2).below hI.g HTW.out.e2.lt).cell (o := 0) rfl
        have k1 := ((HTW.out.e2).below hI.g HTW.out.e2.lt).cell (o := 1) rfl
        have k2 := ((HTW.out.e2).below hI.g HTW.out.e2.lt).cell (o := 2) rfl
        have k3 := ((HTW.out.e2).below hI.g HTW.out.e2.lt).cell (o := 3) rfl
        have k4 := ((HTW.out.e2).below hI.g HTW.out.e2.lt).cell (o := 4) rfl
        refine hI.gpure hap (by decide +kernel) (i := 14) (d := 48) rfl rfl  (j := 13) (dj := 47) rfl (by kernel_rfl) eg (v := .agg #[.int .i64 1, .int .i64 0, .slice (some ⟨w.heap.size, 0, none⟩) 1 1, .slice (some ⟨w.heap.size + 1, 0, none⟩) 1 1, .int .i64 2]) rfl (fun _ _ _ _ h => h) hI.g ?_
        intro K hKK
        go_simp
        exact hKK
      · have e10 := hI.kept 10 _ (by decide +kernel) rfl
        have eg : a.tmps[47]? = some (.bool true) := hI.sv 13 47 (by decide +kernel) (hw 13 (by kernel_rfl)) (by kernel_rfl)
        have k0 := ((HTW.out.e5).below hI.g HTW.out.e5.lt).cell (o := 0) rfl
        have k1 := ((HTW.out.e5).below hI.g HTW.out.e5.lt).cell (o := 1) rfl
        have k2 := ((HTW.out.e5).below hI.g HTW.out.e5.lt).cell (o := 2) rfl
        have k3 := ((HTW.out.e5).below hI.g HTW.out.e5.lt).cell (o := 3) rfl
        have k4 := ((HTW.out.e5).below hI.g HTW.out.e5.lt).cell (o := 4) rfl
        refine hI.gpure hap (by decide +kernel) (i := 15) (d := 49) rfl rfl  (j := 13) (dj := 47) rfl (by kernel_rfl) eg (v := .agg #[.int .i64 2, .int .i64 0, .slice (some ⟨w.heap.size + 1 + 1 + 1, 0, none⟩) 1 1, .slice (some ⟨w.heap.size + 1 + 1 + 1 + 1, 0, none⟩) 1 1, .int .i64 2]) rfl (fun _ _ _ _ h => h) hI.g ?_
        intro K hKK
        go_simp
        exact hKK
      · have e48 : a.tmps[48]? = some (.agg #[.int .i64 1, .int .i64 0, .slice (some ⟨w.heap.size, 0, none⟩) 1 1, .slice (some ⟨w.heap.size + 1, 0, none⟩) 1 1, .int .i64 2]) := hI.sv 14 48 (by decide +kernel) (hw 14 (by kernel_rfl)) (by kernel_rfl)
        have e49 : a.tmps[49]? = some (.agg #[.int .i64 2, .int .i64 0, .slice (some ⟨w.heap.size + 1 + 1 + 1, 0, none⟩) 1 1, .slice (some ⟨w.heap.size + 1 + 1 + 1 + 1, 0, none⟩) 1 1, .int .i64 2]) := hI.sv 15 49 (by decide +kernel) (hw 15 (by kernel_rfl)) (by kernel_rfl)
        have eg : a.tmps[47]? = some (.bool true) := hI.sv 13 47 (by decide +kernel) (hw 13 (by kernel_rfl)) (by kernel_rfl)
        refine hI.gmore hap (by decide +kernel) (i := 16) (d := 50) rfl rfl  (j := 13) (dj := 47) rfl (by kernel_rfl) eg ?_
        intro K hKK
        have HW := hI.g
        go_simp
        refine ((HC.out W HW).1).mono ?_
        rintro e W' ⟨rfl, hb'⟩
        exact hKK _ W' rfl (fun _ _ _ _ h => h) (Below.trans HW (hb'.mono HW.size))
      · have e10 := hI.kept 10 _ (by decide +kernel) rfl
        have eg : a.tmps[47]? = some (.bool true) := hI.sv 13 47 (by decide +kernel) (hw 13 (by kernel_rfl)) (by kernel_rfl)
        have k0 := ((HTW.out.e5).below hI.g HTW.out.e5.lt).cell (o := 0) rfl
        have k1 := ((HTW.out.e5).below hI.g HTW.out.e5.lt).cell (o := 1) rfl
        have k2 := ((HTW.out.e5).below hI.g HTW.out.e5.lt).cell (o := 2) rfl
        have k3 := ((HTW.out.e5).below hI.g HTW.out.e5.lt).cell (o := 3) rfl
        have k4 := ((HTW.out.e5).below hI.g HTW.out.e5.lt).cell (o := 4) rfl
        refine hI.gpure hap (by decide +kernel) (i := 17) (d := 51) rfl rfl  (j := 13) (dj := 47) rfl (by kernel_rfl) eg (v := .agg #[.int .i64 2, .int .i64 0, .slice (some ⟨w.heap.size + 1 + 1 + 1, 0, none⟩) 1 1, .slice (some ⟨w.heap.size + 1 + 1 + 1 + 1, 0, none⟩) 1 1, .int .i64 2]) rfl (fun _ _ _ _ h => h) hI.g ?_
        intro K hKK
        go_simp
        exact hKK
      · have e9 := hI.kept 9 _ (by decide +kernel) rfl
        have eg : a.tmps[47]? = some (.bool true) := hI.sv 13 47 (by decide +kernel) (hw 13 (by kernel_rfl)) (by kernel_rfl)
        have k0 := ((HTW.out.e2).below hI.g HTW.out.e2.lt).cell (o := 0) rfl
        have k1 := ((HTW.out.e2).below hI.g HTW.out.e2.lt).cell (o := 1) rfl
        have k2 := ((HTW.out.e2).below hI.g HTW.out.e2.lt).cell (o := 2) rfl
        have k3 := ((HTW.out.e2).below hI.g HTW.out.e2.lt).cell (o := 3) rfl
        have k4 := ((HTW.out.e2).below hI.g HTW.out.e2.lt).cell (o := 4) rfl
        refine hI.gpure hap (by decide +kernel) (i := 18) (d := 52) rfl rfl  (j := 13) (dj := 47) rfl (by kernel_rfl) eg (v := .agg #[.int .i64 1, .int .i64 0, .slice (some ⟨w.heap.size, 0, none⟩) 1 1, .slice (some ⟨w.heap.size + 1, 0, none⟩) 1 1, .int .i64 2]) rfl (fun _ _ _ _ h => h) hI.g ?_
        intro K hKK
        go_simp
        exact hKK
      · have e51 : a.tmps[51]? = some (.agg #[.int .i64 2, .int .i64 0, .slice (some ⟨w.heap.size + 1 + 1 + 1, 0, none⟩) 1 1, .slice (some ⟨w.heap.size + 1 + 1 + 1 + 1, 0, none⟩) 1 1, .int .i64 2]) := hI.sv 17 51 (by decide +kernel) (hw 17 (by kernel_rfl)) (by kernel_rfl)
        have e52 : a.tmps[52]? = some (.agg #[.int .i64 1, .int .i64 0, .slice (some ⟨w.heap.size, 0, none⟩) 1 1, .slice (some ⟨w.heap.size + 1, 0, none⟩) 1 1, .int .i64 2]) := hI.sv 18 52 (by decide +kernel) (hw 18 (by kernel_rfl)) (by kernel_rfl)
        have eg : a.tmps[47]? = some (.bool true) := hI.sv 13 47 (by decide +kernel) (hw 13 (by kernel_rfl)) (by kernel_rfl)
        refine hI.gmore hap (by decide +kernel) (i := 19) (d := 53) rfl rfl  (j := 13) (dj := 47) rfl (by kernel_rfl) eg ?_
        intro K hKK
        have HW := hI.g
        go_simp
        refine ((HC.out W HW).2.1).mono ?_
        rintro e W' ⟨rfl, hb'⟩
        exact hKK _ W' rfl (fun _ _ _ _ h => h) (Below.trans HW (hb'.mono HW.size))
      · have e50 : a.tmps[50]? = some (.bool false) := hI.sv 16 50 (by decide +kernel) (hw 16 (by kernel_rfl)) (by kernel_rfl)
        have e53 : a.tmps[53]? = some (.bool false) := hI.sv 19 53 (by decide +kernel) (hw 19 (by kernel_rfl)) (by kernel_rfl)
        have eg : a.tmps[47]? = some (.bool true) := hI.sv 13 47 (by decide +kernel) (hw 13 (by kernel_rfl)) (by kernel_rfl)
        refine hI.gpure hap (by decide +kernel) (i := 20) (d := 54) rfl rfl  (j := 13) (dj := 47) rfl (by kernel_rfl) eg (v := .bool true) rfl (fun _ _ _ _ h => h) hI.g ?_
        intro K hKK
        go_simp
        exact hKK
      · have e47 : a.tmps[47]? = some (.bool true) := hI.sv 13 47 (by decide +kernel) (hw 13 (by kernel_rfl)) (by kernel_rfl)
        have e54 : a.tmps[54]? = some (.bool true) := hI.sv 20 54 (by decide +kernel) (hw 20 (by kernel_rfl)) (by kernel_rfl)
        refine hI.pure hap (by decide +kernel) (i := 21) (d := 55) rfl rfl rfl (v := .bool true) rfl (fun _ _ _ _ h => h) hI.g ?_
        intro K hKK
        go_simp
        exact hKK
      · have e55 : a.tmps[55]? = some (.bool true) := hI.sv 21 55 (by decide +kernel) (hw 21 (by kernel_rfl)) (by kernel_rfl)
        refine hI.pure hap (by decide +kernel) (i := 22) (d := 56) rfl rfl rfl (v := .bool true) rfl (fun _ _ _ _ h => h) hI.g ?_
        intro K hKK
        go_simp
        exact hKK
      · have e9 := hI.kept 9 _ (by decide +kernel) rfl
        have eg : a.tmps[56]? = some (.bool true) := hI.sv 22 56 (by decide +kernel) (hw 22 (by kernel_rfl)) (by kernel_rfl)
        have k0 := ((HTW.out.e2).below hI.g HTW.out.e2.lt).cell (o := 0) rfl
        have k1 := ((HTW.out.e2).below hI.g HTW.out.e2.lt).cell (o := 1) rfl
        have k2 := ((HTW.out.e2).below hI.g HTW.out.e2.lt).cell (o := 2) rfl
        have k3 := ((HTW.out.e2).below hI.g HTW.out.e2.lt).cell (o := 3) rfl
        have k4 := ((HTW.out.e2).below hI.g HTW.out.e2.lt).cell (o := 4) rfl
        refine hI.gpure hap (by decide +kernel) (i := 23) (d := 57) rfl rfl  (j := 22) (dj := 56) rfl (by kernel_rfl) eg (v := .agg #[.int .i64 1, .int .i64 0, .slice (some ⟨w.heap.size, 0, none⟩) 1 1, .slice (some ⟨w.heap.size + 1, 0, none⟩) 1 1, .int .i64 2]) rfl (fun _ _ _ _ h => h) hI.g ?_
        intro K hKK
        go_simp
        exact hKK
      · have e9 := hI.kept 9 _ (by decide +kernel) rfl
        have eg : a.tmps[56]? = some (.bool true) := hI.sv 22 56 (by decide +kernel) (hw 22 (by kernel_rfl)) (by kernel_rfl)
        have k0 := ((HTW.out.e2).below hI.g HTW.out.e2.lt).cell (o := 0) rfl
        have k1 := ((HTW.out.e2).below hI.g HTW.out.e2.lt).cell (o := 1) rfl
        have k2 := ((HTW.out.e2).below hI.g HTW.out.e2.lt).cell (o := 2) rfl
        have k3 := ((HTW.out.e2).below hI.g HTW.out.e2.lt).cell (o := 3) rfl
        have k4 := ((HTW.out.e2).below hI.g HTW.out.e2.lt).cell (o := 4) rfl
        refine hI.gpure hap (by decide +kernel) (i := 24) (d := 58) rfl rfl  (j := 22) (dj := 56) rfl (by kernel_rfl) eg (v := .agg #[.int .i64 1, .int .i64 0, .slice (some ⟨w.heap.size, 0, none⟩) 1 1, .slice (some ⟨w.heap.size + 1, 0, none⟩) 1 1, .int .i64 2]) rfl (fun _ _ _ _ h => h) hI.g ?_
        intro K hKK
        go_simp
        exact hKK
      · have e57 : a.tmps[57]? = some (.agg #[.int .i64 1, .int .i64 0, .slice (some ⟨w.heap.size, 0, none⟩) 1 1, .slice (some ⟨w.heap.size + 1, 0, none⟩) 1 1, .int .i64 2]) := hI.sv 23 57 (by decide +kernel) (hw 23 (by kernel_rfl)) (by kernel_rfl)
        have e58 : a.tmps[58]? = some (.agg #[.int .i64 1, .int .i64 0, .slice (some ⟨w.heap.size, 0, none⟩) 1 1, .slice (some ⟨w.heap.size + 1, 0, none⟩) 1 1, .int .i64 2]) := hI.sv 24 58 (by decide +kernel) (hw 24 (by kernel_rfl)) (by kernel_rfl)
        have eg : a.tmps[56]? = some (.bool true) := hI.sv 22 56 (by decide +kernel) (hw 22 (by kernel_rfl)) (by kernel_rfl)
        refine hI.gmore hap (by decide +kernel) (i := 25) (d := 59) rfl rfl  (j := 22) (dj := 56) rfl (by kernel_rfl) eg ?_
        intro K hKK
        have HW := hI.g
        go_simp
        refine ((HC.out W HW).2.2.1).mono ?_
        rintro e W' ⟨rfl, hb'⟩
        exact hKK _ W' rfl (fun _ _ _ _ h => h) (Below.trans HW (hb'.mono HW.size))
      · have e56 : a.tmps[56]? = some (.bool true) := hI.sv 22 56 (by decide +kernel) (hw 22 (by kernel_rfl)) (by kernel_rfl)
        have e59 : a.tmps[59]? = some (.bool true) := hI.sv 25 59 (by decide +kernel) (hw 25 (by kernel_rfl)) (by kernel_rfl)
        refine hI.pure hap (by decide +kernel) (i := 26) (d := 60) rfl rfl rfl (v := .bool true) rfl (fun _ _ _ _ h => h) hI.g ?_
        intro K hKK
        go_simp
        exact hKK
      · have e60 : a.tmps[60]? = some (.bool true) := hI.sv 26 60 (by decide +kernel) (hw 26 (by kernel_rfl)) (by kernel_rfl)
        refine hI.pure hap (by decide +kernel) (i := 27) (d := 61) rfl rfl rfl (v := .bool true) rfl (fun _ _ _ _ h => h) hI.g ?_
        intro K hKK
        go_simp
        exact hKK
      · have e9 := hI.kept 9 _ (by decide +kernel) rfl
        have eg : a.tmps[61]? = some (.bool true) := hI.sv 27 61 (by decide +kernel) (hw 27 (by kernel_rfl)) (by kernel_rfl)
        have k0 := ((HTW.out.e2).below hI.g HTW.out.e2.lt).cell (o := 0) rfl
        have k1 := ((HTW.out.e2).below hI.g HTW.out.e2.lt).cell (o := 1) rfl
        have k2 := ((HTW.out.e2).below hI.g HTW.out.e2.lt).cell (o := 2) rfl
        have k3 := ((HTW.out.e2).below hI.g HTW.out.e2.lt).cell (o := 3) rfl
        have k4 := ((HTW.out.e2).below hI.g HTW.out.e2.lt).cell (o := 4) rfl
        refine hI.gpure hap (by decide +kernel) (i := 28) (d := 62) rfl rfl  (j := 27) (dj := 61) rfl (by kernel_rfl) eg (v := .agg #[.int .i64 1, .int .i64 0, .slice (some ⟨w.heap.size, 0, none⟩) 1 1, .slice (some ⟨w.heap.size + 1, 0, none⟩) 1 1, .int .i64 2]) rfl (fun _ _ _ _ h => h) hI.g ?_
        intro K hKK
        go_simp
        exact hKK
      · have e11 := hI.kept 11 _ (by decide +kernel) rfl
        have eg : a.tmps[61]? = some (.bool true) := hI.sv 27 61 (by decide +kernel) (hw 27 (by kernel_rfl)) (by kernel_rfl)
        have k0 := ((HTW.out.e6).below hI.g HTW.out.e6.lt).cell (o := 0) rfl
        have k1 := ((HTW.out.e6).below hI.g HTW.out.e6.lt).cell (o := 1) rfl
        have k2 := ((HTW.out.e6).below hI.g HTW.out.e6.lt).cell (o := 2) rfl
        have k3 := ((HTW.out.e6).below hI.g HTW.out.e6.lt).cell (o := 3) rfl
        have k4 := ((HTW.out.e6).below hI.g HTW.out.e6.lt).cell (o := 4) rfl
        refine hI.gpure hap (by decide +kernel) (i := 29) (d := 63) rfl rfl  (j := 27) (dj := 61) rfl (by kernel_rfl) eg (v := .agg #[.int .i64 2, .int .i64 0, .slice (some ⟨w.heap.size + 1 + 1 + 1, 0, none⟩) 1 1, .slice (some ⟨w.heap.size + 1 + 1 + 1 + 1, 0, none⟩) 1 1, .int .i64 0]) rfl (fun _ _ _ _ h => h) hI.g ?_
        intro K hKK
        go_simp
        exact hKK
      · have e62 : a.tmps[62]? = some (.agg #[.int .i64 1, .int .i64 0, .slice (some ⟨w.heap.size, 0, none⟩) 1 1, .slice (some ⟨w.heap.size + 1, 0, none⟩) 1 1, .int .i64 2]) := hI.sv 28 62 (by decide +kernel) (hw 28 (by kernel_rfl)) (by kernel_rfl)
        have e63 : a.tmps[63]? = some (.agg #[.int .i64 2, .int .i64 0, .slice (some ⟨w.heap.size + 1 + 1 + 1, 0, none⟩) 1 1, .slice (some ⟨w.heap.size + 1 + 1 + 1 + 1, 0, none⟩) 1 1, .int .i64 0]) := hI.sv 29 63 (by decide +kernel) (hw 29 (by kernel_rfl)) (by kernel_rfl)
        have eg : a.tmps[61]? = some (.bool true) := hI.sv 27 61 (by decide +kernel) (hw 27 (by kernel_rfl)) (by kernel_rfl)
        refine hI.gmore hap (by decide +kernel) (i := 30) (d := 64) rfl rfl  (j := 27) (dj := 61) rfl (by kernel_rfl) eg ?_
        intro K hKK
        have HW := hI.g
        go_simp
        refine ((HC.out W HW).2.2.2.1).mono ?_
        rintro e W' ⟨rfl, hb'⟩
        exact hKK _ W' rfl (fun _ _ _ _ h => h) (Below.trans HW (hb'.mono HW.size))
      · have e64 : a.tmps[64]? = some (.bool false) := hI.sv 30 64 (by decide +kernel) (hw 30 (by kernel_rfl)) (by kernel_rfl)
        have eg : a.tmps[61]? = some (.bool true) := hI.sv 27 61 (by decide +kernel) (hw 27 (by kernel_rfl)) (by kernel_rfl)
        refine hI.gpure hap (by decide +kernel) (i := 31) (d := 65) rfl rfl  (j := 27) (dj := 61) rfl (by kernel_rfl) eg (v := .bool true) rfl (fun _ _ _ _ h => h) hI.g ?_
        intro K hKK
        go_simp
        exact hKK
      · have e61 : a.tmps[61]? = some (.bool true) := hI.sv 27 61 (by decide +kernel) (hw 27 (by kernel_rfl)) (by kernel_rfl)
        have e65 : a.tmps[65]? = some (.bool true) := hI.sv 31 65 (by decide +kernel) (hw 31 (by kernel_rfl)) (by kernel_rfl)
        refine hI.pure hap (by decide +kernel) (i := 32) (d := 66) rfl rfl rfl (v := .bool true) rfl (fun _ _ _ _ h => h) hI.g ?_
        intro K hKK
        go_simp
        exact hKK
      · have e66 : a.tmps[66]? = some (.bool true) := hI.sv 32 66 (by decide +kernel) (hw 32 (by kernel_rfl)) (by kernel_rfl)
        refine hI.pure hap (by decide +kernel) (i := 33) (d := 67) rfl rfl rfl (v := .bool true) rfl (fun _ _ _ _ h => h) hI.g ?_
        intro K hKK
        go_simp
        exact hKK
      · have e11 := hI.kept 11 _ (by decide +kernel) rfl
        have eg : a.tmps[67]? = some (.bool true) := hI.sv 33 67 (by decide +kernel) (hw 33 (by kernel_rfl)) (by kernel_rfl)
        have k0 := ((HTW.out.e6).below hI.g HTW.out.e6.lt).cell (o := 0) rfl
        have k1 := ((HTW.out.e6).below hI.g HTW.out.e6.lt).cell (o := 1) rfl
        have k2 := ((HTW.out.e6).below hI.g HTW.out.e6.lt).cell (o := 2) rfl
        have k3 := ((HTW.out.e6).below hI.g HTW.out.e6.lt).cell (o := 3) rfl
        have k4 := ((HTW.out.e6).below hI.g HTW.out.e6.lt).cell (o := 4) rfl
        refine hI.gpure hap (by decide +kernel) (i := 34) (d := 68) rfl rfl  (j := 33) (dj := 67) rfl (by kernel_rfl) eg (v := .agg #[.int .i64 2, .int .i64 0, .slice (some ⟨w.heap.size + 1 + 1 + 1, 0, none⟩) 1 1, .slice (some ⟨w.heap.size + 1 + 1 + 1 + 1, 0, none⟩) 1 1, .int .i64 0]) rfl (fun _ _ _ _ h => h) hI.g ?_
        intro K hKK
        go_simp
        exact hKK
      · have e11 := hI.kept 11 _ (by decide +kernel) rfl
        have eg : a.tmps[67]? = some (.bool true) := hI.sv 33 67 (by decide +kernel) (hw 33 (by kernel_rfl)) (by kernel_rfl)
        have k0 := ((HTW.out.e6).below hI.g HTW.out.e6.lt).cell (o := 0) rfl
        have k1 := ((HTW.out.e6).below hI.g HTW.out.e6.lt).cell (o := 1) rfl
        have k2 := ((HTW.out.e6).below hI.g HTW.out.e6.lt).cell (o := 2) rfl
        have k3 := ((HTW.out.e6).below hI.g HTW.out.e6.lt).cell (o := 3) rfl
        have k4 := ((HTW.out.e6).below hI.g HTW.out.e6.lt).cell (o := 4) rfl
        refine hI.gpure hap (by decide +kernel) (i := 35) (d := 69) rfl rfl  (j := 33) (dj := 67) rfl (by kernel_rfl) eg (v := .agg #[.int .i64 2, .int .i64 0, .slice (some ⟨w.heap.size + 1 + 1 + 1, 0, none⟩) 1 1, .slice (some ⟨w.heap.size + 1 + 1 + 1 + 1, 0, none⟩) 1 1, .int .i64 0]) rfl (fun _ _ _ _ h => h) hI.g ?_
        intro K hKK
        go_simp
        exact hKK
      · have e68 : a.tmps[68]? = some (.agg #[.int .i64 2, .int .i64 0, .slice (some ⟨w.heap.size + 1 + 1 + 1, 0, none⟩) 1 1, .slice (some ⟨w.heap.size + 1 + 1 + 1 + 1, 0, none⟩) 1 1, .int .i64 0]) := hI.sv 34 68 (by decide +kernel) (hw 34 (by kernel_rfl)) (by kernel_rfl)
        have e69 : a.tmps[69]? = some (.agg #[.int .i64 2, .int .i64 0, .slice (some ⟨w.heap.size + 1 + 1 + 1, 0, none⟩) 1 1, .slice (some ⟨w.heap.size + 1 + 1 + 1 + 1, 0, none⟩) 1 1, .int .i64 0]) := hI.sv 35 69 (by decide +kernel) (hw 35 (by kernel_rfl)) (by kernel_rfl)
        have eg : a.tmps[67]? = some (.bool true) := hI.sv 33 67 (by decide +kernel) (hw 33 (by kernel_rfl)) (by kernel_rfl)
        refine hI.gmore hap (by decide +kernel) (i := 36) (d := 70) rfl rfl  (j := 33) (dj := 67) rfl (by kernel_rfl) eg ?_
        intro K hKK
        have HW := hI.g
        go_simp
        refine ((HC.out W HW).2.2.2.2).mono ?_
        rintro e W' ⟨rfl, hb'⟩
        exact hKK _ W' rfl (fun _ _ _ _ h => h) (Below.trans HW (hb'.mono HW.size))
      · have e70 : a.tmps[70]? = some (.bool false) := hI.sv 36 70 (by decide +kernel) (hw 36 (by kernel_rfl)) (by kernel_rfl)
        have eg : a.tmps[67]? = some (.bool true) := hI.sv 33 67 (by decide +kernel) (hw 33 (by kernel_rfl)) (by kernel_rfl)
        refine hI.gpure hap (by decide +kernel) (i := 37) (d := 71) rfl rfl  (j := 33) (dj := 67) rfl (by kernel_rfl) eg (v := .bool true) rfl (fun _ _ _ _ h => h) hI.g ?_
        intro K hKK
        go_simp
        exact hKK
      · have e67 : a.tmps[67]? = some (.bool true) := hI.sv 33 67 (by decide +kernel) (hw 33 (by kernel_rfl)) (by kernel_rfl)
        have e71 : a.tmps[71]? = some (.bool true) := hI.sv 37 71 (by decide +kernel) (hw 37 (by kernel_rfl)) (by kernel_rfl)
        refine hI.pure hap (by decide +kernel) (i := 38) (d := 72) rfl rfl rfl (v := .bool true) rfl (fun _ _ _ _ h => h) hI.g ?_
        intro K hKK
        go_simp
        exact hKK
      · have e72 : a.tmps[72]? = some (.bool true) := hI.sv 38 72 (by decide +kernel) (hw 38 (by kernel_rfl)) (by kernel_rfl)
        refine hI.pure hap (by decide +kernel) (i := 39) (d := 73) rfl rfl rfl (v := .bool true) rfl (fun _ _ _ _ h => h) hI.g ?_
        intro K hKK
        go_simp
        exact hKK
      · have eg : a.tmps[73]? = some (.bool true) := hI.sv 39 73 (by decide +kernel) (hw 39 (by kernel_rfl)) (by kernel_rfl)
        refine hI.gmore hap (by decide +kernel) (i := 40) (d := 74) rfl rfl  (j := 39) (dj := 73) rfl (by kernel_rfl) eg ?_
        intro K hKK
        have HW := hI.g
        go_simp
        refine (awake_any W).mono ?_
        rintro e W' ⟨rfl, hb'⟩
        exact hKK _ W' rfl (fun _ _ _ _ h => h) (Below.trans HW (hb'.mono HW.size))
      · have e73 : a.tmps[73]? = some (.bool true) := hI.sv 39 73 (by decide +kernel) (hw 39 (by kernel_rfl)) (by kernel_rfl)
        have e74 : a.tmps[74]? = some (.bool true) := hI.sv 40 74 (by decide +kernel) (hw 40 (by kernel_rfl)) (by kernel_rfl)
        refine hI.pure hap (by decide +kernel) (i := 41) (d := 75) rfl rfl rfl (v := .bool true) rfl (fun _ _ _ _ h => h) hI.g ?_
        intro K hKK
        go_simp
        exact hKK
      · have e75 : a.tmps[75]? = some (.bool true) := hI.sv 41 75 (by decide +kernel) (hw 41 (by kernel_rfl)) (by kernel_rfl)
        refine hI.pure hap (by decide +kernel) (i := 42) (d := 8) rfl rfl rfl (v := .bool true) rfl (fun _ _ _ _ h => h) hI.g ?_
        intro K hKK
        go_simp
        exact hKK
    case fin =>
      intro L a W hI hall
      have s0 : a.tmps[34]? = some (.agg #[.int .i64 1, .int .i64 0, .slice (some ⟨w.heap.size, 0, none⟩) 1 1, .slice (some ⟨w.heap.size + 1, 0, none⟩) 1 1, .int .i64 2]) := hI.sv 0 34 (by decide +kernel) (hall 0 (by decide +kernel)) (by kernel_rfl)
      have s1 : a.tmps[35]? = some (.agg #[.int .i64 2, .int .i64 0, .slice (some ⟨w.heap.size + 1 + 1 + 1, 0, none⟩) 1 1, .slice (some ⟨w.heap.size + 1 + 1 + 1 + 1, 0, none⟩) 1 1, .int .i64 2]) := hI.sv 1 35 (by decide +kernel) (hall 1 (by decide +kernel)) (by kernel_rfl)
      have s2 : a.tmps[36]? = some (.bool false) := hI.sv 2 36 (by decide +kernel) (hall 2 (by decide +kernel)) (by kernel_rfl)
      have s3 : a.tmps[37]? = some (.int .u8 B) := hI.sv 3 37 (by decide +kernel) (hall 3 (by decide +kernel)) (by kernel_rfl)
      have s4 : a.tmps[38]? = some (.int .u8 C) := hI.sv 4 38 (by decide +kernel) (hall 4 (by decide +kernel)) (by kernel_rfl)
      have s5 : a.tmps[39]? = some (.bool true) := hI.sv 5 39 (by decide +kernel) (hall 5 (by decide +kernel)) (by kernel_rfl)
      have s6 : a.tmps[40]? = some (.bool true) := hI.sv 6 40 (by decide +kernel) (hall 6 (by decide +kernel)) (by kernel_rfl)
      have s7 : a.tmps[41]? = some (undef) := hI.sv 7 41 (by decide +kernel) (hall 7 (by decide +kernel)) (by kernel_rfl)
      have s8 : a.tmps[42]? = some (undef) := hI.sv 8 42 (by decide +kernel) (hall 8 (by decide +kernel)) (by kernel_rfl)
      have s9 : a.tmps[43]? = some (undef) := hI.sv 9 43 (by decide +kernel) (hall 9 (by decide +kernel)) (by kernel_rfl)
      have s10 : a.tmps[44]? = some (.bool true) := hI.sv 10 44 (by decide +kernel) (hall 10 (by decide +kernel)) (by kernel_rfl)
      have s11 : a.tmps[45]? = some (.bool false) := hI.sv 11 45 (by decide +kernel) (hall 11 (by decide +kernel)) (by kernel_rfl)
      have s12 : a.tmps[46]? = some (.bool true) := hI.sv 12 46 (by decide +kernel) (hall 12 (by decide +kernel)) (by kernel_rfl)
      have s13 : a.tmps[47]? = some (.bool true) := hI.sv 13 47 (by decide +kernel) (hall 13 (by decide +kernel)) (by kernel_rfl)
      have s14 : a.tmps[48]? = some (.agg #[.int .i64 1, .int .i64 0, .slice (some ⟨w.heap.size, 0, none⟩) 1 1, .slice (some ⟨w.heap.size + 1, 0, none⟩) 1 1, .int .i64 2]) := hI.sv 14 48 (by decide +kernel) (hall 14 (by decide +kernel)) (by kernel_rfl)
      have s15 : a.tmps[49]? = some (.agg #[.int .i64 2, .int .i64 0, .slice (some ⟨w.heap.size + 1 + 1 + 1, 0, none⟩) 1 1, .slice (some ⟨w.heap.size + 1 + 1 + 1 + 1, 0, none⟩) 1 1, .int .i64 2]) := hI.sv 15 49 (by decide +kernel) (hall 15 (by decide +kernel)) (by kernel_rfl)
      have s16 : a.tmps[50]? = some (.bool false) := hI.sv 16 50 (by decide +kernel) (hall 16 (by decide +kernel)) (by kernel_rfl)
      have s17 : a.tmps[51]? = some (.agg #[.int .i64 2, .int .i64 0, .slice (some ⟨w.heap.size + 1 + 1 + 1, 0, none⟩) 1 1, .slice (some ⟨w.heap.size + 1 + 1 + 1 + 1, 0, none⟩) 1 1, .int .i64 2]) := hI.sv 17 51 (by decide +kernel) (hall 17 (by decide +kernel)) (by kernel_rfl)
      have s18 : a.tmps[52]? = some (.agg #[.int .i64 1, .int .i64 0, .slice (some ⟨w.heap.size, 0, none⟩) 1 1, .slice (some ⟨w.heap.size + 1, 0, none⟩) 1 1, .int .i64 2]) := hI.sv 18 52 (by decide +kernel) (hall 18 (by decide +kernel)) (by kernel_rfl)
      have s19 : a.tmps[53]? = some (.bool false) := hI.sv 19 53 (by decide +kernel) (hall 19 (by decide +kernel)) (by kernel_rfl)
      have s20 : a.tmps[54]? = some (.bool true) := hI.sv 20 54 (by decide +kernel) (hall 20 (by decide +kernel)) (by kernel_rfl)
      have s21 : a.tmps[55]? = some (.bool true) := hI.sv 21 55 (by decide +kernel) (hall 21 (by decide +kernel)) (by kernel_rfl)
      have s22 : a.tmps[56]? = some (.bool true) := hI.sv 22 56 (by decide +kernel) (hall 22 (by decide +kernel)) (by kernel_rfl)
      have s23 : a.tmps[57]? = some (.agg #[.int .i64 1, .int .i64 0, .slice (some ⟨w.heap.size, 0, none⟩) 1 1, .slice (some ⟨w.heap.size + 1, 0, none⟩) 1 1, .int .i64 2]) := hI.sv 23 57 (by decide +kernel) (hall 23 (by decide +kernel)) (by kernel_rfl)
      have s24 : a.tmps[58]? = some (.agg #[.int .i64 1, .int .i64 0, .slice (some ⟨w.heap.size, 0, none⟩) 1 1, .slice (some ⟨w.heap.size + 1, 0, none⟩) 1 1, .int .i64 2]) := hI.sv 24 58 (by decide +kernel) (hall 24 (by decide +kernel)) (by kernel_rfl)
      have s25 : a.tmps[59]? = some (.bool true) := hI.sv 25 59 (by decide +kernel) (hall 25 (by decide +kernel)) (by kernel_rfl)
      have s26 : a.tmps[60]? = some (.bool true) := hI.sv 26 60 (by decide +kernel) (hall 26 (by decide +kernel)) (by kernel_rfl)
      have s27 : a.tmps[61]? = some (.bool true) := hI.sv 27 61 (by decide +kernel) (hall 27 (by decide +kernel)) (by kernel_rfl)
      have s28 : a.tmps[62]? = some (.agg #[.int .i64 1, .int .i64 0, .slice (some ⟨w.heap.size, 0, none⟩) 1 1, .slice (some ⟨w.heap.size + 1, 0, none⟩) 1 1, .int .i64 2]) := hI.sv 28 62 (by decide +kernel) (hall 28 (by decide +kernel)) (by kernel_rfl)
      have s29 : a.tmps[63]? = some (.agg #[.int .i64 2, .int .i64 0, .slice (some ⟨w.heap.size + 1 + 1 + 1, 0, none⟩) 1 1, .slice (some ⟨w.heap.size + 1 + 1 + 1 + 1, 0, none⟩) 1 1, .int .i64 0]) := hI.sv 29 63 (by decide +kernel) (hall 29 (by decide +kernel)) (by kernel_rfl)
      have s30 : a.tmps[64]? = some (.bool false) := hI.sv 30 64 (by decide +kernel) (hall 30 (by decide +kernel)) (by kernel_rfl)
      have s31 : a.tmps[65]? = some (.bool true) := hI.sv 31 65 (by decide +kernel) (hall 31 (by decide +kernel)) (by kernel_rfl)
      have s32 : a.tmps[66]? = some (.bool true) := hI.sv 32 66 (by decide +kernel) (hall 32 (by decide +kernel)) (by kernel_rfl)
      have s33 : a.tmps[67]? = some (.bool true) := hI.sv 33 67 (by decide +kernel) (hall 33 (by decide +kernel)) (by kernel_rfl)
      have s34 : a.tmps[68]? = some (.agg #[.int .i64 2, .int .i64 0, .slice (some ⟨w.heap.size + 1 + 1 + 1, 0, none⟩) 1 1, .slice (some ⟨w.heap.size + 1 + 1 + 1 + 1, 0, none⟩) 1 1, .int .i64 0]) := hI.sv 34 68 (by decide +kernel) (hall 34 (by decide +kernel)) (by kernel_rfl)
      have s35 : a.tmps[69]? = some (.agg #[.int .i64 2, .int .i64 0, .slice (some ⟨w.heap.size + 1 + 1 + 1, 0, none⟩) 1 1, .slice (some ⟨w.heap.size + 1 + 1 + 1 + 1, 0, none⟩) 1 1, .int .i64 0]) := hI.sv 35 69 (by decide +kernel) (hall 35 (by decide +kernel)) (by kernel_rfl)
      have s36 : a.tmps[70]? = some (.bool false) := hI.sv 36 70 (by decide +kernel) (hall 36 (by decide +kernel)) (by kernel_rfl)
      have s37 : a.tmps[71]? = some (.bool true) := hI.sv 37 71 (by decide +kernel) (hall 37 (by decide +kernel)) (by kernel_rfl)
      have s38 : a.tmps[72]? = some (.bool true) := hI.sv 38 72 (by decide +kernel) (hall 38 (by decide +kernel)) (by kernel_rfl)
      have s39 : a.tmps[73]? = some (.bool true) := hI.sv 39 73 (by decide +kernel) (hall 39 (by decide +kernel)) (by kernel_rfl)
      have s40 : a.tmps[74]? = some (.bool true) := hI.sv 40 74 (by decide +kernel) (hall 40 (by decide +kernel)) (by kernel_rfl)
      have s41 : a.tmps[75]? = some (.bool true) := hI.sv 41 75 (by decide +kernel) (hall 41 (by decide +kernel)) (by kernel_rfl)
      have s42 : a.tmps[8]? = some (.bool true) := hI.sv 42 8 (by decide +kernel) (hall 42 (by decide +kernel)) (by kernel_rfl)
      have hfr := si_frame hI [(34, .agg #[.int .i64 1, .int .i64 0, .slice (some ⟨w.heap.size, 0, none⟩) 1 1, .slice (some ⟨w.heap.size + 1, 0, none⟩) 1 1, .int .i64 2]), (35, .agg #[.int .i64 2, .int .i64 0, .slice (some ⟨w.heap.size + 1 + 1 + 1, 0, none⟩) 1 1, .slice (some ⟨w.heap.size + 1 + 1 + 1 + 1, 0, none⟩) 1 1, .int .i64 2]), (36, .bool false), (37, .int .u8 B), (38, .int .u8 C), (39, .bool true), (40, .bool true), (41, undef), (42, undef), (43, undef), (44, .bool true), (45, .bool false), (46, .bool true), (47, .bool true), (48, .agg #[.int .i64 1, .int .i64 0, .slice (some ⟨w.heap.size, 0, none⟩) 1 1, .slice (some ⟨w.heap.size + 1, 0, none⟩) 1 1, .int .i64 2]), (49, .agg #[.int .i64 2, .int .i64 0, .slice (some ⟨w.heap.size + 1 + 1 + 1, 0, none⟩) 1 1, .slice (some ⟨w.heap.size + 1 + 1 + 1 + 1, 0, none⟩) 1 1, .int .i64 2]), (50, .bool false), (51, .agg #[.int .i64 2, .int .i64 0, .slice (some ⟨w.heap.size + 1 + 1 + 1, 0, none⟩) 1 1, .slice (some ⟨w.heap.size + 1 + 1 + 1 + 1, 0, none⟩) 1 1, .int .i64 2]), (52, .agg #[.int .i64 1, .int .i64 0, .slice (some ⟨w.heap.size, 0, none⟩) 1 1, .slice (some ⟨w.heap.size + 1, 0, none⟩) 1 1, .int .i64 2]), (53, .bool false), (54, .bool true), (55, .bool true), (56, .bool true), (57, .agg #[.int .i64 1, .int .i64 0, .slice (some ⟨w.heap.size, 0, none⟩) 1 1, .slice (some ⟨w.heap.size + 1, 0, none⟩) 1 1, .int .i64 2]), (58, .agg #[.int .i64 1, .int .i64 0, .slice (some ⟨w.heap.size, 0, none⟩) 1 1, .slice (some ⟨w.heap.size + 1, 0, none⟩) 1 1, .int .i64 2]), (59, .bool true), (60, .bool true), (61, .bool true), (62, .agg #[.int .i64 1, .int .i64 0, .slice (some ⟨w.heap.size, 0, none⟩) 1 1, .slice (some ⟨w.heap.size + 1, 0, none⟩) 1 1, .int .i64 2]), (63, .agg #[.int .i64 2, .int .i64 0, .slice (some ⟨w.heap.size + 1 + 1 + 1, 0, none⟩) 1 1, .slice (some ⟨w.heap.size + 1 + 1 + 1 + 1, 0, none⟩) 1 1, .int .i64 0]), (64, .bool false), (65, .bool true), (66, .bool true), (67, .bool true), (68, .agg #[.int .i64 2, .int .i64 0, .slice (some ⟨w.heap.size + 1 + 1 + 1, 0, none⟩) 1 1, .slice (some ⟨w.heap.size + 1 + 1 + 1 + 1, 0, none⟩) 1 1, .int .i64 0]), (69, .agg #[.int .i64 2, .int .i64 0, .slice (some ⟨w.heap.size + 1 + 1 + 1, 0, none⟩) 1 1, .slice (some ⟨w.heap.size + 1 + 1 + 1 + 1, 0, none⟩) 1 1, .int .i64 0]), (70, .bool false), (71, .bool true), (72, .bool true), (73, .bool true), (74, .bool true), (75, .bool true), (8, .bool true)] (by kernel_rfl) (List.forall_mem_cons.2 ⟨s0, List.forall_mem_cons.2 ⟨s1, List.forall_mem_cons.2 ⟨s2, List.forall_mem_cons.2 ⟨s3, List.forall_mem_cons.2 ⟨s4, List.forall_mem_cons.2 ⟨s5, List.forall_mem_cons.2 ⟨s6, List.forall_mem_cons.2 ⟨s7, List.forall_mem_cons.2 ⟨s8, List.forall_mem_cons.2 ⟨s9, List.forall_mem_cons.2 ⟨s10, List.forall_mem_cons.2 ⟨s11, List.forall_mem_cons.2 ⟨s12, List.forall_mem_cons.2 ⟨s13, List.forall_mem_cons.2 ⟨s14, List.forall_mem_cons.2 ⟨s15, List.forall_mem_cons.2 ⟨s16, List.forall_mem_cons.2 ⟨s17, List.forall_mem_cons.2 ⟨s18, List.forall_mem_cons.2 ⟨s19, List.forall_mem_cons.2 ⟨s20, List.forall_mem_cons.2 ⟨s21, List.forall_mem_cons.2 ⟨s22, List.forall_mem_cons.2 ⟨s23, List.forall_mem_cons.2 ⟨s24, List.forall_mem_cons.2 ⟨s25, List.forall_mem_cons.2 ⟨s26, List.forall_mem_cons.2 ⟨s27, List.forall_mem_cons.2 ⟨s28, List.forall_mem_cons.2 ⟨s29, List.forall_mem_cons.2 ⟨s30, List.forall_mem_cons.2 ⟨s31, List.forall_mem_cons.2 ⟨s32, List.forall_mem_cons.2 ⟨s33, List.forall_mem_cons.2 ⟨s34, List.forall_mem_cons.2 ⟨s35, List.forall_mem_cons.2 ⟨s36, List.forall_mem_cons.2 ⟨s37, List.forall_mem_cons.2 ⟨s38, List.forall_mem_cons.2 ⟨s39, List.forall_mem_cons.2 ⟨s40, List.forall_mem_cons.2 ⟨s41, List.forall_mem_cons.2 ⟨s42, List.forall_mem_nil _⟩⟩⟩⟩⟩⟩⟩⟩⟩⟩⟩⟩⟩⟩⟩⟩⟩⟩⟩⟩⟩⟩⟩⟩⟩⟩⟩⟩⟩⟩⟩⟩⟩⟩⟩⟩⟩⟩⟩⟩⟩⟩⟩)
      have HBR := hide (show Below _ _ W from hI.g)
      rw [hfr]
      clear hfr hI hall s0 s1 s2 s3 s4 s5 s6 s7 s8 s9 s10 s11 s12 s13 s14 s15 s16 s17 s18 s19 s20 s21 s22 s23 s24 s25 s26 s27 s28 s29 s30 s31 s32 s33 s34 s35 s36 s37 s38 s39 s40 s41 s42
      simp only [List.foldl, List.setIfInBounds_toArray, List.set_cons_zero, List.set_cons_succ]
      go_wp2
      go_ret
      exact ⟨rfl, HB.out.trans (HBR.out.mono HB.out.size)⟩
  · have HC := hide (tw_calls HTW.out HRG.out.1 HRG.out.2.1 HRG.out.2.2.1 HRG.out.2.2.2 HO1.out HO2.out false (by rw [decide_eq_true p2]; cases decide (B < C) <;> rfl))
    unfold hx He.v at HC
    refine region_sv (tcV1 w A B C D) (by kernel_rfl) (by kernel_rfl) (by kernel_rfl) ?step ?fin
    case step =>
      intro L a W i hap hI hi hLi hw
      have hi2 : i < 43 := hi
      rcases (show i = 0 ∨ i = 1 ∨ i = 2 ∨ i = 3 ∨ i = 4 ∨ i = 5 ∨ i = 6 ∨ i = 7 ∨ i = 8 ∨ i = 9 ∨ i = 10 ∨ i = 11 ∨ i = 12 ∨ i = 13 ∨ i = 14 ∨ i = 15 ∨ i = 16 ∨ i = 17 ∨ i = 18 ∨ i = 19 ∨ i = 20 ∨ i = 21 ∨ i = 22 ∨ i = 23 ∨ i = 24 ∨ i = 25 ∨ i = 26 ∨ i = 27 ∨ i = 28 ∨ i = 29 ∨ i = 30 ∨ i = 31 ∨ i = 32 ∨ i = 33 ∨ i = 34 ∨ i = 35 ∨ i = 36 ∨ i = 37 ∨ i = 38 ∨ i = 39 ∨ i = 40 ∨ i = 41 ∨ i = 42 by omega) with rfl | rfl | rfl | rfl | rfl | rfl | rfl | rfl | rfl | rfl | rfl | rfl | rfl | rfl | rfl | rfl | rfl | rfl | rfl | rfl | rfl | rfl | rfl | rfl | rfl | rfl | rfl | rfl | rfl | rfl | rfl | rfl | rfl | rfl | rfl | rfl | rfl | rfl | rfl | rfl | rfl | rfl | rfl
      · have e9 := hI.kept 9 _ (by decide +kernel) rfl
        have k0 := ((HTW.out.e2).below hI.g HTW.out.e2.lt).cell (o := 0) rfl
        have k1 := ((HTW.out.e2).below hI.g HTW.out.e2.lt).cell (o := 1) rfl
        have k2 := ((HTW.out.e2).below hI.g HTW.out.e2.lt).cell (o := 2) rfl
        have k3 := ((HTW.out.e2).below hI.g HTW.out.e2.lt).cell (o := 3) rfl
        have k4 := ((HTW.out.e2).below hI.g HTW.out.e2.lt).cell (o := 4) rfl
        refine hI.pure hap (by decide +kernel) (i := 0) (d := 34) rfl rfl rfl (v := .agg #[.int .i64 1, .int .i64 0, .slice (some ⟨w.heap.size, 0, none⟩) 1 1, .slice (some ⟨w.heap.size + 1, 0, none⟩) 1 1, .int .i64 2]) rfl (fun _ _ _ _ h => h) hI.g ?_
        intro K hKK
        go_simp
        exact hKK
      · have e10 := hI.kept 10 _ (by decide +kernel) rfl
        have k0 := ((HTW.out.e5).below hI.g HTW.out.e5.lt).cell (o := 0) rfl
        have k1 := ((HTW.out.e5).below hI.g HTW.out.e5.lt).cell (o := 1) rfl
        have k2 := ((HTW.out.e5).below hI.g HTW.out.e5.lt).cell (o := 2) rfl
        have k3 := ((HTW.out.e5).below hI.g HTW.out.e5.lt).cell (o := 3) rfl
        have k4 := ((HTW.out.e5).below hI.g HTW.out.e5.lt).cell (o := 4) rfl
        refine hI.pure hap (by decide +kernel) (i := 1) (d := 35) rfl rfl rfl (v := .agg #[.int .i64 2, .int .i64 0, .slice (some ⟨w.heap.size + 1 + 1 + 1, 0, none⟩) 1 1, .slice (some ⟨w.heap.size + 1 + 1 + 1 + 1, 0, none⟩) 1 1, .int .i64 2]) rfl (fun _ _ _ _ h => h) hI.g ?_
        intro K hKK
        go_simp
        exact hKK
      · have e34 : a.tmps[34]? = some (.agg #[.int .i64 1, .int .i64 0, .slice (some ⟨w.heap.size, 0, none⟩) 1 1, .slice (some ⟨w.heap.size + 1, 0, none⟩) 1 1, .int .i64 2]) := hI.sv 0 34 (by decide +kernel) (hw 0 (by kernel_rfl)) (by kernel_rfl)
        have e35 : a.tmps[35]? = some (.agg #[.int .i64 2, .int .i64 0, .slice (some ⟨w.heap.size + 1 + 1 + 1, 0, none⟩) 1 1, .slice (some ⟨w.heap.size + 1 + 1 + 1 + 1, 0, none⟩) 1 1, .int .i64 2]) := hI.sv 1 35 (by decide +kernel) (hw 1 (by kernel_rfl)) (by kernel_rfl)
        refine hI.more hap (by decide +kernel) (i := 2) (d := 36) rfl rfl rfl ?_
        intro K hKK
        have HW := hI.g
        go_simp
        refine ((HC.out W HW).1).mono ?_
        rintro e W' ⟨rfl, hb'⟩
        exact hKK _ W' rfl (fun _ _ _ _ h => h) (Below.trans HW (hb'.mono HW.size))
      · have e1 := hI.kept 1 _ (by decide +kernel) rfl
        refine hI.pure hap (by decide +kernel) (i := 3) (d := 37) rfl rfl rfl (v := .int .u8 B) rfl (fun _ _ _ _ h => h) hI.g ?_
        intro K hKK
        go_simp
        exact hKK
      · have e2 := hI.kept 2 _ (by decide +kernel) rfl
        refine hI.pure hap (by decide +kernel) (i := 4) (d := 38) rfl rfl rfl (v := .int .u8 C) rfl (fun _ _ _ _ h => h) hI.g ?_
        intro K hKK
        go_simp
        exact hKK
      · have e37 : a.tmps[37]? = some (.int .u8 B) := hI.sv 3 37 (by decide +kernel) (hw 3 (by kernel_rfl)) (by kernel_rfl)
        have e38 : a.tmps[38]? = some (.int .u8 C) := hI.sv 4 38 (by decide +kernel) (hw 4 (by kernel_rfl)) (by kernel_rfl)
        refine hI.pure hap (by decide +kernel) (i := 5) (d := 39) rfl rfl rfl (v := .bool false) rfl (fun _ _ _ _ h => h) hI.g ?_
        intro K hKK
        go_simp
        exact hKK
      · have e39 : a.tmps[39]? = some (.bool false) := hI.sv 5 39 (by decide +kernel) (hw 5 (by kernel_rfl)) (by kernel_rfl)
        refine hI.pure hap (by decide +kernel) (i := 6) (d := 40) rfl rfl rfl (v := .bool false) rfl (fun _ _ _ _ h => h) hI.g ?_
        intro K hKK
        go_simp
        exact hKK
      · have e3 := hI.kept 3 _ (by decide +kernel) rfl
        have eg : a.tmps[40]? = some (.bool false) := hI.sv 6 40 (by decide +kernel) (hw 6 (by kernel_rfl)) (by kernel_rfl)
        refine hI.gpure hap (by decide +kernel) (i := 7) (d := 41) rfl rfl  (j := 6) (dj := 40) rfl (by kernel_rfl) eg (v := .int .u8 D) rfl (fun _ _ _ _ h => h) hI.g ?_
        intro K hKK
        go_simp
        exact hKK
      · have e0 := hI.kept 0 _ (by decide +kernel) rfl
        have eg : a.tmps[40]? = some (.bool false) := hI.sv 6 40 (by decide +kernel) (hw 6 (by kernel_rfl)) (by kernel_rfl)
        refine hI.gpure hap (by decide +kernel) (i := 8) (d := 42) rfl rfl  (j := 6) (dj := 40) rfl (by kernel_rfl) eg (v := .int .u8 A) rfl (fun _ _ _ _ h => h) hI.g ?_
        intro K hKK
        go_simp
        exact hKK
      · have e41 : a.tmps[41]? = some (.int .u8 D) := hI.sv 7 41 (by decide +kernel) (hw 7 (by kernel_rfl)) (by kernel_rfl)
        have e42 : a.tmps[42]? = some (.int .u8 A) := hI.sv 8 42 (by decide +kernel) (hw 8 (by kernel_rfl)) (by kernel_rfl)
        have eg : a.tmps[40]? = some (.bool false) := hI.sv 6 40 (by decide +kernel) (hw 6 (by kernel_rfl)) (by kernel_rfl)
        refine hI.gpure hap (by decide +kernel) (i := 9) (d := 43) rfl rfl  (j := 6) (dj := 40) rfl (by kernel_rfl) eg (v := .bool true) rfl (fun _ _ _ _ h => h) hI.g ?_
        intro K hKK
        go_simp
        exact hKK
      · have e40 : a.tmps[40]? = some (.bool false) := hI.sv 6 40 (by decide +kernel) (hw 6 (by kernel_rfl)) (by kernel_rfl)
        have e43 : a.tmps[43]? = some (.bool true) := hI.sv 9 43 (by decide +kernel) (hw 9 (by kernel_rfl)) (by kernel_rfl)
        refine hI.pure hap (by decide +kernel) (i := 10) (d := 44) rfl rfl rfl (v := .bool true) rfl (fun _ _ _ _ h => h) hI.g ?_
        intro K hKK
        go_simp
        exact hKK
      · have e44 : a.tmps[44]? = some (.bool true) := hI.sv 10 44 (by decide +kernel) (hw 10 (by kernel_rfl)) (by kernel_rfl)
        refine hI.pure hap (by decide +kernel) (i := 11) (d := 45) rfl rfl rfl (v := .bool false) rfl (fun _ _ _ _ h => h) hI.g ?_
        intro K hKK
        go_simp
        exact hKK
      · have e36 : a.tmps[36]? = some (.bool false) := hI.sv 2 36 (by decide +kernel) (hw 2 (by kernel_rfl)) (by kernel_rfl)
        have e45 : a.tmps[45]? = some (.bool false) := hI.sv 11 45 (by decide +kernel) (hw 11 (by kernel_rfl)) (by kernel_rfl)
        refine hI.pure hap (by decide +kernel) (i := 12) (d := 46) rfl rfl rfl (v := .bool true) rfl (fun _ _ _ _ h => h) hI.g ?_
        intro K hKK
        go_simp
        exact hKK
      · have e46 : a.tmps[46]? = some (.bool true) := hI.sv 12 46 (by decide +kernel) (hw 12 (by kernel_rfl)) (by kernel_rfl)
        refine hI.pure hap (by decide +kernel) (i := 13) (d := 47) rfl rfl rfl (v := .bool true) rfl (fun _ _ _ _ h => h) hI.g ?_
        intro K hKK
        go_simp
        exact hKK
      · have e9 := hI.kept 9 _ (by decide +kernel) rfl
        have eg : a.tmps[47]? = some (.bool true) := hI.sv 13 47 (by decide +kernel) (hw 13 (by kernel_rfl)) (by kernel_rfl)
        have k0 := ((HTW.out.e2).below hI.g HTW.out.e2.lt).cell (o := 0) rfl
        have k1 := ((HTW.out.e2).below hI.g HTW.out.e2.lt).cell (o := 1) rfl
        have k2 := ((HTW.out.e2).below hI.g HTW.out.e2.lt).cell (o := 2) rfl
        have k3 := ((HTW.out.e2).below hI.g HTW.out.e2.lt).cell (o := 3) rfl
        have k4 := ((HTW.out.e2).below hI.g HTW.out.e2.lt).cell (o := 4) rfl
        refine hI.gpure hap (by decide +kernel) (i := 14) (d := 48) rfl rfl  (j := 13) (dj := 47) rfl (by kernel_rfl) eg (v := .agg #[.int .i64 1, .int .i64 0, .slice (some ⟨w.heap.size, 0, none⟩) 1 1, .slice (some ⟨w.heap.size + 1, 0, none⟩) 1 1, .int .i64 2]) rfl (fun _ _ _ _ h => h) hI.g ?_
        intro K hKK
        go_simp
        exact hKK
      · have e10 := hI.kept 10 _ (by decide +kernel) rfl
        have eg : a.tmps[47]? = some (.bool true) := hI.sv 13 47 (by decide +kernel) (hw 13 (by kernel_rfl)) (by kernel_rfl)
        have k0 := ((HTW.out.e5).below hI.g HTW.out.e5.lt).cell (o := 0) rfl
        have k1 := ((HTW.out.e5).below hI.g HTW.out.e5.lt).cell (o := 1) rfl
        have k2 := ((HTW.out.e5).below hI.g HTW.out.e5.lt).cell (o := 2) rfl
        have k3 := ((HTW.out.e5).below hI.g HTW.out.e5.lt).cell (o := 3) rfl
        have k4 := ((HTW.out.e5).below hI.g HTW.out.e5.lt).cell (o := 4) rfl
        refine hI.gpure hap (by decide +kernel) (i := 15) (d := 49) rfl rfl  (j := 13) (dj := 47) rfl (by kernel_rfl) eg (v := .agg #[.int .i64 2, .int .i64 0, .slice (some ⟨w.heap.size + 1 + 1 + 1, 0, none⟩) 1 1, .slice (some ⟨w.heap.size + 1 + 1 + 1 + 1, 0, none⟩) 1 1, .int .i64 2]) rfl (fun _ _ _ _ h => h) hI.g ?_
        intro K hKK
        go_simp
        exact hKK
      · have e48 : a.tmps[48]? = some (.agg #[.int .i64 1, .int .i64 0, .slice (some ⟨w.heap.size, 0, none⟩) 1 1, .slice (some ⟨w.heap.size + 1, 0, none⟩) 1 1, .int .i64 2]) := hI.sv 14 48 (by decide +kernel) (hw 14 (by kernel_rfl)) (by kernel_rfl)
        have e49 : a.tmps[49]? = some (.agg #[.int .i64 2, .int .i64 0, .slice (some ⟨w.heap.size + 1 + 1 + 1, 0, none⟩) 1 1, .slice (some ⟨w.heap.size + 1 + 1 + 1 + 1, 0, none⟩) 1 1, .int .i64 2]) := hI.sv 15 49 (by decide +kernel) (hw 15 (by kernel_rfl)) (by kernel_rfl)
        have eg : a.tmps[47]? = some (.bool true) := hI.sv 13 47 (by decide +kernel) (hw 13 (by kernel_rfl)) (by kernel_rfl)
        refine hI.gmore hap (by decide +kernel) (i := 16) (d := 50) rfl rfl  (j := 13) (dj := 47) rfl (by kernel_rfl) eg ?_
        intro K hKK
        have HW := hI.g
        go_simp
        refine ((HC.out W HW).1).mono ?_
        rintro e W' ⟨rfl, hb'⟩
        exact hKK _ W' rfl (fun _ _ _ _ h => h) (Below.trans HW (hb'.mono HW.size))
      · have e10 := hI.kept 10 _ (by decide +kernel) rfl
        have eg : a.tmps[47]? = some (.bool true) := hI.sv 13 47 (by decide +kernel) (hw 13 (by kernel_rfl)) (by kernel_rfl)
        have k0 := ((HTW.out.e5).below hI.g HTW.out.e5.lt).cell (o := 0) rfl
        have k1 := ((HTW.out.e5).below hI.g HTW.out.e5.lt).cell (o := 1) rfl
        have k2 := ((HTW.out.e5).below hI.g HTW.out.e5.lt).cell (o := 2) rfl
        have k3 := ((HTW.out.e5).below hI.g HTW.out.e5.lt).cell (o := 3) rfl
        have k4 := ((HTW.out.e5).below hI.g HTW.out.e5.lt).cell (o := 4) rfl
        refine hI.gpure hap (by decide +kernel) (i := 17) (d := 51) rfl rfl  (j := 13) (dj := 47) rfl (by kernel_rfl) eg (v := .agg #[.int .i64 2, .int .i64 0, .slice (some ⟨w.heap.size + 1 + 1 + 1, 0, none⟩) 1 1, .slice (some ⟨w.heap.size + 1 + 1 + 1 + 1, 0, none⟩) 1 1, .int .i64 2]) rfl (fun _ _ _ _ h => h) hI.g ?_
        intro K hKK
        go_simp
        exact hKK
      · have e9 := hI.kept 9 _ (by decide +kernel) rfl
        have eg : a.tmps[47]? = some (.bool true) := hI.sv 13 47 (by decide +kernel) (hw 13 (by kernel_rfl)) (by kernel_rfl)
        have k0 := ((HTW.out.e2).below hI.g HTW.out.e2.lt).cell (o := 0) rfl
        have k1 := ((HTW.out.e2).below hI.g HTW.out.e2.lt).cell (o := 1) rfl
        have k2 := ((HTW.out.e2).below hI.g HTW.out.e2.lt).cell (o := 2) rfl
        have k3 := ((HTW.out.e2).below hI.g HTW.out.e2.lt).cell (o := 3) rfl
        have k4 := ((HTW.out.e2).below hI.g HTW.out.e2.lt).cell (o := 4) rfl
        refine hI.gpure hap (by decide +kernel) (i := 18) (d := 52) rfl rfl  (j := 13) (dj := 47) rfl (by kernel_rfl) eg (v := .agg #[.int .i64 1, .int .i64 0, .slice (some ⟨w.heap.size, 0, none⟩) 1 1, .slice (some ⟨w.heap.size + 1, 0, none⟩) 1 1, .int .i64 2]) rfl (fun _ _ _ _ h => h) hI.g ?_
        intro K hKK
        go_simp
        exact hKK
      · have e51 : a.tmps[51]? = some (.agg #[.int .i64 2, .int .i64 0, .slice (some ⟨w.heap.size + 1 + 1 + 1, 0, none⟩) 1 1, .slice (some ⟨w.heap.size + 1 + 1 + 1 + 1, 0, none⟩) 1 1, .int .i64 2]) := hI.sv 17 51 (by decide +kernel) (hw 17 (by kernel_rfl)) (by kernel_rfl)
        have e52 : a.tmps[52]? = some (.agg #[.int .i64 1, .int .i64 0, .slice (some ⟨w.heap.size, 0, none⟩) 1 1, .slice (some ⟨w.heap.size + 1, 0, none⟩) 1 1, .int .i64 2]) := hI.sv 18 52 (by decide +kernel) (hw 18 (by kernel_rfl)) (by kernel_rfl)
        have eg : a.tmps[47]? = some (.bool true) := hI.sv 13 47 (by decide +kernel) (hw 13 (by kernel_rfl)) (by kernel_rfl)
        refine hI.gmore hap (by decide +kernel) (i := 19) (d := 53) rfl rfl  (j := 13) (dj := 47) rfl (by kernel_rfl) eg ?_
        intro K hKK
        have HW := hI.g
        go_simp
        refine ((HC.out W HW).2.1).mono ?_
        rintro e W' ⟨rfl, hb'⟩
        exact hKK _ W' rfl (fun _ _ _ _ h => h) (Below.trans HW (hb'.mono HW.size))
      · have e50 : a.tmps[50]? = some (.bool false) := hI.sv 16 50 (by decide +kernel) (hw 16 (by kernel_rfl)) (by kernel_rfl)
        have e53 : a.tmps[53]? = some (.bool false) := hI.sv 19 53 (by decide +kernel) (hw 19 (by kernel_rfl)) (by kernel_rfl)
        have eg : a.tmps[47]? = some (.bool true) := hI.sv 13 47 (by decide +kernel) (hw 13 (by kernel_rfl)) (by kernel_rfl)
        refine hI.gpure hap (by decide +kernel) (i := 20) (d := 54) rfl rfl  (j := 13) (dj := 47) rfl (by kernel_rfl) eg (v := .bool true) rfl (fun _ _ _ _ h => h) hI.g ?_
        intro K hKK
        go_simp
        exact hKK
      · have e47 : a.tmps[47]? = some (.bool true) := hI.sv 13 47 (by decide +kernel) (hw 13 (by kernel_rfl)) (by kernel_rfl)
        have e54 : a.tmps[54]? = some (.bool true) := hI.sv 20 54 (by decide +kernel) (hw 20 (by kernel_rfl)) (by kernel_rfl)
        refine hI.pure hap (by decide +kernel) (i := 21) (d := 55) rfl rfl rfl (v := .bool true) rfl (fun _ _ _ _ h => h) hI.g ?_
        intro K hKK
        go_simp
        exact hKK
      · have e55 : a.tmps[55]? = some (.bool true) := hI.sv 21 55 (by decide +kernel) (hw 21 (by kernel_rfl)) (by kernel_rfl)
        refine hI.pure hap (by decide +kernel) (i := 22) (d := 56) rfl rfl rfl (v := .bool true) rfl (fun _ _ _ _ h => h) hI.g ?_
        intro K hKK
        go_simp
        exact hKK
      · have e9 := hI.kept 9 _ (by decide +kernel) rfl
        have eg : a.tmps[56]? = some (.bool true) := hI.sv 22 56 (by decide +kernel) (hw 22 (by kernel_rfl)) (by kernel_rfl)
        have k0 := ((HTW.out.e2).below hI.g HTW.out.e2.lt).cell (o := 0) rfl
        have k1 := ((HTW.out.e2).below hI.g HTW.out.e2.lt).cell (o := 1) rfl
        have k2 := ((HTW.out.e2).below hI.g HTW.out.e2.lt).cell (o := 2) rfl
        have k3 := ((HTW.out.e2).below hI.g HTW.out.e2.lt).cell (o := 3) rfl
        have k4 := ((HTW.out.e2).below hI.g HTW.out.e2.lt).cell (o := 4) rfl
        refine hI.gpure hap (by decide +kernel) (i := 23) (d := 57) rfl rfl  (j := 22) (dj := 56) rfl (by kernel_rfl) eg (v := .agg #[.int .i64 1, .int .i64 0, .slice (some ⟨w.heap.size, 0, none⟩) 1 1, .slice (some ⟨w.heap.size + 1, 0, none⟩) 1 1, .int .i64 2]) rfl (fun _ _ _ _ h => h) hI.g ?_
        intro K hKK
        go_simp
        exact hKK
      · have e9 := hI.kept 9 _ (by decide +kernel) rfl
        have eg : a.tmps[56]? = some (.bool true) := hI.sv 22 56 (by decide +kernel) (hw 22 (by kernel_rfl)) (by kernel_rfl)
        have k0 := ((HTW.out.e2).below hI.g HTW.out.e2.lt).cell (o := 0) rfl
        have k1 := ((HTW.out.e2).below hI.g HTW.out.e2.lt).cell (o := 1) rfl
        have k2 := ((HTW.out.e2).below hI.g HTW.out.e2.lt).cell (o := 2) rfl
        have k3 := ((HTW.out.e2).below hI.g HTW.out.e2.lt).cell (o := 3) rfl
        have k4 := ((HTW.out.e2).below hI.g HTW.out.e2.lt).cell (o := 4) rfl
        refine hI.gpure hap (by decide +kernel) (i := 24) (d := 58) rfl rfl  (j := 22) (dj := 56) rfl (by kernel_rfl) eg (v := .agg #[.int .i64 1, .int .i64 0, .slice (some ⟨w.heap.size, 0, none⟩) 1 1, .slice (some ⟨w.heap.size + 1, 0, none⟩) 1 1, .int .i64 2]) rfl (fun _ _ _ _ h => h) hI.g ?_
        intro K hKK
        go_simp
        exact hKK
      · have e57 : a.tmps[57]? = some (.agg #[.int .i64 1, .int .i64 0, .slice (some ⟨w.heap.size, 0, none⟩) 1 1, .slice (some ⟨w.heap.size + 1, 0, none⟩) 1 1, .int .i64 2]) := hI.sv 23 57 (by decide +kernel) (hw 23 (by kernel_rfl)) (by kernel_rfl)
        have e58 : a.tmps[58]? = some (.agg #[.int .i64 1, .int .i64 0, .slice (some ⟨w.heap.size, 0, none⟩) 1 1, .slice (some ⟨w.heap.size + 1, 0, none⟩) 1 1, .int .i64 2]) := hI.sv 24 58 (by decide +kernel) (hw 24 (by kernel_rfl)) (by kernel_rfl)
        have eg : a.tmps[56]? = some (.bool true) := hI.sv 22 56 (by decide +kernel) (hw 22 (by kernel_rfl)) (by kernel_rfl)
        refine hI.gmore hap (by decide +kernel) (i := 25) (d := 59) rfl rfl  (j := 22) (dj := 56) rfl (by kernel_rfl) eg ?_
        intro K hKK
        have HW := hI.g
        go_simp
        refine ((HC.out W HW).2.2.1).mono ?_
        rintro e W' ⟨rfl, hb'⟩
        exact hKK _ W' rfl (fun _ _ _ _ h => h) (Below.trans HW (hb'.mono HW.size))
      · have e56 : a.tmps[56]? = some (.bool true) := hI.sv 22 56 (by decide +kernel) (hw 22 (by kernel_rfl)) (by kernel_rfl)
        have e59 : a.tmps[59]? = some (.bool true) := hI.sv 25 59 (by decide +kernel) (hw 25 (by kernel_rfl)) (by kernel_rfl)
        refine hI.pure hap (by decide +kernel) (i := 26) (d := 60) rfl rfl rfl (v := .bool true) rfl (fun _ _ _ _ h => h) hI.g ?_
        intro K hKK
        go_simp
        exact hKK
      · have e60 : a.tmps[60]? = some (.bool true) := hI.sv 26 60 (by decide +kernel) (hw 26 (by kernel_rfl)) (by kernel_rfl)
        refine hI.pure hap (by decide +kernel) (i := 27) (d := 61) rfl rfl rfl (v := .bool true) rfl (fun _ _ _ _ h => h) hI.g ?_
        intro K hKK
        go_simp
        exact hKK
      · have e9 := hI.kept 9 _ (by decide +kernel) rfl
        have eg : a.tmps[61]? = some (.bool true) := hI.sv 27 61 (by decide +kernel) (hw 27 (by kernel_rfl)) (by kernel_rfl)
        have k0 := ((HTW.out.e2).below hI.g HTW.out.e2.lt).cell (o := 0) rfl
        have k1 := ((HTW.out.e2).below hI.g HTW.out.e2.lt).cell (o := 1) rfl
        have k2 := ((HTW.out.e2).below hI.g HTW.out.e2.lt).cell (o := 2) rfl
        have k3 := ((HTW.out.e2).below hI.g HTW.out.e2.lt).cell (o := 3) rfl
        have k4 := ((HTW.out.e2).below hI.g HTW.out.e2.lt).cell (o := 4) rfl
        refine hI.gpure hap (by decide +kernel) (i := 28) (d := 62) rfl rfl  (j := 27) (dj := 61) rfl (by kernel_rfl) eg (v := .agg #[.int .i64 1, .int .i64 0, .slice (some ⟨w.heap.size, 0, none⟩) 1 1, .slice (some ⟨w.heap.size + 1, 0, none⟩) 1 1, .int .i64 2]) rfl (fun _ _ _ _ h => h) hI.g ?_
        intro K hKK
        go_simp
        exact hKK
      · have e11 := hI.kept 11 _ (by decide +kernel) rfl
        have eg : a.tmps[61]? = some (.bool true) := hI.sv 27 61 (by decide +kernel) (hw 27 (by kernel_rfl)) (by kernel_rfl)
        have k0 := ((HTW.out.e6).below hI.g HTW.out.e6.lt).cell (o := 0) rfl
        have k1 := ((HTW.out.e6).below hI.g HTW.out.e6.lt).cell (o := 1) rfl
        have k2 := ((HTW.out.e6).below hI.g HTW.out.e6.lt).cell (o := 2) rfl
        have k3 := ((HTW.out.e6).below hI.g HTW.out.e6.lt).cell (o := 3) rfl
        have k4 := ((HTW.out.e6).below hI.g HTW.out.e6.lt).cell (o := 4) rfl
        refine hI.gpure hap (by decide +kernel) (i := 29) (d := 63) rfl rfl  (j := 27) (dj := 61) rfl (by kernel_rfl) eg (v := .agg #[.int .i64 2, .int .i64 0, .slice (some ⟨w.heap.size + 1 + 1 + 1, 0, none⟩) 1 1, .slice (some ⟨w.heap.size + 1 + 1 + 1 + 1, 0, none⟩) 1 1, .int .i64 0]) rfl (fun _ _ _ _ h => h) hI.g ?_
        intro K hKK
        go_simp
        exact hKK
      · have e62 : a.tmps[62]? = some (.agg #[.int .i64 1, .int .i64 0, .slice (some ⟨w.heap.size, 0, none⟩) 1 1, .slice (some ⟨w.heap.size + 1, 0, none⟩) 1 1, .int .i64 2]) := hI.sv 28 62 (by decide +kernel) (hw 28 (by kernel_rfl)) (by kernel_rfl)
        have e63 : a.tmps[63]? = some (.agg #[.int .i64 2, .int .i64 0, .slice (some ⟨w.heap.size + 1 + 1 + 1, 0, none⟩) 1 1, .slice (some ⟨w.heap.size + 1 + 1 + 1 + 1, 0, none⟩) 1 1, .int .i64 0]) := hI.sv 29 63 (by decide +kernel) (hw 29 (by kernel_rfl)) (by kernel_rfl)
        have eg : a.tmps[61]? = some (.bool true) := hI.sv 27 61 (by decide +kernel) (hw 27 (by kernel_rfl)) (by kernel_rfl)
        refine hI.gmore hap (by decide +kernel) (i := 30) (d := 64) rfl rfl  (j := 27) (dj := 61) rfl (by kernel_rfl) eg ?_
        intro K hKK
        have HW := hI.g
        go_simp
        refine ((HC.out W HW).2.2.2.1).mono ?_
        rintro e W' ⟨rfl, hb'⟩
        exact hKK _ W' rfl (fun _ _ _ _ h => h) (Below.trans HW (hb'.mono HW.size))
      · have e64 : a.tmps[64]? = some (.bool false) := hI.sv 30 64 (by decide +kernel) (hw 30 (by kernel_rfl)) (by kernel_rfl)
        have eg : a.tmps[61]? = some (.bool true) := hI.sv 27 61 (by decide +kernel) (hw 27 (by kernel_rfl)) (by kernel_rfl)
        refine hI.gpure hap (by decide +kernel) (i := 31) (d := 65) rfl rfl  (j := 27) (dj := 61) rfl (by kernel_rfl) eg (v := .bool true) rfl (fun _ _ _ _ h => h) hI.g ?_
        intro K hKK
        go_simp
        exact hKK
      · have e61 : a.tmps[61]? = some (.bool true) := hI.sv 27 61 (by decide +kernel) (hw 27 (by kernel_rfl)) (by kernel_rfl)
        have e65 : a.tmps[65]? = some (.bool true) := hI.sv 31 65 (by decide +kernel) (hw 31 (by kernel_rfl)) (by kernel_rfl)
        refine hI.pure hap (by decide +kernel) (i := 32) (d := 66) rfl rfl rfl (v := .bool true) rfl (fun _ _ _ _ h => h) hI.g ?_
        intro K hKK
        go_simp
        exact hKK
      · have e66 : a.tmps[66]? = some (.bool true) := hI.sv 32 66 (by decide +kernel) (hw 32 (by kernel_rfl)) (by kernel_rfl)
        refine hI.pure hap (by decide +kernel) (i := 33) (d := 67) rfl rfl rfl (v := .bool true) rfl (fun _ _ _ _ h => h) hI.g ?_
        intro K hKK
        go_simp
        exact hKK
      · have e11 := hI.kept 11 _ (by decide +kernel) rfl
        have eg : a.tmps[67]? = some (.bool true) := hI.sv 33 67 (by decide +kernel) (hw 33 (by kernel_rfl)) (by kernel_rfl)
        have k0 := ((HTW.out.e6).below hI.g HTW.out.e6.lt).cell (o := 0) rfl
        have k1 := ((HTW.out.e6).below hI.g HTW.out.e6.lt).cell (o := 1) rfl
        have k2 := ((HTW.out.e6).below hI.g HTW.out.e6.lt).cell (o := 2) rfl
        have k3 := ((HTW.out.e6).below hI.g HTW.out.e6.lt).cell (o := 3) rfl
        have k4 := ((HTW.out.e6).below hI.g HTW.out.e6.lt).cell (o := 4) rfl
        refine hI.gpure hap (by decide +kernel) (i := 34) (d := 68) rfl rfl  (j := 33) (dj := 67) rfl (by kernel_rfl) eg (v := .agg #[.int .i64 2, .int .i64 0, .slice (some ⟨w.heap.size + 1 + 1 + 1, 0, none⟩) 1 1, .slice (some ⟨w.heap.size + 1 + 1 + 1 + 1, 0, none⟩) 1 1, .int .i64 0]) rfl (fun _ _ _ _ h => h) hI.g ?_
        intro K hKK
        go_simp
        exact hKK
      · have e11 := hI.kept 11 _ (by decide +kernel) rfl
        have eg : a.tmps[67]? = some (.bool true) := hI.sv 33 67 (by decide +kernel) (hw 33 (by kernel_rfl)) (by kernel_rfl)
        have k0 := ((HTW.out.e6).below hI.g HTW.out.e6.lt).cell (o := 0) rfl
        have k1 := ((HTW.out.e6).below hI.g HTW.out.e6.lt).cell (o := 1) rfl
        have k2 := ((HTW.out.e6).below hI.g HTW.out.e6.lt).cell (o := 2) rfl
        have k3 := ((HTW.out.e6).below hI.g HTW.out.e6.lt).cell (o := 3) rfl
        have k4 := ((HTW.out.e6).below hI.g HTW.out.e6.lt).cell (o := 4) rfl
        refine hI.gpure hap (by decide +kernel) (i := 35) (d := 69) rfl rfl  (j := 33) (dj := 67) rfl (by kernel_rfl) eg (v := .agg #[.int .i64 2, .int .i64 0, .slice (some ⟨w.heap.size + 1 + 1 + 1, 0, none⟩) 1 1, .slice (some ⟨w.heap.size + 1 + 1 + 1 + 1, 0, none⟩) 1 1, .int .i64 0]) rfl (fun _ _ _ _ h => h) hI.g ?_
        intro K hKK
        go_simp
        exact hKK
      · have e68 : a.tmps[68]? = some (.agg #[.int .i64 2, .int .i64 0, .slice (some ⟨w.heap.size + 1 + 1 + 1, 0, none⟩) 1 1, .slice (some ⟨w.heap.size + 1 + 1 + 1 + 1, 0, none⟩) 1 1, .int .i64 0]) := hI.sv 34 68 (by decide +kernel) (hw 34 (by kernel_rfl)) (by kernel_rfl)
        have e69 : a.tmps[69]? = some (.agg #[.int .i64 2, .int .i64 0, .slice (some ⟨w.heap.size + 1 + 1 + 1, 0, none⟩) 1 1, .slice (some ⟨w.heap.size + 1 + 1 + 1 + 1, 0, none⟩) 1 1, .int .i64 0]) := hI.sv 35 69 (by decide +kernel) (hw 35 (by kernel_rfl)) (by kernel_rfl)
        have eg : a.tmps[67]? = some (.bool true) := hI.sv 33 67 (by decide +kernel) (hw 33 (by kernel_rfl)) (by kernel_rfl)
        refine hI.gmore hap (by decide +kernel) (i := 36) (d := 70) rfl rfl  (j := 33) (dj := 67) rfl (by kernel_rfl) eg ?_
        intro K hKK
        have HW := hI.g
        go_simp
        refine ((HC.out W HW).2.2.2.2).mono ?_
        rintro e W' ⟨rfl, hb'⟩
        exact hKK _ W' rfl (fun _ _ _ _ h => h) (Below.trans HW (hb'.mono HW.size))
      · have e70 : a.tmps[70]? = some (.bool false) := hI.sv 36 70 (by decide +kernel) (hw 36 (by kernel_rfl)) (by kernel_rfl)
        have eg : a.tmps[67]? = some (.bool true) := hI.sv 33 67 (by decide +kernel) (hw 33 (by kernel_rfl)) (by kernel_rfl)
        refine hI.gpure hap (by decide +kernel) (i := 37) (d := 71) rfl rfl  (j := 33) (dj := 67) rfl (by kernel_rfl) eg (v := .bool true) rfl (fun _ _ _ _ h => h) hI.g ?_
        intro K hKK
        go_simp
        exact hKK
      · have e67 : a.tmps[67]? = some (.bool true) := hI.sv 33 67 (by decide +kernel) (hw 33 (by kernel_rfl)) (by kernel_rfl)
        have e71 : a.tmps[71]? = some (.bool true) := hI.sv 37 71 (by decide +kernel) (hw 37 (by kernel_rfl)) (by kernel_rfl)
        refine hI.pure hap (by decide +kernel) (i := 38) (d := 72) rfl rfl rfl (v := .bool true) rfl (fun _ _ _ _ h => h) hI.g ?_
        intro K hKK
        go_simp
        exact hKK
      · have e72 : a.tmps[72]? = some (.bool true) := hI.sv 38 72 (by decide +kernel) (hw 38 (by kernel_rfl)) (by kernel_rfl)
        refine hI.pure hap (by decide +kernel) (i := 39) (d := 73) rfl rfl rfl (v := .bool true) rfl (fun _ _ _ _ h => h) hI.g ?_
        intro K hKK
        go_simp
        exact hKK
      · have eg : a.tmps[73]? = some (.bool true) := hI.sv 39 73 (by decide +kernel) (hw 39 (by kernel_rfl)) (by kernel_rfl)
        refine hI.gmore hap (by decide +kernel) (i := 40) (d := 74) rfl rfl  (j := 39) (dj := 73) rfl (by kernel_rfl) eg ?_
        intro K hKK
        have HW := hI.g
        go_simp
        refine (awake_any W).mono ?_
        rintro e W' ⟨rfl, hb'⟩
        exact hKK _ W' rfl (fun _ _ _ _ h => h) (Below.trans HW (hb'.mono HW.size))
      · have e73 : a.tmps[73]? = some (.bool true) := hI.sv 39 73 (by decide +kernel) (hw 39 (by kernel_rfl)) (by kernel_rfl)
        have e74 : a.tmps[74]? = some (.bool true) := hI.sv 40 74 (by decide +kernel) (hw 40 (by kernel_rfl)) (by kernel_rfl)
        refine hI.pure hap (by decide +kernel) (i := 41) (d := 75) rfl rfl rfl (v := .bool true) rfl (fun _ _ _ _ h => h) hI.g ?_
        intro K hKK
        go_simp
        exact hKK
      · have e75 : a.tmps[75]? = some (.bool true) := hI.sv 41 75 (by decide +kernel) (hw 41 (by kernel_rfl)) (by kernel_rfl)
        refine hI.pure hap (by decide +kernel) (i := 42) (d := 8) rfl rfl rfl (v := .bool true) rfl (fun _ _ _ _ h => h) hI.g ?_
        intro K hKK
        go_simp
        exact hKK
    case fin =>
      intro L a W hI hall
      have s0 : a.tmps[34]? = some (.agg #[.int .i64 1, .int .i64 0, .slice (some ⟨w.heap.size, 0, none⟩) 1 1, .slice (some ⟨w.heap.size + 1, 0, none⟩) 1 1, .int .i64 2]) := hI.sv 0 34 (by decide +kernel) (hall 0 (by decide +kernel)) (by kernel_rfl)
      have s1 : a.tmps[35]? = some (.agg #[.int .i64 2, .int .i64 0, .slice (some ⟨w.heap.size + 1 + 1 + 1, 0, none⟩) 1 1, .slice (some ⟨w.heap.size + 1 + 1 + 1 + 1, 0, none⟩) 1 1, .int .i64 2]) := hI.sv 1 35 (by decide +kernel) (hall 1 (by decide +kernel)) (by kernel_rfl)
      have s2 : a.tmps[36]? = some (.bool false) := hI.sv 2 36 (by decide +kernel) (hall 2 (by decide +kernel)) (by kernel_rfl)
      have s3 : a.tmps[37]? = some (.int .u8 B) := hI.sv 3 37 (by decide +kernel) (hall 3 (by decide +kernel)) (by kernel_rfl)
      have s4 : a.tmps[38]? = some (.int .u8 C) := hI.sv 4 38 (by decide +kernel) (hall 4 (by decide +kernel)) (by kernel_rfl)
      have s5 : a.tmps[39]? = some (.bool false) := hI.sv 5 39 (by decide +kernel) (hall 5 (by decide +kernel)) (by kernel_rfl)
      have s6 : a.tmps[40]? = some (.bool false) := hI.sv 6 40 (by decide +kernel) (hall 6 (by decide +kernel)) (by kernel_rfl)
      have s7 : a.tmps[41]? = some (.int .u8 D) := hI.sv 7 41 (by decide +kernel) (hall 7 (by decide +kernel)) (by kernel_rfl)
      have s8 : a.tmps[42]? = some (.int .u8 A) := hI.sv 8 42 (by decide +kernel) (hall 8 (by decide +kernel)) (by kernel_rfl)
      have s9 : a.tmps[43]? = some (.bool true) := hI.sv 9 43 (by decide +kernel) (hall 9 (by decide +kernel)) (by kernel_rfl)
      have s10 : a.tmps[44]? = some (.bool true) := hI.sv 10 44 (by decide +kernel) (hall 10 (by decide +kernel)) (by kernel_rfl)
      have s11 : a.tmps[45]? = some (.bool false) := hI.sv 11 45 (by decide +kernel) (hall 11 (by decide +kernel)) (by kernel_rfl)
      have s12 : a.tmps[46]? = some (.bool true) := hI.sv 12 46 (by decide +kernel) (hall 12 (by decide +kernel)) (by kernel_rfl)
      have s13 : a.tmps[47]? = some (.bool true) := hI.sv 13 47 (by decide +kernel) (hall 13 (by decide +kernel)) (by kernel_rfl)
      have s14 : a.tmps[48]? = some (.agg #[.int .i64 1, .int .i64 0, .slice (some ⟨w.heap.size, 0, none⟩) 1 1, .slice (some ⟨w.heap.size + 1, 0, none⟩) 1 1, .int .i64 2]) := hI.sv 14 48 (by decide +kernel) (hall 14 (by decide +kernel)) (by kernel_rfl)
      have s15 : a.tmps[49]? = some (.agg #[.int .i64 2, .int .i64 0, .slice (some ⟨w.heap.size + 1 + 1 + 1, 0, none⟩) 1 1, .slice (some ⟨w.heap.size + 1 + 1 + 1 + 1, 0, none⟩) 1 1, .int .i64 2]) := hI.sv 15 49 (by decide +kernel) (hall 15 (by decide +kernel)) (by kernel_rfl)
      have s16 : a.tmps[50]? = some (.bool false) := hI.sv 16 50 (by decide +kernel) (hall 16 (by decide +kernel)) (by kernel_rfl)
      have s17 : a.tmps[51]? = some (.agg #[.int .i64 2, .int .i64 0, .slice (some ⟨w.heap.size + 1 + 1 + 1, 0, none⟩) 1 1, .slice (some ⟨w.heap.size + 1 + 1 + 1 + 1, 0, none⟩) 1 1, .int .i64 2]) := hI.sv 17 51 (by decide +kernel) (hall 17 (by decide +kernel)) (by kernel_rfl)
      have s18 : a.tmps[52]? = some (.agg #[.int .i64 1, .int .i64 0, .slice (some ⟨w.heap.size, 0, none⟩) 1 1, .slice (some ⟨w.heap.size + 1, 0, none⟩) 1 1, .int .i64 2]) := hI.sv 18 52 (by decide +kernel) (hall 18 (by decide +kernel)) (by kernel_rfl)
      have s19 : a.tmps[53]? = some (.bool false) := hI.sv 19 53 (by decide +kernel) (hall 19 (by decide +kernel)) (by kernel_rfl)
      have s20 : a.tmps[54]? = some (.bool true) := hI.sv 20 54 (by decide +kernel) (hall 20 (by decide +kernel)) (by kernel_rfl)
      have s21 : a.tmps[55]? = some (.bool true) := hI.sv 21 55 (by decide +kernel) (hall 21 (by decide +kernel)) (by kernel_rfl)
      have s22 : a.tmps[56]? = some (.bool true) := hI.sv 22 56 (by decide +kernel) (hall 22 (by decide +kernel)) (by kernel_rfl)
      have s23 : a.tmps[57]? = some (.agg #[.int .i64 1, .int .i64 0, .slice (some ⟨w.heap.size, 0, none⟩) 1 1, .slice (some ⟨w.heap.size + 1, 0, none⟩) 1 1, .int .i64 2]) := hI.sv 23 57 (by decide +kernel) (hall 23 (by decide +kernel)) (by kernel_rfl)
      have s24 : a.tmps[58]? = some (.agg #[.int .i64 1, .int .i64 0, .slice (some ⟨w.heap.size, 0, none⟩) 1 1, .slice (some ⟨w.heap.size + 1, 0, none⟩) 1 1, .int .i64 2]) := hI.sv 24 58 (by decide +kernel) (hall 24 (by decide +kernel)) (by kernel_rfl)
      have s25 : a.tmps[59]? = some (.bool true) := hI.sv 25 59 (by decide +kernel) (hall 25 (by decide +kernel)) (by kernel_rfl)
      have s26 : a.tmps[60]? = some (.bool true) := hI.sv 26 60 (by decide +kernel) (hall 26 (by decide +kernel)) (by kernel_rfl)
      have s27 : a.tmps[61]? = some (.bool true) := hI.sv 27 61 (by decide +kernel) (hall 27 (by decide +kernel)) (by kernel_rfl)
      have s28 : a.tmps[62]? = some (.agg #[.int .i64 1, .int .i64 0, .slice (some ⟨w.heap.size, 0, none⟩) 1 1, .slice (some ⟨w.heap.size + 1, 0, none⟩) 1 1, .int .i64 2]) := hI.sv 28 62 (by decide +kernel) (hall 28 (by decide +kernel)) (by kernel_rfl)
      have s29 : a.tmps[63]? = some (.agg #[.int .i64 2, .int .i64 0, .slice (some ⟨w.heap.size + 1 + 1 + 1, 0, none⟩) 1 1, .slice (some ⟨w.heap.size + 1 + 1 + 1 + 1, 0, none⟩) 1 1, .int .i64 0]) := hI.sv 29 63 (by decide +kernel) (hall 29 (by decide +kernel)) (by kernel_rfl)
      have s30 : a.tmps[64]? = some (.bool false) := hI.sv 30 64 (by decide +kernel) (hall 30 (by decide +kernel)) (by kernel_rfl)
      have s31 : a.tmps[65]? = some (.bool true) := hI.sv 31 65 (by decide +kernel) (hall 31 (by decide +kernel)) (by kernel_rfl)
      have s32 : a.tmps[66]? = some (.bool true) := hI.sv 32 66 (by decide +kernel) (hall 32 (by decide +kernel)) (by kernel_rfl)
      have s33 : a.tmps[67]? = some (.bool true) := hI.sv 33 67 (by decide +kernel) (hall 33 (by decide +kernel)) (by kernel_rfl)
      have s34 : a.tmps[68]? = some (.agg #[.int .i64 2, .int .i64 0, .slice (some ⟨w.heap.size + 1 + 1 + 1, 0, none⟩) 1 1, .slice (some ⟨w.heap.size + 1 + 1 + 1 + 1, 0, none⟩) 1 1, .int .i64 0]) := hI.sv 34 68 (by decide +kernel) (hall 34 (by decide +kernel)) (by kernel_rfl)
      have s35 : a.tmps[69]? = some (.agg #[.int .i64 2, .int .i64 0, .slice (some ⟨w.heap.size + 1 + 1 + 1, 0, none⟩) 1 1, .slice (some ⟨w.heap.size + 1 + 1 + 1 + 1, 0, none⟩) 1 1, .int .i64 0]) := hI.sv 35 69 (by decide +kernel) (hall 35 (by decide +kernel)) (by kernel_rfl)
      have s36 : a.tmps[70]? = some (.bool false) := hI.sv 36 70 (by decide +kernel) (hall 36 (by decide +kernel)) (by kernel_rfl)
      have s37 : a.tmps[71]? = some (.bool true) := hI.sv 37 71 (by decide +kernel) (hall 37 (by decide +kernel)) (by kernel_rfl)
      have s38 : a.tmps[72]? = some (.bool true) := hI.sv 38 72 (by decide +kernel) (hall 38 (by decide +kernel)) (by kernel_rfl)
      have s39 : a.tmps[73]? = some (.bool true) := hI.sv 39 73 (by decide +kernel) (hall 39 (by decide +kernel)) (by kernel_rfl)
      have s40 : a.tmps[74]? = some (.bool true) := hI.sv 40 74 (by decide +kernel) (hall 40 (by decide +kernel)) (by kernel_rfl)
      have s41 : a.tmps[75]? = some (.bool true) := hI.sv 41 75 (by decide +kernel) (hall 41 (by decide +kernel)) (by kernel_rfl)
      have s42 : a.tmps[8]? = some (.bool true) := hI.sv 42 8 (by decide +kernel) (hall 42 (by decide +kernel)) (by kernel_rfl)
      have hfr := si_frame hI [(34, .agg #[.int .i64 1, .int .i64 0, .slice (some ⟨w.heap.size, 0, none⟩) 1 1, .slice (some ⟨w.heap.size + 1, 0, none⟩) 1 1, .int .i64 2]), (35, .agg #[.int .i64 2, .int .i64 0, .slice (some ⟨w.heap.size + 1 + 1 + 1, 0, none⟩) 1 1, .slice (some ⟨w.heap.size + 1 + 1 + 1 + 1, 0, none⟩) 1 1, .int .i64 2]), (36, .bool false), (37, .int .u8 B), (38, .int .u8 C), (39, .bool false), (40, .bool false), (41, .int .u8 D), (42, .int .u8 A), (43, .bool true), (44, .bool true), (45, .bool false), (46, .bool true), (47, .bool true), (48, .agg #[.int .i64 1, .int .i64 0, .slice (some ⟨w.heap.size, 0, none⟩) 1 1, .slice (some ⟨w.heap.size + 1, 0, none⟩) 1 1, .int .i64 2]), (49, .agg #[.int .i64 2, .int .i64 0, .slice (some ⟨w.heap.size + 1 + 1 + 1, 0, none⟩) 1 1, .slice (some ⟨w.heap.size + 1 + 1 + 1 + 1, 0, none⟩) 1 1, .int .i64 2]), (50, .bool false), (51, .agg #[.int .i64 2, .int .i64 0, .slice (some ⟨w.heap.size + 1 + 1 + 1, 0, none⟩) 1 1, .slice (some ⟨w.heap.size + 1 + 1 + 1 + 1, 0, none⟩) 1 1, .int .i64 2]), (52, .agg #[.int .i64 1, .int .i64 0, .slice (some ⟨w.heap.size, 0, none⟩) 1 1, .slice (some ⟨w.heap.size + 1, 0, none⟩) 1 1, .int .i64 2]), (53, .bool false), (54, .bool true), (55, .bool true), (56, .bool true), (57, .agg #[.int .i64 1, .int .i64 0, .slice (some ⟨w.heap.size, 0, none⟩) 1 1, .slice (some ⟨w.heap.size + 1, 0, none⟩) 1 1, .int .i64 2]), (58, .agg #[.int .i64 1, .int .i64 0, .slice (some ⟨w.heap.size, 0, none⟩) 1 1, .slice (some ⟨w.heap.size + 1, 0, none⟩) 1 1, .int .i64 2]), (59, .bool true), (60, .bool true), (61, .bool true), (62, .agg #[.int .i64 1, .int .i64 0, .slice (some ⟨w.heap.size, 0, none⟩) 1 1, .slice (some ⟨w.heap.size + 1, 0, none⟩) 1 1, .int .i64 2]), (63, .agg #[.int .i64 2, .int .i64 0, .slice (some ⟨w.heap.size + 1 + 1 + 1, 0, none⟩) 1 1, .slice (some ⟨w.heap.size + 1 + 1 + 1 + 1, 0, none⟩) 1 1, .int .i64 0]), (64, .bool false), (65, .bool true), (66, .bool true), (67, .bool true), (68, .agg #[.int .i64 2, .int .i64 0, .slice (some ⟨w.heap.size + 1 + 1 + 1, 0, none⟩) 1 1, .slice (some ⟨w.heap.size + 1 + 1 + 1 + 1, 0, none⟩) 1 1, .int .i64 0]), (69, .agg #[.int .i64 2, .int .i64 0, .slice (some ⟨w.heap.size + 1 + 1 + 1, 0, none⟩) 1 1, .slice (some ⟨w.heap.size + 1 + 1 + 1 + 1, 0, none⟩) 1 1, .int .i64 0]), (70, .bool false), (71, .bool true), (72, .bool true), (73, .bool true), (74, .bool true), (75, .bool true), (8, .bool true)] (by kernel_rfl) (List.forall_mem_cons.2 ⟨s0, List.forall_mem_cons.2 ⟨s1, List.forall_mem_cons.2 ⟨s2, List.forall_mem_cons.2 ⟨s3, List.forall_mem_cons.2 ⟨s4, List.forall_mem_cons.2 ⟨s5, List.forall_mem_cons.2 ⟨s6, List.forall_mem_cons.2 ⟨s7, List.forall_mem_cons.2 ⟨s8, List.forall_mem_cons.2 ⟨s9, List.forall_mem_cons.2 ⟨s10, List.forall_mem_cons.2 ⟨s11, List.forall_mem_cons.2 ⟨s12, List.forall_mem_cons.2 ⟨s13, List.forall_mem_cons.2 ⟨s14, List.forall_mem_cons.2 ⟨s15, List.forall_mem_cons.2 ⟨s16, List.forall_mem_cons.2 ⟨s17, List.forall_mem_cons.2 ⟨s18, List.forall_mem_cons.2 ⟨s19, List.forall_mem_cons.2 ⟨s20, List.forall_mem_cons.2 ⟨s21, List.forall_mem_cons.2 ⟨s22, List.forall_mem_cons.2 ⟨s23, List.forall_mem_cons.2 ⟨s24, List.forall_mem_cons.2 ⟨s25, List.forall_mem_cons.2 ⟨s26, List.forall_mem_cons.2 ⟨s27, List.forall_mem_cons.2 ⟨s28, List.forall_mem_cons.2 ⟨s29, List.forall_mem_cons.2 ⟨s30, List.forall_mem_cons.2 ⟨s31, List.forall_mem_cons.2 ⟨s32, List.forall_mem_cons.2 ⟨s33, List.forall_mem_cons.2 ⟨s34, List.forall_mem_cons.2 ⟨s35, List.forall_mem_cons.2 ⟨s36, List.forall_mem_cons.2 ⟨s37, List.forall_mem_cons.2 ⟨s38, List.forall_mem_cons.2 ⟨s39, List.forall_mem_cons.2 ⟨s40, List.forall_mem_cons.2 ⟨s41, List.forall_mem_cons.2 ⟨s42, List.forall_mem_nil _⟩⟩⟩⟩⟩⟩⟩⟩⟩⟩⟩⟩⟩⟩⟩⟩⟩⟩⟩⟩⟩⟩⟩⟩⟩⟩⟩⟩⟩⟩⟩⟩⟩⟩⟩⟩⟩⟩⟩⟩⟩⟩⟩)
      have HBR := hide (show Below _ _ W from hI.g)
      rw [hfr]
      clear hfr hI hall s0 s1 s2 s3 s4 s5 s6 s7 s8 s9 s10 s11 s12 s13 s14 s15 s16 s17 s18 s19 s20 s21 s22 s23 s24 s25 s26 s27 s28 s29 s30 s31 s32 s33 s34 s35 s36 s37 s38 s39 s40 s41 s42
      simp only [List.foldl, List.setIfInBounds_toArray, List.set_cons_zero, List.set_cons_succ]
      go_wp2
      go_ret
      exact ⟨rfl, HB.out.trans (HBR.out.mono HB.out.size)⟩
  · have HC := hide (tw_calls HTW.out HRG.out.1 HRG.out.2.1 HRG.out.2.2.1 HRG.out.2.2.2 HO1.out HO2.out true (by rw [decide_eq_false p1, decide_eq_false p2]; rfl))
    unfold hx He.v at HC
    refine region_sv (tcV2 w A B C D) (by kernel_rfl) (by kernel_rfl) (by kernel_rfl) ?step ?fin
    case step =>
      intro L a W i hap hI hi hLi hw
      have hi2 : i < 43 := hi
      rcases (show i = 0 ∨ i = 1 ∨ i = 2 ∨ i = 3 ∨ i = 4 ∨ i = 5 ∨ i = 6 ∨ i = 7 ∨ i = 8 ∨ i = 9 ∨ i = 10 ∨ i = 11 ∨ i = 12 ∨ i = 13 ∨ i = 14 ∨ i = 15 ∨ i = 16 ∨ i = 17 ∨ i = 18 ∨ i = 19 ∨ i = 20 ∨ i = 21 ∨ i = 22 ∨ i = 23 ∨ i = 24 ∨ i = 25 ∨ i = 26 ∨ i = 27 ∨ i = 28 ∨ i = 29 ∨ i = 30 ∨ i = 31 ∨ i = 32 ∨ i = 33 ∨ i = 34 ∨ i = 35 ∨ i = 36 ∨ i = 37 ∨ i = 38 ∨ i = 39 ∨ i = 40 ∨ i = 41 ∨ i = 42 by omega) with rfl | rfl | rfl | rfl | rfl | rfl | rfl | rfl | rfl | rfl | rfl | rfl | rfl | rfl | rfl | rfl | rfl | rfl | rfl | rfl | rfl | rfl | rfl | rfl | rfl | rfl | rfl | rfl | rfl | rfl | rfl | rfl | rfl | rfl | rfl | rfl | rfl | rfl | rfl | rfl | rfl | rfl | rfl
      · have e9 := hI.kept 9 _ (by decide +kernel) rfl
        have k0 := ((HTW.out.e2).below hI.g HTW.out.e2.lt).cell (o := 0) rfl
        have k1 := ((HTW.out.e2).below hI.g HTW.out.e2.lt).cell (o := 1) rfl
        have k2 := ((HTW.out.e2).below hI.g HTW.out.e2.lt).cell (o := 2) rfl
        have k3 := ((HTW.out.e2).below hI.g HTW.out.e2.lt).cell (o := 3) rfl
        have k4 := ((HTW.out.e2).below hI.g HTW.out.e2.lt).cell (o := 4) rfl
        refine hI.pure hap (by decide +kernel) (i := 0) (d := 34) rfl rfl rfl (v := .agg #[.int .i64 1, .int .i64 0, .slice (some ⟨w.heap.size, 0, none⟩) 1 1, .slice (some ⟨w.heap.size + 1, 0, none⟩) 1 1, .int .i64 2]) rfl (fun _ _ _ _ h => h) hI.g ?_
        intro K hKK
        go_simp
        exact hKK
      · have e10 := hI.kept 10 _ (by decide +kernel) rfl
        have k0 := ((HTW.out.e5).below hI.g HTW.out.e5.lt).cell (o := 0) rfl
        have k1 := ((HTW.out.e5).below hI.g HTW.out.e5.lt).cell (o := 1) rfl
        have k2 := ((HTW.out.e5).below hI.g HTW.out.e5.lt).cell (o := 2) rfl
        have k3 := ((HTW.out.e5).below hI.g HTW.out.e5.lt).cell (o := 3) rfl
        have k4 := ((HTW.out.e5).below hI.g HTW.out.e5.lt).cell (o := 4) rfl
        refine hI.pure hap (by decide +kernel) (i := 1) (d := 35) rfl rfl rfl (v := .agg #[.int .i64 2, .int .i64 0, .slice (some ⟨w.heap.size + 1 + 1 + 1, 0, none⟩) 1 1, .slice (some ⟨w.heap.size + 1 + 1 + 1 + 1, 0, none⟩) 1 1, .int .i64 2]) rfl (fun _ _ _ _ h => h) hI.g ?_
        intro K hKK
        go_simp
        exact hKK
      · have e34 : a.tmps[34]? = some (.agg #[.int .i64 1, .int .i64 0, .slice (some ⟨w.heap.size, 0, none⟩) 1 1, .slice (some ⟨w.heap.size + 1, 0, none⟩) 1 1, .int .i64 2]) := hI.sv 0 34 (by decide +kernel) (hw 0 (by kernel_rfl)) (by kernel_rfl)
        have e35 : a.tmps[35]? = some (.agg #[.int .i64 2, .int .i64 0, .slice (some ⟨w.heap.size + 1 + 1 + 1, 0, none⟩) 1 1, .slice (some ⟨w.heap.size + 1 + 1 + 1 + 1, 0, none⟩) 1 1, .int .i64 2]) := hI.sv 1 35 (by decide +kernel) (hw 1 (by kernel_rfl)) (by kernel_rfl)
        refine hI.more hap (by decide +kernel) (i := 2) (d := 36) rfl rfl rfl ?_
        intro K hKK
        have HW := hI.g
        go_simp
        refine ((HC.out W HW).1).mono ?_
        rintro e W' ⟨rfl, hb'⟩
        exact hKK _ W' rfl (fun _ _ _ _ h => h) (Below.trans HW (hb'.mono HW.size))
      · have e1 := hI.kept 1 _ (by decide +kernel) rfl
        refine hI.pure hap (by decide +kernel) (i := 3) (d := 37) rfl rfl rfl (v := .int .u8 B) rfl (fun _ _ _ _ h => h) hI.g ?_
        intro K hKK
        go_simp
        exact hKK
      · have e2 := hI.kept 2 _ (by decide +kernel) rfl
        refine hI.pure hap (by decide +kernel) (i := 4) (d := 38) rfl rfl rfl (v := .int .u8 C) rfl (fun _ _ _ _ h => h) hI.g ?_
        intro K hKK
        go_simp
        exact hKK
      · have e37 : a.tmps[37]? = some (.int .u8 B) := hI.sv 3 37 (by decide +kernel) (hw 3 (by kernel_rfl)) (by kernel_rfl)
        have e38 : a.tmps[38]? = some (.int .u8 C) := hI.sv 4 38 (by decide +kernel) (hw 4 (by kernel_rfl)) (by kernel_rfl)
        refine hI.pure hap (by decide +kernel) (i := 5) (d := 39) rfl rfl rfl (v := .bool false) rfl (fun _ _ _ _ h => h) hI.g ?_
        intro K hKK
        go_simp
        exact hKK
      · have e39 : a.tmps[39]? = some (.bool false) := hI.sv 5 39 (by decide +kernel) (hw 5 (by kernel_rfl)) (by kernel_rfl)
        refine hI.pure hap (by decide +kernel) (i := 6) (d := 40) rfl rfl rfl (v := .bool false) rfl (fun _ _ _ _ h => h) hI.g ?_
        intro K hKK
        go_simp
        exact hKK
      · have e3 := hI.kept 3 _ (by decide +kernel) rfl
        have eg : a.tmps[40]? = some (.bool false) := hI.sv 6 40 (by decide +kernel) (hw 6 (by kernel_rfl)) (by kernel_rfl)
        refine hI.gpure hap (by decide +kernel) (i := 7) (d := 41) rfl rfl  (j := 6) (dj := 40) rfl (by kernel_rfl) eg (v := .int .u8 D) rfl (fun _ _ _ _ h => h) hI.g ?_
        intro K hKK
        go_simp
        exact hKK
      · have e0 := hI.kept 0 _ (by decide +kernel) rfl
        have eg : a.tmps[40]? = some (.bool false) := hI.sv 6 40 (by decide +kernel) (hw 6 (by kernel_rfl)) (by kernel_rfl)
        refine hI.gpure hap (by decide +kernel) (i := 8) (d := 42) rfl rfl  (j := 6) (dj := 40) rfl (by kernel_rfl) eg (v := .int .u8 A) rfl (fun _ _ _ _ h => h) hI.g ?_
        intro K hKK
        go_simp
        exact hKK
      · have e41 : a.tmps[41]? = some (.int .u8 D) := hI.sv 7 41 (by decide +kernel) (hw 7 (by kernel_rfl)) (by kernel_rfl)
        have e42 : a.tmps[42]? = some (.int .u8 A) := hI.sv 8 42 (by decide +kernel) (hw 8 (by kernel_rfl)) (by kernel_rfl)
        have eg : a.tmps[40]? = some (.bool false) := hI.sv 6 40 (by decide +kernel) (hw 6 (by kernel_rfl)) (by kernel_rfl)
        refine hI.gpure hap (by decide +kernel) (i := 9) (d := 43) rfl rfl  (j := 6) (dj := 40) rfl (by kernel_rfl) eg (v := .bool false) rfl (fun _ _ _ _ h => h) hI.g ?_
        intro K hKK
        go_simp
        exact hKK
      · have e40 : a.tmps[40]? = some (.bool false) := hI.sv 6 40 (by decide +kernel) (hw 6 (by kernel_rfl)) (by kernel_rfl)
        have e43 : a.tmps[43]? = some (.bool false) := hI.sv 9 43 (by decide +kernel) (hw 9 (by kernel_rfl)) (by kernel_rfl)
        refine hI.pure hap (by decide +kernel) (i := 10) (d := 44) rfl rfl rfl (v := .bool false) rfl (fun _ _ _ _ h => h) hI.g ?_
        intro K hKK
        go_simp
        exact hKK
      · have e44 : a.tmps[44]? = some (.bool false) := hI.sv 10 44 (by decide +kernel) (hw 10 (by kernel_rfl)) (by kernel_rfl)
        refine hI.pure hap (by decide +kernel) (i := 11) (d := 45) rfl rfl rfl (v := .bool true) rfl (fun _ _ _ _ h => h) hI.g ?_
        intro K hKK
        go_simp
        exact hKK
      · have e36 : a.tmps[36]? = some (.bool true) := hI.sv 2 36 (by decide +kernel) (hw 2 (by kernel_rfl)) (by kernel_rfl)
        have e45 : a.tmps[45]? = some (.bool true) := hI.sv 11 45 (by decide +kernel) (hw 11 (by kernel_rfl)) (by kernel_rfl)
        refine hI.pure hap (by decide +kernel) (i := 12) (d := 46) rfl rfl rfl (v := .bool true) rfl (fun _ _ _ _ h => h) hI.g ?_
        intro K hKK
        go_simp
        exact hKK
      · have e46 : a.tmps[46]? = some (.bool true) := hI.sv 12 46 (by decide +kernel) (hw 12 (by kernel_rfl)) (by kernel_rfl)
        refine hI.pure hap (by decide +kernel) (i := 13) (d := 47) rfl rfl rfl (v := .bool true) rfl (fun _ _ _ _ h => h) hI.g ?_
        intro K hKK
        go_simp
        exact hKK
      · have e9 := hI.kept 9 _ (by decide +kernel) rfl
        have eg : a.tmps[47]? = some (.bool true) := hI.sv 13 47 (by decide +kernel) (hw 13 (by kernel_rfl)) (by kernel_rfl)
        have k0 := ((HTW.out.e2).below hI.g HTW.out.e2.lt).cell (o := 0) rfl
        have k1 := ((HTW.out.e2).below hI.g HTW.out.e2.lt).cell (o := 1) rfl
        have k2 := ((HTW.out.e2).below hI.g HTW.out.e2.lt).cell (o := 2) rfl
        have k3 := ((HTW.out.e2).below hI.g HTW.out.e2.lt).cell (o := 3) rfl
        have k4 := ((HTW.out.e2).below hI.g HTW.out.e2.lt).cell (o := 4) rfl
        refine hI.gpure hap (by decide +kernel) (i := 14) (d := 48) rfl rfl  (j := 13) (dj := 47) rfl (by kernel_rfl) eg (v := .agg #[.int .i64 1, .int .i64 0, .slice (some ⟨w.heap.size, 0, none⟩) 1 1, .slice (some ⟨w.heap.size + 1, 0, none⟩) 1 1, .int .i64 2]) rfl (fun _ _ _ _ h => h) hI.g ?_
        intro K hKK
        go_simp
        exact hKK
      · have e10 := hI.kept 10 _ (by decide +kernel) rfl
        have eg : a.tmps[47]? = some (.bool true) := hI.sv 13 47 (by decide +kernel) (hw 13 (by kernel_rfl)) (by kernel_rfl)
        have k0 := ((HTW.out.e5).below hI.g HTW.out.e5.lt).cell (o := 0) rfl
        have k1 := ((HTW.out.e5).below hI.g HTW.out.e5.lt).cell (o := 1) rfl
        have k2 := ((HTW.out.e5).below hI.g HTW.out.e5.lt).cell (o := 2) rfl
        have k3 := ((HTW.out.e5).below hI.g HTW.out.e5.lt).cell (o := 3) rfl
        have k4 := ((HTW.out.e5).below hI.g HTW.out.e5.lt).cell (o := 4) rfl
        refine hI.gpure hap (by decide +kernel) (i := 15) (d := 49) rfl rfl  (j := 13) (dj := 47) rfl (by kernel_rfl) eg (v := .agg #[.int .i64 2, .int .i64 0, .slice (some ⟨w.heap.size + 1 + 1 + 1, 0, none⟩) 1 1, .slice (some ⟨w.heap.size + 1 + 1 + 1 + 1, 0, none⟩) 1 1, .int .i64 2]) rfl (fun _ _ _ _ h => h) hI.g ?_
        intro K hKK
        go_simp
        exact hKK
      · have e48 : a.tmps[48]? = some (.agg #[.int .i64 1, .int .i64 0, .slice (some ⟨w.heap.size, 0, none⟩) 1 1, .slice (some ⟨w.heap.size + 1, 0, none⟩) 1 1, .int .i64 2]) := hI.sv 14 48 (by decide +kernel) (hw 14 (by kernel_rfl)) (by kernel_rfl)
        have e49 : a.tmps[49]? = some (.agg #[.int .i64 2, .int .i64 0, .slice (some ⟨w.heap.size + 1 + 1 + 1, 0, none⟩) 1 1, .slice (some ⟨w.heap.size + 1 + 1 + 1 + 1, 0, none⟩) 1 1, .int .i64 2]) := hI.sv 15 49 (by decide +kernel) (hw 15 (by kernel_rfl)) (by kernel_rfl)
        have eg : a.tmps[47]? = some (.bool true) := hI.sv 13 47 (by decide +kernel) (hw 13 (by kernel_rfl)) (by kernel_rfl)
        refine hI.gmore hap (by decide +kernel) (i := 16) (d := 50) rfl rfl  (j := 13) (dj := 47) rfl (by kernel_rfl) eg ?_
        intro K hKK
        have HW := hI.g
        go_simp
        refine ((HC.out W HW).1).mono ?_
        rintro e W' ⟨rfl, hb'⟩
        exact hKK _ W' rfl (fun _ _ _ _ h => h) (Below.trans HW (hb'.mono HW.size))
      · have e10 := hI.kept 10 _ (by decide +kernel) rfl
        have eg : a.tmps[47]? = some (.bool true) := hI.sv 13 47 (by decide +kernel) (hw 13 (by kernel_rfl)) (by kernel_rfl)
        have k0 := ((HTW.out.e5).below hI.g HTW.out.e5.lt).cell (o := 0) rfl
        have k1 := ((HTW.out.e5).below hI.g HTW.out.e5.lt).cell (o := 1) rfl
        have k2 := ((HTW.out.e5).below hI.g HTW.out.e5.lt).cell (o := 2) rfl
        have k3 := ((HTW.out.e5).below hI.g HTW.out.e5.lt).cell (o := 3) rfl
        have k4 := ((HTW.out.e5).below hI.g HTW.out.e5.lt).cell (o := 4) rfl
        refine hI.gpure hap (by decide +kernel) (i := 17) (d := 51) rfl rfl  (j := 13) (dj := 47) rfl (by kernel_rfl) eg (v := .agg #[.int .i64 2, .int .i64 0, .slice (some ⟨w.heap.size + 1 + 1 + 1, 0, none⟩) 1 1, .slice (some ⟨w.heap.size + 1 + 1 + 1 + 1, 0, none⟩) 1 1, .int .i64 2]) rfl (fun _ _ _ _ h => h) hI.g ?_
        intro K hKK
        go_simp
        exact hKK
      · have e9 := hI.kept 9 _ (by decide +kernel) rfl
        have eg : a.tmps[47]? = some (.bool true) := hI.sv 13 47 (by decide +kernel) (hw 13 (by kernel_rfl)) (by kernel_rfl)
        have k0 := ((HTW.out.e2).below hI.g HTW.out.e2.lt).cell (o := 0) rfl
        have k1 := ((HTW.out.e2).below hI.g HTW.out.e2.lt).cell (o := 1) rfl
        have k2 := ((HTW.out.e2).below hI.g HTW.out.e2.lt).cell (o := 2) rfl
        have k3 := ((HTW.out.e2).below hI.g HTW.out.e2.lt).cell (o := 3) rfl
        have k4 := ((HTW.out.e2).below hI.g HTW.out.e2.lt).cell (o := 4) rfl
        refine hI.gpure hap (by decide +kernel) (i := 18) (d := 52) rfl rfl  (j := 13) (dj := 47) rfl (by kernel_rfl) eg (v := .agg #[.int .i64 1, .int .i64 0, .slice (some ⟨w.heap.size, 0, none⟩) 1 1, .slice (some ⟨w.heap.size + 1, 0, none⟩) 1 1, .int .i64 2]) rfl (fun _ _ _ _ h => h) hI.g ?_
        intro K hKK
        go_simp
        exact hKK
      · have e51 : a.tmps[51]? = some (.agg #[.int .i64 2, .int .i64 0, .slice (some ⟨w.heap.size + 1 + 1 + 1, 0, none⟩) 1 1, .slice (some ⟨w.heap.size + 1 + 1 + 1 + 1, 0, none⟩) 1 1, .int .i64 2]) := hI.sv 17 51 (by decide +kernel) (hw 17 (by kernel_rfl)) (by kernel_rfl)
        have e52 : a.tmps[52]? = some (.agg #[.int .i64 1, .int .i64 0, .slice (some ⟨w.heap.size, 0, none⟩) 1 1, .slice (some ⟨w.heap.size + 1, 0, none⟩) 1 1, .int .i64 2]) := hI.sv 18 52 (by decide +kernel) (hw 18 (by kernel_rfl)) (by kernel_rfl)
        have eg : a.tmps[47]? = some (.bool true) := hI.sv 13 47 (by decide +kernel) (hw 13 (by kernel_rfl)) (by kernel_rfl)
        refine hI.gmore hap (by decide +kernel) (i := 19) (d := 53) rfl rfl  (j := 13) (dj := 47) rfl (by kernel_rfl) eg ?_
        intro K hKK
        have HW := hI.g
        go_simp
        refine ((HC.out W HW).2.1).mono ?_
        rintro e W' ⟨rfl, hb'⟩
        exact hKK _ W' rfl (fun _ _ _ _ h => h) (Below.trans HW (hb'.mono HW.size))
      · have e50 : a.tmps[50]? = some (.bool true) := hI.sv 16 50 (by decide +kernel) (hw 16 (by kernel_rfl)) (by kernel_rfl)
        have e53 : a.tmps[53]? = some (.bool true) := hI.sv 19 53 (by decide +kernel) (hw 19 (by kernel_rfl)) (by kernel_rfl)
        have eg : a.tmps[47]? = some (.bool true) := hI.sv 13 47 (by decide +kernel) (hw 13 (by kernel_rfl)) (by kernel_rfl)
        refine hI.gpure hap (by decide +kernel) (i := 20) (d := 54) rfl rfl  (j := 13) (dj := 47) rfl (by kernel_rfl) eg (v := .bool true) rfl (fun _ _ _ _ h => h) hI.g ?_
        intro K hKK
        go_simp
        exact hKK
      · have e47 : a.tmps[47]? = some (.bool true) := hI.sv 13 47 (by decide +kernel) (hw 13 (by kernel_rfl)) (by kernel_rfl)
        have e54 : a.tmps[54]? = some (.bool true) := hI.sv 20 54 (by decide +kernel) (hw 20 (by kernel_rfl)) (by kernel_rfl)
        refine hI.pure hap (by decide +kernel) (i := 21) (d := 55) rfl rfl rfl (v := .bool true) rfl (fun _ _ _ _ h => h) hI.g ?_
        intro K hKK
        go_simp
        exact hKK
      · have e55 : a.tmps[55]? = some (.bool true) := hI.sv 21 55 (by decide +kernel) (hw 21 (by kernel_rfl)) (by kernel_rfl)
        refine hI.pure hap (by decide +kernel) (i := 22) (d := 56) rfl rfl rfl (v := .bool true) rfl (fun _ _ _ _ h => h) hI.g ?_
        intro K hKK
        go_simp
        exact hKK
      · have e9 := hI.kept 9 _ (by decide +kernel) rfl
        have eg : a.tmps[56]? = some (.bool true) := hI.sv 22 56 (by decide +kernel) (hw 22 (by kernel_rfl)) (by kernel_rfl)
        have k0 := ((HTW.out.e2).below hI.g HTW.out.e2.lt).cell (o := 0) rfl
        have k1 := ((HTW.out.e2).below hI.g HTW.out.e2.lt).cell (o := 1) rfl
        have k2 := ((HTW.out.e2).below hI.g HTW.out.e2.lt).cell (o := 2) rfl
        have k3 := ((HTW.out.e2).below hI.g HTW.out.e2.lt).cell (o := 3) rfl
        have k4 := ((HTW.out.e2).below hI.g HTW.out.e2.lt).cell (o := 4) rfl
        refine hI.gpure hap (by decide +kernel) (i := 23) (d := 57) rfl rfl  (j := 22) (dj := 56) rfl (by kernel_rfl) eg (v := .agg #[.int .i64 1, .int .i64 0, .slice (some ⟨w.heap.size, 0, none⟩) 1 1, .slice (some ⟨w.heap.size + 1, 0, none⟩) 1 1, .int .i64 2]) rfl (fun _ _ _ _ h => h) hI.g ?_
        intro K hKK
        go_simp
        exact hKK
      · have e9 := hI.kept 9 _ (by decide +kernel) rfl
        have eg : a.tmps[56]? = some (.bool true) := hI.sv 22 56 (by decide +kernel) (hw 22 (by kernel_rfl)) (by kernel_rfl)
        have k0 := ((HTW.out.e2).below hI.g HTW.out.e2.lt).cell (o := 0) rfl
        have k1 := ((HTW.out.e2).below hI.g HTW.out.e2.lt).cell (o := 1) rfl
        have k2 := ((HTW.out.e2).below hI.g HTW.out.e2.lt).cell (o := 2) rfl
        have k3 := ((HTW.out.e2).below hI.g HTW.out.e2.lt).cell (o := 3) rfl
        have k4 := ((HTW.out.e2).below hI.g HTW.out.e2.lt).cell (o := 4) rfl
        refine hI.gpure hap (by decide +kernel) (i := 24) (d := 58) rfl rfl  (j := 22) (dj := 56) rfl (by kernel_rfl) eg (v := .agg #[.int .i64 1, .int .i64 0, .slice (some ⟨w.heap.size, 0, none⟩) 1 1, .slice (some ⟨w.heap.size + 1, 0, none⟩) 1 1, .int .i64 2]) rfl (fun _ _ _ _ h => h) hI.g ?_
        intro K hKK
        go_simp
        exact hKK
      · have e57 : a.tmps[57]? = some (.agg #[.int .i64 1, .int .i64 0, .slice (some ⟨w.heap.size, 0, none⟩) 1 1, .slice (some ⟨w.heap.size + 1, 0, none⟩) 1 1, .int .i64 2]) := hI.sv 23 57 (by decide +kernel) (hw 23 (by kernel_rfl)) (by kernel_rfl)
        have e58 : a.tmps[58]? = some (.agg #[.int .i64 1, .int .i64 0, .slice (some ⟨w.heap.size, 0, none⟩) 1 1, .slice (some ⟨w.heap.size + 1, 0, none⟩) 1 1, .int .i64 2]) := hI.sv 24 58 (by decide +kernel) (hw 24 (by kernel_rfl)) (by kernel_rfl)
        have eg : a.tmps[56]? = some (.bool true) := hI.sv 22 56 (by decide +kernel) (hw 22 (by kernel_rfl)) (by kernel_rfl)
        refine hI.gmore hap (by decide +kernel) (i := 25) (d := 59) rfl rfl  (j := 22) (dj := 56) rfl (by kernel_rfl) eg ?_
        intro K hKK
        have HW := hI.g
        go_simp
        refine ((HC.out W HW).2.2.1).mono ?_
        rintro e W' ⟨rfl, hb'⟩
        exact hKK _ W' rfl (fun _ _ _ _ h => h) (Below.trans HW (hb'.mono HW.size))
      · have e56 : a.tmps[56]? = some (.bool true) := hI.sv 22 56 (by decide +kernel) (hw 22 (by kernel_rfl)) (by kernel_rfl)
        have e59 : a.tmps[59]? = some (.bool true) := hI.sv 25 59 (by decide +kernel) (hw 25 (by kernel_rfl)) (by kernel_rfl)
        refine hI.pure hap (by decide +kernel) (i := 26) (d := 60) rfl rfl rfl (v := .bool true) rfl (fun _ _ _ _ h => h) hI.g ?_
        intro K hKK
        go_simp
        exact hKK
      · have e60 : a.tmps[60]? = some (.bool true) := hI.sv 26 60 (by decide +kernel) (hw 26 (by kernel_rfl)) (by kernel_rfl)
        refine hI.pure hap (by decide +kernel) (i := 27) (d := 61) rfl rfl rfl (v := .bool true) rfl (fun _ _ _ _ h => h) hI.g ?_
        intro K hKK
        go_simp
        exact hKK
      · have e9 := hI.kept 9 _ (by decide +kernel) rfl
        have eg : a.tmps[61]? = some (.bool true) := hI.sv 27 61 (by decide +kernel) (hw 27 (by kernel_rfl)) (by kernel_rfl)
        have k0 := ((HTW.out.e2).below hI.g HTW.out.e2.lt).cell (o := 0) rfl
        have k1 := ((HTW.out.e2).below hI.g HTW.out.e2.lt).cell (o := 1) rfl
        have k2 := ((HTW.out.e2).below hI.g HTW.out.e2.lt).cell (o := 2) rfl
        have k3 := ((HTW.out.e2).below hI.g HTW.out.e2.lt).cell (o := 3) rfl
        have k4 := ((HTW.out.e2).below hI.g HTW.out.e2.lt).cell (o := 4) rfl
        refine hI.gpure hap (by decide +kernel) (i := 28) (d := 62) rfl rfl  (j := 27) (dj := 61) rfl (by kernel_rfl) eg (v := .agg #[.int .i64 1, .int .i64 0, .slice (some ⟨w.heap.size, 0, none⟩) 1 1, .slice (some ⟨w.heap.size + 1, 0, none⟩) 1 1, .int .i64 2]) rfl (fun _ _ _ _ h => h) hI.g ?_
        intro K hKK
        go_simp
        exact hKK
      · have e11 := hI.kept 11 _ (by decide +kernel) rfl
        have eg : a.tmps[61]? = some (.bool true) := hI.sv 27 61 (by decide +kernel) (hw 27 (by kernel_rfl)) (by kernel_rfl)
        have k0 := ((HTW.out.e6).below hI.g HTW.out.e6.lt).cell (o := 0) rfl
        have k1 := ((HTW.out.e6).below hI.g HTW.out.e6.lt).cell (o := 1) rfl
        have k2 := ((HTW.out.e6).below hI.g HTW.out.e6.lt).cell (o := 2) rfl
        have k3 := ((HTW.out.e6).below hI.g HTW.out.e6.lt).cell (o := 3) rfl
        have k4 := ((HTW.out.e6).below hI.g HTW.out.e6.lt).cell (o := 4) rfl
        refine hI.gpure hap (by decide +kernel) (i := 29) (d := 63) rfl rfl  (j := 27) (dj := 61) rfl (by kernel_rfl) eg (v := .agg #[.int .i64 2, .int .i64 0, .slice (some ⟨w.heap.size + 1 + 1 + 1, 0, none⟩) 1 1, .slice (some ⟨w.heap.size + 1 + 1 + 1 + 1, 0, none⟩) 1 1, .int .i64 0]) rfl (fun _ _ _ _ h => h) hI.g ?_
        intro K hKK
        go_simp
        exact hKK
      · have e62 : a.tmps[62]? = some (.agg #[.int .i64 1, .int .i64 0, .slice (some ⟨w.heap.size, 0, none⟩) 1 1, .slice (some ⟨w.heap.size + 1, 0, none⟩) 1 1, .int .i64 2]) := hI.sv 28 62 (by decide +kernel) (hw 28 (by kernel_rfl)) (by kernel_rfl)
        have e63 : a.tmps[63]? = some (.agg #[.int .i64 2, .int .i64 0, .slice (some ⟨w.heap.size + 1 + 1 + 1, 0, none⟩) 1 1, .slice (some ⟨w.heap.size + 1 + 1 + 1 + 1, 0, none⟩) 1 1, .int .i64 0]) := hI.sv 29 63 (by decide +kernel) (hw 29 (by kernel_rfl)) (by kernel_rfl)
        have eg : a.tmps[61]? = some (.bool true) := hI.sv 27 61 (by decide +kernel) (hw 27 (by kernel_rfl)) (by kernel_rfl)
        refine hI.gmore hap (by decide +kernel) (i := 30) (d := 64) rfl rfl  (j := 27) (dj := 61) rfl (by kernel_rfl) eg ?_
        intro K hKK
        have HW := hI.g
        go_simp
        refine ((HC.out W HW).2.2.2.1).mono ?_
        rintro e W' ⟨rfl, hb'⟩
        exact hKK _ W' rfl (fun _ _ _ _ h => h) (Below.trans HW (hb'.mono HW.size))
      · have e64 : a.tmps[64]? = some (.bool false) := hI.sv 30 64 (by decide +kernel) (hw 30 (by kernel_rfl)) (by kernel_rfl)
        have eg : a.tmps[61]? = some (.bool true) := hI.sv 27 61 (by decide +kernel) (hw 27 (by kernel_rfl)) (by kernel_rfl)
        refine hI.gpure hap (by decide +kernel) (i := 31) (d := 65) rfl rfl  (j := 27) (dj := 61) rfl (by kernel_rfl) eg (v := .bool true) rfl (fun _ _ _ _ h => h) hI.g ?_
        intro K hKK
        go_simp
        exact hKK
      · have e61 : a.tmps[61]? = some (.bool true) := hI.sv 27 61 (by decide +kernel) (hw 27 (by kernel_rfl)) (by kernel_rfl)
        have e65 : a.tmps[65]? = some (.bool true) := hI.sv 31 65 (by decide +kernel) (hw 31 (by kernel_rfl)) (by kernel_rfl)
        refine hI.pure hap (by decide +kernel) (i := 32) (d := 66) rfl rfl rfl (v := .bool true) rfl (fun _ _ _ _ h => h) hI.g ?_
        intro K hKK
        go_simp
        exact hKK
      · have e66 : a.tmps[66]? = some (.bool true) := hI.sv 32 66 (by decide +kernel) (hw 32 (by kernel_rfl)) (by kernel_rfl)
        refine hI.pure hap (by decide +kernel) (i := 33) (d := 67) rfl rfl rfl (v := .bool true) rfl (fun _ _ _ _ h => h) hI.g ?_
        intro K hKK
        go_simp
        exact hKK
      · have e11 := hI.kept 11 _ (by decide +kernel) rfl
        have eg : a.tmps[67]? = some (.bool true) := hI.sv 33 67 (by decide +kernel) (hw 33 (by kernel_rfl)) (by kernel_rfl)
        have k0 := ((HTW.out.e6).below hI.g HTW.out.e6.lt).cell (o := 0) rfl
        have k1 := ((HTW.out.e6).below hI.g HTW.out.e6.lt).cell (o := 1) rfl
        have k2 := ((HTW.out.e6).below hI.g HTW.out.e6.lt).cell (o := 2) rfl
        have k3 := ((HTW.out.e6).below hI.g HTW.out.e6.lt).cell (o := 3) rfl
        have k4 := ((HTW.out.e6).below hI.g HTW.out.e6.lt).cell (o := 4) rfl
        refine hI.gpure hap (by decide +kernel) (i := 34) (d := 68) rfl rfl  (j := 33) (dj := 67) rfl (by kernel_rfl) eg (v := .agg #[.int .i64 2, .int .i64 0, .slice (some ⟨w.heap.size + 1 + 1 + 1, 0, none⟩) 1 1, .slice (some ⟨w.heap.size + 1 + 1 + 1 + 1, 0, none⟩) 1 1, .int .i64 0]) rfl (fun _ _ _ _ h => h) hI.g ?_
        intro K hKK
        go_simp
        exact hKK
      · have e11 := hI.kept 11 _ (by decide +kernel) rfl
        have eg : a.tmps[67]? = some (.bool true) := hI.sv 33 67 (by decide +kernel) (hw 33 (by kernel_rfl)) (by kernel_rfl)
        have k0 := ((HTW.out.e6).below hI.g HTW.out.e6.lt).cell (o := 0) rfl
        have k1 := ((HTW.out.e6).below hI.g HTW.out.e6.lt).cell (o := 1) rfl
        have k2 := ((HTW.out.e6).below hI.g HTW.out.e6.lt).cell (o := 2) rfl
        have k3 := ((HTW.out.e6).below hI.g HTW.out.e6.lt).cell (o := 3) rfl
        have k4 := ((HTW.out.e6).below hI.g HTW.out.e6.lt).cell (o := 4) rfl
        refine hI.gpure hap (by decide +kernel) (i := 35) (d := 69) rfl rfl  (j := 33) (dj := 67) rfl (by kernel_rfl) eg (v := .agg #[.int .i64 2, .int .i64 0, .slice (some ⟨w.heap.size + 1 + 1 + 1, 0, none⟩) 1 1, .slice (some ⟨w.heap.size + 1 + 1 + 1 + 1, 0, none⟩) 1 1, .int .i64 0]) rfl (fun _ _ _ _ h => h) hI.g ?_
        intro K hKK
        go_simp
        exact hKK
      · have e68 : a.tmps[68]? = some (.agg #[.int .i64 2, .int .i64 0, .slice (some ⟨w.heap.size + 1 + 1 + 1, 0, none⟩) 1 1, .slice (some ⟨w.heap.size + 1 + 1 + 1 + 1, 0, none⟩) 1 1, .int .i64 0]) := hI.sv 34 68 (by decide +kernel) (hw 34 (by kernel_rfl)) (by kernel_rfl)
        have e69 : a.tmps[69]? = some (.agg #[.int .i64 2, .int .i64 0, .slice (some ⟨w.heap.size + 1 + 1 + 1, 0, none⟩) 1 1, .slice (some ⟨w.heap.size + 1 + 1 + 1 + 1, 0, none⟩) 1 1, .int .i64 0]) := hI.sv 35 69 (by decide +kernel) (hw 35 (by kernel_rfl)) (by kernel_rfl)
        have eg : a.tmps[67]? = some (.bool true) := hI.sv 33 67 (by decide +kernel) (hw 33 (by kernel_rfl)) (by kernel_rfl)
        refine hI.gmore hap (by decide +kernel) (i := 36) (d := 70) rfl rfl  (j := 33) (dj := 67) rfl (by kernel_rfl) eg ?_
        intro K hKK
        have HW := hI.g
        go_simp
        refine ((HC.out W HW).2.2.2.2).mono ?_
        rintro e W' ⟨rfl, hb'⟩
        exact hKK _ W' rfl (fun _ _ _ _ h => h) (Below.trans HW (hb'.mono HW.size))
      · have e70 : a.tmps[70]? = some (.bool false) := hI.sv 36 70 (by decide +kernel) (hw 36 (by kernel_rfl)) (by kernel_rfl)
        have eg : a.tmps[67]? = some (.bool true) := hI.sv 33 67 (by decide +kernel) (hw 33 (by kernel_rfl)) (by kernel_rfl)
        refine hI.gpure hap (by decide +kernel) (i := 37) (d := 71) rfl rfl  (j := 33) (dj := 67) rfl (by kernel_rfl) eg (v := .bool true) rfl (fun _ _ _ _ h => h) hI.g ?_
        intro K hKK
        go_simp
        exact hKK
      · have e67 : a.tmps[67]? = some (.bool true) := hI.sv 33 67 (by decide +kernel) (hw 33 (by kernel_rfl)) (by kernel_rfl)
        have e71 : a.tmps[71]? = some (.bool true) := hI.sv 37 71 (by decide +kernel) (hw 37 (by kernel_rfl)) (by kernel_rfl)
        refine hI.pure hap (by decide +kernel) (i := 38) (d := 72) rfl rfl rfl (v := .bool true) rfl (fun _ _ _ _ h => h) hI.g ?_
        intro K hKK
        go_simp
        exact hKK
      · have e72 : a.tmps[72]? = some (.bool true) := hI.sv 38 72 (by decide +kernel) (hw 38 (by kernel_rfl)) (by kernel_rfl)
        refine hI.pure hap (by decide +kernel) (i := 39) (d := 73) rfl rfl rfl (v := .bool true) rfl (fun _ _ _ _ h => h) hI.g ?_
        intro K hKK
        go_simp
        exact hKK
      · have eg : a.tmps[73]? = some (.bool true) := hI.sv 39 73 (by decide +kernel) (hw 39 (by kernel_rfl)) (by kernel_rfl)
        refine hI.gmore hap (by decide +kernel) (i := 40) (d := 74) rfl rfl  (j := 39) (dj := 73) rfl (by kernel_rfl) eg ?_
        intro K hKK
        have HW := hI.g
        go_simp
        refine (awake_any W).mono ?_
        rintro e W' ⟨rfl, hb'⟩
        exact hKK _ W' rfl (fun _ _ _ _ h => h) (Below.trans HW (hb'.mono HW.size))
      · have e73 : a.tmps[73]? = some (.bool true) := hI.sv 39 73 (by decide +kernel) (hw 39 (by kernel_rfl)) (by kernel_rfl)
        have e74 : a.tmps[74]? = some (.bool true) := hI.sv 40 74 (by decide +kernel) (hw 40 (by kernel_rfl)) (by kernel_rfl)
        refine hI.pure hap (by decide +kernel) (i := 41) (d := 75) rfl rfl rfl (v := .bool true) rfl (fun _ _ _ _ h => h) hI.g ?_
        intro K hKK
        go_simp
        exact hKK
      · have e75 : a.tmps[75]? = some (.bool true) := hI.sv 41 75 (by decide +kernel) (hw 41 (by kernel_rfl)) (by kernel_rfl)
        refine hI.pure hap (by decide +kernel) (i := 42) (d := 8) rfl rfl rfl (v := .bool true) rfl (fun _ _ _ _ h => h) hI.g ?_
        intro K hKK
        go_simp
        exact hKK
    case fin =>
      intro L a W hI hall
      have s0 : a.tmps[34]? = some (.agg #[.int .i64 1, .int .i64 0, .slice (some ⟨w.heap.size, 0, none⟩) 1 1, .slice (some ⟨w.heap.size + 1, 0, none⟩) 1 1, .int .i64 2]) := hI.sv 0 34 (by decide +kernel) (hall 0 (by decide +kernel)) (by kernel_rfl)
      have s1 : a.tmps[35]? = some (.agg #[.int .i64 2, .int .i64 0, .slice (some ⟨w.heap.size + 1 + 1 + 1, 0, none⟩) 1 1, .slice (some ⟨w.heap.size + 1 + 1 + 1 + 1, 0, none⟩) 1 1, .int .i64 2]) := hI.sv 1 35 (by decide +kernel) (hall 1 (by decide +kernel)) (by kernel_rfl)
      have s2 : a.tmps[36]? = some (.bool true) := hI.sv 2 36 (by decide +kernel) (hall 2 (by decide +kernel)) (by kernel_rfl)
      have s3 : a.tmps[37]? = some (.int .u8 B) := hI.sv 3 37 (by decide +kernel) (hall 3 (by decide +kernel)) (by kernel_rfl)
      have s4 : a.tmps[38]? = some (.int .u8 C) := hI.sv 4 38 (by decide +kernel) (hall 4 (by decide +kernel)) (by kernel_rfl)
      have s5 : a.tmps[39]? = some (.bool false) := hI.sv 5 39 (by decide +kernel) (hall 5 (by decide +kernel)) (by kernel_rfl)
      have s6 : a.tmps[40]? = some (.bool false) := hI.sv 6 40 (by decide +kernel) (hall 6 (by decide +kernel)) (by kernel_rfl)
      have s7 : a.tmps[41]? = some (.int .u8 D) := hI.sv 7 41 (by decide +kernel) (hall 7 (by decide +kernel)) (by kernel_rfl)
      have s8 : a.tmps[42]? = some (.int .u8 A) := hI.sv 8 42 (by decide +kernel) (hall 8 (by decide +kernel)) (by kernel_rfl)
      have s9 : a.tmps[43]? = some (.bool false) := hI.sv 9 43 (by decide +kernel) (hall 9 (by decide +kernel)) (by kernel_rfl)
      have s10 : a.tmps[44]? = some (.bool false) := hI.sv 10 44 (by decide +kernel) (hall 10 (by decide +kernel)) (by kernel_rfl)
      have s11 : a.tmps[45]? = some (.bool true) := hI.sv 11 45 (by decide +kernel) (hall 11 (by decide +kernel)) (by kernel_rfl)
      have s12 : a.tmps[46]? = some (.bool true) := hI.sv 12 46 (by decide +kernel) (hall 12 (by decide +kernel)) (by kernel_rfl)
      have s13 : a.tmps[47]? = some (.bool true) := hI.sv 13 47 (by decide +kernel) (hall 13 (by decide +kernel)) (by kernel_rfl)
      have s14 : a.tmps[48]? = some (.agg #[.int .i64 1, .int .i64 0, .slice (some ⟨w.heap.size, 0, none⟩) 1 1, .slice (some ⟨w.heap.size + 1, 0, none⟩) 1 1, .int .i64 2]) := hI.sv 14 48 (by decide +kernel) (hall 14 (by decide +kernel)) (by kernel_rfl)
      have s15 : a.tmps[49]? = some (.agg #[.int .i64 2, .int .i64 0, .slice (some ⟨w.heap.size + 1 + 1 + 1, 0, none⟩) 1 1, .slice (some ⟨w.heap.size + 1 + 1 + 1 + 1, 0, none⟩) 1 1, .int .i64 2]) := hI.sv 15 49 (by decide +kernel) (hall 15 (by decide +kernel)) (by kernel_rfl)
      have s16 : a.tmps[50]? = some (.bool true) := hI.sv 16 50 (by decide +kernel) (hall 16 (by decide +kernel)) (by kernel_rfl)
      have s17 : a.tmps[51]? = some (.agg #[.int .i64 2, .int .i64 0, .slice (some ⟨w.heap.size + 1 + 1 + 1, 0, none⟩) 1 1, .slice (some ⟨w.heap.size + 1 + 1 + 1 + 1, 0, none⟩) 1 1, .int .i64 2]) := hI.sv 17 51 (by decide +kernel) (hall 17 (by decide +kernel)) (by kernel_rfl)
      have s18 : a.tmps[52]? = some (.agg #[.int .i64 1, .int .i64 0, .slice (some ⟨w.heap.size, 0, none⟩) 1 1, .slice (some ⟨w.heap.size + 1, 0, none⟩) 1 1, .int .i64 2]) := hI.sv 18 52 (by decide +kernel) (hall 18 (by decide +kernel)) (by kernel_rfl)
      have s19 : a.tmps[53]? = some (.bool true) := hI.sv 19 53 (by decide +kernel) (hall 19 (by decide +kernel)) (by kernel_rfl)
      have s20 : a.tmps[54]? = some (.bool true) := hI.sv 20 54 (by decide +kernel) (hall 20 (by decide +kernel)) (by kernel_rfl)
      have s21 : a.tmps[55]? = some (.bool true) := hI.sv 21 55 (by decide +kernel) (hall 21 (by decide +kernel)) (by kernel_rfl)
      have s22 : a.tmps[56]? = some (.bool true) := hI.sv 22 56 (by decide +kernel) (hall 22 (by decide +kernel)) (by kernel_rfl)
      have s23 : a.tmps[57]? = some (.agg #[.int .i64 1, .int .i64 0, .slice (some ⟨w.heap.size, 0, none⟩) 1 1, .slice (some ⟨w.heap.size + 1, 0, none⟩) 1 1, .int .i64 2]) := hI.sv 23 57 (by decide +kernel) (hall 23 (by decide +kernel)) (by kernel_rfl)
      have s24 : a.tmps[58]? = some (.agg #[.int .i64 1, .int .i64 0, .slice (some ⟨w.heap.size, 0, none⟩) 1 1, .slice (some ⟨w.heap.size + 1, 0, none⟩) 1 1, .int .i64 2]) := hI.sv 24 58 (by decide +kernel) (hall 24 (by decide +kernel)) (by kernel_rfl)
      have s25 : a.tmps[59]? = some (.bool true) := hI.sv 25 59 (by decide +kernel) (hall 25 (by decide +kernel)) (by kernel_rfl)
      have s26 : a.tmps[60]? = some (.bool true) := hI.sv 26 60 (by decide +kernel) (hall 26 (by decide +kernel)) (by kernel_rfl)
      have s27 : a.tmps[61]? = some (.bool true) := hI.sv 27 61 (by decide +kernel) (hall 27 (by decide +kernel)) (by kernel_rfl)
      have s28 : a.tmps[62]? = some (.agg #[.int .i64 1, .int .i64 0, .slice (some ⟨w.heap.size, 0, none⟩) 1 1, .slice (some ⟨w.heap.size + 1, 0, none⟩) 1 1, .int .i64 2]) := hI.sv 28 62 (by decide +kernel) (hall 28 (by decide +kernel)) (by kernel_rfl)
      have s29 : a.tmps[63]? = some (.agg #[.int .i64 2, .int .i64 0, .slice (some ⟨w.heap.size + 1 + 1 + 1, 0, none⟩) 1 1, .slice (some ⟨w.heap.size + 1 + 1 + 1 + 1, 0, none⟩) 1 1, .int .i64 0]) := hI.sv 29 63 (by decide +kernel) (hall 29 (by decide +kernel)) (by kernel_rfl)
      have s30 : a.tmps[64]? = some (.bool false) := hI.sv 30 64 (by decide +kernel) (hall 30 (by decide +kernel)) (by kernel_rfl)
      have s31 : a.tmps[65]? = some (.bool true) := hI.sv 31 65 (by decide +kernel) (hall 31 (by decide +kernel)) (by kernel_rfl)
      have s32 : a.tmps[66]? = some (.bool true) := hI.sv 32 66 (by decide +kernel) (hall 32 (by decide +kernel)) (by kernel_rfl)
      have s33 : a.tmps[67]? = some (.bool true) := hI.sv 33 67 (by decide +kernel) (hall 33 (by decide +kernel)) (by kernel_rfl)
      have s34 : a.tmps[68]? = some (.agg #[.int .i64 2, .int .i64 0, .slice (some ⟨w.heap.size + 1 + 1 + 1, 0, none⟩) 1 1, .slice (some ⟨w.heap.size + 1 + 1 + 1 + 1, 0, none⟩) 1 1, .int .i64 0]) := hI.sv 34 68 (by decide +kernel) (hall 34 (by decide +kernel)) (by kernel_rfl)
      have s35 : a.tmps[69]? = some (.agg #[.int .i64 2, .int .i64 0, .slice (some ⟨w.heap.size + 1 + 1 + 1, 0, none⟩) 1 1, .slice (some ⟨w.heap.size + 1 + 1 + 1 + 1, 0, none⟩) 1 1, .int .i64 0]) := hI.sv 35 69 (by decide +kernel) (hall 35 (by decide +kernel)) (by kernel_rfl)
      have s36 : a.tmps[70]? = some (.bool false) := hI.sv 36 70 (by decide +kernel) (hall 36 (by decide +kernel)) (by kernel_rfl)
      have s37 : a.tmps[71]? = some (.bool true) := hI.sv 37 71 (by decide +kernel) (hall 37 (by decide +kernel)) (by kernel_rfl)
      have s38 : a.tmps[72]? = some (.bool true) := hI.sv 38 72 (by decide +kernel) (hall 38 (by decide +kernel)) (by kernel_rfl)
      have s39 : a.tmps[73]? = some (.bool true) := hI.sv 39 73 (by decide +kernel) (hall 39 (by decide +kernel)) (by kernel_rfl)
      have s40 : a.tmps[74]? = some (.bool true) := hI.sv 40 74 (by decide +kernel) (hall 40 (by decide +kernel)) (by kernel_rfl)
      have s41 : a.tmps[75]? = some (.bool true) := hI.sv 41 75 (by decide +kernel) (hall 41 (by decide +kernel)) (by kernel_rfl)
      have s42 : a.tmps[8]? = some (.bool true) := hI.sv 42 8 (by decide +kernel) (hall 42 (by decide +kernel)) (by kernel_rfl)
      have hfr := si_frame hI [(34, .agg #[.int .i64 1, .int .i64 0, .slice (some ⟨w.heap.size, 0, none⟩) 1 1, .slice (some ⟨w.heap.size + 1, 0, none⟩) 1 1, .int .i64 2]), (35, .agg #[.int .i64 2, .int .i64 0, .slice (some ⟨w.heap.size + 1 + 1 + 1, 0, none⟩) 1 1, .slice (some ⟨w.heap.size + 1 + 1 + 1 + 1, 0, none⟩) 1 1, .int .i64 2]), (36, .bool true), (37, .int .u8 B), (38, .int .u8 C), (39, .bool false), (40, .bool false), (41, .int .u8 D), (42, .int .u8 A), (43, .bool false), (44, .bool false), (45, .bool true), (46, .bool true), (47, .bool true), (48, .agg #[.int .i64 1, .int .i64 0, .slice (some ⟨w.heap.size, 0, none⟩) 1 1, .slice (some ⟨w.heap.size + 1, 0, none⟩) 1 1, .int .i64 2]), (49, .agg #[.int .i64 2, .int .i64 0, .slice (some ⟨w.heap.size + 1 + 1 + 1, 0, none⟩) 1 1, .slice (some ⟨w.heap.size + 1 + 1 + 1 + 1, 0, none⟩) 1 1, .int .i64 2]), (50, .bool true), (51, .agg #[.int .i64 2, .int .i64 0, .slice (some ⟨w.heap.size + 1 + 1 + 1, 0, none⟩) 1 1, .slice (some ⟨w.heap.size + 1 + 1 + 1 + 1, 0, none⟩) 1 1, .int .i64 2]), (52, .agg #[.int .i64 1, .int .i64 0, .slice (some ⟨w.heap.size, 0, none⟩) 1 1, .slice (some ⟨w.heap.size + 1, 0, none⟩) 1 1, .int .i64 2]), (53, .bool true), (54, .bool true), (55, .bool true), (56, .bool true), (57, .agg #[.int .i64 1, .int .i64 0, .slice (some ⟨w.heap.size, 0, none⟩) 1 1, .slice (some ⟨w.heap.size + 1, 0, none⟩) 1 1, .int .i64 2]), (58, .agg #[.int .i64 1, .int .i64 0, .slice (some ⟨w.heap.size, 0, none⟩) 1 1, .slice (some ⟨w.heap.size + 1, 0, none⟩) 1 1, .int .i64 2]), (59, .bool true), (60, .bool true), (61, .bool true), (62, .agg #[.int .i64 1, .int .i64 0, .slice (some ⟨w.heap.size, 0, none⟩) 1 1, .slice (some ⟨w.heap.size + 1, 0, none⟩) 1 1, .int .i64 2]), (63, .agg #[.int .i64 2, .int .i64 0, .slice (some ⟨w.heap.size + 1 + 1 + 1, 0, none⟩) 1 1, .slice (some ⟨w.heap.size + 1 + 1 + 1 + 1, 0, none⟩) 1 1, .int .i64 0]), (64, .bool false), (65, .bool true), (66, .bool true), (67, .bool true), (68, .agg #[.int .i64 2, .int .i64 0, .slice (some ⟨w.heap.size + 1 + 1 + 1, 0, none⟩) 1 1, .slice (some ⟨w.heap.size + 1 + 1 + 1 + 1, 0, none⟩) 1 1, .int .i64 0]), (69, .agg #[.int .i64 2, .int .i64 0, .slice (some ⟨w.heap.size + 1 + 1 + 1, 0, none⟩) 1 1, .slice (some ⟨w.heap.size + 1 + 1 + 1 + 1, 0, none⟩) 1 1, .int .i64 0]), (70, .bool false), (71, .bool true), (72, .bool true), (73, .bool true), (74, .bool true), (75, .bool true), (8, .bool true)] (by kernel_rfl) (List.forall_mem_cons.2 ⟨s0, List.forall_mem_cons.2 ⟨s1, List.forall_mem_cons.2 ⟨s2, List.forall_mem_cons.2 ⟨s3, List.forall_mem_cons.2 ⟨s4, List.forall_mem_cons.2 ⟨s5, List.forall_mem_cons.2 ⟨s6, List.forall_mem_cons.2 ⟨s7, List.forall_mem_cons.2 ⟨s8, List.forall_mem_cons.2 ⟨s9, List.forall_mem_cons.2 ⟨s10, List.forall_mem_cons.2 ⟨s11, List.forall_mem_cons.2 ⟨s12, List.forall_mem_cons.2 ⟨s13, List.forall_mem_cons.2 ⟨s14, List.forall_mem_cons.2 ⟨s15, List.forall_mem_cons.2 ⟨s16, List.forall_mem_cons.2 ⟨s17, List.forall_mem_cons.2 ⟨s18, List.forall_mem_cons.2 ⟨s19, List.forall_mem_cons.2 ⟨s20, List.forall_mem_cons.2 ⟨s21, List.forall_mem_cons.2 ⟨s22, List.forall_mem_cons.2 ⟨s23, List.forall_mem_cons.2 ⟨s24, List.forall_mem_cons.2 ⟨s25, List.forall_mem_cons.2 ⟨s26, List.forall_mem_cons.2 ⟨s27, List.forall_mem_cons.2 ⟨s28, List.forall_mem_cons.2 ⟨s29, List.forall_mem_cons.2 ⟨s30, List.forall_mem_cons.2 ⟨s31, List.forall_mem_cons.2 ⟨s32, List.forall_mem_cons.2 ⟨s33, List.forall_mem_cons.2 ⟨s34, List.forall_mem_cons.2 ⟨s35, List.forall_mem_cons.2 ⟨s36, List.forall_mem_cons.2 ⟨s37, List.forall_mem_cons.2 ⟨s38, List.forall_mem_cons.2 ⟨s39, List.forall_mem_cons.2 ⟨s40, List.forall_mem_cons.2 ⟨s41, List.forall_mem_cons.2 ⟨s42, List.forall_mem_nil _⟩⟩⟩⟩⟩⟩⟩⟩⟩⟩⟩⟩⟩⟩⟩⟩⟩⟩⟩⟩⟩⟩⟩⟩⟩⟩⟩⟩⟩⟩⟩⟩⟩⟩⟩⟩⟩⟩⟩⟩⟩⟩⟩)
      have HBR := hide (show Below _ _ W from hI.g)
      rw [hfr]
      clear hfr hI hall s0 s1 s2 s3 s4 s5 s6 s7 s8 s9 s10 s11 s12 s13 s14 s15 s16 s17 s18 s19 s20 s21 s22 s23 s24 s25 s26 s27 s28 s29 s30 s31 s32 s33 s34 s35 s36 s37 s38 s39 s40 s41 s42
      simp only [List.foldl, List.setIfInBounds_toArray, List.set_cons_zero, List.set_cons_succ]
      go_wp2
      go_ret
      exact ⟨rfl, HB.out.trans (HBR.out.mono HB.out.size)⟩
set_option maxRecDepth 100000 in
theorem touch_way0 (a b c d : Int) (w : World) (hA : 0 ≤ a ∧ a < 256) (hB : 0 ≤ b ∧ b < 256) (hC : 0 ≤ c ∧ c < 256) (hD : 0 ≤ d ∧ d < 256) (hab : a ≤ b) (hcd : c ≤ d) :
    Calls Try.prog 8 #[.int .u8 a, .int .u8 b, .int .u8 c, .int .u8 d] w fun e w' => e = .returned (.bool true) ∧ Below w.heap.size w w' := by
  have q1 : ¬ (a > b) := by omega
  have q2 : ¬ (c > d) := by omega
  have HT := hide (touch_tail a b c d w hA hB hC hD (by omega) (by omega))
  clear hA hB hC hD hab hcd
  go_enter Try.func8, Try.ntmps8
  repeat (first | exact HT.out _ _ _ _ _ _ _ _ _ _ _ _ _ _ _ _ _ _ _ _ _ _ _ _ _ _ _ _ _ _ _ _ _ _ _ _ _ _ _ _ _ _ _ _ _ _ _ _ _ _ _ _ _ _ _ _ _ _ _ _ _ _ _ _ _ _ _ _ _ _ _ _ | go_step)
set_option maxRecDepth 100000 in
theorem touch_way1 (a b c d : Int) (w : World) (hA : 0 ≤ a ∧ a < 256) (hB : 0 ≤ b ∧ b < 256) (hC : 0 ≤ c ∧ c < 256) (hD : 0 ≤ d ∧ d < 256) (hab : b < a) (hcd : c ≤ d) :
    Calls Try.prog 8 #[.int .u8 a, .int .u8 b, .int .u8 c, .int .u8 d] w fun e w' => e = .returned (.bool true) ∧ Below w.heap.size w w' := by
  have q1 : a > b := by omega
  have q2 : ¬ (c > d) := by omega
  have HT := hide (touch_tail b a c d w hB hA hC hD (by omega) (by omega))
  clear hA hB hC hD hab hcd
  go_enter Try.func8, Try.ntmps8
  repeat (first | exact HT.out _ _ _ _ _ _ _ _ _ _ _ _ _ _ _ _ _ _ _ _ _ _ _ _ _ _ _ _ _ _ _ _ _ _ _ _ _ _ _ _ _ _ _ _ _ _ _ _ _ _ _ _ _ _ _ _ _ _ _ _ _ _ _ _ _ _ _ _ _ _ _ _ | go_step)
set_option maxRecDepth 100000 in
theorem touch_way2 (a b c d : Int) (w : World) (hA : 0 ≤ a ∧ a < 256) (hB : 0 ≤ b ∧ b < 256) (hC : 0 ≤ c ∧ c < 256) (hD : 0 ≤ d ∧ d < 256) (hab : a ≤ b) (hcd : d < c) :
    Calls Try.prog 8 #[.int .u8 a, .int .u8 b, .int .u8 c, .int .u8 d] w fun e w' => e = .returned (.bool true) ∧ Below w.heap.size w w' := by
  have q1 : ¬ (a > b) := by omega
  have q2 : c > d := by omega
  have HT := hide (touch_tail a b d c w hA hB hD hC (by omega) (by omega))
  clear hA hB hC hD hab hcd
  go_enter Try.func8, Try.ntmps8
  repeat (first | exact HT.out _ _ _ _ _ _ _ _ _ _ _ _ _ _ _ _ _ _ _ _ _ _ _ _ _ _ _ _ _ _ _ _ _ _ _ _ _ _ _ _ _ _ _ _ _ _ _ _ _ _ _ _ _ _ _ _ _ _ _ _ _ _ _ _ _ _ _ _ _ _ _ _ | go_step)
set_option maxRecDepth 100000 in
theorem touch_way3 (a b c d : Int) (w : World) (hA : 0 ≤ a ∧ a < 256) (hB : 0 ≤ b ∧ b < 256) (hC : 0 ≤ c ∧ c < 256) (hD : 0 ≤ d ∧ d < 256) (hab : b < a) (hcd : d < c) :
    Calls Try.prog 8 #[.int .u8 a, .int .u8 b, .int .u8 c, .int .u8 d] w fun e w' => e = .returned (.bool true) ∧ Below w.heap.size w w' := by
  have q1 : a > b := by omega
  have q2 : c > d := by omega
  have HT := hide (touch_tail b a d c w hB hA hD hC (by omega) (by omega))
  clear hA hB hC hD hab hcd
  go_enter Try.func8, Try.ntmps8
  repeat (first | exact HT.out _ _ _ _ _ _ _ _ _ _ _ _ _ _ _ _ _ _ _ _ _ _ _ _ _ _ _ _ _ _ _ _ _ _ _ _ _ _ _ _ _ _ _ _ _ _ _ _ _ _ _ _ _ _ _ _ _ _ _ _ _ _ _ _ _ _ _ _ _ _ _ _ | go_step)
theorem walk_touch (a b c d : Int) (w : World) (ha : (Lit.int .u8 a).wf = true) (hb : (Lit.int .u8 b).wf = true) (hc : (Lit.int .u8 c).wf = true) (hd : (Lit.int .u8 d).wf = true) :
    Calls Try.prog 8 #[.int .u8 a, .int .u8 b, .int .u8 c, .int .u8 d] w fun e w' => e = .returned (.bool true) ∧ Below w.heap.size w w' := by
  have hA := u8_bounds ha
  have hB := u8_bounds hb
  have hC := u8_bounds hc
  have hD := u8_bounds hd
  by_cases h1 : a ≤ b
  · by_cases h2 : c ≤ d
    · exact touch_way0 a b c d w hA hB hC hD h1 h2
    · exact touch_way2 a b c d w hA hB hC hD h1 (by omega)
  · by_cases h2 : c ≤ d
    · exact touch_way1 a b c d w hA hB hC hD (by omega) h2
    · exact touch_way3 a b c d w hA hB hC hD (by omega) (by omega)

end Go.Proofs.Ytcbphalhjajapaa.Clep
