/- Take and Unframe, Split and the document's Split, side by side. -/
import Derived.Test.YtfcakghegdaeoabRefSplit
import Derived.Test.YtfcakghegdaeoabFSplit
namespace Go.Proofs.Ytfcakghegdaeoab.Clep
open Go.RowKit
set_option linter.unusedVariables false

/-- What is told of the place p of zs. -/
def TK (zs : List Int) (p : Int) : Int × List Int × Int × Int :=
  if p < 0 ∨ (zs.length : Int) < p then (0, [], 0, 1) else if ce (zs.drop p.toNat) = 0 then (kd (zs.drop p.toNat), bo (zs.drop p.toNat), p + 12 + ln (zs.drop p.toNat), 0) else (0, [], 0, ce (zs.drop p.toNat))

theorem tk_range (zs : List Int) (p : Int) (hr : ByteL zs) : ByteL (TK zs p).2.1 := by
  unfold TK
  split
  · intro z hz; cases hz
  · split
    · unfold bo bd; exact ByteL.take (ByteL.drop (ByteL.take (ByteL.drop hr _) _) _) _
    · intro z hz; cases hz

theorem ftake_all (ao : Option Addr) (len cap : Nat) (zs : List Int) (p : Int) (w : World) (hm : len ≤ 1000000) (h : Bs w ao len cap zs) :
    Calls Try.prog 16 #[.slice ao len cap, .int .i64 p] w fun e w' => ∃ v, e = .returned (.tuple #[.int .i64 (TK zs p).1, v, .int .i64 (TK zs p).2.2.1, .int .i64 (TK zs p).2.2.2]) ∧ Own w' w.heap.size v (TK zs p).2.1 ∧ Below w.heap.size w w' := by
  unfold TK
  by_cases hp : p < 0 ∨ (zs.length : Int) < p
  · rw [if_pos hp]
    rw [h.1] at hp
    refine (ftake_arg ao len cap p w (by omega) hp).mono ?_
    rintro e w1 ⟨he, rfl⟩
    exact ⟨_, he, World.ownsRow_nil _ _ _ _, Below.refl _ _⟩
  · rw [if_neg hp]
    obtain ⟨P, rfl⟩ := Int.eq_ofNat_of_zero_le (show 0 ≤ p by omega)
    rw [Int.toNat_natCast]
    have hl := h.1
    by_cases hc : ce (zs.drop P) = 0
    · rw [if_pos hc]
      exact ftake_good ao len cap zs P w (by omega) h (by omega) _ rfl hc
    · rw [if_neg hc]
      refine (ftake_bad ao len cap zs P w (by omega) h (by omega) hc).mono ?_
      rintro e w1 ⟨he, hb⟩
      exact ⟨_, he, World.ownsRow_nil _ _ _ _, hb⟩
theorem unframe_all (zs : List Int) (p : Int) (w : World) (hm : zs.length ≤ 1000000) (hr : ByteL zs) :
    Calls Try.prog 18 #[.string (strOfNums zs), .int .i64 p] w fun e w' => e = .returned (.tuple #[.int .i64 (TK zs p).1, .string (strOfNums (TK zs p).2.1), .int .i64 (TK zs p).2.2.1, .int .i64 (TK zs p).2.2.2]) ∧ Below w.heap.size w w' := by
  have he0 : strOfNums [] = ⟨#[]⟩ := rfl
  unfold TK
  by_cases hp : p < 0 ∨ (zs.length : Int) < p
  · rw [if_pos hp]
    simp only [he0]
    refine (unframe_arg (strOfNums zs) p w (by rw [str_size]; omega) (by rw [str_size]; exact hp)).mono ?_
    rintro e w1 ⟨he, rfl⟩
    exact ⟨he, Below.refl _ _⟩
  · rw [if_neg hp]
    obtain ⟨P, rfl⟩ := Int.eq_ofNat_of_zero_le (show 0 ≤ p by omega)
    rw [Int.toNat_natCast]
    have := unframe_any zs P w hm hr (by omega)
    unfold un at this
    by_cases hc : ce (zs.drop P) = 0
    · rw [if_pos hc] at this ⊢
      exact this
    · rw [if_neg hc] at this ⊢
      exact this

theorem row_at {w : World} {B e n : Nat} {v : Value} {xs : List Value} (h : w.ownsRow B e 1 v n xs) : ∃ a c, v = .slice a n c ∧ (0 < n → ∃ g, a = some ⟨g, 0, none⟩ ∧ ∀ i, i < n → w.cell? ⟨g, i, none⟩ = xs[i]?) := by
  have h' := h
  obtain ⟨hl, ⟨rfl, hn⟩ | ⟨g, cap, cur, rfl, hg, _⟩⟩ := h
  · subst hn; exact ⟨none, 0, rfl, fun h => by omega⟩
  · exact ⟨_, cap, rfl, fun _ => ⟨g, rfl, fun i hi => World.ownsRow.cellAt h' i (by omega)⟩⟩

theorem Bs.setAt {w : World} {b off len cap : Nat} {zs : List Int} (h : Bs w (some ⟨b, off, none⟩) len cap zs) (i : Nat) (hi : i < len) (z : Int) (hz : 0 ≤ z ∧ z < 256) :
    Bs (w.setCell ⟨b, off + i, none⟩ (.int .u8 z)) (some ⟨b, off, none⟩) len cap (zs.set i z) := by
  have hr : ByteL zs := bs_range h
  obtain ⟨h1, h2, h3, h4⟩ := h
  obtain ⟨b', off', ho, hc⟩ := h4 (by omega)
  cases ho
  refine ⟨by rw [List.length_set]; exact h1, h2, range_of ?_, fun _ => ⟨b, off, rfl, fun j hj => ?_⟩⟩
  · intro x hx
    rcases List.mem_or_eq_of_mem_set hx with h | h
    · exact hr x h
    · rw [h]; exact hz
  · rcases Nat.decEq i j with h | h
    · rw [World.cell?_setCell_other (h := fun e => h (by injection e with e1 e2; omega)), hc j hj]
      simp [List.getD, List.getElem?_set_ne h]
    · subst h
      rw [World.cell?_setCell_same (h := hc i hi)]
      simp [List.getD, List.getElem?_set_self (show i < zs.length by omega)]
theorem xor_range (x y : Int) (hx : 0 ≤ x ∧ x < 256) (hy : 0 ≤ y ∧ y < 256) : 0 ≤ bits BinOp.xor IntKind.u8 x y ∧ bits BinOp.xor IntKind.u8 x y < 256 := by
  obtain ⟨X, rfl⟩ := Int.eq_ofNat_of_zero_le hx.1
  obtain ⟨Y, rfl⟩ := Int.eq_ofNat_of_zero_le hy.1
  rw [u8_xor_nat X Y (by omega) (by omega)]
  have := Nat.xor_lt_two_pow (n := 8) (show X < 2 ^ 8 by omega) (show Y < 2 ^ 8 by omega)
  omega

theorem ik_get (F : List (Int × List Int)) (n i : Nat) (hn : F.length = n) (hi : i < n) : (ik F n)[i]? = some (.int .i64 (F.getD i (0, [])).1) := by
  unfold ik; rw [List.take_of_length_le (by omega)]; simp [List.getD, List.getElem?_eq_getElem (show i < F.length by omega)]
theorem sk_get (F : List (Int × List Int)) (n i : Nat) (hn : F.length = n) (hi : i < n) : (sk F n)[i]? = some (.string (strOfNums (F.getD i (0, [])).2)) := by
  unfold sk; rw [List.take_of_length_le (by omega)]; simp [List.getD, List.getElem?_eq_getElem (show i < F.length by omega)]
theorem snd_get (F : List (Int × List Int)) (n i : Nat) (hn : F.length = n) (hi : i < n) : (F.map Prod.snd).getD i [] = (F.getD i (0, [])).2 := by
  simp only [List.getD, List.getElem?_map, List.getElem?_eq_getElem (show i < F.length by omega), Option.map_some, Option.getD_some]

end Go.Proofs.Ytfcakghegdaeoab.Clep
