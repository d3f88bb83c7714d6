/- A Filter in memory; what New, laid and place do when called. No conditions but the kinds' bounds. -/
import Derived.Test.YtjphnflahpcaiaaBOnce
import Derived.Test.YtjphnflahpcaiaaBOnesW
import Derived.BigRegion
import Derived.RegionTactic
import Derived.Laws.MakeOwn
namespace Go.Proofs.Ytjphnflahpcaiaa.Clep
open Go.RowKit
set_option linter.unusedVariables false

def nw (sz : Nat) : Nat := (sz + 7) / 8
/-- The cells of a Filter. -/
def flV (k sz d : Nat) (v : Value) : Array Value := #[.int .i64 k, .int .i64 sz, .int .u32 d, .int .i32 0, .int .u32 0, v]
/-- The cells of its words. -/
def wv (N n : Nat) : Array Value := ((List.range n).map fun j => Value.int .u64 (wd N j : Nat)).toArray
/-- A Filter in block M whose words lie in block D. -/
structure Lf (w : World) (M D k sz N : Nat) : Prop where
  head : Blk w M (flV k sz 1 (.slice (some ⟨D, 0, none⟩) (nw sz) (nw sz))) 63
  words : Blk w D (wv N (nw sz)) 65
  ne : D ≠ M
/-- A Filter in block M; its blocks are B's; N: its bits. -/
structure Fl (w : World) (M : Nat) (B : Nat → Prop) (k sz N : Nat) : Prop where
  lt : ∀ b, B b → b < w.heap.size
  base : B M
  kb : 1 ≤ k ∧ k ≤ 14
  sb : 8 ≤ sz ∧ sz ≤ 25000
  nb : N < 2 ^ (8 * sz)
  ex : (Blk w M (flV k sz 0 (.slice none 0 0)) 63 ∧ N = 0) ∨ ∃ D, Lf w M D k sz N ∧ B D
theorem wv_get (N n j : Nat) (h : j < n) : (wv N n)[j]? = some (.int .u64 (wd N j : Nat)) := by
  unfold wv; simp [h]
theorem wv_set (N p n : Nat) (h : p / 64 < n) : (wv N n).setIfInBounds (p / 64) (.int .u64 ((wd N (p / 64) ||| 2 ^ (p % 64) : Nat) : Int)) = wv (N ||| 2 ^ p) n := by
  refine Array.ext_getElem? fun i => ?_
  by_cases hi : i < n
  · rw [wv_get _ _ _ hi, wd_or]
    by_cases e : i = p / 64
    · subst e
      rw [Array.getElem?_setIfInBounds_self_of_lt (by simpa [wv] using h)]
      simp
    · rw [Array.getElem?_setIfInBounds_ne (Ne.symm e), wv_get _ _ _ hi]
      simp [e]
  · rw [Array.getElem?_eq_none (by simp [wv]; omega), Array.getElem?_eq_none (by simp [wv]; omega)]
theorem wv_lay (N c i n : Nat) (hc : c < 256) (h : i / 8 < n) : (wv N n).setIfInBounds (i / 8) (.int .u64 ((wd N (i / 8) ||| c * 2 ^ (i % 8 * 8) : Nat) : Int)) = wv (N ||| c * 2 ^ (8 * i)) n := by
  refine Array.ext_getElem? fun q => ?_
  by_cases hi : q < n
  · rw [wv_get _ _ _ hi, wd_lay _ _ _ _ hc]
    by_cases e : q = i / 8
    · subst e
      rw [Array.getElem?_setIfInBounds_self_of_lt (by simpa [wv] using h)]
      simp
    · rw [Array.getElem?_setIfInBounds_ne (Ne.symm e), wv_get _ _ _ hi]
      simp [e]
  · rw [Array.getElem?_eq_none (by simp [wv]; omega), Array.getElem?_eq_none (by simp [wv]; omega)]
theorem Lf.keep {w w' : World} {M D k sz N : Nat} (h : Lf w M D k sz N) (hb : Below w.heap.size w w') : Lf w' M D k sz N := ⟨h.head.keep hb, h.words.keep hb, h.ne⟩
theorem Lf.ch {P : Nat → Prop} {w w' : World} {M D k sz N : Nat} (h : Lf w M D k sz N) (hc : Ch P w w') (h1 : ¬ P M) (h2 : ¬ P D) : Lf w' M D k sz N := ⟨h.head.ch hc h1, h.words.ch hc h2, h.ne⟩
theorem Fl.keep {w w' : World} {M : Nat} {B : Nat → Prop} {k sz N : Nat} (h : Fl w M B k sz N) (hb : Below w.heap.size w w') : Fl w' M B k sz N := by
  refine ⟨fun b hb' => Nat.lt_of_lt_of_le (h.lt b hb') hb.size, h.base, h.kb, h.sb, h.nb, ?_⟩
  rcases h.ex with ⟨h1, h2⟩ | ⟨D, h1, h2⟩
  · exact .inl ⟨h1.keep hb, h2⟩
  · exact .inr ⟨D, h1.keep hb, h2⟩
theorem Fl.ch {P : Nat → Prop} {w w' : World} {M : Nat} {B : Nat → Prop} {k sz N : Nat} (h : Fl w M B k sz N) (hc : Ch P w w') (hd : ∀ b, B b → ¬ P b) : Fl w' M B k sz N := by
  refine ⟨fun b hb' => Nat.lt_of_lt_of_le (h.lt b hb') hc.size, h.base, h.kb, h.sb, h.nb, ?_⟩
  rcases h.ex with ⟨h1, h2⟩ | ⟨D, h1, h2⟩
  · exact .inl ⟨h1.ch hc (hd _ h.base), h2⟩
  · exact .inr ⟨D, h1.ch hc (hd _ h.base) (hd _ h2), h2⟩
theorem Fl.wide {w : World} {M : Nat} {B B' : Nat → Prop} {k sz N : Nat} (h : Fl w M B k sz N) (hB : ∀ b, B b → B' b) (hl : ∀ b, B' b → b < w.heap.size) : Fl w M B' k sz N := by
  refine ⟨hl, hB _ h.base, h.kb, h.sb, h.nb, ?_⟩
  rcases h.ex with ⟨h1, h2⟩ | ⟨D, h1, h2⟩
  · exact .inl ⟨h1, h2⟩
  · exact .inr ⟨D, h1, hB _ h2⟩

/-- May a Filter be made of these? -/
def szOk (n b : Int) : Bool := decide (0 ≤ n) && decide (n ≤ 10000) && decide (1 ≤ b) && decide (b ≤ 20)
def kOf (b : Nat) : Nat := max (b * 7 / 10) 1
def sOf (n b : Nat) : Nat := max ((n * b + 7) / 8) 8

theorem makeW (w : World) (n : Nat) (hn : n ≤ 4000) : (Instr.makeSlice 61 (.int .i64 n) (.int .i64 n)).run Try.prog w = .ok (.slice (some ⟨w.heap.size, 0, none⟩) n n) (w.alloc (.cells (wv 0 n) 65)) := by
  have info : (Try.prog.info? 65).map (fun i => (i.zero, i.size, i.bytes)) = some (some (.int .u64 0), 1, 8) := by kernel_rfl
  obtain ⟨i, hi, hz0, hz1, hz2⟩ := info_parts info
  rw [run_make w 61 65 i _ Try.underlying61 hi hz0 .i64 .i64 n n (by omega) (by omega) (by rw [hz2]; omega) (by omega), hz1]
  have e : madeCells (Value.cells (.int .u64 0)) ((n : Int).toNat * 1) = wv 0 n := by
    rw [Nat.mul_one, Int.toNat_natCast]
    have h1 : Value.cells (.int .u64 0) = #[Value.int .u64 0] := by kernel_rfl
    rw [h1]
    unfold madeCells wv
    refine Array.ext (by simp) fun j h1 h2 => ?_
    simp [Nat.mod_one, wd_zero]
  rw [e, Int.toNat_natCast]

theorem sOf_range (n b : Nat) (hn : n ≤ 10000) (hb : b ≤ 20) : 8 ≤ sOf n b ∧ sOf n b ≤ 25000 := by
  unfold sOf
  have : n * b ≤ 10000 * 20 := Nat.mul_le_mul hn hb
  omega
theorem kOf_range (b : Nat) (hb : b ≤ 20) : 1 ≤ kOf b ∧ kOf b ≤ 14 := by unfold kOf; omega
theorem new_bad (n b : Int) (w : World) (h : szOk n b = false) :
    Calls Try.prog 8 #[.int .i64 n, .int .i64 b] w fun e w' => e = .returned (.tuple #[.pointer none, .int .i64 1]) ∧ w' = w := by
  have hc : n < 0 ∨ 10000 < n ∨ b < 1 ∨ 20 < b := by
    simp only [szOk, Bool.and_eq_false_iff, decide_eq_false_iff_not] at h; omega
  clear h
  go_enter Try.func8, Try.ntmps8
  by_cases h1 : n < 0
  · go_wp2
    go_ret2
    exact ⟨rfl, rfl⟩
  · by_cases h2 : 10000 < n
    · go_wp2
      go_ret2
      exact ⟨rfl, rfl⟩
    · by_cases h3 : b < 1
      · go_wp2
        go_ret2
        exact ⟨rfl, rfl⟩
      · have h4 : 20 < b := by omega
        go_wp2
        go_ret2
        exact ⟨rfl, rfl⟩
theorem new_done (w : World) (n b : Nat) (K S : Int) (hn : n ≤ 10000) (hb : 1 ≤ b ∧ b ≤ 20) (hK : K = (kOf b : Nat)) (hS : S = (sOf n b : Nat)) :
    Fl (w.alloc (.cells #[.int .i64 K, .int .i64 S, .int .u32 0, .int .i32 0, .int .u32 0, .slice none 0 0] 63)) w.heap.size (fun b => w.heap.size ≤ b ∧ b < (w.alloc (.cells #[.int .i64 K, .int .i64 S, .int .u32 0, .int .i32 0, .int .u32 0, .slice none 0 0] 63)).heap.size) (kOf b) (sOf n b) 0 ∧
      Below w.heap.size w (w.alloc (.cells #[.int .i64 K, .int .i64 S, .int .u32 0, .int .i32 0, .int .u32 0, .slice none 0 0] 63)) := by
  subst hK hS
  refine ⟨⟨fun b hb => hb.2, ⟨Nat.le_refl _, by simp⟩, kOf_range b hb.2, sOf_range n b hn hb.2, Nat.two_pow_pos _, .inl ⟨hpS w _ w.heap.size rfl, rfl⟩⟩, (Below.refl _ w).alloc (Nat.le_refl _) _⟩
theorem new_ok (n b : Nat) (w : World) (hn : n ≤ 10000) (hb : 1 ≤ b ∧ b ≤ 20) :
    Calls Try.prog 8 #[.int .i64 n, .int .i64 b] w fun e w' => e = .returned (.tuple #[.pointer (some ⟨w.heap.size, 0, none⟩), .int .i64 0]) ∧ Fl w' w.heap.size (fun b => w.heap.size ≤ b ∧ b < w'.heap.size) (kOf b) (sOf n b) 0 ∧ Below w.heap.size w w' := by
  have hnb : n * b ≤ 10000 * 20 := Nat.mul_le_mul hn hb.2
  go_enter Try.func8, Try.ntmps8
  go_wp2
  all_goals
    go_ret2
    exact ⟨rfl, new_done w n b _ _ hn hb (by unfold kOf; omega) (by unfold sOf; omega)⟩

end Go.Proofs.Ytjphnflahpcaiaa.Clep
