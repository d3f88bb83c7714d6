/- What sync.Once does when called by laid, in one goroutine, its lock free: the function is called once; if it was called before nothing is done. Conditions: the function touches neither the cells of the Once but as told. -/
import Derived.Test.YtodhljiboakjnaaGreatZd
import Derived.Test.YtodhljiboakjnaaGreatBa
import Derived.Tactics
import Derived.Tactics2
import Derived.Defers
import Derived.Laws.Pointers
import Derived.Laws.LoneSync
import Derived.RegionTactic
import Derived.RegionCalls
import Derived.Laws.NewBlocks
import Derived.BigRegion
import Derived.Laws.MakeOwn
namespace Go.Proofs.YtodhljiboakjnaaGreat.Clep
open Go.RowKit
set_option linter.unusedVariables false

set_option maxRecDepth 100000 in
set_option maxHeartbeats 1600000 in
theorem bslow_any (b off : Nat) (bpl : Addr) (Q : World → Prop) (w : World)
    (h0 : w.cell? ⟨b, off, none⟩ = some (.int .u32 0)) (h1 : w.cell? ⟨b, off + 1, none⟩ = some (.int .i32 0)) (f0 : w.frozen? ⟨b, off, none⟩ = false) (f1 : w.frozen? ⟨b, off + 1, none⟩ = false)
    (hf : Hid (Calls Tryz.prog 94 #[.pointer (some bpl)] (w.setCell ⟨b, off + 1, none⟩ (.int .i32 1)) fun e w2 => e = .returned (.tuple #[]) ∧ Q w2))
    (hq : Hid (∀ w2, Q w2 → w2.cell? ⟨b, off, none⟩ = some (.int .u32 0) ∧ w2.cell? ⟨b, off + 1, none⟩ = some (.int .i32 1) ∧ w2.frozen? ⟨b, off, none⟩ = false ∧ w2.frozen? ⟨b, off + 1, none⟩ = false)) :
    Calls Tryz.prog 90 #[.pointer (some ⟨b, off, none⟩), .func (.func 94) #[] #[.pointer (some bpl)]] w fun e w' => e = .returned (.tuple #[]) ∧
      ∃ w2, Q w2 ∧ w' = (w2.drew.setCell ⟨b, off, none⟩ (.int .u32 1)).setCell ⟨b, off + 1, none⟩ (.int .i32 0) := by
  have hl := run_call_load (P := Tryz.prog) Tryz.func105 (by kernel_rfl) (by kernel_rfl) (by kernel_rfl) .u32 (by kernel_rfl) (w := w.setCell ⟨b, off + 1, none⟩ (.int .i32 1)) (a := ⟨b, off, none⟩) (x := 0) ((World.cell?_setCell_other _ ⟨b, off + 1, none⟩ ⟨b, off, none⟩ _ (by simp)).trans h0)
  have hnot : ∀ (x : Bool) (w : World), (Op.unary .not (.bool x)).run Tryz.prog w = .ok (.bool (!x)) w := fun _ _ => rfl
  go_enter_defers Tryz.func90, Tryz.ntmps90
  go_wp2_with (first
    | (go_at_call 106; refine (lockF ⟨b, off + 1, none⟩ _ (by go_simp) (by go_simp)).mono ?_; rintro e w' ⟨rfl, rfl⟩)
    | (go_at_call 89; go_in)
    | (go_at_call 94; refine hf.out.mono ?_; rintro e w2 ⟨rfl, hQ⟩))
  obtain ⟨q0, q1, q2, q3⟩ := hq.out w2 hQ
  refine leaves_cons (f := 108) (args := #[.pointer (some ⟨b, off, none⟩), .bool true]) (by simp) (by simp [go_sem]) ?_
  refine (storeD ⟨b, off, none⟩ (.int .u32 0) .returning _ q0 q2).mono ?_
  rintro e u' w'' ⟨rfl, rfl, rfl⟩
  refine leaves_cons (f := 107) (args := #[.pointer (some ⟨b, off + 1, none⟩)]) (by simp [settle]) (by simp [go_sem]) ?_
  refine (unlockD ⟨b, off + 1, none⟩ _ _ ?_ (by simp [q3])).mono ?_
  · refine (World.cell?_setCell_other _ ⟨b, off, none⟩ ⟨b, off + 1, none⟩ _ (by simp)).trans ?_
    rw [World.cell?_drew]
    exact q1
  rintro e u' w'' ⟨rfl, rfl, rfl⟩
  simp [Leaves, settle, results, Tryz.results90]
  exact ⟨w2, hQ, rfl⟩

set_option maxRecDepth 100000 in
set_option maxHeartbeats 1600000 in
theorem bdo_first (b off : Nat) (bpl : Addr) (Q : World → Prop) (w : World)
    (h0 : w.cell? ⟨b, off, none⟩ = some (.int .u32 0)) (h1 : w.cell? ⟨b, off + 1, none⟩ = some (.int .i32 0)) (f0 : w.frozen? ⟨b, off, none⟩ = false) (f1 : w.frozen? ⟨b, off + 1, none⟩ = false)
    (hf : Hid (Calls Tryz.prog 94 #[.pointer (some bpl)] (w.setCell ⟨b, off + 1, none⟩ (.int .i32 1)) fun e w2 => e = .returned (.tuple #[]) ∧ Q w2))
    (hq : Hid (∀ w2, Q w2 → w2.cell? ⟨b, off, none⟩ = some (.int .u32 0) ∧ w2.cell? ⟨b, off + 1, none⟩ = some (.int .i32 1) ∧ w2.frozen? ⟨b, off, none⟩ = false ∧ w2.frozen? ⟨b, off + 1, none⟩ = false)) :
    Calls Tryz.prog 65 #[.pointer (some ⟨b, off, none⟩), .func (.func 94) #[] #[.pointer (some bpl)]] w fun e w' => e = .returned (.tuple #[]) ∧
      ∃ w2, Q w2 ∧ w' = (w2.drew.setCell ⟨b, off, none⟩ (.int .u32 1)).setCell ⟨b, off + 1, none⟩ (.int .i32 0) := by
  have hs := hide (bslow_any b off bpl Q w h0 h1 f0 f1 hf hq)
  have hl := run_call_load (P := Tryz.prog) Tryz.func105 (by kernel_rfl) (by kernel_rfl) (by kernel_rfl) .u32 (by kernel_rfl) h0
  have hnot : ∀ (x : Bool) (w : World), (Op.unary .not (.bool x)).run Tryz.prog w = .ok (.bool (!x)) w := fun _ _ => rfl
  go_enter Tryz.func65, Tryz.ntmps65
  go_wp2_with (first | (go_at_call 90; refine hs.out.mono ?_; rintro e w' ⟨rfl, hw⟩) | (go_at_call 89; go_in))
  go_end0
  exact ⟨rfl, hw⟩

end Go.Proofs.YtodhljiboakjnaaGreat.Clep

/- A Filter in memory; what New, laid and place do when called. No conditions but the kinds' bounds. -/
namespace Go.Proofs.YtodhljiboakjnaaGreat.Clep
open Go.RowKit
set_option linter.unusedVariables false
set_option maxRecDepth 10000

def nw (sz : Nat) : Nat := (sz + 7) / 8
/-- The cells of a Filter. -/
def flV (k sz d : Nat) (v : Value) : Array Value := #[.int .i64 k, .int .i64 sz, .int .u32 d, .int .i32 0, .int .u32 0, v]
/-- The cells of its words. -/
def wv (N n : Nat) : Array Value := ((List.range n).map fun j => Value.int .u64 (wd N j : Nat)).toArray
/-- A Filter in block M whose words lie in block D. -/
structure Lf (w : World) (M D k sz N : Nat) : Prop where
  head : Blk w M (flV k sz 1 (.slice (some ⟨D, 0, none⟩) (nw sz) (nw sz))) 119
  words : Blk w D (wv N (nw sz)) 23
  ne : D ≠ M
/-- A Filter in block M; its blocks are B's; N: its bits. -/
structure Fl (w : World) (M : Nat) (B : Nat → Prop) (k sz N : Nat) : Prop where
  lt : ∀ b, B b → b < w.heap.size
  base : B M
  kb : 1 ≤ k ∧ k ≤ 14
  sb : 8 ≤ sz ∧ sz ≤ 25000
  nb : N < 2 ^ (8 * sz)
  ex : (Blk w M (flV k sz 0 (.slice none 0 0)) 119 ∧ N = 0) ∨ ∃ D, Lf w M D k sz N ∧ B D
theorem wv_get (N n j : Nat) (h : j < n) : (wv N n)[j]? = some (.int .u64 (wd N j : Nat)) := by
  unfold wv; simp [h]
theorem wv_set (N p n : Nat) (h : p / 64 < n) : (wv N n).setIfInBounds (p / 64) (.int .u64 ((wd N (p / 64) ||| 2 ^ (p % 64) : Nat) : Int)) = wv (N ||| 2 ^ p) n := by
  refine Array.ext_getElem? fun i => ?_
  by_cases hi : i < n
  · rw [wv_get _ _ _ hi, wd_or]
    by_cases e : i = p / 64
    · subst e
      rw [Array.getElem?_setIfInBounds_self_of_lt (by simpa [wv] using h)]
      simp
    · rw [Array.getElem?_setIfInBounds_ne (Ne.symm e), wv_get _ _ _ hi]
      simp [e]
  · rw [Array.getElem?_eq_none (by simp [wv]; omega), Array.getElem?_eq_none (by simp [wv]; omega)]
theorem wv_lay (N c i n : Nat) (hc : c < 256) (h : i / 8 < n) : (wv N n).setIfInBounds (i / 8) (.int .u64 ((wd N (i / 8) ||| c * 2 ^ (i % 8 * 8) : Nat) : Int)) = wv (N ||| c * 2 ^ (8 * i)) n := by
  refine Array.ext_getElem? fun q => ?_
  by_cases hi : q < n
  · rw [wv_get _ _ _ hi, wd_lay _ _ _ _ hc]
    by_cases e : q = i / 8
    · subst e
      rw [Array.getElem?_setIfInBounds_self_of_lt (by simpa [wv] using h)]
      simp
    · rw [Array.getElem?_setIfInBounds_ne (Ne.symm e), wv_get _ _ _ hi]
      simp [e]
  · rw [Array.getElem?_eq_none (by simp [wv]; omega), Array.getElem?_eq_none (by simp [wv]; omega)]
theorem Lf.keep {w w' : World} {M D k sz N : Nat} (h : Lf w M D k sz N) (hb : Below w.heap.size w w') : Lf w' M D k sz N := ⟨h.head.keep hb, h.words.keep hb, h.ne⟩
theorem Lf.ch {P : Nat → Prop} {w w' : World} {M D k sz N : Nat} (h : Lf w M D k sz N) (hc : Ch P w w') (h1 : ¬ P M) (h2 : ¬ P D) : Lf w' M D k sz N := ⟨h.head.ch hc h1, h.words.ch hc h2, h.ne⟩
theorem Fl.keep {w w' : World} {M : Nat} {B : Nat → Prop} {k sz N : Nat} (h : Fl w M B k sz N) (hb : Below w.heap.size w w') : Fl w' M B k sz N := by
  refine ⟨fun b hb' => Nat.lt_of_lt_of_le (h.lt b hb') hb.size, h.base, h.kb, h.sb, h.nb, ?_⟩
  rcases h.ex with ⟨h1, h2⟩ | ⟨D, h1, h2⟩
  · exact .inl ⟨h1.keep hb, h2⟩
  · exact .inr ⟨D, h1.keep hb, h2⟩
theorem Fl.ch {P : Nat → Prop} {w w' : World} {M : Nat} {B : Nat → Prop} {k sz N : Nat} (h : Fl w M B k sz N) (hc : Ch P w w') (hd : ∀ b, B b → ¬ P b) : Fl w' M B k sz N := by
  refine ⟨fun b hb' => Nat.lt_of_lt_of_le (h.lt b hb') hc.size, h.base, h.kb, h.sb, h.nb, ?_⟩
  rcases h.ex with ⟨h1, h2⟩ | ⟨D, h1, h2⟩
  · exact .inl ⟨h1.ch hc (hd _ h.base), h2⟩
  · exact .inr ⟨D, h1.ch hc (hd _ h.base) (hd _ h2), h2⟩
theorem Fl.wide {w : World} {M : Nat} {B B' : Nat → Prop} {k sz N : Nat} (h : Fl w M B k sz N) (hB : ∀ b, B b → B' b) (hl : ∀ b, B' b → b < w.heap.size) : Fl w M B' k sz N := by
  refine ⟨hl, hB _ h.base, h.kb, h.sb, h.nb, ?_⟩
  rcases h.ex with ⟨h1, h2⟩ | ⟨D, h1, h2⟩
  · exact .inl ⟨h1, h2⟩
  · exact .inr ⟨D, h1, hB _ h2⟩

/-- May a Filter be made of these? -/
def szOk (n b : Int) : Bool := decide (0 ≤ n) && decide (n ≤ 10000) && decide (1 ≤ b) && decide (b ≤ 20)
def kOf (b : Nat) : Nat := max (b * 7 / 10) 1
def sOf (n b : Nat) : Nat := max ((n * b + 7) / 8) 8

theorem makeW (w : World) (n : Nat) (hn : n ≤ 4000) : (Instr.makeSlice 115 (.int .i64 n) (.int .i64 n)).run Tryz.prog w = .ok (.slice (some ⟨w.heap.size, 0, none⟩) n n) (w.alloc (.cells (wv 0 n) 23)) := by
  have info : (Tryz.prog.info? 23).map (fun i => (i.zero, i.size, i.bytes)) = some (some (.int .u64 0), 1, 8) := by kernel_rfl
  obtain ⟨i, hi, hz0, hz1, hz2⟩ := info_parts info
  rw [run_make w 115 23 i _ Tryz.underlying115 hi hz0 .i64 .i64 n n (by omega) (by omega) (by rw [hz2]; omega) (by omega), hz1]
  have e : madeCells (Value.cells (.int .u64 0)) ((n : Int).toNat * 1) = wv 0 n := by
    rw [Nat.mul_one, Int.toNat_natCast]
    have h1 : Value.cells (.int .u64 0) = #[Value.int .u64 0] := by kernel_rfl
    rw [h1]
    unfold madeCells wv
    refine Array.ext (by simp) fun j h1 h2 => ?_
    simp [Nat.mod_one, wd_zero]
  rw [e, Int.toNat_natCast]

theorem sOf_range (n b : Nat) (hn : n ≤ 10000) (hb : b ≤ 20) : 8 ≤ sOf n b ∧ sOf n b ≤ 25000 := by
  unfold sOf
  have : n * b ≤ 10000 * 20 := Nat.mul_le_mul hn hb
  omega
theorem kOf_range (b : Nat) (hb : b ≤ 20) : 1 ≤ kOf b ∧ kOf b ≤ 14 := by unfold kOf; omega
theorem new_bad (n b : Int) (w : World) (h : szOk n b = false) :
    Calls Tryz.prog 56 #[.int .i64 n, .int .i64 b] w fun e w' => e = .returned (.tuple #[.pointer none, .int .i64 1]) ∧ w' = w := by
  have hc : n < 0 ∨ 10000 < n ∨ b < 1 ∨ 20 < b := by
    simp only [szOk, Bool.and_eq_false_iff, decide_eq_false_iff_not] at h; omega
  clear h
  go_enter Tryz.func56, Tryz.ntmps56
  by_cases h1 : n < 0
  · go_wp2
    go_ret2
    exact ⟨rfl, rfl⟩
  · by_cases h2 : 10000 < n
    · go_wp2
      go_ret2
      exact ⟨rfl, rfl⟩
    · by_cases h3 : b < 1
      · go_wp2
        go_ret2
        exact ⟨rfl, rfl⟩
      · have h4 : 20 < b := by omega
        go_wp2
        go_ret2
        exact ⟨rfl, rfl⟩
theorem new_done (w : World) (n b : Nat) (K S : Int) (hn : n ≤ 10000) (hb : 1 ≤ b ∧ b ≤ 20) (hK : K = (kOf b : Nat)) (hS : S = (sOf n b : Nat)) :
    Fl (w.alloc (.cells #[.int .i64 K, .int .i64 S, .int .u32 0, .int .i32 0, .int .u32 0, .slice none 0 0] 119)) w.heap.size (fun b => w.heap.size ≤ b ∧ b < (w.alloc (.cells #[.int .i64 K, .int .i64 S, .int .u32 0, .int .i32 0, .int .u32 0, .slice none 0 0] 119)).heap.size) (kOf b) (sOf n b) 0 ∧
      Below w.heap.size w (w.alloc (.cells #[.int .i64 K, .int .i64 S, .int .u32 0, .int .i32 0, .int .u32 0, .slice none 0 0] 119)) := by
  subst hK hS
  refine ⟨⟨fun b hb => hb.2, ⟨Nat.le_refl _, by simp⟩, kOf_range b hb.2, sOf_range n b hn hb.2, Nat.two_pow_pos _, .inl ⟨hpS w _ w.heap.size rfl, rfl⟩⟩, (Below.refl _ w).alloc (Nat.le_refl _) _⟩
theorem new_ok (n b : Nat) (w : World) (hn : n ≤ 10000) (hb : 1 ≤ b ∧ b ≤ 20) :
    Calls Tryz.prog 56 #[.int .i64 n, .int .i64 b] w fun e w' => e = .returned (.tuple #[.pointer (some ⟨w.heap.size, 0, none⟩), .int .i64 0]) ∧ Fl w' w.heap.size (fun b => w.heap.size ≤ b ∧ b < w'.heap.size) (kOf b) (sOf n b) 0 ∧ Below w.heap.size w w' := by
  have hnb : n * b ≤ 10000 * 20 := Nat.mul_le_mul hn hb.2
  go_enter Tryz.func56, Tryz.ntmps56
  go_wp2
  all_goals
    go_ret2
    exact ⟨rfl, new_done w n b _ _ hn hb (by unfold kOf; omega) (by unfold sOf; omega)⟩

end Go.Proofs.YtodhljiboakjnaaGreat.Clep

/- What laid and place do when called. No conditions but that the Filter lies in memory. -/
namespace Go.Proofs.YtodhljiboakjnaaGreat.Clep
open Go.RowKit
set_option linter.unusedVariables false

set_option maxRecDepth 100000 in
set_option maxHeartbeats 1600000 in
theorem laid1_any (P M k sz : Nat) (w : World) (hp : w.cell? ⟨P, 0, none⟩ = some (.pointer (some ⟨M, 0, none⟩))) (hP : P ≠ M) (hs : 8 ≤ sz ∧ sz ≤ 25000) (h : Blk w M ((flV k sz 0 (.slice none 0 0)).setIfInBounds 3 (.int .i32 1)) 119) :
    Calls Tryz.prog 94 #[.pointer (some ⟨P, 0, none⟩)] w fun e w' => e = .returned (.tuple #[]) ∧
      Blk w' M (((flV k sz 0 (.slice none 0 0)).setIfInBounds 3 (.int .i32 1)).setIfInBounds 5 (.slice (some ⟨w.heap.size, 0, none⟩) (nw sz) (nw sz))) 119 ∧ Blk w' w.heap.size (wv 0 (nw sz)) 23 ∧ Ch (fun b => b = M) w w' := by
  have hnw : nw sz ≤ 4000 := by unfold nw; omega
  have hmk : ∀ W : World, (Instr.makeSlice 115 (.int .i64 (((sz : Int) + 8 - 1) / 8)) (.int .i64 (((sz : Int) + 8 - 1) / 8))).run Tryz.prog W = .ok (.slice (some ⟨W.heap.size, 0, none⟩) (nw sz) (nw sz)) (W.alloc (.cells (wv 0 (nw sz)) 23)) := fun W => by
    have := makeW W (nw sz) hnw
    rwa [show ((nw sz : Nat) : Int) = ((sz : Int) + 8 - 1) / 8 by unfold nw; omega] at this
  have c1 : w.cell? ⟨M, 1, none⟩ = some (.int .i64 sz) := h.cell rfl
  have c5 : w.cell? ⟨M, 5, none⟩ = some (.slice none 0 0) := h.cell rfl
  have f5 : w.frozen? ⟨M, 5, none⟩ = false := h.free 5
  have hlt := h.lt
  have hlp := World.block_lt_of_cell? w _ hp
  simp only at hlp
  have H := hide h
  clear h
  generalize hn : nw sz = n at *
  go_enter Tryz.func94, Tryz.ntmps94
  go_wp2
  go_region
  go_end0
  subst hn
  have hb := H.out.set 5 (.slice (some ⟨w.heap.size, 0, none⟩) (nw sz) (nw sz))
  have hA := (Below.refl _ (w.setCell ⟨M, 5, none⟩ (.slice (some ⟨w.heap.size, 0, none⟩) (nw sz) (nw sz)))).alloc (Nat.le_refl _) (.cells (wv 0 (nw sz)) 23)
  have hsz : (w.setCell ⟨M, 5, none⟩ (.slice (some ⟨w.heap.size, 0, none⟩) (nw sz) (nw sz))).heap.size = w.heap.size := by simp [World.setCell]
  refine ⟨rfl, (hb.keep hA.drew), hpS _ _ _ hsz.symm, (Ch.set (P := fun b => b = M) w ⟨M, 5, none⟩ _ rfl).trans (Ch.of hA.drew)⟩

theorem flV_done (k sz : Nat) (v : Value) : (((((flV k sz 0 (.slice none 0 0)).setIfInBounds 3 (.int .i32 1)).setIfInBounds 5 v).setIfInBounds 2 (.int .u32 1)).setIfInBounds 3 (.int .i32 0)) = flV k sz 1 v := rfl
set_option maxRecDepth 100000 in
theorem laid_any (w : World) (M : Nat) (B : Nat → Prop) (k sz N : Nat) (h : Fl w M B k sz N) :
    Calls Tryz.prog 68 #[.pointer (some ⟨M, 0, none⟩)] w fun e w' => ∃ D, e = .returned (.slice (some ⟨D, 0, none⟩) (nw sz) (nw sz)) ∧ Lf w' M D k sz N ∧ (B D ∨ w.heap.size ≤ D) ∧ Ch (fun b => b = M) w w' := by
  have A1 := (Below.refl _ w).alloc (Nat.le_refl _) (Obj.cells #[.pointer (some ⟨M, 0, none⟩)] 57)
  have K1 := hpS w (Obj.cells #[.pointer (some ⟨M, 0, none⟩)] 57) w.heap.size rfl
  obtain ⟨w1, hw1⟩ : ∃ w1, w1 = w.alloc (Obj.cells #[.pointer (some ⟨M, 0, none⟩)] 57) := ⟨_, rfl⟩
  rw [← hw1] at A1 K1
  have h1 := h.keep A1
  have hMlt := h.lt M h.base
  have B1 := hide A1
  have hpl : w1.cell? ⟨w.heap.size, 0, none⟩ = some (.pointer (some ⟨M, 0, none⟩)) := by simp [World.cell?, K1]
  rcases h1.ex with ⟨hb, rfl⟩ | ⟨D, hL, hD⟩
  · have hne : w.heap.size ≠ M := by omega
    have c3 : (w1.setCell ⟨M, 3, none⟩ (.int .i32 1)).cell? ⟨w.heap.size, 0, none⟩ = some (.pointer (some ⟨M, 0, none⟩)) :=
      (World.cell?_setCell_other _ ⟨M, 3, none⟩ ⟨w.heap.size, 0, none⟩ _ (by intro e; injection e with e1; exact hne e1.symm)).trans hpl
    have k3 := hb.set 3 (.int .i32 1)
    have hsz : (w1.setCell ⟨M, 3, none⟩ (.int .i32 1)).heap.size = w1.heap.size := by simp [World.setCell]
    have hL1 := laid1_any w.heap.size M k sz _ c3 hne h.sb k3
    rw [hsz] at hL1
    have hF := hide (bdo_first M 2 ⟨w.heap.size, 0, none⟩ (fun w2 => Blk w2 M (((flV k sz 0 (.slice none 0 0)).setIfInBounds 3 (.int .i32 1)).setIfInBounds 5 (.slice (some ⟨w1.heap.size, 0, none⟩) (nw sz) (nw sz))) 119 ∧ Blk w2 w1.heap.size (wv 0 (nw sz)) 23 ∧ Ch (fun b => b = M) (w1.setCell ⟨M, 3, none⟩ (.int .i32 1)) w2)
      w1 (hb.cell rfl) (hb.cell rfl) (hb.free 2) (hb.free 3) (hide hL1) (hide (fun w2 e => ⟨e.1.cell rfl, e.1.cell rfl, e.1.free 2, e.1.free 3⟩)))
    have HPL := hide hpl
    have HN : Hid (w1.heap.size ≠ M) := hide (by have := A1.size; omega)
    clear hb h1 A1 K1 hpl c3 k3 hL1 hsz
    go_enter Tryz.func68, Tryz.ntmps68
    go_wp2_with fail
    rw [← hw1]
    clear hw1
    refine hF.out.mono ?_
    rintro e w3 ⟨rfl, w2, ⟨q1, q2, q3⟩, rfl⟩
    clear hF
    have r1 : Blk ((w2.drew.setCell ⟨M, 2, none⟩ (.int .u32 1)).setCell ⟨M, 2 + 1, none⟩ (.int .i32 0)) M (flV k sz 1 (.slice (some ⟨w1.heap.size, 0, none⟩) (nw sz) (nw sz))) 119 := by
      rw [← flV_done]
      have q0 : Blk w2.drew M _ _ := q1
      exact (q0.set 2 (.int .u32 1)).set 3 (.int .i32 0)
    have r2 : Blk ((w2.drew.setCell ⟨M, 2, none⟩ (.int .u32 1)).setCell ⟨M, 2 + 1, none⟩ (.int .i32 0)) w1.heap.size (wv 0 (nw sz)) 23 := by
      have q0 : Blk w2.drew w1.heap.size _ _ := q2
      exact (q0.other ⟨M, 2, none⟩ (.int .u32 1) HN.out).other ⟨M, 2 + 1, none⟩ (.int .i32 0) HN.out
    have r3 : Ch (fun b => b = M) w1 ((w2.drew.setCell ⟨M, 2, none⟩ (.int .u32 1)).setCell ⟨M, 2 + 1, none⟩ (.int .i32 0)) := by
      refine Ch.trans ?_ (Ch.set _ ⟨M, 2 + 1, none⟩ (.int .i32 0) rfl)
      refine Ch.trans ?_ (Ch.set _ ⟨M, 2, none⟩ (.int .u32 1) rfl)
      refine Ch.trans ?_ (Ch.of (Below.refl _ _).drew)
      exact (Ch.set (P := fun b => b = M) w1 ⟨M, 3, none⟩ (.int .i32 1) rfl).trans q3
    clear q1 q2 q3
    have c1 : ((w2.drew.setCell ⟨M, 2, none⟩ (.int .u32 1)).setCell ⟨M, 2 + 1, none⟩ (.int .i32 0)).cell? ⟨w.heap.size, 0, none⟩ = some (.pointer (some ⟨M, 0, none⟩)) := by
      rw [World.cell?_of_block (a := ⟨w.heap.size, 0, none⟩) (r3.block w.heap.size (World.block_lt_of_cell? w1 _ HPL.out) hne)]
      exact HPL.out
    generalize (w2.drew.setCell ⟨M, 2, none⟩ (.int .u32 1)).setCell ⟨M, 2 + 1, none⟩ (.int .i32 0) = w4 at *
    have c5 : w4.cell? ⟨M, 5, none⟩ = some (.slice (some ⟨w1.heap.size, 0, none⟩) (nw sz) (nw sz)) := r1.cell rfl
    have R1 := hide r1
    have R2 := hide r2
    have R3 := hide r3
    clear r1 r2 r3
    go_wp2
    go_ret
    exact ⟨w1.heap.size, rfl, ⟨R1.out, R2.out, HN.out⟩, .inr B1.out.size, (Ch.of B1.out).trans R3.out⟩
  · have hDo := hide (do_done ⟨M, 2, none⟩ (.func (.func 94) #[] #[.pointer (some ⟨w.heap.size, 0, none⟩)]) w1 (hL.head.cell rfl))
    have c5 : w1.cell? ⟨M, 5, none⟩ = some (.slice (some ⟨D, 0, none⟩) (nw sz) (nw sz)) := hL.head.cell rfl
    have HL := hide hL
    clear h1 h A1 K1 hL
    go_enter Tryz.func68, Tryz.ntmps68
    go_wp2_with fail
    rw [← hw1]
    clear hw1
    refine hDo.out.mono ?_
    rintro e w2 ⟨rfl, rfl⟩
    clear hDo
    go_wp2
    go_ret
    exact ⟨D, rfl, HL.out, .inl hD, Ch.of B1.out⟩

theorem pow_wrap (q : Nat) (hq : q < 64) : IntKind.u64.wrap ((2 : Int) ^ q) = ((2 ^ q : Nat) : Int) := by
  have hlt : 2 ^ q < 2 ^ 64 := Nat.pow_lt_pow_right (by decide) hq
  exact wrap_to (by push_cast; rfl) hlt
theorem place_any (w : World) (M h i sz : Nat) (hc : w.cell? ⟨M, 1, none⟩ = some (.int .i64 sz)) (hh : h < 18446744073709551616) (hi : i < 14) (hs : 8 ≤ sz ∧ sz ≤ 25000) :
    Calls Tryz.prog 70 #[.pointer (some ⟨M, 0, none⟩), .int .u64 h, .int .i64 i] w fun e w' => e = .returned (.tuple #[.int .i64 ((bpl h i sz / 64 : Nat) : Int), .int .u64 ((2 ^ (bpl h i sz % 64) : Nat) : Int)]) ∧ Below w.heap.size w w' := by
  have hp : bpl h i sz < 8 * sz := bpl_lt h i sz (by omega)
  have hP : ((h : Int) + (i : Int) * ((h : Int) / 4294967296)) % 4294967296 % ((sz : Int) * 8) = ((bpl h i sz : Nat) : Int) := by
    unfold bpl
    have e1 : ((i : Int) * ((h : Int) / 4294967296)) = ((i * (h / 4294967296) : Nat) : Int) := by rw [Int.natCast_mul, Int.natCast_ediv]; rfl
    rw [e1]
    generalize i * (h / 4294967296) = x
    have e2 : ((h : Int) + (x : Int)) % 4294967296 = (((h % 4294967296 + x) % 4294967296 : Nat) : Int) := by omega
    rw [e2]
    generalize (h % 4294967296 + x) % 4294967296 = y
    rw [Int.natCast_emod, Int.natCast_mul]
    rfl
  generalize bpl h i sz = p at *
  have hp2 : p < 200000 := by omega
  have hw := hide (pow_wrap (p % 64) (Nat.mod_lt _ (by decide)))
  go_enter Tryz.func70, Tryz.ntmps70
  go_wp2
  go_region
  go_wp2
  go_ret2
  refine ⟨?_, (Below.refl _ _).drew⟩
  rw [← hw.out]
  rfl

end Go.Proofs.YtodhljiboakjnaaGreat.Clep
