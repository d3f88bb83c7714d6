/- A Mem in memory; what New, Len, Bytes, Items, Frozen, Freeze and grow do when called. Conditions: fewer than 2^40 items. -/
import Derived.Test.YtjpoahnecbefaaaDoorMHeight
import Derived.Test.YtjpoahnecbefaaaDoorMOnce
import Derived.Test.YtjpoahnecbefaaaDoorTBest
import Derived.Laws.EntriesVeiled
namespace Go.Proofs.YtjpoahnecbefaaaDoor.Clep
open Go.RowKit
set_option linter.unusedVariables false

theorem Tab.ch {P : Nat → Prop} {w w' : World} (h : Tab w) (hc : Ch P w w') (hn : ¬ P 0) : Tab w' := fun j hj => by
  rw [World.cell?_of_block (a := ⟨0, j, none⟩) (hc.block 0 h.lt hn)]; exact h j hj

/-- The cells of a Mem. -/
def memV (L : Nat) (n : Nat) (fr : Bool) : Array Value :=
  #[.pointer (some ⟨L, 0, none⟩), .int .i64 n, .int .u32 (if fr then 1 else 0), .int .i32 0, .int .u32 0, .int .u32 (if fr then 1 else 0)]
/-- The Mem in block M holds the items ws; its blocks are B's; fr: is it frozen? -/
structure Mm (w : World) (M : Nat) (B : Nat → Prop) (fr : Bool) (ws : List (It × Nat)) : Prop where
  lt : ∀ b, B b → b < w.heap.size
  base : B M
  ex : ∃ (L : Nat) (C : Nat → Prop), Blk w M (memV L ws.length fr) 59 ∧ Held w L C ws ∧ (∀ b, C b → B b ∧ b ≠ M)
theorem Mm.keep {w w' : World} {M : Nat} {B : Nat → Prop} {fr : Bool} {ws : List (It × Nat)} (h : Mm w M B fr ws) (hb : Below w.heap.size w w') : Mm w' M B fr ws := by
  obtain ⟨L, C, h1, h2, h3⟩ := h.ex
  exact ⟨fun b hb' => Nat.lt_of_lt_of_le (h.lt b hb') hb.size, h.base, L, C, h1.keep hb, h2.keep hb, h3⟩
theorem Mm.ch {P : Nat → Prop} {w w' : World} {M : Nat} {B : Nat → Prop} {fr : Bool} {ws : List (It × Nat)} (h : Mm w M B fr ws) (hc : Ch P w w') (hd : ∀ b, B b → ¬ P b) : Mm w' M B fr ws := by
  obtain ⟨L, C, h1, h2, h3⟩ := h.ex
  exact ⟨fun b hb' => Nat.lt_of_lt_of_le (h.lt b hb') hc.size, h.base, L, C, h1.ch hc (hd _ h.base), h2.ch hc (fun b hb => hd b (h3 b hb).1), h3⟩
/-- More blocks may be counted as its own. -/
theorem Mm.wide {w : World} {M : Nat} {B B' : Nat → Prop} {fr : Bool} {ws : List (It × Nat)} (h : Mm w M B fr ws) (hB : ∀ b, B b → B' b) (hl : ∀ b, B' b → b < w.heap.size) : Mm w M B' fr ws := by
  obtain ⟨L, C, h1, h2, h3⟩ := h.ex
  exact ⟨hl, hB _ h.base, L, C, h1, h2, fun b hb => ⟨hB b (h3 b hb).1, (h3 b hb).2⟩⟩

theorem loadB (a : Addr) (b : Bool) (w : World) (h0 : w.cell? a = some (.int .u32 (if b then 1 else 0))) :
    Calls Tryd.prog 33 #[.pointer (some a)] w fun e w' => e = .returned (.bool b) ∧ w' = w := by
  have hnot : ∀ (x : Bool) (w : World), (Op.unary .not (.bool x)).run Tryd.prog w = .ok (.bool (!x)) w := fun _ _ => rfl
  cases b with
  | true =>
    have hl := run_call_load (P := Tryd.prog) Tryd.func51 (by kernel_rfl) (by kernel_rfl) (by kernel_rfl) .u32 (by kernel_rfl) (x := 1) h0
    go_enter Tryd.func33, Tryd.ntmps33
    go_wp2
    go_ret
    exact ⟨rfl, rfl⟩
  | false =>
    have hl := run_call_load (P := Tryd.prog) Tryd.func51 (by kernel_rfl) (by kernel_rfl) (by kernel_rfl) .u32 (by kernel_rfl) (x := 0) h0
    go_enter Tryd.func33, Tryd.ntmps33
    go_wp2
    go_ret
    exact ⟨rfl, rfl⟩
set_option maxRecDepth 100000 in
set_option maxHeartbeats 1600000 in
theorem storeB (a : Addr) (x : Value) (w : World) (hc : w.cell? a = some x) (hz : w.frozen? a = false) :
    Calls Tryd.prog 29 #[.pointer (some a), .bool true] w fun e w' => e = .returned (.tuple #[]) ∧ w' = w.drew.setCell a (.int .u32 1) := by
  have hc' : w.drew.cell? a = some x := by go_simp
  have hz' : w.drew.frozen? a = false := by go_simp
  have hst := run_call_store (P := Tryd.prog) Tryd.func49 (by kernel_rfl) (by kernel_rfl) (by kernel_rfl) (by kernel_rfl) (k := .u32) (y := 1) hc' hz'
  go_enter Tryd.func29, Tryd.ntmps29
  go_wp2
  go_region_calls
  all_goals (go_end0; exact ⟨rfl, rfl⟩)
theorem casN (a : Addr) (x y : Int) (w : World) (h0 : w.cell? a = some (.int .i64 x)) (hz : w.frozen? a = false) :
    Calls Tryd.prog 45 #[.pointer (some a), .int .i64 x, .int .i64 y] w fun e w' => e = .returned (.bool true) ∧ w' = w.setCell a (.int .i64 y) := by
  have hld := run_call_cas_hit (P := Tryd.prog) Tryd.func65 (by kernel_rfl) (by kernel_rfl) (by kernel_rfl) .i64 (by kernel_rfl) (y := y) h0 hz
  go_enter Tryd.func45, Tryd.ntmps45
  go_wp2
  go_ret
  exact ⟨rfl, rfl⟩

set_option maxRecDepth 100000 in
theorem mnew_h (w : World) : Calls Tryd.prog 7 #[] w fun e w' => ∃ M, e = .returned (.pointer (some ⟨M, 0, none⟩)) ∧ Mm w' M (fun b => w.heap.size ≤ b ∧ b < w'.heap.size) false [] ∧ Below w.heap.size w w' := by
  have C1 := hide (new_h w)
  go_enter Tryd.func7, Tryd.ntmps7
  go_wp2_with fail
  refine C1.out.mono ?_
  rintro e w1 ⟨L, rfl, hh, hb⟩
  have HH := hide hh
  have HB := hide hb
  have A1 := hide ((Below.refl _ w1).alloc (Nat.le_refl _) (Obj.cells (memV L 0 false) 59))
  have K1 := hide (hpS w1 (Obj.cells (memV L 0 false) 59) w1.heap.size rfl)
  have hsz := hide (show (w1.alloc (Obj.cells (memV L 0 false) 59)).heap.size = w1.heap.size + 1 by simp)
  clear hh hb C1
  go_wp2
  go_ret
  refine ⟨w1.heap.size, rfl, ?_, bmore HB.out A1.out⟩
  have hs := HB.out.size
  refine ⟨fun b hb => hb.2, ⟨hs, ?_⟩, L, _, K1.out, HH.out.keep A1.out, fun b hb => ⟨⟨hb.1, ?_⟩, by omega⟩⟩
  · have := hsz.out; unfold memV at this; simp only [Bool.false_eq_true, if_false] at this; exact Nat.lt_of_lt_of_eq (Nat.lt_succ_self _) this.symm
  · have := hsz.out; unfold memV at this; simp only [Bool.false_eq_true, if_false] at this; exact Nat.lt_of_lt_of_eq (Nat.lt_succ_of_lt hb.2) this.symm
theorem mlen_h (w : World) (M : Nat) (B : Nat → Prop) (fr : Bool) (ws : List (It × Nat)) (h : Mm w M B fr ws) :
    Calls Tryd.prog 10 #[.pointer (some ⟨M, 0, none⟩)] w fun e w' => e = .returned (.int .i64 ws.length) ∧ w' = w := by
  obtain ⟨L, C, h1, h2, h3⟩ := h.ex
  have hL := hide (loadN ⟨M, 1, none⟩ ws.length w (h1.cell rfl))
  go_enter Tryd.func10, Tryd.ntmps10
  go_wp2_with fail
  refine hL.out.mono ?_
  rintro e w1 ⟨rfl, rfl⟩
  go_wp2
  go_ret
  exact ⟨rfl, rfl⟩
theorem mbytes_h (w : World) (M : Nat) (B : Nat → Prop) (fr : Bool) (ws : List (It × Nat)) (h : Mm w M B fr ws) (hl : ws.length < 1099511627776) :
    Calls Tryd.prog 16 #[.pointer (some ⟨M, 0, none⟩)] w fun e w' => e = .returned (.int .i64 (ws.length * 28 : Nat)) ∧ w' = w := by
  have hL := hide (mlen_h w M B fr ws h)
  generalize ws.length = n at *
  go_enter Tryd.func16, Tryd.ntmps16
  go_wp2_with fail
  refine hL.out.mono ?_
  rintro e w1 ⟨rfl, rfl⟩
  go_wp2
  go_ret
  exact ⟨by first | rfl | (congr 2; omega) | simp, rfl⟩
theorem mitems_h (w : World) (M : Nat) (B : Nat → Prop) (fr : Bool) (ws : List (It × Nat)) (h : Mm w M B fr ws) (hl : ws.length < 1099511627776) :
    Calls Tryd.prog 11 #[.pointer (some ⟨M, 0, none⟩)] w (AnsW (ws.map Prod.fst) w) := by
  obtain ⟨L, C, h1, h2, h3⟩ := h.ex
  have hL := hide (all_h w L C ws h2 hl)
  have hc : w.cell? ⟨M, 0, none⟩ = some (.pointer (some ⟨L, 0, none⟩)) := h1.cell rfl
  clear h1 h2 h3 h
  go_enter Tryd.func11, Tryd.ntmps11
  go_wp2_with fail
  refine hL.out.mono ?_
  rintro e w1 ⟨a, c, rfl, h1, h2, h3⟩
  have H1 := hide h1
  have H2 := hide h2
  have H3 := hide h3
  clear h1 h2 h3 hL hc
  go_wp2
  go_ret
  exact ⟨a, c, by rw [List.length_map]; rfl, H1.out, H2.out, H3.out⟩
theorem mfrozen_h (w : World) (M : Nat) (B : Nat → Prop) (fr : Bool) (ws : List (It × Nat)) (h : Mm w M B fr ws) :
    Calls Tryd.prog 17 #[.pointer (some ⟨M, 0, none⟩)] w fun e w' => e = .returned (.bool fr) ∧ w' = w := by
  obtain ⟨L, C, h1, h2, h3⟩ := h.ex
  have hL := hide (loadB ⟨M, 5, none⟩ fr w (h1.cell rfl))
  go_enter Tryd.func17, Tryd.ntmps17
  go_wp2_with fail
  refine hL.out.mono ?_
  rintro e w1 ⟨rfl, rfl⟩
  go_wp2
  go_ret
  exact ⟨rfl, rfl⟩
theorem mgrow_h (w : World) (M L n m : Nat) (fr : Bool) (h : Blk w M (memV L n fr) 59) (hm : n ≤ m) :
    Calls Tryd.prog 23 #[.pointer (some ⟨M, 0, none⟩), .int .i64 m] w fun e w' => e = .returned (.tuple #[]) ∧ Blk w' M (memV L m fr) 59 ∧ Ch (fun b => b = M) w w' := by
  have hL := hide (loadN ⟨M, 1, none⟩ n w (h.cell rfl))
  by_cases hlt : n < m
  · have hC := hide (casN ⟨M, 1, none⟩ n m w (h.cell rfl) (h.free 1))
    have H := hide h
    clear h
    go_enter Tryd.func23, Tryd.ntmps23
    go_wp2_with fail
    refine hL.out.mono ?_
    rintro e w1 ⟨rfl, rfl⟩
    go_wp2
    go_loopw [4] (fun u wr => u = .int .i64 n ∧ wr = w1) (fun _ _ => 0)
    case atStart => exact ⟨rfl, rfl⟩
    case round =>
      obtain ⟨rfl, rfl⟩ := hrel
      go_wp2_with fail
      refine hC.out.mono ?_
      rintro e w2 ⟨rfl, rfl⟩
      go_wp2
      first | go_end0 | (simp only [Exit.inBlock, Exit.then]; refine bodyPost_ret (results_none rfl _ _ _) rfl ?_) | refine bodyPost_ret (results_none rfl _ _ _) rfl ?_
      exact ⟨rfl, H.out.set 1 (.int .i64 m), Ch.set _ _ _ rfl⟩
  · obtain rfl : n = m := by omega
    have H := hide h
    clear h
    go_enter Tryd.func23, Tryd.ntmps23
    go_wp2_with fail
    refine hL.out.mono ?_
    rintro e w1 ⟨rfl, rfl⟩
    go_wp2
    go_loopw [4] (fun u wr => u = .int .i64 n ∧ wr = w1) (fun _ _ => 0)
    case atStart => exact ⟨rfl, rfl⟩
    case round =>
      obtain ⟨rfl, rfl⟩ := hrel
      go_wp2
      go_end0
      exact ⟨rfl, H.out, Ch.of (Below.refl _ _)⟩

end Go.Proofs.YtjpoahnecbefaaaDoor.Clep
