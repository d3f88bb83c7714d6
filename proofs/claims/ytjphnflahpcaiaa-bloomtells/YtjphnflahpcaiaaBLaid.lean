/- What laid and place do when called. No conditions but that the Filter lies in memory. -/
import Derived.Test.YtjphnflahpcaiaaBFl
namespace Go.Proofs.Ytjphnflahpcaiaa.Clep
open Go.RowKit
set_option linter.unusedVariables false

set_option maxRecDepth 100000 in
set_option maxHeartbeats 1600000 in
theorem laid1_any (P M k sz : Nat) (w : World) (hp : w.cell? ⟨P, 0, none⟩ = some (.pointer (some ⟨M, 0, none⟩))) (hP : P ≠ M) (hs : 8 ≤ sz ∧ sz ≤ 25000) (h : Blk w M ((flV k sz 0 (.slice none 0 0)).setIfInBounds 3 (.int .i32 1)) 63) :
    Calls Try.prog 31 #[.pointer (some ⟨P, 0, none⟩)] w fun e w' => e = .returned (.tuple #[]) ∧
      Blk w' M (((flV k sz 0 (.slice none 0 0)).setIfInBounds 3 (.int .i32 1)).setIfInBounds 5 (.slice (some ⟨w.heap.size, 0, none⟩) (nw sz) (nw sz))) 63 ∧ Blk w' w.heap.size (wv 0 (nw sz)) 65 ∧ Ch (fun b => b = M) w w' := by
  have hnw : nw sz ≤ 4000 := by unfold nw; omega
  have hmk : ∀ W : World, (Instr.makeSlice 61 (.int .i64 (((sz : Int) + 8 - 1) / 8)) (.int .i64 (((sz : Int) + 8 - 1) / 8))).run Try.prog W = .ok (.slice (some ⟨W.heap.size, 0, none⟩) (nw sz) (nw sz)) (W.alloc (.cells (wv 0 (nw sz)) 65)) := fun W => by
    have := makeW W (nw sz) hnw
    rwa [show ((nw sz : Nat) : Int) = ((sz : Int) + 8 - 1) / 8 by unfold nw; omega] at this
  have c1 : w.cell? ⟨M, 1, none⟩ = some (.int .i64 sz) := h.cell rfl
  have c5 : w.cell? ⟨M, 5, none⟩ = some (.slice none 0 0) := h.cell rfl
  have f5 : w.frozen? ⟨M, 5, none⟩ = false := h.free 5
  have hlt := h.lt
  have hlp := World.block_lt_of_cell? w _ hp
  simp only at hlp
  have H := hide h
  clear h
  generalize hn : nw sz = n at *
  go_enter Try.func31, Try.ntmps31
  go_wp2
  go_region
  go_end0
  subst hn
  have hb := H.out.set 5 (.slice (some ⟨w.heap.size, 0, none⟩) (nw sz) (nw sz))
  have hA := (Below.refl _ (w.setCell ⟨M, 5, none⟩ (.slice (some ⟨w.heap.size, 0, none⟩) (nw sz) (nw sz)))).alloc (Nat.le_refl _) (.cells (wv 0 (nw sz)) 65)
  have hsz : (w.setCell ⟨M, 5, none⟩ (.slice (some ⟨w.heap.size, 0, none⟩) (nw sz) (nw sz))).heap.size = w.heap.size := by simp [World.setCell]
  refine ⟨rfl, (hb.keep hA.drew), hpS _ _ _ hsz.symm, (Ch.set (P := fun b => b = M) w ⟨M, 5, none⟩ _ rfl).trans (Ch.of hA.drew)⟩

theorem flV_done (k sz : Nat) (v : Value) : (((((flV k sz 0 (.slice none 0 0)).setIfInBounds 3 (.int .i32 1)).setIfInBounds 5 v).setIfInBounds 2 (.int .u32 1)).setIfInBounds 3 (.int .i32 0)) = flV k sz 1 v := rfl
set_option maxRecDepth 100000 in
theorem laid_any (w : World) (M : Nat) (B : Nat → Prop) (k sz N : Nat) (h : Fl w M B k sz N) :
    Calls Try.prog 21 #[.pointer (some ⟨M, 0, none⟩)] w fun e w' => ∃ D, e = .returned (.slice (some ⟨D, 0, none⟩) (nw sz) (nw sz)) ∧ Lf w' M D k sz N ∧ (B D ∨ w.heap.size ≤ D) ∧ Ch (fun b => b = M) w w' := by
  have A1 := (Below.refl _ w).alloc (Nat.le_refl _) (Obj.cells #[.pointer (some ⟨M, 0, none⟩)] 23)
  have K1 := hpS w (Obj.cells #[.pointer (some ⟨M, 0, none⟩)] 23) w.heap.size rfl
  obtain ⟨w1, hw1⟩ : ∃ w1, w1 = w.alloc (Obj.cells #[.pointer (some ⟨M, 0, none⟩)] 23) := ⟨_, rfl⟩
  rw [← hw1] at A1 K1
  have h1 := h.keep A1
  have hMlt := h.lt M h.base
  have B1 := hide A1
  have hpl : w1.cell? ⟨w.heap.size, 0, none⟩ = some (.pointer (some ⟨M, 0, none⟩)) := by simp [World.cell?, K1]
  rcases h1.ex with ⟨hb, rfl⟩ | ⟨D, hL, hD⟩
  · have hne : w.heap.size ≠ M := by omega
    have c3 : (w1.setCell ⟨M, 3, none⟩ (.int .i32 1)).cell? ⟨w.heap.size, 0, none⟩ = some (.pointer (some ⟨M, 0, none⟩)) :=
      (World.cell?_setCell_other _ ⟨M, 3, none⟩ ⟨w.heap.size, 0, none⟩ _ (by intro e; injection e with e1; exact hne e1.symm)).trans hpl
    have k3 := hb.set 3 (.int .i32 1)
    have hsz : (w1.setCell ⟨M, 3, none⟩ (.int .i32 1)).heap.size = w1.heap.size := by simp [World.setCell]
    have hL1 := laid1_any w.heap.size M k sz _ c3 hne h.sb k3
    rw [hsz] at hL1
    have hF := hide (do_first M 2 ⟨w.heap.size, 0, none⟩ (fun w2 => Blk w2 M (((flV k sz 0 (.slice none 0 0)).setIfInBounds 3 (.int .i32 1)).setIfInBounds 5 (.slice (some ⟨w1.heap.size, 0, none⟩) (nw sz) (nw sz))) 63 ∧ Blk w2 w1.heap.size (wv 0 (nw sz)) 65 ∧ Ch (fun b => b = M) (w1.setCell ⟨M, 3, none⟩ (.int .i32 1)) w2)
      w1 (hb.cell rfl) (hb.cell rfl) (hb.free 2) (hb.free 3) (hide hL1) (hide (fun w2 e => ⟨e.1.cell rfl, e.1.cell rfl, e.1.free 2, e.1.free 3⟩)))
    have HPL := hide hpl
    have HN : Hid (w1.heap.size ≠ M) := hide (by have := A1.size; omega)
    clear hb h1 A1 K1 hpl c3 k3 hL1 hsz
    go_enter Try.func21, Try.ntmps21
    go_wp2_with fail
    rw [← hw1]
    clear hw1
    refine hF.out.mono ?_
    rintro e w3 ⟨rfl, w2, ⟨q1, q2, q3⟩, rfl⟩
    clear hF
    have r1 : Blk ((w2.drew.setCell ⟨M, 2, none⟩ (.int .u32 1)).setCell ⟨M, 2 + 1, none⟩ (.int .i32 0)) M (flV k sz 1 (.slice (some ⟨w1.heap.size, 0, none⟩) (nw sz) (nw sz))) 63 := by
      rw [← flV_done]
      have q0 : Blk w2.drew M _ _ := q1
      exact (q0.set 2 (.int .u32 1)).set 3 (.int .i32 0)
    have r2 : Blk ((w2.drew.setCell ⟨M, 2, none⟩ (.int .u32 1)).setCell ⟨M, 2 + 1, none⟩ (.int .i32 0)) w1.heap.size (wv 0 (nw sz)) 65 := by
      have q0 : Blk w2.drew w1.heap.size _ _ := q2
      exact (q0.other ⟨M, 2, none⟩ (.int .u32 1) HN.out).other ⟨M, 2 + 1, none⟩ (.int .i32 0) HN.out
    have r3 : Ch (fun b => b = M) w1 ((w2.drew.setCell ⟨M, 2, none⟩ (.int .u32 1)).setCell ⟨M, 2 + 1, none⟩ (.int .i32 0)) := by
      refine Ch.trans ?_ (Ch.set _ ⟨M, 2 + 1, none⟩ (.int .i32 0) rfl)
      refine Ch.trans ?_ (Ch.set _ ⟨M, 2, none⟩ (.int .u32 1) rfl)
      refine Ch.trans ?_ (Ch.of (Below.refl _ _).drew)
      exact (Ch.set (P := fun b => b = M) w1 ⟨M, 3, none⟩ (.int .i32 1) rfl).trans q3
    clear q1 q2 q3
    have c1 : ((w2.drew.setCell ⟨M, 2, none⟩ (.int .u32 1)).setCell ⟨M, 2 + 1, none⟩ (.int .i32 0)).cell? ⟨w.heap.size, 0, none⟩ = some (.pointer (some ⟨M, 0, none⟩)) := by
      rw [World.cell?_of_block (a := ⟨w.heap.size, 0, none⟩) (r3.block w.heap.size (World.block_lt_of_cell? w1 _ HPL.out) hne)]
      exact HPL.out
    generalize (w2.drew.setCell ⟨M, 2, none⟩ (.int .u32 1)).setCell ⟨M, 2 + 1, none⟩ (.int .i32 0) = w4 at *
    have c5 : w4.cell? ⟨M, 5, none⟩ = some (.slice (some ⟨w1.heap.size, 0, none⟩) (nw sz) (nw sz)) := r1.cell rfl
    have R1 := hide r1
    have R2 := hide r2
    have R3 := hide r3
    clear r1 r2 r3
    go_wp2
    go_ret
    exact ⟨w1.heap.size, rfl, ⟨R1.out, R2.out, HN.out⟩, .inr B1.out.size, (Ch.of B1.out).trans R3.out⟩
  · have hDo := hide (do_done ⟨M, 2, none⟩ (.func (.func 31) #[] #[.pointer (some ⟨w.heap.size, 0, none⟩)]) w1 (hL.head.cell rfl))
    have c5 : w1.cell? ⟨M, 5, none⟩ = some (.slice (some ⟨D, 0, none⟩) (nw sz) (nw sz)) := hL.head.cell rfl
    have HL := hide hL
    clear h1 h A1 K1 hL
    go_enter Try.func21, Try.ntmps21
    go_wp2_with fail
    rw [← hw1]
    clear hw1
    refine hDo.out.mono ?_
    rintro e w2 ⟨rfl, rfl⟩
    clear hDo
    go_wp2
    go_ret
    exact ⟨D, rfl, HL.out, .inl hD, Ch.of B1.out⟩

theorem pow_wrap (q : Nat) (hq : q < 64) : IntKind.u64.wrap ((2 : Int) ^ q) = ((2 ^ q : Nat) : Int) := by
  have hlt : 2 ^ q < 2 ^ 64 := Nat.pow_lt_pow_right (by decide) hq
  exact wrap_to (by push_cast; rfl) hlt
theorem place_any (w : World) (M h i sz : Nat) (hc : w.cell? ⟨M, 1, none⟩ = some (.int .i64 sz)) (hh : h < 18446744073709551616) (hi : i < 14) (hs : 8 ≤ sz ∧ sz ≤ 25000) :
    Calls Try.prog 23 #[.pointer (some ⟨M, 0, none⟩), .int .u64 h, .int .i64 i] w fun e w' => e = .returned (.tuple #[.int .i64 ((pl h i sz / 64 : Nat) : Int), .int .u64 ((2 ^ (pl h i sz % 64) : Nat) : Int)]) ∧ Below w.heap.size w w' := by
  have hp : pl h i sz < 8 * sz := pl_lt h i sz (by omega)
  have hP : ((h : Int) + (i : Int) * ((h : Int) / 4294967296)) % 4294967296 % ((sz : Int) * 8) = ((pl h i sz : Nat) : Int) := by
    unfold pl
    have e1 : ((i : Int) * ((h : Int) / 4294967296)) = ((i * (h / 4294967296) : Nat) : Int) := by rw [Int.natCast_mul, Int.natCast_ediv]; rfl
    rw [e1]
    generalize i * (h / 4294967296) = x
    have e2 : ((h : Int) + (x : Int)) % 4294967296 = (((h % 4294967296 + x) % 4294967296 : Nat) : Int) := by omega
    rw [e2]
    generalize (h % 4294967296 + x) % 4294967296 = y
    rw [Int.natCast_emod, Int.natCast_mul]
    rfl
  generalize pl h i sz = p at *
  have hp2 : p < 200000 := by omega
  have hw := hide (pow_wrap (p % 64) (Nat.mod_lt _ (by decide)))
  go_enter Try.func23, Try.ntmps23
  go_wp2
  go_region
  go_wp2
  go_ret2
  refine ⟨?_, (Below.refl _ _).drew⟩
  rw [← hw.out]
  rfl

end Go.Proofs.Ytjphnflahpcaiaa.Clep
