/- What Iter.open does when called: the row is made once. Conditions: at most a thousand rows, a hundred thousand items. -/
import Derived.Test.YtkkcchklefcljaaVLRows
import Derived.Test.YtkkcchklefcljaaVIterO
namespace Go.Proofs.Ytkkcchklefcljaa.Clep
open Go.RowKit
set_option linter.unusedVariables false

set_option maxRecDepth 100000 in
set_option maxHeartbeats 1000000 in
theorem open_first (w : World) (M : Nat) (ls : List (List It)) (h : ItU w M ls) :
    Calls Try.prog 36 #[.pointer (some ⟨M, 0, none⟩)] w fun e w' => ∃ a n c L, e = .returned (.slice a n c) ∧ ItO w' M a n c ls L 0 ∧ Ch (fun b => b = M) w w' ∧ (0 < n → ∀ x, a = some x → w.heap.size ≤ x.block) := by
  obtain ⟨a, n, c, ys, hblk, hR, hls, hc, hn, hs, ha1, ha2⟩ := h.ex
  have A1 := (Below.refl _ w).alloc (Nat.le_refl _) (Obj.cells #[.pointer (some ⟨M, 0, none⟩)] 33)
  have K1 := hpS w (Obj.cells #[.pointer (some ⟨M, 0, none⟩)] 33) w.heap.size rfl
  obtain ⟨w1, hw1⟩ : ∃ w1, w1 = w.alloc (Obj.cells #[.pointer (some ⟨M, 0, none⟩)] 33) := ⟨_, rfl⟩
  rw [← hw1] at A1 K1
  have hMlt := hblk.lt
  have hb := hblk.keep A1
  have hne : w.heap.size ≠ M := by omega
  have B1 := hide A1
  have hpl : w1.cell? ⟨w.heap.size, 0, none⟩ = some (.pointer (some ⟨M, 0, none⟩)) := by simp [World.cell?, K1]
  have c3 : (w1.setCell ⟨M, 2, none⟩ (.int .i32 1)).cell? ⟨w.heap.size, 0, none⟩ = some (.pointer (some ⟨M, 0, none⟩)) :=
    (World.cell?_setCell_other _ ⟨M, 2, none⟩ ⟨w.heap.size, 0, none⟩ _ (by intro e; injection e with e1; exact hne e1.symm)).trans hpl
  have k3 := hb.set 2 (.int .i32 1)
  have hR1 : Rws (w1.setCell ⟨M, 2, none⟩ (.int .i32 1)) a n c ys := rws_ch (hR.below A1 (Nat.le_refl _)) (Ch.set (P := fun b => b = M) w1 ⟨M, 2, none⟩ _ rfl) ha1 ha2
  have hsz : (w1.setCell ⟨M, 2, none⟩ (.int .i32 1)).heap.size = w1.heap.size := by simp [World.setCell]
  have hL1 := open1_any w.heap.size M a n c ys _ c3 k3 hR1 hc hn hs
  rw [hsz, hls] at hL1
  have hM1 : M < w1.heap.size := hb.lt
  have hF := hide (vdo_first M 1 ⟨w.heap.size, 0, none⟩ (fun w2 => ∃ L a' n' c', Blk w2 M (itrV (.slice none 0 0) 0 1 (.slice a' n' c') 0) 64 ∧ Rs w2 a' n' c' ls L ∧ (0 < n' → ∀ x, a' = some x → w1.heap.size ≤ x.block) ∧ Ch (fun b => b = M) (w1.setCell ⟨M, 2, none⟩ (.int .i32 1)) w2)
    w1 (hb.cell rfl) (hb.cell rfl) (hb.free 1) (hb.free 2) (hide (hL1.mono fun e w' ⟨he, w4, L, a', n', c', hb4, rs4, ho4, hbk, hch⟩ => ⟨he, L, a', n', c', hbk, ⟨rs4.mrg, is_ch rs4.is hch (fun h0 x hx e => by
        obtain ⟨b9, off9, e9, _⟩ := rs4.is.2.2.2 h0
        rw [hx] at e9
        injection e9 with e9
        have := (World.ownsRow.lt ho4 x.block (by rw [hx]; rfl)).1
        omega), rs4.cap⟩, (fun h0 x hx => (World.ownsRow.lt ho4 x.block (by rw [hx]; rfl)).1), Ch.trans (Ch.of (by rw [hsz]; exact hb4)) hch⟩)) (hide (fun w2 ⟨L, a', n', c', e, _⟩ => ⟨e.cell rfl, e.cell rfl, e.free 1, e.free 2⟩)))
  have HPL := hide hpl
  clear hb A1 K1 hpl c3 k3 hL1 hsz h hR1 hblk hR
  go_enter Try.func36, Try.ntmps36
  go_wp2_with fail
  rw [← hw1]
  clear hw1
  refine hF.out.mono ?_
  rintro e w3 ⟨rfl, w2, ⟨L, a', n', c', q1, q2, q3, q4⟩, rfl⟩
  clear hF
  have r1 : Blk ((w2.drew.setCell ⟨M, 1, none⟩ (.int .u32 1)).setCell ⟨M, 1 + 1, none⟩ (.int .i32 0)) M (itrV (.slice none 0 0) 1 0 (.slice a' n' c') 0) 64 := by
    rw [← itrV_done]
    have q0 : Blk w2.drew M _ _ := q1
    exact (q0.set 1 (.int .u32 1)).set 2 (.int .i32 0)
  have g2 : Ch (fun b => b = M) w2 ((w2.drew.setCell ⟨M, 1, none⟩ (.int .u32 1)).setCell ⟨M, 1 + 1, none⟩ (.int .i32 0)) := by
    refine Ch.trans ?_ (Ch.set _ ⟨M, 1 + 1, none⟩ (.int .i32 0) rfl)
    refine Ch.trans ?_ (Ch.set _ ⟨M, 1, none⟩ (.int .u32 1) rfl)
    exact Ch.of (Below.refl _ _).drew
  have r2 : Rs ((w2.drew.setCell ⟨M, 1, none⟩ (.int .u32 1)).setCell ⟨M, 1 + 1, none⟩ (.int .i32 0)) a' n' c' ls L := ⟨q2.mrg, is_ch q2.is g2 (fun h0 x hx e => by have := q3 h0 x hx; omega), q2.cap⟩
  have r3 : Ch (fun b => b = M) w1 ((w2.drew.setCell ⟨M, 1, none⟩ (.int .u32 1)).setCell ⟨M, 1 + 1, none⟩ (.int .i32 0)) := ((Ch.set (P := fun b => b = M) w1 ⟨M, 2, none⟩ (.int .i32 1) rfl).trans q4).trans g2
  clear q1 q2 q4 g2
  have c1 : ((w2.drew.setCell ⟨M, 1, none⟩ (.int .u32 1)).setCell ⟨M, 1 + 1, none⟩ (.int .i32 0)).cell? ⟨w.heap.size, 0, none⟩ = some (.pointer (some ⟨M, 0, none⟩)) := by
    rw [World.cell?_of_block (a := ⟨w.heap.size, 0, none⟩) (r3.block w.heap.size (World.block_lt_of_cell? w1 _ HPL.out) hne)]
    exact HPL.out
  generalize (w2.drew.setCell ⟨M, 1, none⟩ (.int .u32 1)).setCell ⟨M, 1 + 1, none⟩ (.int .i32 0) = w4 at *
  have c5 : w4.cell? ⟨M, 4, none⟩ = some (.slice a' n' c') := r1.cell rfl
  have R1 := hide r1
  have R2 := hide r2
  have R3 := hide r3
  have HQ3 := hide q3
  clear r1 r2 r3 q3
  go_wp2
  go_ret
  have hBs := B1.out.size
  exact ⟨a', n', c', L, rfl, ⟨R1.out, R2.out, fun h0 x hx e => by have := HQ3.out h0 x hx; omega, Nat.zero_le _⟩, (Ch.of (P := fun b => b = M) B1.out).trans R3.out, fun h0 x hx => Nat.le_trans hBs (HQ3.out h0 x hx)⟩
set_option maxRecDepth 100000 in
theorem open_again (w : World) (M : Nat) (a : Option Addr) (n c : Nat) (ls : List (List It)) (L : List It) (nx : Nat) (h : ItO w M a n c ls L nx) :
    Calls Try.prog 36 #[.pointer (some ⟨M, 0, none⟩)] w fun e w' => e = .returned (.slice a n c) ∧ Below w.heap.size w w' := by
  have A1 := (Below.refl _ w).alloc (Nat.le_refl _) (Obj.cells #[.pointer (some ⟨M, 0, none⟩)] 33)
  have K1 := hpS w (Obj.cells #[.pointer (some ⟨M, 0, none⟩)] 33) w.heap.size rfl
  obtain ⟨w1, hw1⟩ : ∃ w1, w1 = w.alloc (Obj.cells #[.pointer (some ⟨M, 0, none⟩)] 33) := ⟨_, rfl⟩
  rw [← hw1] at A1 K1
  have hb := h.blk.keep A1
  have B1 := hide A1
  have hpl : w1.cell? ⟨w.heap.size, 0, none⟩ = some (.pointer (some ⟨M, 0, none⟩)) := by simp [World.cell?, K1]
  have hDo := hide (do_done ⟨M, 1, none⟩ (.func (.func 50) #[] #[.pointer (some ⟨w.heap.size, 0, none⟩)]) w1 (hb.cell rfl))
  have c5 : w1.cell? ⟨M, 4, none⟩ = some (.slice a n c) := hb.cell rfl
  clear h A1 K1 hb
  go_enter Try.func36, Try.ntmps36
  go_wp2_with fail
  rw [← hw1]
  clear hw1
  refine hDo.out.mono ?_
  rintro e w2 ⟨rfl, rfl⟩
  clear hDo
  go_wp2
  go_ret
  exact ⟨rfl, B1.out⟩
theorem open_any (w w1 : World) (M : Nat) (ls : List (List It)) (nx : Nat) (h : Itr w M ls nx) (hb : Below w.heap.size w w1) :
    Calls Try.prog 36 #[.pointer (some ⟨M, 0, none⟩)] w1 fun e w' => ∃ a n c L, e = .returned (.slice a n c) ∧ ItO w' M a n c ls L nx ∧ Ch (fun b => b = M) w1 w' ∧ (0 < n → ∀ x, a = some x → x.block < w.heap.size ∨ w1.heap.size ≤ x.block) := by
  rcases h with ⟨h, rfl⟩ | ⟨a, n, c, L, h⟩
  · refine (open_first w1 M ls (h.keep hb)).mono ?_
    rintro e w' ⟨a, n, c, L, rfl, h1, h2, h3⟩
    exact ⟨a, n, c, L, rfl, h1, h2, fun h0 x hx => .inr (h3 h0 x hx)⟩
  · refine (open_again w1 M a n c ls L nx (h.keep hb)).mono ?_
    rintro e w' ⟨rfl, hb2⟩
    exact ⟨a, n, c, L, rfl, (h.keep hb).keep hb2, Ch.of hb2, fun h0 x hx => .inl (is_lt h.rs.is h0 x hx)⟩

end Go.Proofs.Ytkkcchklefcljaa.Clep
