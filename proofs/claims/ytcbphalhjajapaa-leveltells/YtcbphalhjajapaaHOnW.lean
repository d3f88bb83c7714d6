/- What look.on does when called (a walk over the translated program): the first time it fills the rows, later it only answers. Conditions: at most 100,000 files. -/
import Derived.Test.YtcbphalhjajapaaHOn
namespace Go.Proofs.Ytcbphalhjajapaa.Clep
open Go.RowKit
set_option linter.unusedVariables false
set_option linter.unusedSimpArgs false

/-- A look that has looked. -/
structure Lk (W : World) (b : Nat) (F : Value) (l : List He) (ps : Nat → Value) : Prop where
  e : Ek W b (lkC F 1 0 ps) 56
  z : ∀ k, k < 4 → ∃ ao cap, ps k = .slice ao (pos l k).length cap ∧ cap ≤ 9223372036854775807 ∧ Zs W ao (pos l k).length cap (zn (pos l k))
theorem Lk.keep {W W' : World} {b : Nat} {F : Value} {l : List He} {ps : Nat → Value} (h : Lk W b F l ps) (hb : Below W.heap.size W W') : Lk W' b F l ps :=
  ⟨h.e.below hb h.e.lt, fun k hk => by
    obtain ⟨ao, cap, h1, h2, h3⟩ := h.z k hk
    exact ⟨ao, cap, h1, h2, h3.below hb (Nat.le_refl _)⟩⟩
set_option maxRecDepth 100000 in
set_option maxHeartbeats 1000000 in
theorem on_first (b S : Nat) (a : Option Addr) (n c : Nat) (l : List He) (k : Nat) (w : World) (hk : k < 4) (hS : S ≤ b) (hSw : S ≤ w.heap.size) (hl : l.length = n) (hn : n ≤ 100000)
    (hb : Ek w b (lkC (.slice a n c) 0 0 nilP) 56) (hF : Hid (∀ W, Below S w W → Hs W a n c l)) :
    Calls Try.prog 29 #[.pointer (some ⟨b, 0, none⟩), .int .i64 (k : Int)] w fun e w' => ∃ ps, e = .returned (ps k) ∧ Lk w' b (.slice a n c) l ps ∧ w.grownBy w' (some b) := by
  have A1 := (Below.refl _ w).alloc (Nat.le_refl _) (Obj.cells #[.pointer (some ⟨b, 0, none⟩)] 69)
  have K1 := ek_new w #[.pointer (some ⟨b, 0, none⟩)] 69
  have hsz1 : (w.alloc (Obj.cells #[.pointer (some ⟨b, 0, none⟩)] 69)).heap.size = w.heap.size + 1 := by simp
  obtain ⟨w1, hw1⟩ : ∃ w1, w1 = w.alloc (Obj.cells #[.pointer (some ⟨b, 0, none⟩)] 69) := ⟨_, rfl⟩
  rw [← hw1] at A1 K1 hsz1
  have hblt := hb.lt
  have hb1 := hb.below A1 hblt
  have hne : w.heap.size ≠ b := by omega
  have g1 : w.grownBy w1 (some b) := fgb_below A1 _
  have g2 := fgb_set w1 ⟨b, 2, none⟩ (.int .i32 1)
  have k3 := hb1.set 2 (.int .i32 1)
  have c3 : (w1.setCell ⟨b, 2, none⟩ (.int .i32 1)).cell? ⟨w.heap.size, 0, none⟩ = some (.pointer (some ⟨b, 0, none⟩)) := (K1.gb g2 (by intro e; exact hne (Option.some.inj e))).cell rfl
  have hsz : (w1.setCell ⟨b, 2, none⟩ (.int .i32 1)).heap.size = w.heap.size + 1 := by simp [World.setCell, hsz1]
  have hBW : Below S w (w1.setCell ⟨b, 2, none⟩ (.int .i32 1)) := (Below.refl S w).grown (g1.trans g2) hSw (fun q hq => by cases hq; exact hS)
  have hL1 := on1_any w.heap.size b S a n c l 1 (w1.setCell ⟨b, 2, none⟩ (.int .i32 1)) hS (by omega) hl hn c3 hne k3 (hide (fun W hW => hF.out W (hBW.trans hW)))
  have hD := hide (do_first b 1 ⟨w.heap.size, 0, none⟩ (fun w2 => ∃ ps, Lg (w1.setCell ⟨b, 2, none⟩ (.int .i32 1)) w2 b (.slice a n c) 0 1 ps l n) w1 (hb1.cell rfl) (hb1.cell rfl) (hb1.free 1) (hb1.free 2) (hide hL1)
    (hide (fun w2 ⟨ps, h⟩ => ⟨h.e.cell rfl, h.e.cell rfl, h.e.free 1, h.e.free 2⟩)))
  have HG := hide (g1.trans g2)
  have HSZ := hide hsz
  have HK3 := hide c3
  have HN := hide (⟨hl, hn, hblt⟩ : l.length = n ∧ n ≤ 100000 ∧ b < w.heap.size)
  have hk0 : (k : Int) < 4 := by omega
  have HKK := hide hk
  clear A1 K1 hsz1 hb1 g1 g2 k3 c3 hsz hBW hL1 hF hb hl hblt hk
  go_enter Try.func29, Try.ntmps29
  go_wp2_with fail
  rw [← hw1]
  clear hw1
  refine hD.out.mono ?_
  rintro e w3 ⟨rfl, w2, ⟨ps, hlg⟩, rfl⟩
  clear hD
  have hgA := fgb_set (w2.drew) ⟨b, 1, none⟩ (.int .u32 1)
  have hgB := fgb_set (w2.drew.setCell ⟨b, 1, none⟩ (.int .u32 1)) ⟨b, 1 + 1, none⟩ (.int .i32 0)
  have hg2 : w2.grownBy ((w2.drew.setCell ⟨b, 1, none⟩ (.int .u32 1)).setCell ⟨b, 1 + 1, none⟩ (.int .i32 0)) (some b) := ((fgb_below (Below.refl _ w2).drew (some b)).trans hgA).trans hgB
  have hg3 := HG.out.trans (hlg.g.trans hg2)
  have e3 : Ek ((w2.drew.setCell ⟨b, 1, none⟩ (.int .u32 1)).setCell ⟨b, 1 + 1, none⟩ (.int .i32 0)) b (lkC (.slice a n c) 1 0 ps) 56 := (hlg.e.drew.set 1 (.int .u32 1)).set 2 (.int .i32 0)
  have c4 : ((w2.drew.setCell ⟨b, 1, none⟩ (.int .u32 1)).setCell ⟨b, 1 + 1, none⟩ (.int .i32 0)).cell? ⟨w.heap.size, 0, none⟩ = some (.pointer (some ⟨b, 0, none⟩)) := by
    rw [World.cell?_of_block (a := ⟨w.heap.size, 0, none⟩) ((hlg.g.trans hg2).block w.heap.size (World.block_lt_of_cell? _ _ HK3.out) (fun e => hne (Option.some.inj e)))]
    exact HK3.out
  have hz : ∀ j, j < 4 → ∃ ao cap, ps j = .slice ao (pos l j).length cap ∧ cap ≤ 9223372036854775807 ∧ Zs ((w2.drew.setCell ⟨b, 1, none⟩ (.int .u32 1)).setCell ⟨b, 1 + 1, none⟩ (.int .i32 0)) ao (pos l j).length cap (zn (pos l j)) := fun j hj => by
    have ho := ownZ_grown (hlg.own j hj) hg2 (fun q hq => by have := HSZ.out; have := HN.out.2.2; cases hq; omega)
    have hpn : posN l j n = pos l j := by unfold pos; rw [HN.out.1]
    rw [hpn] at ho
    obtain ⟨ao, cap, h1, h2, h3, _⟩ := ownZ_zs ho (z_range (n := n) (fun i hi => by rw [← hpn] at hi; exact pos_lt hi) (by have := HN.out.2.1; omega))
    rw [zn_len] at h1 h3
    exact ⟨ao, cap, h1, h2, h3⟩
  generalize (w2.drew.setCell ⟨b, 1, none⟩ (.int .u32 1)).setCell ⟨b, 1 + 1, none⟩ (.int .i32 0) = w4 at *
  have c5 : w4.cell? ⟨b, 4 + k, none⟩ = some (ps k) := e3.cell (lkC_at _ _ _ _ k HKK.out)
  have HR := hide (show Lk w4 b (.slice a n c) l ps ∧ w.grownBy w4 (some b) from ⟨⟨e3, hz⟩, hg3⟩)
  clear hgA hgB hg2 hg3 e3 hz hlg HG HSZ HK3 HN
  go_wp2
  go_ret
  exact ⟨ps, rfl, HR.out⟩
set_option maxRecDepth 100000 in
set_option maxHeartbeats 1000000 in
theorem on_done (b : Nat) (F : Value) (l : List He) (ps : Nat → Value) (k : Nat) (w : World) (hk : k < 4) (h : Lk w b F l ps) :
    Calls Try.prog 29 #[.pointer (some ⟨b, 0, none⟩), .int .i64 (k : Int)] w fun e w' => e = .returned (ps k) ∧ Below w.heap.size w w' := by
  have A1 := (Below.refl _ w).alloc (Nat.le_refl _) (Obj.cells #[.pointer (some ⟨b, 0, none⟩)] 69)
  have K1 := ek_new w #[.pointer (some ⟨b, 0, none⟩)] 69
  obtain ⟨w1, hw1⟩ : ∃ w1, w1 = w.alloc (Obj.cells #[.pointer (some ⟨b, 0, none⟩)] 69) := ⟨_, rfl⟩
  rw [← hw1] at A1 K1
  have hb := h.e.below A1 h.e.lt
  have B1 := hide A1
  have hpl : w1.cell? ⟨w.heap.size, 0, none⟩ = some (.pointer (some ⟨b, 0, none⟩)) := K1.cell rfl
  have hDo := hide (do_done ⟨b, 1, none⟩ (.func (.func 40) #[] #[.pointer (some ⟨w.heap.size, 0, none⟩)]) w1 (hb.cell rfl))
  have c5 : w1.cell? ⟨b, 4 + k, none⟩ = some (ps k) := hb.cell (lkC_at _ _ _ _ k hk)
  have hk0 : (k : Int) < 4 := by omega
  clear h A1 K1 hb hk
  go_enter Try.func29, Try.ntmps29
  go_wp2_with fail
  rw [← hw1]
  clear hw1
  refine hDo.out.mono ?_
  rintro e w2 ⟨rfl, rfl⟩
  clear hDo
  go_wp2
  go_ret
  exact ⟨rfl, B1.out⟩

end Go.Proofs.Ytcbphalhjajapaa.Clep
