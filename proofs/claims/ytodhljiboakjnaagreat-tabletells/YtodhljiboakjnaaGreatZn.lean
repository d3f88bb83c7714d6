/- What a page's read, fine and its function do when called. Conditions: the page lies in memory as said; its body is bytes. -/
import Derived.Test.YtodhljiboakjnaaGreatZc
import Derived.Test.YtodhljiboakjnaaGreatZd
import Derived.Test.YtodhljiboakjnaaGreatZe
import Derived.Test.YtodhljiboakjnaaGreatZj
import Derived.Deep.RegionHeldLaw
import Derived.Laws.EntriesVeiled
import Derived.Test.YtodhljiboakjnaaGreatZm
namespace Go.Proofs.YtodhljiboakjnaaGreat.Clep
open Go.RowKit
set_option linter.unusedVariables false

/-- A page's cells. -/
def pgV (bd : Value) (d m : Int) (it : Value) : Array Value := #[bd, .int .u32 d, .int .i32 m, .int .u32 0, it]
set_option maxHeartbeats 1000000 in
theorem read1_any (q R : Nat) (ao : Option Addr) (len cap : Nat) (zs : List Int) (v0 : Value) (w : World)
    (hq : w.cell? ⟨q, 0, none⟩ = some (.pointer (some ⟨R, 0, none⟩))) (hr : w.cell? ⟨R, 0, none⟩ = some (.slice ao len cap)) (h4 : w.cell? ⟨R, 4, none⟩ = some v0) (f4 : w.frozen? ⟨R, 4, none⟩ = false)
    (hc : cap ≤ 9223372036854775807) (h : Bs w ao len cap zs) :
    Calls Tryz.prog 104 #[.pointer (some ⟨q, 0, none⟩)] w fun e w' => e = .returned (.tuple #[]) ∧ ∃ w4 v', Below w.heap.size w w4 ∧ OwnI w4 w.heap.size v' (rd zs).1 ∧ w' = w4.setCell ⟨R, 4, none⟩ v' := by
  have hqs := World.block_lt_of_cell? w _ hq
  have hrs := World.block_lt_of_cell? w _ hr
  simp only at hqs hrs
  have hrd : Hid (∀ W, Below w.heap.size w W → Calls Tryz.prog 93 #[.slice ao len cap] W fun e w' => ∃ v, e = .returned (.tuple #[v, .int .i64 (rd zs).2]) ∧ OwnI w' w.heap.size v (rd zs).1 ∧ Below w.heap.size w w' ∧ ∃ a n c, v = .slice a n c) := hide fun W hW =>
    (read_any ao len cap zs W hc (h.below hW (Nat.le_refl _))).mono fun e w' ⟨v, he, ho, hb⟩ => ⟨v, he, ownI_base ho hW.size, hW.trans (hb.mono hW.size), by
      obtain ⟨_, ⟨rfl, hn⟩ | ⟨g, cap, cur, rfl, _⟩⟩ := ho
      · exact ⟨_, _, _, rfl⟩
      · exact ⟨_, _, _, rfl⟩⟩
  have HC : Hid (∀ W, Below w.heap.size w W → W.cell? ⟨R, 4, none⟩ = some v0 ∧ W.frozen? ⟨R, 4, none⟩ = false) := hide fun W hW => ⟨(hW.cell (p := ⟨R, 4, none⟩) hrs).trans h4, (hW.frozen (p := ⟨R, 4, none⟩) hrs).trans f4⟩
  have HK : Hid (∀ W, Below w.heap.size w W → (W.cell? ⟨q, 0, none⟩ = some (.pointer (some ⟨R, 0, none⟩)) ∧ W.cell? ⟨R, 0, none⟩ = some (.slice ao len cap) ∧ W.frozen? ⟨R, 4, none⟩ = false)) := hide fun W hW =>
    ⟨(hW.cell (p := ⟨q, 0, none⟩) hqs).trans hq, (hW.cell (p := ⟨R, 0, none⟩) hrs).trans hr, (hW.frozen (p := ⟨R, 4, none⟩) hrs).trans f4⟩
  have HS : Hid (q ≠ R → ∀ W u, Below w.heap.size w W → ((W.setCell ⟨R, 4, none⟩ u).cell? ⟨q, 0, none⟩ = some (.pointer (some ⟨R, 0, none⟩)) ∧ (W.setCell ⟨R, 4, none⟩ u).cell? ⟨R, 0, none⟩ = some (.slice ao len cap) ∧ (W.setCell ⟨R, 4, none⟩ u).frozen? ⟨R, 4, none⟩ = false)) := hide fun _ W u hW => by
    obtain ⟨a, b, c⟩ := HK.out W hW
    exact ⟨by rw [World.cell?_setCell_other (h := by simp)]; exact a, by rw [World.cell?_setCell_other (h := by simp)]; exact b, by simpa using c⟩
  have HS := hide (HS.out (by rintro rfl; rw [hq] at hr; cases hr))
  generalize (rd zs).2 = ee at *
  clear hq hr h4 f4 h
  have hb0 : Below w.heap.size w w.drew := (Below.refl _ _).drew
  have hb00 : Below w.heap.size w w := Below.refl _ _
  go_enter Tryz.func104, Tryz.ntmps104
  go_wp2_with fail
  go_region_held_law (fun W => W.cell? ⟨q, 0, none⟩ = some (.pointer (some ⟨R, 0, none⟩)) ∧ W.cell? ⟨R, 0, none⟩ = some (.slice ao len cap) ∧ W.frozen? ⟨R, 4, none⟩ = false)
    (first
    | exact HK.out _ (by with_reducible assumption)
    | exact HK.out _ (Below.drew (by with_reducible assumption))
    | exact HS.out _ _ (by with_reducible assumption)
    | exact HS.out _ _ (Below.drew (by with_reducible assumption)))
    (first
    | (go_at_call 93; refine (hrd.out _ (by with_reducible assumption)).mono ?_; rintro e w4 ⟨v, rfl, ho, hb4, a9, n9, c9, rfl⟩; obtain ⟨k4, z4⟩ := HC.out w4 hb4))
  all_goals
    go_end0
    exact ⟨rfl, w4, _, hb4, ho, rfl⟩

/-- The page in block M, its body bytes that lie elsewhere. -/
structure Pg (w : World) (M : Nat) (ao : Option Addr) (len cap : Nat) (zs : List Int) (d : Int) (it : Value) : Prop where
  blk : Blk w M (pgV (.slice ao len cap) d 0 it) 138
  bs : Bs w ao len cap zs
  cap : cap ≤ 9223372036854775807
  ne : 0 < len → ∀ a, ao = some a → a.block ≠ M
theorem bs_ch {P : Nat → Prop} {w w' : World} {ao : Option Addr} {len cap : Nat} {zs : List Int} (h : Bs w ao len cap zs) (hc : Ch P w w') (hp : 0 < len → ∀ a, ao = some a → ¬ P a.block) : Bs w' ao len cap zs := by
  refine ⟨h.1, h.2.1, h.2.2.1, fun h0 => ?_⟩
  obtain ⟨b, off, ho, hcell⟩ := h.2.2.2 h0
  refine ⟨b, off, ho, fun i hi => ?_⟩
  have hlt := World.block_lt_of_cell? w _ (hcell i hi)
  rw [World.cell?_of_block (a := ⟨b, off + i, none⟩) (hc.block b hlt (hp h0 _ ho))]
  exact hcell i hi
theorem pgV_done (bd v : Value) : (((pgV bd 0 1 (.slice none 0 0)).setIfInBounds 4 v).setIfInBounds 1 (.int .u32 1)).setIfInBounds 2 (.int .i32 0) = pgV bd 1 0 v := rfl
theorem ch_gb {w w' : World} {M : Nat} (h : Ch (fun b => b = M) w w') : w.grownBy w' (some M) := ⟨h.os, h.tape, h.output, h.size, fun i hi hne => h.block i hi (fun e => hne (by rw [e]))⟩
set_option maxRecDepth 100000 in
set_option maxHeartbeats 1000000 in
theorem pread_first (w : World) (M : Nat) (ao : Option Addr) (len cap : Nat) (zs : List Int) (h : Pg w M ao len cap zs 0 (.slice none 0 0)) :
    Calls Tryz.prog 88 #[.pointer (some ⟨M, 0, none⟩)] w fun e w' => ∃ v, e = .returned v ∧ Pg w' M ao len cap zs 1 v ∧ OwnI w' w.heap.size v (rd zs).1 ∧ Ch (fun b => b = M) w w' := by
  have A1 := (Below.refl _ w).alloc (Nat.le_refl _) (Obj.cells #[.pointer (some ⟨M, 0, none⟩)] 154)
  have K1 := hpS w (Obj.cells #[.pointer (some ⟨M, 0, none⟩)] 154) w.heap.size rfl
  obtain ⟨w1, hw1⟩ : ∃ w1, w1 = w.alloc (Obj.cells #[.pointer (some ⟨M, 0, none⟩)] 154) := ⟨_, rfl⟩
  rw [← hw1] at A1 K1
  have hMlt := h.blk.lt
  have hb := h.blk.keep A1
  have hne : w.heap.size ≠ M := by omega
  have B1 := hide A1
  have hpl : w1.cell? ⟨w.heap.size, 0, none⟩ = some (.pointer (some ⟨M, 0, none⟩)) := by simp [World.cell?, K1]
  have c3 : (w1.setCell ⟨M, 2, none⟩ (.int .i32 1)).cell? ⟨w.heap.size, 0, none⟩ = some (.pointer (some ⟨M, 0, none⟩)) :=
    (World.cell?_setCell_other _ ⟨M, 2, none⟩ ⟨w.heap.size, 0, none⟩ _ (by intro e; injection e with e1; exact hne e1.symm)).trans hpl
  have k3 := hb.set 2 (.int .i32 1)
  have hbs1 : Bs (w1.setCell ⟨M, 2, none⟩ (.int .i32 1)) ao len cap zs := bs_ch (h.bs.below A1 (Nat.le_refl _)) (Ch.set (P := fun b => b = M) w1 ⟨M, 2, none⟩ _ rfl) h.ne
  have hsz : (w1.setCell ⟨M, 2, none⟩ (.int .i32 1)).heap.size = w1.heap.size := by simp [World.setCell]
  have hL1 := read1_any w.heap.size M ao len cap zs (.slice none 0 0) _ c3 (k3.cell rfl) (k3.cell rfl) (k3.free 4) h.cap hbs1
  rw [hsz] at hL1
  have hM1 : M < w1.heap.size := hb.lt
  have hF := hide (do_first M 1 ⟨w.heap.size, 0, none⟩ (fun w2 => ∃ v, Blk w2 M ((pgV (.slice ao len cap) 0 1 (.slice none 0 0)).setIfInBounds 4 v) 138 ∧ OwnI w2 w1.heap.size v (rd zs).1 ∧ Ch (fun b => b = M) (w1.setCell ⟨M, 2, none⟩ (.int .i32 1)) w2)
    w1 (hb.cell rfl) (hb.cell rfl) (hb.free 1) (hb.free 2) (hide (hL1.mono fun e w' ⟨he, w4, v', hb4, ho, hw'⟩ => ⟨he, v', by
      rw [hw']; exact (k3.below hb4 (by omega)).set 4 v', by
      rw [hw']; exact ownI_grown ho (gb_set _ _ _) (fun k hk => by cases hk; exact hM1), by
      rw [hw']; exact Ch.trans (Ch.of (by rw [hsz]; exact hb4)) (Ch.set (P := fun b => b = M) w4 ⟨M, 4, none⟩ _ rfl)⟩)) (hide (fun w2 ⟨v, e, _, _⟩ => ⟨e.cell rfl, e.cell rfl, e.free 1, e.free 2⟩)))
  have HPL := hide hpl
  have HP := hide h
  clear hb A1 K1 hpl c3 k3 hL1 hsz h hbs1
  go_enter Tryz.func88, Tryz.ntmps88
  go_wp2_with fail
  rw [← hw1]
  clear hw1
  refine hF.out.mono ?_
  rintro e w3 ⟨rfl, w2, ⟨v, q1, q2, q3⟩, rfl⟩
  clear hF
  have r1 : Blk ((w2.drew.setCell ⟨M, 1, none⟩ (.int .u32 1)).setCell ⟨M, 1 + 1, none⟩ (.int .i32 0)) M (pgV (.slice ao len cap) 1 0 v) 138 := by
    rw [← pgV_done]
    have q0 : Blk w2.drew M _ _ := q1
    exact (q0.set 1 (.int .u32 1)).set 2 (.int .i32 0)
  have g2 : w2.grownBy ((w2.drew.setCell ⟨M, 1, none⟩ (.int .u32 1)).setCell ⟨M, 1 + 1, none⟩ (.int .i32 0)) (some M) := ch_gb (by
    refine Ch.trans ?_ (Ch.set _ ⟨M, 1 + 1, none⟩ (.int .i32 0) rfl)
    refine Ch.trans ?_ (Ch.set _ ⟨M, 1, none⟩ (.int .u32 1) rfl)
    exact Ch.of (Below.refl _ _).drew)
  have r2 := ownI_grown q2 g2 (fun k hk => by cases hk; exact hM1)
  have r3 : Ch (fun b => b = M) w1 ((w2.drew.setCell ⟨M, 1, none⟩ (.int .u32 1)).setCell ⟨M, 1 + 1, none⟩ (.int .i32 0)) := by
    refine Ch.trans ?_ (Ch.set _ ⟨M, 1 + 1, none⟩ (.int .i32 0) rfl)
    refine Ch.trans ?_ (Ch.set _ ⟨M, 1, none⟩ (.int .u32 1) rfl)
    refine Ch.trans ?_ (Ch.of (Below.refl _ _).drew)
    exact (Ch.set (P := fun b => b = M) w1 ⟨M, 2, none⟩ (.int .i32 1) rfl).trans q3
  clear q1 q2 q3 g2
  have c1 : ((w2.drew.setCell ⟨M, 1, none⟩ (.int .u32 1)).setCell ⟨M, 1 + 1, none⟩ (.int .i32 0)).cell? ⟨w.heap.size, 0, none⟩ = some (.pointer (some ⟨M, 0, none⟩)) := by
    rw [World.cell?_of_block (a := ⟨w.heap.size, 0, none⟩) (r3.block w.heap.size (World.block_lt_of_cell? w1 _ HPL.out) hne)]
    exact HPL.out
  generalize (w2.drew.setCell ⟨M, 1, none⟩ (.int .u32 1)).setCell ⟨M, 1 + 1, none⟩ (.int .i32 0) = w4 at *
  have c5 : w4.cell? ⟨M, 4, none⟩ = some v := r1.cell rfl
  have R1 := hide r1
  have R2 := hide r2
  have R3 := hide r3
  clear r1 r2 r3
  go_wp2
  go_ret
  have hch := (Ch.of (P := fun b => b = M) B1.out).trans R3.out
  exact ⟨v, rfl, ⟨R1.out, bs_ch HP.out.bs hch HP.out.ne, HP.out.cap, HP.out.ne⟩, ownI_base R2.out B1.out.size, hch⟩
set_option maxRecDepth 100000 in
theorem pread_again (w : World) (M : Nat) (ao : Option Addr) (len cap : Nat) (zs : List Int) (v : Value) (h : Pg w M ao len cap zs 1 v) :
    Calls Tryz.prog 88 #[.pointer (some ⟨M, 0, none⟩)] w fun e w' => e = .returned v ∧ Below w.heap.size w w' := by
  have A1 := (Below.refl _ w).alloc (Nat.le_refl _) (Obj.cells #[.pointer (some ⟨M, 0, none⟩)] 154)
  have K1 := hpS w (Obj.cells #[.pointer (some ⟨M, 0, none⟩)] 154) w.heap.size rfl
  obtain ⟨w1, hw1⟩ : ∃ w1, w1 = w.alloc (Obj.cells #[.pointer (some ⟨M, 0, none⟩)] 154) := ⟨_, rfl⟩
  rw [← hw1] at A1 K1
  have hb := h.blk.keep A1
  have B1 := hide A1
  have hpl : w1.cell? ⟨w.heap.size, 0, none⟩ = some (.pointer (some ⟨M, 0, none⟩)) := by simp [World.cell?, K1]
  have hDo := hide (do_done ⟨M, 1, none⟩ (.func (.func 104) #[] #[.pointer (some ⟨w.heap.size, 0, none⟩)]) w1 (hb.cell rfl))
  have c5 : w1.cell? ⟨M, 4, none⟩ = some v := hb.cell rfl
  clear h A1 K1 hb
  go_enter Tryz.func88, Tryz.ntmps88
  go_wp2_with fail
  rw [← hw1]
  clear hw1
  refine hDo.out.mono ?_
  rintro e w2 ⟨rfl, rfl⟩
  clear hDo
  go_wp2
  go_ret
  exact ⟨rfl, B1.out⟩
theorem rd_wf (zs : List Int) (h : ∀ z ∈ zs, 0 ≤ z ∧ z < 256) : ∀ x ∈ (rd zs).1, x.wf := by
  have hr : ∀ (c : Nat) (s : List Int × Int) (acc : List It), (∀ z ∈ s.1, 0 ≤ z ∧ z < 256) → (∀ x ∈ acc, x.wf) → ∀ x ∈ (rds c s acc).1, x.wf := by
    intro c
    induction c with
    | zero => intro s acc _ ha x hx; exact ha x hx
    | succ c ih =>
      intro s acc hs ha x hx
      unfold rds at hx
      split at hx
      · simp at hx
      · refine ih _ _ ?_ ?_ x hx
        · unfold item1
          exact num1_rng _ (num1_rng _ (num1_rng _ (one1_rng _ (one1_rng s hs).1).1))
        · intro y hy
          rcases List.mem_append.1 hy with e | e
          · exact ha y e
          · rw [List.mem_singleton.1 e]; exact item1_wf s hs
  intro x hx
  unfold rd at hx
  split at hx
  · simp at hx
  · split at hx
    · simp at hx
    · simp only at hx
      split at hx
      · simp at hx
      · split at hx
        · exact hr _ _ _ (num1_rng _ h) (by simp) x hx
        · simp at hx
set_option maxRecDepth 100000 in
theorem fine_any (w : World) (M : Nat) (ao : Option Addr) (len cap : Nat) (zs : List Int) (h : Pg w M ao len cap zs 0 (.slice none 0 0)) :
    Calls Tryz.prog 87 #[.pointer (some ⟨M, 0, none⟩)] w fun e w' => e = .returned (.bool (fit (rd zs).1)) ∧ ∃ v, Pg w' M ao len cap zs 1 v ∧ OwnI w' w.heap.size v (rd zs).1 ∧ Ch (fun b => b = M) w w' := by
  have hF := hide (pread_first w M ao len cap zs h)
  have hw := hide (rd_wf zs (bs_range h.bs))
  clear h
  go_enter Tryz.func87, Tryz.ntmps87
  go_wp2_with fail
  refine hF.out.mono ?_
  rintro e w1 ⟨v, rfl, hp, ho, hc⟩
  obtain ⟨a, c, rfl, hcc, hI, -⟩ := ownI_is ho hw.out
  have hN : (rd zs).1.length ≤ 9223372036854775807 := Nat.le_trans hI.2.1.1 hcc
  have hft := hide (fits_any a _ c (rd zs).1 w1 hI hN)
  have HP := hide hp
  have HO := hide ho
  have HC := hide hc
  clear hF hp ho hc hI
  generalize hLn : (rd zs).1.length = L at *
  generalize hft' : fit (rd zs).1 = F at *
  go_wp2_with (first | (go_at_call 82; refine hft.out.mono ?_; rintro e w2 ⟨rfl, hb2⟩))
  go_ret
  refine ⟨by rw [hft']; rfl, _, ⟨HP.out.blk.keep hb2, HP.out.bs.below hb2 (Nat.le_refl _), HP.out.cap, HP.out.ne⟩, ownI_keep HO.out hb2, HC.out.trans (Ch.of hb2)⟩

end Go.Proofs.YtodhljiboakjnaaGreat.Clep

/- What block.Take does when called: for any bytes and any place. Conditions: at most 2^46 bytes. -/
namespace Go.Proofs.YtodhljiboakjnaaGreat.Clep
open Go.RowKit
set_option linter.unusedVariables false

/-- The items of the block that X begins with. -/
def bx (X : List Int) : List It := (rd (bo X)).1
/-- Does X begin with a block? -/
def isB (X : List Int) : Bool := decide (ce X = 0 ∧ kd X = 2 ∧ fit (bx X) = true)
theorem isB_iff {X : List Int} : isB X = true ↔ ce X = 0 ∧ kd X = 2 ∧ fit (bx X) = true := by unfold isB; simp
theorem btake_arg (ao : Option Addr) (len cap : Nat) (p : Int) (w : World) (hm : len ≤ 70368744177664) (hp : p < 0 ∨ (len : Int) < p) :
    Calls Tryz.prog 64 #[.slice ao len cap, .int .i64 p] w fun e w' => e = .returned (.tuple #[.slice none 0 0, .int .i64 0, .int .i64 1]) ∧ w' = w := by
  by_cases h0 : p < 0
  · go_enter Tryz.func64, Tryz.ntmps64
    go_wp2
    go_ret3
    exact ⟨rfl, rfl⟩
  · have h1 : (len : Int) < p := by omega
    go_enter Tryz.func64, Tryz.ntmps64
    go_wp2
    go_ret3
    exact ⟨rfl, rfl⟩
theorem bo_range {w : World} {ao : Option Addr} {len cap : Nat} {zs : List Int} (h : Bs w ao len cap zs) (P : Nat) : ∀ z ∈ bo (zs.drop P), 0 ≤ z ∧ z < 256 := fun z hz =>
  bs_range h z (List.mem_of_mem_drop (List.mem_of_mem_take (List.mem_of_mem_drop (List.mem_of_mem_take hz))))
set_option maxRecDepth 100000 in
set_option maxHeartbeats 1000000 in
theorem btake_any (ao : Option Addr) (len cap : Nat) (zs : List Int) (P : Nat) (w : World) (hm : len ≤ 70368744177664) (h : Bs w ao len cap zs) (hP : P ≤ len) (X : List Int) (hX : X = zs.drop P) :
    Calls Tryz.prog 64 #[.slice ao len cap, .int .i64 P] w fun e w' => Below w.heap.size w w' ∧ ((isB X = false ∧ e = .returned (.tuple #[.slice none 0 0, .int .i64 0, .int .i64 9])) ∨
      (isB X = true ∧ ∃ v, e = .returned (.tuple #[v, .int .i64 (P + 12 + ln X), .int .i64 0]) ∧ OwnI w' w.heap.size v (bx X))) := by
  by_cases hce : ce X = 0
  · have hT := hide (ftake_good ao len cap zs P w hm h hP X hX hce)
    have hrng := hide (show ∀ z ∈ bo X, 0 ≤ z ∧ z < 256 by rw [hX]; exact bo_range h P)
    have hle : (P : Int) ≤ len := by omega
    by_cases hk : kd X = 2
    · rw [hk] at hT
      have HE := hide (show isB X = fit (bx X) by unfold isB; rw [Bool.eq_iff_iff]; simp [hce, hk])
      clear h hX hce hk
      go_enter Tryz.func64, Tryz.ntmps64
      go_wp2_with fail
      refine hT.out.mono ?_
      rintro e w1 ⟨v, rfl, ho, hb1⟩
      obtain ⟨a1, c1, rfl, hc1, hbs, hwh⟩ := own_bs ho (range_of hrng.out)
      unfold maxLen at hc1
      generalize hnx : (P : Int) + 12 + ln X = nx at *
      have A1 := (Below.refl _ w1).alloc (Nat.le_refl _) (Obj.cells (pgV (.slice a1 (bo X).length c1) 0 0 (.slice none 0 0)) 138)
      have K1 := hpS w1 (Obj.cells (pgV (.slice a1 (bo X).length c1) 0 0 (.slice none 0 0)) 138) w1.heap.size rfl
      have hpg := hide (show Pg (w1.alloc (Obj.cells (pgV (.slice a1 (bo X).length c1) 0 0 (.slice none 0 0)) 138)) w1.heap.size a1 (bo X).length c1 (bo X) 0 (.slice none 0 0) from
        ⟨K1, hbs.below A1 (Nat.le_refl _), by omega, fun h0 a ha => by
          obtain ⟨b, off, e, hcell⟩ := hbs.2.2.2 h0
          rw [e] at ha; cases ha
          have := World.block_lt_of_cell? w1 _ (hcell 0 h0)
          simp only at this ⊢; omega⟩)
      have HB1 := hide hb1
      have HA1 := hide A1
      unfold pgV at hpg HA1
      clear hT ho hbs hwh K1 A1 hb1
      generalize hL : (bo X).length = L at *
      go_wp2_with fail
      generalize hw2 : w1.alloc (Obj.cells #[Value.slice a1 L c1, Value.int IntKind.u32 0, Value.int IntKind.i32 0, Value.int IntKind.u32 0, Value.slice none 0 0] 138) = w2 at *
      have hfn := hide (fine_any w2 w1.heap.size a1 L c1 (bo X) hpg.out)
      clear hpg hw2
      refine hfn.out.mono ?_
      rintro e w3 ⟨rfl, v, hp, ho, hch⟩
      clear hfn
      have hb3 : Hid (Below w.heap.size w w3) := hide (by
        refine Below.ch (bmore HB1.out HA1.out) hch (Nat.le_trans HB1.out.size HA1.out.size) ?_
        intro i hi; rw [hi]; exact HB1.out.size)
      have HO := hide (ownI_base ho (Nat.le_trans HB1.out.size HA1.out.size))
      have hrd := hide (pread_again w3 w1.heap.size a1 L c1 (bo X) v hp)
      clear hp ho hch
      obtain ⟨F, hF⟩ : ∃ F, fit (rd (bo X)).1 = F := ⟨_, rfl⟩
      rw [hF]
      have HF := hide hF
      clear hF
      cases F with
      | false =>
        go_wp2
        go_ret3
        exact ⟨hb3.out, .inl ⟨HE.out.trans HF.out, rfl⟩⟩
      | true =>
        go_wp2_with (first | (go_at_call 88; refine hrd.out.mono ?_; rintro e w4 ⟨rfl, hb4⟩))
        go_ret3
        exact ⟨bmore hb3.out hb4, .inr ⟨HE.out.trans HF.out, _, (by rw [hnx]; rfl), ownI_keep HO.out hb4⟩⟩
    · have HE := hide (show isB X = false by unfold isB; simp [hk])
      generalize kd X = K at *
      clear h hX hce
      go_enter Tryz.func64, Tryz.ntmps64
      go_wp2_with fail
      refine hT.out.mono ?_
      rintro e w1 ⟨v, rfl, ho, hb1⟩
      clear hT ho
      generalize hnx : (P : Int) + 12 + ln X = nx at *
      go_wp2
      go_ret3
      exact ⟨hb1, .inl ⟨HE.out, rfl⟩⟩
  · have hT := ftake_bad ao len cap zs P w hm h hP (by rw [← hX]; exact hce)
    rw [← hX] at hT
    have HT := hide hT
    have HE := hide (show isB X = false by unfold isB; simp [hce])
    have hle : (P : Int) ≤ len := by omega
    generalize ce X = K at *
    clear h hX hT
    go_enter Tryz.func64, Tryz.ntmps64
    go_wp2_with fail
    refine HT.out.mono ?_
    rintro e w1 ⟨rfl, hb1⟩
    clear HT
    go_wp2
    go_ret3
    exact ⟨hb1, .inl ⟨HE.out, rfl⟩⟩

end Go.Proofs.YtodhljiboakjnaaGreat.Clep
