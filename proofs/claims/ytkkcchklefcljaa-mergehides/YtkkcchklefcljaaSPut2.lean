/- What state's row does when an item is put. Conditions: at most 2^40 items. -/
import Derived.Test.YtkkcchklefcljaaSPut
import Derived.Deep.RegionLaw
namespace Go.Proofs.Ytkkcchklefcljaa.Clep
open Go.RowKit
set_option linter.unusedVariables false
set_option maxRecDepth 10000

/-- What a put needs: the two captured variables lead to what pick was handed. -/
structure Pc (w0 w : World) (R P0 P1 : Nat) (fv : Value) (ao : Option Addr) (len cap : Nat) (ls : List (List It)) (p : It → Bool) : Prop where
  c0 : w.cell? ⟨P0, 0, none⟩ = some fv
  c1 : w.cell? ⟨P1, 0, none⟩ = some (.slice ao len cap)
  l0 : P0 < R
  l1 : P1 < R
  lw : w0.heap.size ≤ R
  f : Wn w0 fv p
  l : Lss w0 ao len ls
  t : ls.flatten.length ≤ 1099511627776
  n : len ≤ 1000
  b : Below w0.heap.size w0 w
theorem Pc.grown {w0 w w' : World} {R P0 P1 : Nat} {fv : Value} {ao : Option Addr} {len cap : Nat} {ls : List (List It)} {p : It → Bool} (h : Pc w0 w R P0 P1 fv ao len cap ls p) (hb : Below R w w') : Pc w0 w' R P0 P1 fv ao len cap ls p :=
  ⟨(hb.cell (p := ⟨P0, 0, none⟩) h.l0).trans h.c0, (hb.cell (p := ⟨P1, 0, none⟩) h.l1).trans h.c1, h.l0, h.l1, h.lw, h.f, h.l, h.t, h.n, h.b.trans (hb.mono h.lw)⟩
theorem gb_refl (w : World) (row : Option Nat) : w.grownBy w row := gb_below (Below.refl _ _) row
theorem gb_belowR {w w' : World} {R : Nat} (h : w.grownBy w' (some R)) (hR : R ≤ w.heap.size) : Below R w w' := ⟨h.os, h.tape, h.output, h.size, fun k hk => h.block k (by omega) (by simp; omega)⟩

theorem rw_made {W : World} {R P0 P1 : Nat} {v' u0 u1 u2 : Value}
    (h0 : W.cell? ⟨R, 0, none⟩ = some (.func (.func 52) #[] #[.pointer (some ⟨P0, 0, none⟩), .pointer (some ⟨P1, 0, none⟩)])) (h1 : W.cell? ⟨R, 1, none⟩ = some u0) (h2 : W.cell? ⟨R, 2, none⟩ = some u1) (h4 : W.cell? ⟨R, 4, none⟩ = some u2)
    (f1 : W.frozen? ⟨R, 1, none⟩ = false) (f2 : W.frozen? ⟨R, 2, none⟩ = false) (f4 : W.frozen? ⟨R, 4, none⟩ = false) :
    Rw (((W.setCell ⟨R, 4, none⟩ v').drew.setCell ⟨R, 1, none⟩ (.int .u32 1)).setCell ⟨R, 2, none⟩ (.int .i32 0)) R P0 P1 1 v' := by
  refine ⟨?_, ?_, ?_, ?_, by simpa using f1, by simpa using f2, by simpa using f4⟩
  · rw [World.cell?_setCell_other (h := by simp), World.cell?_setCell_other (h := by simp), World.cell?_drew, World.cell?_setCell_other (h := by simp)]; exact h0
  · rw [World.cell?_setCell_other (h := by simp)]
    refine World.cell?_setCell_same _ _ _ (?_ : _ = some u0)
    rw [World.cell?_drew, World.cell?_setCell_other (h := by simp)]; exact h1
  · refine World.cell?_setCell_same _ _ _ (?_ : _ = some u1)
    rw [World.cell?_setCell_other (h := by simp), World.cell?_drew, World.cell?_setCell_other (h := by simp)]; exact h2
  · rw [World.cell?_setCell_other (h := by simp), World.cell?_setCell_other (h := by simp), World.cell?_drew]
    exact World.cell?_setCell_same _ _ _ h4
theorem ownI_slice {w : World} {B : Nat} {v : Value} {l : List It} (h : OwnI w B v l) : ∃ a n c, v = .slice a n c := by
  obtain ⟨_, ⟨rfl, _⟩ | ⟨g, cap, cur, rfl, _⟩⟩ := h
  · exact ⟨_, _, _, rfl⟩
  · exact ⟨_, _, _, rfl⟩
theorem gb_drew (w : World) (row : Option Nat) : w.grownBy w.drew row := gb_below ((Below.refl _ _).drew) row

theorem do_any (w0 : World) (q R P0 P1 : Nat) (fv : Value) (ao : Option Addr) (len cap : Nat) (ls : List (List It)) (p : It → Bool) (d : Int) (v : Value) (acc : List It) (w : World)
    (hP : Pc w0 w R P0 P1 fv ao len cap ls p) (hR : Rw w R P0 P1 d v) (hd : d = 1 ∨ (d = 0 ∧ acc = [])) (ho : OwnI w (R + 1) v acc) (hq : w.cell? ⟨q, 0, none⟩ = some (.pointer (some ⟨R, 0, none⟩))) (hqR : q ≠ R) :
    Calls Try.prog 49 #[.pointer (some ⟨R, 1, none⟩), .func (.func 60) #[] #[.pointer (some ⟨q, 0, none⟩)]] w fun e w' => e = .returned (.tuple #[]) ∧ ∃ v', Rw w' R P0 P1 1 v' ∧ OwnI w' (R + 1) v' acc ∧ w.grownBy w' (some R) ∧ ∀ k, v'.ownBlock = some k → v.ownBlock = some k ∨ w.heap.size ≤ k := by
  rcases hd with rfl | ⟨rfl, rfl⟩
  · refine (do_done ⟨R, 1, none⟩ _ w hR.2.1).mono ?_
    rintro e w' ⟨rfl, hw⟩
    rw [hw]
    exact ⟨rfl, v, hR, ho, gb_refl _ _, fun k hk => .inl hk⟩
  · have hRs := hR.lt
    have hb1 : w.grownBy (w.setCell ⟨R, 2, none⟩ (.int .i32 1)) (some R) := gb_set w ⟨R, 2, none⟩ (.int .i32 1)
    have hB1 : Below R w (w.setCell ⟨R, 2, none⟩ (.int .i32 1)) := gb_belowR hb1 (by omega)
    have hP1 := hP.grown hB1
    obtain ⟨h0, h1, h2, h4, f1, f2, f4⟩ := hR
    have c0 := (World.cell?_setCell_other w ⟨R, 2, none⟩ ⟨R, 0, none⟩ (.int .i32 1) (by simp)).trans h0
    have c1 := (World.cell?_setCell_other w ⟨R, 2, none⟩ ⟨R, 1, none⟩ (.int .i32 1) (by simp)).trans h1
    have c2 := World.cell?_setCell_same w ⟨R, 2, none⟩ (.int .i32 1) h2
    have c4 := (World.cell?_setCell_other w ⟨R, 2, none⟩ ⟨R, 4, none⟩ (.int .i32 1) (by simp)).trans h4
    have cq := (World.cell?_setCell_other w ⟨R, 2, none⟩ ⟨q, 0, none⟩ (.int .i32 1) (fun e => hqR (by simpa using (congrArg Addr.block e).symm))).trans hq
    have g1 : (w.setCell ⟨R, 2, none⟩ (.int .i32 1)).frozen? ⟨R, 1, none⟩ = false := by simpa using f1
    have g2 : (w.setCell ⟨R, 2, none⟩ (.int .i32 1)).frozen? ⟨R, 2, none⟩ = false := by simpa using f2
    have g4 : (w.setCell ⟨R, 2, none⟩ (.int .i32 1)).frozen? ⟨R, 4, none⟩ = false := by simpa using f4
    have hsz : (w.setCell ⟨R, 2, none⟩ (.int .i32 1)).heap.size = w.heap.size := by simp [World.setCell]
    have hput := put1_any q R P0 P1 fv ao len cap ls p v _ cq c0 c4 g4 hP1.c0 hP1.c1 (hP1.f.below hP1.b) (hP1.l.below hP1.b) hP.t hP.n
    have hfin : ∀ w2, (∃ w4 v', Below (w.setCell ⟨R, 2, none⟩ (.int .i32 1)).heap.size (w.setCell ⟨R, 2, none⟩ (.int .i32 1)) w4 ∧ OwnI w4 (w.setCell ⟨R, 2, none⟩ (.int .i32 1)).heap.size v' [] ∧ w2 = w4.setCell ⟨R, 4, none⟩ v') →
        w2.cell? ⟨R, 1, none⟩ = some (.int .u32 0) ∧ w2.cell? ⟨R, 1 + 1, none⟩ = some (.int .i32 1) ∧ w2.frozen? ⟨R, 1, none⟩ = false ∧ w2.frozen? ⟨R, 1 + 1, none⟩ = false := by
      rintro w2 ⟨w4, v', b4, o4, rfl⟩
      refine ⟨?_, ?_, ?_, ?_⟩
      · rw [World.cell?_setCell_other (h := by simp)]; exact (b4.cell (p := ⟨R, 1, none⟩) (by rw [hsz]; exact hRs)).trans c1
      · rw [World.cell?_setCell_other (h := by simp)]; exact (b4.cell (p := ⟨R, 2, none⟩) (by rw [hsz]; exact hRs)).trans c2
      · simpa using (b4.frozen (p := ⟨R, 1, none⟩) (by rw [hsz]; exact hRs)).trans g1
      · simpa using (b4.frozen (p := ⟨R, 2, none⟩) (by rw [hsz]; exact hRs)).trans g2
    refine (do_first R 1 ⟨q, 0, none⟩ _ w h1 h2 f1 f2 (hide hput) (hide hfin)).mono ?_
    rintro e w' ⟨rfl, w2, ⟨w4, v', b4, o4, rfl⟩, rfl⟩
    refine ⟨rfl, v', ?_, ?_, ?_, fun k hk => .inr (by have := (World.ownsRow.lt o4 k hk).1; rw [hsz] at this; exact this)⟩
    · exact rw_made ((b4.cell (p := ⟨R, 0, none⟩) (by rw [hsz]; exact hRs)).trans c0) ((b4.cell (p := ⟨R, 1, none⟩) (by rw [hsz]; exact hRs)).trans c1) ((b4.cell (p := ⟨R, 2, none⟩) (by rw [hsz]; exact hRs)).trans c2) ((b4.cell (p := ⟨R, 4, none⟩) (by rw [hsz]; exact hRs)).trans c4)
        ((b4.frozen (p := ⟨R, 1, none⟩) (by rw [hsz]; exact hRs)).trans g1) ((b4.frozen (p := ⟨R, 2, none⟩) (by rw [hsz]; exact hRs)).trans g2) ((b4.frozen (p := ⟨R, 4, none⟩) (by rw [hsz]; exact hRs)).trans g4)
    · have o5 : OwnI w4 (R + 1) v' [] := ownI_base o4 (by rw [hsz]; omega)
      have o6 := ownI_grown (ownI_grown (ownI_grown (ownI_grown o5 (gb_set w4 ⟨R, 4, none⟩ v') (by simp)) (gb_drew _ none) (by simp)) (gb_set _ ⟨R, 1, none⟩ (.int .u32 1)) (by simp)) (gb_set _ ⟨R, 2, none⟩ (.int .i32 0)) (by simp)
      exact o6
    · exact ((((hb1.trans (gb_below b4 _)).trans (gb_set w4 ⟨R, 4, none⟩ v')).trans (gb_drew _ _)).trans (gb_set _ ⟨R, 1, none⟩ (.int .u32 1))).trans (gb_set _ ⟨R, 2, none⟩ (.int .i32 0))

set_option maxHeartbeats 2000000 in
theorem put_any (w0 : World) (R P0 P1 : Nat) (fv : Value) (ao : Option Addr) (len cap : Nat) (ls : List (List It)) (p : It → Bool) (d : Int) (v : Value) (acc : List It) (S K T V X : Int) (w : World)
    (hP : Pc w0 w R P0 P1 fv ao len cap ls p) (hR : Rw w R P0 P1 d v) (hd : d = 1 ∨ (d = 0 ∧ acc = [])) (ho : OwnI w (R + 1) v acc) (hx : It.wf ⟨S, K, T, V, X⟩) (hacc : acc.length + 1 ≤ 1099511627776) :
    Calls Try.prog 54 #[.pointer (some ⟨R, 0, none⟩), .agg #[.int .i64 S, .int .i64 K, .int .u64 T, .int .u64 V, .int .i64 X]] w fun e w' => e = .returned (.tuple #[]) ∧ ∃ v', Rw w' R P0 P1 1 v' ∧ OwnI w' (R + 1) v' (acc ++ [⟨S, K, T, V, X⟩]) ∧ Below R w w' := by
  have hRs := hR.lt
  have hvb : Hid (∀ k, v.ownBlock = some k → k < w.heap.size) := hide fun k hk => (World.ownsRow.lt ho k hk).2
  have hs0 : (w.alloc (Obj.cells #[Value.pointer (some ⟨R, 0, none⟩)] 83)).heap.size = w.heap.size + 1 := by simp
  have D0 : Below w.heap.size w ((w.alloc (Obj.cells #[Value.pointer (some ⟨R, 0, none⟩)] 83)).alloc (Obj.cells #[Value.int IntKind.i64 S, Value.int IntKind.i64 K, Value.int IntKind.u64 T, Value.int IntKind.u64 V, Value.int IntKind.i64 X] 36)) := ((Below.refl _ _).alloc (Nat.le_refl _) _).alloc (by simp) _
  have V0 := vi_new (w.alloc (Obj.cells #[Value.pointer (some ⟨R, 0, none⟩)] 83)) S K T V X
  rw [hs0] at V0
  have q0 : ((w.alloc (Obj.cells #[Value.pointer (some ⟨R, 0, none⟩)] 83)).alloc (Obj.cells #[Value.int IntKind.i64 S, Value.int IntKind.i64 K, Value.int IntKind.u64 T, Value.int IntKind.u64 V, Value.int IntKind.i64 X] 36)).cell? ⟨w.heap.size, 0, none⟩ = some (.pointer (some ⟨R, 0, none⟩)) := by
    rw [World.cell?_alloc_past _ _ _ (by simp)]; simp
  have hdo := hide (do_any w0 w.heap.size R P0 P1 fv ao len cap ls p d v acc _ (hP.grown (D0.mono (by omega))) (hR.keep D0) hd (ownI_keep ho D0) q0 (by omega))
  have HV := hide V0
  have HQ := hide q0
  have HD := hide D0
  clear hP hR ho V0 q0 D0 hs0 hd
  go_enter Try.func54, Try.ntmps54
  go_wp2_with (go_at_call 49; refine hdo.out.mono ?_; rintro e w1 ⟨rfl, v1, r1, o1, g1, k1⟩)
  have V1 := HV.out.grown g1 (by simp; omega)
  have Q1 := gb_cell g1 _ HQ.out (by simp; omega)
  have hq1 : w.heap.size < w1.heap.size := World.block_lt_of_cell? w1 _ Q1
  have hv1 : w.heap.size + 1 < w1.heap.size := V1.lt
  have hB1 := hide (HD.out.mono (Nat.le_of_lt hRs) |>.trans (gb_belowR g1 (by have := HD.out.size; omega)))
  have hsz : ((w.alloc (Obj.cells #[Value.pointer (some ⟨R, 0, none⟩)] 83)).alloc (Obj.cells #[Value.int IntKind.i64 S, Value.int IntKind.i64 K, Value.int IntKind.u64 T, Value.int IntKind.u64 V, Value.int IntKind.i64 X] 36)).heap.size = w.heap.size + 2 := by simp
  rw [hsz] at k1
  have hown : Hid (∀ k, v1.ownBlock = some k → R + 1 ≤ k ∧ k ≠ w.heap.size ∧ k ≠ w.heap.size + 1) := hide fun k hk => by
    have h1 := (World.ownsRow.lt o1 k hk).1
    rcases k1 k hk with h2 | h2
    · have := hvb.out k h2; omega
    · omega
  have H4 := r1.2.2.2
  have HK : Hid (∀ W, w1.grownBy W v1.ownBlock → (W.cell? ⟨w.heap.size, 0, none⟩ = some (.pointer (some ⟨R, 0, none⟩)) ∧ W.cell? ⟨w.heap.size + 1, 0, none⟩ = some (.int .i64 S) ∧ W.cell? ⟨w.heap.size + 1, 1, none⟩ = some (.int .i64 K) ∧ W.cell? ⟨w.heap.size + 1, 2, none⟩ = some (.int .u64 T) ∧ W.cell? ⟨w.heap.size + 1, 3, none⟩ = some (.int .u64 V) ∧ W.cell? ⟨w.heap.size + 1, 4, none⟩ = some (.int .i64 X) ∧ W.frozen? ⟨R, 4, none⟩ = false)) := hide fun W hW => by
    have n0 : some w.heap.size ≠ v1.ownBlock := fun e => (hown.out _ e.symm).2.1 rfl
    have n1 : some (w.heap.size + 1) ≠ v1.ownBlock := fun e => (hown.out _ e.symm).2.2 rfl
    have n2 : some R ≠ v1.ownBlock := fun e => by have := (hown.out _ e.symm).1; omega
    have VW := V1.grown hW n1
    have RW := r1.grown hW n2
    exact ⟨gb_cell hW _ Q1 n0, VW.1, VW.2.1, VW.2.2.1, VW.2.2.2.1, VW.2.2.2.2, RW.2.2.2.2.2.2⟩
  have HE : Hid (∀ W, w1.grownBy W v1.ownBlock → W.cell? ⟨R, 4, none⟩ = some v1) := hide fun W hW => (r1.grown hW (fun e => by have := (hown.out _ e.symm).1; omega)).2.2.2.1
  have HO := hide o1
  have HR := hide r1
  have hb0 : w1.grownBy w1.drew v1.ownBlock := gb_drew _ _
  have hbr : w1.grownBy w1 v1.ownBlock := gb_refl _ _
  have hgA : Hid (∀ W o, w1.grownBy W v1.ownBlock → w1.grownBy (W.alloc o) v1.ownBlock) := hide fun W o h => h.trans (gb_below ((Below.refl _ _).alloc (Nat.le_refl _) o) _)
  have hgD : Hid (∀ W, w1.grownBy W v1.ownBlock → w1.grownBy W.drew v1.ownBlock) := hide fun W h => h.trans (gb_drew _ _)
  have hOA : Hid (∀ o, OwnI (w1.drew.alloc o) (R + 1) v1 acc) := hide fun o => ownI_keep o1 (((Below.refl _ _).drew).alloc (Nat.le_refl _) o)
  have hbs : Hid (∀ o, R + 1 ≤ (w1.drew.alloc o).heap.size) := hide fun o => by have := r1.lt; simp; omega
  have hw := hide hx
  have e0 := HE.out _ hb0
  have e1 := HE.out _ hbr
  clear r1 o1 g1 k1 V1 Q1 H4 hdo HV HQ HD
  obtain ⟨p0, p1, p2, p3, p4, p5, p6⟩ := HK.out _ hb0
  have a0 : ∀ o, (w1.drew.alloc o).cell? ⟨w.heap.size, 0, none⟩ = some (.pointer (some ⟨R, 0, none⟩)) := fun o => (HK.out _ (hgA.out _ o hb0)).1
  have a1 : ∀ o, (w1.drew.alloc o).cell? ⟨R, 4, none⟩ = some v1 := fun o => HE.out _ (hgA.out _ o hb0)
  have a2 : ∀ o, (w1.alloc o).cell? ⟨w.heap.size, 0, none⟩ = some (.pointer (some ⟨R, 0, none⟩)) := fun o => (HK.out _ (hgA.out _ o hbr)).1
  have a3 : ∀ o, (w1.alloc o).cell? ⟨R, 4, none⟩ = some v1 := fun o => HE.out _ (hgA.out _ o hbr)
  clear hbr
  go_region_law (first
    | (refine step_append_items rfl _ _ rfl (R + 1) v1 acc rfl (hOA.out _) _ 1 1 _ rfl (is_block hw.out (hpS _ _ _ (by first | rfl | simp))) (Nat.le_trans hacc (by decide)) (hbs.out _) ?_; intro v4 w4 o4 g4 k4; obtain ⟨a4, n4, c4, rfl⟩ := ownI_slice o4; have hb4 : w1.grownBy w4 v1.ownBlock := (hgA.out _ _ hb0).trans g4; have HO4 := hide o4; have HK4 := hide k4; have z4 := (HK.out w4 hb4).2.2.2.2.2.2; have y4 := HE.out w4 hb4; have x4 := (HK.out w4 hb4).1))
  all_goals
    go_end0
    refine ⟨rfl, _, ((HR.out.grown hb4 (fun e => by have := (hown.out _ e.symm).1; omega)).set4 _), ownI_grown HO4.out (gb_set w4 ⟨R, 4, none⟩ _) (by simp), ?_⟩
    refine (hB1.out.trans ⟨hb4.os, hb4.tape, hb4.output, hb4.size, fun k hk => hb4.block k (by omega) (fun e => by have := (hown.out _ e.symm).1; omega)⟩).trans (gb_belowR (gb_set w4 ⟨R, 4, none⟩ _) (by have := hb4.size; omega))

end Go.Proofs.Ytkkcchklefcljaa.Clep
