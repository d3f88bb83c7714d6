/- What Iter.Next does when called: the next item, or none. Conditions: the Iter lies in memory as said. -/
import Derived.Test.YtkkcchklefcljaaVIterW
import Derived.Test.YtkkcchklefcljaaVDel
namespace Go.Proofs.Ytkkcchklefcljaa.Clep
open Go.RowKit
set_option linter.unusedVariables false

theorem next_results {w : World} {R : Nat} {S K T V X : Int} {b : Bool} (h : Vx w R S K T V X) (ts : Array Value) (h2 : ts.getD 2 undef = .pointer (some ⟨R, 0, none⟩)) (h3 : ts.getD 3 undef = .bool b) :
    (results Try.f20 ts).run Try.prog w = .ok (.tuple #[.agg #[.int .i64 S, .int .i64 K, .int .u64 T, .int .u64 V, .int .i64 X], .bool b]) w := by
  obtain ⟨⟨h0, h1, h4, h5, h6⟩, -⟩ := h
  simp only [Nat.zero_add] at h1 h4 h5 h6
  rw [Array.getD_eq_getD_getElem?] at h2 h3
  simp [results, Try.results20, go_sem, h0, h1, h2, h3, h4, h5, h6]
theorem vx_ch {P : Nat → Prop} {w w' : World} {R : Nat} {S K T V X : Int} (h : Vx w R S K T V X) (hc : Ch P w w') (hp : ¬ P R) : Vx w' R S K T V X := by
  have hb := hc.block R h.lt hp
  obtain ⟨⟨h0, h1, h2, h3, h4⟩, f0, f1, f2, f3, f4⟩ := h
  exact ⟨⟨(World.cell?_of_block (a := ⟨R, _, none⟩) hb).trans h0, (World.cell?_of_block (a := ⟨R, _, none⟩) hb).trans h1, (World.cell?_of_block (a := ⟨R, _, none⟩) hb).trans h2, (World.cell?_of_block (a := ⟨R, _, none⟩) hb).trans h3, (World.cell?_of_block (a := ⟨R, _, none⟩) hb).trans h4⟩,
    (World.frozen?_of_block (a := ⟨R, _, none⟩) (w := w) hb).trans f0, (World.frozen?_of_block (a := ⟨R, _, none⟩) (w := w) hb).trans f1, (World.frozen?_of_block (a := ⟨R, _, none⟩) (w := w) hb).trans f2, (World.frozen?_of_block (a := ⟨R, _, none⟩) (w := w) hb).trans f3, (World.frozen?_of_block (a := ⟨R, _, none⟩) (w := w) hb).trans f4⟩
theorem ItO.ch {P : Nat → Prop} {w w' : World} {M : Nat} {a : Option Addr} {n c : Nat} {ls : List (List It)} {L : List It} {nx : Nat} (h : ItO w M a n c ls L nx) (hc : Ch P w w') (hM : ¬ P M) (hp : 0 < n → ∀ x, a = some x → ¬ P x.block) : ItO w' M a n c ls L nx :=
  ⟨h.blk.ch hc hM, ⟨h.rs.mrg, is_ch h.rs.is hc hp, h.rs.cap⟩, h.ne, h.le⟩
theorem ItO.set {w : World} {M : Nat} {a : Option Addr} {n c : Nat} {ls : List (List It)} {L : List It} {nx : Nat} (h : ItO w M a n c ls L nx) (k : Nat) (hk : k ≤ L.length) : ItO (w.setCell ⟨M, 5, none⟩ (.int .i64 (k : Int))) M a n c ls L k :=
  ⟨h.blk.set 5 (.int .i64 (k : Int)), ⟨h.rs.mrg, is_ch h.rs.is (Ch.set (P := fun b => b = M) w ⟨M, 5, none⟩ _ rfl) h.ne, h.rs.cap⟩, h.ne, hk⟩
theorem putI_ch (w : World) (R : Nat) (S K T V X : Int) : Ch (fun b => b = R) w (putI w R S K T V X) := by
  have g := gb_putI w R S K T V X
  exact ⟨g.os, g.tape, g.output, g.size, fun i hi hne => g.block i hi (fun e => hne (by injection e))⟩
theorem Ch.new {P : Nat → Prop} {w w1 w2 : World} {R : Nat} (h : Ch P w w1) (k : Ch (fun b => b = R) w1 w2) (hR : w.heap.size ≤ R) : Ch P w w2 :=
  ⟨k.os.trans h.os, k.tape.trans h.tape, k.output.trans h.output, Nat.le_trans h.size k.size, fun i hi hp => (k.block i (Nat.lt_of_lt_of_le hi h.size) (by omega)).trans (h.block i hi hp)⟩
set_option maxRecDepth 100000 in
set_option maxHeartbeats 2000000 in
theorem next_any (w : World) (M : Nat) (ls : List (List It)) (nx : Nat) (h : Itr w M ls nx) (hM : M < w.heap.size) (hfl : ls.flatten.length ≤ 100000) :
    Calls Try.prog 20 #[.pointer (some ⟨M, 0, none⟩)] w fun e w' => ∃ L, Mrg ls L ∧ Ch (fun b => b = M) w w' ∧ ((nx = L.length ∧ e = .returned (.tuple #[ivL zI, .bool false]) ∧ Itr w' M ls nx) ∨ (∃ x, L[nx]? = some x ∧ e = .returned (.tuple #[ivL x, .bool true]) ∧ Itr w' M ls (nx + 1))) := by
  have A1 := (Below.refl _ w).alloc (Nat.le_refl _) (Obj.cells #[.int .i64 0, .int .i64 0, .int .u64 0, .int .u64 0, .int .i64 0] 36)
  have V1 := vx_new w 0 0 0 0 0
  obtain ⟨w1, hw1⟩ : ∃ w1, w1 = w.alloc (Obj.cells #[.int .i64 0, .int .i64 0, .int .u64 0, .int .u64 0, .int .i64 0] 36) := ⟨_, rfl⟩
  rw [← hw1] at A1 V1
  have CO := hide (open_any w w1 M ls nx h A1)
  have hs1 : w1.heap.size = w.heap.size + 1 := by rw [hw1]; simp
  have HA := hide A1
  have HV := hide V1
  clear h A1 V1
  go_enter Try.func20, Try.ntmps20
  go_wp2_with fail
  rw [← hw1]
  clear hw1
  obtain ⟨R, hR⟩ : ∃ R, w.heap.size = R := ⟨_, rfl⟩
  rw [hR] at HV ⊢
  have hRM : R ≠ M := by omega
  refine CO.out.mono ?_
  rintro e w2 ⟨a, n, c, L, rfl, hO, hc2, hloc⟩
  have HL : Hid (0 < n → ∀ x, a = some x → x.block ≠ R) := hide fun h0 x hx e => by have := hloc h0 x hx; omega
  have HRW := hide hR
  have VX := hide (vx_ch HV.out hc2 hRM)
  have CH := hide ((Ch.of (P := fun b => b = M) HA.out).trans hc2)
  have HO := hide hO
  have h5 : w2.cell? ⟨M, 5, none⟩ = some (.int .i64 (nx : Int)) := hO.blk.cell rfl
  have hle := hO.le
  have hnl := hO.rs.is.1
  have hMl : Hid (M < w2.heap.size) := hide hO.blk.lt
  have hRl : Hid (R < w2.heap.size) := hide VX.out.lt
  have hfn : L.length ≤ 100000 := Nat.le_trans hO.rs.mrg.len hfl
  clear CO HV HA hO hc2 hloc hs1
  by_cases hx : nx = n
  · have q : ((nx : Int) == (n : Int)) = true := by simp [hx]
    have gx := VX.out
    unfold Vx Vi Vf at gx
    simp only [Nat.zero_add] at gx
    obtain ⟨⟨y0, y1, y2, y3, y4⟩, z0, z1, z2, z3, z4⟩ := gx
    have HX := hide hx
    have HNL := hide hnl
    clear hx hnl hR hRM
    go_wp2_with fail
    refine bodyPost_ret (next_results (VX.out.put 0 0 0 0 0) _ rfl rfl) rfl ?_
    refine ⟨L, HO.out.rs.mrg, ?_, .inl ⟨by rw [HX.out, HNL.out], rfl, ?_⟩⟩
    · exact CH.out.new (putI_ch w2 R 0 0 0 0 0) (by have := HRW.out; omega)
    · exact .inr ⟨a, n, c, L, HO.out.ch (putI_ch w2 R 0 0 0 0 0) (fun e => by have := HRW.out; omega) (fun h0 x hx => HL.out h0 x hx)⟩
  · have q : ((nx : Int) == (n : Int)) = false := by simp; omega
    have hxn : nx < n := by omega
    have hxi : (nx : Int) < (n : Int) := by omega
    obtain ⟨x, hx⟩ : ∃ x, L[nx]? = some x := ⟨_, List.getElem?_eq_getElem (by omega)⟩
    obtain ⟨b0, off, ea, hcell⟩ := HO.out.rs.is.2.2.2 (by omega)
    subst ea
    have hv := hide (hcell nx x hx)
    have HX := hide hx
    have hxw := hide (HO.out.rs.is.2.2.1 x (List.mem_of_getElem? hx))
    have hMl' := hMl.out
    have hRl' := hRl.out
    obtain ⟨S, K, T, V, X⟩ := x
    unfold Vt at hv
    simp only at hv
    obtain ⟨v0, v1, v2, v3, v4⟩ := hv.out
    have A3 := (Below.refl _ w2).alloc (Nat.le_refl _) (Obj.cells #[.int .i64 S, .int .i64 K, .int .u64 T, .int .u64 V, .int .i64 X] 36)
    have X3 := vi_new w2 S K T V X
    have hs3 : (w2.alloc (Obj.cells #[.int .i64 S, .int .i64 K, .int .u64 T, .int .u64 V, .int .i64 X] 36)).heap.size = w2.heap.size + 1 := by simp
    obtain ⟨w3, hw3⟩ : ∃ w3, w3 = w2.alloc (Obj.cells #[.int .i64 S, .int .i64 K, .int .u64 T, .int .u64 V, .int .i64 X] 36) := ⟨_, rfl⟩
    rw [← hw3] at A3 X3 hs3
    have HO3 := hide (HO.out.keep A3)
    have p5 : w3.cell? ⟨M, 5, none⟩ = some (.int .i64 (nx : Int)) := HO3.out.blk.cell rfl
    have p5f : w3.frozen? ⟨M, 5, none⟩ = false := HO3.out.blk.free 5
    have VX3 := VX.out.keep A3
    have C4 := Ch.set (P := fun b => b = M) w3 ⟨M, 5, none⟩ (.int .i64 ((nx : Int) + 1)) rfl
    obtain ⟨w4, hw4⟩ : ∃ w4, w4 = w3.setCell ⟨M, 5, none⟩ (.int .i64 ((nx : Int) + 1)) := ⟨_, rfl⟩
    have HO4 : Hid (ItO w4 M (some ⟨b0, off, none⟩) n c ls L (nx + 1)) := hide (by rw [hw4]; exact HO3.out.set (nx + 1) (by omega))
    rw [← hw4] at C4
    have VX4 := vx_ch VX3 C4 hRM
    have X4 : Vi w4 w2.heap.size 0 S K T V X := by
      have hb := C4.block w2.heap.size (by rw [hs3]; omega) (by omega)
      obtain ⟨g0, g1, g2, g3, g4⟩ := X3
      exact ⟨(World.cell?_of_block (a := ⟨w2.heap.size, _, none⟩) hb).trans g0, (World.cell?_of_block (a := ⟨w2.heap.size, _, none⟩) hb).trans g1, (World.cell?_of_block (a := ⟨w2.heap.size, _, none⟩) hb).trans g2, (World.cell?_of_block (a := ⟨w2.heap.size, _, none⟩) hb).trans g3, (World.cell?_of_block (a := ⟨w2.heap.size, _, none⟩) hb).trans g4⟩
    have HVX4 := hide VX4
    have CH4 := hide ((CH.out.trans (Ch.of A3)).trans C4)
    unfold Vx Vi Vf at VX4
    unfold Vi at X4
    simp only [Nat.zero_add] at VX4 X4
    obtain ⟨⟨y0, y1, y2, y3, y4⟩, z0, z1, z2, z3, z4⟩ := VX4
    obtain ⟨x0, x1, x2, x3, x4⟩ := X4
    rw [hw4, hw3] at y0 y1 y2 y3 y4 z0 z1 z2 z3 z4 x0 x1 x2 x3 x4
    rw [hw3] at p5 p5f
    have HW4 := hide hw4
    have HW3 := hide hw3
    have hnb : nx < 100000 := by omega
    clear hx hcell A3 X3 hs3 VX3 C4 hw4 hw3 hnl hR hRM hle hfn hMl' hRl'
    go_wp2_with fail
    rw [← HW3.out, ← HW4.out]
    refine bodyPost_ret (next_results (HVX4.out.put S K T V X) _ rfl rfl) rfl ?_
    refine ⟨L, HO.out.rs.mrg, CH4.out.new (putI_ch w4 R S K T V X) (by have := HRW.out; omega), .inr ⟨_, HX.out, rfl, .inr ⟨_, n, c, L, HO4.out.ch (putI_ch w4 R S K T V X) (fun e => by have := HRW.out; omega) (fun h0 x hx => HL.out h0 x hx)⟩⟩⟩

end Go.Proofs.Ytkkcchklefcljaa.Clep
