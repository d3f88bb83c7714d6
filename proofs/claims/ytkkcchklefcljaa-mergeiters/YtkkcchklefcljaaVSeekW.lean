/- What Iter.Seek and merge.New do when called. Conditions: the Iter lies in memory as said; at most a thousand rows, a hundred thousand items. -/
import Derived.Test.YtkkcchklefcljaaVNext
import Derived.Test.YtkkcchklefcljaaVSeek
namespace Go.Proofs.Ytkkcchklefcljaa.Clep
open Go.RowKit
set_option linter.unusedVariables false

theorem vi_ch {P : Nat → Prop} {w w' : World} {R o : Nat} {S K T V X : Int} (h : Vi w R o S K T V X) (hc : Ch P w w') (hp : ¬ P R) : Vi w' R o S K T V X := by
  have hb := hc.block R h.lt hp
  obtain ⟨h0, h1, h2, h3, h4⟩ := h
  exact ⟨(World.cell?_of_block (a := ⟨R, _, none⟩) hb).trans h0, (World.cell?_of_block (a := ⟨R, _, none⟩) hb).trans h1, (World.cell?_of_block (a := ⟨R, _, none⟩) hb).trans h2, (World.cell?_of_block (a := ⟨R, _, none⟩) hb).trans h3, (World.cell?_of_block (a := ⟨R, _, none⟩) hb).trans h4⟩
set_option maxRecDepth 100000 in
set_option maxHeartbeats 2000000 in
theorem seek_any (w : World) (M : Nat) (ls : List (List It)) (nx : Nat) (x : It) (h : Itr w M ls nx) (hM : M < w.heap.size) (hfl : ls.flatten.length ≤ 100000) :
    Calls Try.prog 21 #[.pointer (some ⟨M, 0, none⟩), .agg #[.int .i64 x.S, .int .i64 x.K, .int .u64 x.T, .int .u64 x.V, .int .i64 x.X]] w fun e w' => e = .returned (.tuple #[]) ∧ ∃ L k, Mrg ls L ∧ k ≤ L.length ∧ (Rise L → (∀ i, i < k → fq L x i = false) ∧ ∀ i, k ≤ i → i < L.length → fq L x i = true) ∧ Itr w' M ls k ∧ Ch (fun b => b = M) w w' := by
  have A1 := (Below.refl _ w).alloc (Nat.le_refl _) (Obj.cells #[.int .i64 x.S, .int .i64 x.K, .int .u64 x.T, .int .u64 x.V, .int .i64 x.X] 36)
  have V1 := vi_new w x.S x.K x.T x.V x.X
  obtain ⟨w1, hw1⟩ : ∃ w1, w1 = w.alloc (Obj.cells #[.int .i64 x.S, .int .i64 x.K, .int .u64 x.T, .int .u64 x.V, .int .i64 x.X] 36) := ⟨_, rfl⟩
  rw [← hw1] at A1 V1
  have CO := hide (open_any w w1 M ls nx h A1)
  have HA := hide A1
  have HV := hide V1
  have hmf : ∀ (fn : Fn) (first cap : Array Value) (w : World), (Instr.makeFunc fn first cap).run Try.prog w = .ok (.func fn first cap) w := fun _ _ _ _ => rfl
  clear h A1 V1
  go_enter Try.func21, Try.ntmps21
  go_wp2_with fail
  rw [← hw1]
  clear hw1
  obtain ⟨P1, hP1⟩ : ∃ P1, w.heap.size = P1 := ⟨_, rfl⟩
  rw [hP1] at HV ⊢
  have hPM : P1 ≠ M := by omega
  refine CO.out.mono ?_
  rintro e w2 ⟨a, n, c, L, rfl, hO, hc2, hloc⟩
  have VX := vi_ch HV.out hc2 hPM
  have CH := (Ch.of (P := fun b => b = M) HA.out).trans hc2
  have A3 := (Below.refl _ w2).alloc (Nat.le_refl _) (Obj.cells #[Value.slice a n c] 25)
  have K3 := hpS w2 (Obj.cells #[Value.slice a n c] 25) w2.heap.size rfl
  obtain ⟨w3, hw3⟩ : ∃ w3, w3 = w2.alloc (Obj.cells #[Value.slice a n c] 25) := ⟨_, rfl⟩
  rw [← hw3] at A3 K3
  have hc3 : w3.cell? ⟨w2.heap.size, 0, none⟩ = some (.slice a n c) := by simp [World.cell?, K3]
  have hn : n ≤ 100000 := by rw [← hO.rs.is.1]; exact Nat.le_trans hO.rs.mrg.len hfl
  have CS := hide (ssearch_any w2.heap.size P1 a n c L x w3 ⟨hc3, VX.keep A3, hO.rs.is.below A3 (Nat.le_refl _)⟩ (by omega))
  have HO := hide (hO.keep A3)
  have HC := hide (CH.trans (Ch.of A3))
  have hlen := hide hO.rs.is.1
  clear CO HV HA VX CH A3 K3 hO hc2 hloc hP1
  go_wp2_with fail
  rw [← hw3]
  clear hw3
  refine CS.out.mono ?_
  rintro e w4 ⟨k, rfl, hk, hrise, hb4⟩
  have HO4 := HO.out.keep hb4
  have p5 : w4.cell? ⟨M, 5, none⟩ = some (.int .i64 (nx : Int)) := HO4.blk.cell rfl
  have p5f : w4.frozen? ⟨M, 5, none⟩ = false := HO4.blk.free 5
  have HR := hide (HO4.set k (by rw [hlen.out]; exact hk))
  have HCC := hide ((HC.out.trans (Ch.of hb4)).trans (Ch.set (P := fun b => b = M) w4 ⟨M, 5, none⟩ (.int .i64 (k : Int)) rfl))
  have HRI := hide hrise
  have HK := hide hk
  have HMR := hide HO4.rs.mrg
  clear CS HO HC hrise hb4 HO4
  go_wp2_with fail
  first | go_end0 | go_ret
  refine ⟨rfl, L, k, HMR.out, by rw [hlen.out]; exact HK.out, fun hr => ⟨(HRI.out hr).1, fun i h1 h2 => (HRI.out hr).2 i h1 (by rw [← hlen.out]; exact h2)⟩, .inr ⟨a, n, c, L, HR.out⟩, HCC.out⟩

end Go.Proofs.Ytkkcchklefcljaa.Clep
