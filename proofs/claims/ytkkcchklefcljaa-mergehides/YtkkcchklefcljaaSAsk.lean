/- What state.Series, Range, Upto, Purge and Top do when called: for any items. Conditions: at most 2^39 items. -/
import Derived.Test.YtkkcchklefcljaaSOf
namespace Go.Proofs.Ytkkcchklefcljaa.Clep
open Go.RowKit
set_option linter.unusedVariables false
set_option maxRecDepth 10000

theorem cell_new (w : World) (v : Value) (t : TypeId) (k : Nat) (hk : w.heap.size = k) : (w.alloc (Obj.cells #[v] t)).cell? ⟨k, 0, none⟩ = some v := by subst hk; simp

set_option maxHeartbeats 400000 in
theorem purge_any (a : Option Addr) (n c : Nat) (l : List It) (v : Int) (w : World) (h : Is w a n c l) (hn : n ≤ 549755813888) : Calls Try.prog 34 #[.slice a n c, .int .u64 v] w (Ans (l.filter (purgeP v)) w) := by
  have D0 : Below w.heap.size w (w.alloc (Obj.cells #[Value.int IntKind.u64 v] 23)) := (Below.refl _ w).alloc (Nat.le_refl _) _
  have D1 : Below w.heap.size w ((w.alloc (Obj.cells #[Value.int IntKind.u64 v] 23)).alloc (Obj.cells #[.slice a n c] 25)) := D0.alloc (by simp) _
  have hL := lss_one (h.below D0 (Nat.le_refl _)) hn
  have hr : ((w.alloc (Obj.cells #[Value.int IntKind.u64 v] 23)).alloc (Obj.cells #[.slice a n c] 25)).cell? ⟨w.heap.size, 0, none⟩ = some (.int .u64 v) := by rw [World.cell?_alloc_past _ _ _ (by simp)]; simp
  have hW : Wn ((w.alloc (Obj.cells #[Value.int IntKind.u64 v] 23)).alloc (Obj.cells #[.slice a n c] 25)) (.func (.func 43) #[] #[.pointer (some ⟨w.heap.size, 0, none⟩)]) (purgeP v) :=
    ⟨43, _, rfl, enters_of Try.func43 (by kernel_rfl) rfl, fun W hW x => purge1_any x.S x.K x.T x.V x.X v w.heap.size W ((hW.cell (p := ⟨w.heap.size, 0, none⟩) (World.block_lt_of_cell? _ _ hr)).trans hr)⟩
  rw [show (w.alloc (Obj.cells #[Value.int IntKind.u64 v] 23)).heap.size = w.heap.size + 1 from by simp] at hL
  have hp := hide (pick_any _ _ 1 1 [l] _ _ hW hL (by simp [h.1]; omega) (by omega))
  have hf : [l].flatten = l := by simp
  rw [hf] at hp
  have hwf := hide (fun x (hx : x ∈ l.filter (purgeP v)) => h.2.2.1 x (List.mem_filter.1 hx).1)
  have hB := hide D1
  have hmf : ∀ (fn : Fn) (first cap : Array Value) (w : World), (Instr.makeFunc fn first cap).run Try.prog w = .ok (.func fn first cap) w := fun _ _ _ _ => rfl
  clear h hL hr hW hf D0 D1
  go_enter Try.func34, Try.ntmps34
  go_wp2_with fail
  refine hp.out.mono ?_
  rintro e w1 ⟨v, rfl, o1, b1⟩
  have O1 := hide o1
  have B1 := hide (bmore hB.out b1)
  clear o1 b1 hp hB
  go_wp2
  go_ret
  exact ans_own O1.out hwf.out B1.out

/-- The greatest version. -/
def topL (l : List It) : Int := l.foldl (fun m x => max m x.V) 0
theorem topL_snoc (l : List It) (k : Nat) (x : It) (h : l[k]? = some x) : topL (l.take (k + 1)) = max (topL (l.take k)) x.V := by
  rw [List.take_add_one, h]; simp [topL]

end Go.Proofs.Ytkkcchklefcljaa.Clep
