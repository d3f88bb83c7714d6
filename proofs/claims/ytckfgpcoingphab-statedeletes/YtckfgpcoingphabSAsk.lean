/- What state.Series, Range, Upto, Purge and Top do when called: for any items. Conditions: at most 2^39 items. -/
import Derived.Test.YtckfgpcoingphabSOf
namespace Go.Proofs.Ytckfgpcoingphab.Clep
open Go.RowKit
set_option linter.unusedVariables false

theorem cell_new (w : World) (v : Value) (t : TypeId) (k : Nat) (hk : w.heap.size = k) : (w.alloc (Obj.cells #[v] t)).cell? ⟨k, 0, none⟩ = some v := by subst hk; simp

set_option maxHeartbeats 400000 in
theorem series_any (a : Option Addr) (n c : Nat) (l : List It) (s : Int) (w : World) (h : Is w a n c l) (hn : n ≤ 549755813888) : Calls Try.prog 13 #[.slice a n c, .int .i64 s] w (Ans (l.filter (fun x => x.S == s)) w) := by
  have D0 : Below w.heap.size w (w.alloc (Obj.cells #[Value.int IntKind.i64 s] 3)) := (Below.refl _ w).alloc (Nat.le_refl _) _
  have D1 : Below w.heap.size w ((w.alloc (Obj.cells #[Value.int IntKind.i64 s] 3)).alloc (Obj.cells #[.slice a n c] 22)) := D0.alloc (by simp) _
  have hL := lss_one (h.below D0 (Nat.le_refl _)) hn
  have hr : ((w.alloc (Obj.cells #[Value.int IntKind.i64 s] 3)).alloc (Obj.cells #[.slice a n c] 22)).cell? ⟨w.heap.size, 0, none⟩ = some (.int .i64 s) := by rw [World.cell?_alloc_past _ _ _ (by simp)]; simp
  have hW : Wn ((w.alloc (Obj.cells #[Value.int IntKind.i64 s] 3)).alloc (Obj.cells #[.slice a n c] 22)) (.func (.func 22) #[] #[.pointer (some ⟨w.heap.size, 0, none⟩)]) (fun x => x.S == s) :=
    ⟨22, _, rfl, enters_of Try.func22 (by kernel_rfl) rfl, fun W hW x => series1_any x.S x.K x.T x.V x.X s w.heap.size W ((hW.cell (p := ⟨w.heap.size, 0, none⟩) (World.block_lt_of_cell? _ _ hr)).trans hr)⟩
  rw [show (w.alloc (Obj.cells #[Value.int IntKind.i64 s] 3)).heap.size = w.heap.size + 1 from by simp] at hL
  have hp := hide (pick_any _ _ 1 1 [l] _ _ hW hL (by simp [h.1]; omega) (by omega))
  have hf : [l].flatten = l := by simp
  rw [hf] at hp
  have hwf := hide (fun x (hx : x ∈ l.filter (fun x => x.S == s)) => h.2.2.1 x (List.mem_filter.1 hx).1)
  have hB := hide D1
  have hmf : ∀ (fn : Fn) (first cap : Array Value) (w : World), (Instr.makeFunc fn first cap).run Try.prog w = .ok (.func fn first cap) w := fun _ _ _ _ => rfl
  clear h hL hr hW hf D0 D1
  go_enter Try.func13, Try.ntmps13
  go_wp2_with fail
  refine hp.out.mono ?_
  rintro e w1 ⟨v, rfl, o1, b1⟩
  have O1 := hide o1
  have B1 := hide (bmore hB.out b1)
  clear o1 b1 hp hB
  go_wp2
  go_ret
  exact ans_own O1.out hwf.out B1.out

set_option maxHeartbeats 400000 in
theorem upto_any (a : Option Addr) (n c : Nat) (l : List It) (v : Int) (w : World) (h : Is w a n c l) (hn : n ≤ 549755813888) : Calls Try.prog 14 #[.slice a n c, .int .u64 v] w (Ans (l.filter (fun x => decide (x.V ≤ v))) w) := by
  have D0 : Below w.heap.size w (w.alloc (Obj.cells #[Value.int IntKind.u64 v] 24)) := (Below.refl _ w).alloc (Nat.le_refl _) _
  have D1 : Below w.heap.size w ((w.alloc (Obj.cells #[Value.int IntKind.u64 v] 24)).alloc (Obj.cells #[.slice a n c] 22)) := D0.alloc (by simp) _
  have hL := lss_one (h.below D0 (Nat.le_refl _)) hn
  have hr : ((w.alloc (Obj.cells #[Value.int IntKind.u64 v] 24)).alloc (Obj.cells #[.slice a n c] 22)).cell? ⟨w.heap.size, 0, none⟩ = some (.int .u64 v) := by rw [World.cell?_alloc_past _ _ _ (by simp)]; simp
  have hW : Wn ((w.alloc (Obj.cells #[Value.int IntKind.u64 v] 24)).alloc (Obj.cells #[.slice a n c] 22)) (.func (.func 23) #[] #[.pointer (some ⟨w.heap.size, 0, none⟩)]) (fun x => decide (x.V ≤ v)) :=
    ⟨23, _, rfl, enters_of Try.func23 (by kernel_rfl) rfl, fun W hW x => upto1_any x.S x.K x.T x.V x.X v w.heap.size W ((hW.cell (p := ⟨w.heap.size, 0, none⟩) (World.block_lt_of_cell? _ _ hr)).trans hr)⟩
  rw [show (w.alloc (Obj.cells #[Value.int IntKind.u64 v] 24)).heap.size = w.heap.size + 1 from by simp] at hL
  have hp := hide (pick_any _ _ 1 1 [l] _ _ hW hL (by simp [h.1]; omega) (by omega))
  have hf : [l].flatten = l := by simp
  rw [hf] at hp
  have hwf := hide (fun x (hx : x ∈ l.filter (fun x => decide (x.V ≤ v))) => h.2.2.1 x (List.mem_filter.1 hx).1)
  have hB := hide D1
  have hmf : ∀ (fn : Fn) (first cap : Array Value) (w : World), (Instr.makeFunc fn first cap).run Try.prog w = .ok (.func fn first cap) w := fun _ _ _ _ => rfl
  clear h hL hr hW hf D0 D1
  go_enter Try.func14, Try.ntmps14
  go_wp2_with fail
  refine hp.out.mono ?_
  rintro e w1 ⟨v, rfl, o1, b1⟩
  have O1 := hide o1
  have B1 := hide (bmore hB.out b1)
  clear o1 b1 hp hB
  go_wp2
  go_ret
  exact ans_own O1.out hwf.out B1.out

set_option maxHeartbeats 400000 in
theorem purge_any (a : Option Addr) (n c : Nat) (l : List It) (v : Int) (w : World) (h : Is w a n c l) (hn : n ≤ 549755813888) : Calls Try.prog 15 #[.slice a n c, .int .u64 v] w (Ans (l.filter (purgeP v)) w) := by
  have D0 : Below w.heap.size w (w.alloc (Obj.cells #[Value.int IntKind.u64 v] 24)) := (Below.refl _ w).alloc (Nat.le_refl _) _
  have D1 : Below w.heap.size w ((w.alloc (Obj.cells #[Value.int IntKind.u64 v] 24)).alloc (Obj.cells #[.slice a n c] 22)) := D0.alloc (by simp) _
  have hL := lss_one (h.below D0 (Nat.le_refl _)) hn
  have hr : ((w.alloc (Obj.cells #[Value.int IntKind.u64 v] 24)).alloc (Obj.cells #[.slice a n c] 22)).cell? ⟨w.heap.size, 0, none⟩ = some (.int .u64 v) := by rw [World.cell?_alloc_past _ _ _ (by simp)]; simp
  have hW : Wn ((w.alloc (Obj.cells #[Value.int IntKind.u64 v] 24)).alloc (Obj.cells #[.slice a n c] 22)) (.func (.func 24) #[] #[.pointer (some ⟨w.heap.size, 0, none⟩)]) (purgeP v) :=
    ⟨24, _, rfl, enters_of Try.func24 (by kernel_rfl) rfl, fun W hW x => purge1_any x.S x.K x.T x.V x.X v w.heap.size W ((hW.cell (p := ⟨w.heap.size, 0, none⟩) (World.block_lt_of_cell? _ _ hr)).trans hr)⟩
  rw [show (w.alloc (Obj.cells #[Value.int IntKind.u64 v] 24)).heap.size = w.heap.size + 1 from by simp] at hL
  have hp := hide (pick_any _ _ 1 1 [l] _ _ hW hL (by simp [h.1]; omega) (by omega))
  have hf : [l].flatten = l := by simp
  rw [hf] at hp
  have hwf := hide (fun x (hx : x ∈ l.filter (purgeP v)) => h.2.2.1 x (List.mem_filter.1 hx).1)
  have hB := hide D1
  have hmf : ∀ (fn : Fn) (first cap : Array Value) (w : World), (Instr.makeFunc fn first cap).run Try.prog w = .ok (.func fn first cap) w := fun _ _ _ _ => rfl
  clear h hL hr hW hf D0 D1
  go_enter Try.func15, Try.ntmps15
  go_wp2_with fail
  refine hp.out.mono ?_
  rintro e w1 ⟨v, rfl, o1, b1⟩
  have O1 := hide o1
  have B1 := hide (bmore hB.out b1)
  clear o1 b1 hp hB
  go_wp2
  go_ret
  exact ans_own O1.out hwf.out B1.out

/-- The greatest version. -/
def topL (l : List It) : Int := l.foldl (fun m x => max m x.V) 0
theorem topL_snoc (l : List It) (k : Nat) (x : It) (h : l[k]? = some x) : topL (l.take (k + 1)) = max (topL (l.take k)) x.V := by
  rw [List.take_add_one, h]; simp [topL]

set_option maxHeartbeats 800000 in
theorem top_any (a : Option Addr) (n c : Nat) (l : List It) (w : World) (h : Is w a n c l) (hn : n ≤ 549755813888) : Calls Try.prog 17 #[.slice a n c] w fun e w' => e = .returned (.int .u64 (topL l)) ∧ Below w.heap.size w w' := by
  have hl := h.1
  have H0 := hide (fun W (hW : Below w.heap.size w W) => h.below hW (Nat.le_refl _))
  clear h
  go_enter Try.func17, Try.ntmps17
  go_wp2_with fail
  go_loopw [3, 8] (fun t i wr => ∃ k : Nat, k ≤ n ∧ i = .int .i64 k ∧ t = .int .u64 (topL (l.take k)) ∧ Hid (Below w.heap.size w wr)) (fun _ i _ => n - (intOf i).toNat)
  case atStart => exact ⟨0, by omega, rfl, rfl, hide (Below.refl _ _)⟩
  case round =>
    obtain ⟨k, hk, rfl, rfl, hbel⟩ := hrel
    by_cases hlt : k < n
    · obtain ⟨b0, off, ea, hc⟩ := (H0.out _ hbel.out).2.2.2 (by omega)
      subst ea
      obtain ⟨x, hx⟩ : ∃ x, l[k]? = some x := ⟨_, List.getElem?_eq_getElem (by rw [hl]; exact hlt)⟩
      have hv := hc k x hx
      have HT := hide (topL_snoc l k x hx)
      obtain ⟨S, K, T, V, X⟩ := x
      unfold Vt Vi at hv
      simp only at hv HT
      obtain ⟨v0, v1, v2, v3, v4⟩ := hv
      have HB := hide (hbel.out.alloc hbel.out.size (Obj.cells #[Value.int IntKind.i64 S, Value.int IntKind.i64 K, Value.int IntKind.u64 T, Value.int IntKind.u64 V, Value.int IntKind.i64 X] 26))
      clear hc hx
      generalize topL (l.take k) = m at *
      go_wp2
      go_roundw
      case rel => exact ⟨k + 1, by omega, by go_num, by rw [HT.out], HB⟩
      case measure => simp [intOf]; omega
    · obtain rfl : k = n := by omega
      have HE := hide (show l.take k = l by rw [← hl]; exact List.take_length)
      rw [HE.out]
      go_wp2
      go_ret
      exact ⟨rfl, hbel.out⟩

end Go.Proofs.Ytckfgpcoingphab.Clep
