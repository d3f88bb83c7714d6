/- What state.isThere and slices.Clip do when called: for any items; an append of an item to a beginning of a row that the call made, in its place. No conditions. -/
import Derived.Test.YtkkcchklefcljaaSMath
namespace Go.Proofs.Ytkkcchklefcljaa.Clep
open Go.RowKit
set_option linter.unusedVariables false
set_option maxRecDepth 10000

/-- Has the list's last one x's place? -/
def isTh (l : List It) (x : It) : Bool := match l.getLast? with | none => false | some y => y.same x

set_option maxHeartbeats 1000000 in
theorem isthere_any (ao : Option Addr) (len cap : Nat) (l : List It) (S K T V X : Int) (w : World) (h : Is w ao len cap l) (hm : len ≤ 1099511627776) :
    Calls Try.prog 47 #[.slice ao len cap, .agg #[.int .i64 S, .int .i64 K, .int .u64 T, .int .u64 V, .int .i64 X]] w fun e w' => e = .returned (.bool (isTh l ⟨S, K, T, V, X⟩)) ∧ Below w.heap.size w w' := by
  have B0 : Below w.heap.size w (w.alloc (Obj.cells #[Value.int IntKind.i64 S, Value.int IntKind.i64 K, Value.int IntKind.u64 T, Value.int IntKind.u64 V, Value.int IntKind.i64 X] 36)) := (Below.refl _ _).alloc (Nat.le_refl _) _
  have HB0 := hide B0
  have hl := h.1
  by_cases h0 : len = 0
  · subst h0
    have hk := hide (show isTh l ⟨S, K, T, V, X⟩ = false by rw [List.eq_nil_of_length_eq_zero hl]; rfl)
    have hne : Nonempty (Kp (w.alloc (Obj.cells #[Value.int IntKind.i64 S, Value.int IntKind.i64 K, Value.int IntKind.u64 T, Value.int IntKind.u64 V, Value.int IntKind.i64 X] 36))) := ⟨⟨_, Below.refl _ _⟩⟩
    clear h B0
    go_enter Try.func47, Try.ntmps47
    go_wp2_with fail
    refine wp_region_kept (by kernel_rfl) (by kernel_rfl) ?_
    repeat (first
      | go_big_quiet_step (fail)
      | fail)
    refine wpQuiet_nil ?_
    intro w1 hw'
    have HB : Hid (Below w.heap.size w w1) := by
      obtain ⟨⟨w3', hb3⟩, hw''⟩ := hw'
      rw [hw'']; exact bmore HB0.out hb3
    clear hw' hne
    go_wp2
    go_ret
    exact ⟨ret_eq (by rw [hk.out]; rfl), HB.out⟩
  · obtain ⟨n, rfl⟩ : ∃ n, len = n + 1 := ⟨len - 1, by omega⟩
    obtain ⟨b, off, rfl, hc⟩ := h.2.2.2 (by omega)
    obtain ⟨y, hy⟩ : ∃ y, l[n]? = some y := ⟨_, List.getElem?_eq_getElem (by omega)⟩
    have hk := hide (show isTh l ⟨S, K, T, V, X⟩ = y.same ⟨S, K, T, V, X⟩ by
      unfold isTh
      rw [List.getLast?_eq_getElem?, hl, show n + 1 - 1 = n from rfl, hy])
    have hv := (hc n y hy).below B0 (hc n y hy).lt
    have hx := vi_new w S K T V X
    obtain ⟨S0, K0, T0, V0, X0⟩ := y
    have HV := hide hv
    have HX := hide hx
    have d00 : ∀ p : Kp (w.alloc (Obj.cells #[Value.int IntKind.i64 S, Value.int IntKind.i64 K, Value.int IntKind.u64 T, Value.int IntKind.u64 V, Value.int IntKind.i64 X] 36)), p.W.cell? ⟨b, off + n * 5, none⟩ = some (.int .i64 S0) := fun p => (HV.out.keep p.h).1
    have d01 : ∀ p : Kp (w.alloc (Obj.cells #[Value.int IntKind.i64 S, Value.int IntKind.i64 K, Value.int IntKind.u64 T, Value.int IntKind.u64 V, Value.int IntKind.i64 X] 36)), p.W.cell? ⟨b, off + n * 5 + 1, none⟩ = some (.int .i64 K0) := fun p => (HV.out.keep p.h).2.1
    have d02 : ∀ p : Kp (w.alloc (Obj.cells #[Value.int IntKind.i64 S, Value.int IntKind.i64 K, Value.int IntKind.u64 T, Value.int IntKind.u64 V, Value.int IntKind.i64 X] 36)), p.W.cell? ⟨b, off + n * 5 + 2, none⟩ = some (.int .u64 T0) := fun p => (HV.out.keep p.h).2.2.1
    have d03 : ∀ p : Kp (w.alloc (Obj.cells #[Value.int IntKind.i64 S, Value.int IntKind.i64 K, Value.int IntKind.u64 T, Value.int IntKind.u64 V, Value.int IntKind.i64 X] 36)), p.W.cell? ⟨b, off + n * 5 + 3, none⟩ = some (.int .u64 V0) := fun p => (HV.out.keep p.h).2.2.2.1
    have d04 : ∀ p : Kp (w.alloc (Obj.cells #[Value.int IntKind.i64 S, Value.int IntKind.i64 K, Value.int IntKind.u64 T, Value.int IntKind.u64 V, Value.int IntKind.i64 X] 36)), p.W.cell? ⟨b, off + n * 5 + 4, none⟩ = some (.int .i64 X0) := fun p => (HV.out.keep p.h).2.2.2.2
    have d10 : ∀ p : Kp (w.alloc (Obj.cells #[Value.int IntKind.i64 S, Value.int IntKind.i64 K, Value.int IntKind.u64 T, Value.int IntKind.u64 V, Value.int IntKind.i64 X] 36)), p.W.cell? ⟨w.heap.size, 0, none⟩ = some (.int .i64 S) := fun p => (HX.out.keep p.h).1
    have d11 : ∀ p : Kp (w.alloc (Obj.cells #[Value.int IntKind.i64 S, Value.int IntKind.i64 K, Value.int IntKind.u64 T, Value.int IntKind.u64 V, Value.int IntKind.i64 X] 36)), p.W.cell? ⟨w.heap.size, 1, none⟩ = some (.int .i64 K) := fun p => (HX.out.keep p.h).2.1
    have d12 : ∀ p : Kp (w.alloc (Obj.cells #[Value.int IntKind.i64 S, Value.int IntKind.i64 K, Value.int IntKind.u64 T, Value.int IntKind.u64 V, Value.int IntKind.i64 X] 36)), p.W.cell? ⟨w.heap.size, 2, none⟩ = some (.int .u64 T) := fun p => (HX.out.keep p.h).2.2.1
    have d13 : ∀ p : Kp (w.alloc (Obj.cells #[Value.int IntKind.i64 S, Value.int IntKind.i64 K, Value.int IntKind.u64 T, Value.int IntKind.u64 V, Value.int IntKind.i64 X] 36)), p.W.cell? ⟨w.heap.size, 3, none⟩ = some (.int .u64 V) := fun p => (HX.out.keep p.h).2.2.2.1
    have d14 : ∀ p : Kp (w.alloc (Obj.cells #[Value.int IntKind.i64 S, Value.int IntKind.i64 K, Value.int IntKind.u64 T, Value.int IntKind.u64 V, Value.int IntKind.i64 X] 36)), p.W.cell? ⟨w.heap.size, 4, none⟩ = some (.int .i64 X) := fun p => (HX.out.keep p.h).2.2.2.2
    have c0 : Hid (∀ p : Kp (w.alloc (Obj.cells #[Value.int IntKind.i64 S, Value.int IntKind.i64 K, Value.int IntKind.u64 T, Value.int IntKind.u64 V, Value.int IntKind.i64 X] 36)), Calls Try.prog 57 #[.agg #[.int .i64 S0, .int .i64 K0, .int .u64 T0, .int .u64 V0, .int .i64 X0], .agg #[.int .i64 S, .int .i64 K, .int .u64 T, .int .u64 V, .int .i64 X]] p.W fun e w'' => e = .returned (.bool (sameI S0 K0 T0 S K T)) ∧ ∃ q : Kp (w.alloc (Obj.cells #[Value.int IntKind.i64 S, Value.int IntKind.i64 K, Value.int IntKind.u64 T, Value.int IntKind.u64 V, Value.int IntKind.i64 X] 36)), w'' = q.W) := hide fun p => kp_call (same_any S0 K0 T0 V0 X0 S K T V X _)
    have hne : Nonempty (Kp (w.alloc (Obj.cells #[Value.int IntKind.i64 S, Value.int IntKind.i64 K, Value.int IntKind.u64 T, Value.int IntKind.u64 V, Value.int IntKind.i64 X] 36))) := ⟨⟨_, Below.refl _ _⟩⟩
    unfold It.same at hk
    simp only at hk
    generalize sameI S0 K0 T0 S K T = r at *
    have hs1 : ((n + 1 : Nat) : Int) - 1 = (n : Int) := by omega
    have hs2 : IntKind.i64.wrap (n : Int) = (n : Int) := by simp [IntKind.wrap, IntKind.bits, IntKind.signed]; omega
    have hs3 : (0 : Int) < ((n + 1 : Nat) : Int) := by omega
    have hs4 : (n : Int) < ((n + 1 : Nat) : Int) := by omega
    clear h B0 hc hy hv hx HV HX h0 hl
    go_enter Try.func47, Try.ntmps47
    go_wp2_with fail
    refine wp_region_kept (by kernel_rfl) (by kernel_rfl) ?_
    repeat (first
      | go_big_quiet_step (first | (go_at_call 57; exact c0.out _))
      | fail)
    refine wpQuiet_nil ?_
    intro w1 hw'
    have HB : Hid (Below w.heap.size w w1) := by
      obtain ⟨⟨w3', hb3⟩, hw''⟩ := hw'
      rw [hw'']; exact bmore HB0.out hb3
    clear hw' hne c0 d00 d01 d02 d03 d04 d10 d11 d12 d13 d14
    go_wp2
    go_ret
    exact ⟨ret_eq (by rw [hk.out]; rfl), HB.out⟩

theorem clip_any (ao : Option Addr) (len cap : Nat) (w : World) (hl : len ≤ cap) (hn : ao = none → len = 0 ∧ cap = 0) (hm : cap ≤ 9223372036854775807) :
    Calls Try.prog 48 #[.slice ao len cap] w fun e w' => e = .returned (.slice ao len len) ∧ w' = w := by
  cases ao with
  | none =>
    obtain ⟨rfl, rfl⟩ := hn rfl
    go_enter Try.func48, Try.ntmps48
    go_wp2
    go_ret
    exact ⟨rfl, rfl⟩
  | some a =>
    obtain ⟨b, off, sp⟩ := a
    go_enter Try.func48, Try.ntmps48
    go_wp2
    go_ret
    exact ⟨rfl, rfl⟩

end Go.Proofs.Ytkkcchklefcljaa.Clep
