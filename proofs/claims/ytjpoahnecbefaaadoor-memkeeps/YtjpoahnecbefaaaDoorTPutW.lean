/- What List.Put does when called. Conditions: fewer than 2^40 items. -/
import Derived.Test.YtjpoahnecbefaaaDoorTPut
namespace Go.Proofs.YtjpoahnecbefaaaDoor.Clep
open Go.RowKit
set_option linter.unusedVariables false

set_option maxHeartbeats 800000 in
theorem put_bad (w : World) (L : Nat) (S K T V X n : Int) (hb : okI S K T V X = false ∨ ¬ (1 ≤ n ∧ n ≤ 6)) :
    Calls Tryd.prog 22 #[.pointer (some ⟨L, 0, none⟩), .agg #[.int .i64 S, .int .i64 K, .int .u64 T, .int .u64 V, .int .i64 X], .int .i64 n] w fun e w' =>
      e = .returned (.tuple #[.bool false, .int .i64 1]) ∧ Below w.heap.size w w' := by
  have B0 := hide ((Below.refl _ w).alloc (Nat.le_refl _) (Obj.cells #[Value.int IntKind.i64 S, Value.int IntKind.i64 K, Value.int IntKind.u64 T, Value.int IntKind.u64 V, Value.int IntKind.i64 X] 32))
  have HO := hide (ok_any S K T V X)
  have HH := hide (isHeight_any n)
  cases ho : okI S K T V X with
  | false =>
    rw [ho] at HO
    clear ho hb
    go_enter Tryd.func22, Tryd.ntmps22
    go_wp2_with fail
    refine (HO.out _).mono ?_
    rintro e w1 ⟨rfl, b1⟩
    have B1 := hide (bmore B0.out b1)
    clear b1 B0
    go_wp2
    go_ret2
    exact ⟨rfl, B1.out⟩
  | true =>
    rw [ho] at HO hb
    have hh : decide (1 ≤ n ∧ n ≤ 6) = false := by simp at hb; simp; omega
    rw [hh] at HH
    clear ho hb hh
    go_enter Tryd.func22, Tryd.ntmps22
    go_wp2_with fail
    refine (HO.out _).mono ?_
    rintro e w1 ⟨rfl, b1⟩
    have B1 := hide (bmore B0.out b1)
    clear b1 B0
    go_wp2_with fail
    refine (HH.out _).mono ?_
    rintro e w2 ⟨rfl, rfl⟩
    go_wp2
    go_ret2
    exact ⟨rfl, B1.out⟩

theorem done_same {w w' : World} {S : Sk} (h : Hp w S (S.f :: S.l)) (hp : Pu S) (hb : Below w.heap.size w w') : Done w S w' S.abs :=
  ⟨S, rfl, h.keep hb, hp, rfl, fun c hc => .inl hc, Ch.of hb⟩

end Go.Proofs.YtjpoahnecbefaaaDoor.Clep
