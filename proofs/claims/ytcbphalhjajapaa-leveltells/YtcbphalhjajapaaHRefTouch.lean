/- What the document's Touch does when called (a walk over the translated program). No conditions. -/
import Derived.Test.YtcbphalhjajapaaHTouch
namespace Go.Proofs.Ytcbphalhjajapaa.Clep
open Go.RowKit
set_option linter.unusedVariables false
set_option linter.unusedSimpArgs false

theorem less_leq : ∀ (x y : List UInt8), (Op.bytesLess x y || x == y) = !Op.bytesLess y x
  | [], [] => rfl
  | [], _ :: _ => rfl
  | _ :: _, [] => rfl
  | a :: x, b :: y => by
    have ih := less_leq x y
    simp only [Op.bytesLess, List.cons_beq_cons]
    by_cases e : a = b
    · subst e
      have h1 : ¬ a < a := UInt8.lt_irrefl a
      simp only [h1, decide_false, Bool.false_or, beq_self_eq_true, Bool.true_and]
      exact ih
    · have e1 : (a == b) = false := beq_false_of_ne e
      have e2 : (b == a) = false := beq_false_of_ne (fun h => e h.symm)
      simp only [e1, e2, Bool.false_and, Bool.or_false]
      by_cases h : a < b
      · have h2 : ¬ b < a := UInt8.lt_asymm h
        simp [h, h2]
      · have h2 : b < a := by
          rcases UInt8.lt_or_le b a with h3 | h3
          · exact h3
          · exact absurd (UInt8.lt_of_le_of_ne h3 e) h
        simp [h, h2]
theorem str_list (zs : List Int) : (strOfNums zs).toList = ub zs := by
  rw [ByteArray.toList_eq]
  simp [strOfNums, ub]
theorem str_leq (xs ys : List Int) : (Op.bytesLess (strOfNums xs).toList (strOfNums ys).toList || (strOfNums xs).toList == (strOfNums ys).toList) = !ltB ys xs := by
  rw [str_list, str_list, less_leq]
  rfl
set_option maxRecDepth 100000 in
theorem reftouch_any (x y : He) (w : World) (hx : x.ok w) (hy : y.ok w) : Calls Try.prog 18 #[x.v, y.v] w fun e w' => e = .returned (.bool (tch x y)) ∧ Below w.heap.size w w' := by
  have HB := hide (fun (M M' : Int) => ((Below.refl w.heap.size w).alloc (Nat.le_refl _) (Obj.cells #[.int .i64 x.N, .int .i64 x.L, .slice x.fa x.fz.length x.fc, .slice x.ga x.gz.length x.gc, .int .i64 M] 27)).alloc (by simp) (Obj.cells #[.int .i64 y.N, .int .i64 y.L, .slice y.fa y.fz.length y.fc, .slice y.ga y.gz.length y.gc, .int .i64 M'] 27))
  have HT := hide (show tch x y = (!(x.M == 0) && (!(y.M == 0) && (!(ltB x.gz y.fz) && !(ltB y.gz x.fz)))) from rfl)
  have c1 := conv_bs (hx.1.1.below (HB.out x.M y.M) (Nat.le_refl _))
  have c2 := conv_bs (hx.2.1.1.below (HB.out x.M y.M) (Nat.le_refl _))
  have c3 := conv_bs (hy.1.1.below (HB.out x.M y.M) (Nat.le_refl _))
  have c4 := conv_bs (hy.2.1.1.below (HB.out x.M y.M) (Nat.le_refl _))
  have l1 := str_leq x.fz y.gz
  have l2 := str_leq y.fz x.gz
  generalize tch x y = T at *
  unfold He.v at *
  clear hx hy
  cases q0 : (x.M == 0) with
  | true =>
    have HT2 := hide (show T = false from by rw [HT.out, q0]; rfl)
    have p0 : (x.M != 0) = false := by simpa using q0
    clear q0
    clear HT l1 l2 c1 c2 c3 c4
    go_enter Try.func18, Try.ntmps18
    go_wp2
    go_ret
    exact ⟨by rw [HT2.out]; rfl, HB.out _ _⟩
  | false =>
    cases q1 : (y.M == 0) with
    | true =>
      have HT2 := hide (show T = false from by rw [HT.out, q0, q1]; rfl)
      have p0 : (x.M != 0) = true := by simpa using q0
      have p1 : (y.M != 0) = false := by simpa using q1
      clear q0 q1
      clear HT l1 l2 c1 c2 c3 c4
      go_enter Try.func18, Try.ntmps18
      go_wp2
      go_ret
      exact ⟨by rw [HT2.out]; rfl, HB.out _ _⟩
    | false =>
      cases q2 : ltB y.gz x.fz with
      | true =>
        have HT2 := hide (show T = false from by rw [HT.out, q0, q1, q2]; simp)
        have p0 : (x.M != 0) = true := by simpa using q0
        have p1 : (y.M != 0) = true := by simpa using q1
        clear q0 q1
        rw [q2] at l1
        clear HT l2 c2 c3
        go_enter Try.func18, Try.ntmps18
        go_wp2
        go_ret
        exact ⟨by rw [HT2.out]; rfl, HB.out _ _⟩
      | false =>
        have HT2 := hide (show T = !(ltB x.gz y.fz) from by rw [HT.out, q0, q1, q2]; simp)
        have p0 : (x.M != 0) = true := by simpa using q0
        have p1 : (y.M != 0) = true := by simpa using q1
        clear q0 q1
        rw [q2] at l1
        clear HT
        generalize ltB x.gz y.fz = G at *
        go_enter Try.func18, Try.ntmps18
        go_wp2
        go_ret
        exact ⟨by rw [HT2.out]; rfl, HB.out _ _⟩

end Go.Proofs.Ytcbphalhjajapaa.Clep
