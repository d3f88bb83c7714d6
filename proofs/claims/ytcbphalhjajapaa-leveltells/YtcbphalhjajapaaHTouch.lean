/- What bytes.Compare, level.ahead and level.Touch do when called (walks over the translated program). No conditions. -/
import Derived.Test.YtcbphalhjajapaaHRow
import Derived.Laws.Externs
namespace Go.Proofs.Ytcbphalhjajapaa.Clep
open Go.RowKit
set_option linter.unusedVariables false
set_option linter.unusedSimpArgs false

theorem bs_read {w : World} {ao : Option Addr} {len cap : Nat} {zs : List Int} (h : Bs w ao len cap zs) : (Extern.Bytes.bytesOf (.slice ao len cap)).run Try.prog w = .ok (strOfNums zs) w := by
  cases ao with
  | none =>
    obtain ⟨rfl, rfl⟩ := h.2.1.2 rfl
    have hz : zs = [] := List.eq_nil_of_length_eq_zero h.1
    subst hz
    rfl
  | some a =>
    have hc := bs_cells h a rfl
    have := Lib.run_loadBytesX (P := Try.prog) w zs a .empty (fun j x hx => hc j (.int .u8 x) (by simp [bv, hx]))
    rw [h.1] at this
    show (Extern.Bytes.loadBytes a len .empty).run Try.prog w = _
    rw [this]
    congr 1
    apply ByteArray.ext
    simp [Lib.bytesOf, strOfNums]
theorem cmp_str (xs ys : List Int) : Extern.BytealgCompare.cmp (strOfNums xs) (strOfNums ys) = cmpL (ub xs) (ub ys) := by
  have e : ∀ zs : List Int, ∀ i, (strOfNums zs)[i]! = (ub zs)[i]! := fun zs i => by
    by_cases h : i < zs.length
    · rw [getElem!_pos (strOfNums zs) i (by rw [str_size]; exact h), getElem!_pos (ub zs) i (by simp [ub, h])]
      rfl
    · rw [getElem!_neg (strOfNums zs) i (by rw [str_size]; exact h), getElem!_neg (ub zs) i (by simpa [ub] using h)]
  unfold Extern.BytealgCompare.cmp cmpL
  simp only [e, str_size]
  have hl : ∀ zs : List Int, (ub zs).length = zs.length := fun zs => by simp [ub]
  rw [hl, hl]
  cases List.find? (fun i => (ub xs)[i]! != (ub ys)[i]!) (List.range (min xs.length ys.length)) <;> rfl
theorem cmp_run {a b : Option Addr} {n c m d : Nat} {xs ys : List Int} (w : World) (h : Bs w a n c xs) (k : Bs w b m d ys) :
    (callFunc 53 #[.slice a n c, .slice b m d]).run Try.prog w = .ok (.value (.int .i64 (cmpL (ub xs) (ub ys)))) w := by
  rw [run_callFunc_extern Try.func53 (by kernel_rfl) (by kernel_rfl) (by kernel_rfl) (e := Extern.BytealgCompare.compare) (by kernel_rfl)]
  have hu : Extern.BytealgCompare.compare #[.slice a n c, .slice b m d] = (Extern.Bytes.bytesOf (.slice a n c) >>= fun x => Extern.Bytes.bytesOf (.slice b m d) >>= fun y => pure (goInt (Extern.BytealgCompare.cmp x y))) := rfl
  rw [hu]
  simp only [Sem.run_bind, bs_read h, bs_read k, Result.andThen, Sem.run_pure, cmp_str]
  rfl
theorem compare_any {a b : Option Addr} {n c m d : Nat} {xs ys : List Int} (w : World) (h : Bs w a n c xs) (k : Bs w b m d ys) :
    Calls Try.prog 35 #[.slice a n c, .slice b m d] w fun e w' => e = .returned (.int .i64 (cmpL (ub xs) (ub ys))) ∧ w' = w := by
  have hr := cmp_run w h k
  generalize cmpL (ub xs) (ub ys) = R at *
  go_enter Try.func35, Try.ntmps35
  go_wp2
  go_ret
  exact ⟨rfl, rfl⟩
set_option maxRecDepth 100000 in
theorem ahead_any (x y : He) (w : World) (hx : x.ok w) (hy : y.ok w) : Calls Try.prog 25 #[x.v, y.v] w fun e w' => e = .returned (.bool (ltB x.gz y.fz)) ∧ Below w.heap.size w w' := by
  have HX := hide hx.2.1.1
  have HY := hide hy.1.1
  have HC := hide (fun W (hW : Below w.heap.size w W) => compare_any W (HX.out.below hW (Nat.le_refl _)) (HY.out.below hW (Nat.le_refl _)))
  have HL := hide (show decide (cmpL (ub x.gz) (ub y.fz) < 0) = ltB x.gz y.fz from cmpL_less _ _)
  have HB := hide (((Below.refl w.heap.size w).alloc (Nat.le_refl _) (Obj.cells #[.int .i64 x.N, .int .i64 x.L, .slice x.fa x.fz.length x.fc, .slice x.ga x.gz.length x.gc, .int .i64 x.M] 27)).alloc (by simp) (Obj.cells #[.int .i64 y.N, .int .i64 y.L, .slice y.fa y.fz.length y.fc, .slice y.ga y.gz.length y.gc, .int .i64 y.M] 27))
  unfold He.v
  generalize cmpL (ub x.gz) (ub y.fz) = R at *
  generalize ltB x.gz y.fz = T at *
  go_enter Try.func25, Try.ntmps25
  go_wp2_with (go_at_call 35; refine (HC.out _ HB.out).mono ?_; rintro e w' ⟨rfl, rfl⟩)
  go_ret
  exact ⟨by rw [← HL.out]; rfl, HB.out⟩
set_option maxRecDepth 100000 in
theorem touch_any (x y : He) (w : World) (hx : x.ok w) (hy : y.ok w) : Calls Try.prog 13 #[x.v, y.v] w fun e w' => e = .returned (.bool (tch x y)) ∧ Below w.heap.size w w' := by
  have H1 := hide (fun W (hW : Below w.heap.size w W) => ahead_any x y W (hx.below hW (Nat.le_refl _)) (hy.below hW (Nat.le_refl _)))
  have H2 := hide (fun W (hW : Below w.heap.size w W) => ahead_any y x W (hy.below hW (Nat.le_refl _)) (hx.below hW (Nat.le_refl _)))
  have HT := hide (show tch x y = (!(x.M == 0) && (!(y.M == 0) && (!(ltB x.gz y.fz) && !(ltB y.gz x.fz)))) from rfl)
  have HB := hide (((Below.refl w.heap.size w).alloc (Nat.le_refl _) (Obj.cells #[.int .i64 x.N, .int .i64 x.L, .slice x.fa x.fz.length x.fc, .slice x.ga x.gz.length x.gc, .int .i64 x.M] 27)).alloc (by simp) (Obj.cells #[.int .i64 y.N, .int .i64 y.L, .slice y.fa y.fz.length y.fc, .slice y.ga y.gz.length y.gc, .int .i64 y.M] 27))
  generalize tch x y = T at *
  generalize ltB x.gz y.fz = A at *
  generalize ltB y.gz x.fz = B at *
  unfold He.v at *
  cases q0 : (x.M == 0) with
  | true =>
    have HT2 := hide (show T = false from by rw [HT.out, q0]; rfl)
    go_enter Try.func13, Try.ntmps13
    go_wp2
    go_ret
    exact ⟨by rw [HT2.out]; rfl, HB.out⟩
  | false =>
  cases q1 : (y.M == 0) with
  | true =>
    have HT2 := hide (show T = false from by rw [HT.out, q0, q1]; rfl)
    go_enter Try.func13, Try.ntmps13
    go_wp2
    go_ret
    exact ⟨by rw [HT2.out]; rfl, HB.out⟩
  | false =>
  have HT2 := hide (show T = (!A && !B) from by rw [HT.out, q0, q1]; rfl)
  clear HT
  go_enter Try.func13, Try.ntmps13
  go_wp2_with fail
  refine (H1.out _ HB.out).mono ?_
  rintro e w1 ⟨rfl, hb1⟩
  have hB1 := hide (HB.out.trans (hb1.mono HB.out.size))
  cases A with
  | true =>
    go_wp2
    go_ret
    exact ⟨by rw [HT2.out]; simp, hB1.out⟩
  | false =>
    have e0 : Ek w1 w.heap.size #[.int .i64 x.N, .int .i64 x.L, .slice x.fa x.fz.length x.fc, .slice x.ga x.gz.length x.gc, .int .i64 x.M] 27 := (ek_old (ek_new w _ _) _).below hb1 (by simp <;> omega)
    have e1 : Ek w1 (w.heap.size + 1) #[.int .i64 y.N, .int .i64 y.L, .slice y.fa y.fz.length y.fc, .slice y.ga y.gz.length y.gc, .int .i64 y.M] 27 := by
      have := ek_new (w.alloc (Obj.cells #[.int .i64 x.N, .int .i64 x.L, .slice x.fa x.fz.length x.fc, .slice x.ga x.gz.length x.gc, .int .i64 x.M] 27)) #[.int .i64 y.N, .int .i64 y.L, .slice y.fa y.fz.length y.fc, .slice y.ga y.gz.length y.gc, .int .i64 y.M] 27
      exact (by simpa using this : Ek _ (w.heap.size + 1) _ _).below hb1 (by simp)
    have a0 := e0.cell (o := 0) rfl
    have a1 := e0.cell (o := 1) rfl
    have a2 := e0.cell (o := 2) rfl
    have a3 := e0.cell (o := 3) rfl
    have a4 := e0.cell (o := 4) rfl
    have b0 := e1.cell (o := 0) rfl
    have b1 := e1.cell (o := 1) rfl
    have b2 := e1.cell (o := 2) rfl
    have b3 := e1.cell (o := 3) rfl
    have b4 := e1.cell (o := 4) rfl
    clear e0 e1
    go_wp2_with fail
    refine (H2.out _ hB1.out).mono ?_
    rintro e w2 ⟨rfl, hb2⟩
    go_wp2
    go_ret
    exact ⟨by rw [HT2.out]; simp, hB1.out.trans (hb2.mono hB1.out.size)⟩

end Go.Proofs.Ytcbphalhjajapaa.Clep
