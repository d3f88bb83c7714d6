/- What tower.take, build, isHeight, New and Len of package skip do when called. No conditions but that the List lies in memory. -/
import Derived.Test.YtjpoahnecbefaaaDoorTJoin
namespace Go.Proofs.YtjpoahnecbefaaaDoor.Clep
open Go.RowKit
set_option linter.unusedVariables false

set_option maxHeartbeats 800000 in
theorem take_any (w : World) (Z : Sk) (ts : List Nat) (t : Nat) (S K T V X : Int) (h : Hp w Z ts) (ht : t ∈ ts) (d : Bool) (hd : (It.mk S K T V X).wins (Z.x t) = d) :
    Calls Tryd.prog 43 #[.pointer (some ⟨t, 0, none⟩), .agg #[.int .i64 S, .int .i64 K, .int .u64 T, .int .u64 V, .int .i64 X]] w fun e w' =>
      e = .returned (.bool d) ∧ (d = false → Below w.heap.size w w') ∧ (d = true → Hp w' (Z.put t w.heap.size ⟨S, K, T, V, X⟩) ts ∧ Ch (fun b => b = t) w w' ∧ w.heap.size < w'.heap.size) := by
  obtain ⟨w0, hw0⟩ : ∃ w0, w0 = w.alloc (Obj.cells #[Value.int IntKind.i64 S, Value.int IntKind.i64 K, Value.int IntKind.u64 T, Value.int IntKind.u64 V, Value.int IntKind.i64 X] 32) := ⟨_, rfl⟩
  have B0 : Below w.heap.size w w0 := by rw [hw0]; exact (Below.refl _ _).alloc (Nat.le_refl _) _
  have hx := vi_new w S K T V X
  have hbx : Blk w0 w.heap.size (itV ⟨S, K, T, V, X⟩) 32 := by
    rw [hw0]
    unfold Blk
    rw [Deep.blk_alloc_new]; rfl
  rw [← hw0] at hx
  have h0 := h.keep B0
  have HX := hide hx
  have HB0 := hide B0
  have hL := hide (loadPI ⟨t, 0, none⟩ (some (Z.i t)) w0 (h0.tw t ht).c0 (fun b hb => by cases hb; exact (h0.tw t ht).itm.shape))
  have HVI := hide (h0.tw t ht).vi
  have hC := hide (fun W (hW : Below w0.heap.size w0 W) => casPI ⟨t, 0, none⟩ (some (Z.i t)) (some w.heap.size) W ((h0.keep hW).tw t ht).c0 (((h0.keep hW).tw t ht).tow.free 0) (fun b hb => by cases hb; exact ((h0.keep hW).tw t ht).itm.shape) (fun b hb => by cases hb; exact (hbx.keep hW).shape))
  have HS := hide (fun W (hW : Below w0.heap.size w0 W) => (h0.keep hW).setItem ht (hbx.keep hW))
  have hlt := hide (show w.heap.size < w0.heap.size from hbx.lt)
  obtain ⟨R, hR⟩ : ∃ R, R = w.heap.size := ⟨_, rfl⟩
  have HR := hide hR
  rw [← hR] at HX hC HS hlt ⊢
  have c00 := (h0.tw t ht).c0
  rw [hw0] at c00
  have hdd := hide (show winsI V X (Z.x t).V (Z.x t).X = d from hd)
  obtain ⟨S1, K1, T1, V1, X1, ex⟩ : ∃ S1 K1 T1 V1 X1, Z.x t = ⟨S1, K1, T1, V1, X1⟩ := ⟨_, _, _, _, _, rfl⟩
  rw [ex] at HVI hdd
  simp only at HVI hdd
  obtain ⟨iz, hiz⟩ : ∃ iz, iz = Z.i t := ⟨_, rfl⟩
  rw [← hiz] at HVI hL hC
  clear h h0 hx hbx B0 hd ex hiz
  go_enter Tryd.func43, Tryd.ntmps43
  go_wp2_with fail
  rw [← hw0, ← hR]
  clear hw0 hR c00
  refine hL.out.mono ?_
  rintro e w1 ⟨rfl, rfl⟩
  have hpt : pt (some iz) = .pointer (some ⟨iz, 0, none⟩) := rfl
  rw [hpt]
  clear hpt hL
  go_wp2_with fail
  go_loopw [5] (fun u wr => u = .pointer (some ⟨iz, 0, none⟩) ∧ wr = w1) (fun _ _ => 0)
  case atStart => exact ⟨rfl, rfl⟩
  case round =>
    obtain ⟨rfl, rfl⟩ := hrel
    have hne : Nonempty (Kp wr) := ⟨⟨_, Below.refl _ _⟩⟩
    have d0 : ∀ p : Kp wr, p.W.cell? ⟨R, 0, none⟩ = some (.int .i64 S) := fun p => (Vi.keep HX.out p.h).1
    have d1 : ∀ p : Kp wr, p.W.cell? ⟨R, 1, none⟩ = some (.int .i64 K) := fun p => (Vi.keep HX.out p.h).2.1
    have d2 : ∀ p : Kp wr, p.W.cell? ⟨R, 2, none⟩ = some (.int .u64 T) := fun p => (Vi.keep HX.out p.h).2.2.1
    have d3 : ∀ p : Kp wr, p.W.cell? ⟨R, 3, none⟩ = some (.int .u64 V) := fun p => (Vi.keep HX.out p.h).2.2.2.1
    have d4 : ∀ p : Kp wr, p.W.cell? ⟨R, 4, none⟩ = some (.int .i64 X) := fun p => (Vi.keep HX.out p.h).2.2.2.2
    have f0 : ∀ p : Kp wr, p.W.cell? ⟨iz, 0, none⟩ = some (.int .i64 S1) := fun p => (Vi.keep HVI.out p.h).1
    have f1 : ∀ p : Kp wr, p.W.cell? ⟨iz, 1, none⟩ = some (.int .i64 K1) := fun p => (Vi.keep HVI.out p.h).2.1
    have f2 : ∀ p : Kp wr, p.W.cell? ⟨iz, 2, none⟩ = some (.int .u64 T1) := fun p => (Vi.keep HVI.out p.h).2.2.1
    have f3 : ∀ p : Kp wr, p.W.cell? ⟨iz, 3, none⟩ = some (.int .u64 V1) := fun p => (Vi.keep HVI.out p.h).2.2.2.1
    have f4 : ∀ p : Kp wr, p.W.cell? ⟨iz, 4, none⟩ = some (.int .i64 X1) := fun p => (Vi.keep HVI.out p.h).2.2.2.2
    have cs : Hid (∀ p : Kp wr, Calls Tryd.prog 62 #[.agg #[.int .i64 S, .int .i64 K, .int .u64 T, .int .u64 V, .int .i64 X], .agg #[.int .i64 S1, .int .i64 K1, .int .u64 T1, .int .u64 V1, .int .i64 X1]] p.W fun e w'' => e = .returned (.bool (winsI V X V1 X1)) ∧ ∃ q : Kp wr, w'' = q.W) := hide fun p => kp_call (wins_any S K T V X S1 K1 T1 V1 X1 _)
    rw [hdd.out] at cs
    go_wp2_with fail
    refine wp_region_kept (by kernel_rfl) (by kernel_rfl) ?_
    repeat (first
      | go_big_quiet_step (first | (go_at_call 62; exact cs.out _))
      | fail)
    refine wpQuiet_nil ?_
    intro w4 hw'
    have HB4 : Hid (Below wr.heap.size wr w4) := by
      obtain ⟨⟨w3', hb3⟩, hw''⟩ := hw'
      rw [hw'']; exact hide hb3
    clear hw' hne d0 d1 d2 d3 d4 f0 f1 f2 f3 f4 cs
    have B4 := hide (bmore HB0.out HB4.out)
    cases d with
    | false =>
      go_wp2
      go_ret
      exact ⟨rfl, by first | exact B4.out | (rw [HR.out]; exact B4.out)⟩
    | true =>
      have C4 := hide (hC.out _ HB4.out)
      have H4 := hide (HS.out _ HB4.out)
      have K4 := hide (Ch.trans (Ch.of (P := fun b => b = t) B4.out) (Ch.set w4 ⟨t, 0, none⟩ (pt (some R)) rfl))
      go_wp2_with fail
      refine C4.out.mono ?_
      rintro e w5 ⟨rfl, rfl⟩
      go_wp2
      go_ret
      exact ⟨rfl, ⟨H4.out, K4.out, Nat.lt_of_lt_of_le hlt.out (by rw [Deep.nblk_setCell]; exact HB4.out.size)⟩⟩

set_option maxRecDepth 100000 in
theorem isHeight_any (n : Int) (w : World) :
    Calls Tryd.prog 41 #[.int .i64 n] w fun e w' => e = .returned (.bool (decide (1 ≤ n ∧ n ≤ 6))) ∧ w' = w := by
  by_cases h0 : 1 ≤ n
  · by_cases h1 : n ≤ 6
    · rw [show decide (1 ≤ n ∧ n ≤ 6) = true from by simp; omega]
      go_enter Tryd.func41, Tryd.ntmps41
      go_wp2
      go_ret
      exact ⟨rfl, rfl⟩
    · rw [show decide (1 ≤ n ∧ n ≤ 6) = false from by simp; omega]
      go_enter Tryd.func41, Tryd.ntmps41
      go_wp2
      go_ret
      exact ⟨rfl, rfl⟩
  · rw [show decide (1 ≤ n ∧ n ≤ 6) = false from by simp; omega]
    go_enter Tryd.func41, Tryd.ntmps41
    go_wp2
    go_ret
    exact ⟨rfl, rfl⟩

/-- What build makes. -/
structure Built (w w' : World) (x : It) (m : Nat) : Prop where
  b : Below w.heap.size w w'
  sz : w'.heap.size = w.heap.size + 3
  itm : Blk w' w.heap.size (itV x) 32
  lnk : Blk w' (w.heap.size + 1) ((List.range m).map fun _ => pt none).toArray 111
  tow : Blk w' (w.heap.size + 2) #[pt (some w.heap.size), .slice (some ⟨w.heap.size + 1, 0, none⟩) m m] 104
theorem built_any (w : World) (x : It) (m : Nat) (hm : 1 ≤ m ∧ m ≤ 6) : Built w ((((w.alloc (Obj.cells (itV x) 32)).alloc (Obj.cells ((List.range m).map fun _ => pt none).toArray 111)).alloc
    (Obj.cells #[.pointer none, .slice (some ⟨w.heap.size + 1, 0, none⟩) m m] 104)).setCell ⟨w.heap.size + 2, 0, none⟩ (pt (some w.heap.size))) x m := by
  refine ⟨?_, ?_, ?_, ?_, ?_⟩
  · refine Below.setCell ((((Below.refl _ w).alloc (Nat.le_refl _) _).alloc (by simp) _).alloc (by simp; omega) _) (by simp) _
  · rw [Deep.nblk_setCell, Deep.nblk_alloc, Deep.nblk_alloc, Deep.nblk_alloc]
  · refine Blk.other ?_ _ _ (by simp)
    unfold Blk
    rw [Deep.blk_alloc_lt _ _ _ (by rw [Deep.nblk_alloc, Deep.nblk_alloc]; omega), Deep.blk_alloc_lt _ _ _ (by rw [Deep.nblk_alloc]; omega), Deep.blk_alloc_new]
  · refine Blk.other ?_ _ _ (by simp)
    unfold Blk
    rw [Deep.blk_alloc_lt _ _ _ (by rw [Deep.nblk_alloc, Deep.nblk_alloc]; omega)]
    have e : w.heap.size + 1 = (w.alloc (Obj.cells (itV x) 32)).heap.size := by rw [Deep.nblk_alloc]
    rw [e, Deep.blk_alloc_new]
  · have e : w.heap.size + 2 = ((w.alloc (Obj.cells (itV x) 32)).alloc (Obj.cells ((List.range m).map fun _ => pt none).toArray 111)).heap.size := by rw [Deep.nblk_alloc, Deep.nblk_alloc]
    have hb : Blk (((w.alloc (Obj.cells (itV x) 32)).alloc (Obj.cells ((List.range m).map fun _ => pt none).toArray 111)).alloc
      (Obj.cells #[.pointer none, .slice (some ⟨w.heap.size + 1, 0, none⟩) m m] 104)) (w.heap.size + 2) #[.pointer none, .slice (some ⟨w.heap.size + 1, 0, none⟩) m m] 104 := by
      unfold Blk
      conv => lhs; rw [e]
      rw [Deep.blk_alloc_new]
    exact hb.set 0 (pt (some w.heap.size))
theorem infoP : (Tryd.prog.info? 111).map (fun i => (i.zero, i.size, i.bytes)) = some (some (.agg #[.pointer none]), 1, 8) := by kernel_rfl
theorem makeL (w : World) (m : Nat) (hm : 1 ≤ m ∧ m ≤ 6) : (Instr.makeSlice 97 (.int .i64 m) (.int .i64 m)).run Tryd.prog w =
    .ok (.slice (some ⟨w.heap.size, 0, none⟩) m m) (w.alloc (.cells ((List.range m).map fun _ => pt none).toArray 111)) := by
  obtain ⟨i, hi, hz0, hz1, hz2⟩ := info_parts infoP
  rw [run_make w 97 111 i _ Tryd.underlying97 hi hz0 .i64 .i64 m m (by omega) (by omega) (by rw [hz2]; omega) (by omega), hz1]
  have hc : madeCells (Value.agg #[Value.pointer none]).cells m = ((List.range m).map fun _ => pt none).toArray := by
    have h1 : (Value.agg #[Value.pointer none]).cells = #[Value.pointer none] := by kernel_rfl
    rw [h1]
    unfold madeCells
    refine Array.ext (by simp) fun i h1 h2 => ?_
    simp [Nat.mod_one, pt]
  rw [show ((m : Int).toNat * 1) = m from by omega, show (m : Int).toNat = m from by omega, hc]
set_option maxHeartbeats 800000 in
theorem build_any (w : World) (S K T V X : Int) (m : Nat) (hm : 1 ≤ m ∧ m ≤ 6) :
    Calls Tryd.prog 39 #[.agg #[.int .i64 S, .int .i64 K, .int .u64 T, .int .u64 V, .int .i64 X], .int .i64 m] w fun e w' => e = .returned (.pointer (some ⟨w.heap.size + 2, 0, none⟩)) ∧ Built w w' ⟨S, K, T, V, X⟩ m := by
  have hb := hide (built_any w ⟨S, K, T, V, X⟩ m hm)
  have hmk := makeL (w.alloc (Obj.cells #[Value.int IntKind.i64 S, Value.int IntKind.i64 K, Value.int IntKind.u64 T, Value.int IntKind.u64 V, Value.int IntKind.i64 X] 32)) m hm
  rw [Deep.nblk_alloc] at hmk
  unfold itV at hb
  simp only at hb
  generalize (List.map (fun _ => pt none) (List.range m)).toArray = cs at *
  obtain ⟨w3, hw3⟩ : ∃ w3, w3 = ((w.alloc (Obj.cells #[Value.int IntKind.i64 S, Value.int IntKind.i64 K, Value.int IntKind.u64 T, Value.int IntKind.u64 V, Value.int IntKind.i64 X] 32)).alloc (Obj.cells cs 111)).alloc (Obj.cells #[.pointer none, .slice (some ⟨w.heap.size + 1, 0, none⟩) m m] 104) := ⟨_, rfl⟩
  have ht : Blk w3 (w.heap.size + 2) #[.pointer none, .slice (some ⟨w.heap.size + 1, 0, none⟩) m m] 104 := by
    have e : w.heap.size + 2 = ((w.alloc (Obj.cells #[Value.int IntKind.i64 S, Value.int IntKind.i64 K, Value.int IntKind.u64 T, Value.int IntKind.u64 V, Value.int IntKind.i64 X] 32)).alloc (Obj.cells cs 111)).heap.size := by rw [Deep.nblk_alloc, Deep.nblk_alloc]
    rw [hw3]
    unfold Blk
    conv => lhs; rw [e]
    rw [Deep.blk_alloc_new]
  have hi : Blk w3 w.heap.size #[Value.int IntKind.i64 S, Value.int IntKind.i64 K, Value.int IntKind.u64 T, Value.int IntKind.u64 V, Value.int IntKind.i64 X] 32 := by
    rw [hw3]
    unfold Blk
    rw [Deep.blk_alloc_lt _ _ _ (by rw [Deep.nblk_alloc, Deep.nblk_alloc]; omega), Deep.blk_alloc_lt _ _ _ (by rw [Deep.nblk_alloc]; omega), Deep.blk_alloc_new]
  have C1 := hide (storePI ⟨w.heap.size + 2, 0, none⟩ _ (some w.heap.size) w3 (ht.cell rfl) (ht.free 0) (fun b hb => by cases hb; exact hi.shape))
  have hw3' := hide hw3
  have c0 := ht.cell (o := 0) rfl
  clear ht hi
  go_enter Tryd.func39, Tryd.ntmps39
  go_wp2_with fail
  rw [← hw3]
  refine C1.out.mono ?_
  rintro e w4 ⟨rfl, hw4⟩
  have HB : Hid (Built w w4 ⟨S, K, T, V, X⟩ m) := by rw [hw4, hw3]; exact hb
  clear hw4 hw3 hw3' hb c0 C1 hmk
  go_wp2
  go_ret
  exact ⟨rfl, HB.out⟩

/-- A List of no items. -/
def Sk.new (b : Nat) : Sk := ⟨b + 3, b + 2, 0, [], fun _ => b + 1, fun _ => 6, fun _ => 0, fun _ => b, fun _ => ⟨0, 0, 0, 0, 0⟩, fun _ _ => none⟩
theorem pu_new (b : Nat) : Pu (Sk.new b) := ⟨by simp [Sk.new], List.Pairwise.nil, fun j hj => rfl, fun t ht => (by cases ht), fun t ht => (by cases ht), rfl, rfl⟩
set_option maxHeartbeats 400000 in
theorem new_any (w : World) :
    Calls Tryd.prog 20 #[] w fun e w' => e = .returned (.pointer (some ⟨w.heap.size + 3, 0, none⟩)) ∧ Hp w' (Sk.new w.heap.size) [w.heap.size + 2] ∧ Below w.heap.size w w' ∧ w'.heap.size = w.heap.size + 4 := by
  have hB := hide (build_any w 0 0 0 0 0 6 (by omega))
  go_enter Tryd.func20, Tryd.ntmps20
  go_wp2_with fail
  refine hB.out.mono ?_
  rintro e w1 ⟨rfl, hb⟩
  have HB := hide hb
  have hs := hb.sz
  have hend : Hid (Hp (w1.alloc (Obj.cells #[.pointer (some ⟨w.heap.size + 2, 0, none⟩), .int .i64 0] 78)) (Sk.new w.heap.size) [w.heap.size + 2] ∧ Below w.heap.size w (w1.alloc (Obj.cells #[.pointer (some ⟨w.heap.size + 2, 0, none⟩), .int .i64 0] 78)) ∧ (w1.alloc (Obj.cells #[.pointer (some ⟨w.heap.size + 2, 0, none⟩), .int .i64 0] 78)).heap.size = w.heap.size + 4) := by
    have b2 : Below w1.heap.size w1 (w1.alloc (Obj.cells #[.pointer (some ⟨w.heap.size + 2, 0, none⟩), .int .i64 0] 78)) := (Below.refl _ _).alloc (Nat.le_refl _) _
    refine ⟨⟨?_, fun t ht => ?_, fun s hs t ht _ => (by rw [List.mem_singleton.1 hs, List.mem_singleton.1 ht]), fun t ht j hj b hb => (by cases hb)⟩, bmore hb.b b2, by rw [Deep.nblk_alloc, hs]⟩
    · unfold Blk
      rw [show (Sk.new w.heap.size).L = w1.heap.size from by rw [hs]; rfl, Deep.blk_alloc_new]; rfl
    · rw [List.mem_singleton.1 ht]
      exact ⟨hb.tow.keep b2, hb.lnk.keep b2, hb.itm.keep b2, ⟨(by decide : 1 ≤ 6), (by decide : 6 ≤ 6)⟩⟩
  obtain ⟨L, hL⟩ : ∃ L, L = w1.heap.size := ⟨_, rfl⟩
  have HL := hide (show w.heap.size + 3 = L by rw [hL, hs])
  clear hb hs HB hB
  go_wp2_with fail
  rw [← hL]
  clear hL
  go_wp2
  go_ret
  exact ⟨by rw [HL.out]; rfl, hend.out⟩

theorem len_any (w : World) (Z : Sk) (ts : List Nat) (h : Hp w Z ts) : Calls Tryd.prog 24 #[.pointer (some ⟨Z.L, 0, none⟩)] w fun e w' => e = .returned (.int .i64 Z.n) ∧ w' = w := by
  have c0 : w.cell? ⟨Z.L, 0, none⟩ = some (pt (some Z.f)) := h.head.cell rfl
  have hL := hide (loadN ⟨Z.L, 1, none⟩ Z.n w (h.head.cell rfl))
  go_enter Tryd.func24, Tryd.ntmps24
  go_wp2_with fail
  refine hL.out.mono ?_
  rintro e w1 ⟨rfl, rfl⟩
  go_wp2
  go_ret
  exact ⟨rfl, rfl⟩

end Go.Proofs.YtjpoahnecbefaaaDoor.Clep
