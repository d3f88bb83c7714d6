/- MergeHides: a delete in a row of its own hides the samples of its series in all rows that are not above it, and no other ones, walked. No conditions. -/
import Derived.Test.YtkkcchklefcljaaVHidesMath
import Derived.Test.YtkkcchklefcljaaVStep
import Derived.Test.YtkkcchklefcljaaVTwoWalk
import Derived.Deep.RegionHeldLaw
namespace Go.Proofs.Ytkkcchklefcljaa.Clep
open Go.RowKit
set_option linter.unusedVariables false

theorem mand48 (a : Int) : 0 ≤ bits .and .u64 a 281474976710655 ∧ bits .and .u64 a 281474976710655 ≤ 281474976710655 := by
  have e : bits .and .u64 a 281474976710655 = IntKind.u64.wrap ((BitVec.ofInt 64 a &&& BitVec.ofInt 64 281474976710655).toNat : Int) := rfl
  have hle : (BitVec.ofInt 64 a &&& BitVec.ofInt 64 281474976710655).toNat ≤ 281474976710655 := by
    rw [BitVec.toNat_and]; exact Nat.le_trans Nat.and_le_right (by decide)
  rw [e]
  generalize (BitVec.ofInt 64 a &&& BitVec.ofInt 64 281474976710655).toNat = k at *
  simp [IntKind.wrap, IntKind.bits, IntKind.signed]
  omega
theorem mand8' (a : Int) : 0 ≤ bits .and .i64 a 255 ∧ bits .and .i64 a 255 ≤ 255 := by
  have e : bits .and .i64 a 255 = IntKind.i64.wrap ((BitVec.ofInt 64 a &&& BitVec.ofInt 64 255).toNat : Int) := rfl
  have hle : (BitVec.ofInt 64 a &&& BitVec.ofInt 64 255).toNat ≤ 255 := by
    rw [BitVec.toNat_and]; exact Nat.le_trans Nat.and_le_right (by decide)
  rw [e]
  generalize (BitVec.ofInt 64 a &&& BitVec.ofInt 64 255).toNat = k at *
  simp [IntKind.wrap, IntKind.bits, IntKind.signed]
  omega
theorem neq_self2 (S K T V X : Int) (w : World) : (binOp .neq 36 (.agg #[.int .i64 S, .int .i64 K, .int .u64 T, .int .u64 V, .int .i64 X]) (.agg #[.int .i64 S, .int .i64 K, .int .u64 T, .int .u64 V, .int .i64 X])).run Try.prog w = .ok (.bool false) w := by
  go_simp
set_option maxRecDepth 100000 in
set_option maxHeartbeats 8000000 in
theorem hides_walk (a : Option Addr) (n c : Nat) (zs : List Sl) (s v : Int) (w : World) (h : Rws w a n c zs) (hn : n ≤ 9223372036854775807) :
    Calls Try.prog 8 #[.slice a n c, .int .i64 s, .int .u64 v] w fun e w' => e = .returned (.bool true) ∧ Below w.heap.size w w' := by
  have CR := hide (lrows_any a n c zs w h hn)
  have hR := hide (lawR_rise zs)
  have hK := hide (lawR_ok zs)
  have hL := hide (lawR_len zs)
  have hS := lawR_size zs
  generalize lawR zs = ls at *
  obtain ⟨A, hA⟩ : ∃ A, bits .and .i64 s 255 = A := ⟨_, rfl⟩
  obtain ⟨B, hB⟩ : ∃ B, bits .and .u64 v 281474976710655 = B := ⟨_, rfl⟩
  have hA8 := mand8' s
  have hB8 := mand48 v
  rw [hA] at hA8
  rw [hB] at hB8
  have hflat : Hid (ls.flatten.length ≤ 320) := hide (by
    have h1 : ∀ m : List (List It), (∀ l ∈ m, l.length ≤ 40) → m.flatten.length ≤ m.length * 40 := fun m => by
      induction m with
      | nil => intro _; simp
      | cons a m ih =>
        intro hm
        have := ih (fun l hl => hm l (by simp [hl]))
        have := hm a (by simp)
        simp only [List.flatten_cons, List.length_append, List.length_cons]; omega
    have h2 := h1 ls hL.out
    omega)
  have htw : Hid (It.wf ⟨A, 1, 0, B + 1, 0⟩) := hide (by unfold It.wf; simp; omega)
  have hto : Hid (It.ok ⟨A, 1, 0, B + 1, 0⟩ = true) := hide (by rw [ok_iff]; simp; omega)
  clear h
  go_enter Try.func8, Try.ntmps8
  go_wp2_with fail
  refine CR.out.mono ?_
  rintro e w1 ⟨a1, n1, c1, ys, rfl, hr, hc1, hym, hb1⟩
  have hn8 : n1 ≤ 8 := by have := congrArg List.length hym; rw [List.length_map, hr.1] at this; omega
  have hsz : sumL ys ≤ 320 := by rw [← flat_len, hym]; exact hflat.out
  have A1 := (Below.refl _ w1).alloc (Nat.le_refl _) (Obj.cells #[Value.int IntKind.i64 A, Value.int IntKind.i64 1, Value.int IntKind.u64 0, Value.int IntKind.u64 (B + 1), Value.int IntKind.i64 0] 36)
  have V1 := vi_new w1 A 1 0 (B + 1) 0
  obtain ⟨w3, hw3⟩ : ∃ w3, w3 = w1.alloc (Obj.cells #[Value.int IntKind.i64 A, Value.int IntKind.i64 1, Value.int IntKind.u64 0, Value.int IntKind.u64 (B + 1), Value.int IntKind.i64 0] 36) := ⟨_, rfl⟩
  rw [← hw3] at A1 V1
  have HR3 := hide (fun W (hW : Below w3.heap.size w3 W) => hr.below (bmore A1 hW) (Nat.le_refl _))
  have HV3 := hide V1
  have B3 := hide (bmore hb1 A1)
  have hyl := hide hr.1
  have HYM := hide hym
  clear CR hr hym hb1 A1 V1
  go_upto_region 3 with fail
  rw [← hw3]
  clear hw3
  obtain ⟨R, hRR⟩ : ∃ R, w1.heap.size = R := ⟨_, rfl⟩
  rw [hRR] at HV3 ⊢
  clear hRR
  go_cut [9] from 22 to 33 (fun s9 wx => ∃ (a9 : Option Addr) (n9 c9 : Nat), s9 = .slice a9 n9 c9 ∧ Hid (Is wx a9 n9 c9 (ofL (ls.flatten ++ [⟨A, 1, 0, B + 1, 0⟩]))) ∧ Hid (Below w3.heap.size w3 wx))
  case first =>
    have HK : Hid (∀ W, Below w3.heap.size w3 W → (Below w3.heap.size w3 W ∧ W.cell? ⟨R, 0, none⟩ = some (.int .i64 A) ∧ W.cell? ⟨R, 1, none⟩ = some (.int .i64 1) ∧ W.cell? ⟨R, 2, none⟩ = some (.int .u64 0) ∧ W.cell? ⟨R, 3, none⟩ = some (.int .u64 (B + 1)) ∧ W.cell? ⟨R, 4, none⟩ = some (.int .i64 0))) := hide fun W hW => ⟨hW, by have := HV3.out.keep hW; unfold Vi at this; simpa using this⟩
    have hAl : Hid (∀ (W : World) (o : Obj), Below w3.heap.size w3 W → Below w3.heap.size w3 (W.alloc o)) := hide fun W o hW => hW.alloc hW.size o
    have hb0 : Below w3.heap.size w3 w3 := Below.refl _ _
    have hln := hide (show ([] : List Sl).length + n1 ≤ 1000 by simp; omega)
    have hln2 := hide (show ys.length + 1 ≤ 1000 by rw [hyl.out]; omega)
    have hle0 : w3.heap.size ≤ w3.heap.size := Nat.le_refl _
    have cR : Hid (∀ (W : World) (v : Value) (p : Nat), Below w3.heap.size w3 W → OwnS W w3.heap.size v (ys ++ [⟨some ⟨p, 0, none⟩, 1, 1, [⟨A, 1, 0, B + 1, 0⟩]⟩]) → W.heap[p]? = some (Obj.cells #[Value.int IntKind.i64 A, Value.int IntKind.i64 1, Value.int IntKind.u64 0, Value.int IntKind.u64 (B + 1), Value.int IntKind.i64 0] 36) → Calls Try.prog 10 #[v] W fun e w' => ∃ L a' n' c', e = .returned (.slice a' n' c') ∧ Rs w' a' n' c' (ls ++ [[⟨A, 1, 0, B + 1, 0⟩]]) L ∧ Below w3.heap.size w3 w') := hide fun W v p hW ho hp => by
      obtain ⟨a', c', rfl, hr', hc'⟩ := ownS_rws ho (fun z hz => by
        rcases List.mem_append.1 hz with e | e
        · exact (HR3.out W hW).2.2.1 z e
        · rw [List.mem_singleton.1 e]; exact ⟨is_block htw.out hp, by show 1 ≤ _; omega⟩)
      refine (mrows_any _ a' _ c' _ W (Nat.le_refl _) hr' hc' (by simp; have := hyl.out; omega) (by simp only [sumL, List.map_append, List.sum_append] at *; simp; omega)).mono ?_
      rintro e w' ⟨L, a2, n2, c2, rfl, rs, hb, _⟩
      rw [List.map_append, HYM.out] at rs
      exact ⟨L, a2, n2, c2, rfl, rs, bmore hW hb⟩
    have cC : Hid (∀ (W : World) (L : List It) (a' : Option Addr) (n' c' : Nat), Below w3.heap.size w3 W → Rs W a' n' c' (ls ++ [[⟨A, 1, 0, B + 1, 0⟩]]) L → Calls Try.prog 12 #[.slice a' n' c'] W fun e w' => ∃ a2 n2 c2, e = .returned (.slice a2 n2 c2) ∧ Is w' a2 n2 c2 (ofL (ls.flatten ++ [⟨A, 1, 0, B + 1, 0⟩])) ∧ Below w3.heap.size w3 w') := hide fun W L a' n' c' hW rs => by
      have hcs := clean_state rs.mrg (fun l hl => by
        rcases List.mem_append.1 hl with e | e
        · exact hR.out l e
        · rw [List.mem_singleton.1 e]; exact rise_one _) (fun l hl x hx => by
        rcases List.mem_append.1 hl with e | e
        · exact hK.out l e x hx
        · rw [List.mem_singleton.1 e] at hx
          rw [List.mem_singleton.1 hx]; exact hto.out)
      have hfl : (ls ++ [[(⟨A, 1, 0, B + 1, 0⟩ : It)]]).flatten = ls.flatten ++ [⟨A, 1, 0, B + 1, 0⟩] := by simp
      rw [hfl] at hcs
      have hn' : n' ≤ 321 := by
        rw [← rs.is.1]
        have := rs.mrg.len
        rw [hfl, List.length_append] at this
        have := hflat.out
        simp at *; omega
      refine (clean_any a' n' c' L W rs.is (by omega)).mono ?_
      rintro e w' ⟨a2, n2, c2, rfl, hI, hc, hb⟩
      rw [hcs] at hI
      exact ⟨a2, n2, c2, rfl, hI, bmore hW hb⟩
    have eA : ((w3.alloc (Obj.cells #[] 25)).drew).heap[w3.heap.size]? = some (Obj.cells #[] 25) := hpD (hpS _ _ _ (by first | rfl | simp))
    have eB : (((w3.alloc (Obj.cells #[] 25)).alloc (Obj.cells #[Value.int IntKind.i64 A, Value.int IntKind.i64 1, Value.int IntKind.u64 0, Value.int IntKind.u64 (B + 1), Value.int IntKind.i64 0] 36)).drew).heap[w3.heap.size]? = some (Obj.cells #[] 25) := hpD (hpO _ (hpS _ _ _ (by first | rfl | simp)))
    have eC : (((w3.alloc (Obj.cells #[Value.int IntKind.i64 A, Value.int IntKind.i64 1, Value.int IntKind.u64 0, Value.int IntKind.u64 (B + 1), Value.int IntKind.i64 0] 36)).alloc (Obj.cells #[] 25)).drew).heap[w3.heap.size + 1]? = some (Obj.cells #[] 25) := hpD (hpS _ _ _ (by first | rfl | simp))
    have eD : ((((w3.alloc (Obj.cells #[] 25)).alloc (Obj.cells #[Value.int IntKind.i64 A, Value.int IntKind.i64 1, Value.int IntKind.u64 0, Value.int IntKind.u64 (B + 1), Value.int IntKind.i64 0] 36)).alloc (Obj.cells #[Value.slice (some ⟨w3.heap.size + 1, 0, none⟩) 1 1] 25)).drew).heap[w3.heap.size]? = some (Obj.cells #[] 25) := hpD (hpO _ (hpO _ (hpS _ _ _ (by first | rfl | simp))))
    have eF : ((((w3.alloc (Obj.cells #[Value.int IntKind.i64 A, Value.int IntKind.i64 1, Value.int IntKind.u64 0, Value.int IntKind.u64 (B + 1), Value.int IntKind.i64 0] 36)).alloc (Obj.cells #[] 25)).alloc (Obj.cells #[Value.slice (some ⟨w3.heap.size, 0, none⟩) 1 1] 25)).drew).heap[w3.heap.size + 1]? = some (Obj.cells #[] 25) := hpD (hpO _ (hpS _ _ _ (by first | rfl | simp)))
    have eG : ((((w3.alloc (Obj.cells #[Value.int IntKind.i64 A, Value.int IntKind.i64 1, Value.int IntKind.u64 0, Value.int IntKind.u64 (B + 1), Value.int IntKind.i64 0] 36)).alloc (Obj.cells #[Value.slice (some ⟨w3.heap.size, 0, none⟩) 1 1] 25)).alloc (Obj.cells #[] 25)).drew).heap[w3.heap.size + 1 + 1]? = some (Obj.cells #[] 25) := hpD (hpS _ _ _ (by first | rfl | simp))
    have tB : (((w3.alloc (Obj.cells #[] 25)).alloc (Obj.cells #[Value.int IntKind.i64 A, Value.int IntKind.i64 1, Value.int IntKind.u64 0, Value.int IntKind.u64 (B + 1), Value.int IntKind.i64 0] 36)).drew).heap[w3.heap.size + 1]? = some (Obj.cells #[Value.int IntKind.i64 A, Value.int IntKind.i64 1, Value.int IntKind.u64 0, Value.int IntKind.u64 (B + 1), Value.int IntKind.i64 0] 36) := hpD (hpS _ _ _ (by first | rfl | simp))
    have tC : (((w3.alloc (Obj.cells #[Value.int IntKind.i64 A, Value.int IntKind.i64 1, Value.int IntKind.u64 0, Value.int IntKind.u64 (B + 1), Value.int IntKind.i64 0] 36)).alloc (Obj.cells #[] 25)).drew).heap[w3.heap.size]? = some (Obj.cells #[Value.int IntKind.i64 A, Value.int IntKind.i64 1, Value.int IntKind.u64 0, Value.int IntKind.u64 (B + 1), Value.int IntKind.i64 0] 36) := hpD (hpO _ (hpS _ _ _ (by first | rfl | simp)))
    have tD : ((((w3.alloc (Obj.cells #[] 25)).alloc (Obj.cells #[Value.int IntKind.i64 A, Value.int IntKind.i64 1, Value.int IntKind.u64 0, Value.int IntKind.u64 (B + 1), Value.int IntKind.i64 0] 36)).alloc (Obj.cells #[Value.slice (some ⟨w3.heap.size + 1, 0, none⟩) 1 1] 25)).drew).heap[w3.heap.size + 1]? = some (Obj.cells #[Value.int IntKind.i64 A, Value.int IntKind.i64 1, Value.int IntKind.u64 0, Value.int IntKind.u64 (B + 1), Value.int IntKind.i64 0] 36) := hpD (hpO _ (hpS _ _ _ (by first | rfl | simp)))
    have tF : ((((w3.alloc (Obj.cells #[Value.int IntKind.i64 A, Value.int IntKind.i64 1, Value.int IntKind.u64 0, Value.int IntKind.u64 (B + 1), Value.int IntKind.i64 0] 36)).alloc (Obj.cells #[] 25)).alloc (Obj.cells #[Value.slice (some ⟨w3.heap.size, 0, none⟩) 1 1] 25)).drew).heap[w3.heap.size]? = some (Obj.cells #[Value.int IntKind.i64 A, Value.int IntKind.i64 1, Value.int IntKind.u64 0, Value.int IntKind.u64 (B + 1), Value.int IntKind.i64 0] 36) := hpD (hpO _ (hpO _ (hpS _ _ _ (by first | rfl | simp))))
    have tG : ((((w3.alloc (Obj.cells #[Value.int IntKind.i64 A, Value.int IntKind.i64 1, Value.int IntKind.u64 0, Value.int IntKind.u64 (B + 1), Value.int IntKind.i64 0] 36)).alloc (Obj.cells #[Value.slice (some ⟨w3.heap.size, 0, none⟩) 1 1] 25)).alloc (Obj.cells #[] 25)).drew).heap[w3.heap.size]? = some (Obj.cells #[Value.int IntKind.i64 A, Value.int IntKind.i64 1, Value.int IntKind.u64 0, Value.int IntKind.u64 (B + 1), Value.int IntKind.i64 0] 36) := hpD (hpO _ (hpO _ (hpS _ _ _ (by first | rfl | simp))))
    have sD : ((((w3.alloc (Obj.cells #[] 25)).alloc (Obj.cells #[Value.int IntKind.i64 A, Value.int IntKind.i64 1, Value.int IntKind.u64 0, Value.int IntKind.u64 (B + 1), Value.int IntKind.i64 0] 36)).alloc (Obj.cells #[Value.slice (some ⟨w3.heap.size + 1, 0, none⟩) 1 1] 25)).drew).heap[w3.heap.size + 1 + 1]? = some (Obj.cells #[Value.slice (some ⟨w3.heap.size + 1, 0, none⟩) 1 1] 25) := hpD (hpS _ _ _ (by first | rfl | simp))
    have sF : ((((w3.alloc (Obj.cells #[Value.int IntKind.i64 A, Value.int IntKind.i64 1, Value.int IntKind.u64 0, Value.int IntKind.u64 (B + 1), Value.int IntKind.i64 0] 36)).alloc (Obj.cells #[] 25)).alloc (Obj.cells #[Value.slice (some ⟨w3.heap.size, 0, none⟩) 1 1] 25)).drew).heap[w3.heap.size + 1 + 1]? = some (Obj.cells #[Value.slice (some ⟨w3.heap.size, 0, none⟩) 1 1] 25) := hpD (hpS _ _ _ (by first | rfl | simp))
    have sG : ((((w3.alloc (Obj.cells #[Value.int IntKind.i64 A, Value.int IntKind.i64 1, Value.int IntKind.u64 0, Value.int IntKind.u64 (B + 1), Value.int IntKind.i64 0] 36)).alloc (Obj.cells #[Value.slice (some ⟨w3.heap.size, 0, none⟩) 1 1] 25)).alloc (Obj.cells #[] 25)).drew).heap[w3.heap.size + 1]? = some (Obj.cells #[Value.slice (some ⟨w3.heap.size, 0, none⟩) 1 1] 25) := hpD (hpO _ (hpS _ _ _ (by first | rfl | simp)))
    obtain ⟨-, q0, q1, q2, q3, q4⟩ := HK.out _ hb0
    go_region_held_law (fun W => Below w3.heap.size w3 W ∧ W.cell? ⟨R, 0, none⟩ = some (.int .i64 A) ∧ W.cell? ⟨R, 1, none⟩ = some (.int .i64 1) ∧ W.cell? ⟨R, 2, none⟩ = some (.int .u64 0) ∧ W.cell? ⟨R, 3, none⟩ = some (.int .u64 (B + 1)) ∧ W.cell? ⟨R, 4, none⟩ = some (.int .i64 0))
      (first
      | exact HK.out _ (by with_reducible assumption)
      | exact HK.out _ (Below.drew (by with_reducible assumption))
      | exact HK.out _ (hAl.out _ _ (by with_reducible assumption))
      | exact HK.out _ (hAl.out _ _ (And.left (by with_reducible assumption)))
      | exact HK.out _ (Below.drew (hAl.out _ _ (by with_reducible assumption)))
      | exact HK.out _ (Below.drew (hAl.out _ _ (And.left (by with_reducible assumption))))
      | exact HK.out _ (Below.drew (hAl.out _ _ (hAl.out _ _ hb0)))
      | exact HK.out _ (hAl.out _ _ (hAl.out _ _ hb0))
      | exact HK.out _ (Below.drew (hAl.out _ _ (hAl.out _ _ (hAl.out _ _ hb0)))))
      (first
      | (refine step_append_rows (some 24) rfl rfl _ _ rfl w3.heap.size _ [] rfl (ownS_empty (by with_reducible assumption) (by omega)) a1 n1 c1 ys rfl (HR3.out _ (And.left (by with_reducible assumption))) hln.out (Below.size (And.left (by with_reducible assumption))) ?_; intro v4 w4 o4 g4 k4; have hb4 : Below w3.heap.size w3 w4 := Below.grown (And.left (by with_reducible assumption)) g4 (Below.size (And.left (by with_reducible assumption))) k4; rw [List.nil_append] at o4; have qA := hpS (w4.alloc (Obj.cells #[Value.int IntKind.i64 A, Value.int IntKind.i64 1, Value.int IntKind.u64 0, Value.int IntKind.u64 (B + 1), Value.int IntKind.i64 0] 36)) (Obj.cells #[Value.slice (some ⟨w4.heap.size, 0, none⟩) 1 1] 25) (w4.heap.size + 1) (by simp); have pA := hpO (Obj.cells #[Value.slice (some ⟨w4.heap.size, 0, none⟩) 1 1] 25) (hpS w4 (Obj.cells #[Value.int IntKind.i64 A, Value.int IntKind.i64 1, Value.int IntKind.u64 0, Value.int IntKind.u64 (B + 1), Value.int IntKind.i64 0] 36) w4.heap.size rfl); have oA := ownS_keep o4 (((Below.refl _ w4).alloc (Nat.le_refl _) (Obj.cells #[Value.int IntKind.i64 A, Value.int IntKind.i64 1, Value.int IntKind.u64 0, Value.int IntKind.u64 (B + 1), Value.int IntKind.i64 0] 36)).alloc (by simp) (Obj.cells #[Value.slice (some ⟨w4.heap.size, 0, none⟩) 1 1] 25)); (first
          | (with_reducible (have t4 := after1 g4 tB (by omega)); have q4 := hpS w4 (Obj.cells #[Value.slice (some ⟨w3.heap.size + 1, 0, none⟩) 1 1] 25) w4.heap.size rfl; have p4 := hpO (Obj.cells #[Value.slice (some ⟨w3.heap.size + 1, 0, none⟩) 1 1] 25) t4; have oB := ownS_keep o4 ((Below.refl _ w4).alloc (Nat.le_refl _) (Obj.cells #[Value.slice (some ⟨w3.heap.size + 1, 0, none⟩) 1 1] 25)))
          | (with_reducible (have t4 := after1 g4 tC (by omega)); have q4 := hpS w4 (Obj.cells #[Value.slice (some ⟨w3.heap.size, 0, none⟩) 1 1] 25) w4.heap.size rfl; have p4 := hpO (Obj.cells #[Value.slice (some ⟨w3.heap.size, 0, none⟩) 1 1] 25) t4; have oB := ownS_keep o4 ((Below.refl _ w4).alloc (Nat.le_refl _) (Obj.cells #[Value.slice (some ⟨w3.heap.size, 0, none⟩) 1 1] 25)))
          | (with_reducible (have t4 := after1 g4 tD (by omega)); have s4 := after1 g4 sD (by omega))
          | (with_reducible (have t4 := after1 g4 tF (by omega)); have s4 := after1 g4 sF (by omega))
          | (with_reducible (have t4 := after1 g4 tG (by omega)); have s4 := after1 g4 sG (by omega))
          | skip))
      | (refine step_append_tt (some 28) rfl rfl _ _ rfl w3.heap.size v4 ys rfl (by with_reducible assumption) _ _ htw.out rfl (by with_reducible assumption) (by with_reducible assumption) hln2.out (Below.size (And.left (by with_reducible assumption))) ?_; intro v5 w5 o5 g5 k5 t5; have hb5 : Below w3.heap.size w3 w5 := Below.grown (And.left (by with_reducible assumption)) g5 (Below.size (And.left (by with_reducible assumption))) k5)
      | (go_at_call 10; refine (cR.out _ _ _ hb5 o5 t5).mono ?_; rintro e w6 ⟨L6, a6, n6, c6, rfl, rs6, hb6⟩)
      | (go_at_call 12; refine (cC.out _ L6 a6 n6 c6 hb6 rs6).mono ?_; rintro e w7 ⟨a7, n7, c7, rfl, hI7, hb7⟩))
    all_goals
      have HI := hide hI7
      have HB := hide hb7
      clear HK hAl cR cC hI7 hb7
      go_wp2_with fail
      go_meet
      exact ⟨_, _, _, rfl, HI, HB⟩
  case rest =>
    obtain ⟨a9, n9, c9, rfl, hI9, hb9⟩ := hcut
    obtain ⟨w4, rfl⟩ : ∃ w4, w4 = wc := ⟨_, rfl⟩
    have hRw := HR3.out _ hb9.out
    have C1 := hide (mrows_any n1 a1 n1 c1 ys w4 (Nat.le_refl _) hRw hc1 (by omega) (by omega))
    rw [HYM.out] at C1
    obtain ⟨Wl, hWl⟩ : ∃ Wl, ofL (ls.flatten ++ [⟨A, 1, 0, B + 1, 0⟩]) = Wl := ⟨_, rfl⟩
    obtain ⟨Nl, hNl⟩ : ∃ Nl, ofL ls.flatten = Nl := ⟨_, rfl⟩
    have HF := hide (hides_filter (F := ls.flatten) hto.out rfl)
    have HLN := hide (hides_len (F := ls.flatten) hto.out rfl)
    rw [hWl, hNl] at HF HLN
    rw [hWl] at hI9
    clear hRw
    go_wp2_with fail
    refine C1.out.mono ?_
    rintro e w5 ⟨L5, a5, n5, c5, rfl, rs5, hb5, ho5⟩
    have hcs := clean_state rs5.mrg hR.out hK.out
    rw [hNl] at hcs
    have hn5 : n5 ≤ 320 := by rw [← rs5.is.1]; exact Nat.le_trans rs5.mrg.len hflat.out
    have C2 := hide (clean_any a5 n5 c5 L5 w5 rs5.is (by omega))
    rw [hcs] at C2
    have B5 := hide (bmore hb9.out hb5)
    have I95 := hide (hI9.out.below hb5 (Nat.le_refl _))
    have hNn : Nl.length ≤ 320 := by rw [← hcs]; exact Nat.le_trans (clL_len _) (by rw [rs5.is.1]; exact hn5)
    clear C1 rs5 hb5 ho5 hcs hI9 hb9 hWl hNl
    go_wp2_with fail
    refine C2.out.mono ?_
    rintro e w6 ⟨a10, n10, c10, rfl, hI10, hc10, hb6⟩
    have HI9 := hide (fun W (hW : Below w6.heap.size w6 W) => I95.out.below (bmore hb6 hW) (Nat.le_refl _))
    have HI10 := hide (fun W (hW : Below w6.heap.size w6 W) => hI10.below hW (Nat.le_refl _))
    have HV6 := hide (fun W (hW : Below w6.heap.size w6 W) => HV3.out.keep (bmore B5.out (bmore hb6 hW)))
    have HWL := hide I95.out.1
    have HNL := hide hI10.1
    have hn10 : n10 ≤ 320 := by rw [← hI10.1]; exact hNn
    have hn9 : n9 ≤ n10 + 1 := by have := HLN.out; have := HWL.out; have := HNL.out; omega
    have B6 := hide (bmore B3.out (bmore B5.out hb6))
    clear C2 I95 hI10 hb6 B5 HLN hNn
    go_wp2_with fail
    go_loopw [11, 12] (fun s11 s12 wr => ∃ k i : Nat, k ≤ n9 ∧ i ≤ n10 ∧ s11 = .int .i64 k ∧ s12 = .int .i64 i ∧ Hid ((Wl.drop k).filter (hqB ⟨A, 1, 0, B + 1, 0⟩) = (Nl.drop i).filter (hpB ⟨A, 1, 0, B + 1, 0⟩)) ∧ Hid (Below w6.heap.size w6 wr)) (fun _ s12 _ => n10 - (intOf s12).toNat)
    case atStart => exact ⟨0, 0, by omega, by omega, rfl, rfl, hide (by simpa using HF.out), hide (Below.refl _ _)⟩
    case round =>
      obtain ⟨k, i, hk, hi, rfl, rfl, hE, hB6⟩ := hrel
      by_cases hin : i < n10
      · obtain ⟨x, hx⟩ : ∃ x, Nl[i]? = some x := ⟨_, List.getElem?_eq_getElem (by have := HNL.out; omega)⟩
        obtain ⟨b7, off7, ea, hcell⟩ := (HI10.out _ hB6.out).2.2.2 (by omega)
        subst ea
        have hvx := hide (show Vi wr b7 (off7 + i * 5) x.S x.K x.T x.V x.X from hcell i x hx)
        have HDX := hide (drop_f (q := hpB ⟨A, 1, 0, B + 1, 0⟩) hx)
        have A7 := (Below.refl _ wr).alloc (Nat.le_refl _) (Obj.cells #[.int .i64 x.S, .int .i64 x.K, .int .u64 x.T, .int .u64 x.V, .int .i64 x.X] 36)
        have V7 := vi_new wr x.S x.K x.T x.V x.X
        obtain ⟨w7, hw7⟩ : ∃ w7, w7 = wr.alloc (Obj.cells #[.int .i64 x.S, .int .i64 x.K, .int .u64 x.T, .int .u64 x.V, .int .i64 x.X] 36) := ⟨_, rfl⟩
        rw [← hw7] at A7 V7
        have B7 := hide (bmore hB6.out A7)
        have HV7 := hide V7
        have gt := hide (HV6.out _ B7.out)
        obtain ⟨o, ho⟩ : ∃ o, hpB ⟨A, 1, 0, B + 1, 0⟩ x = o := ⟨_, rfl⟩
        have HO := hide ho
        have hinI : (i : Int) < (n10 : Int) := by omega
        obtain ⟨v0, v1, v2, v3, v4⟩ := hvx.out
        clear hcell A7 V7 hx ho
        go_upto_region 10 with fail
        rw [← hw7]
        clear v0 v1 v2 v3 v4 hvx
        obtain ⟨P, hP⟩ : ∃ P, wr.heap.size = P := ⟨_, rfl⟩
        rw [hP] at HV7 ⊢
        clear hP hw7
        go_cut [60] from 34 to 98 (fun s60 wx => s60 = .bool (!o) ∧ w7 = wx)
        case first =>
          have hho := hide (show hpB ⟨A, 1, 0, B + 1, 0⟩ x = o from HO.out)
          obtain ⟨S, K, T, V, X⟩ := x
          have g7 := HV7.out
          have gtt := gt.out
          unfold Vi at g7 gtt
          simp only [Nat.zero_add] at g7 gtt
          obtain ⟨x0, x1, x2, x3, x4⟩ := g7
          obtain ⟨t0, t1, t2, t3, t4⟩ := gtt
          clear HDX HO hE
          by_cases h1 : S = A
          · subst h1
            by_cases h2 : K = 1
            · subst h2
              obtain rfl : false = o := by rw [← hho.out]; simp [hpB]
              go_wp2_with fail
              go_meet
              exact ⟨rfl, rfl⟩
            · have q2 : (K == 1) = false := by simp [h2]
              by_cases h3 : V ≤ B + 1
              · obtain rfl : false = o := by rw [← hho.out]; simp [hpB, h3]
                have q3 : decide (V ≤ B + 1) = true := by simp [h3]
                go_wp2_with fail
                go_meet
                exact ⟨rfl, rfl⟩
              · obtain rfl : true = o := by rw [← hho.out]; simp [hpB, h2]; omega
                have q3 : decide (V ≤ B + 1) = false := by simp [h3]
                go_wp2_with fail
                go_meet
                exact ⟨rfl, rfl⟩
          · have q1 : (S == A) = false := by simp [h1]
            obtain rfl : true = o := by rw [← hho.out]; simp [hpB, h1]
            go_wp2_with fail
            go_meet
            exact ⟨rfl, rfl⟩
        case rest =>
          obtain ⟨rfl, rfl⟩ := hcut
          cases o with
          | false =>
            go_wp2_with fail
            go_roundw
            case rel => exact ⟨k, i + 1, by omega, by omega, rfl, by go_num, hide (by rw [hE.out, HDX.out, HO.out]; rfl), B7⟩
            case measure => simp [intOf]; omega
          | true =>
            have HNX : Hid ((Nl.drop i).filter (hpB ⟨A, 1, 0, B + 1, 0⟩) = x :: (Nl.drop (i + 1)).filter (hpB ⟨A, 1, 0, B + 1, 0⟩)) := hide (by rw [HDX.out, HO.out]; rfl)
            have HX7 := hide (fun W (hW : Below w7.heap.size w7 W) => HV7.out.keep hW)
            clear HDX HO gt HV7
            go_wp2_with fail
            go_loopw [11] (fun s11 wq => ∃ k : Nat, k ≤ n9 ∧ s11 = .int .i64 k ∧ Hid ((Wl.drop k).filter (hqB ⟨A, 1, 0, B + 1, 0⟩) = (Nl.drop i).filter (hpB ⟨A, 1, 0, B + 1, 0⟩)) ∧ Hid (Below w7.heap.size w7 wq)) (fun s11 _ => n9 - (intOf s11).toNat)
            case atStart => exact ⟨k, hk, rfl, hE, hide (Below.refl _ _)⟩
            case round =>
              clear hE hk
              obtain ⟨k, hk, rfl, HE, hBw⟩ := hrel
              have hkn : k < n9 := by
                rcases Nat.lt_or_ge k n9 with e | e
                · exact e
                · have h1 := HE.out
                  rw [List.drop_of_length_le (by have := HWL.out; omega), HNX.out] at h1
                  cases h1
              have hBq := bmore B7.out hBw.out
              have hBq7 := hBw.out
              obtain ⟨y, hy⟩ : ∃ y, Wl[k]? = some y := ⟨_, List.getElem?_eq_getElem (by have := HWL.out; omega)⟩
              obtain ⟨b9, off9, ea, hcell⟩ := (HI9.out _ hBq).2.2.2 (by omega)
              subst ea
              have hvy := hide (show Vi wr b9 (off9 + k * 5) y.S y.K y.T y.V y.X from hcell k y hy)
              have HDR := hide (drop_f (q := hqB ⟨A, 1, 0, B + 1, 0⟩) hy)
              have hvt := hide (HV6.out _ hBq)
              have hne : Nonempty (Kp wr) := ⟨⟨_, Below.refl _ _⟩⟩
              have hd0 : decide (k < n9) = true := by simp; omega
              have hd1 : (k : Int) < (n9 : Int) := by omega
              clear hcell hy
              by_cases h1 : y.K = 1
              · by_cases h2 : y.S = A
                · have hqy : hqB ⟨A, 1, 0, B + 1, 0⟩ y = false := by simp [hqB, h1, h2]
                  have HN : Hid ((Wl.drop (k + 1)).filter (hqB ⟨A, 1, 0, B + 1, 0⟩) = (Nl.drop i).filter (hpB ⟨A, 1, 0, B + 1, 0⟩)) := hide (by rw [← HE.out, HDR.out, hqy]; rfl)
                  clear hqy HDR
                  obtain ⟨S1, K1, T1, V1, X1⟩ := y
                  simp only at hvy
                  have y0 : ∀ p : Kp wr, p.W.cell? ⟨b9, off9 + k * 5, none⟩ = some (.int .i64 S1) := fun p => (hvy.out.keep p.h).1
                  have y1 : ∀ p : Kp wr, p.W.cell? ⟨b9, off9 + k * 5 + 1, none⟩ = some (.int .i64 K1) := fun p => (hvy.out.keep p.h).2.1
                  have y2 : ∀ p : Kp wr, p.W.cell? ⟨b9, off9 + k * 5 + 2, none⟩ = some (.int .u64 T1) := fun p => (hvy.out.keep p.h).2.2.1
                  have y3 : ∀ p : Kp wr, p.W.cell? ⟨b9, off9 + k * 5 + 3, none⟩ = some (.int .u64 V1) := fun p => (hvy.out.keep p.h).2.2.2.1
                  have y4 : ∀ p : Kp wr, p.W.cell? ⟨b9, off9 + k * 5 + 4, none⟩ = some (.int .i64 X1) := fun p => (hvy.out.keep p.h).2.2.2.2
                  have t0 : ∀ p : Kp wr, p.W.cell? ⟨R, 0, none⟩ = some (.int .i64 A) := fun p => by simpa using (hvt.out.keep p.h).1
                  have t1 : ∀ p : Kp wr, p.W.cell? ⟨R, 1, none⟩ = some (.int .i64 1) := fun p => by simpa using (hvt.out.keep p.h).2.1
                  have t2 : ∀ p : Kp wr, p.W.cell? ⟨R, 2, none⟩ = some (.int .u64 0) := fun p => by simpa using (hvt.out.keep p.h).2.2.1
                  have t3 : ∀ p : Kp wr, p.W.cell? ⟨R, 3, none⟩ = some (.int .u64 (B + 1)) := fun p => by simpa using (hvt.out.keep p.h).2.2.2.1
                  have t4 : ∀ p : Kp wr, p.W.cell? ⟨R, 4, none⟩ = some (.int .i64 0) := fun p => by simpa using (hvt.out.keep p.h).2.2.2.2
                  obtain rfl : K1 = 1 := h1
                  obtain rfl : S1 = A := h2
                  go_wp2_with fail
                  refine wp_region_kept (by kernel_rfl) (by kernel_rfl) ?_
                  repeat (first
                    | go_big_quiet_step (fail)
                    | fail)
                  refine wpQuiet_nil ?_
                  intro w5 hw'
                  have hb5 : Hid (Below wr.heap.size wr w5) := by
                    obtain ⟨⟨w3', hb3⟩, hw''⟩ := hw'
                    rw [hw'']; exact hide hb3
                  clear hw'
                  have B5 := hide (bmore hBw.out hb5.out)
                  clear hne y0 y1 y2 y3 y4 t0 t1 t2 t3 t4
                  go_wp2_with fail
                  go_roundw
                  case rel => exact ⟨k + 1, by omega, by go_num, HN, B5⟩
                  case measure => simp [intOf]; omega
                · have hqy : hqB ⟨A, 1, 0, B + 1, 0⟩ y = true := by rw [hqB_iff]; show ¬ (y.K = 1 ∧ y.S = A); omega
                  have hyx : y = x := by
                    have h1 := HE.out
                    rw [HDR.out, hqy, if_pos rfl, HNX.out] at h1
                    injection h1
                  have htl : Hid ((Wl.drop (k + 1)).filter (hqB ⟨A, 1, 0, B + 1, 0⟩) = (Nl.drop (i + 1)).filter (hpB ⟨A, 1, 0, B + 1, 0⟩)) := hide (by
                    have h1 := HE.out
                    rw [HDR.out, hqy, if_pos rfl, HNX.out] at h1
                    injection h1)
                  have hvx := hide (HX7.out _ hBq7)
                  obtain ⟨S1, K1, T1, V1, X1⟩ := y
                  obtain ⟨S, K, T, V, X⟩ := x
                  simp only at hvy hvx
                  have q1 : (K1 == 1) = true := by simp only [beq_iff_eq]; exact h1
                  have q2 : (S1 == A) = false := by simp only [beq_eq_false_iff_ne, ne_eq]; exact h2
                  have y0 : ∀ p : Kp wr, p.W.cell? ⟨b9, off9 + k * 5, none⟩ = some (.int .i64 S1) := fun p => (hvy.out.keep p.h).1
                  have y1 : ∀ p : Kp wr, p.W.cell? ⟨b9, off9 + k * 5 + 1, none⟩ = some (.int .i64 K1) := fun p => (hvy.out.keep p.h).2.1
                  have y2 : ∀ p : Kp wr, p.W.cell? ⟨b9, off9 + k * 5 + 2, none⟩ = some (.int .u64 T1) := fun p => (hvy.out.keep p.h).2.2.1
                  have y3 : ∀ p : Kp wr, p.W.cell? ⟨b9, off9 + k * 5 + 3, none⟩ = some (.int .u64 V1) := fun p => (hvy.out.keep p.h).2.2.2.1
                  have y4 : ∀ p : Kp wr, p.W.cell? ⟨b9, off9 + k * 5 + 4, none⟩ = some (.int .i64 X1) := fun p => (hvy.out.keep p.h).2.2.2.2
                  have t0 : ∀ p : Kp wr, p.W.cell? ⟨R, 0, none⟩ = some (.int .i64 A) := fun p => by simpa using (hvt.out.keep p.h).1
                  have t1 : ∀ p : Kp wr, p.W.cell? ⟨R, 1, none⟩ = some (.int .i64 1) := fun p => by simpa using (hvt.out.keep p.h).2.1
                  have t2 : ∀ p : Kp wr, p.W.cell? ⟨R, 2, none⟩ = some (.int .u64 0) := fun p => by simpa using (hvt.out.keep p.h).2.2.1
                  have t3 : ∀ p : Kp wr, p.W.cell? ⟨R, 3, none⟩ = some (.int .u64 (B + 1)) := fun p => by simpa using (hvt.out.keep p.h).2.2.2.1
                  have t4 : ∀ p : Kp wr, p.W.cell? ⟨R, 4, none⟩ = some (.int .i64 0) := fun p => by simpa using (hvt.out.keep p.h).2.2.2.2
                  go_wp2_with fail
                  refine wp_region_kept (by kernel_rfl) (by kernel_rfl) ?_
                  repeat (first
                    | go_big_quiet_step (fail)
                    | fail)
                  refine wpQuiet_nil ?_
                  intro w5 hw'
                  have hb5 : Hid (Below wr.heap.size wr w5) := by
                    obtain ⟨⟨w3', hb3⟩, hw''⟩ := hw'
                    rw [hw'']; exact hide hb3
                  clear hw'
                  have hvy5 := hide (hvy.out.keep hb5.out)
                  have hvx5 := hide (hvx.out.keep hb5.out)
                  have B5 := hide (bmore hBq hb5.out)
                  clear hne y0 y1 y2 y3 y4 t0 t1 t2 t3 t4 hvy hvx hvt
                  injection hyx with e0 e1 e2 e3 e4
                  subst e0 e1 e2 e3 e4
                  have hne : Nonempty (Kp w5) := ⟨⟨_, Below.refl _ _⟩⟩
                  have hsl := neq_self2 S1 K1 T1 V1 X1
                  have hd2 : decide (n9 ≤ k) = false := by simp; omega
                  have y0 : ∀ p : Kp w5, p.W.cell? ⟨b9, off9 + k * 5, none⟩ = some (.int .i64 S1) := fun p => (hvy5.out.keep p.h).1
                  have y1 : ∀ p : Kp w5, p.W.cell? ⟨b9, off9 + k * 5 + 1, none⟩ = some (.int .i64 K1) := fun p => (hvy5.out.keep p.h).2.1
                  have y2 : ∀ p : Kp w5, p.W.cell? ⟨b9, off9 + k * 5 + 2, none⟩ = some (.int .u64 T1) := fun p => (hvy5.out.keep p.h).2.2.1
                  have y3 : ∀ p : Kp w5, p.W.cell? ⟨b9, off9 + k * 5 + 3, none⟩ = some (.int .u64 V1) := fun p => (hvy5.out.keep p.h).2.2.2.1
                  have y4 : ∀ p : Kp w5, p.W.cell? ⟨b9, off9 + k * 5 + 4, none⟩ = some (.int .i64 X1) := fun p => (hvy5.out.keep p.h).2.2.2.2
                  have x0 : ∀ p : Kp w5, p.W.cell? ⟨P, 0, none⟩ = some (.int .i64 S1) := fun p => by simpa using (hvx5.out.keep p.h).1
                  have x1 : ∀ p : Kp w5, p.W.cell? ⟨P, 1, none⟩ = some (.int .i64 K1) := fun p => by simpa using (hvx5.out.keep p.h).2.1
                  have x2 : ∀ p : Kp w5, p.W.cell? ⟨P, 2, none⟩ = some (.int .u64 T1) := fun p => by simpa using (hvx5.out.keep p.h).2.2.1
                  have x3 : ∀ p : Kp w5, p.W.cell? ⟨P, 3, none⟩ = some (.int .u64 V1) := fun p => by simpa using (hvx5.out.keep p.h).2.2.2.1
                  have x4 : ∀ p : Kp w5, p.W.cell? ⟨P, 4, none⟩ = some (.int .i64 X1) := fun p => by simpa using (hvx5.out.keep p.h).2.2.2.2
                  go_upto_region 13 with fail
                  refine wp_region_kept (by kernel_rfl) (by kernel_rfl) ?_
                  repeat (first
                    | go_big_quiet_step (fail)
                    | fail)
                  refine wpQuiet_nil ?_
                  intro w6' hw'
                  have hb6 : Hid (Below w5.heap.size w5 w6') := by
                    obtain ⟨⟨w3', hb3⟩, hw''⟩ := hw'
                    rw [hw'']; exact hide hb3
                  have B6 := hide (bmore B5.out hb6.out)
                  clear hw' hne y0 y1 y2 y3 y4 x0 x1 x2 x3 x4 hvy5 hvx5
                  go_wp2_with fail
                  go_roundw
                  case rel => exact ⟨k + 1, i + 1, by omega, by omega, by go_num, by go_num, htl, B6⟩
                  case measure => simp [intOf]; omega
              · have hqy : hqB ⟨A, 1, 0, B + 1, 0⟩ y = true := by rw [hqB_iff]; show ¬ (y.K = 1 ∧ y.S = A); omega
                have hyx : y = x := by
                  have h1 := HE.out
                  rw [HDR.out, hqy, if_pos rfl, HNX.out] at h1
                  injection h1
                have htl : Hid ((Wl.drop (k + 1)).filter (hqB ⟨A, 1, 0, B + 1, 0⟩) = (Nl.drop (i + 1)).filter (hpB ⟨A, 1, 0, B + 1, 0⟩)) := hide (by
                  have h1 := HE.out
                  rw [HDR.out, hqy, if_pos rfl, HNX.out] at h1
                  injection h1)
                have hvx := hide (HX7.out _ hBq7)
                obtain ⟨S1, K1, T1, V1, X1⟩ := y
                obtain ⟨S, K, T, V, X⟩ := x
                simp only at hvy hvx
                have q1 : (K1 == 1) = false := by simp only [beq_eq_false_iff_ne, ne_eq]; exact h1
                have y0 : ∀ p : Kp wr, p.W.cell? ⟨b9, off9 + k * 5, none⟩ = some (.int .i64 S1) := fun p => (hvy.out.keep p.h).1
                have y1 : ∀ p : Kp wr, p.W.cell? ⟨b9, off9 + k * 5 + 1, none⟩ = some (.int .i64 K1) := fun p => (hvy.out.keep p.h).2.1
                have y2 : ∀ p : Kp wr, p.W.cell? ⟨b9, off9 + k * 5 + 2, none⟩ = some (.int .u64 T1) := fun p => (hvy.out.keep p.h).2.2.1
                have y3 : ∀ p : Kp wr, p.W.cell? ⟨b9, off9 + k * 5 + 3, none⟩ = some (.int .u64 V1) := fun p => (hvy.out.keep p.h).2.2.2.1
                have y4 : ∀ p : Kp wr, p.W.cell? ⟨b9, off9 + k * 5 + 4, none⟩ = some (.int .i64 X1) := fun p => (hvy.out.keep p.h).2.2.2.2
                have t0 : ∀ p : Kp wr, p.W.cell? ⟨R, 0, none⟩ = some (.int .i64 A) := fun p => by simpa using (hvt.out.keep p.h).1
                have t1 : ∀ p : Kp wr, p.W.cell? ⟨R, 1, none⟩ = some (.int .i64 1) := fun p => by simpa using (hvt.out.keep p.h).2.1
                have t2 : ∀ p : Kp wr, p.W.cell? ⟨R, 2, none⟩ = some (.int .u64 0) := fun p => by simpa using (hvt.out.keep p.h).2.2.1
                have t3 : ∀ p : Kp wr, p.W.cell? ⟨R, 3, none⟩ = some (.int .u64 (B + 1)) := fun p => by simpa using (hvt.out.keep p.h).2.2.2.1
                have t4 : ∀ p : Kp wr, p.W.cell? ⟨R, 4, none⟩ = some (.int .i64 0) := fun p => by simpa using (hvt.out.keep p.h).2.2.2.2
                go_wp2_with fail
                refine wp_region_kept (by kernel_rfl) (by kernel_rfl) ?_
                repeat (first
                  | go_big_quiet_step (fail)
                  | fail)
                refine wpQuiet_nil ?_
                intro w5 hw'
                have hb5 : Hid (Below wr.heap.size wr w5) := by
                  obtain ⟨⟨w3', hb3⟩, hw''⟩ := hw'
                  rw [hw'']; exact hide hb3
                clear hw'
                have hvy5 := hide (hvy.out.keep hb5.out)
                have hvx5 := hide (hvx.out.keep hb5.out)
                have B5 := hide (bmore hBq hb5.out)
                clear hne y0 y1 y2 y3 y4 t0 t1 t2 t3 t4 hvy hvx hvt
                injection hyx with e0 e1 e2 e3 e4
                subst e0 e1 e2 e3 e4
                have hne : Nonempty (Kp w5) := ⟨⟨_, Below.refl _ _⟩⟩
                have hsl := neq_self2 S1 K1 T1 V1 X1
                have hd2 : decide (n9 ≤ k) = false := by simp; omega
                have y0 : ∀ p : Kp w5, p.W.cell? ⟨b9, off9 + k * 5, none⟩ = some (.int .i64 S1) := fun p => (hvy5.out.keep p.h).1
                have y1 : ∀ p : Kp w5, p.W.cell? ⟨b9, off9 + k * 5 + 1, none⟩ = some (.int .i64 K1) := fun p => (hvy5.out.keep p.h).2.1
                have y2 : ∀ p : Kp w5, p.W.cell? ⟨b9, off9 + k * 5 + 2, none⟩ = some (.int .u64 T1) := fun p => (hvy5.out.keep p.h).2.2.1
                have y3 : ∀ p : Kp w5, p.W.cell? ⟨b9, off9 + k * 5 + 3, none⟩ = some (.int .u64 V1) := fun p => (hvy5.out.keep p.h).2.2.2.1
                have y4 : ∀ p : Kp w5, p.W.cell? ⟨b9, off9 + k * 5 + 4, none⟩ = some (.int .i64 X1) := fun p => (hvy5.out.keep p.h).2.2.2.2
                have x0 : ∀ p : Kp w5, p.W.cell? ⟨P, 0, none⟩ = some (.int .i64 S1) := fun p => by simpa using (hvx5.out.keep p.h).1
                have x1 : ∀ p : Kp w5, p.W.cell? ⟨P, 1, none⟩ = some (.int .i64 K1) := fun p => by simpa using (hvx5.out.keep p.h).2.1
                have x2 : ∀ p : Kp w5, p.W.cell? ⟨P, 2, none⟩ = some (.int .u64 T1) := fun p => by simpa using (hvx5.out.keep p.h).2.2.1
                have x3 : ∀ p : Kp w5, p.W.cell? ⟨P, 3, none⟩ = some (.int .u64 V1) := fun p => by simpa using (hvx5.out.keep p.h).2.2.2.1
                have x4 : ∀ p : Kp w5, p.W.cell? ⟨P, 4, none⟩ = some (.int .i64 X1) := fun p => by simpa using (hvx5.out.keep p.h).2.2.2.2
                go_upto_region 13 with fail
                refine wp_region_kept (by kernel_rfl) (by kernel_rfl) ?_
                repeat (first
                  | go_big_quiet_step (fail)
                  | fail)
                refine wpQuiet_nil ?_
                intro w6' hw'
                have hb6 : Hid (Below w5.heap.size w5 w6') := by
                  obtain ⟨⟨w3', hb3⟩, hw''⟩ := hw'
                  rw [hw'']; exact hide hb3
                have B6 := hide (bmore B5.out hb6.out)
                clear hw' hne y0 y1 y2 y3 y4 x0 x1 x2 x3 x4 hvy5 hvx5
                go_wp2_with fail
                go_roundw
                case rel => exact ⟨k + 1, i + 1, by omega, by omega, by go_num, by go_num, htl, B6⟩
                case measure => simp [intOf]; omega
      · obtain rfl : i = n10 := by omega
        have hE0 : Hid ((Wl.drop k).filter (hqB ⟨A, 1, 0, B + 1, 0⟩) = []) := hide (by rw [hE.out, List.drop_of_length_le (by have := HNL.out; omega)]; rfl)
        clear hE
        go_wp2_with fail
        go_loopw [11] (fun s11 wq => ∃ k : Nat, k ≤ n9 ∧ s11 = .int .i64 k ∧ Hid ((Wl.drop k).filter (hqB ⟨A, 1, 0, B + 1, 0⟩) = []) ∧ Hid (Below w6.heap.size w6 wq)) (fun s11 _ => n9 - (intOf s11).toNat)
        case atStart => exact ⟨k, hk, rfl, hE0, hB6⟩
        case round =>
          clear hE0 hB6 hk
          obtain ⟨k, hk, rfl, HE, hBw⟩ := hrel
          have hBq := hBw.out
          by_cases hkn : k < n9
          · obtain ⟨y, hy⟩ : ∃ y, Wl[k]? = some y := ⟨_, List.getElem?_eq_getElem (by have := HWL.out; omega)⟩
            obtain ⟨b9, off9, ea, hcell⟩ := (HI9.out _ hBq).2.2.2 (by omega)
            subst ea
            have hvy := hide (show Vi wr b9 (off9 + k * 5) y.S y.K y.T y.V y.X from hcell k y hy)
            have HDR := hide (drop_f (q := hqB ⟨A, 1, 0, B + 1, 0⟩) hy)
            have hvt := hide (HV6.out _ hBq)
            have hne : Nonempty (Kp wr) := ⟨⟨_, Below.refl _ _⟩⟩
            have hd0 : decide (k < n9) = true := by simp; omega
            have hd1 : (k : Int) < (n9 : Int) := by omega
            have hqy : hqB ⟨A, 1, 0, B + 1, 0⟩ y = false := by
              have h1 := HE.out
              rw [HDR.out] at h1
              cases hc : hqB ⟨A, 1, 0, B + 1, 0⟩ y with
              | false => rfl
              | true => rw [hc] at h1; cases h1
            have HN : Hid ((Wl.drop (k + 1)).filter (hqB ⟨A, 1, 0, B + 1, 0⟩) = []) := hide (by
              have h1 := HE.out
              rw [HDR.out, hqy] at h1
              exact h1)
            have h12 : y.K = 1 ∧ y.S = A := by
              unfold hqB at hqy
              simpa using hqy
            clear hqy HDR hcell hy
            obtain ⟨S1, K1, T1, V1, X1⟩ := y
            simp only at hvy
            have y0 : ∀ p : Kp wr, p.W.cell? ⟨b9, off9 + k * 5, none⟩ = some (.int .i64 S1) := fun p => (hvy.out.keep p.h).1
            have y1 : ∀ p : Kp wr, p.W.cell? ⟨b9, off9 + k * 5 + 1, none⟩ = some (.int .i64 K1) := fun p => (hvy.out.keep p.h).2.1
            have y2 : ∀ p : Kp wr, p.W.cell? ⟨b9, off9 + k * 5 + 2, none⟩ = some (.int .u64 T1) := fun p => (hvy.out.keep p.h).2.2.1
            have y3 : ∀ p : Kp wr, p.W.cell? ⟨b9, off9 + k * 5 + 3, none⟩ = some (.int .u64 V1) := fun p => (hvy.out.keep p.h).2.2.2.1
            have y4 : ∀ p : Kp wr, p.W.cell? ⟨b9, off9 + k * 5 + 4, none⟩ = some (.int .i64 X1) := fun p => (hvy.out.keep p.h).2.2.2.2
            have t0 : ∀ p : Kp wr, p.W.cell? ⟨R, 0, none⟩ = some (.int .i64 A) := fun p => by simpa using (hvt.out.keep p.h).1
            have t1 : ∀ p : Kp wr, p.W.cell? ⟨R, 1, none⟩ = some (.int .i64 1) := fun p => by simpa using (hvt.out.keep p.h).2.1
            have t2 : ∀ p : Kp wr, p.W.cell? ⟨R, 2, none⟩ = some (.int .u64 0) := fun p => by simpa using (hvt.out.keep p.h).2.2.1
            have t3 : ∀ p : Kp wr, p.W.cell? ⟨R, 3, none⟩ = some (.int .u64 (B + 1)) := fun p => by simpa using (hvt.out.keep p.h).2.2.2.1
            have t4 : ∀ p : Kp wr, p.W.cell? ⟨R, 4, none⟩ = some (.int .i64 0) := fun p => by simpa using (hvt.out.keep p.h).2.2.2.2
            obtain rfl : K1 = 1 := h12.1
            obtain rfl : S1 = A := h12.2
            clear h12
            go_wp2_with fail
            refine wp_region_kept (by kernel_rfl) (by kernel_rfl) ?_
            repeat (first
              | go_big_quiet_step (fail)
              | fail)
            refine wpQuiet_nil ?_
            intro w5 hw'
            have hb5 : Hid (Below wr.heap.size wr w5) := by
              obtain ⟨⟨w3', hb3⟩, hw''⟩ := hw'
              rw [hw'']; exact hide hb3
            clear hw'
            have B5 := hide (bmore hBq hb5.out)
            clear hne y0 y1 y2 y3 y4 t0 t1 t2 t3 t4
            go_wp2_with fail
            go_roundw
            case rel => exact ⟨k + 1, by omega, by go_num, HN, B5⟩
            case measure => simp [intOf]; omega
          · obtain rfl : k = n9 := by omega
            have hne : Nonempty (Kp wr) := ⟨⟨_, Below.refl _ _⟩⟩
            have hd1 : ¬ ((k : Int) < (k : Int)) := by omega
            have hle : (k : Int) ≤ (i : Int) + 1 := by omega
            have hkk : ((k : Int) == (k : Int)) = true := by simp
            go_wp2_with fail
            refine wp_region_kept (by kernel_rfl) (by kernel_rfl) ?_
            repeat (first
              | go_big_quiet_step (fail)
              | fail)
            refine wpQuiet_nil ?_
            intro w5 hw'
            have hb5 : Hid (Below wr.heap.size wr w5) := by
              obtain ⟨⟨w3', hb3⟩, hw''⟩ := hw'
              rw [hw'']; exact hide hb3
            clear hw'
            have B7 := hide (bmore B6.out (bmore hBq hb5.out))
            clear hne hb5
            go_wp2_with (first
              | (go_at_call 18; refine (vawake_any _).mono ?_; rintro e w8 ⟨rfl, hb8⟩; have B8 := hide (bmore B7.out hb8)))
            go_ret
            exact ⟨rfl, B8.out⟩

end Go.Proofs.Ytkkcchklefcljaa.Clep
