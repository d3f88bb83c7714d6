/- What the statement TableLong does when called: true. No conditions but that the items lie in memory. -/
import Derived.Test.YtodhljiboakjnaaGreatQl
import Derived.Test.YtodhljiboakjnaaGreatQk
import Derived.Test.YtodhljiboakjnaaGreatQn
import Derived.Test.YtodhljiboakjnaaGreatZa
import Derived.Test.YtodhljiboakjnaaGreatZt
import Derived.BigRegion
import Derived.Deep.RegionHeldLaw
namespace Go.Proofs.YtodhljiboakjnaaGreat.Clep
open Go.RowKit
set_option linter.unusedVariables false

theorem more_fd {l : List It} {n i : Nat} (h : i < n) : fd (moreL l n) (mi l i) = some (mi l i) := by
  cases e : fd (moreL l n) (mi l i) with
  | none =>
    unfold fd at e
    rw [List.find?_eq_none] at e
    have := e (mi l i) (List.mem_of_getElem? (more_get h))
    exact absurd (same_iff.2 ⟨rfl, rfl, rfl⟩) this
  | some y =>
    obtain ⟨h1, h2⟩ := fd_mem e
    rw [rise_same (more_rise l n) h1 (List.mem_of_getElem? (more_get h)) h2]
theorem more_none {l : List It} {n : Nat} (x : It) (h : 40 ≤ x.T) : fd (moreL l n) x = none := by
  refine fd_none_of fun y hy => ?_
  obtain ⟨i, hi, rfl⟩ := more_mem hy
  rw [nsame_iff]
  simp only [mi]
  intro e
  omega
theorem rise_at {l : List It} (hr : Rise l) {i j : Nat} {x y : It} (hx : l[i]? = some x) (hy : l[j]? = some y) : x.less y = true ↔ i < j := by
  obtain ⟨i1, i2⟩ := List.getElem?_eq_some_iff.1 hx
  obtain ⟨j1, j2⟩ := List.getElem?_eq_some_iff.1 hy
  constructor
  · intro h
    rcases Nat.lt_or_ge i j with e | e
    · exact e
    · rcases Nat.lt_or_ge j i with e2 | e2
      · have := List.pairwise_iff_getElem.1 hr j i j1 i1 e2
        rw [i2, j2] at this
        rw [less_iff] at h this; omega
      · have : i = j := by omega
        subst this
        rw [hx] at hy; cases hy
        rw [less_iff] at h; omega
  · intro h
    have := List.pairwise_iff_getElem.1 hr i j i1 j1 h
    rwa [i2, j2] at this
theorem filter_range (p : It → Bool) : ∀ (l : List It) (i k : Nat), (∀ j x, l[j]? = some x → (p x = true ↔ i ≤ j ∧ j ≤ k)) → l.filter p = (l.take (k + 1)).drop i
  | [], i, k, _ => by simp
  | x :: l, 0, 0, h => by
    have h0 := (h 0 x rfl).2 ⟨by omega, by omega⟩
    have ht : l.filter p = [] := by
      rw [List.filter_eq_nil_iff]
      intro y hy hp
      obtain ⟨j, hj, rfl⟩ := List.getElem_of_mem hy
      have := (h (j + 1) l[j] (by simp [hj])).1 hp
      omega
    simp [h0, ht]
  | x :: l, 0, k + 1, h => by
    have h0 := (h 0 x rfl).2 ⟨by omega, by omega⟩
    have ih := filter_range p l 0 k (fun j y hy => by
      have := h (j + 1) y (by simpa using hy)
      rw [this]; omega)
    rw [List.filter_cons, if_pos h0, ih]; simp
  | x :: l, i + 1, 0, h => by
    have h0 : ¬ p x = true := fun e => by have := (h 0 x rfl).1 e; omega
    have ht : l.filter p = [] := by
      rw [List.filter_eq_nil_iff]
      intro y hy hp
      obtain ⟨j, hj, rfl⟩ := List.getElem_of_mem hy
      have := (h (j + 1) l[j] (by simp [hj])).1 hp
      omega
    simp [h0, ht]
  | x :: l, i + 1, k + 1, h => by
    have h0 : ¬ p x = true := fun e => by have := (h 0 x rfl).1 e; omega
    have ih := filter_range p l i k (fun j y hy => by
      have := h (j + 1) y (by simpa using hy)
      rw [this]; omega)
    rw [List.filter_cons, if_neg h0, ih]; simp
theorem rg_of {l : List It} (hr : Rise l) {i k : Nat} {x y : It} (hx : l[i]? = some x) (hy : l[k]? = some y) : rg x y l = (l.take (k + 1)).drop i := by
  refine filter_range _ l i k (fun j z hz => ?_)
  have h1 := rise_at hr hz hx
  have h2 := rise_at hr hy hz
  unfold rgB
  cases a : z.less x <;> cases b : y.less z <;> simp_all <;> omega
/-- A Table of l, whatever its blocks, made since w. -/
def Tq (W : World) (M : Nat) (l : List It) : Prop := ∃ B d, Tb W M B d l
set_option maxRecDepth 100000 in
set_option maxHeartbeats 8000000 in
theorem long_walk (a0 : Option Addr) (len0 cap0 : Nat) (l : List It) (n i k : Int) (w : World) (h0 : Is w a0 len0 cap0 l) (hl0 : len0 ≤ 9223372036854775807) :
    Calls Tryz.prog 4 #[.slice a0 len0 cap0, .int .i64 n, .int .i64 i, .int .i64 k] w fun e w' => e = .returned (.bool true) ∧ Below w.heap.size w w' := by
  obtain ⟨h1, h2⟩ := and_mask n 1023 (by decide)
  obtain ⟨x, hx⟩ := Int.eq_ofNat_of_zero_le h1
  have hx' : bits BinOp.and IntKind.i64 n 1023 = (x : Int) := hx
  have hx15 : x ≤ 1023 := by rw [hx] at h2; omega
  clear h1 h2 hx
  obtain ⟨N, hN⟩ : ∃ N : Nat, (x : Int) % 600 + 1 = (N : Int) := ⟨x % 600 + 1, by omega⟩
  have hNm : N ≤ 600 ∧ 1 ≤ N := by omega
  have hMo := hide (more_any a0 len0 cap0 l N w h0 hl0 (by omega))
  have HT := hide (more_tok h0.2.2.1 (n := N) (by omega))
  have HLN := hide (more_len l N)
  have HGet := hide (fun j (hj : j < N) => more_get (l := l) hj)
  have HFd := hide (fun j (hj : j < N) => more_fd (l := l) hj)
  have HNo := hide (fun x hx => more_none (l := l) (n := N) x hx)
  have HWf := hide (fun j (hj : j < N) => mi_wf h0.2.2.1 (i := j) (by omega))
  have HTi := hide (fun j => show (mi l j).T ≤ 39 ∧ 0 ≤ (mi l j).T by simp only [mi]; omega)
  clear hx15 h0
  generalize moreL l N = q at *
  go_enter Tryz.func4, Tryz.ntmps4
  go_wp2_with fail
  refine hMo.out.mono ?_
  rintro e w1 ⟨aq, cq, rfl, hIq, hcq, hb1, -⟩
  have HIq := hide hIq
  have B1 := hide hb1
  have hMk := hide (make_ok aq N cq q w1 HIq.out HT.out hcq)
  clear hMo hIq hb1 hx' hN
  go_wp2_with fail
  refine hMk.out.mono ?_
  rintro e w2 ⟨v2, rfl, ho2, hb2⟩
  obtain ⟨a2, c2, rfl, -, hbs2, -⟩ := own_at0 ho2 (tb_range HT.out)
  have hL2 := (tb_len HT.out).2
  have hRd := tread_any a2 (tb q).length c2 (tb q) w2 hbs2 (by omega)
  rw [isT_tb HT.out, bg_tb HT.out] at hRd
  have HRd := hide hRd
  have B2 := hide (bmore B1.out hb2)
  have HI2 := hide (HIq.out.below hb2 (Nat.le_refl _))
  generalize (tb q).length = L at *
  clear hMk ho2 hbs2 hb2 hRd hL2
  go_wp2_with fail
  refine HRd.out.mono ?_
  rintro e w3 ⟨hb3, ⟨hno, -⟩ | ⟨-, M, rfl, ht3, hM3⟩⟩
  · cases hno
  have B3 := hide (bmore B2.out hb3)
  have HI3 := hide (HI2.out.below hb3 (Nat.le_refl _))
  have T3 := hide ht3
  obtain ⟨bq, oq, ea, -⟩ := HI3.out.2.2.2 (by omega)
  subst ea
  have HMw : Hid (w.heap.size ≤ M ∧ bq ≠ M) := hide ⟨by have := B2.out.size; omega, by have : bq < _ := HI2.out.lt (by omega) _ rfl; omega⟩
  obtain ⟨h1, h2⟩ := and_mask i 65535 (by decide)
  obtain ⟨u, hu⟩ := Int.eq_ofNat_of_zero_le h1
  have hu' : bits BinOp.and IntKind.i64 i 65535 = (u : Int) := hu
  have hu5 : u ≤ 65535 := by rw [hu] at h2; omega
  clear h1 h2 hu
  obtain ⟨h1, h2⟩ := and_mask k 65535 (by decide)
  obtain ⟨v, hv⟩ := Int.eq_ofNat_of_zero_le h1
  have hv' : bits BinOp.and IntKind.i64 k 65535 = (v : Int) := hv
  have hv5 : v ≤ 65535 := by rw [hv] at h2; omega
  clear h1 h2 hv
  have hN0 : (N : Int) ≠ 0 := by omega
  have hN1 : (0 : Int) < (N : Int) := by omega
  obtain ⟨I0, hI⟩ : ∃ I : Nat, u % N = I := ⟨_, rfl⟩
  obtain ⟨K0, hK⟩ : ∃ K : Nat, v % N = K := ⟨_, rfl⟩
  have hI1 : I0 < N := by rw [← hI]; exact Nat.mod_lt _ (by omega)
  have hK1 : K0 < N := by rw [← hK]; exact Nat.mod_lt _ (by omega)
  have hIe : (u : Int) % (N : Int) = (I0 : Int) := by rw [← hI]; exact (Int.natCast_emod u N).symm
  have hKe : (v : Int) % (N : Int) = (K0 : Int) := by rw [← hK]; exact (Int.natCast_emod v N).symm
  have hIt : (u : Int).tmod (N : Int) = (I0 : Int) := by rw [Int.tmod_eq_emod_of_nonneg (by omega)]; exact hIe
  have hKt : (v : Int).tmod (N : Int) = (K0 : Int) := by rw [Int.tmod_eq_emod_of_nonneg (by omega)]; exact hKe
  clear hI hK HRd hb3 ht3 hM3
  go_wp2_with fail
  go_region
  have B4 := hide (B3.out.drew)
  have HI4 := hide (HI3.out.below (Below.refl _ _).drew (Nat.le_refl _))
  have T4 := hide (T3.out.keep (Below.refl _ _).drew)
  generalize w3.drew = w4 at *
  clear hIe hKe hIt hKt hu' hv' hN0 T3 B3 HI2 HI3
  have HSZ := hide (T4.out.lt M T4.out.base)
  by_cases hgt : K0 < I0
  · have hgi : (K0 : Int) < (I0 : Int) := by omega
    have hIi : (K0 : Int) < (N : Int) := by omega
    have hKi : (I0 : Int) < (N : Int) := by omega
    have x1g := HGet.out K0 (by omega)
    have x2g := HGet.out I0 (by omega)
    have HFd1 := hide (HFd.out K0 (by omega))
    have HW1 := hide (HWf.out K0 (by omega))
    have HW2 := hide (HWf.out I0 (by omega))
    have HT2 := hide (HTi.out I0)
    have hcell : ∀ W, Is W (some ⟨bq, oq, none⟩) N cq q → ∀ j y, q[j]? = some y → Vt W bq (oq + j * 5) y := fun W hW j y hj => by
      obtain ⟨b9, o9, e9, hc⟩ := hW.2.2.2 (by omega)
      cases e9
      exact hc j y hj
    have HRG := hide (rg_of HT.out.rise x1g x2g)
    have HCx := hide (fun W (hW : Is W (some ⟨bq, oq, none⟩) N cq q) => hcell W hW K0 _ x1g)
    have HCy := hide (fun W (hW : Is W (some ⟨bq, oq, none⟩) N cq q) => hcell W hW I0 _ x2g)
    clear hcell
    generalize mi l K0 = x1 at *
    generalize mi l I0 = x2 at *
    obtain ⟨S1, K1, T1, V1, Y1⟩ := x1
    obtain ⟨S2, K2, T2, V2, Y2⟩ := x2
    simp only at HT2
    unfold Vt Vi at HCx HCy
    simp only at HCx HCy
    have hG := tget_any w4 M 0 _ q T4.out ⟨S1, K1, T1, V1, Y1⟩ HW1.out
    rw [HFd1.out] at hG
    have HG := hide hG
    obtain ⟨p0, p1, p2, p3, p4⟩ := HCx.out _ HI4.out
    clear hG x1g x2g
    go_wp2_with fail
    refine HG.out.mono ?_
    rintro e w5 ⟨rfl, ⟨d5, ht5⟩, hc5⟩
    have HS45 := hide hc5.size
    rw [show (cv ((some (⟨S1, K1, T1, V1, Y1⟩ : It)).getD oz)).toArray = #[Value.int IntKind.i64 S1, Value.int IntKind.i64 K1, Value.int IntKind.u64 T1, Value.int IntKind.u64 V1, Value.int IntKind.i64 Y1] from rfl, show (some (⟨S1, K1, T1, V1, Y1⟩ : It)).isSome = true from rfl]
    have B5 : Hid (Below w.heap.size w w5) := hide (Clep.Below.ch B4.out hc5 B4.out.size (fun i hi => by rw [hi]; exact HMw.out.1))
    have HI5 := hide (HI4.out.ch hc5 (fun _ x hx e => by cases hx; exact HMw.out.2 e))
    have A6 := (Below.refl _ w5).alloc (Nat.le_refl _) (Obj.cells #[Value.int IntKind.i64 S1, Value.int IntKind.i64 K1, Value.int IntKind.u64 T1, Value.int IntKind.u64 V1, Value.int IntKind.i64 Y1] 25)
    have X6 := vi_new w5 S1 K1 T1 V1 Y1
    obtain ⟨w6, hw6⟩ : ∃ w6, w6 = w5.alloc (Obj.cells #[Value.int IntKind.i64 S1, Value.int IntKind.i64 K1, Value.int IntKind.u64 T1, Value.int IntKind.u64 V1, Value.int IntKind.i64 Y1] 25) := ⟨_, rfl⟩
    rw [← hw6] at A6 X6
    have A7 := (Below.refl _ w6).alloc (Nat.le_refl _) (Obj.cells #[Value.int IntKind.i64 S2, Value.int IntKind.i64 K2, Value.int IntKind.u64 (T2 + 1000), Value.int IntKind.u64 V2, Value.int IntKind.i64 Y2] 25)
    obtain ⟨w7, hw7⟩ : ∃ w7, w7 = w6.alloc (Obj.cells #[Value.int IntKind.i64 S2, Value.int IntKind.i64 K2, Value.int IntKind.u64 (T2 + 1000), Value.int IntKind.u64 V2, Value.int IntKind.i64 Y2] 25) := ⟨_, rfl⟩
    rw [← hw7] at A7
    have hG2 := tget_any w7 M d5 _ q (ht5.keep (bmore A6 A7)) ⟨S2, K2, T2 + 1000, V2, Y2⟩ ⟨HW2.out.1, HW2.out.2.1, by have := HT2.out; show 0 ≤ T2 + 1000 ∧ T2 + 1000 ≤ _; omega, HW2.out.2.2.2.1, HW2.out.2.2.2.2⟩
    rw [HNo.out _ (by have := HT2.out; show (40 : Int) ≤ T2 + 1000; omega)] at hG2
    have HG2 := hide hG2
    have B7 := hide (bmore B5.out (bmore A6 A7))
    have HI7 := hide (HI5.out.below (bmore A6 A7) (Nat.le_refl _))
    have HX7 := hide (X6.keep A7)
    have hs6 : w6.heap.size = w5.heap.size + 1 := by rw [hw6]; simp
    have hT2a := HT2.out
    have hbq5 : bq < w5.heap.size := HI5.out.lt (by omega) _ rfl
    obtain ⟨q0, q1, q2, q3, q4⟩ := HCy.out _ HI5.out
    clear HG ht5 hc5 hG2 A6 A7 X6 p0 p1 p2 p3 p4
    go_wp2_with fail
    rw [← hw6, ← hw7]
    have R14 := hide (HX7.out.lt)
    have HR14M : Hid (w5.heap.size ≠ M) := hide (by have h1 := T4.out.lt M T4.out.base; have h2 := HS45.out; omega)
    clear hw6 hw7 q0 q1 q2 q3 q4 hT2a hs6
    obtain ⟨R6, hR6⟩ : ∃ R6, R6 = w5.heap.size := ⟨_, rfl⟩
    rw [← hR6] at HX7 R14 HR14M ⊢
    clear hR6 hbq5
    refine HG2.out.mono ?_
    rintro e w8 ⟨rfl, ⟨d8, ht8⟩, hc8⟩
    rw [show (cv ((none : Option It).getD oz)).toArray = #[Value.int IntKind.i64 0, Value.int IntKind.i64 0, Value.int IntKind.u64 0, Value.int IntKind.u64 0, Value.int IntKind.i64 0] from rfl, show (none : Option It).isSome = false from rfl]
    have B8 : Hid (Below w.heap.size w w8) := hide (Clep.Below.ch B7.out hc8 B7.out.size (fun i hi => by rw [hi]; exact HMw.out.1))
    have HI8 := hide (HI7.out.ch hc8 (fun _ x hx e => by cases hx; exact HMw.out.2 e))
    have HX8 := hide (HX7.out.ch hc8 HR14M.out)
    have A9 := (Below.refl _ w8).alloc (Nat.le_refl _) (Obj.cells #[Value.int IntKind.i64 0, Value.int IntKind.i64 0, Value.int IntKind.u64 0, Value.int IntKind.u64 0, Value.int IntKind.i64 0] 25)
    obtain ⟨w9, hw9⟩ : ∃ w9, w9 = w8.alloc (Obj.cells #[Value.int IntKind.i64 0, Value.int IntKind.i64 0, Value.int IntKind.u64 0, Value.int IntKind.u64 0, Value.int IntKind.i64 0] 25) := ⟨_, rfl⟩
    rw [← hw9] at A9
    have B9 := hide (bmore B8.out A9)
    have HI9 := hide (HI8.out.below A9 (Nat.le_refl _))
    have HX9 := hide (HX8.out.keep A9)
    have T9 := hide (ht8.keep A9)
    clear HG2 ht8 hc8 A9 HX7 HX8 HI7 HI8 B7 B8
    have HK : Hid (∀ W, Ch (fun b => b = M) w9 W → (Ch (fun b => b = M) w9 W ∧ (W.cell? ⟨R6, 0, none⟩ = some (.int .i64 S1) ∧ W.cell? ⟨R6, 1, none⟩ = some (.int .i64 K1) ∧ W.cell? ⟨R6, 2, none⟩ = some (.int .u64 T1) ∧ W.cell? ⟨R6, 3, none⟩ = some (.int .u64 V1) ∧ W.cell? ⟨R6, 4, none⟩ = some (.int .i64 Y1)) ∧ (W.cell? ⟨bq, oq + K0 * 5, none⟩ = some (.int .i64 S1) ∧ W.cell? ⟨bq, oq + K0 * 5 + 1, none⟩ = some (.int .i64 K1) ∧ W.cell? ⟨bq, oq + K0 * 5 + 2, none⟩ = some (.int .u64 T1) ∧ W.cell? ⟨bq, oq + K0 * 5 + 3, none⟩ = some (.int .u64 V1) ∧ W.cell? ⟨bq, oq + K0 * 5 + 4, none⟩ = some (.int .i64 Y1)) ∧ (W.cell? ⟨bq, oq + I0 * 5, none⟩ = some (.int .i64 S2) ∧ W.cell? ⟨bq, oq + I0 * 5 + 1, none⟩ = some (.int .i64 K2) ∧ W.cell? ⟨bq, oq + I0 * 5 + 2, none⟩ = some (.int .u64 T2) ∧ W.cell? ⟨bq, oq + I0 * 5 + 3, none⟩ = some (.int .u64 V2) ∧ W.cell? ⟨bq, oq + I0 * 5 + 4, none⟩ = some (.int .i64 Y2)))) := hide (fun W hW => by
      have hI := HI9.out.ch hW (fun _ x hx e => by cases hx; exact HMw.out.2 e)
      have hx := HX9.out.ch hW HR14M.out
      unfold Vi at hx
      simp only [Nat.zero_add] at hx
      exact ⟨hW, hx, HCx.out W hI, HCy.out W hI⟩)
    have HIs : Hid (∀ W, Ch (fun b => b = M) w9 W → Is W (some ⟨bq, oq + K0 * 5, none⟩) (I0 + 1 - K0) (cq - K0) ((q.take (I0 + 1)).drop K0)) := hide (fun W hW => by
      have hI := HI9.out.ch hW (fun _ x hx e => by cases hx; exact HMw.out.2 e)
      have := hI.cut K0 (I0 + 1) (by omega) (by omega)
      have e : icut (some ⟨bq, oq, none⟩) cq K0 = some ⟨bq, oq + K0 * 5, none⟩ := by unfold icut; rw [if_neg (by have := hI.2.1.1; omega)]; simp [add_plain]
      rwa [e] at this)
    have hcqN : N ≤ cq := HI9.out.2.1.1
    have hsl : ∀ W : World, (Instr.sliceAt 22 (.slice (some ⟨bq, oq, none⟩) N cq) (some (.int .i64 (K0 : Int))) (some (.int .i64 ((I0 : Int) + 1))) none).run Tryz.prog W = .ok (.slice (some ⟨bq, oq + K0 * 5, none⟩) (I0 + 1 - K0) (cq - K0)) W := fun W => by
      have := icut_lh W (some ⟨bq, oq, none⟩) N cq .i64 .i64 (K0 : Int) ((I0 : Int) + 1) (by omega) (by omega) (by omega)
      rw [this]
      have e : icut (some ⟨bq, oq, none⟩) cq (K0 : Int).toNat = some ⟨bq, oq + K0 * 5, none⟩ := by rw [show (K0 : Int).toNat = K0 by omega]; unfold icut; rw [if_neg (by omega)]; simp [add_plain]
      rw [e, show (K0 : Int).toNat = K0 by omega, show ((I0 : Int) + 1).toNat = I0 + 1 by omega]
    have hwr : IntKind.i64.wrap ((I0 : Int) + 1) = (I0 : Int) + 1 := by simp [IntKind.wrap, IntKind.bits, IntKind.signed]; omega
    have cR : Hid (∀ W, Below w9.heap.size w9 W → Calls Tryz.prog 24 #[.pointer (some ⟨M, 0, none⟩), .agg #[Value.int IntKind.i64 S1, Value.int IntKind.i64 K1, Value.int IntKind.u64 T1, Value.int IntKind.u64 V1, Value.int IntKind.i64 Y1], .agg #[Value.int IntKind.i64 S2, Value.int IntKind.i64 K2, Value.int IntKind.u64 T2, Value.int IntKind.u64 V2, Value.int IntKind.i64 Y2]] W fun e w' => ∃ a9 n9 c9, e = .returned (.slice a9 n9 c9) ∧ Ch (fun b => b = M) w9 w' ∧ Hid (Is w' a9 n9 c9 ((q.take (I0 + 1)).drop K0) ∧ c9 ≤ 9223372036854775807) ∧ Hid (Tq w' M q)) := hide (fun W hW => (trange_any W M d8 _ q (T9.out.keep hW) ⟨S1, K1, T1, V1, Y1⟩ ⟨S2, K2, T2, V2, Y2⟩).mono fun e w' ⟨a9, n9, c9, r1, r2, r3, ⟨d9, r4⟩, r5⟩ => ⟨a9, n9, c9, r1, (Ch.of hW).trans r5, hide ⟨by rw [HRG.out] at r2; exact r2, r3⟩, hide ⟨_, d9, r4⟩⟩)
    have cE : Hid (∀ W a9 n9 c9, Ch (fun b => b = M) w9 W → Hid (Is W a9 n9 c9 ((q.take (I0 + 1)).drop K0) ∧ c9 ≤ 9223372036854775807) → Hid (Tq W M q) → Calls Tryz.prog 16 #[.slice a9 n9 c9, .slice (some ⟨bq, oq + K0 * 5, none⟩) (I0 + 1 - K0) (cq - K0)] W fun e w' => e = .returned (.bool true) ∧ Ch (fun b => b = M) w9 w' ∧ Hid (Tq w' M q) ∧ Hid (n9 = n9)) := hide (fun W a9 n9 c9 hW hI hT => (refequal_any a9 (some ⟨bq, oq + K0 * 5, none⟩) n9 c9 (I0 + 1 - K0) (cq - K0) _ _ W hI.out.1 (HIs.out W hW) (Nat.le_trans hI.out.1.2.1.1 hI.out.2) (by omega)).mono fun e w' ⟨o, r1, r2, r3⟩ => ⟨by rw [r1, r2.2 rfl], hW.trans (Ch.of r3), hide (by obtain ⟨B, d, r⟩ := hT.out; exact ⟨B, d, r.keep r3⟩), hide rfl⟩)
    have cL : Hid (∀ W, Ch (fun b => b = M) w9 W → Hid (Tq W M q) → Calls Tryz.prog 15 #[.pointer (some ⟨M, 0, none⟩)] W fun e w' => e = .returned (.int .i64 (N : Int)) ∧ Ch (fun b => b = M) w9 w') := hide (fun W hW hT => by
      obtain ⟨B, d, r⟩ := hT.out
      exact (tlen_any W M d B q r).mono fun e w' ⟨r1, r2⟩ => ⟨by rw [r1, HLN.out], by rw [r2]; exact hW⟩)
    have cW : Hid (∀ W, Ch (fun b => b = M) w9 W → Calls Tryz.prog 9 #[] W fun e w' => e = .returned (.bool true) ∧ Ch (fun b => b = M) w9 w') := hide (fun W hW => (qawake_any W).mono fun e w' ⟨r1, r2⟩ => ⟨r1, hW.trans (Ch.of r2)⟩)
    have hb0 : Below w9.heap.size w9 w9 := Below.refl _ _
    have hb1 : Below w9.heap.size w9 w9.drew := (Below.refl _ _).drew
    have hk0 : Ch (fun b => b = M) w9 w9 := Ch.of hb0
    have hk1 : Ch (fun b => b = M) w9 w9.drew := Ch.of hb1
    obtain ⟨-, ⟨g0, g1, g2, g3, g4⟩, ⟨p0, p1, p2, p3, p4⟩, ⟨q0, q1, q2, q3, q4⟩⟩ := HK.out _ hk0
    clear HIs HCx HCy HI9 HX9 T9 HI4 HI5 T4 B4 B5
    go_wp2_with fail
    rw [← hw9]
    clear hw9
    go_region_held_law (fun W => Ch (fun b => b = M) w9 W ∧ (W.cell? ⟨R6, 0, none⟩ = some (.int .i64 S1) ∧ W.cell? ⟨R6, 1, none⟩ = some (.int .i64 K1) ∧ W.cell? ⟨R6, 2, none⟩ = some (.int .u64 T1) ∧ W.cell? ⟨R6, 3, none⟩ = some (.int .u64 V1) ∧ W.cell? ⟨R6, 4, none⟩ = some (.int .i64 Y1)) ∧ (W.cell? ⟨bq, oq + K0 * 5, none⟩ = some (.int .i64 S1) ∧ W.cell? ⟨bq, oq + K0 * 5 + 1, none⟩ = some (.int .i64 K1) ∧ W.cell? ⟨bq, oq + K0 * 5 + 2, none⟩ = some (.int .u64 T1) ∧ W.cell? ⟨bq, oq + K0 * 5 + 3, none⟩ = some (.int .u64 V1) ∧ W.cell? ⟨bq, oq + K0 * 5 + 4, none⟩ = some (.int .i64 Y1)) ∧ (W.cell? ⟨bq, oq + I0 * 5, none⟩ = some (.int .i64 S2) ∧ W.cell? ⟨bq, oq + I0 * 5 + 1, none⟩ = some (.int .i64 K2) ∧ W.cell? ⟨bq, oq + I0 * 5 + 2, none⟩ = some (.int .u64 T2) ∧ W.cell? ⟨bq, oq + I0 * 5 + 3, none⟩ = some (.int .u64 V2) ∧ W.cell? ⟨bq, oq + I0 * 5 + 4, none⟩ = some (.int .i64 Y2)))
      (first | exact HK.out _ (by with_reducible assumption) | exact HK.out _ hk1 | exact HK.out _ hk0)
      (first
      | (go_at_call 24; refine (cR.out _ (by with_reducible assumption)).mono ?_; rintro e wa ⟨a9, n9, c9, rfl, hca, hIa, hTa⟩)
      | (go_at_call 16; refine (cE.out _ _ _ _ (And.left (by with_reducible assumption)) (by with_reducible assumption) (by with_reducible assumption)).mono ?_; rintro e wb ⟨rfl, hcb, hTb, hnn⟩)
      | (go_at_call 15; refine (cL.out _ (And.left (by with_reducible assumption)) (by with_reducible assumption)).mono ?_; rintro e wc ⟨rfl, hcc⟩)
      | (go_at_call 9; refine (cW.out _ (And.left (by with_reducible assumption))).mono ?_; rintro e wd ⟨rfl, hcd⟩))
    all_goals
      have BD : Hid (Below w.heap.size w wd) := hide (Clep.Below.ch B9.out hcd B9.out.size (fun i hi => by rw [hi]; exact HMw.out.1))
      rename_i hX
      clear hX hcd hcc hcb hca hIa hTa hTb cR cE cL cW HK
      go_wp2
      go_ret
      exact ⟨rfl, BD.out⟩
  · have hle : I0 ≤ K0 := by omega
    have hgi : ¬ ((K0 : Int) < (I0 : Int)) := by omega
    have hIi : (I0 : Int) < (N : Int) := by omega
    have hKi : (K0 : Int) < (N : Int) := by omega
    have x1g := HGet.out I0 (by omega)
    have x2g := HGet.out K0 (by omega)
    have HFd1 := hide (HFd.out I0 (by omega))
    have HW1 := hide (HWf.out I0 (by omega))
    have HW2 := hide (HWf.out K0 (by omega))
    have HT2 := hide (HTi.out K0)
    have hcell : ∀ W, Is W (some ⟨bq, oq, none⟩) N cq q → ∀ j y, q[j]? = some y → Vt W bq (oq + j * 5) y := fun W hW j y hj => by
      obtain ⟨b9, o9, e9, hc⟩ := hW.2.2.2 (by omega)
      cases e9
      exact hc j y hj
    have HRG := hide (rg_of HT.out.rise x1g x2g)
    have HCx := hide (fun W (hW : Is W (some ⟨bq, oq, none⟩) N cq q) => hcell W hW I0 _ x1g)
    have HCy := hide (fun W (hW : Is W (some ⟨bq, oq, none⟩) N cq q) => hcell W hW K0 _ x2g)
    clear hcell
    generalize mi l I0 = x1 at *
    generalize mi l K0 = x2 at *
    obtain ⟨S1, K1, T1, V1, Y1⟩ := x1
    obtain ⟨S2, K2, T2, V2, Y2⟩ := x2
    simp only at HT2
    unfold Vt Vi at HCx HCy
    simp only at HCx HCy
    have hG := tget_any w4 M 0 _ q T4.out ⟨S1, K1, T1, V1, Y1⟩ HW1.out
    rw [HFd1.out] at hG
    have HG := hide hG
    obtain ⟨p0, p1, p2, p3, p4⟩ := HCx.out _ HI4.out
    clear hG x1g x2g
    go_wp2_with fail
    refine HG.out.mono ?_
    rintro e w5 ⟨rfl, ⟨d5, ht5⟩, hc5⟩
    have HS45 := hide hc5.size
    rw [show (cv ((some (⟨S1, K1, T1, V1, Y1⟩ : It)).getD oz)).toArray = #[Value.int IntKind.i64 S1, Value.int IntKind.i64 K1, Value.int IntKind.u64 T1, Value.int IntKind.u64 V1, Value.int IntKind.i64 Y1] from rfl, show (some (⟨S1, K1, T1, V1, Y1⟩ : It)).isSome = true from rfl]
    have B5 : Hid (Below w.heap.size w w5) := hide (Clep.Below.ch B4.out hc5 B4.out.size (fun i hi => by rw [hi]; exact HMw.out.1))
    have HI5 := hide (HI4.out.ch hc5 (fun _ x hx e => by cases hx; exact HMw.out.2 e))
    have A6 := (Below.refl _ w5).alloc (Nat.le_refl _) (Obj.cells #[Value.int IntKind.i64 S1, Value.int IntKind.i64 K1, Value.int IntKind.u64 T1, Value.int IntKind.u64 V1, Value.int IntKind.i64 Y1] 25)
    have X6 := vi_new w5 S1 K1 T1 V1 Y1
    obtain ⟨w6, hw6⟩ : ∃ w6, w6 = w5.alloc (Obj.cells #[Value.int IntKind.i64 S1, Value.int IntKind.i64 K1, Value.int IntKind.u64 T1, Value.int IntKind.u64 V1, Value.int IntKind.i64 Y1] 25) := ⟨_, rfl⟩
    rw [← hw6] at A6 X6
    have A7 := (Below.refl _ w6).alloc (Nat.le_refl _) (Obj.cells #[Value.int IntKind.i64 S2, Value.int IntKind.i64 K2, Value.int IntKind.u64 (T2 + 1000), Value.int IntKind.u64 V2, Value.int IntKind.i64 Y2] 25)
    obtain ⟨w7, hw7⟩ : ∃ w7, w7 = w6.alloc (Obj.cells #[Value.int IntKind.i64 S2, Value.int IntKind.i64 K2, Value.int IntKind.u64 (T2 + 1000), Value.int IntKind.u64 V2, Value.int IntKind.i64 Y2] 25) := ⟨_, rfl⟩
    rw [← hw7] at A7
    have hG2 := tget_any w7 M d5 _ q (ht5.keep (bmore A6 A7)) ⟨S2, K2, T2 + 1000, V2, Y2⟩ ⟨HW2.out.1, HW2.out.2.1, by have := HT2.out; show 0 ≤ T2 + 1000 ∧ T2 + 1000 ≤ _; omega, HW2.out.2.2.2.1, HW2.out.2.2.2.2⟩
    rw [HNo.out _ (by have := HT2.out; show (40 : Int) ≤ T2 + 1000; omega)] at hG2
    have HG2 := hide hG2
    have B7 := hide (bmore B5.out (bmore A6 A7))
    have HI7 := hide (HI5.out.below (bmore A6 A7) (Nat.le_refl _))
    have HX7 := hide (X6.keep A7)
    have hs6 : w6.heap.size = w5.heap.size + 1 := by rw [hw6]; simp
    have hT2a := HT2.out
    have hbq5 : bq < w5.heap.size := HI5.out.lt (by omega) _ rfl
    obtain ⟨q0, q1, q2, q3, q4⟩ := HCy.out _ HI5.out
    clear HG ht5 hc5 hG2 A6 A7 X6 p0 p1 p2 p3 p4
    go_wp2_with fail
    rw [← hw6, ← hw7]
    have R14 := hide (HX7.out.lt)
    have HR14M : Hid (w5.heap.size ≠ M) := hide (by have h1 := T4.out.lt M T4.out.base; have h2 := HS45.out; omega)
    clear hw6 hw7 q0 q1 q2 q3 q4 hT2a hs6
    obtain ⟨R6, hR6⟩ : ∃ R6, R6 = w5.heap.size := ⟨_, rfl⟩
    rw [← hR6] at HX7 R14 HR14M ⊢
    clear hR6 hbq5
    refine HG2.out.mono ?_
    rintro e w8 ⟨rfl, ⟨d8, ht8⟩, hc8⟩
    rw [show (cv ((none : Option It).getD oz)).toArray = #[Value.int IntKind.i64 0, Value.int IntKind.i64 0, Value.int IntKind.u64 0, Value.int IntKind.u64 0, Value.int IntKind.i64 0] from rfl, show (none : Option It).isSome = false from rfl]
    have B8 : Hid (Below w.heap.size w w8) := hide (Clep.Below.ch B7.out hc8 B7.out.size (fun i hi => by rw [hi]; exact HMw.out.1))
    have HI8 := hide (HI7.out.ch hc8 (fun _ x hx e => by cases hx; exact HMw.out.2 e))
    have HX8 := hide (HX7.out.ch hc8 HR14M.out)
    have A9 := (Below.refl _ w8).alloc (Nat.le_refl _) (Obj.cells #[Value.int IntKind.i64 0, Value.int IntKind.i64 0, Value.int IntKind.u64 0, Value.int IntKind.u64 0, Value.int IntKind.i64 0] 25)
    obtain ⟨w9, hw9⟩ : ∃ w9, w9 = w8.alloc (Obj.cells #[Value.int IntKind.i64 0, Value.int IntKind.i64 0, Value.int IntKind.u64 0, Value.int IntKind.u64 0, Value.int IntKind.i64 0] 25) := ⟨_, rfl⟩
    rw [← hw9] at A9
    have B9 := hide (bmore B8.out A9)
    have HI9 := hide (HI8.out.below A9 (Nat.le_refl _))
    have HX9 := hide (HX8.out.keep A9)
    have T9 := hide (ht8.keep A9)
    clear HG2 ht8 hc8 A9 HX7 HX8 HI7 HI8 B7 B8
    have HK : Hid (∀ W, Ch (fun b => b = M) w9 W → (Ch (fun b => b = M) w9 W ∧ (W.cell? ⟨R6, 0, none⟩ = some (.int .i64 S1) ∧ W.cell? ⟨R6, 1, none⟩ = some (.int .i64 K1) ∧ W.cell? ⟨R6, 2, none⟩ = some (.int .u64 T1) ∧ W.cell? ⟨R6, 3, none⟩ = some (.int .u64 V1) ∧ W.cell? ⟨R6, 4, none⟩ = some (.int .i64 Y1)) ∧ (W.cell? ⟨bq, oq + I0 * 5, none⟩ = some (.int .i64 S1) ∧ W.cell? ⟨bq, oq + I0 * 5 + 1, none⟩ = some (.int .i64 K1) ∧ W.cell? ⟨bq, oq + I0 * 5 + 2, none⟩ = some (.int .u64 T1) ∧ W.cell? ⟨bq, oq + I0 * 5 + 3, none⟩ = some (.int .u64 V1) ∧ W.cell? ⟨bq, oq + I0 * 5 + 4, none⟩ = some (.int .i64 Y1)) ∧ (W.cell? ⟨bq, oq + K0 * 5, none⟩ = some (.int .i64 S2) ∧ W.cell? ⟨bq, oq + K0 * 5 + 1, none⟩ = some (.int .i64 K2) ∧ W.cell? ⟨bq, oq + K0 * 5 + 2, none⟩ = some (.int .u64 T2) ∧ W.cell? ⟨bq, oq + K0 * 5 + 3, none⟩ = some (.int .u64 V2) ∧ W.cell? ⟨bq, oq + K0 * 5 + 4, none⟩ = some (.int .i64 Y2)))) := hide (fun W hW => by
      have hI := HI9.out.ch hW (fun _ x hx e => by cases hx; exact HMw.out.2 e)
      have hx := HX9.out.ch hW HR14M.out
      unfold Vi at hx
      simp only [Nat.zero_add] at hx
      exact ⟨hW, hx, HCx.out W hI, HCy.out W hI⟩)
    have HIs : Hid (∀ W, Ch (fun b => b = M) w9 W → Is W (some ⟨bq, oq + I0 * 5, none⟩) (K0 + 1 - I0) (cq - I0) ((q.take (K0 + 1)).drop I0)) := hide (fun W hW => by
      have hI := HI9.out.ch hW (fun _ x hx e => by cases hx; exact HMw.out.2 e)
      have := hI.cut I0 (K0 + 1) (by omega) (by omega)
      have e : icut (some ⟨bq, oq, none⟩) cq I0 = some ⟨bq, oq + I0 * 5, none⟩ := by unfold icut; rw [if_neg (by have := hI.2.1.1; omega)]; simp [add_plain]
      rwa [e] at this)
    have hcqN : N ≤ cq := HI9.out.2.1.1
    have hsl : ∀ W : World, (Instr.sliceAt 22 (.slice (some ⟨bq, oq, none⟩) N cq) (some (.int .i64 (I0 : Int))) (some (.int .i64 ((K0 : Int) + 1))) none).run Tryz.prog W = .ok (.slice (some ⟨bq, oq + I0 * 5, none⟩) (K0 + 1 - I0) (cq - I0)) W := fun W => by
      have := icut_lh W (some ⟨bq, oq, none⟩) N cq .i64 .i64 (I0 : Int) ((K0 : Int) + 1) (by omega) (by omega) (by omega)
      rw [this]
      have e : icut (some ⟨bq, oq, none⟩) cq (I0 : Int).toNat = some ⟨bq, oq + I0 * 5, none⟩ := by rw [show (I0 : Int).toNat = I0 by omega]; unfold icut; rw [if_neg (by omega)]; simp [add_plain]
      rw [e, show (I0 : Int).toNat = I0 by omega, show ((K0 : Int) + 1).toNat = K0 + 1 by omega]
    have hwr : IntKind.i64.wrap ((K0 : Int) + 1) = (K0 : Int) + 1 := by simp [IntKind.wrap, IntKind.bits, IntKind.signed]; omega
    have cR : Hid (∀ W, Below w9.heap.size w9 W → Calls Tryz.prog 24 #[.pointer (some ⟨M, 0, none⟩), .agg #[Value.int IntKind.i64 S1, Value.int IntKind.i64 K1, Value.int IntKind.u64 T1, Value.int IntKind.u64 V1, Value.int IntKind.i64 Y1], .agg #[Value.int IntKind.i64 S2, Value.int IntKind.i64 K2, Value.int IntKind.u64 T2, Value.int IntKind.u64 V2, Value.int IntKind.i64 Y2]] W fun e w' => ∃ a9 n9 c9, e = .returned (.slice a9 n9 c9) ∧ Ch (fun b => b = M) w9 w' ∧ Hid (Is w' a9 n9 c9 ((q.take (K0 + 1)).drop I0) ∧ c9 ≤ 9223372036854775807) ∧ Hid (Tq w' M q)) := hide (fun W hW => (trange_any W M d8 _ q (T9.out.keep hW) ⟨S1, K1, T1, V1, Y1⟩ ⟨S2, K2, T2, V2, Y2⟩).mono fun e w' ⟨a9, n9, c9, r1, r2, r3, ⟨d9, r4⟩, r5⟩ => ⟨a9, n9, c9, r1, (Ch.of hW).trans r5, hide ⟨by rw [HRG.out] at r2; exact r2, r3⟩, hide ⟨_, d9, r4⟩⟩)
    have cE : Hid (∀ W a9 n9 c9, Ch (fun b => b = M) w9 W → Hid (Is W a9 n9 c9 ((q.take (K0 + 1)).drop I0) ∧ c9 ≤ 9223372036854775807) → Hid (Tq W M q) → Calls Tryz.prog 16 #[.slice a9 n9 c9, .slice (some ⟨bq, oq + I0 * 5, none⟩) (K0 + 1 - I0) (cq - I0)] W fun e w' => e = .returned (.bool true) ∧ Ch (fun b => b = M) w9 w' ∧ Hid (Tq w' M q) ∧ Hid (n9 = n9)) := hide (fun W a9 n9 c9 hW hI hT => (refequal_any a9 (some ⟨bq, oq + I0 * 5, none⟩) n9 c9 (K0 + 1 - I0) (cq - I0) _ _ W hI.out.1 (HIs.out W hW) (Nat.le_trans hI.out.1.2.1.1 hI.out.2) (by omega)).mono fun e w' ⟨o, r1, r2, r3⟩ => ⟨by rw [r1, r2.2 rfl], hW.trans (Ch.of r3), hide (by obtain ⟨B, d, r⟩ := hT.out; exact ⟨B, d, r.keep r3⟩), hide rfl⟩)
    have cL : Hid (∀ W, Ch (fun b => b = M) w9 W → Hid (Tq W M q) → Calls Tryz.prog 15 #[.pointer (some ⟨M, 0, none⟩)] W fun e w' => e = .returned (.int .i64 (N : Int)) ∧ Ch (fun b => b = M) w9 w') := hide (fun W hW hT => by
      obtain ⟨B, d, r⟩ := hT.out
      exact (tlen_any W M d B q r).mono fun e w' ⟨r1, r2⟩ => ⟨by rw [r1, HLN.out], by rw [r2]; exact hW⟩)
    have cW : Hid (∀ W, Ch (fun b => b = M) w9 W → Calls Tryz.prog 9 #[] W fun e w' => e = .returned (.bool true) ∧ Ch (fun b => b = M) w9 w') := hide (fun W hW => (qawake_any W).mono fun e w' ⟨r1, r2⟩ => ⟨r1, hW.trans (Ch.of r2)⟩)
    have hb0 : Below w9.heap.size w9 w9 := Below.refl _ _
    have hb1 : Below w9.heap.size w9 w9.drew := (Below.refl _ _).drew
    have hk0 : Ch (fun b => b = M) w9 w9 := Ch.of hb0
    have hk1 : Ch (fun b => b = M) w9 w9.drew := Ch.of hb1
    obtain ⟨-, ⟨g0, g1, g2, g3, g4⟩, ⟨p0, p1, p2, p3, p4⟩, ⟨q0, q1, q2, q3, q4⟩⟩ := HK.out _ hk0
    clear HIs HCx HCy HI9 HX9 T9 HI4 HI5 T4 B4 B5
    go_wp2_with fail
    rw [← hw9]
    clear hw9
    go_region_held_law (fun W => Ch (fun b => b = M) w9 W ∧ (W.cell? ⟨R6, 0, none⟩ = some (.int .i64 S1) ∧ W.cell? ⟨R6, 1, none⟩ = some (.int .i64 K1) ∧ W.cell? ⟨R6, 2, none⟩ = some (.int .u64 T1) ∧ W.cell? ⟨R6, 3, none⟩ = some (.int .u64 V1) ∧ W.cell? ⟨R6, 4, none⟩ = some (.int .i64 Y1)) ∧ (W.cell? ⟨bq, oq + I0 * 5, none⟩ = some (.int .i64 S1) ∧ W.cell? ⟨bq, oq + I0 * 5 + 1, none⟩ = some (.int .i64 K1) ∧ W.cell? ⟨bq, oq + I0 * 5 + 2, none⟩ = some (.int .u64 T1) ∧ W.cell? ⟨bq, oq + I0 * 5 + 3, none⟩ = some (.int .u64 V1) ∧ W.cell? ⟨bq, oq + I0 * 5 + 4, none⟩ = some (.int .i64 Y1)) ∧ (W.cell? ⟨bq, oq + K0 * 5, none⟩ = some (.int .i64 S2) ∧ W.cell? ⟨bq, oq + K0 * 5 + 1, none⟩ = some (.int .i64 K2) ∧ W.cell? ⟨bq, oq + K0 * 5 + 2, none⟩ = some (.int .u64 T2) ∧ W.cell? ⟨bq, oq + K0 * 5 + 3, none⟩ = some (.int .u64 V2) ∧ W.cell? ⟨bq, oq + K0 * 5 + 4, none⟩ = some (.int .i64 Y2)))
      (first | exact HK.out _ (by with_reducible assumption) | exact HK.out _ hk1 | exact HK.out _ hk0)
      (first
      | (go_at_call 24; refine (cR.out _ (by with_reducible assumption)).mono ?_; rintro e wa ⟨a9, n9, c9, rfl, hca, hIa, hTa⟩)
      | (go_at_call 16; refine (cE.out _ _ _ _ (And.left (by with_reducible assumption)) (by with_reducible assumption) (by with_reducible assumption)).mono ?_; rintro e wb ⟨rfl, hcb, hTb, hnn⟩)
      | (go_at_call 15; refine (cL.out _ (And.left (by with_reducible assumption)) (by with_reducible assumption)).mono ?_; rintro e wc ⟨rfl, hcc⟩)
      | (go_at_call 9; refine (cW.out _ (And.left (by with_reducible assumption))).mono ?_; rintro e wd ⟨rfl, hcd⟩))
    all_goals
      have BD : Hid (Below w.heap.size w wd) := hide (Clep.Below.ch B9.out hcd B9.out.size (fun i hi => by rw [hi]; exact HMw.out.1))
      rename_i hX
      clear hX hcd hcc hcb hca hIa hTa hTb cR cE cL cW HK
      go_wp2
      go_ret
      exact ⟨rfl, BD.out⟩

end Go.Proofs.YtodhljiboakjnaaGreat.Clep
