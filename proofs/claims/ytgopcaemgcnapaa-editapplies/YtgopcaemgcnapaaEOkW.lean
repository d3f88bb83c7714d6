/- What edit.Ok, cmp.Or, slices.Clone, slices.Equal, edit.Same and edit.Whole do when called (walks over the translated program): for any Views. -/
import Derived.Test.YtgopcaemgcnapaaEOk
import Derived.Test.YtgopcaemgcnapaaEAst
namespace Go.Proofs.Ytgopcaemgcnapaa.Clep
open Go.RowKit
set_option linter.unusedVariables false
set_option maxRecDepth 10000

theorem uz4 {w : World} {p : Nat} {x0 x1 x2 x3 : Int} {T : TypeId} (h : Ek w p #[.int .u64 x0, .int .u64 x1, .int .u64 x2, .int .u64 x3] T) : Uz w p [x0, x1, x2, x3] := by
  intro i z hz
  match i, hz with
  | 0, hz => exact h.cell (by simpa using hz)
  | 1, hz => exact h.cell (by simpa using hz)
  | 2, hz => exact h.cell (by simpa using hz)
  | 3, hz => exact h.cell (by simpa using hz)
  | k + 4, hz => simp at hz
set_option maxHeartbeats 1000000 in
theorem ok_any (fa : Option Addr) (fn fc : Nat) (V : Vw) (w : World) (h : Fs w fa fn fc V.f) (hn : fn ≤ 9223372036854775807) (hc : fc ≤ 9223372036854775807) :
    Calls Try.prog 22 #[vwV fa fn fc V] w fun e w' => e = .returned (.bool (vok V)) ∧ Below w.heap.size w w' := by
  have hl := h.1
  have H0 := hide (fun W (hW : Below w.heap.size w W) => h.below hW (Nat.le_refl _))
  have HV := hide (vok_parts V)
  have HFL := hide (show flk V.f = true → fn ≤ 40 from fun e => by
    unfold flk at e
    rw [Bool.and_eq_true] at e
    have := of_decide_eq_true e.1
    omega)
  generalize vok V = M at *
  obtain ⟨lg, l, fl, ct, at9, ls⟩ := V
  unfold vwV
  simp only at hl H0 HV HFL ⊢
  clear h
  have A0 := (Below.refl w.heap.size w).alloc (Nat.le_refl _) (Obj.cells #[.int .i64 lg, .slice fa fn fc, .int .u64 fl, .int .u64 ct, .int .u64 at9, .int .u64 ls] 26)
  have HB0 := hide A0
  have hK := hide (show ∀ W, Below (w.heap.size + 1) (w.alloc (Obj.cells #[.int .i64 lg, .slice fa fn fc, .int .u64 fl, .int .u64 ct, .int .u64 at9, .int .u64 ls] 26)) W → Ek W w.heap.size #[.int .i64 lg, .slice fa fn fc, .int .u64 fl, .int .u64 ct, .int .u64 at9, .int .u64 ls] 26 from fun W hW => (ek_new w _ _).below hW (by omega))
  clear A0
  obtain ⟨o1, e1⟩ : ∃ o, okN lg = o := ⟨_, rfl⟩
  obtain ⟨o2, e2⟩ : ∃ o, flk l = o := ⟨_, rfl⟩
  obtain ⟨o3, e3⟩ : ∃ o, once l = o := ⟨_, rfl⟩
  obtain ⟨o4, e4⟩ : ∃ o, [fl, ct, at9, ls].all okV = o := ⟨_, rfl⟩
  have C1 := hide (numok_any lg)
  have C2 := hide (fun W (hW : Below w.heap.size w W) => filesok_any fa fn fc l W (H0.out W hW) hn)
  have C3 := hide (fun W (hW : Below w.heap.size w W) (h40 : fn ≤ 40) => distinct_any fa fn fc l W (H0.out W hW) h40 hc)
  have C4 := hide (fun p W (hW : Uz W p [fl, ct, at9, ls]) => versok_any p 4 _ W hW rfl (by omega))
  rw [e1] at C1
  rw [e2] at C2
  rw [e3] at C3
  rw [e4] at C4
  rw [e1, e2, e3, e4] at HV
  rw [e2] at HFL
  clear e1 e2 e3 e4
  go_enter Try.func22, Try.ntmps22
  go_wp2_with fail
  generalize hwa : w.alloc (Obj.cells #[.int .i64 lg, .slice fa fn fc, .int .u64 fl, .int .u64 ct, .int .u64 at9, .int .u64 ls] 26) = wa at *
  have hsa : wa.heap.size = w.heap.size + 1 := by rw [← hwa]; simp
  clear hwa
  refine (C1.out _).mono ?_
  rintro e w1 ⟨rfl, rfl⟩
  clear C1
  cases o1 with
  | false =>
    obtain rfl : M = false := by rw [HV.out]; rfl
    clear HV
    go_wp2
    go_ret
    exact ⟨rfl, HB0.out⟩
  | true =>
    rw [Bool.true_and] at HV
    have k1 := (hK.out _ (Below.refl _ _)).cell (o := 1) rfl
    go_wp2_with fail
    refine (C2.out _ HB0.out).mono ?_
    rintro e w2 ⟨rfl, hb2⟩
    have HB2 := hide (HB0.out.trans (hb2.mono (by omega)))
    have HC2 := hide (hb2.mono (Nat.le_of_eq hsa.symm))
    clear C2 hb2 k1
    cases o2 with
    | false =>
      obtain rfl : M = false := by rw [HV.out]; rfl
      clear HV HFL
      go_wp2
      go_ret
      exact ⟨rfl, HB2.out⟩
    | true =>
      rw [Bool.true_and] at HV
      have h40 := HFL.out (by first | rfl | trivial)
      have k1 := (hK.out _ HC2.out).cell (o := 1) rfl
      clear HFL
      go_wp2_with fail
      refine (C3.out _ HB2.out h40).mono ?_
      rintro e w3 ⟨rfl, hb3⟩
      have HB3 := hide (HB2.out.trans (hb3.mono HB2.out.size))
      have HC3 := hide (HC2.out.trans (hb3.mono (by have := HC2.out.size; omega)))
      clear C3 hb3 k1
      cases o3 with
      | false =>
        obtain rfl : M = false := by rw [HV.out]; rfl
        clear HV
        go_wp2
        go_ret
        exact ⟨rfl, HB3.out⟩
      | true =>
        obtain rfl : M = o4 := by rw [HV.out]; rfl
        have k := hK.out _ HC3.out
        have k2 := k.cell (o := 2) rfl
        have k3 := k.cell (o := 3) rfl
        have k4 := k.cell (o := 4) rfl
        have k5 := k.cell (o := 5) rfl
        have HB4 := hide (HB3.out.alloc HB3.out.size (Obj.cells #[.int .u64 fl, .int .u64 ct, .int .u64 at9, .int .u64 ls] 24))
        have HU := hide (uz4 (ek_new w3 #[.int .u64 fl, .int .u64 ct, .int .u64 at9, .int .u64 ls] 24))
        clear k HV
        go_wp2_with fail
        refine (C4.out _ _ HU.out).mono ?_
        rintro e w4 ⟨rfl, rfl⟩
        clear C4 HU k2 k3 k4 k5
        go_wp2
        go_ret
        exact ⟨rfl, HB4.out⟩

def or0 : List Int → Int
  | [] => 0
  | x :: r => if x = 0 then or0 r else x
theorem or0_two (x y : Int) : or0 [x, y] = put0 y x := by
  unfold or0 put0 or0 or0
  by_cases h : x = 0 <;> by_cases h' : y = 0 <;> simp [h, h']
theorem or0_step {ns : List Int} {k : Nat} {z : Int} (h : ns[k]? = some z) : or0 (ns.drop k) = if z = 0 then or0 (ns.drop (k + 1)) else z := by
  obtain ⟨hk, rfl⟩ := List.getElem?_eq_some_iff.1 h
  rw [List.drop_eq_getElem_cons hk]
  rfl
theorem oru_any (p n : Nat) (ns : List Int) (w : World) (h : Uz w p ns) (hl : ns.length = n) (hn : n ≤ 9223372036854775807) :
    Calls Try.prog 28 #[.slice (some ⟨p, 0, none⟩) n n] w fun e w' => e = .returned (.int .u64 (or0 ns)) ∧ w' = w := by
  have H := hide h
  obtain ⟨M, hM⟩ : ∃ M, or0 ns = M := ⟨_, rfl⟩
  rw [hM]
  have HM := hide hM
  clear h hM
  go_enter Try.func28, Try.ntmps28
  go_wp2_with fail
  go_loop [8] (fun s => ∃ i : Nat, i ≤ n ∧ s = .int .i64 i ∧ Hid (or0 (ns.drop i) = M)) (fun s => n - (intOf s).toNat)
  case atStart => exact ⟨0, by omega, rfl, hide HM.out⟩
  case round =>
    obtain ⟨i, hi, rfl, hall⟩ := hrel
    by_cases hlt : i < n
    · obtain ⟨z, hz⟩ : ∃ z, ns[i]? = some z := ⟨_, List.getElem?_eq_getElem (by rw [hl]; exact hlt)⟩
      have hcell := H.out i z hz
      by_cases hok : z = 0
      · have HT : Hid (or0 (ns.drop (i + 1)) = M) := hide (by rw [← hall.out, or0_step hz, if_pos hok])
        have q : (z != 0) = false := by simpa using hok
        clear hz hok
        go_wp2
        go_round
        case rel => exact ⟨i + 1, by omega, by go_num, HT⟩
        case measure => simp [intOf]; omega
      · obtain rfl : M = z := by rw [← hall.out, or0_step hz, if_neg hok]
        have q : (M != 0) = true := by simpa using hok
        clear hz hok HM hall
        go_wp2
        go_ret
        exact ⟨rfl, rfl⟩
    · obtain rfl : i = n := by omega
      obtain rfl : M = 0 := by rw [← hall.out, List.drop_eq_nil_of_le (by omega)]; rfl
      clear HM hall
      go_wp2
      go_ret
      exact ⟨rfl, rfl⟩
theorem ori_any (p n : Nat) (ns : List Int) (w : World) (h : Iz w p ns) (hl : ns.length = n) (hn : n ≤ 9223372036854775807) :
    Calls Try.prog 27 #[.slice (some ⟨p, 0, none⟩) n n] w fun e w' => e = .returned (.int .i64 (or0 ns)) ∧ w' = w := by
  have H := hide h
  obtain ⟨M, hM⟩ : ∃ M, or0 ns = M := ⟨_, rfl⟩
  rw [hM]
  have HM := hide hM
  clear h hM
  go_enter Try.func27, Try.ntmps27
  go_wp2_with fail
  go_loop [8] (fun s => ∃ i : Nat, i ≤ n ∧ s = .int .i64 i ∧ Hid (or0 (ns.drop i) = M)) (fun s => n - (intOf s).toNat)
  case atStart => exact ⟨0, by omega, rfl, hide HM.out⟩
  case round =>
    obtain ⟨i, hi, rfl, hall⟩ := hrel
    by_cases hlt : i < n
    · obtain ⟨z, hz⟩ : ∃ z, ns[i]? = some z := ⟨_, List.getElem?_eq_getElem (by rw [hl]; exact hlt)⟩
      have hcell := H.out i z hz
      by_cases hok : z = 0
      · have HT : Hid (or0 (ns.drop (i + 1)) = M) := hide (by rw [← hall.out, or0_step hz, if_pos hok])
        have q : (z != 0) = false := by simpa using hok
        clear hz hok
        go_wp2
        go_round
        case rel => exact ⟨i + 1, by omega, by go_num, HT⟩
        case measure => simp [intOf]; omega
      · obtain rfl : M = z := by rw [← hall.out, or0_step hz, if_neg hok]
        have q : (M != 0) = true := by simpa using hok
        clear hz hok HM hall
        go_wp2
        go_ret
        exact ⟨rfl, rfl⟩
    · obtain rfl : i = n := by omega
      obtain rfl : M = 0 := by rw [← hall.out, List.drop_eq_nil_of_le (by omega)]; rfl
      clear HM hall
      go_wp2
      go_ret
      exact ⟨rfl, rfl⟩

end Go.Proofs.Ytgopcaemgcnapaa.Clep
