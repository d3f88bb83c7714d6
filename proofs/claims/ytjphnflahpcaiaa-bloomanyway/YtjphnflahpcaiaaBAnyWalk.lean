/- BloomAnyway, the walk over the translated program: for any rows and any number. No conditions. Written by wip/tools/gen10any.py. -/
import Derived.Test.YtjphnflahpcaiaaBTwo
import Derived.Test.YtjphnflahpcaiaaBRows
import Derived.Test.YtjphnflahpcaiaaMask
import Derived.Deep.RegionHeldLaw
namespace Go.Proofs.Ytjphnflahpcaiaa.Clep
open Go.RowKit
set_option linter.unusedVariables false

set_option maxRecDepth 100000 in
set_option maxHeartbeats 6400000 in
theorem anyway_few (a0 : Option Addr) (len0 cap0 : Nat) (zss : List (List Int)) (t : Int) (w : World) (hm : len0 ≤ 9223372036854775807) (h : Bss w a0 len0 cap0 zss) (hle : len0 ≤ 30) :
    Calls Try.prog 3 #[.slice a0 len0 cap0, .int .i64 t] w fun e w' => e = .returned (.bool true) ∧ Below w.heap.size w w' := by
  obtain ⟨b, off, ha, HK⟩ := bss_at h
  obtain ⟨h1, h2⟩ := and_mask t 255 (by decide)
  obtain ⟨T, hT⟩ := Int.eq_ofNat_of_zero_le h1
  have hT' : bits BinOp.and IntKind.i64 t 255 = (T : Int) := hT
  have hTb : T ≤ 255 := by rw [hT] at h2; omega
  have C1 := hide (fun W => new_ok 30 9 W (by decide) (by decide))
  rw [show kOf 9 = 6 from rfl, show sOf 30 9 = 34 from rfl] at C1
  have CA := hide (fun W A B Na Nb a l c z => fun h hm hz => two_add w W A B 6 34 Na Nb h a l c z hm hz)
  clear h h1 h2 hT
  go_enter Try.func3, Try.ntmps3
  go_wp2_with fail
  refine (C1.out w).mono ?_
  rintro e w1 ⟨rfl, h1, b1⟩
  have F1 := hide h1
  have B1 := hide b1
  have hA := hide (show w.heap.size < w1.heap.size from h1.lt _ h1.base)
  clear h1 b1
  obtain ⟨A, hAe⟩ : ∃ A, A = w.heap.size := ⟨_, rfl⟩
  rw [← hAe]
  have HAE := hide hAe
  clear hAe
  go_wp2_with fail
  refine (C1.out w1).mono ?_
  rintro e w2 ⟨rfl, h1, b1⟩
  obtain ⟨B, hBe⟩ : ∃ B, B = w1.heap.size := ⟨_, rfl⟩
  have T2 : Hid (Two w w2 A B 6 34 0 0) := hide ⟨⟨fun b => w.heap.size ≤ b ∧ b < w1.heap.size, fun b => w1.heap.size ≤ b ∧ b < w2.heap.size, by rw [HAE.out]; exact F1.out.keep b1, by rw [hBe]; exact h1, fun b e q => by omega, fun b e => e.1, fun b e => by have := B1.out.size; omega⟩, bmore B1.out b1⟩
  rw [← hBe]
  clear h1 b1 hBe F1 B1 hA C1 HAE
  go_wp2
  all_goals first | (exfalso; omega) | skip
  go_loopw [10] (fun u wr => ∃ i Na Nb : Nat, u = .int .i64 i ∧ i ≤ len0 ∧ Hid (Two w wr A B 6 34 Na Nb) ∧ Hid (Has1 34 6 (fun j => zss.getD j []) i Na) ∧ Hid (Has2 34 6 (fun j => zss.getD j []) T len0 i Nb)) (fun u _ => len0 - (intOf u).toNat)
  case atStart => exact ⟨0, 0, 0, rfl, by omega, T2, hide (has1_zero _ _ _), hide (has2_zero _ _ _ _ _)⟩
  case round =>
    obtain ⟨i, Na, Nb, rfl, hi, hT2, hH1, hH2⟩ := hrel
    by_cases hlt : i < len0
    · obtain ⟨a', l, c, hcell, hl, hz⟩ := HK.out i (by omega)
      have HW := hide hcell
      have HZ := hide hz
      obtain rfl := ha (by omega)
      have q1 := (hcell wr hT2.out.bel).1
      clear hcell hz
      by_cases hl2 : 200 < l
      · go_wp2_with fail
        refine (awake_any wr).mono ?_
        rintro e w2 ⟨rfl, hb⟩
        have HB2 := hide (bmore hT2.out.bel hb)
        clear hb
        go_wp2
        go_ret
        exact ⟨rfl, HB2.out⟩
      · have hj : (i + T) % len0 < len0 := Nat.mod_lt _ (by omega)
        obtain ⟨a2, l2, c2, hcell2, hl3, hz2⟩ := HK.out ((i + T) % len0) (by omega)
        have HW2 := hide hcell2
        have HZ2 := hide hz2
        clear hcell2 hz2
        have hidx : ((i : Int) + (T : Int)) % (len0 : Int) = (((i + T) % len0 : Nat) : Int) := by first | omega | rfl | (rw [Int.natCast_emod, Int.natCast_add])
        have S1 := hide (has1_step hH1.out)
        have S2 : Hid (i % 3 ≠ 0 → Has2 34 6 (fun j => zss.getD j []) T len0 (i + 1) (addk (fnv (zss.getD ((i + T) % len0) [])) 34 6 Nb)) := hide (fun e => has2_step hH2.out e)
        have S3 : Hid (i % 3 = 0 → Has2 34 6 (fun j => zss.getD j []) T len0 (i + 1) (addk (fnv (zss.getD i [])) 34 6 (addk (fnv (zss.getD ((i + T) % len0) [])) 34 6 Nb))) := hide (fun e => has2_step3 hH2.out e)
        generalize (i + T) % len0 = j at *
        go_wp2_with fail
        refine (CA.out wr A B Na Nb a' l c _ hT2.out hl HZ.out).mono ?_
        rintro e w3 ⟨rfl, hT3⟩
        have T3 := hide hT3
        have q2 := (HW2.out w3 hT3.bel).1
        clear hT3
        go_wp2_with fail
        refine (CA.out w3 B A Nb _ a2 l2 c2 _ T3.out.swap hl3 HZ2.out).mono ?_
        rintro e w4 ⟨rfl, hT4⟩
        have T4 := hide hT4
        have q3 := (HW.out w4 hT4.bel).1
        clear hT4
        by_cases h3 : i % 3 = 0
        · have h3' : (i : Int) % 3 = 0 := by omega
          go_wp2_with fail
          refine (CA.out w4 B A _ _ a' l c _ T4.out hl HZ.out).mono ?_
          rintro e w5 ⟨rfl, hT5⟩
          have T5 := hide hT5
          clear hT5 q1 q2 q3
          go_wp2
          go_round
          case rel => exact ⟨i + 1, _, _, by go_num, by omega, hide T5.out.swap, S1, hide (S3.out h3)⟩
          case measure => simp [intOf]; omega
        · have h3' : ¬ (i : Int) % 3 = 0 := by omega
          clear q1 q2 q3
          go_wp2
          go_round
          case rel => exact ⟨i + 1, _, _, by go_num, by omega, hide T4.out.swap, S1, hide (S2.out h3)⟩
          case measure => simp [intOf]; omega
    · have h8 : i = len0 := by omega
      subst h8
      obtain rfl := has_same hH1.out hH2.out
      obtain ⟨L, hL⟩ : ∃ L, (fb 6 34 Na).length = L := ⟨_, rfl⟩
      obtain ⟨S, hS⟩ : ∃ S, strOfNums (fb 6 34 Na) = S := ⟨_, rfl⟩
      have cB : Hid (∀ W X, Ab A B X → Two w W A B 6 34 Na Na → Calls Try.prog 11 #[.pointer (some ⟨X, 0, none⟩)] W fun e W' => ∃ a c, e = .returned (.slice a L c) ∧ Two w W' A B 6 34 Na Na ∧ Ch (Ab A B) W W' ∧ ∀ W'', Ch (Ab A B) W' W'' → (convert 27 9 (.slice a L c)).run Try.prog W'' = .ok (.string S) W'') := hide fun W X hX h => two_bytesX w W A B 6 34 Na X L S hX h (by decide) (by decide) hL hS
      have cO : Hid (∀ W X, Ab A B X → Two w W A B 6 34 Na Na → Calls Try.prog 12 #[.pointer (some ⟨X, 0, none⟩)] W fun e W' => e = .returned (.int .i64 (pc (8 * 34) Na : Nat)) ∧ Two w W' A B 6 34 Na Na) := hide fun W X hX h => two_onesX w W A B 6 34 Na X hX h
      have cW : Hid (∀ W, Two w W A B 6 34 Na Na → Calls Try.prog 9 #[] W fun e W' => e = .returned (.bool true) ∧ Two w W' A B 6 34 Na Na) := hide fun W h => (awake_any W).mono fun e W' q => ⟨q.1, h.keep q.2⟩
      generalize pc (8 * 34) Na = r at *
      have kA : Ab A B A := .inl rfl
      have kB : Ab A B B := .inr rfl
      have hT2' := hT2.out
      have DR : Hid (∀ W, Two w W A B 6 34 Na Na → Two w W.drew A B 6 34 Na Na) := hide fun W h => h.keep (Below.refl _ _).drew
      have hcv : True := trivial
      clear hL hS hH1 hH2 CA HK ha hT2
      go_wp2_with fail
      go_region_held_law (fun W => Two w W A B 6 34 Na Na)
        (first | assumption | exact DR.out _ (by assumption))
        (first
        | (go_at_call 11; refine (cB.out _ _ (by assumption) (by assumption)).mono ?_; have hprev := hcv; rintro e w' ⟨a, c, rfl, h2, hch, hcv⟩; have hc0 := hcv _ (Ch.of (Below.refl _ _)); try have hold := hprev _ hch)
        | (go_at_call 12; refine (cO.out _ _ (by assumption) (by assumption)).mono ?_; rintro e w' ⟨rfl, h2⟩)
        | (go_at_call 9; refine (cW.out _ (by assumption)).mono ?_; rintro e w' ⟨rfl, h2⟩))
      all_goals
        have HB := hide h2.bel
        clear h2
        go_wp2
        go_ret
        exact ⟨rfl, HB.out⟩

set_option maxRecDepth 100000 in
set_option maxHeartbeats 6400000 in
theorem anyway_many (a0 : Option Addr) (len0 cap0 : Nat) (zss : List (List Int)) (t : Int) (w : World) (hm : len0 ≤ 9223372036854775807) (h : Bss w a0 len0 cap0 zss) (hle : 30 < len0) :
    Calls Try.prog 3 #[.slice a0 len0 cap0, .int .i64 t] w fun e w' => e = .returned (.bool true) ∧ Below w.heap.size w w' := by
  obtain ⟨b, off, ha, HK⟩ := bss_at h
  obtain ⟨h1, h2⟩ := and_mask t 255 (by decide)
  obtain ⟨T, hT⟩ := Int.eq_ofNat_of_zero_le h1
  have hT' : bits BinOp.and IntKind.i64 t 255 = (T : Int) := hT
  have hTb : T ≤ 255 := by rw [hT] at h2; omega
  have C1 := hide (fun W => new_ok 30 9 W (by decide) (by decide))
  rw [show kOf 9 = 6 from rfl, show sOf 30 9 = 34 from rfl] at C1
  have CA := hide (fun W A B Na Nb a l c z => fun h hm hz => two_add w W A B 6 34 Na Nb h a l c z hm hz)
  clear h h1 h2 hT
  go_enter Try.func3, Try.ntmps3
  go_wp2_with fail
  refine (C1.out w).mono ?_
  rintro e w1 ⟨rfl, h1, b1⟩
  have F1 := hide h1
  have B1 := hide b1
  have hA := hide (show w.heap.size < w1.heap.size from h1.lt _ h1.base)
  clear h1 b1
  obtain ⟨A, hAe⟩ : ∃ A, A = w.heap.size := ⟨_, rfl⟩
  rw [← hAe]
  have HAE := hide hAe
  clear hAe
  go_wp2_with fail
  refine (C1.out w1).mono ?_
  rintro e w2 ⟨rfl, h1, b1⟩
  obtain ⟨B, hBe⟩ : ∃ B, B = w1.heap.size := ⟨_, rfl⟩
  have T2 : Hid (Two w w2 A B 6 34 0 0) := hide ⟨⟨fun b => w.heap.size ≤ b ∧ b < w1.heap.size, fun b => w1.heap.size ≤ b ∧ b < w2.heap.size, by rw [HAE.out]; exact F1.out.keep b1, by rw [hBe]; exact h1, fun b e q => by omega, fun b e => e.1, fun b e => by have := B1.out.size; omega⟩, bmore B1.out b1⟩
  rw [← hBe]
  clear h1 b1 hBe F1 B1 hA C1 HAE
  go_wp2
  all_goals first | (exfalso; omega) | skip
  go_loopw [10] (fun u wr => ∃ i Na Nb : Nat, u = .int .i64 i ∧ i ≤ 30 ∧ Hid (Two w wr A B 6 34 Na Nb) ∧ Hid (Has1 34 6 (fun j => zss.getD j []) i Na) ∧ Hid (Has2 34 6 (fun j => zss.getD j []) T 30 i Nb)) (fun u _ => 30 - (intOf u).toNat)
  case atStart => exact ⟨0, 0, 0, rfl, by omega, T2, hide (has1_zero _ _ _), hide (has2_zero _ _ _ _ _)⟩
  case round =>
    obtain ⟨i, Na, Nb, rfl, hi, hT2, hH1, hH2⟩ := hrel
    by_cases hlt : i < 30
    · obtain ⟨a', l, c, hcell, hl, hz⟩ := HK.out i (by omega)
      have HW := hide hcell
      have HZ := hide hz
      obtain rfl := ha (by omega)
      have q1 := (hcell wr hT2.out.bel).1
      clear hcell hz
      by_cases hl2 : 200 < l
      · go_wp2_with fail
        refine (awake_any wr).mono ?_
        rintro e w2 ⟨rfl, hb⟩
        have HB2 := hide (bmore hT2.out.bel hb)
        clear hb
        go_wp2
        go_ret
        exact ⟨rfl, HB2.out⟩
      · have hj : (i + T) % 30 < 30 := Nat.mod_lt _ (by omega)
        obtain ⟨a2, l2, c2, hcell2, hl3, hz2⟩ := HK.out ((i + T) % 30) (by omega)
        have HW2 := hide hcell2
        have HZ2 := hide hz2
        clear hcell2 hz2
        have hidx : ((i : Int) + (T : Int)) % 30 = (((i + T) % 30 : Nat) : Int) := by first | omega | rfl | (rw [Int.natCast_emod, Int.natCast_add])
        have S1 := hide (has1_step hH1.out)
        have S2 : Hid (i % 3 ≠ 0 → Has2 34 6 (fun j => zss.getD j []) T 30 (i + 1) (addk (fnv (zss.getD ((i + T) % 30) [])) 34 6 Nb)) := hide (fun e => has2_step hH2.out e)
        have S3 : Hid (i % 3 = 0 → Has2 34 6 (fun j => zss.getD j []) T 30 (i + 1) (addk (fnv (zss.getD i [])) 34 6 (addk (fnv (zss.getD ((i + T) % 30) [])) 34 6 Nb))) := hide (fun e => has2_step3 hH2.out e)
        generalize (i + T) % 30 = j at *
        go_wp2_with fail
        refine (CA.out wr A B Na Nb a' l c _ hT2.out hl HZ.out).mono ?_
        rintro e w3 ⟨rfl, hT3⟩
        have T3 := hide hT3
        have q2 := (HW2.out w3 hT3.bel).1
        clear hT3
        go_wp2_with fail
        refine (CA.out w3 B A Nb _ a2 l2 c2 _ T3.out.swap hl3 HZ2.out).mono ?_
        rintro e w4 ⟨rfl, hT4⟩
        have T4 := hide hT4
        have q3 := (HW.out w4 hT4.bel).1
        clear hT4
        by_cases h3 : i % 3 = 0
        · have h3' : (i : Int) % 3 = 0 := by omega
          go_wp2_with fail
          refine (CA.out w4 B A _ _ a' l c _ T4.out hl HZ.out).mono ?_
          rintro e w5 ⟨rfl, hT5⟩
          have T5 := hide hT5
          clear hT5 q1 q2 q3
          go_wp2
          go_round
          case rel => exact ⟨i + 1, _, _, by go_num, by omega, hide T5.out.swap, S1, hide (S3.out h3)⟩
          case measure => simp [intOf]; omega
        · have h3' : ¬ (i : Int) % 3 = 0 := by omega
          clear q1 q2 q3
          go_wp2
          go_round
          case rel => exact ⟨i + 1, _, _, by go_num, by omega, hide T4.out.swap, S1, hide (S2.out h3)⟩
          case measure => simp [intOf]; omega
    · have h8 : i = 30 := by omega
      subst h8
      obtain rfl := has_same hH1.out hH2.out
      obtain ⟨L, hL⟩ : ∃ L, (fb 6 34 Na).length = L := ⟨_, rfl⟩
      obtain ⟨S, hS⟩ : ∃ S, strOfNums (fb 6 34 Na) = S := ⟨_, rfl⟩
      have cB : Hid (∀ W X, Ab A B X → Two w W A B 6 34 Na Na → Calls Try.prog 11 #[.pointer (some ⟨X, 0, none⟩)] W fun e W' => ∃ a c, e = .returned (.slice a L c) ∧ Two w W' A B 6 34 Na Na ∧ Ch (Ab A B) W W' ∧ ∀ W'', Ch (Ab A B) W' W'' → (convert 27 9 (.slice a L c)).run Try.prog W'' = .ok (.string S) W'') := hide fun W X hX h => two_bytesX w W A B 6 34 Na X L S hX h (by decide) (by decide) hL hS
      have cO : Hid (∀ W X, Ab A B X → Two w W A B 6 34 Na Na → Calls Try.prog 12 #[.pointer (some ⟨X, 0, none⟩)] W fun e W' => e = .returned (.int .i64 (pc (8 * 34) Na : Nat)) ∧ Two w W' A B 6 34 Na Na) := hide fun W X hX h => two_onesX w W A B 6 34 Na X hX h
      have cW : Hid (∀ W, Two w W A B 6 34 Na Na → Calls Try.prog 9 #[] W fun e W' => e = .returned (.bool true) ∧ Two w W' A B 6 34 Na Na) := hide fun W h => (awake_any W).mono fun e W' q => ⟨q.1, h.keep q.2⟩
      generalize pc (8 * 34) Na = r at *
      have kA : Ab A B A := .inl rfl
      have kB : Ab A B B := .inr rfl
      have hT2' := hT2.out
      have DR : Hid (∀ W, Two w W A B 6 34 Na Na → Two w W.drew A B 6 34 Na Na) := hide fun W h => h.keep (Below.refl _ _).drew
      have hcv : True := trivial
      clear hL hS hH1 hH2 CA HK ha hT2
      go_wp2_with fail
      go_region_held_law (fun W => Two w W A B 6 34 Na Na)
        (first | assumption | exact DR.out _ (by assumption))
        (first
        | (go_at_call 11; refine (cB.out _ _ (by assumption) (by assumption)).mono ?_; have hprev := hcv; rintro e w' ⟨a, c, rfl, h2, hch, hcv⟩; have hc0 := hcv _ (Ch.of (Below.refl _ _)); try have hold := hprev _ hch)
        | (go_at_call 12; refine (cO.out _ _ (by assumption) (by assumption)).mono ?_; rintro e w' ⟨rfl, h2⟩)
        | (go_at_call 9; refine (cW.out _ (by assumption)).mono ?_; rintro e w' ⟨rfl, h2⟩))
      all_goals
        have HB := hide h2.bel
        clear h2
        go_wp2
        go_ret
        exact ⟨rfl, HB.out⟩

theorem anyway_any (a0 : Option Addr) (len0 cap0 : Nat) (zss : List (List Int)) (t : Int) (w : World) (hm : len0 ≤ 9223372036854775807) (h : Bss w a0 len0 cap0 zss) :
    Calls Try.prog 3 #[.slice a0 len0 cap0, .int .i64 t] w fun e w' => e = .returned (.bool true) ∧ Below w.heap.size w w' := by
  by_cases hl : len0 ≤ 30
  · exact anyway_few a0 len0 cap0 zss t w hm h hl
  · exact anyway_many a0 len0 cap0 zss t w hm h (by omega)

end Go.Proofs.Ytjphnflahpcaiaa.Clep
