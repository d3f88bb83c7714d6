/- What the document's own Unlist (package clepsydraref1) does when called: any text up to 2^40, any bound. -/
import Derived.Test.YtonfnpcgjcicdaaRefLists
namespace Go.Proofs.Ytonfnpcgjcicdaa.Clep
open Go.RowKit
set_option linter.unusedVariables false

theorem sz_drop {s : ByteArray} {zs : List Int} (h : Sz s zs) (P : Nat) (hP : P ≤ s.size) : Sz (s.extract P s.size) (zs.drop P) := by
  refine ⟨by rw [ByteArray.size_extract, List.length_drop, h.1]; omega, fun k hk => ?_⟩
  have hk2 : P + k < s.size := by rw [ByteArray.size_extract] at hk; omega
  have := h.2 (P + k) hk2
  rw [ByteArray.getElem_extract]
  rw [this]
  simp [List.getD]

set_option maxHeartbeats 2000000 in
theorem refunlist_any (s : ByteArray) (len : Nat) (zs : List Int) (most : Int) (w : World) (hlen : s.size = len) (hm : len ≤ 1099511627776) (hs : Sz s zs) (hzr0 : ∀ z ∈ zs, 0 ≤ z ∧ z < 256) (hmo : most ≤ 9223372036854775807) (hmo2 : -9223372036854775808 ≤ most) (r : List Int × Int × Int) (hr : Hid (ul zs most = r)) :
    Calls Try.prog 25 #[.string s, .int .i64 most] w fun e w' => ∃ v, e = .returned (.tuple #[v, .int .i64 r.2.1, .int .i64 r.2.2]) ∧ OwnU w' w.heap.size v r.1 ∧ Below w.heap.size w w' := by
  obtain ⟨i0, hi, hz0, hz1, hz2⟩ := info_parts info25
  have HS := hide hs
  have hzr := hide hzr0
  have hzl : Hid (zs.length = len) := hide (by rw [← hs.1]; exact hlen)
  have HL := hide hlen
  have hsz0 : s.size ≤ 1099511627776 := by omega
  have hlen2 : len ≤ s.size ∧ s.size ≤ len := by omega
  clear hs hzr0 hlen
  go_enter Try.func25, Try.ntmps25
  go_wp2_with fail
  have hf := tk_facts zs 0 0 (by omega) hzr.out (by omega) (by simp)
  have hsz := tk_size zs 0 0 (by omega)
  obtain ⟨C, S0, E, hT⟩ : ∃ C S0 E, tk zs 0 0 = (C, S0, E) := ⟨_, _, _, rfl⟩
  rw [hT] at hf hsz
  have HT := hide hT
  clear hT
  simp only at hf hsz
  refine (reftake_any s zs w (by omega) HS.out (range_of hzr.out)).mono ?_
  rw [HT.out]
  rintro e w1 ⟨rfl, rfl⟩
  unfold tup
  obtain ⟨P0, hP0⟩ : ∃ P0 : Nat, S0 = (P0 : Int) := ⟨S0.toNat, by omega⟩
  rw [hP0]
  have hP0l : P0 ≤ len := by have := hzl.out; omega
  have HP0 : Hid (P0 = S0.toNat) := hide (by omega)
  clear hP0
  by_cases hE : E = 0
  · have hEb : (E != 0) = false := by simp [hE]
    have HE := hide hE
    clear hE
    have hC0 := hf.1
    have hC1 := hf.2.1
    by_cases hC : max most 0 < C
    · have HRR : Hid (r = ([], 0, 2)) := hide (by rw [← hr.out]; unfold ul; rw [HT.out]; simp only; rw [if_pos HE.out, if_pos hC])
      by_cases hq : most < 0
      · have hCC : 0 < C := by omega
        clear hC
        go_wp2
        go_ret3
        rw [HRR.out]
        exact ⟨_, rfl, World.ownsRow_nil _ _ _ _, Below.refl _ _⟩
      · have hCC : most < C := by omega
        have hq0 : 0 ≤ most := by omega
        clear hC
        go_wp2
        go_ret3
        rw [HRR.out]
        exact ⟨_, rfl, World.ownsRow_nil _ _ _ _, Below.refl _ _⟩
    · have HRR : Hid (uls C.toNat zs P0 [] = r) := hide (by rw [← hr.out]; unfold ul; rw [HT.out]; simp only; rw [if_pos HE.out, if_neg hC, HP0.out])
      by_cases hq : most < 0
      · have hCC : C ≤ 0 := by omega
        clear hC hf hsz HP0
        go_wp2_with fail
        go_loopw [8, 10, 11] (fun t u i wr => ∃ (k P : Nat) (acc : List Int), t = .int .i64 P ∧ i = .int .u64 k ∧ (k : Int) ≤ C ∧ acc.length ≤ P ∧ P ≤ len ∧ Hid (uls (C.toNat - k) zs P acc = r) ∧ Hid (OwnU wr w1.heap.size u acc) ∧ Hid (Below w1.heap.size w1 wr)) (fun _ _ i _ => (C - intOf i).toNat)
        case atStart => exact ⟨0, P0, [], rfl, rfl, hC0, by simp, hP0l, HRR, hide (World.ownsRow_nil _ _ _ _), hide (Below.refl _ _)⟩
        case round =>
          obtain ⟨k, P, acc, rfl, rfl, hk, hacc, hP, hu, hown, hR⟩ := hrel
          by_cases hlt : (k : Int) < C
          · exact absurd hlt (by omega)
          · have HRR2 : Hid (r = (acc, (P : Int), 0)) := hide (by rw [← hu.out, show C.toNat - k = 0 from by omega]; rfl)
            go_wp2
            go_ret3
            rw [HRR2.out]
            exact ⟨_, rfl, hown.out, hR.out⟩
      · have hCC : C ≤ most := by omega
        have hq0 : 0 ≤ most := by omega
        clear hC hf hsz HP0
        go_wp2_with fail
        go_loopw [8, 10, 11] (fun t u i wr => ∃ (k P : Nat) (acc : List Int), t = .int .i64 P ∧ i = .int .u64 k ∧ (k : Int) ≤ C ∧ acc.length ≤ P ∧ P ≤ len ∧ Hid (uls (C.toNat - k) zs P acc = r) ∧ Hid (OwnU wr w1.heap.size u acc) ∧ Hid (Below w1.heap.size w1 wr)) (fun _ _ i _ => (C - intOf i).toNat)
        case atStart => exact ⟨0, P0, [], rfl, rfl, hC0, by simp, hP0l, HRR, hide (World.ownsRow_nil _ _ _ _), hide (Below.refl _ _)⟩
        case round =>
          obtain ⟨k, P, acc, rfl, rfl, hk, hacc, hP, hu, hown, hR⟩ := hrel
          by_cases hlt : (k : Int) < C
          · have hPs : P ≤ s.size := by omega
            have hf := tk_facts (zs.drop P) 0 0 (by omega) (fun z hz => hzr.out z (List.mem_of_mem_drop hz)) (by omega) (by simp)
            have hsz := tk_size (zs.drop P) 0 0 (by omega)
            obtain ⟨x, t, e, hT⟩ : ∃ x t e, tk (zs.drop P) 0 0 = (x, t, e) := ⟨_, _, _, rfl⟩
            rw [hT] at hf hsz
            have HT2 := hide hT
            clear hT
            simp only at hf hsz
            rw [List.length_drop] at hsz
            obtain ⟨q, hq'⟩ : ∃ q : Nat, t = (q : Int) := ⟨t.toNat, by omega⟩
            subst hq'
            go_wp2_with fail
            refine (reftake_any (s.extract P s.size) (zs.drop P) wr (by rw [ByteArray.size_extract]; omega) (sz_drop HS.out P hPs) (range_of fun z hz => hzr.out z (List.mem_of_mem_drop hz))).mono ?_
            rw [HT2.out]
            rintro en w2 ⟨rfl, rfl⟩
            unfold tup
            have hQl : P + q ≤ len := by have := hzl.out; omega
            have HF := hide hf
            have hx := hf.1
            have hx1 := hf.2.1
            clear hsz hf
            by_cases he : e = 0
            · have heb : (e != 0) = false := by simp [he]
              have hQP : 1 ≤ q := by have := HF.out.2.2 he; omega
              have HU2 : Hid (uls (C.toNat - (k + 1)) zs (P + q) (acc ++ [x]) = r) := hide (by rw [← hu.out, show C.toNat - k = (C.toNat - (k + 1)) + 1 from by omega, uls_yes _ zs P acc x _ e HT2.out he, Int.toNat_natCast])
              clear he
              have hszw := hide hR.out.size
              go_wp2_with (first
                | (at_builtin; refine wpList_append_own _ rfl _ _ 22 rfl w1.heap.size 25 i0 (.int .u64 0) 1 8 Try.underlying22 hi hz0 hz1 hz2 rfl (by decide) _ _ _ rfl (hown.out.alloc _) ⟨w2.heap.size, 0, none⟩ 1 1 [.int .u64 x] rfl rfl ?d1 ?d2 ?d3 ?d4 ?d5 ?_)
                | fail)
              case d1 => exact cell_one_new _ _ _
              case d2 => intro u hu; simp at hu; subst hu; rfl
              case d3 => unfold maxLen; omega
              case d4 => omega
              case d5 => have := hszw.out; simp; omega
              intro v' w3 hown' hgrow _
              have HW := hide (ownU_snoc hown')
              have HR3 : Hid (Below w1.heap.size w1 w3) := hide ((hR.out.alloc hszw.out _).grown hgrow (by have := hszw.out; simp; omega) (fun j hj => (World.ownsRow.lt hown.out j hj).1))
              clear hown' hgrow
              go_wp2
              go_roundw
              case rel => exact ⟨k + 1, P + q, acc ++ [x], by go_num, by go_num, by omega, by simp; omega, hQl, HU2, HW, HR3⟩
              case measure => simp [intOf]; omega
            · have heb : (e != 0) = true := by simp [he]
              have HRR2 : Hid (r = ([], 0, e)) := hide (by rw [← hu.out, show C.toNat - k = (C.toNat - (k + 1)) + 1 from by omega, uls_no _ zs P acc x _ e HT2.out he])
              clear he
              go_wp2
              go_ret3
              rw [HRR2.out]
              exact ⟨_, rfl, World.ownsRow_nil _ _ _ _, hR.out⟩
          · have HRR2 : Hid (r = (acc, (P : Int), 0)) := hide (by rw [← hu.out, show C.toNat - k = 0 from by omega]; rfl)
            go_wp2
            go_ret3
            rw [HRR2.out]
            exact ⟨_, rfl, hown.out, hR.out⟩
  · have hEb : (E != 0) = true := by simp [hE]
    have HRR : Hid (r = ([], 0, E)) := hide (by rw [← hr.out]; unfold ul; rw [HT.out]; simp only; rw [if_neg hE])
    clear hE
    go_wp2
    go_ret3
    rw [HRR.out]
    exact ⟨_, rfl, World.ownsRow_nil _ _ _ _, Below.refl _ _⟩

end Go.Proofs.Ytonfnpcgjcicdaa.Clep
