/- The statement ItemCuts, walked: for any items and any two numbers. No conditions. -/
import Derived.Test.YtfmofkkjnepbcaaIMath
import Derived.Test.YtfmofkkjnepbcaaIMay
namespace Go.Proofs.Ytfmofkkjnepbcaa.Clep
open Go.RowKit
set_option linter.unusedVariables false

theorem bs_new1 (w : World) (a : Int) (ha : 0 ≤ a ∧ a < 256) : Bs (w.alloc (.cells #[.int .u8 a] 5)) (some ⟨w.heap.size, 0, none⟩) 1 1 [a] := by
  refine ⟨rfl, ⟨Nat.le_refl _, fun h => by cases h⟩, range_of (by intro z hz; rw [List.mem_singleton.1 hz]; exact ha), fun _ => ⟨w.heap.size, 0, rfl, fun i hi => ?_⟩⟩
  match i, hi with
  | 0, _ => simp
theorem bs_block {w : World} {g off len cap : Nat} {zs : List Int} (h : Bs w (some ⟨g, off, none⟩) len cap zs) (h0 : 0 < len) : g < w.heap.size := by
  obtain ⟨b, o, e, hc⟩ := h.2.2.2 h0
  cases e
  exact World.block_lt_of_cell? w _ (hc 0 h0)
theorem and4i (a : Int) : 0 ≤ bits .and .i64 a 15 ∧ bits .and .i64 a 15 ≤ 15 := by
  have e : bits .and .i64 a 15 = IntKind.i64.wrap ((BitVec.ofInt 64 a &&& BitVec.ofInt 64 15).toNat : Int) := rfl
  have hle : (BitVec.ofInt 64 a &&& BitVec.ofInt 64 15).toNat ≤ 15 := by
    rw [BitVec.toNat_and]; exact Nat.le_trans Nat.and_le_right (by decide)
  rw [e]
  generalize (BitVec.ofInt 64 a &&& BitVec.ofInt 64 15).toNat = k at *
  simp [IntKind.wrap, IntKind.bits, IntKind.signed]
  omega
def zeroI : It := ⟨0, 0, 0, 0, 0⟩
theorem made_zero (n : Nat) : (madeCells #[.int .i64 0, .int .i64 0, .int .u64 0, .int .u64 0, .int .i64 0] (n * 5)).toList = cvs (List.replicate n zeroI) := by
  apply List.ext_getElem?
  intro j
  by_cases hj : j < n * 5
  · have hy : (List.replicate n zeroI)[j / 5]? = some zeroI := by rw [List.getElem?_replicate, if_pos (by omega)]
    have := cvs_get (List.replicate n zeroI) (j / 5) (j % 5) zeroI hy (by omega)
    rw [show j / 5 * 5 + j % 5 = j from by omega] at this
    rw [this]
    simp only [madeCells, Array.toList_map, List.getElem?_map, Array.toList_range, List.getElem?_range hj, Option.map_some]
    have hm : j % 5 = 0 ∨ j % 5 = 1 ∨ j % 5 = 2 ∨ j % 5 = 3 ∨ j % 5 = 4 := by omega
    show some ((#[Value.int IntKind.i64 0, .int .i64 0, .int .u64 0, .int .u64 0, .int .i64 0] : Array Value)[j % 5]!) = _
    rcases hm with hm | hm | hm | hm | hm <;> rw [hm] <;> rfl
  · rw [List.getElem?_eq_none (by simp [size_madeCells]; omega), List.getElem?_eq_none (by rw [cvs_len, List.length_replicate]; omega)]
theorem all_zero (n : Nat) (h : 0 < n) : (List.replicate n zeroI).all It.ok = false := by
  rw [List.all_eq_false]
  exact ⟨zeroI, by simp; omega, by decide⟩

set_option maxHeartbeats 800000 in
theorem cuts_short (a0 : Option Addr) (len0 cap0 : Nat) (l : List It) (cut n : Int) (w : World) (h : Is w a0 len0 cap0 l) (hm : len0 ≤ 9223372036854775807) (hc : may l ≠ 0 ∨ 200 < len0) :
    Calls Try.prog 7 #[.slice a0 len0 cap0, .int .i64 cut, .int .i64 n] w fun e w' => e = .returned (.bool true) ∧ Below w.heap.size w w' := by
  have H := hide h
  clear h
  by_cases hz : may l = 0
  · have h2 : 200 < len0 := by omega
    have HZ := hide hz
    clear hz hc
    go_enter Try.func7, Try.ntmps7
    go_wp2_with fail
    refine (may_any a0 len0 cap0 l w hm H.out).mono ?_
    rw [HZ.out]
    rintro e w1 ⟨rfl, b1⟩
    have B1 := hide b1
    clear b1
    go_wp2_with fail
    refine (awake5_any _).mono ?_
    rintro e w2 ⟨rfl, b2⟩
    have B2 := hide (bmore B1.out b2)
    clear b2
    go_wp2
    go_ret
    exact ⟨rfl, B2.out⟩
  · obtain ⟨m, hmm⟩ : ∃ m, may l = m := ⟨_, rfl⟩
    have hmb : (m != 0) = true := by rw [← hmm]; simp [hz]
    have HZ := hide hmm
    clear hz hc hmm
    go_enter Try.func7, Try.ntmps7
    go_wp2_with fail
    refine (may_any a0 len0 cap0 l w hm H.out).mono ?_
    rw [HZ.out]
    rintro e w1 ⟨rfl, b1⟩
    have B1 := hide b1
    clear b1
    go_wp2_with fail
    refine (awake5_any _).mono ?_
    rintro e w2 ⟨rfl, b2⟩
    have B2 := hide (bmore B1.out b2)
    clear b2
    go_wp2
    go_ret
    exact ⟨rfl, B2.out⟩

set_option maxHeartbeats 2000000 in
set_option maxRecDepth 8000 in
theorem cuts_core (a0 : Option Addr) (len0 cap0 : Nat) (l : List It) (cut n : Int) (w : World) (h : Is w a0 len0 cap0 l) (hl : len0 ≤ 200) (hok : Hid (l.all It.ok = true)) (L : Nat) (hL : Hid ((ibn l).length = L)) (NN : Nat) (hNN : bits .and .i64 n 15 + 1992 = (NN : Int)) :
    Calls Try.prog 7 #[.slice a0 len0 cap0, .int .i64 cut, .int .i64 n] w fun e w' => e = .returned (.bool true) ∧ Below w.heap.size w w' := by
  have H := hide h
  have HL := hide h.1
  have HW := hide h.2.2.1
  have hll : l.length ≤ 2000 := by rw [HL.out]; omega
  have hmay := hide (show may l = 0 by unfold may; rw [if_neg (by omega), if_pos hok.out])
  clear h
  have hLb : 1 ≤ L ∧ L ≤ 64010 := by have := ibn_len l hll; have := hL.out; omega
  have hLn : ((L : Int) == 0) = false := beq_eq_false_iff_ne.2 (by omega)
  have h15 := and4i n
  obtain ⟨K, hKL, hK⟩ : ∃ K : Nat, K < L ∧ (bits BinOp.and IntKind.i64 cut 65535).tmod (L : Int) = (K : Int) := by
    have ha := and16 cut
    refine ⟨((bits BinOp.and IntKind.i64 cut 65535) % (L : Int)).toNat, ?_, ?_⟩
    · have := Int.emod_lt_of_pos (bits BinOp.and IntKind.i64 cut 65535) (show (0 : Int) < (L : Int) by omega)
      have := Int.emod_nonneg (bits BinOp.and IntKind.i64 cut 65535) (show (L : Int) ≠ 0 by omega)
      omega
    · rw [Int.tmod_eq_emod_of_nonneg ha.1]
      have := Int.emod_nonneg (bits BinOp.and IntKind.i64 cut 65535) (show (L : Int) ≠ 0 by omega)
      omega
  have hr := hide (ibn_range l HW.out hll)
  have hcutE := hide (rd_cut l K HW.out hok.out hll (by rw [hL.out]; exact hKL))
  have hmoreE := hide (rd_more l 0 [] HW.out hok.out hll)
  clear hll
  go_enter Try.func7, Try.ntmps7
  go_wp2_with fail
  refine (may_any a0 len0 cap0 l w (by omega) H.out).mono ?_
  rw [hmay.out]
  rintro e w1 ⟨rfl, b1⟩
  have B1 := hide b1
  clear b1 hmay
  go_wp2_with fail
  refine (bytes_any none a0 0 0 len0 cap0 [] l w1 (by omega) (by omega) (bs_nil _) (H.out.below B1.out (Nat.le_refl _)) hok.out).mono ?_
  rw [List.nil_append]
  rintro e w2 ⟨v, rfl, o2, b2⟩
  obtain ⟨g, cap, rfl, hcp, hcm, hbs⟩ := own_at o2 hr.out L hL.out (by omega)
  have S2 := hide hbs
  have B2 := hide (bmore B1.out b2)
  clear o2 b2 hbs B1
  go_wp2_with fail
  refine (read_any (some ⟨g, 0, none⟩) K cap ((ibn l).take K) w2 hcm (S2.out.take K (by omega) (by intro h; cases h))).mono ?_
  rintro e w3 ⟨v3, rfl, o3, b3⟩
  have S3 := hide (S2.out.below b3 (Nat.le_refl _))
  have B3 := hide (bmore B2.out b3)
  clear o3 b3 B2 S2
  obtain ⟨E1, hE1⟩ : ∃ E1, (rd ((ibn l).take K)).2 = E1 := ⟨_, rfl⟩
  have hE1b : (E1 != 0) = true := by rw [← hE1]; simpa using hcutE.out
  rw [hE1]
  clear hE1 hcutE
  have hg3 : g < w3.heap.size := bs_block S3.out (by omega)
  go_wp2_with (first
    | (at_builtin; refine wpList_append_bytes rfl _ _ rfl w3.heap.size _ [] rfl (own_lit w3 [] w3.heap.size (Nat.le_refl _) _ rfl 0 rfl (by omega)) _ L cap (ibn l) rfl (S3.out.below ((Below.refl _ _).alloc (Nat.le_refl _) _) (Nat.le_refl _)) ?b2 ?b3 ?_)
    | fail)
  case b2 => simp; omega
  case b3 => simp
  intro v4 w4 o4 b4
  have O4 := hide o4
  have B4 := hide (B3.out.trans ((((Below.refl _ w3).alloc (Nat.le_refl _) (Obj.cells #[] 5)).trans b4).mono B3.out.size))
  have hs4 := hide (Nat.le_trans (show w3.heap.size ≤ (w3.alloc (Obj.cells #[] 5)).heap.size by simp) b4.size)
  clear o4 b4
  go_wp2_with (first
    | (at_builtin; refine wpList_append_bytes rfl _ _ rfl w3.heap.size v4 (ibn l) rfl (own_keep O4.out ((Below.refl _ _).alloc (Nat.le_refl _) _)) _ 1 1 [0] rfl (bs_new1 w4 0 (by omega)) ?c2 ?c3 ?_)
    | fail)
  case c2 => rw [hL.out]; omega
  case c3 => have := hs4.out; simp; omega
  intro v5 w5 o5 b5
  obtain ⟨ao5, cap5, hv5, hcm5, hbs5, hwh5⟩ := own_bs o5 (range_of (cat_range hr.out (by decide)))
  have hl5 : (ibn l ++ [0]).length = L + 1 := by rw [List.length_append, hL.out]; rfl
  rw [hl5] at hv5 hbs5
  rw [hv5]
  have S5 := hide hbs5
  obtain ⟨g5, off5, rfl, -⟩ := hbs5.2.2.2 (by omega)
  have B5 := hide (B4.out.trans ((((Below.refl _ w4).alloc (Nat.le_refl _) (Obj.cells #[.int .u8 0] 5)).mono hs4.out |>.trans b5).mono B3.out.size))
  have hcm5' : cap5 ≤ 9223372036854775807 := by unfold maxLen at hcm5; omega
  clear o5 b5 hv5 hbs5 hcm5 hwh5 hl5 O4 B4 hs4
  go_wp2_with fail
  refine (read_any _ (L + 1) cap5 (ibn l ++ [0]) w5 hcm5' S5.out).mono ?_
  rw [hmoreE.out]
  rintro e w6 ⟨v6, rfl, o6, b6⟩
  have B6 := hide (bmore B5.out b6)
  clear o6 b6 B5 S5
  obtain ⟨i0, hi, hz0, hz1, hz2⟩ := info_parts infoI
  go_wp2_with (first
    | (at_make; refine wpList_make_full _ rfl _ _ 31 rfl w6.heap.size 24 i0 _ 5 Try.underlying31 hi hz0 hz1 .i64 .i64 _ _ NN rfl rfl ?m0 ?m1 ?m2 ?m3 ?m4 ?_)
    | fail)
  case m0 => first | exact hNN | rfl
  case m1 => first | exact hNN | rfl
  case m2 => rw [hz2]; omega
  case m3 => unfold maxLen; omega
  case m4 => exact Nat.le_refl _
  intro w7 hown hg
  rw [made_zero] at hown
  have O7 : OwnI w7 w6.heap.size (.slice (some ⟨w6.heap.size, 0, none⟩) NN NN) (List.replicate NN zeroI) := by unfold OwnI; rw [List.length_replicate]; exact hown
  obtain ⟨ao7, cap7, hv7, hc7, hi7, -⟩ := ownI_is O7 (fun x hx => by rw [List.eq_of_mem_replicate hx]; unfold It.wf zeroI; simp)
  rw [List.length_replicate] at hv7 hi7
  cases hv7
  have I7 := hide hi7
  have B7 := hide (B6.out.grown hg B6.out.size (by simp))
  clear hown hg O7 hi7 B6
  by_cases hbig : 2000 < NN
  · go_wp2_with fail
    refine (bytes_long none _ 0 0 NN NN w7 hbig (by omega)).mono ?_
    rintro e w8 ⟨rfl, hw⟩
    rw [hw]
    clear hw
    go_wp2_with fail
    refine (awake5_any _).mono ?_
    rintro e w9 ⟨rfl, b9⟩
    have B9 := hide (bmore B7.out b9)
    clear b9
    go_wp2
    go_ret
    exact ⟨rfl, B9.out⟩
  · go_wp2_with fail
    refine (bytes_bad none _ 0 0 NN NN [] _ w7 (by omega) (by omega) (bs_nil _) I7.out (all_zero NN (by omega))).mono ?_
    rintro e w8 ⟨rfl, b8⟩
    have B8 := hide (bmore B7.out b8)
    clear b8
    go_wp2_with fail
    refine (awake5_any _).mono ?_
    rintro e w9 ⟨rfl, b9⟩
    have B9 := hide (bmore B8.out b9)
    clear b9
    go_wp2
    go_ret
    exact ⟨rfl, B9.out⟩

theorem cuts_walk (a0 : Option Addr) (len0 cap0 : Nat) (l : List It) (cut n : Int) (w : World) (h : Is w a0 len0 cap0 l) (hm : len0 ≤ 9223372036854775807) :
    Calls Try.prog 7 #[.slice a0 len0 cap0, .int .i64 cut, .int .i64 n] w fun e w' => e = .returned (.bool true) ∧ Below w.heap.size w w' := by
  by_cases hc : may l ≠ 0 ∨ 200 < len0
  · exact cuts_short a0 len0 cap0 l cut n w h hm hc
  · have h1 : may l = 0 := by omega
    have h2 : len0 ≤ 200 := by omega
    have h15 := and4i n
    refine cuts_core a0 len0 cap0 l cut n w h h2 (hide ?_) _ (hide rfl) (bits .and .i64 n 15 + 1992).toNat (by omega)
    unfold may at h1
    rw [if_neg (by have := h.1; omega)] at h1
    split at h1
    · assumption
    · omega

end Go.Proofs.Ytfmofkkjnepbcaa.Clep
