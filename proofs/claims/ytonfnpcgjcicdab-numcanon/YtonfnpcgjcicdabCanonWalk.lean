/- The statement NumCanon, called at any number and any way, answers true, in new memory alone. No conditions. -/
import Derived.Test.YtonfnpcgjcicdabAwake
import Derived.Test.YtonfnpcgjcicdabMore
namespace Go.Proofs.Ytonfnpcgjcicdab.Clep
open Go.RowKit
set_option linter.unusedVariables false

theorem and3 (a : Int) : 0 ≤ bits .and .i64 a 3 ∧ bits .and .i64 a 3 ≤ 3 := by
  have e : bits .and .i64 a 3 = IntKind.i64.wrap ((BitVec.ofInt 64 a &&& BitVec.ofInt 64 3).toNat : Int) := rfl
  have hle : (BitVec.ofInt 64 a &&& BitVec.ofInt 64 3).toNat ≤ 3 := by
    rw [BitVec.toNat_and]; exact Nat.le_trans Nat.and_le_right (by decide)
  rw [e]
  generalize (BitVec.ofInt 64 a &&& BitVec.ofInt 64 3).toNat = k at *
  simp [IntKind.wrap, IntKind.bits, IntKind.signed]
  omega

theorem u64_bounds {n : Int} (h : (Lit.int .u64 n).wf = true) : 0 ≤ n ∧ n ≤ 18446744073709551615 := by
  simp only [Lit.wf, IntKind.min, IntKind.max, IntKind.signed, IntKind.bits, Bool.and_eq_true] at h
  simp at h
  omega

/-- What a statement's end asks behind its last Take. -/
theorem bs_lit (w : World) (zs : List Int) (h : ∀ z ∈ zs, 0 ≤ z ∧ z < 256) : Bs (w.alloc (.cells (bv zs).toArray 5)) (some ⟨w.heap.size, 0, none⟩) zs.length zs.length zs := by
  refine ⟨rfl, ⟨Nat.le_refl _, fun h => by cases h⟩, range_of h, fun _ => ⟨w.heap.size, 0, rfl, fun i hi => ?_⟩⟩
  simp [bv, hi, List.getD]

theorem Bs.take {w : World} {ao : Option Addr} {len cap : Nat} {zs : List Int} (h : Bs w ao len cap zs) (k : Nat) (hk : k ≤ len) (hn : ao ≠ none) : Bs w ao k cap (zs.take k) := by
  refine ⟨by rw [List.length_take, h.1]; omega, ⟨by have := h.2.1.1; omega, fun e => absurd e hn⟩, range_of fun z hz => ?_, fun h0 => ?_⟩
  · obtain ⟨j, hj, rfl⟩ := List.getElem_of_mem (List.mem_of_mem_take hz)
    have := h.2.2.1 j
    simpa [List.getD, List.getElem?_eq_getElem hj] using this
  · obtain ⟨b, off, ho, hc⟩ := h.2.2.2 (by omega)
    refine ⟨b, off, ho, fun i hi => ?_⟩
    rw [hc i (by omega)]
    simp [List.getD, hi]
theorem own_row {w : World} {B : Nat} {v : Value} {zs : List Int} (h : Own w B v zs) (hz : zs ≠ []) :
    ∃ g cap, v = .slice (some ⟨g, 0, none⟩) zs.length cap ∧ w.ownsRow B 5 1 (.slice (some ⟨g, 0, none⟩) zs.length cap) zs.length (bv zs) ∧ zs.length ≤ cap ∧ B ≤ g ∧ g < w.heap.size := by
  have h' := h
  obtain ⟨hl, ⟨rfl, hn⟩ | ⟨g, cap, cur, rfl, hg, hh, hnc, hcm, hcs, hx⟩⟩ := h
  · exact absurd (List.eq_nil_of_length_eq_zero hn) hz
  · exact ⟨g, cap, rfl, h', hnc, hg, (Array.getElem?_eq_some_iff.1 hh).1⟩

theorem below_end {w w1 w2 : World} (h1 : Below w.heap.size w w1) (o : Obj) (h2 : Below (w1.alloc o).heap.size (w1.alloc o) w2) : Below w.heap.size w w2 :=
  (h1.alloc h1.size o).trans (h2.mono (Nat.le_trans h1.size (by simp)))

set_option maxHeartbeats 1000000 in
theorem canon2 (n way : Int) (h0 : 0 ≤ n) (h1 : n ≤ 18446744073709551615) (w : World) (hw : (bits .and .i64 way 3 == 2) = true) :
    Calls Try.prog 3 #[.int .u64 n, .int .i64 way] w fun e w' => e = .returned (.bool true) ∧ Below w.heap.size w w' := by
  have hl := pu_len n
  have hlen : (((pu n).length : Int) == 0) = false := beq_eq_false_iff_ne.2 (by omega)
  have e0 : (bits .and .i64 way 3 == 0) = false := by simp at *; omega
  have e1 : (bits .and .i64 way 3 == 1) = false := by simp at *; omega
  go_enter Try.func3, Try.ntmps3
  go_wp2_with fail
  refine (put_any none 0 0 [] _ n h0 h1 (by omega) (bs_nil _)).mono ?_
  rintro e w1 ⟨v, rfl, ho, hb⟩
  rw [List.nil_append] at ho
  obtain ⟨ao, cap, rfl, hcap, hbs, hwhere⟩ := own_bs ho (range_of (pu_range n h0 h1))
  have HB := hide hb
  clear hb ho hbs hwhere hcap
  go_wp2_with fail
  refine (take_any _ 11 11 [128, 128, 128, 128, 128, 128, 128, 128, 128, 128, 1] _ (by omega) (bs_lit w1 [128, 128, 128, 128, 128, 128, 128, 128, 128, 128, 1] (by decide))).mono ?_
  rw [show tk [128, 128, 128, 128, 128, 128, 128, 128, 128, 128, 1] 0 0 = (0, 0, 3) from by decide]
  rintro e w2 ⟨rfl, rfl⟩
  unfold tup
  go_wp2_with (go_at_call 7; refine (awake_any _).mono ?_; rintro e w' ⟨rfl, hbel⟩)
  go_ret
  exact ⟨rfl, below_end HB.out _ hbel⟩

set_option maxHeartbeats 1000000 in
theorem canon1 (n way : Int) (h0 : 0 ≤ n) (h1 : n ≤ 18446744073709551615) (w : World) (hw : (bits .and .i64 way 3 == 1) = true) :
    Calls Try.prog 3 #[.int .u64 n, .int .i64 way] w fun e w' => e = .returned (.bool true) ∧ Below w.heap.size w w' := by
  have hl := pu_len n
  have hlen : (((pu n).length : Int) == 0) = false := beq_eq_false_iff_ne.2 (by omega)
  have e0 : (bits .and .i64 way 3 == 0) = false := by simp at *; omega
  go_enter Try.func3, Try.ntmps3
  go_wp2_with fail
  refine (put_any none 0 0 [] _ n h0 h1 (by omega) (bs_nil _)).mono ?_
  rintro e w1 ⟨v, rfl, ho, hb⟩
  rw [List.nil_append] at ho
  obtain ⟨ao, cap, rfl, hcap, hbs, hwhere⟩ := own_bs ho (range_of (pu_range n h0 h1))
  have HB := hide hb
  clear hb ho hbs hwhere hcap
  have hz : 2 ≤ (bits BinOp.and IntKind.u64 n 125 + 2) % 256 ∧ (bits BinOp.and IntKind.u64 n 125 + 2) % 256 < 256 := by
    rw [u64_and n 125 h0 (by omega) (by omega) (by omega)]
    have : n.toNat &&& (125 : Int).toNat ≤ 125 := Nat.and_le_right
    omega
  have HZ := hide hz
  clear hz
  go_wp2_with fail
  have hz := HZ.out
  clear HZ
  generalize (bits BinOp.and IntKind.u64 n 125 + 2) % 256 = z at hz ⊢
  refine (take_any _ 10 10 [255, 255, 255, 255, 255, 255, 255, 255, 255, z] _ (by omega) (bs_lit w1 [255, 255, 255, 255, 255, 255, 255, 255, 255, z] ?_)).mono ?_
  · intro y hy
    simp only [List.mem_cons, List.not_mem_nil, or_false] at hy
    omega
  rw [show tk [255, 255, 255, 255, 255, 255, 255, 255, 255, z] 0 0 = (0, 0, 3) from by
    obtain ⟨n', e⟩ := tk_highs [255, 255, 255, 255, 255, 255, 255, 255, 255] [z] 0 0 (by decide) (by decide)
    rw [show [255, 255, 255, 255, 255, 255, 255, 255, 255, z] = [255, 255, 255, 255, 255, 255, 255, 255, 255] ++ [z] from rfl, e]
    show tk [z] 9 n' = _
    rw [tk, if_pos ⟨rfl, by omega⟩]]
  rintro e w2 ⟨rfl, rfl⟩
  unfold tup
  go_wp2_with (go_at_call 7; refine (awake_any _).mono ?_; rintro e w' ⟨rfl, hbel⟩)
  go_ret
  exact ⟨rfl, below_end HB.out _ hbel⟩

set_option maxHeartbeats 1000000 in
theorem canon0a (n way : Int) (h0 : 0 ≤ n) (h1 : n ≤ 18446744073709551615) (w : World) (hw : (bits .and .i64 way 3 == 0) = true) (h10 : (((pu n).length : Int) == 10) = true) :
    Calls Try.prog 3 #[.int .u64 n, .int .i64 way] w fun e w' => e = .returned (.bool true) ∧ Below w.heap.size w w' := by
  have hl := pu_len n
  have hlen : (((pu n).length : Int) == 0) = false := beq_eq_false_iff_ne.2 (by omega)
  go_enter Try.func3, Try.ntmps3
  go_wp2_with fail
  refine (put_any none 0 0 [] _ n h0 h1 (by omega) (bs_nil _)).mono ?_
  rintro e w1 ⟨v, rfl, ho, hb⟩
  rw [List.nil_append] at ho
  obtain ⟨ao, cap, rfl, hcap, hbs, hwhere⟩ := own_bs ho (range_of (pu_range n h0 h1))
  have HB := hide hb
  clear hb ho hbs hwhere hcap
  go_wp2_with fail
  refine (take_any _ 2 2 [128, 0] _ (by omega) (bs_lit w1 [128, 0] (by decide))).mono ?_
  rw [show tk [128, 0] 0 0 = (0, 0, 3) from by decide]
  rintro e w2 ⟨rfl, rfl⟩
  unfold tup
  go_wp2_with (go_at_call 7; refine (awake_any _).mono ?_; rintro e w' ⟨rfl, hbel⟩)
  go_ret
  exact ⟨rfl, below_end HB.out _ hbel⟩

set_option maxHeartbeats 1000000 in
theorem canon3 (n way : Int) (h0 : 0 ≤ n) (h1 : n ≤ 18446744073709551615) (w : World) (hw : (bits .and .i64 way 3 == 3) = true) :
    Calls Try.prog 3 #[.int .u64 n, .int .i64 way] w fun e w' => e = .returned (.bool true) ∧ Below w.heap.size w w' := by
  have hl := pu_len n
  have hlen : (((pu n).length : Int) == 0) = false := beq_eq_false_iff_ne.2 (by omega)
  have e0 : (bits .and .i64 way 3 == 0) = false := by simp at *; omega
  have e1 : (bits .and .i64 way 3 == 1) = false := by simp at *; omega
  have e2 : (bits .and .i64 way 3 == 2) = false := by simp at *; omega
  go_enter Try.func3, Try.ntmps3
  go_wp2_with fail
  refine (put_any none 0 0 [] _ n h0 h1 (by omega) (bs_nil _)).mono ?_
  rintro e w1 ⟨v, rfl, ho, hb⟩
  rw [List.nil_append] at ho
  have hsp := enc_split 9 n h0 (u64_fuel n h1)
  obtain ⟨hi, last, hpu, hhi, hl0, hl1, hhl⟩ := hsp
  obtain ⟨ao, cap, rfl, hcap, hbs, hwhere⟩ := own_bs ho (range_of (pu_range n h0 h1))
  have HB := hide hb
  have hcap2 := hbs.2.1.1
  have hao := hbs.2.2.2 (by omega)
  obtain ⟨g, off, rfl, hcell⟩ := hao
  have HBS := hide hbs
  have HHI := hide hhi
  have HPU : Hid (pu n = hi ++ [last]) := hide hpu
  clear hb ho hbs hwhere hcell hhi hpu hcap
  go_wp2_with fail
  have hk : (pu n).length - 1 = hi.length := by rw [HPU.out]; simp
  have hbt := HBS.out.take ((pu n).length - 1) (by omega) (by intro h; cases h)
  rw [show (pu n).take ((pu n).length - 1) = hi from by rw [hk, HPU.out]; simp] at hbt
  refine (take_any _ _ cap hi _ (by omega) hbt).mono ?_
  rw [show tk hi 0 0 = (0, 0, 4) from by
    obtain ⟨n', e⟩ := tk_highs hi [] 0 0 (fun z hz => (HHI.out z hz).1) (by omega)
    rw [List.append_nil] at e
    rw [e]; rfl]
  clear hk hbt
  rintro e w2 ⟨rfl, rfl⟩
  unfold tup
  go_wp2_with (go_at_call 7; refine (awake_any _).mono ?_; rintro e w' ⟨rfl, hbel⟩)
  go_ret
  exact ⟨rfl, HB.out.trans (hbel.mono HB.out.size)⟩

set_option maxHeartbeats 1000000 in
theorem canon0b (n way : Int) (h0 : 0 ≤ n) (h1 : n ≤ 18446744073709551615) (w : World) (hw : (bits .and .i64 way 3 == 0) = true) (hi : List Int) (last : Int)
    (hpu : Hid (pu n = hi ++ [last])) (hhi : Hid (∀ z ∈ hi, 128 ≤ z ∧ z < 256)) (hl0 : 0 ≤ last) (hl1 : last < 128) (hhl : hi.length ≤ 8) :
    Calls Try.prog 3 #[.int .u64 n, .int .i64 way] w fun e w' => e = .returned (.bool true) ∧ Below w.heap.size w w' := by
  obtain ⟨i0, hif, hz0, hz1, hz2⟩ := info_parts info5
  have hlen : ((hi.length + 1 : Int) == 0) = false := beq_eq_false_iff_ne.2 (by omega)
  have hlen2 : ((hi.length + 1 : Int) == 10) = false := beq_eq_false_iff_ne.2 (by omega)
  go_enter Try.func3, Try.ntmps3
  go_wp2_with fail
  refine (put_any none 0 0 [] _ n h0 h1 (by omega) (bs_nil _)).mono ?_
  rintro e w1 ⟨v, rfl, ho, hb⟩
  rw [List.nil_append, hpu.out] at ho
  obtain ⟨g, cap, rfl, hrow, hcap, hg, hgs⟩ := own_row ho (by simp)
  rw [show (hi ++ [last]).length = hi.length + 1 from by simp] at hrow hcap ⊢
  have hcl : w1.cell? ⟨g, hi.length, none⟩ = some (.int .u8 last) := by
    rw [hrow.cellAt hi.length (by omega)]; simp [bv]
  have hfr : w1.frozen? ⟨g, hi.length, none⟩ = false := hrow.frozenAt hi.length
  have HB := hide hb
  have HR := hide hrow
  clear hb ho hrow
  go_wp2_with (first
    | (at_builtin; refine wpList_append_own _ rfl (.tmp 36) (.tmp 37) 23 rfl w.heap.size 5 i0 (.int .u8 0) 1 1 Try.underlying23 hif hz0 hz1 hz2 rfl (by decide) _ _ _ rfl ((HR.out.stored hi.length (.int .u8 (bits BinOp.or IntKind.u8 last 128))).1.alloc _) ⟨w1.heap.size, 0, none⟩ 1 1 [.int .u8 0] rfl rfl ?c1 ?c2 ?c3 ?c4 ?c5 ?_)
    | fail)
  case c1 =>
    intro j u hj
    match j, hj with
    | 0, hj =>
      simp at hj
      subst hj
      have := cell_one_new (w1.setCell ⟨g, hi.length, none⟩ (Value.int IntKind.u8 (bits BinOp.or IntKind.u8 last 128))) (.int .u8 0) 5 0 (.int .u8 0) rfl
      simpa using this
  case c3 => unfold maxLen; omega
  case c4 => omega
  case c5 => have := HB.out.size; simp; omega
  case c2 => first | rfl | (intro u hu; simp at hu; subst hu; rfl)
  intro v' w2 hown' hgrow _
  have hor : bits BinOp.or IntKind.u8 last 128 = last + 128 := by
    have := or_high last hl0
    rw [IntKind.wrap_u8', show last % 256 = last from by omega, show last % 128 = last from by omega] at this
    exact this
  have hOwn : Own w2 w.heap.size v' (hi ++ [last + 128, 0]) := by
    unfold Own
    have := hown'
    rw [hor] at this
    simpa [bv, List.set_append] using this
  have hB2 := hide (((HB.out.grown (HR.out.stored hi.length (.int .u8 (bits BinOp.or IntKind.u8 last 128))).2 HB.out.size (fun k hk => by cases hk; exact hg)).alloc (by have := HB.out.size; simp; omega) _).grown hgrow (by have := HB.out.size; simp; omega) (fun k hk => by cases hk; exact hg))
  clear hown' hgrow hor
  obtain ⟨ao', cap', hv, _, hbs', _⟩ := own_bs hOwn (range_of (by
    intro z hz
    rcases List.mem_append.1 hz with hz | hz
    · have := hhi.out z hz; omega
    · simp at hz; omega))
  obtain ⟨L, hL⟩ : ∃ L, L = (hi ++ [last + 128, 0]).length := ⟨_, rfl⟩
  rw [← hL] at hv hbs'
  rw [hv]
  have HBS := hide hbs'
  have hLb : L ≤ 100 := by rw [hL]; simp; omega
  clear hOwn hbs' hv hcl hfr hL
  go_wp2_with fail
  refine (take_any ao' L cap' _ _ (by omega) HBS.out).mono ?_
  rw [show tk (hi ++ [last + 128, 0]) 0 0 = (0, 0, 3) from by
    obtain ⟨n', e⟩ := tk_highs (hi ++ [last + 128]) [0] 0 0 (by
      intro z hz
      rcases List.mem_append.1 hz with hz | hz
      · exact (hhi.out z hz).1
      · simp at hz; omega) (by simp; omega)
    rw [show hi ++ [last + 128, 0] = hi ++ [last + 128] ++ [0] from by simp, e, tk, if_neg (by omega), if_neg (by omega), if_pos ⟨rfl, by simp⟩]]
  rintro e w3 ⟨rfl, rfl⟩
  unfold tup
  go_wp2_with (go_at_call 7; refine (awake_any _).mono ?_; rintro e w' ⟨rfl, hbel⟩)
  go_ret
  exact ⟨rfl, hB2.out.trans (hbel.mono hB2.out.size)⟩

theorem canon_walk (n way : Int) (w0 : (Lit.int .u64 n).wf = true) (w : World) :
    Calls Try.prog 3 #[.int .u64 n, .int .i64 way] w fun e w' => e = .returned (.bool true) ∧ Below w.heap.size w w' := by
  obtain ⟨h0, h1⟩ := u64_bounds w0
  have h3 := and3 way
  by_cases c0 : bits .and .i64 way 3 = 0
  · by_cases h10 : (pu n).length = 10
    · exact canon0a n way h0 h1 w (by simp [c0]) (beq_iff_eq.2 (by omega))
    · obtain ⟨hi, last, e, hh, hl0, hl1, hl⟩ := enc_split 9 n h0 (u64_fuel n h1)
      have hlen : (pu n).length = hi.length + 1 := by unfold pu; rw [e]; simp
      exact canon0b n way h0 h1 w (by simp [c0]) hi last (hide e) (hide hh) hl0 hl1 (by omega)
  · by_cases c1 : bits .and .i64 way 3 = 1
    · exact canon1 n way h0 h1 w (by simp [c1])
    · by_cases c2 : bits .and .i64 way 3 = 2
      · exact canon2 n way h0 h1 w (by simp [c2])
      · exact canon3 n way h0 h1 w (by simp; omega)

end Go.Proofs.Ytonfnpcgjcicdab.Clep
