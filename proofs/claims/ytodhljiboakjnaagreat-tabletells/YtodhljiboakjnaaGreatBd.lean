/- The document's own Filter in memory; what its NewFilter, place, Add, Has and the statements' own ones do when called. No conditions but the kinds' bounds. -/
import Derived.Test.YtodhljiboakjnaaGreatBc
import Derived.Test.YtodhljiboakjnaaGreatZq
import Derived.Deep.RegionHeldLaw
namespace Go.Proofs.YtodhljiboakjnaaGreat.Clep
open Go.RowKit
set_option linter.unusedVariables false

/-- The document's Filter in block R: its bits are the bytes that (ao, sz, cap) leads to. -/
structure Rf (w : World) (R : Nat) (ao : Option Addr) (cap k sz N : Nat) : Prop where
  head : Blk w R #[.int .i64 k, .slice ao sz cap] 107
  bits : Bs w ao sz cap (bys N sz)
/-- One whose bits are all of block D. -/
structure Rw (w : World) (R D k sz N : Nat) : Prop where
  head : Blk w R #[.int .i64 k, .slice (some ⟨D, 0, none⟩) sz sz] 107
  bits : Blk w D (bv (bys N sz)).toArray 5
  ne : D ≠ R
theorem bys_get (N n j : Nat) (h : j < n) : (bys N n).getD j 0 = (by8 N j : Int) := by simp [bys, List.getD, h]
theorem bvb_get (N n j : Nat) (h : j < n) : (bv (bys N n)).toArray[j]? = some (.int .u8 (by8 N j : Nat)) := by simp [bv, bys, h]
theorem bvb_set (N p n : Nat) (h : p / 8 < n) : (bv (bys N n)).toArray.setIfInBounds (p / 8) (.int .u8 ((by8 N (p / 8) ||| 2 ^ (p % 8) : Nat) : Int)) = (bv (bys (N ||| 2 ^ p) n)).toArray := by
  refine Array.ext_getElem? fun i => ?_
  by_cases hi : i < n
  · rw [bvb_get _ _ _ hi, by8_or]
    by_cases e : i = p / 8
    · subst e
      rw [Array.getElem?_setIfInBounds_self_of_lt (by simpa [bv, bys] using h)]
      simp
    · rw [Array.getElem?_setIfInBounds_ne (Ne.symm e), bvb_get _ _ _ hi]
      simp [e]
  · rw [Array.getElem?_eq_none (by simp [bv, bys]; omega), Array.getElem?_eq_none (by simp [bv, bys]; omega)]
theorem Rw.rf {w : World} {R D k sz N : Nat} (h : Rw w R D k sz N) : Rf w R (some ⟨D, 0, none⟩) sz k sz N :=
  ⟨h.head, by rw [bys_len], ⟨Nat.le_refl _, fun e => by cases e⟩, range_of (bys_range N sz), fun h0 => ⟨D, 0, rfl, fun i hi => by rw [Nat.zero_add, h.bits.cell (bvb_get N sz i hi), bys_get N sz i hi]⟩⟩
theorem Rf.keep {w w' : World} {R : Nat} {ao : Option Addr} {cap k sz N : Nat} (h : Rf w R ao cap k sz N) (hb : Below w.heap.size w w') : Rf w' R ao cap k sz N := ⟨h.head.keep hb, h.bits.below hb (Nat.le_refl _)⟩
theorem Rw.keep {w w' : World} {R D k sz N : Nat} (h : Rw w R D k sz N) (hb : Below w.heap.size w w') : Rw w' R D k sz N := ⟨h.head.keep hb, h.bits.keep hb, h.ne⟩
theorem Rw.ch {P : Nat → Prop} {w w' : World} {R D k sz N : Nat} (h : Rw w R D k sz N) (hc : Ch P w w') (h1 : ¬ P R) (h2 : ¬ P D) : Rw w' R D k sz N := ⟨h.head.ch hc h1, h.bits.ch hc h2, h.ne⟩

theorem makeB (w : World) (n : Nat) (hn : n ≤ 30000) : (Instr.makeSlice 28 (.int .i64 n) (.int .i64 n)).run Tryz.prog w = .ok (.slice (some ⟨w.heap.size, 0, none⟩) n n) (w.alloc (.cells (bv (bys 0 n)).toArray 5)) := by
  obtain ⟨i, hi, hz0, hz1, hz2⟩ := info_parts info5
  rw [run_make w 28 5 i _ Tryz.underlying28 hi hz0 .i64 .i64 n n (by omega) (by omega) (by rw [hz2]; omega) (by omega), hz1]
  have e : madeCells (Value.cells (.int .u8 0)) ((n : Int).toNat * 1) = (bv (bys 0 n)).toArray := by
    rw [Nat.mul_one, Int.toNat_natCast]
    have h1 : Value.cells (.int .u8 0) = #[Value.int .u8 0] := by kernel_rfl
    rw [h1]
    unfold madeCells bv bys
    refine Array.ext (by simp) fun j h1 h2 => ?_
    simp [Nat.mod_one, by8_zero]
  rw [e, Int.toNat_natCast]
theorem refnew_bad (n b : Int) (w : World) (h : szOk n b = false) :
    Calls Tryz.prog 36 #[.int .i64 n, .int .i64 b] w fun e w' => e = .returned (.pointer none) ∧ w' = w := by
  have hc : n < 0 ∨ 10000 < n ∨ b < 1 ∨ 20 < b := by
    simp only [szOk, Bool.and_eq_false_iff, decide_eq_false_iff_not] at h; omega
  clear h
  go_enter Tryz.func36, Tryz.ntmps36
  by_cases h1 : n < 0
  · go_wp2
    go_ret
    exact ⟨rfl, rfl⟩
  · by_cases h2 : 10000 < n
    · go_wp2
      go_ret
      exact ⟨rfl, rfl⟩
    · by_cases h3 : b < 1
      · go_wp2
        go_ret
        exact ⟨rfl, rfl⟩
      · have h4 : 20 < b := by omega
        go_wp2
        go_ret
        exact ⟨rfl, rfl⟩
theorem refnew_done (w w1 : World) (n b : Nat) (K S : Int) (L : Nat) (hn : n ≤ 10000) (hb : 1 ≤ b ∧ b ≤ 20) (hK : K = (kOf b : Nat)) (hL : L = sOf n b) (hw : w1 = w.alloc (.cells (bv (bys 0 L)).toArray 5)) :
    Rw (w1.alloc (.cells #[.int .i64 K, .slice (some ⟨w.heap.size, 0, none⟩) L L] 107)) w1.heap.size w.heap.size (kOf b) (sOf n b) 0 ∧
      Below w.heap.size w (w1.alloc (.cells #[.int .i64 K, .slice (some ⟨w.heap.size, 0, none⟩) L L] 107)) := by
  subst hK hL
  have hA := (Below.refl _ w).alloc (Nat.le_refl _) (.cells (bv (bys 0 (sOf n b))).toArray 5)
  have hsz : w1.heap.size = w.heap.size + 1 := by rw [hw]; simp
  have hB : Blk w1 w.heap.size (bv (bys 0 (sOf n b))).toArray 5 := by rw [hw]; exact hpS w _ _ rfl
  rw [← hw] at hA
  have hA2 := (Below.refl _ w1).alloc (Nat.le_refl _) (.cells #[.int .i64 (kOf b : Nat), .slice (some ⟨w.heap.size, 0, none⟩) (sOf n b) (sOf n b)] 107)
  exact ⟨⟨hpS w1 _ _ rfl, hB.keep hA2, by omega⟩, bmore hA hA2⟩
set_option maxRecDepth 100000 in
theorem refnew_ok (n b : Nat) (w : World) (hn : n ≤ 10000) (hb : 1 ≤ b ∧ b ≤ 20) :
    Calls Tryz.prog 36 #[.int .i64 n, .int .i64 b] w fun e w' => ∃ R, e = .returned (.pointer (some ⟨R, 0, none⟩)) ∧ ∃ D, Rw w' R D (kOf b) (sOf n b) 0 ∧ Below w.heap.size w w' ∧ w.heap.size ≤ R ∧ w.heap.size ≤ D := by
  have hnb : n * b ≤ 10000 * 20 := Nat.mul_le_mul hn hb.2
  have hs := sOf_range n b hn hb.2
  have hmk : (Instr.makeSlice 28 (.int .i64 (sOf n b : Nat)) (.int .i64 (sOf n b : Nat))).run Tryz.prog w = _ := makeB w (sOf n b) (by omega)
  obtain ⟨w1, hw1⟩ : ∃ w1, w1 = w.alloc (.cells (bv (bys 0 (sOf n b))).toArray 5) := ⟨_, rfl⟩
  rw [← hw1] at hmk
  have HW := hide hw1
  have hsz : w.heap.size ≤ w1.heap.size := by rw [hw1]; simp
  clear hw1
  have fin : Hid (∀ K : Int, K = (kOf b : Nat) → Rw (w1.alloc (.cells #[.int .i64 K, .slice (some ⟨w.heap.size, 0, none⟩) (sOf n b) (sOf n b)] 107)) w1.heap.size w.heap.size (kOf b) (sOf n b) 0 ∧
      Below w.heap.size w (w1.alloc (.cells #[.int .i64 K, .slice (some ⟨w.heap.size, 0, none⟩) (sOf n b) (sOf n b)] 107))) := hide fun K hK => refnew_done w w1 n b K 0 (sOf n b) hn hb hK rfl HW.out
  clear HW
  by_cases hc : n * b < 64
  · have e2 : (n : Int) * (b : Int) < 64 := by rw [← Int.natCast_mul]; omega
    have e3 : ((sOf n b : Nat) : Int) = 8 := by unfold sOf; omega
    rw [e3] at hmk
    generalize sOf n b = L at *
    go_enter Tryz.func36, Tryz.ntmps36
    go_wp2
    all_goals first
      | (exfalso; omega)
      | (go_ret; exact ⟨w1.heap.size, rfl, w.heap.size, (fin.out _ (by unfold kOf; omega)).1, (fin.out _ (by unfold kOf; omega)).2, hsz, Nat.le_refl _⟩)
  · by_cases hc2 : n * b = 64
    · have e2 : (n : Int) * (b : Int) = 64 := by rw [← Int.natCast_mul]; omega
      have e3 : ((sOf n b : Nat) : Int) = 8 := by unfold sOf; omega
      rw [e3] at hmk
      generalize sOf n b = L at *
      go_enter Tryz.func36, Tryz.ntmps36
      go_wp2
      all_goals first
        | (exfalso; omega)
        | (go_ret; exact ⟨w1.heap.size, rfl, w.heap.size, (fin.out _ (by unfold kOf; omega)).1, (fin.out _ (by unfold kOf; omega)).2, hsz, Nat.le_refl _⟩)
    · have e2 : 64 < (n : Int) * (b : Int) := by rw [← Int.natCast_mul]; omega
      have e3 : ((sOf n b : Nat) : Int) = ((n : Int) * (b : Int) + 7) / 8 := by unfold sOf; rw [← Int.natCast_mul]; omega
      rw [e3] at hmk
      generalize sOf n b = L at *
      go_enter Tryz.func36, Tryz.ntmps36
      go_wp2
      all_goals first
        | (exfalso; omega)
        | (go_ret; exact ⟨w1.heap.size, rfl, w.heap.size, (fin.out _ (by unfold kOf; omega)).1, (fin.out _ (by unfold kOf; omega)).2, hsz, Nat.le_refl _⟩)

end Go.Proofs.YtodhljiboakjnaaGreat.Clep

/- What the document's own place, Add and Has and the statements' own ones do when called. No conditions but the kinds' bounds. -/
namespace Go.Proofs.YtodhljiboakjnaaGreat.Clep
open Go.RowKit
set_option linter.unusedVariables false

theorem bpl_int (h i sz : Nat) : ((h : Int) + (i : Int) * ((h : Int) / 4294967296)) % 4294967296 % ((sz : Int) * 8) = ((bpl h i sz : Nat) : Int) := by
  unfold bpl
  have e1 : ((i : Int) * ((h : Int) / 4294967296)) = ((i * (h / 4294967296) : Nat) : Int) := by rw [Int.natCast_mul, Int.natCast_ediv]; rfl
  rw [e1]
  generalize i * (h / 4294967296) = x
  have e2 : ((h : Int) + (x : Int)) % 4294967296 = (((h % 4294967296 + x) % 4294967296 : Nat) : Int) := by omega
  rw [e2]
  generalize (h % 4294967296 + x) % 4294967296 = y
  rw [Int.natCast_emod, Int.natCast_mul]
  rfl
theorem refplace_any (w : World) (R i sz cap : Nat) (ao : Option Addr) (s : ByteArray) (zs : List Int) (hm : s.size ≤ 9223372036854775807) (hs : Sz s zs) (hr : ∀ z ∈ zs, 0 ≤ z ∧ z < 256) (hc : w.cell? ⟨R, 1, none⟩ = some (.slice ao sz cap)) (hi : i < 14) (hsz : 8 ≤ sz ∧ sz ≤ 25000) :
    Calls Tryz.prog 61 #[.pointer (some ⟨R, 0, none⟩), .string s, .int .i64 i] w fun e w' => e = .returned (.int .i64 (bpl (fnv zs) i sz : Nat)) ∧ w' = w := by
  have C1 := hide (refhash_any s zs w hm hs hr)
  have hf := fnv_lt zs
  have hp := bpl_lt (fnv zs) i sz (by omega)
  have hP := bpl_int (fnv zs) i sz
  rw [Int.mul_comm (sz : Int) 8] at hP
  generalize bpl (fnv zs) i sz = p at *
  generalize fnv zs = h at *
  clear hs hr
  go_enter Tryz.func61, Tryz.ntmps61
  go_wp2_with fail
  refine C1.out.mono ?_
  rintro e w1 ⟨rfl, rfl⟩
  go_wp2
  go_ret
  exact ⟨rfl, rfl⟩

theorem or_u8 (a b : Nat) (ha : a < 256) (hb : b < 256) : bits BinOp.or IntKind.u8 (a : Int) (b : Int) = ((a ||| b : Nat) : Int) := by
  have e : bits .or .u8 (a : Int) (b : Int) = IntKind.u8.wrap ((BitVec.ofInt 8 (a : Int) ||| BitVec.ofInt 8 (b : Int)).toNat : Int) := rfl
  rw [e, BitVec.toNat_or, show (BitVec.ofInt 8 (a : Int)).toNat = a by simp; omega, show (BitVec.ofInt 8 (b : Int)).toNat = b by simp; omega]
  have hlt : a ||| b < 2 ^ 8 := Nat.or_lt_two_pow ha hb
  simp [IntKind.wrap, IntKind.bits, IntKind.signed]
  omega
theorem and1_u8 (a : Nat) (ha : a < 256) : bits BinOp.and IntKind.u8 (a : Int) 1 = ((a % 2 : Nat) : Int) := by
  have e : bits .and .u8 (a : Int) 1 = IntKind.u8.wrap ((BitVec.ofInt 8 (a : Int) &&& BitVec.ofInt 8 1).toNat : Int) := rfl
  rw [e, BitVec.toNat_and, show (BitVec.ofInt 8 (a : Int)).toNat = a by simp; omega, show (BitVec.ofInt 8 1).toNat = 2 ^ 1 - 1 from rfl, Nat.and_two_pow_sub_one_eq_mod]
  simp [IntKind.wrap, IntKind.bits, IntKind.signed]
  omega

theorem Rw.add {w : World} {R D k sz N p : Nat} (h : Rw w R D k sz N) (hp : p / 8 < sz) : Rw (w.setCell ⟨D, p / 8, none⟩ (.int .u8 ((by8 N (p / 8) ||| 2 ^ (p % 8) : Nat) : Int))) R D k sz (N ||| 2 ^ p) :=
  ⟨h.head.other _ _ (Ne.symm h.ne), by rw [← bvb_set N p _ hp]; exact h.bits.set _ _, h.ne⟩
theorem pow_lt8 (p : Nat) : 2 ^ (p % 8) < 256 := Nat.lt_of_lt_of_le (Nat.pow_lt_pow_right (by decide) (Nat.mod_lt p (show 0 < 8 by decide))) (by decide)

theorem pow_int8 (p : Nat) : ((2 ^ (p % 8) : Nat) : Int) = (2 : Int) ^ (p % 8) % 256 := by
  have h := pow_lt8 p
  have e : ((2 ^ (p % 8) : Nat) : Int) = (2 : Int) ^ (p % 8) := by rw [Int.natCast_pow]; rfl
  rw [← e]
  generalize 2 ^ (p % 8) = q at *
  omega
set_option maxRecDepth 100000 in
set_option maxHeartbeats 1600000 in
theorem refadd_any (w : World) (R D k sz N : Nat) (h : Rw w R D k sz N) (hk : 1 ≤ k ∧ k ≤ 14) (hsz : 8 ≤ sz ∧ sz ≤ 25000) (s : ByteArray) (zs : List Int) (hm : s.size ≤ 9223372036854775807) (hs : Sz s zs) (hr : ∀ z ∈ zs, 0 ≤ z ∧ z < 256) :
    Calls Tryz.prog 37 #[.pointer (some ⟨R, 0, none⟩), .string s] w fun e w' => e = .returned (.tuple #[]) ∧ Rw w' R D k sz (addk (fnv zs) sz k N) ∧ Ch (fun b => b = D) w w' := by
  have HR := hide h
  have CP := hide (fun W cap ao i => fun hc hi => refplace_any W R i sz cap ao s zs hm hs hr hc hi hsz)
  clear h hs hr
  obtain ⟨H, hH⟩ : ∃ H, fnv zs = H := ⟨_, rfl⟩
  rw [hH] at CP ⊢
  clear hH
  go_enter Tryz.func37, Tryz.ntmps37
  go_wp2
  go_loopw [4] (fun u wr => ∃ i : Nat, u = .int .i64 i ∧ i ≤ k ∧ Hid (Rw wr R D k sz (addk H sz i N)) ∧ Hid (Ch (fun b => b = D) w wr)) (fun u _ => k - (intOf u).toNat)
  case atStart => exact ⟨0, rfl, by omega, HR, hide (Ch.of (Below.refl _ _))⟩
  case round =>
    obtain ⟨i, rfl, hi, hl, hcc⟩ := hrel
    have c0 : wr.cell? ⟨R, 0, none⟩ = some (.int .i64 k) := hl.out.head.cell rfl
    by_cases hlt : i < k
    · have c1 : wr.cell? ⟨R, 1, none⟩ = some (.slice (some ⟨D, 0, none⟩) sz sz) := hl.out.head.cell rfl
      have C3 := hide (CP.out wr sz (some ⟨D, 0, none⟩) i c1 (by omega))
      have hp := bpl_lt H i sz (by omega)
      have HA : Hid (addk H sz (i + 1) N = addk H sz i N ||| 2 ^ bpl H i sz) := hide rfl
      go_wp2_with fail
      refine C3.out.mono ?_
      rintro e w3 ⟨rfl, rfl⟩
      generalize bpl H i sz = p at *
      have hp2 : p / 8 < sz := by omega
      have cD : w3.cell? ⟨D, p / 8, none⟩ = some (.int .u8 (by8 (addk H sz i N) (p / 8) : Nat)) := hl.out.bits.cell (bvb_get _ _ _ hp2)
      have fD : w3.frozen? ⟨D, p / 8, none⟩ = false := hl.out.bits.free _
      have hor := or_u8 (by8 (addk H sz i N) (p / 8)) (2 ^ (p % 8)) (by8_lt _ _) (pow_lt8 p)
      rw [pow_int8 p] at hor
      have HL4 := hide (hl.out.add hp2)
      have HNE := hide hl.out.ne
      generalize hX : by8 (addk H sz i N) (p / 8) = X at *
      generalize hZ : X ||| 2 ^ (p % 8) = Z at *
      clear hX hZ C3
      go_wp2
      go_region
      go_wp2
      go_round
      case rel => exact ⟨i + 1, by go_num, by omega, hide (by rw [HA.out]; exact HL4.out.keep (Below.refl _ _).drew), hide ((hcc.out.trans (Ch.set (P := fun b => b = D) w3 ⟨D, p / 8, none⟩ _ rfl)).trans (Ch.of (Below.refl _ _).drew))⟩
      case measure => simp [intOf]; omega
    · have h8 : i = k := by omega
      subst h8
      go_wp2
      go_end0
      exact ⟨rfl, hl.out, hcc.out⟩

theorem bit_int (N p : Nat) : bits BinOp.and IntKind.u8 ((by8 N (p / 8) : Int) / 2 ^ (p % 8)) 1 = (((N.testBit p).toNat : Nat) : Int) := by
  have e : ((by8 N (p / 8) : Nat) : Int) / 2 ^ (p % 8) = ((by8 N (p / 8) / 2 ^ (p % 8) : Nat) : Int) := by rw [Int.natCast_ediv, Int.natCast_pow]; rfl
  rw [e, and1_u8 _ (Nat.lt_of_le_of_lt (Nat.div_le_self _ _) (by8_lt _ _)), by8_test]

end Go.Proofs.YtodhljiboakjnaaGreat.Clep

/- What the document's own Filter.Bytes does when called. No conditions but the kinds' bounds. -/
namespace Go.Proofs.YtodhljiboakjnaaGreat.Clep
open Go.RowKit
set_option linter.unusedVariables false

/-- The text of a number. -/
def Nm (x : Int) (S : ByteArray) : Prop := S = strOfNums (pu x) ∧ 0 ≤ x ∧ x ≤ 18446744073709551615
set_option maxRecDepth 100000 in
set_option maxHeartbeats 800000 in
theorem frefbytes_any (w : World) (R cap k sz N : Nat) (ao : Option Addr) (h : Rf w R ao cap k sz N) (hk : 1 ≤ k ∧ k ≤ 14) (hsz : 8 ≤ sz ∧ sz ≤ 25000) :
    Calls Tryz.prog 40 #[.pointer (some ⟨R, 0, none⟩)] w fun e w' => e = .returned (.string (strOfNums (fb k sz N))) ∧ Below w.heap.size w w' := by
  have hl1 := pu_len k
  have hl2 := pu_len sz
  have a1 : ∀ W : World, (Op.stringOp .add (strOfNums (pu k)) (strOfNums (pu sz))).run Tryz.prog W = .ok (.string (strOfNums (pu k ++ pu sz))) W := fun W => by
    rw [← str_app]
    exact run_string_add_sum W _ _ (by rw [str_size, str_size]; omega)
  have a2 : ∀ W : World, (Op.stringOp .add (strOfNums (pu k ++ pu sz)) (strOfNums (bys N sz))).run Tryz.prog W = .ok (.string (strOfNums (fb k sz N))) W := fun W => by
    unfold fb
    rw [← str_app (pu k ++ pu sz)]
    exact run_string_add_sum W _ _ (by rw [str_size, str_size, List.length_append, bys_len]; omega)
  have z1 : (strOfNums (pu k)).size ≤ 10 := by rw [str_size]; omega
  have z2 : (strOfNums (pu sz)).size ≤ 10 := by rw [str_size]; omega
  have z3 : (strOfNums (pu k ++ pu sz)).size ≤ 20 := by rw [str_size, List.length_append]; omega
  have z4 : (strOfNums (bys N sz)).size ≤ 25000 := by rw [str_size, bys_len]; omega
  have hcap := h.bits.2.1.1
  have HC : Hid (∀ W, Below w.heap.size w W → Below w.heap.size w W ∧ W.cell? ⟨R, 0, none⟩ = some (.int .i64 k) ∧ W.cell? ⟨R, 1, none⟩ = some (.slice ao sz cap) ∧ (convert 28 9 (.slice ao sz cap)).run Tryz.prog W = .ok (.string (strOfNums (bys N sz))) W) := hide fun W hW =>
    ⟨hW, (h.keep hW).head.cell rfl, (h.keep hW).head.cell rfl, conv_bs (h.keep hW).bits⟩
  have c0 : w.cell? ⟨R, 0, none⟩ = some (.int .i64 k) := h.head.cell rfl
  have c1 : w.cell? ⟨R, 1, none⟩ = some (.slice ao sz cap) := h.head.cell rfl
  have hb0 : Below w.heap.size w w := Below.refl _ _
  clear h hl1 hl2
  generalize strOfNums (fb k sz N) = S4 at *
  generalize strOfNums (bys N sz) = S3 at *
  generalize strOfNums (pu k ++ pu sz) = S2 at *
  obtain ⟨S0, hS0⟩ : ∃ S, strOfNums (pu k) = S := ⟨_, rfl⟩
  obtain ⟨S1, hS1⟩ : ∃ S, strOfNums (pu sz) = S := ⟨_, rfl⟩
  rw [hS0] at a1 z1
  rw [hS1] at a1 z2
  have HS0 := hide hS0
  have HS1 := hide hS1
  clear hS0 hS1
  have cK : Hid (∀ (p : Kp w) (x : Int) (S : ByteArray), Nm x S → Calls Tryz.prog 33 #[.int .u64 x] p.W fun e w'' => e = .returned (.string S) ∧ ∃ q : Kp w, w'' = q.W) := hide fun p x S hx => kp_call (by rw [hx.1]; exact refnum_any p.W x hx.2.1 hx.2.2)
  have n1 : Nm (k : Int) S0 := ⟨HS0.out.symm, by omega, by omega⟩
  have n2 : Nm (sz : Int) S1 := ⟨HS1.out.symm, by omega, by omega⟩
  have p0 : ∀ p : Kp w, p.W.cell? ⟨R, 0, none⟩ = some (.int .i64 k) := fun p => (HC.out p.W p.h).2.1
  have p1 : ∀ p : Kp w, p.W.cell? ⟨R, 1, none⟩ = some (.slice ao sz cap) := fun p => (HC.out p.W p.h).2.2.1
  have p2 : ∀ p : Kp w, (convert 28 9 (.slice ao sz cap)).run Tryz.prog p.W = .ok (.string S3) p.W := fun p => (HC.out p.W p.h).2.2.2
  have hne : Nonempty (Kp w) := ⟨⟨w, Below.refl _ _⟩⟩
  clear HS0 HS1 c0 c1 HC
  go_enter Tryz.func40, Tryz.ntmps40
  go_wp2_with fail
  refine wp_region_kept (by kernel_rfl) (by kernel_rfl) ?_
  repeat (first | go_big_quiet_step (first | (go_at_call 33; exact cK.out _ _ _ (by assumption))) | fail)
  refine wpQuiet_nil ?_
  intro w3 hw'
  have HB : Hid (Below w.heap.size w w3) := by
    obtain ⟨⟨w3', hb3⟩, hw''⟩ := hw'
    rw [hw'']; exact hide hb3
  clear hw' p0 p1 p2 hne cK n1 n2
  go_wp2
  go_ret
  exact ⟨rfl, HB.out⟩

end Go.Proofs.YtodhljiboakjnaaGreat.Clep
