/- What the document's own place, Add and Has and the statements' own ones do when called. No conditions but the kinds' bounds. -/
import Derived.Test.YtjphnflahpcaiaaBRef
namespace Go.Proofs.Ytjphnflahpcaiaa.Clep
open Go.RowKit
set_option linter.unusedVariables false

theorem pl_int (h i sz : Nat) : ((h : Int) + (i : Int) * ((h : Int) / 4294967296)) % 4294967296 % ((sz : Int) * 8) = ((pl h i sz : Nat) : Int) := by
  unfold pl
  have e1 : ((i : Int) * ((h : Int) / 4294967296)) = ((i * (h / 4294967296) : Nat) : Int) := by rw [Int.natCast_mul, Int.natCast_ediv]; rfl
  rw [e1]
  generalize i * (h / 4294967296) = x
  have e2 : ((h : Int) + (x : Int)) % 4294967296 = (((h % 4294967296 + x) % 4294967296 : Nat) : Int) := by omega
  rw [e2]
  generalize (h % 4294967296 + x) % 4294967296 = y
  rw [Int.natCast_emod, Int.natCast_mul]
  rfl
theorem refplace_any (w : World) (R i sz cap : Nat) (ao : Option Addr) (s : ByteArray) (zs : List Int) (hm : s.size ≤ 9223372036854775807) (hs : Sz s zs) (hr : ∀ z ∈ zs, 0 ≤ z ∧ z < 256) (hc : w.cell? ⟨R, 1, none⟩ = some (.slice ao sz cap)) (hi : i < 14) (hsz : 8 ≤ sz ∧ sz ≤ 25000) :
    Calls Try.prog 27 #[.pointer (some ⟨R, 0, none⟩), .string s, .int .i64 i] w fun e w' => e = .returned (.int .i64 (pl (fnv zs) i sz : Nat)) ∧ w' = w := by
  have C1 := hide (refhash_any s zs w hm hs hr)
  have hf := fnv_lt zs
  have hp := pl_lt (fnv zs) i sz (by omega)
  have hP := pl_int (fnv zs) i sz
  rw [Int.mul_comm (sz : Int) 8] at hP
  generalize pl (fnv zs) i sz = p at *
  generalize fnv zs = h at *
  clear hs hr
  go_enter Try.func27, Try.ntmps27
  go_wp2_with fail
  refine C1.out.mono ?_
  rintro e w1 ⟨rfl, rfl⟩
  go_wp2
  go_ret
  exact ⟨rfl, rfl⟩

theorem or_u8 (a b : Nat) (ha : a < 256) (hb : b < 256) : bits BinOp.or IntKind.u8 (a : Int) (b : Int) = ((a ||| b : Nat) : Int) := by
  have e : bits .or .u8 (a : Int) (b : Int) = IntKind.u8.wrap ((BitVec.ofInt 8 (a : Int) ||| BitVec.ofInt 8 (b : Int)).toNat : Int) := rfl
  rw [e, BitVec.toNat_or, show (BitVec.ofInt 8 (a : Int)).toNat = a by simp; omega, show (BitVec.ofInt 8 (b : Int)).toNat = b by simp; omega]
  have hlt : a ||| b < 2 ^ 8 := Nat.or_lt_two_pow ha hb
  simp [IntKind.wrap, IntKind.bits, IntKind.signed]
  omega
theorem and1_u8 (a : Nat) (ha : a < 256) : bits BinOp.and IntKind.u8 (a : Int) 1 = ((a % 2 : Nat) : Int) := by
  have e : bits .and .u8 (a : Int) 1 = IntKind.u8.wrap ((BitVec.ofInt 8 (a : Int) &&& BitVec.ofInt 8 1).toNat : Int) := rfl
  rw [e, BitVec.toNat_and, show (BitVec.ofInt 8 (a : Int)).toNat = a by simp; omega, show (BitVec.ofInt 8 1).toNat = 2 ^ 1 - 1 from rfl, Nat.and_two_pow_sub_one_eq_mod]
  simp [IntKind.wrap, IntKind.bits, IntKind.signed]
  omega

theorem Rw.add {w : World} {R D k sz N p : Nat} (h : Rw w R D k sz N) (hp : p / 8 < sz) : Rw (w.setCell ⟨D, p / 8, none⟩ (.int .u8 ((by8 N (p / 8) ||| 2 ^ (p % 8) : Nat) : Int))) R D k sz (N ||| 2 ^ p) :=
  ⟨h.head.other _ _ (Ne.symm h.ne), by rw [← bvb_set N p _ hp]; exact h.bits.set _ _, h.ne⟩
theorem pow_lt8 (p : Nat) : 2 ^ (p % 8) < 256 := Nat.lt_of_lt_of_le (Nat.pow_lt_pow_right (by decide) (Nat.mod_lt p (show 0 < 8 by decide))) (by decide)

theorem pow_int8 (p : Nat) : ((2 ^ (p % 8) : Nat) : Int) = (2 : Int) ^ (p % 8) % 256 := by
  have h := pow_lt8 p
  have e : ((2 ^ (p % 8) : Nat) : Int) = (2 : Int) ^ (p % 8) := by rw [Int.natCast_pow]; rfl
  rw [← e]
  generalize 2 ^ (p % 8) = q at *
  omega
set_option maxRecDepth 100000 in
set_option maxHeartbeats 1600000 in
theorem refadd_any (w : World) (R D k sz N : Nat) (h : Rw w R D k sz N) (hk : 1 ≤ k ∧ k ≤ 14) (hsz : 8 ≤ sz ∧ sz ≤ 25000) (s : ByteArray) (zs : List Int) (hm : s.size ≤ 9223372036854775807) (hs : Sz s zs) (hr : ∀ z ∈ zs, 0 ≤ z ∧ z < 256) :
    Calls Try.prog 16 #[.pointer (some ⟨R, 0, none⟩), .string s] w fun e w' => e = .returned (.tuple #[]) ∧ Rw w' R D k sz (addk (fnv zs) sz k N) ∧ Ch (fun b => b = D) w w' := by
  have HR := hide h
  have CP := hide (fun W cap ao i => fun hc hi => refplace_any W R i sz cap ao s zs hm hs hr hc hi hsz)
  clear h hs hr
  obtain ⟨H, hH⟩ : ∃ H, fnv zs = H := ⟨_, rfl⟩
  rw [hH] at CP ⊢
  clear hH
  go_enter Try.func16, Try.ntmps16
  go_wp2
  go_loopw [4] (fun u wr => ∃ i : Nat, u = .int .i64 i ∧ i ≤ k ∧ Hid (Rw wr R D k sz (addk H sz i N)) ∧ Hid (Ch (fun b => b = D) w wr)) (fun u _ => k - (intOf u).toNat)
  case atStart => exact ⟨0, rfl, by omega, HR, hide (Ch.of (Below.refl _ _))⟩
  case round =>
    obtain ⟨i, rfl, hi, hl, hcc⟩ := hrel
    have c0 : wr.cell? ⟨R, 0, none⟩ = some (.int .i64 k) := hl.out.head.cell rfl
    by_cases hlt : i < k
    · have c1 : wr.cell? ⟨R, 1, none⟩ = some (.slice (some ⟨D, 0, none⟩) sz sz) := hl.out.head.cell rfl
      have C3 := hide (CP.out wr sz (some ⟨D, 0, none⟩) i c1 (by omega))
      have hp := pl_lt H i sz (by omega)
      have HA : Hid (addk H sz (i + 1) N = addk H sz i N ||| 2 ^ pl H i sz) := hide rfl
      go_wp2_with fail
      refine C3.out.mono ?_
      rintro e w3 ⟨rfl, rfl⟩
      generalize pl H i sz = p at *
      have hp2 : p / 8 < sz := by omega
      have cD : w3.cell? ⟨D, p / 8, none⟩ = some (.int .u8 (by8 (addk H sz i N) (p / 8) : Nat)) := hl.out.bits.cell (bvb_get _ _ _ hp2)
      have fD : w3.frozen? ⟨D, p / 8, none⟩ = false := hl.out.bits.free _
      have hor := or_u8 (by8 (addk H sz i N) (p / 8)) (2 ^ (p % 8)) (by8_lt _ _) (pow_lt8 p)
      rw [pow_int8 p] at hor
      have HL4 := hide (hl.out.add hp2)
      have HNE := hide hl.out.ne
      generalize hX : by8 (addk H sz i N) (p / 8) = X at *
      generalize hZ : X ||| 2 ^ (p % 8) = Z at *
      clear hX hZ C3
      go_wp2
      go_region
      go_wp2
      go_round
      case rel => exact ⟨i + 1, by go_num, by omega, hide (by rw [HA.out]; exact HL4.out.keep (Below.refl _ _).drew), hide ((hcc.out.trans (Ch.set (P := fun b => b = D) w3 ⟨D, p / 8, none⟩ _ rfl)).trans (Ch.of (Below.refl _ _).drew))⟩
      case measure => simp [intOf]; omega
    · have h8 : i = k := by omega
      subst h8
      go_wp2
      go_end0
      exact ⟨rfl, hl.out, hcc.out⟩

theorem bit_int (N p : Nat) : bits BinOp.and IntKind.u8 ((by8 N (p / 8) : Int) / 2 ^ (p % 8)) 1 = (((N.testBit p).toNat : Nat) : Int) := by
  have e : ((by8 N (p / 8) : Nat) : Int) / 2 ^ (p % 8) = ((by8 N (p / 8) / 2 ^ (p % 8) : Nat) : Int) := by rw [Int.natCast_ediv, Int.natCast_pow]; rfl
  rw [e, and1_u8 _ (Nat.lt_of_le_of_lt (Nat.div_le_self _ _) (by8_lt _ _)), by8_test]

set_option maxRecDepth 100000 in
set_option maxHeartbeats 1600000 in
theorem refhas_any (w : World) (R cap k sz N : Nat) (ao : Option Addr) (h : Rf w R ao cap k sz N) (hk : 1 ≤ k ∧ k ≤ 14) (hsz : 8 ≤ sz ∧ sz ≤ 25000) (s : ByteArray) (zs : List Int) (hm : s.size ≤ 9223372036854775807) (hs : Sz s zs) (hr : ∀ z ∈ zs, 0 ≤ z ∧ z < 256) :
    Calls Try.prog 18 #[.pointer (some ⟨R, 0, none⟩), .string s] w fun e w' => e = .returned (.bool (hask (fnv zs) sz k N)) ∧ w' = w := by
  obtain ⟨b, off, rfl, hcell⟩ := h.bits.2.2.2 (by omega)
  have HC : Hid (∀ i, i < sz → w.cell? ⟨b, off + i, none⟩ = some (.int .u8 (by8 N i : Nat))) := hide fun i hi => by rw [hcell i hi, bys_get _ _ _ hi]
  have hcap := h.bits.2.1.1
  have c0 : w.cell? ⟨R, 0, none⟩ = some (.int .i64 k) := h.head.cell rfl
  have c1 : w.cell? ⟨R, 1, none⟩ = some (.slice (some ⟨b, off, none⟩) sz cap) := h.head.cell rfl
  have CP := hide (fun i => fun hi => refplace_any w R i sz cap (some ⟨b, off, none⟩) s zs hm hs hr c1 hi hsz)
  clear h hs hr hcell
  obtain ⟨H, hH⟩ : ∃ H, fnv zs = H := ⟨_, rfl⟩
  rw [hH] at CP ⊢
  clear hH
  go_enter Try.func18, Try.ntmps18
  go_wp2
  go_loopw [5] (fun u wr => ∃ i : Nat, u = .int .i64 i ∧ i ≤ k ∧ Hid (hask H sz i N = true) ∧ wr = w) (fun u _ => k - (intOf u).toNat)
  case atStart => exact ⟨0, rfl, by omega, hide rfl, rfl⟩
  case round =>
    obtain ⟨i, rfl, hi, hl, rfl⟩ := hrel
    by_cases hlt : i < k
    · have C3 := hide (CP.out i (by omega))
      have hp := pl_lt H i sz (by omega)
      have HA : Hid (N.testBit (pl H i sz) = true → hask H sz (i + 1) N = true) := hide fun e => by
        show (hask H sz i N && N.testBit (pl H i sz)) = true
        rw [hl.out, e]; rfl
      have HB : Hid (N.testBit (pl H i sz) = false → hask H sz k N = false) := hide fun e => hask_no hlt e
      go_wp2_with fail
      refine C3.out.mono ?_
      rintro e w3 ⟨rfl, rfl⟩
      generalize pl H i sz = p at *
      have hp2 : p / 8 < sz := by omega
      have cD := HC.out (p / 8) hp2
      have hand := bit_int N p
      have hX := by8_lt N (p / 8)
      cases hbit : N.testBit p with
      | true =>
        rw [hbit] at hand
        simp only [Bool.toNat_true] at hand
        have HA1 := hide (HA.out hbit)
        generalize by8 N (p / 8) = X at *
        clear hp C3 HA HB hbit
        go_wp2
        go_round
        case rel => exact ⟨i + 1, by go_num, by omega, HA1, trivial⟩
        case measure => simp [intOf]; omega
      | false =>
        rw [hbit] at hand
        simp only [Bool.toNat_false] at hand
        have HA1 := hide (HB.out hbit)
        generalize by8 N (p / 8) = X at *
        clear hp C3 HA HB hbit
        go_wp2
        go_ret
        exact ⟨by rw [HA1.out]; rfl, rfl⟩
    · have h8 : i = k := by omega
      subst h8
      go_wp2
      go_ret
      exact ⟨by rw [hl.out]; rfl, rfl⟩

set_option maxRecDepth 100000 in
set_option maxHeartbeats 1600000 in
theorem lawones_any (w : World) (ao : Option Addr) (cap sz N : Nat) (h : Bs w ao sz cap (bys N sz)) (hsz : sz ≤ 25000) :
    Calls Try.prog 19 #[.slice ao sz cap] w fun e w' => e = .returned (.int .i64 (pc (8 * sz) N : Nat)) ∧ w' = w := by
  have HC : Hid (0 < sz → ∃ b off, ao = some ⟨b, off, none⟩ ∧ ∀ i, i < sz → w.cell? ⟨b, off + i, none⟩ = some (.int .u8 (by8 N i : Nat))) := hide fun h0 => by
    obtain ⟨b, off, e, hcell⟩ := h.2.2.2 h0
    exact ⟨b, off, e, fun i hi => by rw [hcell i hi, bys_get _ _ _ hi]⟩
  have hcap := h.2.1.1
  clear h
  go_enter Try.func19, Try.ntmps19
  go_wp2
  go_loopw [3, 4] (fun v u wr => ∃ i : Nat, u = .int .i64 i ∧ i ≤ sz ∧ v = .int .i64 (pc (8 * i) N : Nat) ∧ wr = w) (fun _ u _ => sz - (intOf u).toNat)
  case atStart => exact ⟨0, rfl, by omega, rfl, rfl⟩
  case round =>
    obtain ⟨i, rfl, hi, rfl, rfl⟩ := hrel
    by_cases hlt : i < sz
    · obtain ⟨b, off, rfl, hcell⟩ := HC.out (by omega)
      have cD := hcell i hlt
      have hX := by8_lt N i
      have HB : Hid (∀ t : Nat, t < 8 → bits BinOp.and IntKind.u8 ((by8 N i : Int) / 2 ^ t) 1 = (((N.testBit (8 * i + t)).toNat : Nat) : Int)) := hide fun t ht => by
        have := bit_int N (8 * i + t)
        rwa [show (8 * i + t) / 8 = i by omega, show (8 * i + t) % 8 = t by omega] at this
      have HE : Hid (∀ t, pc (8 * i + (t + 1)) N = pc (8 * i + t) N + (N.testBit (8 * i + t)).toNat) := hide fun t => rfl
      clear hcell
      generalize by8 N i = X at *
      go_wp2
      go_loopw [3, 5] (fun v u wr' => ∃ t : Nat, u = .int .i64 t ∧ t ≤ 8 ∧ v = .int .i64 (pc (8 * i + t) N : Nat) ∧ wr' = wr) (fun _ u _ => 8 - (intOf u).toNat)
      case atStart => exact ⟨0, rfl, by omega, rfl, rfl⟩
      case round =>
        obtain ⟨t, rfl, ht, rfl, rfl⟩ := hrel
        by_cases ht8 : t < 8
        · have hand := HB.out t ht8
          have hE := HE.out t
          have hb1 := pc_le (8 * i + t) N
          have hb2 : (N.testBit (8 * i + t)).toNat ≤ 1 := Bool.toNat_le _
          have HE1 := hide hE
          clear hE
          generalize (N.testBit (8 * i + t)).toNat = y at *
          generalize pc (8 * i + t) N = a at *
          go_wp2
          go_round
          case rel => exact ⟨t + 1, by go_num, by omega, by rw [HE1.out]; go_num, trivial⟩
          case measure => simp [intOf]; omega
        · have h8 : t = 8 := by omega
          subst h8
          go_wp2
          go_round
          case rel => exact ⟨i + 1, by go_num, by omega, by rw [show 8 * (i + 1) = 8 * i + 8 by omega], trivial⟩
          case measure => simp [intOf]; omega
    · have h8 : i = sz := by omega
      subst h8
      go_wp2
      go_ret
      exact ⟨rfl, rfl⟩

end Go.Proofs.Ytjphnflahpcaiaa.Clep
