/- SumBursts, walked: it answers true. For any text, any burst. -/
import Derived.Test.YtfcakghegdaeoaaBitsWalk
namespace Go.Proofs.Ytfcakghegdaeoaa.Clep
open Go.RowKit
set_option linter.unusedVariables false

/-- How it stands behind m bits of a burst. -/
def BurSt (w : World) (g c1 L : Nat) (s0 : List Int) (K m : Nat) (b : Bool) (wr : World) : Prop :=
  (∃ ys e, Own wr w.heap.size (.slice (some ⟨g, 0, none⟩) L c1) ys ∧ ys.length = L ∧ ByteL ys ∧ nn ys = nn s0 ^^^ 2 ^ K * e ∧ e < 2 ^ m ∧ (b = true ↔ e ≠ 0)) ∧ Below w.heap.size w wr

theorem burst_skip {w wr : World} {g c1 L : Nat} {s0 : List Int} {K m : Nat} {b : Bool} (h : BurSt w g c1 L s0 K m b wr) : BurSt w g c1 L s0 K (m + 1) b wr := by
  obtain ⟨⟨ys, e, h1, h2, h3, h4, h5, h6⟩, hb⟩ := h
  exact ⟨⟨ys, e, h1, h2, h3, h4, by rw [Nat.pow_succ]; omega, h6⟩, hb⟩
theorem burst_step {w wr : World} {g c1 L : Nat} {s0 : List Int} {K m : Nat} {ys : List Int} {e : Nat} (hown : wr.ownsRow w.heap.size 5 1 (.slice (some ⟨g, 0, none⟩) L c1) L (bv ys)) (hyl : ys.length = L) (hyb : ByteL ys)
    (hyn : nn ys = nn s0 ^^^ 2 ^ K * e) (he : e < 2 ^ m) (hbel : Below w.heap.size w wr) (P : Nat) (hP : P = K + m) (hPl : P < 8 * L) :
    BurSt w g c1 L s0 K (m + 1) true ((wr.setCell ⟨g, P / 8, none⟩ (.int .u8 (bits BinOp.xor IntKind.u8 (ys.getD (P / 8) 0) (2 ^ (P % 8) % 256)))).drew) := by
  obtain ⟨h1, h2⟩ := hown.stored (P / 8) (.int .u8 (bits BinOp.xor IntKind.u8 (ys.getD (P / 8) 0) (2 ^ (P % 8) % 256)))
  rw [bv_flip ys P hyb] at h1
  have hpp : 2 ^ m * 1 ^^^ e = 2 ^ m * 1 + e := xor_join m 1 e he
  have hpos : 0 < 2 ^ m := Nat.two_pow_pos m
  refine ⟨⟨flip ys P, 2 ^ m + e, ?_, by rw [flip_len, hyl], flip_range ys P hyb, ?_, by rw [Nat.pow_succ]; omega, by simp⟩, ?_⟩
  · unfold Own
    rw [flip_len, hyl]
    exact h1.drew
  · rw [nn_flip ys P hyb (by rw [hyl]; exact hPl), hyn, Nat.xor_assoc]
    congr 1
    rw [show 2 ^ m + e = e ^^^ 2 ^ m from by rw [Nat.mul_one] at hpp; rw [← hpp, Nat.xor_comm], hP, Nat.pow_add]
    have := Nat.shiftLeft_xor_distrib (a := e) (b := 2 ^ m) (i := K)
    simp only [Nat.shiftLeft_eq] at this
    rw [Nat.mul_comm (2 ^ K) (e ^^^ 2 ^ m), this, Nat.mul_comm e, Nat.mul_comm (2 ^ m)]
  · exact (hbel.grown h2 hbel.size (fun k hk => by cases hk; exact (World.ownsRow.lt hown g rfl).1)).drew
theorem u32_bit (X m : Nat) (hX : X < 4294967296) : bits BinOp.and IntKind.u32 ((X : Int) / 2 ^ m) 1 = ((X / 2 ^ m % 2 : Nat) : Int) := by
  have hq : X / 2 ^ m < 4294967296 := Nat.lt_of_le_of_lt (Nat.div_le_self _ _) hX
  rw [show (X : Int) / 2 ^ m = ((X / 2 ^ m : Nat) : Int) from by push_cast; rfl]
  exact u32_low _ hq
theorem burst_final (zs ys : List Int) (n K e : Nat) (hz : ByteL zs) (hn : zs.length = n) (hyl : ys.length = n + 4) (hyb : ByteL ys) (hK : K < 8 * (n + 4)) (hyn : nn ys = nn (sl zs) ^^^ 2 ^ K * e) (he : e < 2 ^ 32) :
    (e = 0 ∧ ys = sl zs) ∨ (e ≠ 0 ∧ ¬ good ys n) := by
  subst hn
  have hgt := good_turn (sl zs) ys zs.length _ (sl_range zs hz) hyb (sl_len zs) hyl (good_sl zs hz) hyn
  by_cases h0 : e = 0
  · left
    refine ⟨h0, ?_⟩
    rw [h0, Nat.mul_zero, Nat.xor_zero] at hyn
    exact nn_inj _ _ (by rw [hyl, sl_len]) hyb (sl_range zs hz) hyn
  · right
    exact ⟨h0, fun g => burst_found _ K e (by omega) he h0 (hgt.1 g)⟩

set_option maxHeartbeats 800000 in
theorem bursts_core (a0 : Option Addr) (len cap : Nat) (zs : List Int) (at' : Int) (X : Nat) (w : World) (hX : X < 4294967296) (hl : len ≤ 3000) (h : Bs w a0 len cap zs) :
    Calls Try.prog 5 #[.slice a0 len cap, .int .i64 at', .int .u32 X] w fun e w' => e = .returned (.bool true) ∧ Below w.heap.size w w' := by
  have H := hide h
  have hzl := hide h.1
  have hzr : Hid (ByteL zs) := hide (bs_range h)
  have hsl : Hid ((sl zs).length = len + 4) := hide (by rw [sl_len, h.1])
  obtain ⟨K, hK, hKl⟩ := place_of at' 16777215 (by omega) (8 * ((len : Int) + 4)) (8 * (len + 4)) (by omega) (by omega)
  have hK : (bits BinOp.and IntKind.i64 at' 16777215).tmod (8 * ((len : Int) + 4)) = (K : Int) := hK
  clear h
  go_enter Try.func5, Try.ntmps5
  go_wp2_with fail
  refine (seal_any a0 len cap zs w (by omega) H.out).mono ?_
  rintro e w1 ⟨v1, rfl, ho1, hb1⟩
  obtain ⟨g, c1, rfl, hc1, hc1', hbs1⟩ := own_at ho1 (sl_range zs hzr.out) (len + 4) hsl.out (by omega)
  have hst : Hid (BurSt w g c1 (len + 4) (sl zs) K 0 false w1) := hide ⟨⟨sl zs, 0, ho1, hsl.out, sl_range zs hzr.out, by simp, by simp, by simp⟩, hb1⟩
  clear hb1 hbs1 ho1
  go_wp2_with fail
  go_loopw [9, 10] (fun t i wr => ∃ (I : Nat) (b : Bool), I ≤ 32 ∧ i = .int .i64 I ∧ t = .bool b ∧ Hid (BurSt w g c1 (len + 4) (sl zs) K I b wr)) (fun _ i _ => 32 - (intOf i).toNat)
  case atStart => exact ⟨0, false, by omega, rfl, rfl, hst⟩
  case round =>
    obtain ⟨I, b, hI, rfl, rfl, hS⟩ := hrel
    by_cases hlt : I < 32
    · have hbt := u32_bit X I hX
      by_cases hbit : X / 2 ^ I % 2 = 1
      · rw [hbit] at hbt
        clear hbit
        by_cases hin : K + I < 8 * (len + 4)
        · obtain ⟨⟨ys, e, hys, hyl, hyb, hyn, hye, hyx⟩, hbel⟩ := hS.out
          have hys' : wr.ownsRow w.heap.size 5 1 (.slice (some ⟨g, 0, none⟩) (len + 4) c1) (len + 4) (bv ys) := by
            have := hys
            unfold Own at this
            rwa [hyl] at this
          obtain ⟨z, hz⟩ : ∃ z, z = ys.getD ((K + I) / 8) 0 := ⟨_, rfl⟩
          have hcz : wr.cell? ⟨g, (K + I) / 8, none⟩ = some (.int .u8 z) := by
            have := hys'.cellAt ((K + I) / 8) (by omega)
            rw [this, hz]
            simp [bv, List.getD, List.getElem?_eq_getElem (show (K + I) / 8 < ys.length by omega)]
          have hfz := hys'.frozenAt ((K + I) / 8)
          have HN := hide (burst_step hys' hyl hyb hyn hye hbel (K + I) rfl hin)
          rw [← hz] at HN
          clear hys hys' hyl hyb hyn hye hyx hbel hz
          go_wp2_with fail
          go_region
          go_wp2
          go_roundw
          case rel => exact ⟨I + 1, true, by omega, by go_num, rfl, HN⟩
          case measure => simp [intOf]; omega
        · have HN := hide (burst_skip hS.out)
          go_wp2
          go_roundw
          case rel => exact ⟨I + 1, b, by omega, by go_num, rfl, HN⟩
          case measure => simp [intOf]; omega
      · rw [show X / 2 ^ I % 2 = 0 from by omega] at hbt
        clear hbit
        have HN := hide (burst_skip hS.out)
        go_wp2
        go_roundw
        case rel => exact ⟨I + 1, b, by omega, by go_num, rfl, HN⟩
        case measure => simp [intOf]; omega
    · have hI32 : I = 32 := by omega
      subst hI32
      obtain ⟨⟨ys, e, hys, hyl, hyb, hyn, hye, hyx⟩, hbel⟩ := hS.out
      have hfin := burst_final zs ys len K e hzr.out hzl.out hyl hyb hKl hyn hye
      obtain ⟨_, _, hv, _, _, hbs⟩ := own_at hys hyb (len + 4) hyl (by omega)
      cases hv
      have HBL := hide hbel
      have KS := hide hbs
      clear hys hyl hyn hbel hS hbs hst hyb hye
      rcases hfin with ⟨he, hs⟩ | ⟨hne, hng⟩
      · subst hs
        have hb0 : b = false := by cases b <;> simp_all
        subst hb0
        clear hyx he
        go_wp2_with fail
        refine (open_seal g 0 (len + 4) c1 zs wr hzr.out (by rw [hzl.out]) (by omega) KS.out).mono ?_
        rintro e w4 ⟨v, rfl, ho, hb⟩
        have HB4 := hide (HBL.out.trans (hb.mono HBL.out.size))
        clear hb ho
        go_wp2_with fail
        refine (awake_any _).mono ?_
        rintro e w5 ⟨rfl, hb⟩
        have HB6 := hide (HB4.out.trans (hb.mono HB4.out.size))
        clear hb
        go_wp2
        go_ret
        exact ⟨rfl, HB6.out⟩
      · have hb0 : b = true := hyx.2 hne
        subst hb0
        have HNG := hide hng
        clear hne hng hyx
        go_wp2_with fail
        refine (open_long g 0 (len + 4) c1 ys wr len rfl (by omega) KS.out).mono ?_
        rintro e w4 ⟨hb, ⟨hgd, _⟩ | ⟨_, rfl⟩⟩
        · exact absurd hgd HNG.out
        have HB4 := hide (HBL.out.trans (hb.mono HBL.out.size))
        clear hb
        go_wp2_with fail
        refine (awake_any _).mono ?_
        rintro e w5 ⟨rfl, hb⟩
        have HB6 := hide (HB4.out.trans (hb.mono HB4.out.size))
        clear hb
        go_wp2
        go_ret
        exact ⟨rfl, HB6.out⟩

theorem bursts_long (a0 : Option Addr) (len cap : Nat) (at' x : Int) (w : World) (hl : 3000 < len) (hm : len ≤ 9223372036854775807) :
    Calls Try.prog 5 #[.slice a0 len cap, .int .i64 at', .int .u32 x] w fun e w' => e = .returned (.bool true) ∧ Below w.heap.size w w' := by
  go_enter Try.func5, Try.ntmps5
  go_wp2_with fail
  refine (awake_any _).mono ?_
  rintro e w1 ⟨rfl, hb⟩
  have HB := hide hb
  clear hb
  go_wp2
  go_ret
  exact ⟨rfl, HB.out⟩

theorem u32_bounds2 {n : Int} (h : (Lit.int .u32 n).wf = true) : 0 ≤ n ∧ n < 4294967296 := by
  simp [Lit.wf, IntKind.min, IntKind.max, IntKind.signed, IntKind.bits] at h
  omega
theorem bursts_walk (a0 : Option Addr) (len cap : Nat) (zs : List Int) (at' x : Int) (w : World) (h : Bs w a0 len cap zs ∧ len ≤ 9223372036854775807) (w2 : (Lit.int .u32 x).wf = true) :
    Calls Try.prog 5 #[.slice a0 len cap, .int .i64 at', .int .u32 x] w fun e w' => e = .returned (.bool true) ∧ Below w.heap.size w w' := by
  have hx := u32_bounds2 w2
  rcases Nat.lt_or_ge 3000 len with hl | hl
  · exact bursts_long a0 len cap at' x w hl h.2
  · obtain ⟨X, rfl⟩ := Int.eq_ofNat_of_zero_le hx.1
    exact bursts_core a0 len cap zs at' X w (by omega) hl h.1

end Go.Proofs.Ytfcakghegdaeoaa.Clep
