/- What sum.Seal, sum.told and sum.Open do when called (walks over the translated program): for any bytes of at most 2^46. -/
import Derived.Test.YtgopcaemgcnapaaSum
namespace Go.Proofs.Ytgopcaemgcnapaa.Clep
open Go.RowKit
set_option linter.unusedVariables false
set_option maxRecDepth 10000

set_option maxHeartbeats 400000 in
theorem seal_any (ao : Option Addr) (len cap : Nat) (zs : List Int) (w : World) (hm : len ≤ 70368744177664) (h : Bs w ao len cap zs) :
    Calls Try.prog 53 #[.slice ao len cap] w fun e w' => ∃ v, e = .returned v ∧ Own w' w.heap.size v (sl zs) ∧ Below w.heap.size w w' := by
  obtain ⟨i0, hi, hz0, hz1, hz2⟩ := info_parts info5
  have hcs := hide (bs_cells h)
  have hnl := hide h.2.1.2
  have hzl := hide h.1
  have hC := crc_lt zs (bs_range h)
  have H := hide h
  clear h
  go_enter Try.func53, Try.ntmps53
  go_wp2_with (first
    | (at_make; refine wpList_make_own _ rfl _ _ 35 rfl w.heap.size 5 i0 (.int .u8 0) 1 Try.underlying35 hi hz0 hz1 .i64 .i64 _ (len + 4) rfl rfl ?c1 ?c2 ?c3 ?c4 ?_)
    | fail)
  case c1 => omega
  case c2 => rw [hz2]; omega
  case c3 => unfold maxLen; omega
  case c4 => exact Nat.le_refl _
  intro w1 hown hg
  have hb1 : Hid (Below w.heap.size w w1) := hide ((Below.refl _ _).grown hg (Nat.le_refl _) (fun k hk => by cases hk))
  have HG := hide hg
  clear hg
  go_wp2_with (first
    | (at_builtin; refine wpList_append_fits_any _ rfl (.tmp 10) (.tmp 11) 35 rfl w.heap.size 5 i0 1 Try.underlying35 hi hz1 w.heap.size 0 (len + 4) [] rfl hown ao len cap (bv zs) rfl ?d1 ?d2 ?d3 ?d4 ?d5 ?_)
    | fail)
  case d1 => rw [bv_len, hzl.out]; omega
  case d2 => exact hnl.out
  case d3 =>
    intro ad had j u hu
    exact HG.out.cell (hcs.out ad had j u hu) (by intro h; cases h)
  case d4 => exact bv_one zs
  case d5 => omega
  intro w2 hown2 hg2
  have hb2 := hide (hb1.out.grown hg2 hb1.out.size (fun k hk => by cases hk; exact Nat.le_refl _))
  have HO := hide (show Own w2 w.heap.size (.slice (some ⟨w.heap.size, 0, none⟩) (0 + len) (len + 4)) zs by
    unfold Own; rw [hzl.out]; simpa using hown2)
  clear hg2 hown2 hown
  go_wp2_with fail
  refine (of_any ao len cap zs w2 (by omega) (H.out.below hb2.out (Nat.le_refl _))).mono ?_
  rintro e w3 ⟨rfl, rfl⟩
  have HS := hide (show sl zs = zs ++ le4 (crc zs) 4 from rfl)
  generalize hcc : crc zs = C at *
  clear hcc
  go_wp2_with fail
  go_loopw [3, 15] (fun u i wr => ∃ k : Nat, k ≤ 4 ∧ i = .int .i64 k ∧ Hid (Own wr w.heap.size u (zs ++ le4 C k)) ∧ Hid (Below w.heap.size w wr)) (fun _ i _ => 4 - (intOf i).toNat)
  case atStart => exact ⟨0, by omega, rfl, hide (by simpa [le4] using HO.out), hb2⟩
  case round =>
    obtain ⟨k, hk, rfl, hown, hbel⟩ := hrel
    have hsz := hide hbel.out.size
    have hll : (zs ++ le4 C k).length = len + k := by rw [List.length_append, hzl.out, le4_len]
    by_cases hlt : k < 4
    · go_wp2_with (first
        | (at_builtin; refine wpList_append_own _ rfl (.tmp 18) (.tmp 24) 35 rfl w.heap.size 5 i0 (.int .u8 0) 1 1 Try.underlying35 hi hz0 hz1 hz2 rfl (by decide) _ _ _ rfl (hown.out.alloc _) ⟨wr.heap.size, 0, none⟩ 1 1 [.int .u8 ((C : Int) / 2 ^ (8 * k) % 256)] rfl rfl ?c1 ?c2 ?c3 ?c4 ?c5 ?_)
        | fail)
      case c1 => exact cell_one_new _ _ _
      case c2 => intro u hu; simp at hu; subst hu; rfl
      case c3 => unfold maxLen; omega
      case c4 => omega
      case c5 => have := hsz.out; simp; omega
      intro v' w2 hown' hgrow _
      have HW := hide hown'
      have HW2 := hide hgrow
      clear hown' hgrow
      go_wp2
      go_roundw
      case rel => exact ⟨k + 1, by omega, by go_num, hide (by rw [le4_succ, ← List.append_assoc]; exact own_snoc (by rw [hll]; exact (show w2.ownsRow w.heap.size 5 1 v' (len + k + 1) (bv (zs ++ le4 C k) ++ [Value.int IntKind.u8 ((C : Int) / 2 ^ (8 * k) % 256)]) from HW.out))), hide (below_step hbel.out hsz.out hown.out HW2.out)⟩
      case measure => simp [intOf]; omega
    · have h8 : k = 4 := by omega
      subst h8
      go_wp2
      go_ret
      exact ⟨_, rfl, by rw [HS.out]; exact hown.out, hbel.out⟩

theorem nn_take (zs : List Int) (k : Nat) (h : k < zs.length) : nn (zs.take (k + 1)) = 2 ^ (8 * k) * (zs.getD k 0).toNat + nn (zs.take k) := by
  rw [List.take_succ_eq_append_getElem h, nn_append]
  simp only [nn, List.length_take, Nat.min_eq_left (Nat.le_of_lt h), List.getD, List.getElem?_eq_getElem h, Option.getD_some]
  simp
theorem told_bits (N k : Nat) (z : Int) (hk : k < 4) (hN : N < 2 ^ (8 * k)) (hz : 0 ≤ z ∧ z < 256) :
    bits BinOp.or IntKind.u32 (N : Int) (z * 2 ^ (8 * k) % 4294967296) = ((2 ^ (8 * k) * z.toNat + N : Nat) : Int) := by
  obtain ⟨Z, rfl⟩ := Int.eq_ofNat_of_zero_le hz.1
  have hp : (2 : Nat) ^ (8 * k) ≤ 2 ^ 24 := Nat.pow_le_pow_right (by omega) (by omega)
  have hd : Z * 2 ^ (8 * k) ≤ 255 * 2 ^ 24 := Nat.mul_le_mul (by omega) hp
  rw [show (Z : Int) * 2 ^ (8 * k) = ((Z * 2 ^ (8 * k) : Nat) : Int) from by push_cast; rfl]
  rw [show ((Z * 2 ^ (8 * k) : Nat) : Int) % 4294967296 = ((Z * 2 ^ (8 * k) : Nat) : Int) from by omega, u32_or_nat _ _ (by omega) (by omega), Nat.or_comm, nat_join (8 * k) _ _ (Nat.mul_mod_left _ _) hN]
  simp only [Int.toNat_natCast]
  rw [Nat.mul_comm]

theorem told_any (ao : Option Addr) (len cap : Nat) (zs : List Int) (w : World) (hm : len ≤ 4) (h : Bs w ao len cap zs) :
    Calls Try.prog 74 #[.slice ao len cap] w fun e w' => e = .returned (.int .u32 (nn zs : Nat)) ∧ w' = w := by
  have hz := hide h.2.2.1
  have hr := hide (bs_range h)
  have hl := hide h.1
  have hc4 := hide h.2.2.2
  clear h
  go_enter Try.func74, Try.ntmps74
  go_wp2
  go_loop [3, 8] (fun v i => ∃ k C : Nat, k ≤ len ∧ i = .int .i64 k ∧ v = .int .u32 C ∧ Hid (C = nn (zs.take k))) (fun _ i => len - (intOf i).toNat)
  case atStart => exact ⟨0, 0, by omega, rfl, rfl, hide (by simp [nn])⟩
  case round =>
    obtain ⟨k, C, hk, rfl, rfl, hT⟩ := hrel
    by_cases hlt : k < len
    · obtain ⟨b, off, rfl, hcell⟩ := hc4.out (by omega)
      have hck := hcell k hlt
      have hzk := hz.out k
      have hC : C < 2 ^ (8 * k) := by
        have := nn_lt (zs.take k) (ByteL.take hr.out k)
        rwa [← hT.out, List.length_take, Nat.min_eq_left (by rw [hl.out]; omega)] at this
      have hC2 : C < 4294967296 := Nat.lt_of_lt_of_le hC (show 2 ^ (8 * k) ≤ 2 ^ 32 from Nat.pow_le_pow_right (by omega) (by omega))
      have HB := hide (told_bits C k (zs.getD k 0) (by omega) hC hzk)
      have HN := hide (show (2 ^ (8 * k) * (zs.getD k 0).toNat + C : Nat) = nn (zs.take (k + 1)) by rw [nn_take zs k (by rw [hl.out]; exact hlt), ← hT.out])
      generalize zs.getD k 0 = z at *
      clear hcell hC
      go_wp2
      go_round
      case rel => exact ⟨k + 1, _, by omega, by go_num, by rw [← HB.out], HN⟩
      case measure => simp [intOf]; omega
    · have h8 : k = len := by omega
      subst h8
      have hT' := hide (show C = nn zs from by have := hT.out; rwa [List.take_of_length_le (by rw [hl.out]; exact Nat.le_refl _)] at this)
      go_wp2
      go_ret
      exact ⟨by rw [← hT'.out]; rfl, rfl⟩

theorem Bs.takeAt {w : World} {b off len cap : Nat} {zs : List Int} (h : Bs w (some ⟨b, off, none⟩) len cap zs) (k : Nat) (hk : k ≤ len) : Bs w (some ⟨b, off, none⟩) k cap (zs.take k) := h.take k hk (by simp)

theorem open_short (ao : Option Addr) (len cap : Nat) (w : World) (hm : len < 4) :
    Calls Try.prog 70 #[.slice ao len cap] w fun e w' => e = .returned (.tuple #[.slice none 0 0, .int .i64 4]) ∧ w' = w := by
  go_enter Try.func70, Try.ntmps70
  go_wp2
  go_ret2
  exact ⟨rfl, rfl⟩

set_option maxHeartbeats 400000 in
theorem open_long (b off len cap : Nat) (zs : List Int) (w : World) (n : Nat) (hn : len = n + 4) (hm : len ≤ 70368744177664) (h : Bs w (some ⟨b, off, none⟩) len cap zs) :
    Calls Try.prog 70 #[.slice (some ⟨b, off, none⟩) len cap] w fun e w' => Below w.heap.size w w' ∧
      ((good zs n ∧ ∃ v, e = .returned (.tuple #[v, .int .i64 0]) ∧ Own w' w.heap.size v (zs.take n)) ∨ (¬ good zs n ∧ e = .returned (.tuple #[.slice none 0 0, .int .i64 5]))) := by
  obtain ⟨i0, hi, hz0, hz1, hz2⟩ := info_parts info5
  have hcap := h.2.1.1
  have hgd : good zs n ↔ nn (zs.drop n) = crc (zs.take n) := Iff.rfl
  have HG := hide hgd
  clear hgd
  have ht : ∀ p : Kp w, Bs p.W (some ⟨b, off, none⟩) n cap (zs.take n) := fun p => (h.takeAt n (by omega)).below p.h (Nat.le_refl _)
  have cO : Hid (∀ p : Kp w, Calls Try.prog 67 #[.slice (some ⟨b, off, none⟩) n cap] p.W fun e w'' => e = .returned (.int .u32 (crc (zs.take n) : Nat)) ∧ ∃ q : Kp w, w'' = q.W) := hide fun p => kp_same (of_any _ n cap (zs.take n) p.W (by omega) (ht p))
  have cT : Hid (∀ p : Kp w, Calls Try.prog 74 #[.slice (some ⟨b, off + n, none⟩) 4 (cap - n)] p.W fun e w'' => e = .returned (.int .u32 (nn (zs.drop n) : Nat)) ∧ ∃ q : Kp w, w'' = q.W) := hide fun p => kp_same
    (told_any _ 4 (cap - n) (zs.drop n) p.W (by omega) (by have := (h.below p.h (Nat.le_refl _)).dropAt n (by omega); rwa [show len - n = 4 from by omega] at this))
  have hcs := hide (fun (p : Kp w) => bs_cells (ht p))
  have hlen : (zs.take n).length = n := by rw [List.length_take, h.1]; omega
  have HL := hide hlen
  have hne : Nonempty (Kp w) := ⟨⟨w, Below.refl _ _⟩⟩
  generalize zs.take n = ys at *
  generalize nn (zs.drop n) = A at *
  generalize crc ys = C at *
  clear h ht hlen
  go_enter Try.func70, Try.ntmps70
  go_wp2_with fail
  refine wp_region_kept (by kernel_rfl) (by kernel_rfl) ?_
  repeat (first
    | go_big_quiet_step (first | (go_at_call 74; exact cT.out _) | (go_at_call 67; exact cO.out _))
    | fail)
  refine wpQuiet_nil ?_
  intro w1 hw'
  have HB : Hid (Below w.heap.size w w1) := by
    obtain ⟨⟨w3', hb3⟩, hw''⟩ := hw'
    rw [hw'']; exact hb3
  have HK := hide (hcs.out ⟨w1, HB.out⟩)
  clear hw' hne cT cO hcs
  by_cases hg : A = C
  · have hb : ((A : Int) == (C : Int)) = true := by simp [hg]
    have HG2 := hide (HG.out.2 hg)
    clear hg HG
    go_wp2_with (first
      | (at_builtin; refine wpList_append_own _ rfl _ _ 35 rfl w.heap.size 5 i0 (.int .u8 0) 1 1 Try.underlying35 hi hz0 hz1 hz2 rfl (by decide) _ _ _ rfl (World.ownsRow_nil _ _ _ _) ⟨b, off, none⟩ n cap (bv ys) rfl ?c0 ?c1 ?c2 ?c3 ?c4 ?c5 ?_)
      | fail)
    case c0 => rw [bv_len, HL.out]
    case c1 => intro j u hu; have := HK.out _ rfl j u hu; rwa [add_plain] at this
    case c2 => exact bv_one ys
    case c3 => unfold maxLen; omega
    case c4 => omega
    case c5 => exact HB.out.size
    intro v' w2 hown' hgrow _
    have HW := hide hown'
    have HW2 := hide (HB.out.grown hgrow HB.out.size (fun k hk => by cases hk))
    clear hown' hgrow
    go_wp2
    go_ret2
    refine ⟨HW2.out, .inl ⟨HG2.out, v', rfl, ?_⟩⟩
    have := HW.out
    unfold Own
    rw [HL.out]
    simpa using this
  · have hb : ((A : Int) == (C : Int)) = false := by simp; omega
    have HG2 := hide (fun h => hg (HG.out.1 h))
    clear hg HG
    go_wp2
    go_ret2
    exact ⟨HB.out, .inr ⟨HG2.out, rfl⟩⟩

end Go.Proofs.Ytgopcaemgcnapaa.Clep
