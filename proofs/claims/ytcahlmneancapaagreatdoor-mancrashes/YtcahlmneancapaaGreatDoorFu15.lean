/- What sum.Seal, sum.told and sum.Open do when called (walks over the translated program): for any bytes of at most 2^46. -/
import Derived.Test.YtcahlmneancapaaGreatDoorFu14
import Derived.Lib.SlBytesConst
import Derived.Test.YtcahlmneancapaaGreatDoorFu00
import Derived.Test.YtcahlmneancapaaGreatDoorFu02
import Derived.BigRegion
namespace Go.Proofs.YtcahlmneancapaaGreatDoor.Clep
open Go.RowKit
set_option linter.unusedVariables false
set_option maxRecDepth 10000

set_option maxHeartbeats 400000 in
theorem seal_any (ao : Option Addr) (len cap : Nat) (zs : List Int) (w : World) (hm : len ≤ 70368744177664) (h : Bs w ao len cap zs) :
    Calls Tryz.prog 105 #[.slice ao len cap] w fun e w' => ∃ v, e = .returned v ∧ Own w' w.heap.size v (sl zs) ∧ Below w.heap.size w w' := by
  obtain ⟨i0, hi, hz0, hz1, hz2⟩ := info_parts info5
  have hcs := hide (bs_cells h)
  have hnl := hide h.2.1.2
  have hzl := hide h.1
  have hC := crc_lt zs (bs_range h)
  have H := hide h
  clear h
  go_enter Tryz.func105, Tryz.ntmps105
  go_wp2_with (first
    | (at_make; refine wpList_make_own _ rfl _ _ 44 rfl w.heap.size 5 i0 (.int .u8 0) 1 Tryz.underlying44 hi hz0 hz1 .i64 .i64 _ (len + 4) rfl rfl ?c1 ?c2 ?c3 ?c4 ?_)
    | fail)
  case c1 => omega
  case c2 => rw [hz2]; omega
  case c3 => unfold maxLen; omega
  case c4 => exact Nat.le_refl _
  intro w1 hown hg
  have hb1 : Hid (Below w.heap.size w w1) := hide ((Below.refl _ _).grown hg (Nat.le_refl _) (fun k hk => by cases hk))
  have HG := hide hg
  clear hg
  go_wp2_with (first
    | (at_builtin; refine wpList_append_fits_any _ rfl (.tmp 10) (.tmp 11) 44 rfl w.heap.size 5 i0 1 Tryz.underlying44 hi hz1 w.heap.size 0 (len + 4) [] rfl hown ao len cap (bv zs) rfl ?d1 ?d2 ?d3 ?d4 ?d5 ?_)
    | fail)
  case d1 => rw [bv_len, hzl.out]; omega
  case d2 => exact hnl.out
  case d3 =>
    intro ad had j u hu
    exact HG.out.cell (hcs.out ad had j u hu) (by intro h; cases h)
  case d4 => exact bv_one zs
  case d5 => omega
  intro w2 hown2 hg2
  have hb2 := hide (hb1.out.grown hg2 hb1.out.size (fun k hk => by cases hk; exact Nat.le_refl _))
  have HO := hide (show Own w2 w.heap.size (.slice (some ⟨w.heap.size, 0, none⟩) (0 + len) (len + 4)) zs by
    unfold Own; rw [hzl.out]; simpa using hown2)
  clear hg2 hown2 hown
  go_wp2_with fail
  refine (of_any ao len cap zs w2 (by omega) (H.out.below hb2.out (Nat.le_refl _))).mono ?_
  rintro e w3 ⟨rfl, rfl⟩
  have HS := hide (show sl zs = zs ++ le4 (crc zs) 4 from rfl)
  generalize hcc : crc zs = C at *
  clear hcc
  go_wp2_with fail
  go_loopw [3, 15] (fun u i wr => ∃ k : Nat, k ≤ 4 ∧ i = .int .i64 k ∧ Hid (Own wr w.heap.size u (zs ++ le4 C k)) ∧ Hid (Below w.heap.size w wr)) (fun _ i _ => 4 - (intOf i).toNat)
  case atStart => exact ⟨0, by omega, rfl, hide (by simpa [le4] using HO.out), hb2⟩
  case round =>
    obtain ⟨k, hk, rfl, hown, hbel⟩ := hrel
    have hsz := hide hbel.out.size
    have hll : (zs ++ le4 C k).length = len + k := by rw [List.length_append, hzl.out, le4_len]
    by_cases hlt : k < 4
    · go_wp2_with (first
        | (at_builtin; refine wpList_append_own _ rfl (.tmp 18) (.tmp 24) 44 rfl w.heap.size 5 i0 (.int .u8 0) 1 1 Tryz.underlying44 hi hz0 hz1 hz2 rfl (by decide) _ _ _ rfl (hown.out.alloc _) ⟨wr.heap.size, 0, none⟩ 1 1 [.int .u8 ((C : Int) / 2 ^ (8 * k) % 256)] rfl rfl ?c1 ?c2 ?c3 ?c4 ?c5 ?_)
        | fail)
      case c1 => exact cell_one_new _ _ _
      case c2 => intro u hu; simp at hu; subst hu; rfl
      case c3 => unfold maxLen; omega
      case c4 => omega
      case c5 => have := hsz.out; simp; omega
      intro v' w2 hown' hgrow _
      have HW := hide hown'
      have HW2 := hide hgrow
      clear hown' hgrow
      go_wp2
      go_roundw
      case rel => exact ⟨k + 1, by omega, by go_num, hide (by rw [le4_succ, ← List.append_assoc]; exact own_snoc (by rw [hll]; exact (show w2.ownsRow w.heap.size 5 1 v' (len + k + 1) (bv (zs ++ le4 C k) ++ [Value.int IntKind.u8 ((C : Int) / 2 ^ (8 * k) % 256)]) from HW.out))), hide (below_step hbel.out hsz.out hown.out HW2.out)⟩
      case measure => simp [intOf]; omega
    · have h8 : k = 4 := by omega
      subst h8
      go_wp2
      go_ret
      exact ⟨_, rfl, by rw [HS.out]; exact hown.out, hbel.out⟩

theorem nn_take (zs : List Int) (k : Nat) (h : k < zs.length) : nn (zs.take (k + 1)) = 2 ^ (8 * k) * (zs.getD k 0).toNat + nn (zs.take k) := by
  rw [List.take_succ_eq_append_getElem h, nn_append]
  simp only [nn, List.length_take, Nat.min_eq_left (Nat.le_of_lt h), List.getD, List.getElem?_eq_getElem h, Option.getD_some]
  simp
theorem told_bits (N k : Nat) (z : Int) (hk : k < 4) (hN : N < 2 ^ (8 * k)) (hz : 0 ≤ z ∧ z < 256) :
    bits BinOp.or IntKind.u32 (N : Int) (z * 2 ^ (8 * k) % 4294967296) = ((2 ^ (8 * k) * z.toNat + N : Nat) : Int) := by
  obtain ⟨Z, rfl⟩ := Int.eq_ofNat_of_zero_le hz.1
  have hp : (2 : Nat) ^ (8 * k) ≤ 2 ^ 24 := Nat.pow_le_pow_right (by omega) (by omega)
  have hd : Z * 2 ^ (8 * k) ≤ 255 * 2 ^ 24 := Nat.mul_le_mul (by omega) hp
  rw [show (Z : Int) * 2 ^ (8 * k) = ((Z * 2 ^ (8 * k) : Nat) : Int) from by push_cast; rfl]
  rw [show ((Z * 2 ^ (8 * k) : Nat) : Int) % 4294967296 = ((Z * 2 ^ (8 * k) : Nat) : Int) from by omega, u32_or_nat _ _ (by omega) (by omega), Nat.or_comm, nat_join (8 * k) _ _ (Nat.mul_mod_left _ _) hN]
  simp only [Int.toNat_natCast]
  rw [Nat.mul_comm]

theorem told_any (ao : Option Addr) (len cap : Nat) (zs : List Int) (w : World) (hm : len ≤ 4) (h : Bs w ao len cap zs) :
    Calls Tryz.prog 173 #[.slice ao len cap] w fun e w' => e = .returned (.int .u32 (nn zs : Nat)) ∧ w' = w := by
  have hz := hide h.2.2.1
  have hr := hide (bs_range h)
  have hl := hide h.1
  have hc4 := hide h.2.2.2
  clear h
  go_enter Tryz.func173, Tryz.ntmps173
  go_wp2
  go_loop [3, 8] (fun v i => ∃ k C : Nat, k ≤ len ∧ i = .int .i64 k ∧ v = .int .u32 C ∧ Hid (C = nn (zs.take k))) (fun _ i => len - (intOf i).toNat)
  case atStart => exact ⟨0, 0, by omega, rfl, rfl, hide (by simp [nn])⟩
  case round =>
    obtain ⟨k, C, hk, rfl, rfl, hT⟩ := hrel
    by_cases hlt : k < len
    · obtain ⟨b, off, rfl, hcell⟩ := hc4.out (by omega)
      have hck := hcell k hlt
      have hzk := hz.out k
      have hC : C < 2 ^ (8 * k) := by
        have := nn_lt (zs.take k) (ByteL.take hr.out k)
        rwa [← hT.out, List.length_take, Nat.min_eq_left (by rw [hl.out]; omega)] at this
      have hC2 : C < 4294967296 := Nat.lt_of_lt_of_le hC (show 2 ^ (8 * k) ≤ 2 ^ 32 from Nat.pow_le_pow_right (by omega) (by omega))
      have HB := hide (told_bits C k (zs.getD k 0) (by omega) hC hzk)
      have HN := hide (show (2 ^ (8 * k) * (zs.getD k 0).toNat + C : Nat) = nn (zs.take (k + 1)) by rw [nn_take zs k (by rw [hl.out]; exact hlt), ← hT.out])
      generalize zs.getD k 0 = z at *
      clear hcell hC
      go_wp2
      go_round
      case rel => exact ⟨k + 1, _, by omega, by go_num, by rw [← HB.out], HN⟩
      case measure => simp [intOf]; omega
    · have h8 : k = len := by omega
      subst h8
      have hT' := hide (show C = nn zs from by have := hT.out; rwa [List.take_of_length_le (by rw [hl.out]; exact Nat.le_refl _)] at this)
      go_wp2
      go_ret
      exact ⟨by rw [← hT'.out]; rfl, rfl⟩

theorem Bs.takeAt {w : World} {b off len cap : Nat} {zs : List Int} (h : Bs w (some ⟨b, off, none⟩) len cap zs) (k : Nat) (hk : k ≤ len) : Bs w (some ⟨b, off, none⟩) k cap (zs.take k) := h.take k hk (by simp)

theorem open_short (ao : Option Addr) (len cap : Nat) (w : World) (hm : len < 4) :
    Calls Tryz.prog 139 #[.slice ao len cap] w fun e w' => e = .returned (.tuple #[.slice none 0 0, .int .i64 4]) ∧ w' = w := by
  go_enter Tryz.func139, Tryz.ntmps139
  go_wp2
  go_ret2
  exact ⟨rfl, rfl⟩

set_option maxHeartbeats 400000 in
theorem open_long (b off len cap : Nat) (zs : List Int) (w : World) (n : Nat) (hn : len = n + 4) (hm : len ≤ 70368744177664) (h : Bs w (some ⟨b, off, none⟩) len cap zs) :
    Calls Tryz.prog 139 #[.slice (some ⟨b, off, none⟩) len cap] w fun e w' => Below w.heap.size w w' ∧
      ((good zs n ∧ ∃ v, e = .returned (.tuple #[v, .int .i64 0]) ∧ Own w' w.heap.size v (zs.take n)) ∨ (¬ good zs n ∧ e = .returned (.tuple #[.slice none 0 0, .int .i64 5]))) := by
  obtain ⟨i0, hi, hz0, hz1, hz2⟩ := info_parts info5
  have hcap := h.2.1.1
  have hgd : good zs n ↔ nn (zs.drop n) = crc (zs.take n) := Iff.rfl
  have HG := hide hgd
  clear hgd
  have ht : ∀ p : Kp w, Bs p.W (some ⟨b, off, none⟩) n cap (zs.take n) := fun p => (h.takeAt n (by omega)).below p.h (Nat.le_refl _)
  have cO : Hid (∀ p : Kp w, Calls Tryz.prog 132 #[.slice (some ⟨b, off, none⟩) n cap] p.W fun e w'' => e = .returned (.int .u32 (crc (zs.take n) : Nat)) ∧ ∃ q : Kp w, w'' = q.W) := hide fun p => kp_same (of_any _ n cap (zs.take n) p.W (by omega) (ht p))
  have cT : Hid (∀ p : Kp w, Calls Tryz.prog 173 #[.slice (some ⟨b, off + n, none⟩) 4 (cap - n)] p.W fun e w'' => e = .returned (.int .u32 (nn (zs.drop n) : Nat)) ∧ ∃ q : Kp w, w'' = q.W) := hide fun p => kp_same
    (told_any _ 4 (cap - n) (zs.drop n) p.W (by omega) (by have := (h.below p.h (Nat.le_refl _)).dropAt n (by omega); rwa [show len - n = 4 from by omega] at this))
  have hcs := hide (fun (p : Kp w) => bs_cells (ht p))
  have hlen : (zs.take n).length = n := by rw [List.length_take, h.1]; omega
  have HL := hide hlen
  have hne : Nonempty (Kp w) := ⟨⟨w, Below.refl _ _⟩⟩
  generalize zs.take n = ys at *
  generalize nn (zs.drop n) = A at *
  generalize crc ys = C at *
  clear h ht hlen
  go_enter Tryz.func139, Tryz.ntmps139
  go_wp2_with fail
  refine wp_region_kept (by kernel_rfl) (by kernel_rfl) ?_
  repeat (first
    | go_big_quiet_step (first | (go_at_call 173; exact cT.out _) | (go_at_call 132; exact cO.out _))
    | fail)
  refine wpQuiet_nil ?_
  intro w1 hw'
  have HB : Hid (Below w.heap.size w w1) := by
    obtain ⟨⟨w3', hb3⟩, hw''⟩ := hw'
    rw [hw'']; exact hb3
  have HK := hide (hcs.out ⟨w1, HB.out⟩)
  clear hw' hne cT cO hcs
  by_cases hg : A = C
  · have hb : ((A : Int) == (C : Int)) = true := by simp [hg]
    have HG2 := hide (HG.out.2 hg)
    clear hg HG
    go_wp2_with (first
      | (at_builtin; refine wpList_append_own _ rfl _ _ 44 rfl w.heap.size 5 i0 (.int .u8 0) 1 1 Tryz.underlying44 hi hz0 hz1 hz2 rfl (by decide) _ _ _ rfl (World.ownsRow_nil _ _ _ _) ⟨b, off, none⟩ n cap (bv ys) rfl ?c0 ?c1 ?c2 ?c3 ?c4 ?c5 ?_)
      | fail)
    case c0 => rw [bv_len, HL.out]
    case c1 => intro j u hu; have := HK.out _ rfl j u hu; rwa [add_plain] at this
    case c2 => exact bv_one ys
    case c3 => unfold maxLen; omega
    case c4 => omega
    case c5 => exact HB.out.size
    intro v' w2 hown' hgrow _
    have HW := hide hown'
    have HW2 := hide (HB.out.grown hgrow HB.out.size (fun k hk => by cases hk))
    clear hown' hgrow
    go_wp2
    go_ret2
    refine ⟨HW2.out, .inl ⟨HG2.out, v', rfl, ?_⟩⟩
    have := HW.out
    unfold Own
    rw [HL.out]
    simpa using this
  · have hb : ((A : Int) == (C : Int)) = false := by simp; omega
    have HG2 := hide (fun h => hg (HG.out.1 h))
    clear hg HG
    go_wp2
    go_ret2
    exact ⟨HB.out, .inr ⟨HG2.out, rfl⟩⟩

end Go.Proofs.YtcahlmneancapaaGreatDoor.Clep

/- Bytes written out on the spot and of constant texts; sum.Open at a Seal. No conditions but the kinds' own bounds. -/
namespace Go.Proofs.YtcahlmneancapaaGreatDoor.Clep
open Go.RowKit
set_option linter.unusedVariables false
set_option maxRecDepth 10000

/-- Bytes that were written out on the spot. -/
theorem bs_newL (w : World) (zs : List Int) (hz : ByteL zs) (arr : Array Value) (ha : arr = (bv zs).toArray) (L : Nat) (hL : zs.length = L) (fr : Nat × Nat) : Bs (w.alloc (.cells arr 5 fr)) (some ⟨w.heap.size, 0, none⟩) L L zs := by
  subst ha hL
  refine ⟨rfl, ⟨Nat.le_refl _, fun h => by cases h⟩, range_of hz, fun _ => ⟨w.heap.size, 0, rfl, fun i hi => ?_⟩⟩
  have : (w.alloc (.cells (bv zs).toArray 5 fr)).cell? ⟨w.heap.size, 0 + i, none⟩ = (bv zs)[i]? := by
    rw [Nat.zero_add]
    simp [World.cell?, World.alloc, -World.alloc_eq]
  rw [this]
  simp [bv, List.getD, List.getElem?_eq_getElem hi]

theorem le4_arr (X : Nat) (hX : X < 4294967296) : #[Value.int IntKind.u8 ((X : Int) % 256), Value.int IntKind.u8 ((X : Int) / 256 % 256), Value.int IntKind.u8 ((X : Int) / 65536 % 256), Value.int IntKind.u8 ((X : Int) / 16777216)] = (bv (le4 X 4)).toArray := by
  have : le4 X 4 = [(X : Int) % 256, (X : Int) / 256 % 256, (X : Int) / 65536 % 256, (X : Int) / 16777216] := by
    simp only [le4, List.range, List.range.loop, List.map]
    simp only [show (2 : Nat) ^ (8 * 0) = 1 from rfl, show (2 : Nat) ^ (8 * 1) = 256 from rfl, show (2 : Nat) ^ (8 * 2) = 65536 from rfl, show (2 : Nat) ^ (8 * 3) = 16777216 from rfl]
    simp
    omega
  rw [this]
  rfl

/-- Bytes of a constant text. -/
theorem conv_const (w : World) (zs : List Int) (hz : ByteL zs) (arr : Array Value) (ha : arr = (bv zs).toArray) (L : Nat) (hL : zs.length = L) :
    ∃ w', (convert 44 44 (.slice (some ⟨w.heap.size, 0, none⟩) L L)).run Tryz.prog (w.alloc (.cells arr 5)) = .ok (.slice (some ⟨w.heap.size, 0, none⟩) L L) w' ∧
      Hid (Below w.heap.size w w') ∧ Hid (Bs w' (some ⟨w.heap.size, 0, none⟩) L L zs) :=
  ⟨_, Go.Lib.run_convert_bytes_const (P := Tryz.prog) w 44 5 arr L L Tryz.underlying44 Tryz.underlying5, hide ((Below.refl _ w).alloc (Nat.le_refl _) _), hide (bs_newL w zs hz arr ha L hL _)⟩

theorem open_seal (b off len cap : Nat) (zs : List Int) (w : World) (hz : ByteL zs) (hn : len = zs.length + 4) (hm : len ≤ 70368744177664) (h : Bs w (some ⟨b, off, none⟩) len cap (sl zs)) :
    Calls Tryz.prog 139 #[.slice (some ⟨b, off, none⟩) len cap] w fun e w' => ∃ v, e = .returned (.tuple #[v, .int .i64 0]) ∧ Own w' w.heap.size v zs ∧ Below w.heap.size w w' := by
  refine (open_long b off len cap (sl zs) w zs.length hn hm h).mono ?_
  rintro e w1 ⟨hb, ⟨_, v, he, ho⟩ | ⟨hg, _⟩⟩
  · refine ⟨v, he, ?_, hb⟩
    have : (sl zs).take zs.length = zs := by unfold sl; rw [List.take_left]
    rwa [this] at ho
  · exact absurd (good_sl zs hz) hg

end Go.Proofs.YtcahlmneancapaaGreatDoor.Clep

/- Slices of slices of bytes, whether nil or not: where they lie, and what they lead to. No conditions but the bounds. -/
namespace Go.Proofs.YtcahlmneancapaaGreatDoor.Clep
open Go.RowKit
set_option linter.unusedVariables false
set_option maxRecDepth 10000

/-- Where a slice of (a, cap) from l on lies. -/
def cut (a : Option Addr) (cap l : Nat) : Option Addr := if cap = l then a else a.map (·.add l)
theorem cut_eq (a : Option Addr) (l h cap : Nat) : sliced a l h cap 1 = .slice (cut a cap l) (h - l) (cap - l) := by
  unfold sliced cut
  rw [Nat.mul_one]
theorem sizeof_u8 (w : World) : (sizeOf (Tryz.prog.elem 44)).run Tryz.prog w = .ok 1 w := by
  go_simp
theorem under_bytes : Tryz.prog.underlying 44 = some (.slice (Tryz.prog.elem 44)) := by kernel_rfl
theorem cut_h (w : World) (a : Option Addr) (len cap : Nat) (k : IntKind) (h : Int) (h0 : 0 ≤ h) (h2 : h ≤ cap) :
    (Instr.sliceAt 44 (.slice a len cap) none (some (.int k h)) none).run Tryz.prog w = .ok (.slice (cut a cap 0) h.toNat cap) w := by
  rw [run_sliceAt_slice _ _ _ _ _ _ under_bytes, run_slice_h _ _ _ _ _ under_bytes k h h0 h2, sizeof_u8]
  simp only [Result.andThen, cut_eq, Nat.sub_zero]
theorem cut_l (w : World) (a : Option Addr) (len cap : Nat) (k : IntKind) (l : Int) (h0 : 0 ≤ l) (h1 : l ≤ len) :
    (Instr.sliceAt 44 (.slice a len cap) (some (.int k l)) none none).run Tryz.prog w = .ok (.slice (cut a cap l.toNat) (len - l.toNat) (cap - l.toNat)) w := by
  rw [run_sliceAt_slice _ _ _ _ _ _ under_bytes, run_slice_l _ _ _ _ _ under_bytes k l h0 h1, sizeof_u8]
  simp only [Result.andThen, cut_eq]
theorem cut_lh (w : World) (a : Option Addr) (len cap : Nat) (k k' : IntKind) (l h : Int) (h0 : 0 ≤ l) (h1 : l ≤ h) (h2 : h ≤ cap) :
    (Instr.sliceAt 44 (.slice a len cap) (some (.int k l)) (some (.int k' h)) none).run Tryz.prog w = .ok (.slice (cut a cap l.toNat) (h.toNat - l.toNat) (cap - l.toNat)) w := by
  rw [run_sliceAt_slice _ _ _ _ _ _ under_bytes, run_slice_lh _ _ _ _ _ under_bytes k k' l h h0 h1 h2, sizeof_u8]
  simp only [Result.andThen, cut_eq]

theorem Bs.cut {w : World} {a : Option Addr} {len cap : Nat} {zs : List Int} (hb : Bs w a len cap zs) (l h : Nat) (h1 : l ≤ h) (h2 : h ≤ len) : Bs w (cut a cap l) (h - l) (cap - l) ((zs.take h).drop l) := by
  have hl : ((zs.take h).drop l).length = h - l := by rw [List.length_drop, List.length_take, hb.1]; omega
  have hc := hb.2.1.1
  refine ⟨hl, ⟨by omega, fun hn => ?_⟩, ?_, fun h0 => ?_⟩
  · have : a = none := by
      cases a with
      | none => rfl
      | some x => unfold Clep.cut at hn; split at hn <;> cases hn
    have := hb.2.1.2 this
    omega
  · refine range_of fun z hz => ?_
    exact bs_range hb z (List.mem_of_mem_take (List.mem_of_mem_drop hz))
  · obtain ⟨b, off, rfl, hcell⟩ := hb.2.2.2 (by omega)
    refine ⟨b, off + l, ?_, fun i hi => ?_⟩
    · unfold Clep.cut
      rw [if_neg (by omega)]
      simp [add_plain]
    · have := hcell (l + i) (by omega)
      rw [Nat.add_assoc, this]
      simp [List.getD, List.getElem?_drop, show l + i < h by omega]

end Go.Proofs.YtcahlmneancapaaGreatDoor.Clep

/- What the small functions of package frame do when called (walks over the translated program). No conditions but the kinds' own bounds. -/
namespace Go.Proofs.YtcahlmneancapaaGreatDoor.Clep
open Go.RowKit
set_option linter.unusedVariables false
set_option maxRecDepth 10000

/-- A place: kind, from, to. -/
def pl (k f t : Int) : Value := .agg #[.int .i64 k, .int .i64 f, .int .i64 t]

theorem next_any (k f t : Int) (w : World) (h0 : 0 ≤ t) (h1 : t ≤ 140737488355328) :
    Calls Tryz.prog 112 #[pl k f t] w fun e w' => e = .returned (.int .i64 (t + 4)) ∧ Below w.heap.size w w' := by
  unfold pl
  go_enter Tryz.func112, Tryz.ntmps112
  go_wp2
  go_ret
  exact ⟨rfl, (Below.refl _ w).alloc (Nat.le_refl _) _⟩
attribute [local go_sem ↓] cut_h cut_l cut_lh

theorem body_any (ao : Option Addr) (len cap : Nat) (zs : List Int) (k f t : Int) (w : World) (hm : len ≤ 70368744177664) (h : Bs w ao len cap zs) (h0 : 0 ≤ f) (h1 : f ≤ t) (h2 : t ≤ len) :
    Calls Tryz.prog 111 #[pl k f t, .slice ao len cap] w fun e w' => ∃ v, e = .returned v ∧ Own w' w.heap.size v ((zs.take t.toNat).drop f.toNat) ∧ Below w.heap.size w w' := by
  have hcap := h.2.1.1
  have htc : t ≤ (cap : Int) := by omega
  have HB := hide (fun W (hW : Below w.heap.size w W) => (h.cut f.toNat t.toNat (by omega) (by omega)).below hW (Nat.le_refl _))
  clear h
  unfold pl
  go_enter Tryz.func111, Tryz.ntmps111
  go_wp2_with (first
    | (at_builtin; refine wpList_append_bytes rfl _ _ rfl w.heap.size _ [] rfl (World.ownsRow_nil _ _ _ _) _ _ _ _ rfl (HB.out _ ?c0) ?c1 ?c2 ?_)
    | fail)
  case c0 => exact (Below.refl _ w).alloc (Nat.le_refl _) _
  case c1 => simp; omega
  case c2 => simp
  intro v' w1 ho hb
  have HO := hide ho
  have HB2 := hide (((Below.refl _ w).alloc (Nat.le_refl _) _).trans hb)
  clear ho hb
  go_wp2
  go_ret
  exact ⟨_, rfl, HO.out, HB2.out⟩

theorem i64_or_nat (a b : Nat) (ha : a < 4611686018427387904) (hb : b < 4611686018427387904) : bits .or .i64 (a : Int) (b : Int) = ((a ||| b : Nat) : Int) := by
  have e : bits .or .i64 (a : Int) (b : Int) = IntKind.i64.wrap ((BitVec.ofInt 64 (a : Int) ||| BitVec.ofInt 64 (b : Int)).toNat : Int) := rfl
  have h1 : (BitVec.ofInt 64 (a : Int) ||| BitVec.ofInt 64 (b : Int)).toNat = a ||| b := by
    rw [BitVec.toNat_or, BitVec.toNat_ofInt, BitVec.toNat_ofInt]
    congr 1 <;> omega
  have h2 : a ||| b < 2 ^ 62 := Nat.or_lt_two_pow ha hb
  rw [e, h1]
  generalize (a ||| b) = k at *
  simp [IntKind.wrap, IntKind.bits, IntKind.signed]
  omega
theorem head_bits (x y z : Int) (hx : 0 ≤ x ∧ x < 256) (hy : 0 ≤ y ∧ y < 256) (hz : 0 ≤ z ∧ z < 256) : bits BinOp.or IntKind.i64 (bits BinOp.or IntKind.i64 (x * 65536) (y * 256)) z = x * 65536 + y * 256 + z := by
  obtain ⟨X, rfl⟩ := Int.eq_ofNat_of_zero_le hx.1
  obtain ⟨Y, rfl⟩ := Int.eq_ofNat_of_zero_le hy.1
  obtain ⟨Z, rfl⟩ := Int.eq_ofNat_of_zero_le hz.1
  rw [show (X : Int) * 65536 = ((X * 65536 : Nat) : Int) from by omega, show (Y : Int) * 256 = ((Y * 256 : Nat) : Int) from by omega, i64_or_nat _ _ (by omega) (by omega), nat_join 16 (X * 65536) (Y * 256) (by omega) (by omega), i64_or_nat _ _ (by omega) (by omega), nat_join 8 (X * 65536 + Y * 256) Z (by omega) (by omega)]
  omega

theorem fread_any (b off len cap : Nat) (zs : List Int) (p : Int) (w : World) (hm : len ≤ 70368744177664) (h : Bs w (some ⟨b, off, none⟩) len cap zs) (P : Nat) (hp : p = P) (h2 : P + 8 ≤ len) :
    Calls Tryz.prog 116 #[.slice (some ⟨b, off, none⟩) len cap, .int .i64 p] w fun e w' => e = .returned (pl (zs.getD P 0) (p + 8) (p + 8 + (zs.getD (P + 1) 0 * 65536 + zs.getD (P + 2) 0 * 256 + zs.getD (P + 3) 0))) ∧ Below w.heap.size w w' := by
  subst hp
  obtain ⟨_, _, hr, hcell⟩ := h
  obtain ⟨b', off', hb, hc⟩ := hcell (by omega)
  cases hb
  have c0 := hc P (by omega)
  have c1 := hc (P + 1) (by omega)
  have c2 := hc (P + 2) (by omega)
  have c3 := hc (P + 3) (by omega)
  have r0 := hr P
  have r1 := hr (P + 1)
  have r2 := hr (P + 2)
  have r3 := hr (P + 3)
  clear hc hcell hr
  generalize zs.getD P 0 = z0 at *
  generalize zs.getD (P + 1) 0 = z1 at *
  generalize zs.getD (P + 2) 0 = z2 at *
  generalize zs.getD (P + 3) 0 = z3 at *
  unfold pl
  go_enter Tryz.func116, Tryz.ntmps116
  go_wp2_with fail
  have hW : Below w.heap.size w (w.alloc (Obj.cells #[Value.int IntKind.i64 0, Value.int IntKind.i64 0, Value.int IntKind.i64 0] 170)) := (Below.refl _ w).alloc (Nat.le_refl _) _
  have hb := World.block_lt_of_cell? w _ c0
  have hX := head_bits z1 z2 z3 r1 r2 r3
  have d0 := (hW.cell (p := ⟨b, off + P, none⟩) hb).trans c0
  have d1 := (hW.cell (p := ⟨b, off + (P + 1), none⟩) hb).trans c1
  have d2 := (hW.cell (p := ⟨b, off + (P + 2), none⟩) hb).trans c2
  have d3 := (hW.cell (p := ⟨b, off + (P + 3), none⟩) hb).trans c3
  go_region
  go_wp2
  refine bodyPost_ret (v := pl z0 (P + 8) (P + 8 + (z1 * 65536 + z2 * 256 + z3))) (by simp [results, Tryz.results116, go_sem, pl]) rfl ⟨rfl, ?_⟩
  exact ((Below.refl _ w).alloc (Nat.le_refl _) _).drew

end Go.Proofs.YtcahlmneancapaaGreatDoor.Clep

/- What frame.Put does when called (a walk over the translated program): for any bytes of at most 2^45, any kind, any body. -/
namespace Go.Proofs.YtcahlmneancapaaGreatDoor.Clep
open Go.RowKit
set_option linter.unusedVariables false
set_option maxRecDepth 10000

/-- A head. -/
def hd (k : Int) (n : Nat) : List Int := [k, ((n / 65536 : Nat) : Int), ((n / 256 : Nat) : Int), ((n % 256 : Nat) : Int)]
/-- A frame. -/
def fr (k : Int) (ys : List Int) : List Int := sl (hd k ys.length) ++ sl ys
theorem hd_len (k : Int) (n : Nat) : (hd k n).length = 4 := rfl
theorem hd_range (k : Int) (n : Nat) (h0 : 1 ≤ k) (h1 : k ≤ 100) (hn : n ≤ 60000) : ByteL (hd k n) := by
  intro z hz
  simp only [hd, List.mem_cons, List.not_mem_nil, or_false] at hz
  omega
theorem fr_len (k : Int) (ys : List Int) : (fr k ys).length = ys.length + 12 := by
  unfold fr; rw [List.length_append, sl_len, sl_len, hd_len]; omega
theorem fr_range (k : Int) (ys : List Int) (h0 : 1 ≤ k) (h1 : k ≤ 100) (hn : ys.length ≤ 60000) (h : ByteL ys) : ByteL (fr k ys) :=
  ByteL.append (sl_range _ (hd_range k _ h0 h1 hn)) (sl_range _ h)

theorem fput_arg (a0 a2 : Option Addr) (len0 cap0 len2 cap2 : Nat) (k : Int) (w : World) (hk : k < 1 ∨ 100 < k) :
    Calls Tryz.prog 77 #[.slice a0 len0 cap0, .int .i64 k, .slice a2 len2 cap2] w fun e w' => e = .returned (.tuple #[.slice none 0 0, .int .i64 1]) ∧ w' = w := by
  go_enter Tryz.func77, Tryz.ntmps77
  rcases hk with hk | hk
  · go_wp2
    go_ret2
    exact ⟨rfl, rfl⟩
  · have hk2 : ¬ k < 1 := by omega
    go_wp2
    go_ret2
    exact ⟨rfl, rfl⟩
theorem fput_long (a0 a2 : Option Addr) (len0 cap0 len2 cap2 : Nat) (k : Int) (w : World) (hk : 1 ≤ k) (hk2 : k ≤ 100) (hl : 60000 < len2) (hm : len2 ≤ 70368744177664) :
    Calls Tryz.prog 77 #[.slice a0 len0 cap0, .int .i64 k, .slice a2 len2 cap2] w fun e w' => e = .returned (.tuple #[.slice none 0 0, .int .i64 2]) ∧ w' = w := by
  have hn1 : ¬ k < 1 := by omega
  have hn2 : ¬ 100 < k := by omega
  go_enter Tryz.func77, Tryz.ntmps77
  go_wp2
  go_ret2
  exact ⟨rfl, rfl⟩

set_option maxHeartbeats 400000 in
theorem fput_any (a0 a2 : Option Addr) (len0 cap0 len2 cap2 : Nat) (zs ys : List Int) (k : Int) (w : World) (hk : 1 ≤ k) (hk2 : k ≤ 100) (hl : len2 ≤ 60000) (hm : len0 ≤ 35184372088832) (h0 : Bs w a0 len0 cap0 zs) (h2 : Bs w a2 len2 cap2 ys) :
    Calls Tryz.prog 77 #[.slice a0 len0 cap0, .int .i64 k, .slice a2 len2 cap2] w fun e w' => ∃ v, e = .returned (.tuple #[v, .int .i64 0]) ∧ Own w' w.heap.size v (zs ++ fr k ys) ∧ Below w.heap.size w w' := by
  obtain ⟨i0, hi, hz0, hz1, hz2⟩ := info_parts info5
  have hn1 : ¬ k < 1 := by omega
  have hn2 : ¬ 100 < k := by omega
  have l0 := h0.1
  have l2 := h2.1
  have H0 := hide (fun W (hW : Below w.heap.size w W) => h0.below hW (Nat.le_refl _))
  have H2 := hide (fun W (hW : Below w.heap.size w W) => h2.below hW (Nat.le_refl _))
  have HH := hide (hd_range k len2 hk hk2 hl)
  have HA := hide (show #[Value.int IntKind.u8 k, Value.int IntKind.u8 ((len2 : Int) / 65536), Value.int IntKind.u8 ((len2 : Int) / 256), Value.int IntKind.u8 ((len2 : Int) % 256)] = (bv (hd k len2)).toArray by
    simp [bv, hd])
  clear h0 h2
  go_enter Tryz.func77, Tryz.ntmps77
  go_wp2_with (first
    | (at_make; refine wpList_make_own _ rfl _ _ 44 rfl (w.heap.size + 1) 5 i0 (.int .u8 0) 1 Tryz.underlying44 hi hz0 hz1 .i64 .i64 _ (len0 + 8 + len2 + 4) rfl rfl ?c1 ?c2 ?c3 ?c4 ?_)
    | fail)
  case c2 => omega
  case c3 => unfold maxLen; omega
  intro w1 hown hg
  have hs1 : (w.alloc (Obj.cells #[Value.int IntKind.u8 k, Value.int IntKind.u8 ((len2 : Int) / 65536), Value.int IntKind.u8 ((len2 : Int) / 256), Value.int IntKind.u8 ((len2 : Int) % 256)] 5)).heap.size = w.heap.size + 1 := by simp
  have hA : Below w.heap.size w (w.alloc (Obj.cells #[Value.int IntKind.u8 k, Value.int IntKind.u8 ((len2 : Int) / 65536), Value.int IntKind.u8 ((len2 : Int) / 256), Value.int IntKind.u8 ((len2 : Int) % 256)] 5)) := (Below.refl _ w).alloc (Nat.le_refl _) _
  have hD := bs_newL w (hd k len2) HH.out _ HA.out 4 rfl (0, 0)
  have HO1 := hide (show Own w1 (w.heap.size + 1) _ [] from hown)
  generalize w.alloc (Obj.cells #[Value.int IntKind.u8 k, Value.int IntKind.u8 ((len2 : Int) / 65536), Value.int IntKind.u8 ((len2 : Int) / 256), Value.int IntKind.u8 ((len2 : Int) % 256)] 5) = W0 at *
  have HS0 := hide hs1
  have HDK := hide (fun W (hW : Below (w.heap.size + 1) W0 W) => hD.below hW (by rw [hs1]; exact Nat.le_refl _))
  have HBK := hide (fun W (hW : Below (w.heap.size + 1) W0 W) => hA.trans (hW.mono (Nat.le_succ _)))
  have hb1 := (Below.refl (w.heap.size + 1) W0).grown hg (by rw [hs1]; exact Nat.le_refl _) (fun k hk => by cases hk)
  have HSK := hide (fun W (hW : Below (w.heap.size + 1) W0 W) => show w.heap.size + 1 ≤ W.heap.size by have := hW.size; rwa [hs1] at this)
  have HB1 := hide hb1
  clear hown hg hb1 hD HA hA hs1
  go_wp2_with (first
    | (at_builtin; refine wpList_append_bytes rfl _ _ rfl (w.heap.size + 1) _ [] rfl HO1.out a0 len0 cap0 zs rfl (H0.out _ (HBK.out _ HB1.out)) ?d1 ?d2 ?_)
    | fail)
  case d1 => simp; omega
  case d2 => exact HSK.out _ HB1.out
  intro v2 w2 ho2 hb2
  have HB2 := hide (HB1.out.trans hb2)
  have HO2 := hide (show Own w2 (w.heap.size + 1) v2 zs from ho2)
  clear ho2 hb2 HO1 HB1
  go_wp2_with fail
  refine (seal_any _ 4 4 (hd k len2) w2 (by omega) (HDK.out _ HB2.out)).mono ?_
  rintro e w3 ⟨v3, rfl, ho3, hb3⟩
  obtain ⟨g3, c3, rfl, -, -, hbs3⟩ := own_at ho3 (sl_range _ HH.out) 8 (by rw [sl_len, hd_len]) (by omega)
  have HO3 := hide (own_keep HO2.out hb3)
  have HB3 := hide (HB2.out.trans (hb3.mono (HSK.out _ HB2.out)))
  have HS3 := hide hbs3
  clear ho3 hb3 hbs3 HO2
  go_wp2_with (first
    | (at_builtin; refine wpList_append_bytes rfl _ _ rfl (w.heap.size + 1) _ zs rfl HO3.out _ 8 c3 _ rfl HS3.out ?e1 ?e2 ?_)
    | fail)
  case e1 => omega
  case e2 => exact HSK.out _ HB3.out
  intro v4 w4 ho4 hb4
  have HB4 := hide (HB3.out.trans hb4)
  have HO4 := hide ho4
  clear ho4 hb4 HO3 HB3 HS3
  go_wp2_with fail
  refine (seal_any a2 len2 cap2 ys w4 (by omega) (H2.out _ (HBK.out _ HB4.out))).mono ?_
  rintro e w5 ⟨v5, rfl, ho5, hb5⟩
  obtain ⟨g5, c5, rfl, -, -, hbs5⟩ := own_at ho5 (sl_range _ (bs_range (H2.out _ (Below.refl _ w)))) (len2 + 4) (by rw [sl_len, l2]) (by omega)
  have HO5 := hide (own_keep HO4.out hb5)
  have HB5 := hide (HB4.out.trans (hb5.mono (HSK.out _ HB4.out)))
  have HS5 := hide hbs5
  clear ho5 hb5 hbs5 HO4
  go_wp2_with (first
    | (at_builtin; refine wpList_append_bytes rfl _ _ rfl (w.heap.size + 1) _ (zs ++ sl (hd k len2)) rfl HO5.out _ (len2 + 4) c5 _ rfl HS5.out ?f1 ?f2 ?_)
    | fail)
  case f1 => rw [List.length_append, sl_len, hd_len]; omega
  case f2 => exact HSK.out _ HB5.out
  intro v6 w6 ho6 hb6
  have HB6 := hide (HBK.out _ (HB5.out.trans hb6))
  have HO6 := hide ho6
  clear ho6 hb6 HO5 HB5 HS5
  go_wp2
  go_ret2
  exact ⟨_, rfl, by unfold fr; rw [l2]; exact own_base HO6.out (Nat.le_succ _), HB6.out⟩

end Go.Proofs.YtcahlmneancapaaGreatDoor.Clep
