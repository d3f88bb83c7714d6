/- Bytes written out on the spot and of constant texts; sum.Open at a Seal. No conditions but the kinds' own bounds. -/
import Derived.Test.YtcahlmneancapaaGreatDoorFv15
import Derived.Lib.SlBytesConst
import Derived.Test.YtcahlmneancapaaGreatDoorFv00
import Derived.Test.YtcahlmneancapaaGreatDoorFv03
import Derived.BigRegion
namespace Go.Proofs.YtcahlmneancapaaGreatDoor.Clep
open Go.RowKit
set_option linter.unusedVariables false
set_option maxRecDepth 10000

/-- Bytes that were written out on the spot. -/
theorem bs_newL (w : World) (zs : List Int) (hz : ByteL zs) (arr : Array Value) (ha : arr = (bv zs).toArray) (L : Nat) (hL : zs.length = L) (fr : Nat × Nat) : Bs (w.alloc (.cells arr 5 fr)) (some ⟨w.heap.size, 0, none⟩) L L zs := by
  subst ha hL
  refine ⟨rfl, ⟨Nat.le_refl _, fun h => by cases h⟩, range_of hz, fun _ => ⟨w.heap.size, 0, rfl, fun i hi => ?_⟩⟩
  have : (w.alloc (.cells (bv zs).toArray 5 fr)).cell? ⟨w.heap.size, 0 + i, none⟩ = (bv zs)[i]? := by
    rw [Nat.zero_add]
    simp [World.cell?, World.alloc, -World.alloc_eq]
  rw [this]
  simp [bv, List.getD, List.getElem?_eq_getElem hi]

theorem le4_arr (X : Nat) (hX : X < 4294967296) : #[Value.int IntKind.u8 ((X : Int) % 256), Value.int IntKind.u8 ((X : Int) / 256 % 256), Value.int IntKind.u8 ((X : Int) / 65536 % 256), Value.int IntKind.u8 ((X : Int) / 16777216)] = (bv (le4 X 4)).toArray := by
  have : le4 X 4 = [(X : Int) % 256, (X : Int) / 256 % 256, (X : Int) / 65536 % 256, (X : Int) / 16777216] := by
    simp only [le4, List.range, List.range.loop, List.map]
    simp only [show (2 : Nat) ^ (8 * 0) = 1 from rfl, show (2 : Nat) ^ (8 * 1) = 256 from rfl, show (2 : Nat) ^ (8 * 2) = 65536 from rfl, show (2 : Nat) ^ (8 * 3) = 16777216 from rfl]
    simp
    omega
  rw [this]
  rfl

/-- Bytes of a constant text. -/
theorem conv_const (w : World) (zs : List Int) (hz : ByteL zs) (arr : Array Value) (ha : arr = (bv zs).toArray) (L : Nat) (hL : zs.length = L) :
    ∃ w', (convert 44 44 (.slice (some ⟨w.heap.size, 0, none⟩) L L)).run Tryz.prog (w.alloc (.cells arr 5)) = .ok (.slice (some ⟨w.heap.size, 0, none⟩) L L) w' ∧
      Hid (Below w.heap.size w w') ∧ Hid (Bs w' (some ⟨w.heap.size, 0, none⟩) L L zs) :=
  ⟨_, Go.Lib.run_convert_bytes_const (P := Tryz.prog) w 44 5 arr L L Tryz.underlying44 Tryz.underlying5, hide ((Below.refl _ w).alloc (Nat.le_refl _) _), hide (bs_newL w zs hz arr ha L hL _)⟩

theorem open_seal (b off len cap : Nat) (zs : List Int) (w : World) (hz : ByteL zs) (hn : len = zs.length + 4) (hm : len ≤ 70368744177664) (h : Bs w (some ⟨b, off, none⟩) len cap (sl zs)) :
    Calls Tryz.prog 139 #[.slice (some ⟨b, off, none⟩) len cap] w fun e w' => ∃ v, e = .returned (.tuple #[v, .int .i64 0]) ∧ Own w' w.heap.size v zs ∧ Below w.heap.size w w' := by
  refine (open_long b off len cap (sl zs) w zs.length hn hm h).mono ?_
  rintro e w1 ⟨hb, ⟨_, v, he, ho⟩ | ⟨hg, _⟩⟩
  · refine ⟨v, he, ?_, hb⟩
    have : (sl zs).take zs.length = zs := by unfold sl; rw [List.take_left]
    rwa [this] at ho
  · exact absurd (good_sl zs hz) hg

end Go.Proofs.YtcahlmneancapaaGreatDoor.Clep

/- Slices of slices of bytes, whether nil or not: where they lie, and what they lead to. No conditions but the bounds. -/
namespace Go.Proofs.YtcahlmneancapaaGreatDoor.Clep
open Go.RowKit
set_option linter.unusedVariables false
set_option maxRecDepth 10000

/-- Where a slice of (a, cap) from l on lies. -/
def cut (a : Option Addr) (cap l : Nat) : Option Addr := if cap = l then a else a.map (·.add l)
theorem cut_eq (a : Option Addr) (l h cap : Nat) : sliced a l h cap 1 = .slice (cut a cap l) (h - l) (cap - l) := by
  unfold sliced cut
  rw [Nat.mul_one]
theorem sizeof_u8 (w : World) : (sizeOf (Tryz.prog.elem 44)).run Tryz.prog w = .ok 1 w := by
  go_simp
theorem under_bytes : Tryz.prog.underlying 44 = some (.slice (Tryz.prog.elem 44)) := by kernel_rfl
theorem cut_h (w : World) (a : Option Addr) (len cap : Nat) (k : IntKind) (h : Int) (h0 : 0 ≤ h) (h2 : h ≤ cap) :
    (Instr.sliceAt 44 (.slice a len cap) none (some (.int k h)) none).run Tryz.prog w = .ok (.slice (cut a cap 0) h.toNat cap) w := by
  rw [run_sliceAt_slice _ _ _ _ _ _ under_bytes, run_slice_h _ _ _ _ _ under_bytes k h h0 h2, sizeof_u8]
  simp only [Result.andThen, cut_eq, Nat.sub_zero]
theorem cut_l (w : World) (a : Option Addr) (len cap : Nat) (k : IntKind) (l : Int) (h0 : 0 ≤ l) (h1 : l ≤ len) :
    (Instr.sliceAt 44 (.slice a len cap) (some (.int k l)) none none).run Tryz.prog w = .ok (.slice (cut a cap l.toNat) (len - l.toNat) (cap - l.toNat)) w := by
  rw [run_sliceAt_slice _ _ _ _ _ _ under_bytes, run_slice_l _ _ _ _ _ under_bytes k l h0 h1, sizeof_u8]
  simp only [Result.andThen, cut_eq]
theorem cut_lh (w : World) (a : Option Addr) (len cap : Nat) (k k' : IntKind) (l h : Int) (h0 : 0 ≤ l) (h1 : l ≤ h) (h2 : h ≤ cap) :
    (Instr.sliceAt 44 (.slice a len cap) (some (.int k l)) (some (.int k' h)) none).run Tryz.prog w = .ok (.slice (cut a cap l.toNat) (h.toNat - l.toNat) (cap - l.toNat)) w := by
  rw [run_sliceAt_slice _ _ _ _ _ _ under_bytes, run_slice_lh _ _ _ _ _ under_bytes k k' l h h0 h1 h2, sizeof_u8]
  simp only [Result.andThen, cut_eq]

theorem Bs.cut {w : World} {a : Option Addr} {len cap : Nat} {zs : List Int} (hb : Bs w a len cap zs) (l h : Nat) (h1 : l ≤ h) (h2 : h ≤ len) : Bs w (cut a cap l) (h - l) (cap - l) ((zs.take h).drop l) := by
  have hl : ((zs.take h).drop l).length = h - l := by rw [List.length_drop, List.length_take, hb.1]; omega
  have hc := hb.2.1.1
  refine ⟨hl, ⟨by omega, fun hn => ?_⟩, ?_, fun h0 => ?_⟩
  · have : a = none := by
      cases a with
      | none => rfl
      | some x => unfold Clep.cut at hn; split at hn <;> cases hn
    have := hb.2.1.2 this
    omega
  · refine range_of fun z hz => ?_
    exact bs_range hb z (List.mem_of_mem_take (List.mem_of_mem_drop hz))
  · obtain ⟨b, off, rfl, hcell⟩ := hb.2.2.2 (by omega)
    refine ⟨b, off + l, ?_, fun i hi => ?_⟩
    · unfold Clep.cut
      rw [if_neg (by omega)]
      simp [add_plain]
    · have := hcell (l + i) (by omega)
      rw [Nat.add_assoc, this]
      simp [List.getD, List.getElem?_drop, show l + i < h by omega]

end Go.Proofs.YtcahlmneancapaaGreatDoor.Clep

/- What the small functions of package frame do when called (walks over the translated program). No conditions but the kinds' own bounds. -/
namespace Go.Proofs.YtcahlmneancapaaGreatDoor.Clep
open Go.RowKit
set_option linter.unusedVariables false
set_option maxRecDepth 10000

/-- A place: kind, from, to. -/
def pl (k f t : Int) : Value := .agg #[.int .i64 k, .int .i64 f, .int .i64 t]

theorem next_any (k f t : Int) (w : World) (h0 : 0 ≤ t) (h1 : t ≤ 140737488355328) :
    Calls Tryz.prog 112 #[pl k f t] w fun e w' => e = .returned (.int .i64 (t + 4)) ∧ Below w.heap.size w w' := by
  unfold pl
  go_enter Tryz.func112, Tryz.ntmps112
  go_wp2
  go_ret
  exact ⟨rfl, (Below.refl _ w).alloc (Nat.le_refl _) _⟩
attribute [local go_sem ↓] cut_h cut_l cut_lh

theorem body_any (ao : Option Addr) (len cap : Nat) (zs : List Int) (k f t : Int) (w : World) (hm : len ≤ 70368744177664) (h : Bs w ao len cap zs) (h0 : 0 ≤ f) (h1 : f ≤ t) (h2 : t ≤ len) :
    Calls Tryz.prog 111 #[pl k f t, .slice ao len cap] w fun e w' => ∃ v, e = .returned v ∧ Own w' w.heap.size v ((zs.take t.toNat).drop f.toNat) ∧ Below w.heap.size w w' := by
  have hcap := h.2.1.1
  have htc : t ≤ (cap : Int) := by omega
  have HB := hide (fun W (hW : Below w.heap.size w W) => (h.cut f.toNat t.toNat (by omega) (by omega)).below hW (Nat.le_refl _))
  clear h
  unfold pl
  go_enter Tryz.func111, Tryz.ntmps111
  go_wp2_with (first
    | (at_builtin; refine wpList_append_bytes rfl _ _ rfl w.heap.size _ [] rfl (World.ownsRow_nil _ _ _ _) _ _ _ _ rfl (HB.out _ ?c0) ?c1 ?c2 ?_)
    | fail)
  case c0 => exact (Below.refl _ w).alloc (Nat.le_refl _) _
  case c1 => simp; omega
  case c2 => simp
  intro v' w1 ho hb
  have HO := hide ho
  have HB2 := hide (((Below.refl _ w).alloc (Nat.le_refl _) _).trans hb)
  clear ho hb
  go_wp2
  go_ret
  exact ⟨_, rfl, HO.out, HB2.out⟩

theorem i64_or_nat (a b : Nat) (ha : a < 4611686018427387904) (hb : b < 4611686018427387904) : bits .or .i64 (a : Int) (b : Int) = ((a ||| b : Nat) : Int) := by
  have e : bits .or .i64 (a : Int) (b : Int) = IntKind.i64.wrap ((BitVec.ofInt 64 (a : Int) ||| BitVec.ofInt 64 (b : Int)).toNat : Int) := rfl
  have h1 : (BitVec.ofInt 64 (a : Int) ||| BitVec.ofInt 64 (b : Int)).toNat = a ||| b := by
    rw [BitVec.toNat_or, BitVec.toNat_ofInt, BitVec.toNat_ofInt]
    congr 1 <;> omega
  have h2 : a ||| b < 2 ^ 62 := Nat.or_lt_two_pow ha hb
  rw [e, h1]
  generalize (a ||| b) = k at *
  simp [IntKind.wrap, IntKind.bits, IntKind.signed]
  omega
theorem head_bits (x y z : Int) (hx : 0 ≤ x ∧ x < 256) (hy : 0 ≤ y ∧ y < 256) (hz : 0 ≤ z ∧ z < 256) : bits BinOp.or IntKind.i64 (bits BinOp.or IntKind.i64 (x * 65536) (y * 256)) z = x * 65536 + y * 256 + z := by
  obtain ⟨X, rfl⟩ := Int.eq_ofNat_of_zero_le hx.1
  obtain ⟨Y, rfl⟩ := Int.eq_ofNat_of_zero_le hy.1
  obtain ⟨Z, rfl⟩ := Int.eq_ofNat_of_zero_le hz.1
  rw [show (X : Int) * 65536 = ((X * 65536 : Nat) : Int) from by omega, show (Y : Int) * 256 = ((Y * 256 : Nat) : Int) from by omega, i64_or_nat _ _ (by omega) (by omega), nat_join 16 (X * 65536) (Y * 256) (by omega) (by omega), i64_or_nat _ _ (by omega) (by omega), nat_join 8 (X * 65536 + Y * 256) Z (by omega) (by omega)]
  omega

theorem fread_any (b off len cap : Nat) (zs : List Int) (p : Int) (w : World) (hm : len ≤ 70368744177664) (h : Bs w (some ⟨b, off, none⟩) len cap zs) (P : Nat) (hp : p = P) (h2 : P + 8 ≤ len) :
    Calls Tryz.prog 116 #[.slice (some ⟨b, off, none⟩) len cap, .int .i64 p] w fun e w' => e = .returned (pl (zs.getD P 0) (p + 8) (p + 8 + (zs.getD (P + 1) 0 * 65536 + zs.getD (P + 2) 0 * 256 + zs.getD (P + 3) 0))) ∧ Below w.heap.size w w' := by
  subst hp
  obtain ⟨_, _, hr, hcell⟩ := h
  obtain ⟨b', off', hb, hc⟩ := hcell (by omega)
  cases hb
  have c0 := hc P (by omega)
  have c1 := hc (P + 1) (by omega)
  have c2 := hc (P + 2) (by omega)
  have c3 := hc (P + 3) (by omega)
  have r0 := hr P
  have r1 := hr (P + 1)
  have r2 := hr (P + 2)
  have r3 := hr (P + 3)
  clear hc hcell hr
  generalize zs.getD P 0 = z0 at *
  generalize zs.getD (P + 1) 0 = z1 at *
  generalize zs.getD (P + 2) 0 = z2 at *
  generalize zs.getD (P + 3) 0 = z3 at *
  unfold pl
  go_enter Tryz.func116, Tryz.ntmps116
  go_wp2_with fail
  have hW : Below w.heap.size w (w.alloc (Obj.cells #[Value.int IntKind.i64 0, Value.int IntKind.i64 0, Value.int IntKind.i64 0] 170)) := (Below.refl _ w).alloc (Nat.le_refl _) _
  have hb := World.block_lt_of_cell? w _ c0
  have hX := head_bits z1 z2 z3 r1 r2 r3
  have d0 := (hW.cell (p := ⟨b, off + P, none⟩) hb).trans c0
  have d1 := (hW.cell (p := ⟨b, off + (P + 1), none⟩) hb).trans c1
  have d2 := (hW.cell (p := ⟨b, off + (P + 2), none⟩) hb).trans c2
  have d3 := (hW.cell (p := ⟨b, off + (P + 3), none⟩) hb).trans c3
  go_region
  go_wp2
  refine bodyPost_ret (v := pl z0 (P + 8) (P + 8 + (z1 * 65536 + z2 * 256 + z3))) (by simp [results, Tryz.results116, go_sem, pl]) rfl ⟨rfl, ?_⟩
  exact ((Below.refl _ w).alloc (Nat.le_refl _) _).drew

end Go.Proofs.YtcahlmneancapaaGreatDoor.Clep

/- What frame.Put does when called (a walk over the translated program): for any bytes of at most 2^45, any kind, any body. -/
namespace Go.Proofs.YtcahlmneancapaaGreatDoor.Clep
open Go.RowKit
set_option linter.unusedVariables false
set_option maxRecDepth 10000

/-- A head. -/
def hd (k : Int) (n : Nat) : List Int := [k, ((n / 65536 : Nat) : Int), ((n / 256 : Nat) : Int), ((n % 256 : Nat) : Int)]
/-- A frame. -/
def fr (k : Int) (ys : List Int) : List Int := sl (hd k ys.length) ++ sl ys
theorem hd_len (k : Int) (n : Nat) : (hd k n).length = 4 := rfl
theorem hd_range (k : Int) (n : Nat) (h0 : 1 ≤ k) (h1 : k ≤ 100) (hn : n ≤ 60000) : ByteL (hd k n) := by
  intro z hz
  simp only [hd, List.mem_cons, List.not_mem_nil, or_false] at hz
  omega
theorem fr_len (k : Int) (ys : List Int) : (fr k ys).length = ys.length + 12 := by
  unfold fr; rw [List.length_append, sl_len, sl_len, hd_len]; omega
theorem fr_range (k : Int) (ys : List Int) (h0 : 1 ≤ k) (h1 : k ≤ 100) (hn : ys.length ≤ 60000) (h : ByteL ys) : ByteL (fr k ys) :=
  ByteL.append (sl_range _ (hd_range k _ h0 h1 hn)) (sl_range _ h)

theorem fput_arg (a0 a2 : Option Addr) (len0 cap0 len2 cap2 : Nat) (k : Int) (w : World) (hk : k < 1 ∨ 100 < k) :
    Calls Tryz.prog 77 #[.slice a0 len0 cap0, .int .i64 k, .slice a2 len2 cap2] w fun e w' => e = .returned (.tuple #[.slice none 0 0, .int .i64 1]) ∧ w' = w := by
  go_enter Tryz.func77, Tryz.ntmps77
  rcases hk with hk | hk
  · go_wp2
    go_ret2
    exact ⟨rfl, rfl⟩
  · have hk2 : ¬ k < 1 := by omega
    go_wp2
    go_ret2
    exact ⟨rfl, rfl⟩
theorem fput_long (a0 a2 : Option Addr) (len0 cap0 len2 cap2 : Nat) (k : Int) (w : World) (hk : 1 ≤ k) (hk2 : k ≤ 100) (hl : 60000 < len2) (hm : len2 ≤ 70368744177664) :
    Calls Tryz.prog 77 #[.slice a0 len0 cap0, .int .i64 k, .slice a2 len2 cap2] w fun e w' => e = .returned (.tuple #[.slice none 0 0, .int .i64 2]) ∧ w' = w := by
  have hn1 : ¬ k < 1 := by omega
  have hn2 : ¬ 100 < k := by omega
  go_enter Tryz.func77, Tryz.ntmps77
  go_wp2
  go_ret2
  exact ⟨rfl, rfl⟩

set_option maxHeartbeats 400000 in
theorem fput_any (a0 a2 : Option Addr) (len0 cap0 len2 cap2 : Nat) (zs ys : List Int) (k : Int) (w : World) (hk : 1 ≤ k) (hk2 : k ≤ 100) (hl : len2 ≤ 60000) (hm : len0 ≤ 35184372088832) (h0 : Bs w a0 len0 cap0 zs) (h2 : Bs w a2 len2 cap2 ys) :
    Calls Tryz.prog 77 #[.slice a0 len0 cap0, .int .i64 k, .slice a2 len2 cap2] w fun e w' => ∃ v, e = .returned (.tuple #[v, .int .i64 0]) ∧ Own w' w.heap.size v (zs ++ fr k ys) ∧ Below w.heap.size w w' := by
  obtain ⟨i0, hi, hz0, hz1, hz2⟩ := info_parts info5
  have hn1 : ¬ k < 1 := by omega
  have hn2 : ¬ 100 < k := by omega
  have l0 := h0.1
  have l2 := h2.1
  have H0 := hide (fun W (hW : Below w.heap.size w W) => h0.below hW (Nat.le_refl _))
  have H2 := hide (fun W (hW : Below w.heap.size w W) => h2.below hW (Nat.le_refl _))
  have HH := hide (hd_range k len2 hk hk2 hl)
  have HA := hide (show #[Value.int IntKind.u8 k, Value.int IntKind.u8 ((len2 : Int) / 65536), Value.int IntKind.u8 ((len2 : Int) / 256), Value.int IntKind.u8 ((len2 : Int) % 256)] = (bv (hd k len2)).toArray by
    simp [bv, hd])
  clear h0 h2
  go_enter Tryz.func77, Tryz.ntmps77
  go_wp2_with (first
    | (at_make; refine wpList_make_own _ rfl _ _ 44 rfl (w.heap.size + 1) 5 i0 (.int .u8 0) 1 Tryz.underlying44 hi hz0 hz1 .i64 .i64 _ (len0 + 8 + len2 + 4) rfl rfl ?c1 ?c2 ?c3 ?c4 ?_)
    | fail)
  case c2 => omega
  case c3 => unfold maxLen; omega
  intro w1 hown hg
  have hs1 : (w.alloc (Obj.cells #[Value.int IntKind.u8 k, Value.int IntKind.u8 ((len2 : Int) / 65536), Value.int IntKind.u8 ((len2 : Int) / 256), Value.int IntKind.u8 ((len2 : Int) % 256)] 5)).heap.size = w.heap.size + 1 := by simp
  have hA : Below w.heap.size w (w.alloc (Obj.cells #[Value.int IntKind.u8 k, Value.int IntKind.u8 ((len2 : Int) / 65536), Value.int IntKind.u8 ((len2 : Int) / 256), Value.int IntKind.u8 ((len2 : Int) % 256)] 5)) := (Below.refl _ w).alloc (Nat.le_refl _) _
  have hD := bs_newL w (hd k len2) HH.out _ HA.out 4 rfl (0, 0)
  have HO1 := hide (show Own w1 (w.heap.size + 1) _ [] from hown)
  generalize w.alloc (Obj.cells #[Value.int IntKind.u8 k, Value.int IntKind.u8 ((len2 : Int) / 65536), Value.int IntKind.u8 ((len2 : Int) / 256), Value.int IntKind.u8 ((len2 : Int) % 256)] 5) = W0 at *
  have HS0 := hide hs1
  have HDK := hide (fun W (hW : Below (w.heap.size + 1) W0 W) => hD.below hW (by rw [hs1]; exact Nat.le_refl _))
  have HBK := hide (fun W (hW : Below (w.heap.size + 1) W0 W) => hA.trans (hW.mono (Nat.le_succ _)))
  have hb1 := (Below.refl (w.heap.size + 1) W0).grown hg (by rw [hs1]; exact Nat.le_refl _) (fun k hk => by cases hk)
  have HSK := hide (fun W (hW : Below (w.heap.size + 1) W0 W) => show w.heap.size + 1 ≤ W.heap.size by have := hW.size; rwa [hs1] at this)
  have HB1 := hide hb1
  clear hown hg hb1 hD HA hA hs1
  go_wp2_with (first
    | (at_builtin; refine wpList_append_bytes rfl _ _ rfl (w.heap.size + 1) _ [] rfl HO1.out a0 len0 cap0 zs rfl (H0.out _ (HBK.out _ HB1.out)) ?d1 ?d2 ?_)
    | fail)
  case d1 => simp; omega
  case d2 => exact HSK.out _ HB1.out
  intro v2 w2 ho2 hb2
  have HB2 := hide (HB1.out.trans hb2)
  have HO2 := hide (show Own w2 (w.heap.size + 1) v2 zs from ho2)
  clear ho2 hb2 HO1 HB1
  go_wp2_with fail
  refine (seal_any _ 4 4 (hd k len2) w2 (by omega) (HDK.out _ HB2.out)).mono ?_
  rintro e w3 ⟨v3, rfl, ho3, hb3⟩
  obtain ⟨g3, c3, rfl, -, -, hbs3⟩ := own_at ho3 (sl_range _ HH.out) 8 (by rw [sl_len, hd_len]) (by omega)
  have HO3 := hide (own_keep HO2.out hb3)
  have HB3 := hide (HB2.out.trans (hb3.mono (HSK.out _ HB2.out)))
  have HS3 := hide hbs3
  clear ho3 hb3 hbs3 HO2
  go_wp2_with (first
    | (at_builtin; refine wpList_append_bytes rfl _ _ rfl (w.heap.size + 1) _ zs rfl HO3.out _ 8 c3 _ rfl HS3.out ?e1 ?e2 ?_)
    | fail)
  case e1 => omega
  case e2 => exact HSK.out _ HB3.out
  intro v4 w4 ho4 hb4
  have HB4 := hide (HB3.out.trans hb4)
  have HO4 := hide ho4
  clear ho4 hb4 HO3 HB3 HS3
  go_wp2_with fail
  refine (seal_any a2 len2 cap2 ys w4 (by omega) (H2.out _ (HBK.out _ HB4.out))).mono ?_
  rintro e w5 ⟨v5, rfl, ho5, hb5⟩
  obtain ⟨g5, c5, rfl, -, -, hbs5⟩ := own_at ho5 (sl_range _ (bs_range (H2.out _ (Below.refl _ w)))) (len2 + 4) (by rw [sl_len, l2]) (by omega)
  have HO5 := hide (own_keep HO4.out hb5)
  have HB5 := hide (HB4.out.trans (hb5.mono (HSK.out _ HB4.out)))
  have HS5 := hide hbs5
  clear ho5 hb5 hbs5 HO4
  go_wp2_with (first
    | (at_builtin; refine wpList_append_bytes rfl _ _ rfl (w.heap.size + 1) _ (zs ++ sl (hd k len2)) rfl HO5.out _ (len2 + 4) c5 _ rfl HS5.out ?f1 ?f2 ?_)
    | fail)
  case f1 => rw [List.length_append, sl_len, hd_len]; omega
  case f2 => exact HSK.out _ HB5.out
  intro v6 w6 ho6 hb6
  have HB6 := hide (HBK.out _ (HB5.out.trans hb6))
  have HO6 := hide ho6
  clear ho6 hb6 HO5 HB5 HS5
  go_wp2
  go_ret2
  exact ⟨_, rfl, by unfold fr; rw [l2]; exact own_base HO6.out (Nat.le_succ _), HB6.out⟩

end Go.Proofs.YtcahlmneancapaaGreatDoor.Clep

/- Plain mathematics of numbers as bytes: what Put, Take, Sign, Unsign of package num come to; what is put is taken again. No conditions. -/
namespace Go.Proofs.YtcahlmneancapaaGreatDoor.Clep
open Go.RowKit
set_option linter.unusedVariables false
set_option maxRecDepth 10000

def sgn (n : Int) : Int := if n < 0 then -2 * n - 1 else 2 * n
def usgn (n : Int) : Int := if n % 2 = 1 then -(n / 2) - 1 else n / 2
theorem sgn_range (n : Int) (h0 : -9223372036854775808 ≤ n) (h1 : n ≤ 9223372036854775807) : 0 ≤ sgn n ∧ sgn n ≤ 18446744073709551615 := by
  unfold sgn; split <;> omega
theorem usgn_range (n : Int) (h0 : 0 ≤ n) (h1 : n ≤ 18446744073709551615) : -9223372036854775808 ≤ usgn n ∧ usgn n ≤ 9223372036854775807 := by
  unfold usgn; split <;> omega
theorem usgn_sgn (n : Int) : usgn (sgn n) = n := by
  unfold usgn sgn; split <;> split <;> omega
theorem sgn_usgn (n : Int) (h0 : 0 ≤ n) : sgn (usgn n) = n := by
  unfold usgn sgn; split <;> split <;> omega
theorem sign_bits (n : Int) (h0 : -9223372036854775808 ≤ n) (h1 : n ≤ 9223372036854775807) :
    bits BinOp.xor IntKind.u64 (IntKind.u64.wrap (IntKind.u64.wrap n * 2)) (IntKind.u64.wrap (n / 9223372036854775808)) = sgn n := by
  simp only [IntKind.wrap_u64]
  unfold sgn
  by_cases hn : n < 0
  · rw [if_pos hn]
    rw [show n / 9223372036854775808 % 18446744073709551616 = ((18446744073709551615 : Nat) : Int) from by omega,
      show n % 18446744073709551616 * 2 % 18446744073709551616 = (((2 * n + 18446744073709551616).toNat : Nat) : Int) from by omega,
      u64_xor_nat _ _ (by omega) (by omega), xor_all _ (by omega)]
    omega
  · rw [if_neg hn]
    rw [show n / 9223372036854775808 % 18446744073709551616 = ((0 : Nat) : Int) from by omega,
      show n % 18446744073709551616 * 2 % 18446744073709551616 = (((2 * n).toNat : Nat) : Int) from by omega,
      u64_xor_nat _ _ (by omega) (by omega), Nat.xor_zero]
    omega
theorem i64_xor (a b : Int) : bits .xor .i64 a b = IntKind.i64.wrap ((BitVec.ofInt 64 a ^^^ BitVec.ofInt 64 b).toNat : Int) := rfl
theorem i64_xor_ones (a : Nat) (ha : a < 9223372036854775808) : bits .xor .i64 (a : Int) (-1) = -1 - (a : Int) := by
  rw [i64_xor, show BitVec.ofInt 64 (-1) = BitVec.allOnes 64 from by decide, BitVec.xor_allOnes, BitVec.toNat_not, ofInt_u64 a (by omega)]
  simp [IntKind.wrap, IntKind.bits, IntKind.signed]
  omega
theorem i64_xor_zero (a : Nat) (ha : a < 9223372036854775808) : bits .xor .i64 (a : Int) 0 = (a : Int) := by
  rw [i64_xor, show BitVec.ofInt 64 0 = 0#64 from by decide, BitVec.xor_zero, ofInt_u64 a (by omega)]
  simp [IntKind.wrap, IntKind.bits, IntKind.signed]
  omega
theorem unsign_bits (n : Int) (h0 : 0 ≤ n) (h1 : n ≤ 18446744073709551615) :
    bits BinOp.xor IntKind.i64 (n / 2) (wrap64 (-wrap64 (bits BinOp.and IntKind.u64 n 1))) = usgn n := by
  have ha : bits BinOp.and IntKind.u64 n 1 = n % 2 := by
    rw [u64_and n 1 h0 (by omega) (by omega) (by omega), show (1 : Int).toNat = 1 from rfl, nat_mask1]
    omega
  rw [ha, show n / 2 = (((n / 2).toNat : Nat) : Int) from by omega]
  unfold usgn
  by_cases hn : n % 2 = 1
  · rw [if_pos hn, hn, show wrap64 (-wrap64 1) = -1 from by decide +kernel, i64_xor_ones _ (by omega)]
    omega
  · rw [if_neg hn, show n % 2 = 0 from by omega, show wrap64 (-wrap64 0) = 0 from by decide +kernel, i64_xor_zero _ (by omega)]
    omega
def tk : List Int → Nat → Int → Int × Int × Int
  | [], _, _ => (0, 0, 4)
  | c :: r, i, n => if i = 9 ∧ 1 < c then (0, 0, 3) else if 128 ≤ c then tk r (i + 1) (n + (c - 128) * 2 ^ (7 * i))
      else if c = 0 ∧ 0 < i then (0, 0, 3) else (n + c * 2 ^ (7 * i), (i : Int) + 1, 0)
theorem tk_end (zs : List Int) (k : Nat) (n : Int) (h : zs.length ≤ k) : tk (zs.drop k) k n = (0, 0, 4) := by
  rw [List.drop_eq_nil_of_le h]; rfl
theorem tk_over (zs : List Int) (k : Nat) (n : Int) (h : k < zs.length) (h9 : k = 9) (hc : 1 < zs.getD k 0) : tk (zs.drop k) k n = (0, 0, 3) := by
  rw [drop_get zs k h, tk, if_pos ⟨h9, hc⟩]
theorem tk_more (zs : List Int) (k : Nat) (n : Int) (h : k < zs.length) (h9 : k < 9) (hc : 128 ≤ zs.getD k 0) :
    tk (zs.drop k) k n = tk (zs.drop (k + 1)) (k + 1) (n + (zs.getD k 0 - 128) * 2 ^ (7 * k)) := by
  rw [drop_get zs k h, tk, if_neg (by omega), if_pos hc]
theorem tk_zero (zs : List Int) (k : Nat) (n : Int) (h : k < zs.length) (h0 : 0 < k) (hc : zs.getD k 0 = 0) : tk (zs.drop k) k n = (0, 0, 3) := by
  rw [drop_get zs k h, tk, if_neg (by omega), if_neg (by omega), if_pos ⟨hc, h0⟩]
theorem tk_last (zs : List Int) (k : Nat) (n : Int) (h : k < zs.length) (h9 : k = 9 → zs.getD k 0 ≤ 1) (hc : zs.getD k 0 < 128) (h0 : zs.getD k 0 = 0 → k = 0) :
    tk (zs.drop k) k n = (n + zs.getD k 0 * 2 ^ (7 * k), (k : Int) + 1, 0) := by
  rw [drop_get zs k h, tk, if_neg (by omega), if_neg (by omega), if_neg (by omega)]
theorem or_shift (N c : Int) (k : Nat) (hk : k ≤ 9) (hN : 0 ≤ N ∧ N < 2 ^ (7 * k)) (h0 : 0 ≤ c) (hc : c < 256) (h9 : k = 9 → c ≤ 1) :
    bits BinOp.or IntKind.u64 N (IntKind.u64.wrap (IntKind.u64.wrap (bits BinOp.andNot IntKind.u8 c 128) * 2 ^ (7 * k))) = N + (c % 128) * 2 ^ (7 * k) := by
  obtain ⟨C, rfl⟩ := Int.eq_ofNat_of_zero_le h0
  obtain ⟨M, rfl⟩ := Int.eq_ofNat_of_zero_le hN.1
  have e1 : bits BinOp.andNot IntKind.u8 (C : Int) 128 = ((C % 128 : Nat) : Int) := by
    rw [show (128 : Int) = ((128 : Nat) : Int) from rfl, u8_andNot_nat C 128 (by omega) (by omega), show 255 - 128 = 127 from rfl, nat_mask7]
  have hp : (2 : Nat) ^ (7 * k) ≤ 2 ^ 63 := Nat.pow_le_pow_right (by omega) (by omega)
  have hd : C % 128 * 2 ^ (7 * k) < 18446744073709551616 := by
    by_cases h : k = 9
    · subst h; have := h9 rfl; have hC : C ≤ 1 := by omega
      have : C % 128 ≤ 1 := by omega
      calc C % 128 * 2 ^ (7 * 9) ≤ 1 * 2 ^ (7 * 9) := Nat.mul_le_mul_right _ this
        _ < 18446744073709551616 := by decide
    · have hp' : (2 : Nat) ^ (7 * k) ≤ 2 ^ 56 := Nat.pow_le_pow_right (by omega) (by omega)
      calc C % 128 * 2 ^ (7 * k) ≤ 127 * 2 ^ 56 := Nat.mul_le_mul (by omega) hp'
        _ < 18446744073709551616 := by decide
  have hM : M < 2 ^ (7 * k) := by have := hN.2; exact_mod_cast this
  rw [e1, IntKind.wrap_u64, IntKind.wrap_u64]
  rw [show ((C % 128 : Nat) : Int) % 18446744073709551616 = ((C % 128 : Nat) : Int) from by omega,
    show ((C % 128 : Nat) : Int) * 2 ^ (7 * k) = ((C % 128 * 2 ^ (7 * k) : Nat) : Int) from by push_cast; rfl,
    show ((C % 128 * 2 ^ (7 * k) : Nat) : Int) % 18446744073709551616 = ((C % 128 * 2 ^ (7 * k) : Nat) : Int) from by omega,
    u64_or_nat M _ (by omega) hd, Nat.or_comm, nat_join (7 * k) _ _ (Nat.mul_mod_left _ _) hM]
  push_cast
  omega
theorem shift_lt (N c : Int) (k : Nat) (hN : 0 ≤ N ∧ N < 2 ^ (7 * k)) (h0 : 128 ≤ c) (hc : c < 256) : 0 ≤ N + (c - 128) * 2 ^ (7 * k) ∧ N + (c - 128) * 2 ^ (7 * k) < 2 ^ (7 * (k + 1)) := by
  obtain ⟨C, hC⟩ := Int.eq_ofNat_of_zero_le (show 0 ≤ c - 128 by omega)
  obtain ⟨M, rfl⟩ := Int.eq_ofNat_of_zero_le hN.1
  have hM : M < 2 ^ (7 * k) := by have := hN.2; exact_mod_cast this
  rw [hC, show ((M : Int) + (C : Int) * 2 ^ (7 * k)) = ((M + C * 2 ^ (7 * k) : Nat) : Int) from by push_cast; rfl]
  refine ⟨by omega, ?_⟩
  have h1 : C * 2 ^ (7 * k) ≤ 127 * 2 ^ (7 * k) := Nat.mul_le_mul_right _ (by omega)
  have h2 : (2 : Nat) ^ (7 * (k + 1)) = 128 * 2 ^ (7 * k) := by rw [show 7 * (k + 1) = 7 * k + 7 from by omega, Nat.pow_add]; omega
  have : M + C * 2 ^ (7 * k) < 2 ^ (7 * (k + 1)) := by omega
  exact_mod_cast this
theorem and_high (c : Int) (h0 : 0 ≤ c) (hc : c < 256) : (bits BinOp.and IntKind.u8 c 128 != 0) = decide (128 ≤ c) := by
  obtain ⟨C, rfl⟩ := Int.eq_ofNat_of_zero_le h0
  rw [show (128 : Int) = ((128 : Nat) : Int) from rfl, u8_and_nat C 128 (by omega) (by omega), show (128 : Nat) = 2 ^ 7 from rfl, nat_bit 7 C]
  by_cases h : 128 ≤ C
  · rw [show C / 2 ^ 7 % 2 = 1 from by omega]; simp; omega
  · rw [show C / 2 ^ 7 % 2 = 0 from by omega]; simp; omega
def enc : Nat → Int → List Int
  | 0, n => [n]
  | f + 1, n => if n < 128 then [n] else (n % 128 + 128) :: enc f (n / 128)
/-- What Put writes of n. -/
def pu (n : Int) : List Int := enc 9 n
theorem enc_small (f : Nat) (n : Int) (h : n < 128) : enc f n = [n] := by
  cases f with
  | zero => rfl
  | succ f => rw [enc, if_pos h]
theorem enc_big (f : Nat) (n : Int) (h : 128 ≤ n) : enc (f + 1) n = (n % 128 + 128) :: enc f (n / 128) := by
  rw [enc, if_neg (by omega)]
theorem fuel_step (f : Nat) (n : Int) (h0 : 128 ≤ n) (h : n < 128 ^ (f + 1)) : ∃ g, f = g + 1 ∧ n / 128 < 128 ^ (g + 1) := by
  cases f with
  | zero => exact absurd h (by simp; omega)
  | succ g =>
    refine ⟨g, rfl, ?_⟩
    have e : (128 : Int) ^ (g + 1 + 1) = 128 ^ (g + 1) * 128 := Int.pow_succ _ _
    rw [e] at h
    generalize (128 : Int) ^ (g + 1) = q at *
    omega
theorem u64_fuel (n : Int) (h : n ≤ 18446744073709551615) : n < 128 ^ (9 + 1) := by
  have : (128 : Int) ^ (9 + 1) = 1180591620717411303424 := by decide
  omega
theorem enc_len : ∀ (f : Nat) (n : Int), 1 ≤ (enc f n).length ∧ (enc f n).length ≤ f + 1
  | 0, n => by simp [enc]
  | f + 1, n => by
    have := enc_len f (n / 128)
    rw [enc]; split <;> simp; omega
theorem enc_range : ∀ (f : Nat) (n : Int), 0 ≤ n → n < 128 ^ (f + 1) → ∀ z ∈ enc f n, 0 ≤ z ∧ z < 256
  | 0, n, h0, h, z, hz => by simp [enc] at hz; subst hz; simp at h; omega
  | f + 1, n, h0, h, z, hz => by
    by_cases hs : n < 128
    · rw [enc_small _ _ hs] at hz; simp at hz; subst hz; omega
    · rw [enc_big _ _ (by omega)] at hz
      obtain ⟨g, hg, hlt⟩ := fuel_step (f + 1) n (by omega) h
      obtain rfl : f = g := by omega
      rcases List.mem_cons.1 hz with rfl | hz
      · omega
      · exact enc_range f (n / 128) (by omega) hlt z hz
theorem or_high (n : Int) (h0 : 0 ≤ n) : bits BinOp.or IntKind.u8 (IntKind.u8.wrap n) 128 = n % 128 + 128 := by
  rw [IntKind.wrap_u8']
  obtain ⟨N, rfl⟩ := Int.eq_ofNat_of_zero_le h0
  rw [show (128 : Int) = ((128 : Nat) : Int) from rfl, show ((N : Int) % 256) = ((N % 256 : Nat) : Int) from by omega, u8_or_nat _ _ (by omega) (by omega)]
  have h1 : N % 256 ||| 128 = N % 128 + 128 := by
    have hj : (128 : Nat) ||| N % 128 = 128 + N % 128 := nat_join 7 128 (N % 128) (by decide) (by omega)
    by_cases hb : N % 256 < 128
    · rw [show N % 256 = N % 128 from by omega, Nat.or_comm, hj]; omega
    · have h2 : (128 : Nat) ||| N % 128 = N % 256 := by rw [hj]; omega
      rw [← h2, Nat.or_comm, ← Nat.or_assoc, Nat.or_self, hj]; omega
  rw [h1]; omega
theorem pow7 (i : Nat) : (2 : Int) ^ (7 * (i + 1)) = 128 * 2 ^ (7 * i) := by
  rw [show 7 * (i + 1) = 7 * i + 7 from by omega, Int.pow_add]
  rw [Int.mul_comm]; rfl
theorem pow7_pos (i : Nat) : (0 : Int) < 2 ^ (7 * i) := Int.pow_pos (by omega)
/-- All of hi go on; the last one ends. -/
theorem enc_split : ∀ (f : Nat) (n : Int), 0 ≤ n → n < 128 ^ (f + 1) → ∃ hi last, enc f n = hi ++ [last] ∧ (∀ z ∈ hi, 128 ≤ z ∧ z < 256) ∧ 0 ≤ last ∧ last < 128 ∧ hi.length ≤ f
  | 0, n, h0, h => ⟨[], n, by simp [enc], by simp, h0, by simpa using h, by simp⟩
  | f + 1, n, h0, h => by
    by_cases hs : n < 128
    · exact ⟨[], n, by simp [enc_small _ _ hs], by simp, h0, hs, by simp⟩
    · obtain ⟨g, hg, hlt⟩ := fuel_step (f + 1) n (by omega) h
      obtain rfl : f = g := by omega
      obtain ⟨hi, last, e, hh, h1, h2, h3⟩ := enc_split f (n / 128) (by omega) hlt
      refine ⟨(n % 128 + 128) :: hi, last, by rw [enc_big _ _ (by omega), e]; rfl, ?_, h1, h2, by simp; omega⟩
      intro z hz
      rcases List.mem_cons.1 hz with rfl | hz
      · omega
      · exact hh z hz
theorem tk_highs : ∀ (l r : List Int) (i : Nat) (n : Int), (∀ z ∈ l, 128 ≤ z) → i + l.length ≤ 9 → ∃ n', tk (l ++ r) i n = tk r (i + l.length) n'
  | [], r, i, n, _, _ => ⟨n, by simp⟩
  | c :: l, r, i, n, h, hl => by
    simp only [List.length_cons] at hl
    obtain ⟨n', e⟩ := tk_highs l r (i + 1) (n + (c - 128) * 2 ^ (7 * i)) (fun z hz => h z (List.mem_cons_of_mem _ hz)) (by omega)
    refine ⟨n', ?_⟩
    rw [List.cons_append, tk, if_neg (by omega), if_pos (h c (by simp)), e]
    simp only [List.length_cons]
    rw [show i + 1 + l.length = i + (l.length + 1) from by omega]
theorem tk_enc : ∀ (f : Nat) (n : Int) (i : Nat) (acc : Int) (r : List Int), 0 ≤ n → n < 128 ^ (f + 1) → n * 2 ^ (7 * i) ≤ 18446744073709551615 → (n = 0 → i = 0) → i ≤ 9 →
    tk (enc f n ++ r) i acc = (acc + n * 2 ^ (7 * i), (i : Int) + (enc f n).length, 0)
  | f, n, i, acc, r, h0, h, hb, hz, hi => by
    have h9 : i = 9 → n ≤ 1 := by
      intro e; subst e
      rw [show (2 : Int) ^ (7 * 9) = 9223372036854775808 from by decide] at hb
      omega
    by_cases hs : n < 128
    · rw [enc_small _ _ hs]
      show tk (n :: r) i acc = _
      rw [tk, if_neg (by omega), if_neg (by omega), if_neg (by omega)]
      rfl
    · cases f with
      | zero => simp at h; omega
      | succ f =>
        obtain ⟨g, hg, hlt⟩ := fuel_step (f + 1) n (by omega) h
        obtain rfl : f = g := by omega
        have hp := pow7_pos i
        have hq := pow7 i
        have e1 : n * 2 ^ (7 * i) = (n % 128) * 2 ^ (7 * i) + n / 128 * 2 ^ (7 * (i + 1)) := by
          rw [hq, ← Int.mul_assoc, ← Int.add_mul]
          congr 1; omega
        have hnn : 0 ≤ (n % 128) * 2 ^ (7 * i) := Int.mul_nonneg (by omega) (by omega)
        rw [enc_big _ _ (by omega), List.cons_append, tk, if_neg (by omega), if_pos (by omega),
          tk_enc f (n / 128) (i + 1) _ r (by omega) hlt (by omega) (by omega) (by omega)]
        rw [show n % 128 + 128 - 128 = n % 128 from by omega, Int.add_assoc, ← e1]
        simp only [List.length_cons]
        refine Prod.ext rfl (Prod.ext ?_ rfl)
        simp only
        omega
theorem tk_pu (n : Int) (r : List Int) (h0 : 0 ≤ n) (h1 : n ≤ 18446744073709551615) : tk (pu n ++ r) 0 0 = (n, ((pu n).length : Int), 0) := by
  have := tk_enc 9 n 0 0 r h0 (u64_fuel n h1) (by simpa using h1) (fun _ => rfl) (by omega)
  unfold pu
  rw [this]
  simp
theorem pu_range (n : Int) (h0 : 0 ≤ n) (h1 : n ≤ 18446744073709551615) : ∀ z ∈ pu n, 0 ≤ z ∧ z < 256 := enc_range 9 n h0 (u64_fuel n h1)
theorem pu_len (n : Int) : 1 ≤ (pu n).length ∧ (pu n).length ≤ 10 := enc_len 9 n
theorem tk_size : ∀ (zs : List Int) (i : Nat) (n : Int), i ≤ 9 → 0 ≤ (tk zs i n).2.1 ∧ (tk zs i n).2.1 ≤ 10 ∧ (tk zs i n).2.1 ≤ i + zs.length
  | [], i, n, _ => by simp only [tk, List.length_nil]; omega
  | c :: r, i, n, hi => by
    rw [tk]
    simp only [List.length_cons]
    split
    · simp only; omega
    · split
      · rename_i h1 h2
        have := tk_size r (i + 1) (n + (c - 128) * 2 ^ (7 * i)) (by omega)
        omega
      · split <;> simp only <;> omega
/-- What a Take leaves: no error, or one; the number fits; it took a byte at least, and no more than there are. -/
theorem tk_facts : ∀ (zs : List Int) (i : Nat) (n : Int), i ≤ 9 → (∀ z ∈ zs, 0 ≤ z ∧ z < 256) → 0 ≤ n → n < 2 ^ (7 * i) →
    0 ≤ (tk zs i n).1 ∧ (tk zs i n).1 ≤ 18446744073709551615 ∧ ((tk zs i n).2.2 = 0 → (i : Int) + 1 ≤ (tk zs i n).2.1)
  | [], i, n, _, _, _, _ => by simp [tk]
  | c :: r, i, n, hi, hz, h0, hn => by
    have hc := hz c (by simp)
    rw [tk]
    split
    · simp
    · split
      · rename_i h1 h2
        have hs := shift_lt n c i ⟨h0, hn⟩ h2 (by omega)
        have := tk_facts r (i + 1) (n + (c - 128) * 2 ^ (7 * i)) (by omega) (fun z hz' => hz z (by simp [hz'])) hs.1 hs.2
        omega
      · split
        · simp
        · rename_i h1 h2 h3
          have hp := pow7_pos i
          have hnn : 0 ≤ c * 2 ^ (7 * i) := Int.mul_nonneg hc.1 (by omega)
          refine ⟨by simp only; omega, ?_, fun _ => by simp only; omega⟩
          simp only
          by_cases h9 : i = 9
          · subst h9
            have hc1 : c ≤ 1 := by omega
            rw [show (2 : Int) ^ (7 * 9) = 9223372036854775808 from by decide] at *
            omega
          · have h8 : (2 : Int) ^ (7 * i) ≤ 2 ^ 56 := by
              have : (2 : Nat) ^ (7 * i) ≤ 2 ^ 56 := Nat.pow_le_pow_right (by omega) (by omega)
              exact_mod_cast this
            have hm : c * 2 ^ (7 * i) ≤ 127 * 2 ^ (7 * i) := Int.mul_le_mul_of_nonneg_right (by omega) (by omega)
            rw [show (2 : Int) ^ 56 = 72057594037927936 from by decide] at h8
            omega

end Go.Proofs.YtcahlmneancapaaGreatDoor.Clep
