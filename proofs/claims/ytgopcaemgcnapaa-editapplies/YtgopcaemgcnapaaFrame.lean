/- What the small functions of package frame do when called (walks over the translated program). No conditions but the kinds' own bounds. -/
import Derived.Test.YtgopcaemgcnapaaLits
import Derived.Test.YtgopcaemgcnapaaAppend
import Derived.Test.YtgopcaemgcnapaaCut
import Derived.BigRegion
namespace Go.Proofs.Ytgopcaemgcnapaa.Clep
open Go.RowKit
set_option linter.unusedVariables false
set_option maxRecDepth 10000

/-- A place: kind, from, to. -/
def pl (k f t : Int) : Value := .agg #[.int .i64 k, .int .i64 f, .int .i64 t]

theorem next_any (k f t : Int) (w : World) (h0 : 0 ≤ t) (h1 : t ≤ 140737488355328) :
    Calls Try.prog 58 #[pl k f t] w fun e w' => e = .returned (.int .i64 (t + 4)) ∧ Below w.heap.size w w' := by
  unfold pl
  go_enter Try.func58, Try.ntmps58
  go_wp2
  go_ret
  exact ⟨rfl, (Below.refl _ w).alloc (Nat.le_refl _) _⟩
attribute [local go_sem ↓] cut_h cut_l cut_lh

theorem body_any (ao : Option Addr) (len cap : Nat) (zs : List Int) (k f t : Int) (w : World) (hm : len ≤ 70368744177664) (h : Bs w ao len cap zs) (h0 : 0 ≤ f) (h1 : f ≤ t) (h2 : t ≤ len) :
    Calls Try.prog 57 #[pl k f t, .slice ao len cap] w fun e w' => ∃ v, e = .returned v ∧ Own w' w.heap.size v ((zs.take t.toNat).drop f.toNat) ∧ Below w.heap.size w w' := by
  have hcap := h.2.1.1
  have htc : t ≤ (cap : Int) := by omega
  have HB := hide (fun W (hW : Below w.heap.size w W) => (h.cut f.toNat t.toNat (by omega) (by omega)).below hW (Nat.le_refl _))
  clear h
  unfold pl
  go_enter Try.func57, Try.ntmps57
  go_wp2_with (first
    | (at_builtin; refine wpList_append_bytes rfl _ _ rfl w.heap.size _ [] rfl (World.ownsRow_nil _ _ _ _) _ _ _ _ rfl (HB.out _ ?c0) ?c1 ?c2 ?_)
    | fail)
  case c0 => exact (Below.refl _ w).alloc (Nat.le_refl _) _
  case c1 => simp; omega
  case c2 => simp
  intro v' w1 ho hb
  have HO := hide ho
  have HB2 := hide (((Below.refl _ w).alloc (Nat.le_refl _) _).trans hb)
  clear ho hb
  go_wp2
  go_ret
  exact ⟨_, rfl, HO.out, HB2.out⟩

theorem i64_or_nat (a b : Nat) (ha : a < 4611686018427387904) (hb : b < 4611686018427387904) : bits .or .i64 (a : Int) (b : Int) = ((a ||| b : Nat) : Int) := by
  have e : bits .or .i64 (a : Int) (b : Int) = IntKind.i64.wrap ((BitVec.ofInt 64 (a : Int) ||| BitVec.ofInt 64 (b : Int)).toNat : Int) := rfl
  have h1 : (BitVec.ofInt 64 (a : Int) ||| BitVec.ofInt 64 (b : Int)).toNat = a ||| b := by
    rw [BitVec.toNat_or, BitVec.toNat_ofInt, BitVec.toNat_ofInt]
    congr 1 <;> omega
  have h2 : a ||| b < 2 ^ 62 := Nat.or_lt_two_pow ha hb
  rw [e, h1]
  generalize (a ||| b) = k at *
  simp [IntKind.wrap, IntKind.bits, IntKind.signed]
  omega
theorem head_bits (x y z : Int) (hx : 0 ≤ x ∧ x < 256) (hy : 0 ≤ y ∧ y < 256) (hz : 0 ≤ z ∧ z < 256) : bits BinOp.or IntKind.i64 (bits BinOp.or IntKind.i64 (x * 65536) (y * 256)) z = x * 65536 + y * 256 + z := by
  obtain ⟨X, rfl⟩ := Int.eq_ofNat_of_zero_le hx.1
  obtain ⟨Y, rfl⟩ := Int.eq_ofNat_of_zero_le hy.1
  obtain ⟨Z, rfl⟩ := Int.eq_ofNat_of_zero_le hz.1
  rw [show (X : Int) * 65536 = ((X * 65536 : Nat) : Int) from by omega, show (Y : Int) * 256 = ((Y * 256 : Nat) : Int) from by omega, i64_or_nat _ _ (by omega) (by omega), nat_join 16 (X * 65536) (Y * 256) (by omega) (by omega), i64_or_nat _ _ (by omega) (by omega), nat_join 8 (X * 65536 + Y * 256) Z (by omega) (by omega)]
  omega

theorem fread_any (b off len cap : Nat) (zs : List Int) (p : Int) (w : World) (hm : len ≤ 70368744177664) (h : Bs w (some ⟨b, off, none⟩) len cap zs) (P : Nat) (hp : p = P) (h2 : P + 8 ≤ len) :
    Calls Try.prog 71 #[.slice (some ⟨b, off, none⟩) len cap, .int .i64 p] w fun e w' => e = .returned (pl (zs.getD P 0) (p + 8) (p + 8 + (zs.getD (P + 1) 0 * 65536 + zs.getD (P + 2) 0 * 256 + zs.getD (P + 3) 0))) ∧ Below w.heap.size w w' := by
  subst hp
  obtain ⟨_, _, hr, hcell⟩ := h
  obtain ⟨b', off', hb, hc⟩ := hcell (by omega)
  cases hb
  have c0 := hc P (by omega)
  have c1 := hc (P + 1) (by omega)
  have c2 := hc (P + 2) (by omega)
  have c3 := hc (P + 3) (by omega)
  have r0 := hr P
  have r1 := hr (P + 1)
  have r2 := hr (P + 2)
  have r3 := hr (P + 3)
  clear hc hcell hr
  generalize zs.getD P 0 = z0 at *
  generalize zs.getD (P + 1) 0 = z1 at *
  generalize zs.getD (P + 2) 0 = z2 at *
  generalize zs.getD (P + 3) 0 = z3 at *
  unfold pl
  go_enter Try.func71, Try.ntmps71
  go_wp2_with fail
  have hW : Below w.heap.size w (w.alloc (Obj.cells #[Value.int IntKind.i64 0, Value.int IntKind.i64 0, Value.int IntKind.i64 0] 109)) := (Below.refl _ w).alloc (Nat.le_refl _) _
  have hb := World.block_lt_of_cell? w _ c0
  have hX := head_bits z1 z2 z3 r1 r2 r3
  have d0 := (hW.cell (p := ⟨b, off + P, none⟩) hb).trans c0
  have d1 := (hW.cell (p := ⟨b, off + (P + 1), none⟩) hb).trans c1
  have d2 := (hW.cell (p := ⟨b, off + (P + 2), none⟩) hb).trans c2
  have d3 := (hW.cell (p := ⟨b, off + (P + 3), none⟩) hb).trans c3
  go_region
  go_wp2
  refine bodyPost_ret (v := pl z0 (P + 8) (P + 8 + (z1 * 65536 + z2 * 256 + z3))) (by simp [results, Try.results71, go_sem, pl]) rfl ⟨rfl, ?_⟩
  exact ((Below.refl _ w).alloc (Nat.le_refl _) _).drew

end Go.Proofs.Ytgopcaemgcnapaa.Clep
