/- What the walks over filters share: blocks held whole, what of the memory may have changed, sum.Hash and the document's own Hash when called. Conditions: the kinds' own bounds. -/
import Derived.Test.YtjphnflahpcaiaaAppend
import Derived.Test.YtjphnflahpcaiaaBMath
import Derived.Deep.Heap
import Derived.Laws.Bits64b
import Derived.Laws.Bits64
import Derived.Laws.NewBlocks
import Derived.Tactics
import Derived.Tactics2
namespace Go.Proofs.Ytjphnflahpcaiaa.Clep
open Go.RowKit
set_option linter.unusedVariables false

theorem bmore {w w1 w2 : World} (h : Below w.heap.size w w1) (h2 : Below w1.heap.size w1 w2) : Below w.heap.size w w2 := h.trans (h2.mono h.size)
theorem hpS (W : World) (o : Obj) (k : Nat) (hk : k = W.heap.size) : (W.alloc o).heap[k]? = some o := by
  subst hk
  show (W.heap.push o)[W.heap.size]? = _
  simp
/-- The block b holds one value of n cells. -/
def Blk (w : World) (b : Nat) (cs : Array Value) (T : TypeId) : Prop := w.heap[b]? = some (.cells cs T (0, 0))
theorem Blk.shape {w : World} {b : Nat} {cs : Array Value} {T : TypeId} (h : Blk w b cs T) : w.shape? b = some (T, cs.size) := by
  simp [World.shape?, show w.heap[b]? = _ from h]
theorem Blk.cell {w : World} {b : Nat} {cs : Array Value} {T : TypeId} (h : Blk w b cs T) {o : Nat} {v : Value} (hv : cs[o]? = some v) : w.cell? ⟨b, o, none⟩ = some v := by
  simp [World.cell?, show w.heap[b]? = _ from h, hv]
theorem Blk.free {w : World} {b : Nat} {cs : Array Value} {T : TypeId} (h : Blk w b cs T) (o : Nat) : w.frozen? ⟨b, o, none⟩ = false := by
  simp [World.frozen?, show w.heap[b]? = _ from h]
theorem Blk.lt {w : World} {b : Nat} {cs : Array Value} {T : TypeId} (h : Blk w b cs T) : b < w.heap.size := (Array.getElem?_eq_some_iff.1 h).1
theorem Blk.set {w : World} {b : Nat} {cs : Array Value} {T : TypeId} (h : Blk w b cs T) (o : Nat) (v : Value) : Blk (w.setCell ⟨b, o, none⟩ v) b (cs.setIfInBounds o v) T := by
  unfold Blk at *
  simp [World.setCell, Array.getElem?_modify, h]
theorem Blk.other {w : World} {b : Nat} {cs : Array Value} {T : TypeId} (h : Blk w b cs T) (a : Addr) (v : Value) (hne : b ≠ a.block) : Blk (w.setCell a v) b cs T := by
  unfold Blk at *
  rw [Deep.blk_setCell_other w a v b hne]; exact h
theorem Blk.below {w w' : World} {B b : Nat} {cs : Array Value} {T : TypeId} (h : Blk w b cs T) (hb : Below B w w') (hB : b < B) : Blk w' b cs T := by
  unfold Blk at *
  rw [hb.block b hB]; exact h
theorem Blk.keep {w w' : World} {b : Nat} {cs : Array Value} {T : TypeId} (h : Blk w b cs T) (hb : Below w.heap.size w w') : Blk w' b cs T := h.below hb h.lt

/-- Of the blocks that there were only those of P may have changed. -/
structure Ch (P : Nat → Prop) (w w' : World) : Prop where
  os : w'.os = w.os
  tape : w'.tape = w.tape
  output : w'.output = w.output
  size : w.heap.size ≤ w'.heap.size
  block : ∀ k, k < w.heap.size → ¬ P k → w'.heap[k]? = w.heap[k]?
theorem Ch.of {P : Nat → Prop} {w w' : World} (h : Below w.heap.size w w') : Ch P w w' := ⟨h.os, h.tape, h.output, h.size, fun k hk _ => h.block k hk⟩
theorem Ch.trans {P : Nat → Prop} {w w1 w2 : World} (h : Ch P w w1) (k : Ch P w1 w2) : Ch P w w2 :=
  ⟨k.os.trans h.os, k.tape.trans h.tape, k.output.trans h.output, Nat.le_trans h.size k.size, fun i hi hp => (k.block i (Nat.lt_of_lt_of_le hi h.size) hp).trans (h.block i hi hp)⟩
theorem Ch.mono {P Q : Nat → Prop} {w w' : World} (h : Ch P w w') (hpq : ∀ i, i < w.heap.size → P i → Q i) : Ch Q w w' :=
  ⟨h.os, h.tape, h.output, h.size, fun k hk hq => h.block k hk fun hp => hq (hpq k hk hp)⟩
theorem Ch.set {P : Nat → Prop} (w : World) (a : Addr) (v : Value) (h : P a.block) : Ch P w (w.setCell a v) :=
  ⟨rfl, rfl, rfl, by simp [World.setCell], fun k hk hp => Below.heap_setCell _ _ _ _ fun e => hp (e ▸ h)⟩
theorem Ch.below {P : Nat → Prop} {w w' : World} {B : Nat} (h : Ch P w w') (hB : B ≤ w.heap.size) (hP : ∀ i, P i → B ≤ i) : Below B w w' :=
  ⟨h.os, h.tape, h.output, h.size, fun k hk => h.block k (by omega) fun hp => by have := hP k hp; omega⟩
theorem Blk.ch {P : Nat → Prop} {w w' : World} {b : Nat} {cs : Array Value} {T : TypeId} (h : Blk w b cs T) (hc : Ch P w w') (hp : ¬ P b) : Blk w' b cs T := by
  unfold Blk at *
  rw [hc.block b (Blk.lt h) hp]; exact h

theorem Below.ch {B : Nat} {P : Nat → Prop} {w w1 w2 : World} (h : Below B w w1) (hc : Ch P w1 w2) (hB : B ≤ w1.heap.size) (hP : ∀ i, P i → B ≤ i) : Below B w w2 := h.trans (hc.below hB hP)
theorem str_app (a b : List Int) : strOfNums a ++ strOfNums b = strOfNums (a ++ b) := by
  have := str_cat a b
  rw [ByteArray.toList_eq, ByteArray.toList_eq] at this
  have h2 : (strOfNums (a ++ b)).data = (strOfNums a ++ strOfNums b).data := by
    apply Array.toList_inj.1; exact this
  cases h : strOfNums (a ++ b)
  cases h' : strOfNums a ++ strOfNums b
  rw [h, h'] at h2
  simp at h2
  rw [h2]

/-- One byte laid over a hash. -/
def lay (h : Nat) (z : Nat) : Nat := 1099511628211 * (h ^^^ z) % 18446744073709551616
/-- A hash over a text. -/
def hs : List Int → Nat → Nat
  | [], h => h
  | z :: r, h => hs r (lay h z.toNat)
def fnv (zs : List Int) : Nat := hs zs 14695981039346656037
theorem lay_lt (h z : Nat) : lay h z < 18446744073709551616 := Nat.mod_lt _ (by decide)
theorem hs_lt : ∀ (zs : List Int) (h : Nat), h < 18446744073709551616 → hs zs h < 18446744073709551616
  | [], h, hh => hh
  | z :: r, h, hh => hs_lt r _ (lay_lt _ _)
theorem fnv_lt (zs : List Int) : fnv zs < 18446744073709551616 := hs_lt zs _ (by decide)
theorem lay_bits (h : Nat) (z : Int) (hh : h < 18446744073709551616) (hz : 0 ≤ z ∧ z < 256) : bits BinOp.xor IntKind.u64 (h : Int) z * 1099511628211 % 18446744073709551616 = ((lay h z.toNat : Nat) : Int) := by
  obtain ⟨Z, rfl⟩ := Int.eq_ofNat_of_zero_le hz.1
  rw [bits_xor_u64_nat _ _ hh (by omega)]
  unfold lay
  simp only [Int.toNat_natCast]
  omega
theorem lay_any (h : Nat) (z : Int) (w : World) (hh : h < 18446744073709551616) (hz : 0 ≤ z ∧ z < 256) :
    Calls Try.prog 32 #[.int .u64 h, .int .u8 z] w fun e w' => e = .returned (.int .u64 (lay h z.toNat : Nat)) ∧ w' = w := by
  have HB := hide (lay_bits h z hh hz)
  go_enter Try.func32, Try.ntmps32
  go_wp2
  go_ret
  exact ⟨by rw [← HB.out]; rfl, rfl⟩
theorem hs_at (zs : List Int) (k h : Nat) (hk : k < zs.length) : hs (zs.drop k) h = hs (zs.drop (k + 1)) (lay h (zs.getD k 0).toNat) := by
  rw [drop_get zs k hk]; rfl
theorem hash_any (ao : Option Addr) (len cap : Nat) (zs : List Int) (w : World) (hm : len ≤ 9223372036854775807) (h : Bs w ao len cap zs) :
    Calls Try.prog 22 #[.slice ao len cap] w fun e w' => e = .returned (.int .u64 (fnv zs : Nat)) ∧ w' = w := by
  have hz := hide h.2.2.1
  have hl := hide h.1
  have hc4 := hide h.2.2.2
  clear h
  go_enter Try.func22, Try.ntmps22
  go_wp2
  go_loop [3, 8] (fun v i => ∃ k C : Nat, k ≤ len ∧ i = .int .i64 k ∧ v = .int .u64 C ∧ C < 18446744073709551616 ∧ Hid (hs (zs.drop k) C = fnv zs)) (fun _ i => len - (intOf i).toNat)
  case atStart => exact ⟨0, 14695981039346656037, by omega, rfl, rfl, by omega, hide (by simp [fnv])⟩
  case round =>
    obtain ⟨k, C, hk, rfl, rfl, hC, hT⟩ := hrel
    by_cases hlt : k < len
    · obtain ⟨b, off, rfl, hcell⟩ := hc4.out (by omega)
      have hck := hcell k hlt
      have hzk := hz.out k
      have HT := hide (show hs (zs.drop (k + 1)) (lay C (zs.getD k 0).toNat) = fnv zs by rw [← hT.out]; exact (hs_at zs k C (by rw [hl.out]; exact hlt)).symm)
      generalize zs.getD k 0 = z at *
      clear hcell
      go_wp2_with fail
      refine (lay_any C z _ hC hzk).mono ?_
      rintro e w1 ⟨rfl, rfl⟩
      go_wp2
      go_round
      case rel => exact ⟨k + 1, _, by omega, by go_num, rfl, lay_lt _ _, HT⟩
      case measure => simp [intOf]; omega
    · have h8 : k = len := by omega
      subst h8
      have hT' := hide (show C = fnv zs from by have := hT.out; rwa [List.drop_eq_nil_of_le (by rw [hl.out]; exact Nat.le_refl _)] at this)
      go_wp2
      go_ret
      exact ⟨by rw [← hT'.out]; rfl, rfl⟩

theorem refhash_any (s : ByteArray) (zs : List Int) (w : World) (hm : s.size ≤ 9223372036854775807) (hs : Sz s zs) (hr : ∀ z ∈ zs, 0 ≤ z ∧ z < 256) :
    Calls Try.prog 35 #[.string s] w fun e w' => e = .returned (.int .u64 (fnv zs : Nat)) ∧ w' = w := by
  have hz := hide (range_of hr)
  have HS := hide hs
  clear hs hr
  go_enter Try.func35, Try.ntmps35
  go_wp2
  go_loop [3, 4] (fun v i => ∃ k C : Nat, k ≤ s.size ∧ i = .int .i64 k ∧ v = .int .u64 C ∧ C < 18446744073709551616 ∧ Hid (hs (zs.drop k) C = fnv zs)) (fun _ i => s.size - (intOf i).toNat)
  case atStart => exact ⟨0, 14695981039346656037, by omega, rfl, rfl, by omega, hide (by simp [fnv])⟩
  case round =>
    obtain ⟨k, C, hk, rfl, rfl, hC, hT⟩ := hrel
    by_cases hlk : k < s.size
    · have hck := HS.out.2 k hlk
      have hzk := hz.out k
      have HT := hide (show hs (zs.drop (k + 1)) (lay C (zs.getD k 0).toNat) = fnv zs by rw [← hT.out]; exact (hs_at zs k C (by rw [← HS.out.1]; exact hlk)).symm)
      have HB := hide (lay_bits C (zs.getD k 0) hC hzk)
      generalize hzz : zs.getD k 0 = z at *
      clear hzz
      go_wp2
      go_round
      case rel => exact ⟨k + 1, lay C z.toNat, by omega, by go_num, by rw [← HB.out]; rfl, lay_lt _ _, HT⟩
      case measure => simp [intOf]; omega
    · have h8 : k = s.size := by omega
      subst h8
      have hT' := hide (show C = fnv zs from by have := hT.out; rwa [List.drop_eq_nil_of_le (by rw [← HS.out.1]; exact Nat.le_refl _)] at this)
      go_wp2
      go_ret
      exact ⟨by rw [← hT'.out]; rfl, rfl⟩

end Go.Proofs.Ytjphnflahpcaiaa.Clep
