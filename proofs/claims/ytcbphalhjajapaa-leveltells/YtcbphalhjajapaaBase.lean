/- What the walks of every layer share: bytes that a slice leads to, rows that a call made, texts of bytes, eight bytes of a number. No conditions. -/
import Derived.Test.YtcbphalhjajapaaChecked
import Derived.Laws.BitsAllLaws
import Derived.Laws.Bits64
import Derived.Laws.BytesArg
import Derived.RowKit
import Derived.WalkKit
import Derived.WalkLawsBesides
import Derived.WalkSpells
import Derived.Below
import Derived.Test.YtcbphalhjajapaaKept
namespace Go.Proofs.Ytcbphalhjajapaa.Clep
open Go.RowKit
set_option linter.unusedVariables false
set_option maxRecDepth 10000

theorem hide {p : Prop} (h : p) : Hid p := h
theorem ret_eq {v v' : Value} (h : v = v') : Ending.returned v = .returned v' := by rw [h]
theorem drop_get (zs : List Int) (k : Nat) (h : k < zs.length) : zs.drop k = zs.getD k 0 :: zs.drop (k + 1) := by
  rw [List.drop_eq_getElem_cons h]; simp [List.getD, List.getElem?_eq_getElem h]
theorem xor_all (a : Nat) (ha : a < 18446744073709551616) : a ^^^ 18446744073709551615 = 18446744073709551615 - a := by
  have h : (BitVec.ofNat 64 a ^^^ BitVec.allOnes 64).toNat = (~~~ BitVec.ofNat 64 a).toNat := by rw [BitVec.xor_allOnes]
  rw [BitVec.toNat_not, BitVec.toNat_xor, BitVec.toNat_allOnes, BitVec.toNat_ofNat, Nat.mod_eq_of_lt (by omega)] at h
  simpa using h
/-- The slice value (ao, len, cap) leads to the bytes zs in w. -/
def Bs (w : World) (ao : Option Addr) (len cap : Nat) (zs : List Int) : Prop :=
  zs.length = len ∧ (len ≤ cap ∧ (ao = none → len = 0 ∧ cap = 0)) ∧ (∀ i, 0 ≤ zs.getD i 0 ∧ zs.getD i 0 < 256) ∧
    (0 < len → ∃ b off, ao = some ⟨b, off, none⟩ ∧ ∀ i, i < len → w.cell? ⟨b, off + i, none⟩ = some (.int .u8 (zs.getD i 0)))
theorem info5 : (Try.prog.info? 5).map (fun i => (i.zero, i.size, i.bytes)) = some (some (.int .u8 0), 1, 1) := by kernel_rfl
def bv (zs : List Int) : List Value := zs.map (Value.int .u8)
/-- The slice value v owns the bytes zs, in a row of the call's own from block B on. -/
def Own (w : World) (B : Nat) (v : Value) (zs : List Int) : Prop := w.ownsRow B 5 1 v zs.length (bv zs)
theorem add_plain (b off j : Nat) : (⟨b, off, none⟩ : Addr).add j = ⟨b, off + j, none⟩ := by unfold Addr.add; split <;> simp_all
theorem bv_len (zs : List Int) : (bv zs).length = zs.length := by simp [bv]
theorem bv_one (zs : List Int) : ∀ u ∈ bv zs, u.oneCell' = true := by
  intro u hu
  simp only [bv, List.mem_map] at hu
  obtain ⟨z, _, rfl⟩ := hu
  rfl
theorem bv_get {zs : List Int} {j : Nat} {u : Value} (h : (bv zs)[j]? = some u) : j < zs.length ∧ u = .int .u8 (zs.getD j 0) := by
  simp only [bv, List.getElem?_map, Option.map_eq_some_iff] at h
  obtain ⟨z, hz, rfl⟩ := h
  have hj : j < zs.length := by
    rcases Nat.lt_or_ge j zs.length with h | h
    · exact h
    · rw [List.getElem?_eq_none h] at hz; cases hz
  exact ⟨hj, by simp [List.getD, hz]⟩
theorem bs_cells {w : World} {ao : Option Addr} {len cap : Nat} {zs : List Int} (h : Bs w ao len cap zs) :
    ∀ ad, ao = some ad → ∀ j u, (bv zs)[j]? = some u → w.cell? (ad.add j) = some u := by
  intro ad had j u hu
  obtain ⟨hj, rfl⟩ := bv_get hu
  obtain ⟨b, off, ho, hc⟩ := h.2.2.2 (by have := h.1; omega)
  rw [had] at ho
  cases ho
  rw [add_plain]
  exact hc j (by have := h.1; omega)
theorem Bs.below {w w' : World} {B : Nat} {ao : Option Addr} {len cap : Nat} {zs : List Int} (h : Bs w ao len cap zs) (hb : Below B w w') (hB : w.heap.size ≤ B) : Bs w' ao len cap zs := by
  refine ⟨h.1, h.2.1, h.2.2.1, fun h0 => ?_⟩
  obtain ⟨b, off, ho, hc⟩ := h.2.2.2 h0
  refine ⟨b, off, ho, fun i hi => ?_⟩
  rw [hb.cell (p := ⟨b, off + i, none⟩) (Nat.lt_of_lt_of_le (World.block_lt_of_cell? w _ (hc i hi)) hB)]
  exact hc i hi
theorem own_bs {w : World} {B : Nat} {v : Value} {zs : List Int} (h : Own w B v zs) (hz : ∀ i, 0 ≤ zs.getD i 0 ∧ zs.getD i 0 < 256) :
    ∃ ao cap, v = .slice ao zs.length cap ∧ cap ≤ maxLen ∧ Bs w ao zs.length cap zs ∧ ∀ g off, ao = some ⟨g, off, none⟩ → B ≤ g ∧ g < w.heap.size ∧ off = 0 := by
  obtain ⟨hl, ⟨rfl, hn⟩ | ⟨g, cap, cur, rfl, hg, hh, hnc, hcm, hcs, hx⟩⟩ := h
  · exact ⟨none, 0, by rw [hn], by simp [maxLen], ⟨rfl, ⟨by omega, fun _ => ⟨hn, rfl⟩⟩, hz, fun h => by omega⟩, fun g off h => by cases h⟩
  · refine ⟨some ⟨g, 0, none⟩, cap, rfl, hcm, ⟨rfl, ⟨hnc, fun h => by cases h⟩, hz, fun _ => ⟨g, 0, rfl, fun i hi => ?_⟩⟩, fun g' off h => ?_⟩
    · have hc := World.ownsRow.cells (w := w) (base := B) (e := 5) (size := 1) (v := .slice (some ⟨g, 0, none⟩) zs.length cap) (n := zs.length) (xs := bv zs)
        ⟨hl, .inr ⟨g, cap, cur, rfl, hg, hh, hnc, hcm, hcs, hx⟩⟩ (g := g) rfl i (.int .u8 (zs.getD i 0)) (by simp [bv, List.getD, List.getElem?_eq_getElem hi])
      rwa [add_plain] at hc
    · cases h
      refine ⟨hg, ?_, rfl⟩
      exact (Array.getElem?_eq_some_iff.1 hh).1
theorem own_snoc {w : World} {B : Nat} {v : Value} {ys : List Int} {z : Int} (h : w.ownsRow B 5 1 v (ys.length + 1) (bv ys ++ [.int .u8 z])) : Own w B v (ys ++ [z]) := by
  unfold Own bv; simpa [bv] using h
theorem below_step {w wr w1 : World} {B : Nat} {o : Obj} {u : Value} {ys : List Int} (hb : Below B w wr) (hs : B ≤ wr.heap.size) (hown : Own wr B u ys) (hg : (wr.alloc o).grownBy w1 u.ownBlock) : Below B w w1 :=
  (hb.alloc hs o).grown hg (by simp; omega) (fun k hk => (World.ownsRow.lt hown k hk).1)
theorem range_of {zs : List Int} (h : ∀ z ∈ zs, 0 ≤ z ∧ z < 256) : ∀ i, 0 ≤ zs.getD i 0 ∧ zs.getD i 0 < 256 := by
  intro i
  rcases Nat.lt_or_ge i zs.length with hi | hi
  · have : zs.getD i 0 = zs[i] := by simp [List.getD, List.getElem?_eq_getElem hi]
    rw [this]; exact h _ (List.getElem_mem hi)
  · have : zs.getD i 0 = 0 := by simp [List.getD, List.getElem?_eq_none hi]
    rw [this]; omega
theorem bs_nil (w : World) : Bs w none 0 0 [] := ⟨rfl, ⟨Nat.le_refl _, fun _ => ⟨rfl, rfl⟩⟩, range_of (by simp), fun h => by omega⟩
theorem conv_bs {w : World} {ao : Option Addr} {len cap : Nat} {zs : List Int} (h : Bs w ao len cap zs) :
    (convert 25 9 (.slice ao len cap)).run Try.prog w = .ok (.string (strOfNums zs)) w := by
  cases ao with
  | none =>
    obtain ⟨rfl, rfl⟩ := h.2.1.2 rfl
    have hz : zs = [] := List.eq_nil_of_length_eq_zero h.1
    subst hz
    exact run_convert_bytes_nil w 25 5 Try.underlying25 Try.underlying5 0 0 9 Try.underlying9
  | some a =>
    have hl : (loadCells a len).run Try.prog w = .ok (zs.map (Value.int .u8)).toArray w := by
      have := run_loadCells_list (P := Try.prog) w a (bv zs) (bs_cells h a rfl)
      rw [bv_len, h.1] at this
      exact this
    rw [run_convert_bytes_string w 25 9 5 _ len cap Try.underlying25 Try.underlying5 Try.underlying9, run_bytesToString w _ len cap zs hl, foldl_push_bytes]
    simp [strOfNums, ByteArray.empty, ByteArray.emptyWithCapacity]
    rfl
/-- The text s holds the bytes zs. -/
def Sz (s : ByteArray) (zs : List Int) : Prop := s.size = zs.length ∧ ∀ k (h : k < s.size), ((s[k]'h).toNat : Int) = zs.getD k 0
theorem sz_of (zs : List Int) (hz : ∀ i, 0 ≤ zs.getD i 0 ∧ zs.getD i 0 < 256) : Sz (strOfNums zs) zs := by
  refine ⟨by simp [strOfNums, ByteArray.size], fun k h => ?_⟩
  have hk : k < zs.length := by simpa [strOfNums, ByteArray.size] using h
  have := hz k
  have e : zs.getD k 0 = zs[k] := by simp [List.getD, List.getElem?_eq_getElem hk]
  rw [e] at this ⊢
  show (((strOfNums zs).data[k]'(by simpa [strOfNums] using hk)).toNat : Int) = zs[k]
  simp [strOfNums]
  omega
theorem u64_bounds {n : Int} (h : (Lit.int .u64 n).wf = true) : 0 ≤ n ∧ n ≤ 18446744073709551615 := by
  simp only [Lit.wf, IntKind.min, IntKind.max, IntKind.signed, IntKind.bits, Bool.and_eq_true] at h
  simp at h
  omega
theorem u8_bounds {n : Int} (h : (Lit.int .u8 n).wf = true) : 0 ≤ n ∧ n < 256 := by
  simp only [Lit.wf, IntKind.min, IntKind.max, IntKind.signed, IntKind.bits, Bool.and_eq_true] at h
  simp at h
  omega
theorem i64_bounds {n : Int} (h : (Lit.int .i64 n).wf = true) : -9223372036854775808 ≤ n ∧ n ≤ 9223372036854775807 := by
  simp only [Lit.wf, IntKind.min, IntKind.max, IntKind.signed, IntKind.bits, Bool.and_eq_true, decide_eq_true_eq, if_true] at h
  omega
theorem bs_of_row {w : World} {a : Option Addr} {len cap : Nat} {zs : List Int}
    (h : (a = none ∧ len = 0 ∧ cap = 0 ∧ zs = []) ∨ ∃ x, a = some x ∧ len ≤ cap ∧ cap ≤ maxLen ∧ zs.length = cap ∧ (∀ i, i < zs.length → w.cell? (x.add i) = some (.int .u8 (zs.getD i 0))) ∧ ∀ n ∈ zs, (Lit.int .u8 n).wf = true) :
    Bs w a len cap (zs.take len) ∧ len ≤ 9223372036854775807 := by
  rcases h with ⟨rfl, rfl, rfl, rfl⟩ | ⟨x, rfl, hl, hm, hz, hcell, hwz⟩
  · exact ⟨bs_nil w, by omega⟩
  · unfold maxLen at hm
    refine ⟨⟨by rw [List.length_take]; omega, ⟨hl, fun h => by cases h⟩, range_of fun z hz => u8_bounds (hwz z (List.mem_of_mem_take hz)), fun h0 => ?_⟩, by omega⟩
    obtain ⟨b, off, spot⟩ := x
    have hc := hcell 0 (by omega)
    have hspot : spot = none := by simpa [Addr.add] using World.cell?_spot hc
    subst hspot
    refine ⟨b, off, rfl, fun i hi => ?_⟩
    have := hcell i (by omega)
    rw [add_plain] at this
    rw [this]
    simp [List.getD, hi]
theorem str_size (zs : List Int) : (strOfNums zs).size = zs.length := by simp [strOfNums, ByteArray.size]
theorem cat_range {a b : List Int} (ha : ∀ z ∈ a, 0 ≤ z ∧ z < 256) (hb : ∀ z ∈ b, 0 ≤ z ∧ z < 256) : ∀ z ∈ a ++ b, 0 ≤ z ∧ z < 256 := by
  intro z hz
  rcases List.mem_append.1 hz with h | h
  · exact ha z h
  · exact hb z h
theorem bs_range {w : World} {ao : Option Addr} {len cap : Nat} {zs : List Int} (h : Bs w ao len cap zs) : ∀ z ∈ zs, 0 ≤ z ∧ z < 256 := by
  intro z hz
  obtain ⟨j, hj, rfl⟩ := List.getElem_of_mem hz
  have := h.2.2.1 j
  simpa [List.getD, List.getElem?_eq_getElem hj] using this
/-- A row of the call's own that isn't empty, with all that is known of it. -/
theorem own_at {w : World} {B : Nat} {v : Value} {zs : List Int} (h : Own w B v zs) (hz : ∀ z ∈ zs, 0 ≤ z ∧ z < 256) (L : Nat) (hL : zs.length = L) (h0 : 0 < L) :
    ∃ g cap, v = .slice (some ⟨g, 0, none⟩) L cap ∧ L ≤ cap ∧ cap ≤ 9223372036854775807 ∧ Bs w (some ⟨g, 0, none⟩) L cap zs := by
  subst hL
  obtain ⟨ao, cap, rfl, hcm, hbs, hwh⟩ := own_bs h (range_of hz)
  obtain ⟨b, off, rfl, _⟩ := hbs.2.2.2 h0
  obtain ⟨_, _, rfl⟩ := hwh b off rfl
  unfold maxLen at hcm
  exact ⟨b, cap, rfl, hbs.2.1.1, hcm, hbs⟩
theorem own_conv {w : World} {B : Nat} {v : Value} {zs : List Int} (h : Own w B v zs) (hz : ∀ z ∈ zs, 0 ≤ z ∧ z < 256) (L : Nat) (hL : zs.length = L) :
    ∃ ao cap, v = .slice ao L cap ∧ Hid (∀ w', Below w.heap.size w w' → (convert 25 9 (.slice ao L cap)).run Try.prog w' = .ok (.string (strOfNums zs)) w') := by
  subst hL
  obtain ⟨ao, cap, rfl, _, hbs, _⟩ := own_bs h (range_of hz)
  exact ⟨ao, cap, rfl, hide fun w' hb => conv_bs (hbs.below hb (Nat.le_refl _))⟩
theorem str_cat (a b : List Int) : (strOfNums (a ++ b)).toList = (strOfNums a ++ strOfNums b).toList := by
  rw [ByteArray.toList_eq, ByteArray.toList_eq]
  simp [strOfNums]
theorem Bs.dropAt {w : World} {b off len cap : Nat} {zs : List Int} (h : Bs w (some ⟨b, off, none⟩) len cap zs) (k : Nat) (hk : k ≤ len) : Bs w (some ⟨b, off + k, none⟩) (len - k) (cap - k) (zs.drop k) := by
  refine ⟨by rw [List.length_drop, h.1], ⟨by have := h.2.1.1; omega, fun e => by cases e⟩, range_of fun z hz => ?_, fun h0 => ?_⟩
  · obtain ⟨j, hj, rfl⟩ := List.getElem_of_mem (List.mem_of_mem_drop hz)
    have := h.2.2.1 j
    simpa [List.getD, List.getElem?_eq_getElem hj] using this
  · obtain ⟨b', off', ho, hc⟩ := h.2.2.2 (by omega)
    cases ho
    refine ⟨b, off + k, rfl, fun i hi => ?_⟩
    have := hc (k + i) (by omega)
    rw [← Nat.add_assoc] at this
    rw [this]
    simp [List.getD]
theorem Bs.take {w : World} {ao : Option Addr} {len cap : Nat} {zs : List Int} (h : Bs w ao len cap zs) (k : Nat) (hk : k ≤ len) (hn : ao ≠ none) : Bs w ao k cap (zs.take k) := by
  refine ⟨by rw [List.length_take, h.1]; omega, ⟨by have := h.2.1.1; omega, fun e => absurd e hn⟩, range_of fun z hz => ?_, fun h0 => ?_⟩
  · obtain ⟨j, hj, rfl⟩ := List.getElem_of_mem (List.mem_of_mem_take hz)
    have := h.2.2.1 j
    simpa [List.getD, List.getElem?_eq_getElem hj] using this
  · obtain ⟨b, off, ho, hc⟩ := h.2.2.2 (by omega)
    refine ⟨b, off, ho, fun i hi => ?_⟩
    rw [hc i (by omega)]
    simp [List.getD, hi]
theorem and16 (a : Int) : 0 ≤ bits .and .i64 a 65535 ∧ bits .and .i64 a 65535 ≤ 65535 := by
  have e : bits .and .i64 a 65535 = IntKind.i64.wrap ((BitVec.ofInt 64 a &&& BitVec.ofInt 64 65535).toNat : Int) := rfl
  have hle : (BitVec.ofInt 64 a &&& BitVec.ofInt 64 65535).toNat ≤ 65535 := by
    rw [BitVec.toNat_and]; exact Nat.le_trans Nat.and_le_right (by decide)
  rw [e]
  generalize (BitVec.ofInt 64 a &&& BitVec.ofInt 64 65535).toNat = k at *
  simp [IntKind.wrap, IntKind.bits, IntKind.signed]
  omega
def ub (zs : List Int) : List UInt8 := zs.map fun n => UInt8.ofNat n.toNat
theorem toList_str (zs : List Int) : (strOfNums zs).toList = ub zs := by
  rw [ByteArray.toList_eq, strOfNums_data]
  rfl
theorem ub_inj : ∀ (xs ys : List Int), (∀ z ∈ xs, 0 ≤ z ∧ z < 256) → (∀ z ∈ ys, 0 ≤ z ∧ z < 256) → ub xs = ub ys → xs = ys
  | [], [], _, _, _ => rfl
  | [], _ :: _, _, _, h => by simp [ub] at h
  | _ :: _, [], _, _, h => by simp [ub] at h
  | x :: xs, y :: ys, hx, hy, h => by
    simp only [ub, List.map_cons, List.cons.injEq] at h
    have hx0 := hx x (by simp)
    have hy0 := hy y (by simp)
    have e := congrArg UInt8.toNat h.1
    simp only [UInt8.toNat_ofNat'] at e
    rw [show x = y from by omega, ub_inj xs ys (fun z hz => hx z (by simp [hz])) (fun z hz => hy z (by simp [hz])) h.2]
theorem str_eq (xs ys : List Int) (hx : ∀ z ∈ xs, 0 ≤ z ∧ z < 256) (hy : ∀ z ∈ ys, 0 ≤ z ∧ z < 256) : ((strOfNums xs).toList == (strOfNums ys).toList) = decide (xs = ys) := by
  rw [toList_str, toList_str, Bool.eq_iff_iff]
  simp only [beq_iff_eq, decide_eq_true_eq]
  exact ⟨ub_inj xs ys hx hy, fun h => by rw [h]⟩
def e8b (n : Int) (k : Nat) : Int := n / 2 ^ (8 * (7 - k)) % 256
def e8 (n : Int) (k : Nat) : List Int := (List.range k).map (e8b n)
theorem e8_succ (n : Int) (k : Nat) : e8 n (k + 1) = e8 n k ++ [e8b n k] := by simp [e8, List.range_succ]
theorem e8_len (n : Int) (k : Nat) : (e8 n k).length = k := by simp [e8]
theorem e8_all (n : Int) : e8 n 8 = [n / 72057594037927936 % 256, n / 281474976710656 % 256, n / 1099511627776 % 256, n / 4294967296 % 256, n / 16777216 % 256, n / 65536 % 256, n / 256 % 256, n / 1 % 256] := rfl
theorem e8_range (n : Int) : ∀ z ∈ e8 n 8, 0 ≤ z ∧ z < 256 := by
  rw [e8_all]; intro z hz
  simp only [List.mem_cons, List.not_mem_nil, or_false] at hz
  omega
def val : List Int → Int
  | [] => 0
  | c :: r => c * 256 ^ r.length + val r
theorem val_lt : ∀ (xs : List Int), (∀ z ∈ xs, 0 ≤ z ∧ z < 256) → 0 ≤ val xs ∧ val xs < 256 ^ xs.length
  | [], _ => by simp [val]
  | c :: r, h => by
    have ih := val_lt r fun z hz => h z (by simp [hz])
    have hc := h c (by simp)
    simp only [val, List.length_cons, Int.pow_succ]
    have h1 : 0 ≤ c * 256 ^ r.length := Int.mul_nonneg hc.1 (by omega)
    have h2 : c * 256 ^ r.length ≤ 255 * 256 ^ r.length := Int.mul_le_mul_of_nonneg_right (by omega) (by omega)
    generalize (256 : Int) ^ r.length = p at *
    omega
theorem val_e8 (n : Int) (h0 : 0 ≤ n) (h1 : n ≤ 18446744073709551615) : val (e8 n 8) = n := by
  rw [e8_all]
  simp only [val, List.length_cons, List.length_nil, show (256 : Int) ^ (0 + 1 + 1 + 1 + 1 + 1 + 1 + 1) = 72057594037927936 from by decide, show (256 : Int) ^ (0 + 1 + 1 + 1 + 1 + 1 + 1) = 281474976710656 from by decide,
    show (256 : Int) ^ (0 + 1 + 1 + 1 + 1 + 1) = 1099511627776 from by decide, show (256 : Int) ^ (0 + 1 + 1 + 1 + 1) = 4294967296 from by decide, show (256 : Int) ^ (0 + 1 + 1 + 1) = 16777216 from by decide,
    show (256 : Int) ^ (0 + 1 + 1) = 65536 from by decide, show (256 : Int) ^ (0 + 1) = 256 from by decide, show (256 : Int) ^ 0 = 1 from by decide]
  omega
theorem zeros8 : (madeCells #[Value.int IntKind.u8 0] 8).toList = bv (List.replicate 8 0) := by kernel_rfl
theorem set_zero (n : Int) (k : Nat) (hk : k < 8) : (bv (e8 n k ++ List.replicate (8 - k) 0)).set k (.int .u8 (e8b n k)) = bv (e8 n (k + 1) ++ List.replicate (8 - (k + 1)) 0) := by
  rw [show 8 - k = 8 - (k + 1) + 1 from by omega, List.replicate_succ, e8_succ]
  simp only [bv, List.map_append, List.map_cons, List.map_nil, List.append_assoc]
  rw [List.set_append, if_neg (by simp [e8_len])]
  simp [e8_len]

end Go.Proofs.Ytcbphalhjajapaa.Clep
