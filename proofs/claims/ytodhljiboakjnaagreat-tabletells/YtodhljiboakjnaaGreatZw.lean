/- What slices.Clone of items, block.Cut and the document's own Cut do when called. Conditions: at most a million items. -/
import Derived.Test.YtodhljiboakjnaaGreatZv
import Derived.Laws.MakeOwn
namespace Go.Proofs.YtodhljiboakjnaaGreat.Clep
open Go.RowKit
set_option linter.unusedVariables false

set_option maxRecDepth 100000 in
theorem clone_any (b off n c : Nat) (l : List It) (w : World) (h : Is w (some ⟨b, off, none⟩) n c l) (hn : n ≤ 1000000) :
    Calls Tryz.prog 76 #[.slice (some ⟨b, off, none⟩) n c] w fun e w' => ∃ v, e = .returned v ∧ OwnI w' w.heap.size v l ∧ Below w.heap.size w w' := by
  have heq : ∀ (w : World) (a : Option Addr) (n c : Nat), (binOp .eql 22 (.slice a n c) (.slice none 0 0)).run Tryz.prog w = .ok (.bool a.isNone) w := fun w a n c => by
    have := run_equal_slice_nil (P := Tryz.prog) (w := w) 22 25 a n c Tryz.underlying22
    simp [binOp, this, Result.andThen]
  have A1 := (Below.refl _ w).alloc (Nat.le_refl _) (Obj.cells #[] 25)
  have h1 := hide (h.below A1 (Nat.le_refl _))
  have hO := hide (ownI_empty (w := w.alloc (Obj.cells #[] 25)) (B := w.heap.size) (g := w.heap.size) (hpS w _ _ rfl) (Nat.le_refl _))
  have B1 := hide A1
  have HL := hide (show ([] : List It).length + n ≤ 3518437208883 by simp; omega)
  have HB := hide (show w.heap.size ≤ (w.alloc (Obj.cells #[] 25)).heap.size by simp)
  clear h A1
  go_enter Tryz.func76, Tryz.ntmps76
  go_wp2_with (first
    | (at_builtin; refine wpList_append_items rfl _ _ rfl w.heap.size _ [] rfl hO.out _ n c l rfl h1.out HL.out HB.out ?_)
    | fail)
  intro v' w' ho hg hbk
  go_wp2
  go_ret
  exact ⟨_, rfl, ho, B1.out.grown hg (by simp) hbk⟩

theorem max_int (ts : Array TypeId) (t : TypeId) (k k' : IntKind) (x y : Int) (w : World) : (Builtin.max_ ts t #[.int k x, .int k' y]).run Tryz.prog w = .ok (.int k (max x y)) w := by
  rw [run_max_int2, show (if y > x then y else x) = max x y by split <;> omega]
theorem min_int (ts : Array TypeId) (t : TypeId) (k k' : IntKind) (x y : Int) (w : World) : (Builtin.min_ ts t #[.int k x, .int k' y]).run Tryz.prog w = .ok (.int k (min x y)) w := by
  rw [run_min_int2, show (if y < x then y else x) = min x y by split <;> omega]
attribute [local go_sem ↓] max_int min_int

/-- How many items a row has, at most. -/
def csz (m : Int) : Nat := (min (max m 1) 100).toNat
theorem csz_rng (m : Int) : 1 ≤ csz m ∧ csz m ≤ 100 := by unfold csz; omega
/-- How many rows. -/
def cnr (s n : Nat) : Nat := (n + s - 1) / s
/-- The i-th row. -/
def ck (s : Nat) (l : List It) (i : Nat) : List It := (l.drop (i * s)).take s
theorem cnr_lt {s n j : Nat} (hs : 1 ≤ s) (h : j * s < n) : j + 1 ≤ cnr s n := by
  unfold cnr
  rw [Nat.le_div_iff_mul_le (by omega), Nat.succ_mul]
  omega
theorem cnr_le {s n j : Nat} (hs : 1 ≤ s) (h : n ≤ j * s) : cnr s n ≤ j := by
  unfold cnr
  apply Nat.le_of_lt_succ
  rw [Nat.div_lt_iff_lt_mul (by omega), Nat.succ_mul]
  omega
theorem cnr_n {s n : Nat} (hs : 1 ≤ s) : cnr s n ≤ n := cnr_le hs (Nat.le_mul_of_pos_right n (by omega))

/-- The rows cut so far, in a row at G; what is left. -/
structure Cs (w wr : World) (G s : Nat) (l : List It) (j nr : Nat) (a' : Option Addr) (m c' : Nat) : Prop where
  bel : Below w.heap.size w wr
  left : Is wr a' m c' (l.drop (j * s))
  cap : c' ≤ 9223372036854775807
  old : 0 < m → ∀ x, a' = some x → x.block < w.heap.size
  rows : ∃ zs : List Sl, zs.length = j ∧ wr.ownsRow w.heap.size 22 1 (.slice (some ⟨G, 0, none⟩) j nr) j (sv zs) ∧ (∀ z ∈ zs, Is wr z.a z.n z.c z.l ∧ z.n ≤ 9223372036854775807 ∧ ∀ x, z.a = some x → G < x.block) ∧ ∀ i z, zs[i]? = some z → z.l = ck s l i
theorem is_grown' {w w' : World} {row : Option Nat} {a : Option Addr} {len cap : Nat} {l : List It} (h : Is w a len cap l) (hg : w.grownBy w' row) (hne : 0 < len → ∀ x, a = some x → some x.block ≠ row) : Is w' a len cap l := by
  rcases Nat.eq_zero_or_pos len with h0 | h0
  · exact ⟨h.1, h.2.1, h.2.2.1, fun h => by omega⟩
  · obtain ⟨b, off, rfl, _⟩ := h.2.2.2 h0
    exact h.grown hg (hne h0 _ rfl)

set_option maxRecDepth 100000 in
set_option maxHeartbeats 2000000 in
theorem bcut_new (a : Option Addr) (n c : Nat) (l : List It) (most : Int) (w : World) (h : Is w a n c l) (hn : n ≤ 1000000) (hcm : c ≤ 9223372036854775807) :
    Calls Tryz.prog 52 #[.slice a n c, .int .i64 most] w fun e w' => ∃ a' c', e = .returned (.slice a' (cnr (csz most) n) c') ∧ Below w.heap.size w w' ∧ ∃ zs, Rws w' a' (cnr (csz most) n) c' zs ∧ (∀ i z, zs[i]? = some z → z.l = ck (csz most) l i) ∧ (∀ x, a' = some x → w.heap.size ≤ x.block) ∧ ∀ z ∈ zs, ∀ x, z.a = some x → w.heap.size ≤ x.block := by
  obtain ⟨s, hs⟩ : ∃ s, csz most = s := ⟨_, rfl⟩
  have hs1 := csz_rng most
  obtain ⟨M, hM⟩ : ∃ M, max most 1 = M := ⟨_, rfl⟩
  have hsi : min M 100 = (s : Int) := by rw [← hs, ← hM]; unfold csz; omega
  rw [hs] at hs1 ⊢
  obtain ⟨nr, hnr⟩ : ∃ nr, cnr s n = nr := ⟨_, rfl⟩
  have hni : ((n : Int) + (s : Int) - 1) / (s : Int) = (nr : Int) := by
    rw [← hnr]; unfold cnr
    rw [show (n : Int) + (s : Int) - 1 = ((n + s - 1 : Nat) : Int) by omega, Int.natCast_ediv]
  have hnn : nr ≤ n := by rw [← hnr]; exact cnr_n hs1.1
  have HL := hide (fun j (h : j * s < n) => show j + 1 ≤ nr by rw [← hnr]; exact cnr_lt hs1.1 h)
  have HG := hide (fun j (h : n ≤ j * s) => show nr ≤ j by rw [← hnr]; exact cnr_le hs1.1 h)
  rw [hnr]
  clear hs hnr
  obtain ⟨iS, hiS, hzS0, hzS1, hzS2⟩ := info_parts infoS
  obtain ⟨w1, hmk, ho1, hg1⟩ := run_make_own (P := Tryz.prog) w w.heap.size 54 22 iS _ 1 Tryz.underlying54 hiS hzS0 hzS1 .i64 .i64 nr (by rw [hzS2]; omega) (by unfold maxLen; omega) (Nat.le_refl _)
  have hb1 : Below w.heap.size w w1 := (Below.refl _ w).grown hg1 (Nat.le_refl _) (by simp)
  have hlen := h.1
  have C0 : Hid (Cs w w1 w.heap.size s l 0 nr a n c) := hide ⟨hb1, by simpa using h.below hb1 (Nat.le_refl _), hcm, fun h0 x hx => by
    obtain ⟨b, off, e, hc⟩ := h.2.2.2 h0
    rw [e] at hx; cases hx
    obtain ⟨y, hy⟩ : ∃ y, l[0]? = some y := ⟨_, List.getElem?_eq_getElem (by omega)⟩
    exact World.block_lt_of_cell? w _ (hc 0 y hy).1, [], rfl, ho1, by simp, by simp⟩
  have hs0 : (0 : Int) < (s : Int) := by omega
  have hmx : n + s < 2000000 := by omega
  clear h ho1 hg1 hb1
  go_enter Tryz.func52, Tryz.ntmps52
  go_wp2_with fail
  clear hni
  generalize ((n : Int) + (s : Int) - 1) / (s : Int) = z17
  go_loopw [0, 6] (fun s0 s6 wr => ∃ (j m : Nat) (a' : Option Addr) (c' : Nat), s0 = .slice a' m c' ∧ s6 = .slice (some ⟨w.heap.size, 0, none⟩) j nr ∧ Hid (m = n - j * s) ∧ j ≤ nr ∧ m ≤ n ∧ Hid (Cs w wr w.heap.size s l j nr a' m c')) (fun s0 _ _ => lenOf s0)
  case atStart => exact ⟨0, n, a, c, rfl, rfl, hide (by omega), by omega, by omega, C0⟩
  case round =>
    obtain ⟨j, m, a', c', rfl, rfl, hm, hj, hmn, hC⟩ := hrel
    by_cases hlt : 0 < m
    · have hj1 := HL.out j (by have := hm.out; omega)
      obtain ⟨b, off, ea, hcell⟩ := hC.out.left.2.2.2 hlt
      subst ea
      have hcc := hC.out.cap
      have hmc := hC.out.left.2.1.1
      obtain ⟨q, hq⟩ : ∃ q, min s m = q := ⟨_, rfl⟩
      have hqi : min (s : Int) (m : Int) = (q : Int) := by omega
      have hq1 : 1 ≤ q ∧ q ≤ m ∧ q ≤ s := by omega
      have hqc : (q : Int) ≤ (c' : Int) := by omega
      have hqt : (q : Int).toNat = q := by omega
      have hch : Hid ((l.drop (j * s)).take q = ck s l j) := hide (by
        unfold ck
        have hll : (l.drop (j * s)).length = m := hC.out.left.1
        rcases Nat.le_total s m with e | e
        · rw [show q = s by omega]
        · rw [show q = m by omega, List.take_of_length_le (by omega), List.take_of_length_le (by omega)])
      have hpart := hide (show Is wr (some ⟨b, off, none⟩) q c' (ck s l j) by
        have := hC.out.left.cut 0 q (by omega) hq1.2.1
        rw [List.drop_zero, hch.out, Nat.sub_zero, Nat.sub_zero] at this
        have e : icut (some ⟨b, off, none⟩) c' 0 = some ⟨b, off, none⟩ := by unfold icut; rw [if_neg (by omega)]; simp [add_plain]
        rwa [e] at this)
      have hrest := hide (show Is wr (icut (some ⟨b, off, none⟩) c' q) (m - q) (c' - q) (l.drop ((j + 1) * s)) by
        have := hC.out.left.cut q m hq1.2.1 (Nat.le_refl _)
        have hll : (l.drop (j * s)).length = m := hC.out.left.1
        rw [List.take_of_length_le (by omega), List.drop_drop] at this
        rcases Nat.le_total s m with e | e
        · rwa [show j * s + q = (j + 1) * s by rw [Nat.succ_mul]; omega] at this
        · have hz : l.drop (j * s + q) = [] := List.drop_of_length_le (by have := hm.out; omega)
          have hz2 : l.drop ((j + 1) * s) = [] := List.drop_of_length_le (by have := hm.out; rw [Nat.succ_mul]; omega)
          rwa [hz, ← hz2] at this)
      have hsl : ∀ W : World, (Instr.sliceAt 22 (.slice (some ⟨b, off, none⟩) m c') (some (.int .i64 (q : Int))) none none).run Tryz.prog W = .ok (.slice (icut (some ⟨b, off, none⟩) c' q) (m - q) (c' - q)) W := fun W => by
        have := icut_l W (some ⟨b, off, none⟩) m c' .i64 (q : Int) (by omega) (by omega)
        rwa [hqt] at this
      have hcl := hide (clone_any b off q c' (ck s l j) wr hpart.out (by omega))
      have hwf := hide hpart.out.2.2.1
      have hckl := hide hpart.out.1
      clear hcell hq
      go_wp2_with fail
      refine hcl.out.mono ?_
      rintro e w2 ⟨v2, rfl, ho2, hb2⟩
      obtain ⟨a2, c2, rfl, hc2, hI2, hw2⟩ := ownI_is ho2 hwf.out
      rw [hckl.out] at hI2
      rw [hckl.out]
      obtain ⟨zs, hzl, hzo, hzi, hzc⟩ := hC.out.rows
      have hG : w.heap.size < wr.heap.size := by
        have := (World.ownsRow.lt hzo w.heap.size rfl).2; exact this
      have A2 := (Below.refl _ w2).alloc (Nat.le_refl _) (Obj.cells #[Value.slice a2 q c2] 22)
      have B2 := hide (bmore hb2 A2)
      have HZO := hide (World.ownsRow.kept hzo (gb_below (bmore hb2 A2) none) (.inr (by simp [Value.ownBlock])))
      have HI2 := hide hI2
      have HW2 := hide hw2
      have HZI := hide hzi
      have HZC := hide hzc
      clear ho2 hI2 hw2 hzo hzi hzc hcl A2
      go_wp2_with (first
        | (at_builtin; refine wpList_append_fits_any _ rfl _ _ 54 rfl w.heap.size 22 iS 1 Tryz.underlying54 hiS hzS1 w.heap.size j nr (sv zs) rfl HZO.out (some ⟨w2.heap.size, 0, none⟩) 1 1 [.slice a2 q c2] rfl ?e1 ?e2 ?e3 ?e4 ?e5 ?_)
        | fail)
      case e1 => rfl
      case e2 => intro h; cases h
      case e3 => intro ad had; cases had; exact cell_newS _ _ _
      case e4 => intro u hu; simp at hu; subst hu; rfl
      case e5 => omega
      intro w4 ho4 hg4
      go_wp2
      go_roundw
      case rel =>
        have hbw := hC.out.bel.size
        have hb4 : Below w.heap.size w w4 := (bmore hC.out.bel B2.out).grown hg4 (Nat.le_trans hC.out.bel.size B2.out.size) (fun k hk => by cases hk; exact Nat.le_refl _)
        refine ⟨j + 1, m - q, _, c' - q, rfl, rfl, hide ?_, hj1, by omega, hide ⟨hb4, ?_, by omega, ?_, zs ++ [⟨a2, q, c2, ck s l j⟩], by simp [hzl], ?_, ?_, ?_⟩⟩
        · have := hm.out; rw [Nat.succ_mul]; omega
        · refine is_grown' (hrest.out.below B2.out (Nat.le_refl _)) hg4 (fun h0 x hx => ?_)
          have hx2 : x.block = b := by
            unfold icut at hx
            split at hx
            · cases hx; rfl
            · simp [add_plain] at hx; rw [← hx]
          have := hC.out.old hlt _ rfl
          simp only at this
          rw [hx2]; simp; omega
        · intro h0 x hx
          have hx2 : x.block = b := by
            unfold icut at hx
            split at hx
            · cases hx; rfl
            · simp [add_plain] at hx; rw [← hx]
          rw [hx2]; exact hC.out.old hlt _ rfl
        · have := ho4
          simp only [sv, List.map_append, List.map_cons, List.map_nil] at this ⊢
          exact this
        · intro z hz
          rcases List.mem_append.1 hz with e | e
          · obtain ⟨hz1, hz2, hz3⟩ := HZI.out z e
            exact ⟨is_grown' (hz1.below B2.out (Nat.le_refl _)) hg4 (fun _ x hx e => by have := hz3 x hx; injection e with e; omega), hz2, hz3⟩
          · rw [List.mem_singleton.1 e]
            have hne : ∀ x, a2 = some x → w.heap.size < x.block := fun x hx => by
              obtain ⟨b9, off9, e9, hc9⟩ := HI2.out.2.2.2 (by omega)
              rw [e9] at hx; cases hx
              have := HW2.out _ e9
              simp only at this ⊢; omega
            exact ⟨is_grown' (HI2.out.below ((Below.refl _ w2).alloc (Nat.le_refl _) _) (Nat.le_refl _)) hg4 (fun _ x hx e => by have := hne x hx; injection e with e; omega), by show q ≤ _; omega, hne⟩
        · intro i z hi
          rcases Nat.lt_or_ge i zs.length with e | e
          · rw [List.getElem?_append_left e] at hi; exact HZC.out i z hi
          · rw [List.getElem?_append_right e] at hi
            have hi0 : i - zs.length = 0 := by
              have := (List.getElem?_eq_some_iff.1 hi).1
              simpa using this
            rw [hi0] at hi
            simp at hi
            rw [← hi]
            show ck s l j = ck s l i
            rw [show i = j by omega]
      case measure => simp [lenOf]; omega
    · obtain rfl : m = 0 := by omega
      have hjn := HG.out j (by have := hm.out; omega)
      obtain rfl : j = nr := by omega
      go_wp2
      go_ret
      obtain ⟨zs, hzl, hzo, hzi, hzc⟩ := hC.out.rows
      have hS : OwnS wr w.heap.size (.slice (some ⟨w.heap.size, 0, none⟩) j j) zs := by unfold OwnS; rw [hzl]; exact hzo
      obtain ⟨a9, c9, e9, hr9, _⟩ := ownS_rws hS (fun z hz => ⟨(hzi z hz).1, (hzi z hz).2.1⟩)
      rw [hzl] at e9 hr9
      exact ⟨_, _, rfl, hC.out.bel, zs, by injection e9 with e1 e2 e3; rw [← e1, ← e3] at hr9; exact hr9, hzc, fun x hx => by cases hx; exact Nat.le_refl _, fun z hz x hx => Nat.le_of_lt ((hzi z hz).2.2 x hx)⟩

theorem bcut_any (a : Option Addr) (n c : Nat) (l : List It) (most : Int) (w : World) (h : Is w a n c l) (hn : n ≤ 1000000) (hcm : c ≤ 9223372036854775807) :
    Calls Tryz.prog 52 #[.slice a n c, .int .i64 most] w fun e w' => ∃ a' c', e = .returned (.slice a' (cnr (csz most) n) c') ∧ Below w.heap.size w w' ∧ ∃ zs, Rws w' a' (cnr (csz most) n) c' zs ∧ ∀ i z, zs[i]? = some z → z.l = ck (csz most) l i :=
  (bcut_new a n c l most w h hn hcm).mono fun e w' ⟨a', c', h1, h2, zs, h3, h4, _, _⟩ => ⟨a', c', h1, h2, zs, h3, h4⟩

/-- The rows cut so far by the document's own. -/
structure Cr (w wr : World) (v : Value) (s : Nat) (l : List It) (j : Nat) (a' : Option Addr) (m c' : Nat) : Prop where
  bel : Below w.heap.size w wr
  left : Is w a' m c' (l.drop (j * s))
  cap : c' ≤ 9223372036854775807
  rows : ∃ zs : List Sl, zs.length = j ∧ OwnS wr w.heap.size v zs ∧ (∀ z ∈ zs, Is w z.a z.n z.c z.l ∧ z.n ≤ 9223372036854775807) ∧ ∀ i z, zs[i]? = some z → z.l = ck s l i
set_option maxRecDepth 100000 in
set_option maxHeartbeats 2000000 in
theorem rcut_any (a : Option Addr) (n c : Nat) (l : List It) (most : Int) (w : World) (h : Is w a n c l) (hn : n ≤ 1000000) (hcm : c ≤ 9223372036854775807) :
    Calls Tryz.prog 32 #[.slice a n c, .int .i64 most] w fun e w' => ∃ a' c', e = .returned (.slice a' (cnr (csz most) n) c') ∧ Below w.heap.size w w' ∧ ∃ zs, Rws w' a' (cnr (csz most) n) c' zs ∧ ∀ i z, zs[i]? = some z → z.l = ck (csz most) l i := by
  obtain ⟨s, hs⟩ : ∃ s, csz most = s := ⟨_, rfl⟩
  have hs1 := csz_rng most
  obtain ⟨M, hM⟩ : ∃ M, max most 1 = M := ⟨_, rfl⟩
  have hsi : min M 100 = (s : Int) := by rw [← hs, ← hM]; unfold csz; omega
  rw [hs] at hs1 ⊢
  obtain ⟨nr, hnr⟩ : ∃ nr, cnr s n = nr := ⟨_, rfl⟩
  have hnn : nr ≤ n := by rw [← hnr]; exact cnr_n hs1.1
  have HL := hide (fun j (h : j * s < n) => show j + 1 ≤ nr by rw [← hnr]; exact cnr_lt hs1.1 h)
  have HG := hide (fun j (h : n ≤ j * s) => show nr ≤ j by rw [← hnr]; exact cnr_le hs1.1 h)
  rw [hnr]
  clear hs hnr
  obtain ⟨iS, hiS, hzS0, hzS1, hzS2⟩ := info_parts infoS
  have hlen := h.1
  have C0 : Hid (Cr w w (.slice none 0 0) s l 0 a n c) := hide ⟨Below.refl _ _, by simpa using h, hcm, [], rfl, World.ownsRow_nil _ _ _ _, by simp, by simp⟩
  have hs0 : (0 : Int) < (s : Int) := by omega
  clear h
  go_enter Tryz.func32, Tryz.ntmps32
  go_wp2_with fail
  go_loopw [0, 5] (fun s0 s5 wr => ∃ (j m : Nat) (a' : Option Addr) (c' : Nat), s0 = .slice a' m c' ∧ Hid (m = n - j * s) ∧ j ≤ nr ∧ m ≤ n ∧ Hid (Cr w wr s5 s l j a' m c')) (fun s0 _ _ => lenOf s0)
  case atStart => exact ⟨0, n, a, c, rfl, hide (by omega), by omega, by omega, C0⟩
  case round =>
    obtain ⟨j, m, a', c', rfl, hm, hj, hmn, hC⟩ := hrel
    by_cases hlt : 0 < m
    · have hj1 := HL.out j (by have := hm.out; omega)
      obtain ⟨b, off, ea, hcell⟩ := hC.out.left.2.2.2 hlt
      subst ea
      have hcc := hC.out.cap
      have hmc := hC.out.left.2.1.1
      obtain ⟨q, hq⟩ : ∃ q, min s m = q := ⟨_, rfl⟩
      have hqi : min (s : Int) (m : Int) = (q : Int) := by omega
      have hq1 : 1 ≤ q ∧ q ≤ m ∧ q ≤ s := by omega
      have hqc : (q : Int) ≤ (c' : Int) := by omega
      have hqt : (q : Int).toNat = q := by omega
      have hch : Hid ((l.drop (j * s)).take q = ck s l j) := hide (by
        unfold ck
        have hll : (l.drop (j * s)).length = m := hC.out.left.1
        rcases Nat.le_total s m with e | e
        · rw [show q = s by omega]
        · rw [show q = m by omega, List.take_of_length_le (by omega), List.take_of_length_le (by omega)])
      have hpart := hide (show Is w (some ⟨b, off, none⟩) q c' (ck s l j) by
        have := hC.out.left.cut 0 q (by omega) hq1.2.1
        rw [List.drop_zero, hch.out, Nat.sub_zero, Nat.sub_zero] at this
        have e : icut (some ⟨b, off, none⟩) c' 0 = some ⟨b, off, none⟩ := by unfold icut; rw [if_neg (by omega)]; simp [add_plain]
        rwa [e] at this)
      have hrest := hide (show Is w (icut (some ⟨b, off, none⟩) c' q) (m - q) (c' - q) (l.drop ((j + 1) * s)) by
        have := hC.out.left.cut q m hq1.2.1 (Nat.le_refl _)
        have hll : (l.drop (j * s)).length = m := hC.out.left.1
        rw [List.take_of_length_le (by omega), List.drop_drop] at this
        rcases Nat.le_total s m with e | e
        · rwa [show j * s + q = (j + 1) * s by rw [Nat.succ_mul]; omega] at this
        · have hz : l.drop (j * s + q) = [] := List.drop_of_length_le (by have := hm.out; omega)
          have hz2 : l.drop ((j + 1) * s) = [] := List.drop_of_length_le (by have := hm.out; rw [Nat.succ_mul]; omega)
          rwa [hz, ← hz2] at this)
      have hsl : ∀ W : World, (Instr.sliceAt 22 (.slice (some ⟨b, off, none⟩) m c') (some (.int .i64 (q : Int))) none none).run Tryz.prog W = .ok (.slice (icut (some ⟨b, off, none⟩) c' q) (m - q) (c' - q)) W := fun W => by
        have := icut_l W (some ⟨b, off, none⟩) m c' .i64 (q : Int) (by omega) (by omega)
        rwa [hqt] at this
      obtain ⟨zs, hzl, hzo, hzi, hzc⟩ := hC.out.rows
      have A2 := (Below.refl _ wr).alloc (Nat.le_refl _) (Obj.cells #[Value.slice (some ⟨b, off, none⟩) q c'] 22)
      have B2 := hide A2
      have HZO := hide (ownS_keep hzo A2)
      unfold OwnS at HZO
      rw [hzl] at HZO
      have HZI := hide hzi
      have HZC := hide hzc
      have HOL := hide (fun k hk => (World.ownsRow.lt hzo k hk).1)
      have hsz := hide (show w.heap.size ≤ (wr.alloc (Obj.cells #[Value.slice (some ⟨b, off, none⟩) q c'] 22)).heap.size from Nat.le_trans hC.out.bel.size A2.size)
      clear hzo hzi hzc A2 hcell hq
      go_wp2_with (first
        | (at_builtin; refine wpList_append_own _ rfl _ _ 54 rfl w.heap.size 22 iS (.slice none 0 0) 1 24 Tryz.underlying54 hiS hzS0 hzS1 hzS2 rfl (by decide) _ j (sv zs) rfl HZO.out ⟨wr.heap.size, 0, none⟩ 1 1 [.slice (some ⟨b, off, none⟩) q c'] rfl rfl ?e1 ?e2 ?e3 ?e4 hsz.out ?_)
        | fail)
      case e1 => exact cell_newS _ _ _
      case e2 => intro u hu; simp at hu; subst hu; rfl
      case e3 => unfold maxLen; omega
      case e4 => omega
      intro v4 w4 ho4 hg4 _
      go_wp2
      go_roundw
      case rel =>
        have hb4 : Below w.heap.size w w4 := (bmore hC.out.bel B2.out).grown hg4 hsz.out HOL.out
        refine ⟨j + 1, m - q, _, c' - q, rfl, hide ?_, hj1, by omega, hide ⟨hb4, hrest.out, by omega, zs ++ [⟨some ⟨b, off, none⟩, q, c', ck s l j⟩], by simp [hzl], ?_, ?_, ?_⟩⟩
        · have := hm.out; rw [Nat.succ_mul]; omega
        · rw [← hzl] at ho4; exact ownS_snoc ho4
        · intro z hz
          rcases List.mem_append.1 hz with e | e
          · exact HZI.out z e
          · rw [List.mem_singleton.1 e]
            exact ⟨hpart.out, by show q ≤ _; omega⟩
        · intro i z hi
          rcases Nat.lt_or_ge i zs.length with e | e
          · rw [List.getElem?_append_left e] at hi; exact HZC.out i z hi
          · rw [List.getElem?_append_right e] at hi
            have hi0 : i - zs.length = 0 := by
              have := (List.getElem?_eq_some_iff.1 hi).1
              simpa using this
            rw [hi0] at hi
            simp at hi
            rw [← hi]
            show ck s l j = ck s l i
            rw [show i = j by omega]
      case measure => simp [lenOf]; omega
    · obtain rfl : m = 0 := by omega
      have hjn := HG.out j (by have := hm.out; omega)
      obtain rfl : j = nr := by omega
      obtain ⟨zs, hzl, hzo, hzi, hzc⟩ := hC.out.rows
      obtain ⟨a9, c9, e9, hr9, _⟩ := ownS_rws hzo (fun z hz => ⟨(hzi z hz).1.below hC.out.bel (Nat.le_refl _), (hzi z hz).2⟩)
      rw [hzl] at e9 hr9
      subst e9
      have HR := hide hr9
      have HZC := hide hzc
      clear hzo hzi hzc hr9
      go_wp2
      go_ret
      exact ⟨_, _, rfl, hC.out.bel, zs, HR.out, HZC.out⟩

end Go.Proofs.YtodhljiboakjnaaGreat.Clep
