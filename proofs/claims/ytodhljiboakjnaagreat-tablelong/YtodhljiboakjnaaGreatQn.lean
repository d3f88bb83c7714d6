/- What the statements' own function More does when called. Conditions: at most 10,000 items asked for. -/
import Derived.Test.YtodhljiboakjnaaGreatQa
import Derived.Test.YtodhljiboakjnaaGreatZm
import Derived.Laws.AppendOwn
namespace Go.Proofs.YtodhljiboakjnaaGreat.Clep
open Go.RowKit
set_option linter.unusedVariables false

theorem i64_and_nat (a b : Nat) (ha : a < 4611686018427387904) (hb : b < 4611686018427387904) : bits .and .i64 (a : Int) (b : Int) = ((a &&& b : Nat) : Int) := by
  have e : bits .and .i64 (a : Int) (b : Int) = IntKind.i64.wrap ((BitVec.ofInt 64 (a : Int) &&& BitVec.ofInt 64 (b : Int)).toNat : Int) := rfl
  have h1 : (BitVec.ofInt 64 (a : Int) &&& BitVec.ofInt 64 (b : Int)).toNat = a &&& b := by
    rw [BitVec.toNat_and, BitVec.toNat_ofInt, BitVec.toNat_ofInt]
    congr 1 <;> omega
  have h2 : a &&& b ≤ b := Nat.and_le_right
  rw [e, h1]
  generalize (a &&& b) = k at *
  simp [IntKind.wrap, IntKind.bits, IntKind.signed]
  omega
theorem and255 (a : Nat) (h : a < 256) : bits .and .i64 (a : Int) 255 = (a : Int) := by
  have := i64_and_nat a 255 (by omega) (by omega)
  rw [show a &&& 255 = a from by
    have : a &&& (2 ^ 8 - 1) = a % 2 ^ 8 := Nat.and_two_pow_sub_one_eq_mod a 8
    rw [show (255 : Nat) = 2 ^ 8 - 1 from rfl, this]; omega] at this
  exact this
/-- The i-th item that More makes. -/
def mi (l : List It) (i : Nat) : It := ⟨((i / 40 : Nat) : Int), 2, ((i % 40 : Nat) : Int), ((i : Nat) : Int) + 1, ((l[i % l.length]?).getD oz).X⟩
def moreL (l : List It) (n : Nat) : List It := (List.range n).map (mi l)
theorem more_succ (l : List It) (n : Nat) : moreL l (n + 1) = moreL l n ++ [mi l n] := by
  unfold moreL; rw [List.range_succ, List.map_append]; rfl
theorem more_len (l : List It) (n : Nat) : (moreL l n).length = n := by simp [moreL]
theorem more_get {l : List It} {n i : Nat} (h : i < n) : (moreL l n)[i]? = some (mi l i) := by simp [moreL, h]
theorem mi_less (l : List It) {i j : Nat} (h : i < j) : (mi l i).less (mi l j) = true := by
  rw [less_iff]
  simp only [mi]
  rcases Nat.lt_or_ge (i / 40) (j / 40) with h1 | h1
  · exact .inl (by omega)
  · exact .inr ⟨by omega, .inr ⟨trivial, by omega⟩⟩
theorem more_rise (l : List It) (n : Nat) : Rise (moreL l n) := by
  refine List.pairwise_iff_getElem.2 fun i j hi hj hij => ?_
  simp only [moreL, List.getElem_map, List.getElem_range]
  exact mi_less l hij
theorem mi_wf {l : List It} (hw : ∀ x ∈ l, x.wf) {i : Nat} (h : i < 10000) : (mi l i).wf := by
  have hX : -9223372036854775808 ≤ ((l[i % l.length]?).getD oz).X ∧ ((l[i % l.length]?).getD oz).X ≤ 9223372036854775807 := by
    cases e : l[i % l.length]? with
    | none => simp [oz]
    | some x => exact (hw x (List.mem_of_getElem? e)).2.2.2.2
  unfold It.wf mi
  simp only
  omega
theorem mi_ok (l : List It) {i : Nat} (h : i < 10000) : (mi l i).ok = true := by
  unfold It.ok okI mi
  simp only [decide_eq_true_eq]
  exact ⟨by omega, by omega, by omega, by omega, .inr ⟨trivial, by omega⟩⟩
theorem more_mem {l : List It} {n : Nat} {x : It} (h : x ∈ moreL l n) : ∃ i, i < n ∧ x = mi l i := by
  unfold moreL at h
  obtain ⟨i, hi, rfl⟩ := List.mem_map.1 h
  exact ⟨i, List.mem_range.1 hi, rfl⟩
theorem more_tok {l : List It} (hw : ∀ x ∈ l, x.wf) {n : Nat} (h : n ≤ 2000) : TOk (moreL l n) :=
  ⟨more_rise l n, fun x hx => by obtain ⟨i, hi, rfl⟩ := more_mem hx; exact mi_ok l (by omega), fun x hx => by obtain ⟨i, hi, rfl⟩ := more_mem hx; exact mi_wf hw (by omega), by rw [more_len]; exact h⟩
theorem more_wf {l : List It} (hw : ∀ x ∈ l, x.wf) {n : Nat} (h : n ≤ 10000) : ∀ x ∈ moreL l n, x.wf := fun x hx => by obtain ⟨i, hi, rfl⟩ := more_mem hx; exact mi_wf hw (by omega)
set_option maxRecDepth 100000 in
set_option maxHeartbeats 2000000 in
theorem more_any (a : Option Addr) (n c : Nat) (l : List It) (m : Nat) (w : World) (h : Is w a n c l) (hn : n ≤ 9223372036854775807) (hm : m ≤ 10000) :
    Calls Tryz.prog 25 #[.slice a n c, .int .i64 m] w fun e w' => ∃ a' c', e = .returned (.slice a' m c') ∧ Is w' a' m c' (moreL l m) ∧ c' ≤ 9223372036854775807 ∧ Below w.heap.size w w' ∧ OwnI w' w.heap.size (.slice a' m c') (moreL l m) := by
  have hl := h.1
  have HW := hide h.2.2.1
  have H0 := hide (fun W (hW : Below w.heap.size w W) => h.below hW (Nat.le_refl _))
  clear h
  go_enter Tryz.func25, Tryz.ntmps25
  go_wp2_with fail
  go_loopw [5, 6] (fun v i wr => ∃ k : Nat, k ≤ m ∧ i = .int .i64 k ∧ Hid (OwnI wr w.heap.size v (moreL l k)) ∧ Hid (Below w.heap.size w wr)) (fun _ i _ => m - (intOf i).toNat)
  case atStart => exact ⟨0, by omega, rfl, hide (ownI_nil _ _), hide (Below.refl _ _)⟩
  case round =>
    obtain ⟨k, hk, rfl, hown, hbl⟩ := hrel
    by_cases hlt : k < m
    · have hand : bits BinOp.and IntKind.i64 ((k : Int) / 40) 255 = ((k / 40 : Nat) : Int) := by
        rw [show (k : Int) / 40 = ((k / 40 : Nat) : Int) by omega]; exact and255 _ (by omega)
      have hmod : (k : Int) % 40 = ((k % 40 : Nat) : Int) := by omega
      have HMS := hide (more_succ l k)
      have HWM := hide (mi_wf HW.out (i := k) (by omega))
      have HLM := hide (more_len l k)
      by_cases h0 : n = 0
      · subst h0
        have HX : Hid (mi l k = ⟨((k / 40 : Nat) : Int), 2, ((k % 40 : Nat) : Int), ((k : Nat) : Int) + 1, 0⟩) := hide (by
          unfold mi
          rw [List.eq_nil_of_length_eq_zero hl]; rfl)
        rw [HX.out] at HMS HWM
        obtain ⟨q, hq⟩ : ∃ q : Nat, k / 40 = q := ⟨_, rfl⟩
        obtain ⟨r, hr⟩ : ∃ r : Nat, k % 40 = r := ⟨_, rfl⟩
        rw [hq, hr] at HMS HWM
        rw [hq] at hand
        rw [hr] at hmod
        have hr40 : r < 40 := by omega
        clear hq hr
        have A1 := hide ((Below.refl _ wr).alloc (Nat.le_refl _) (Obj.cells #[Value.int IntKind.i64 (q : Int), Value.int IntKind.i64 2, Value.int IntKind.u64 (r : Int), Value.int IntKind.u64 ((k : Int) + 1), Value.int IntKind.i64 0] 25))
        have A2 := hide ((Below.refl _ (wr.alloc (Obj.cells #[Value.int IntKind.i64 (q : Int), Value.int IntKind.i64 2, Value.int IntKind.u64 (r : Int), Value.int IntKind.u64 ((k : Int) + 1), Value.int IntKind.i64 0] 25))).alloc (Nat.le_refl _) (Obj.cells #[Value.int IntKind.i64 (q : Int), Value.int IntKind.i64 2, Value.int IntKind.u64 (r : Int), Value.int IntKind.u64 ((k : Int) + 1), Value.int IntKind.i64 0] 25))
        have O2 := hide (ownI_keep (ownI_keep hown.out A1.out) A2.out)
        have B2 := hide (bmore (bmore hbl.out A1.out) A2.out)
        have I2 := hide (is_one (wr.alloc (Obj.cells #[Value.int IntKind.i64 (q : Int), Value.int IntKind.i64 2, Value.int IntKind.u64 (r : Int), Value.int IntKind.u64 ((k : Int) + 1), Value.int IntKind.i64 0] 25)) (q : Int) 2 (r : Int) ((k : Int) + 1) 0 HWM.out)
        have hS2 : (wr.alloc (Obj.cells #[Value.int IntKind.i64 (q : Int), Value.int IntKind.i64 2, Value.int IntKind.u64 (r : Int), Value.int IntKind.u64 ((k : Int) + 1), Value.int IntKind.i64 0] 25)).heap.size = wr.heap.size + 1 := by simp
        rw [hS2] at I2
        have HS := hide (show w.heap.size ≤ ((wr.alloc (Obj.cells #[Value.int IntKind.i64 (q : Int), Value.int IntKind.i64 2, Value.int IntKind.u64 (r : Int), Value.int IntKind.u64 ((k : Int) + 1), Value.int IntKind.i64 0] 25)).alloc (Obj.cells #[Value.int IntKind.i64 (q : Int), Value.int IntKind.i64 2, Value.int IntKind.u64 (r : Int), Value.int IntKind.u64 ((k : Int) + 1), Value.int IntKind.i64 0] 25)).heap.size from B2.out.size)
        clear hS2
        go_wp2_with (first
          | (at_builtin; refine wpList_append_items rfl _ _ rfl w.heap.size _ (moreL l k) rfl O2.out _ 1 1 _ rfl I2.out ?_ HS.out ?_)
          | fail)
        · rw [HLM.out]; omega
        intro v3 w3 ho3 hg3 hbk3
        have O3 : Hid (OwnI w3 w.heap.size v3 (moreL l (k + 1))) := hide (by rw [HMS.out]; exact ho3)
        have B3 : Hid (Below w.heap.size w w3) := hide (B2.out.grown hg3 HS.out hbk3)
        clear ho3 hg3 hbk3 O2 I2
        go_wp2
        go_roundw
        case rel => exact ⟨k + 1, by omega, by go_num, O3, B3⟩
        case measure => simp [intOf]; omega
      · obtain ⟨b, off, ea, hcell⟩ := (H0.out _ hbl.out).2.2.2 (by omega)
        subst ea
        have hin : k % n < n := Nat.mod_lt _ (by omega)
        obtain ⟨x, hx⟩ : ∃ x, l[k % n]? = some x := ⟨_, List.getElem?_eq_getElem (by rw [hl]; exact hin)⟩
        have hv := hcell (k % n) x hx
        have HX : Hid (mi l k = ⟨((k / 40 : Nat) : Int), 2, ((k % 40 : Nat) : Int), ((k : Nat) : Int) + 1, x.X⟩) := hide (by
          unfold mi
          rw [hl, hx]; rfl)
        rw [HX.out] at HMS HWM
        obtain ⟨S, K, T, V, X⟩ := x
        unfold Vt Vi at hv
        simp only at hv HMS HWM
        obtain ⟨v0, v1, v2, v3, v4⟩ := hv
        obtain ⟨q, hq⟩ : ∃ q : Nat, k / 40 = q := ⟨_, rfl⟩
        obtain ⟨r, hr⟩ : ∃ r : Nat, k % 40 = r := ⟨_, rfl⟩
        obtain ⟨u, hu⟩ : ∃ u : Nat, k % n = u := ⟨_, rfl⟩
        rw [hq, hr] at HMS HWM
        rw [hq] at hand
        rw [hr] at hmod
        rw [hu] at v0 v1 v2 v3 v4 hin
        have hmod2 : (k : Int) % (n : Int) = (u : Int) := by rw [← hu]; exact (Int.natCast_emod k n).symm
        have hnz : (n : Int) ≠ 0 := by omega
        have hnp : (0 : Int) < (n : Int) := by omega
        have hr40 : r < 40 := by omega
        have hui : (u : Int) < (n : Int) := by omega
        have hbne : b < wr.heap.size := World.block_lt_of_cell? wr _ v4
        clear hq hr hu hcell hx
        have A1 := hide ((Below.refl _ wr).alloc (Nat.le_refl _) (Obj.cells #[Value.int IntKind.i64 (q : Int), Value.int IntKind.i64 2, Value.int IntKind.u64 (r : Int), Value.int IntKind.u64 ((k : Int) + 1), Value.int IntKind.i64 X] 25))
        have A2 := hide ((Below.refl _ (wr.alloc (Obj.cells #[Value.int IntKind.i64 (q : Int), Value.int IntKind.i64 2, Value.int IntKind.u64 (r : Int), Value.int IntKind.u64 ((k : Int) + 1), Value.int IntKind.i64 X] 25))).alloc (Nat.le_refl _) (Obj.cells #[Value.int IntKind.i64 (q : Int), Value.int IntKind.i64 2, Value.int IntKind.u64 (r : Int), Value.int IntKind.u64 ((k : Int) + 1), Value.int IntKind.i64 X] 25))
        have O2 := hide (ownI_keep (ownI_keep hown.out A1.out) A2.out)
        have B2 := hide (bmore (bmore hbl.out A1.out) A2.out)
        have I2 := hide (is_one (wr.alloc (Obj.cells #[Value.int IntKind.i64 (q : Int), Value.int IntKind.i64 2, Value.int IntKind.u64 (r : Int), Value.int IntKind.u64 ((k : Int) + 1), Value.int IntKind.i64 X] 25)) (q : Int) 2 (r : Int) ((k : Int) + 1) X HWM.out)
        have hS2 : (wr.alloc (Obj.cells #[Value.int IntKind.i64 (q : Int), Value.int IntKind.i64 2, Value.int IntKind.u64 (r : Int), Value.int IntKind.u64 ((k : Int) + 1), Value.int IntKind.i64 X] 25)).heap.size = wr.heap.size + 1 := by simp
        rw [hS2] at I2
        have HS := hide (show w.heap.size ≤ ((wr.alloc (Obj.cells #[Value.int IntKind.i64 (q : Int), Value.int IntKind.i64 2, Value.int IntKind.u64 (r : Int), Value.int IntKind.u64 ((k : Int) + 1), Value.int IntKind.i64 X] 25)).alloc (Obj.cells #[Value.int IntKind.i64 (q : Int), Value.int IntKind.i64 2, Value.int IntKind.u64 (r : Int), Value.int IntKind.u64 ((k : Int) + 1), Value.int IntKind.i64 X] 25)).heap.size from B2.out.size)
        clear hS2
        go_wp2_with (first
          | (at_builtin; refine wpList_append_items rfl _ _ rfl w.heap.size _ (moreL l k) rfl O2.out _ 1 1 _ rfl I2.out ?_ HS.out ?_)
          | fail)
        · rw [HLM.out]; omega
        intro v3 w3 ho3 hg3 hbk3
        have O3 : Hid (OwnI w3 w.heap.size v3 (moreL l (k + 1))) := hide (by rw [HMS.out]; exact ho3)
        have B3 : Hid (Below w.heap.size w w3) := hide (B2.out.grown hg3 HS.out hbk3)
        clear ho3 hg3 hbk3 O2 I2
        go_wp2
        go_roundw
        case rel => exact ⟨k + 1, by omega, by go_num, O3, B3⟩
        case measure => simp [intOf]; omega
    · obtain rfl : k = m := by omega
      obtain ⟨a9, c9, e9, hc9, hI9, -⟩ := ownI_is hown.out (more_wf HW.out hm)
      rw [more_len] at e9 hI9
      subst e9
      have HH := hide (And.intro hI9 (And.intro hc9 (And.intro hbl.out hown.out)))
      clear hown hbl hI9
      go_wp2
      go_ret
      exact ⟨_, _, rfl, HH.out⟩

end Go.Proofs.YtodhljiboakjnaaGreat.Clep
