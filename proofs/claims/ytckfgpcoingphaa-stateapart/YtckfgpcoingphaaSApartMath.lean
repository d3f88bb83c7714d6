/- StateApart, walked: for any two lists and any series. No conditions. -/
import Derived.Test.YtckfgpcoingphaaSMath2
import Derived.Test.YtckfgpcoingphaaSLaw
namespace Go.Proofs.Ytckfgpcoingphaa.Clep
open Go.RowKit
set_option linter.unusedVariables false

theorem filter_of (l : List It) (s : Int) : (ofL l).filter (fun x => x.S == s) = ofL (l.filter (fun x => x.S == s)) := by
  refine ofL_uniq ⟨(ofL_sta l).1.filter _, fun x hx => ?_, fun t ht x hx => (ofL_sta l).2.2.1 t (List.mem_filter.1 ht).1 x (List.mem_filter.1 hx).1, fun x hx => ?_⟩
  · obtain ⟨h1, h2⟩ := List.mem_filter.1 hx
    obtain ⟨h3, h4⟩ := (ofL_sta l).2.1 x h1
    exact ⟨List.mem_filter.2 ⟨h3, h2⟩, h4⟩
  · obtain ⟨h1, h2⟩ := hx
    obtain ⟨h3, h4⟩ := List.mem_filter.1 h1
    obtain ⟨y, hy, hd⟩ := (ofL_sta l).2.2.2 x ⟨h3, h2⟩
    refine ⟨y, List.mem_filter.2 ⟨hy, ?_⟩, hd⟩
    have := dom_series hd
    simp at h4 ⊢; omega
theorem apart_odd {lx ly : List It} {s : Int} (h : ∀ x ∈ lx, x.S % 2 = 0) (hs : s % 2 = 1) : (ofL (ofL lx ++ ly)).filter (fun x => x.S == s) = (ofL ly).filter (fun x => x.S == s) := by
  have e : lx.filter (fun x => x.S == s) = [] := by
    rw [List.filter_eq_nil_iff]; intro y hy; have := h y hy; simp; omega
  rw [ofL_of, filter_of, filter_of, List.filter_append, e, List.nil_append]
theorem apart_even {lx ly : List It} {s : Int} (h : ∀ x ∈ ly, x.S % 2 = 1) (hs : ¬ s % 2 = 1) : (ofL (ofL lx ++ ly)).filter (fun x => x.S == s) = (ofL lx).filter (fun x => x.S == s) := by
  have e : ly.filter (fun x => x.S == s) = [] := by
    rw [List.filter_eq_nil_iff]; intro y hy; have := h y hy; simp; omega
  rw [ofL_of, filter_of, filter_of, List.filter_append, e, List.append_nil]
theorem and126 (a : Int) : 0 ≤ bits .and .i64 a 126 ∧ bits .and .i64 a 126 ≤ 126 ∧ bits .and .i64 a 126 % 2 = 0 := by
  have e : bits .and .i64 a 126 = IntKind.i64.wrap ((BitVec.ofInt 64 a &&& BitVec.ofInt 64 126).toNat : Int) := rfl
  have hle : (BitVec.ofInt 64 a &&& BitVec.ofInt 64 126).toNat ≤ 126 := by
    rw [BitVec.toNat_and]; exact Nat.le_trans Nat.and_le_right (by decide)
  have hev : (BitVec.ofInt 64 a &&& BitVec.ofInt 64 126).toNat % 2 = 0 := by
    rw [BitVec.toNat_and]
    have := Nat.and_mod_two_pow (a := (BitVec.ofInt 64 a).toNat) (b := (BitVec.ofInt 64 126).toNat) (n := 1)
    rw [show (2 : Nat) ^ 1 = 2 from rfl, show (BitVec.ofInt 64 126).toNat % 2 = 0 from by decide, Nat.and_zero] at this
    exact this
  rw [e]
  generalize (BitVec.ofInt 64 a &&& BitVec.ofInt 64 126).toNat = k at *
  simp [IntKind.wrap, IntKind.bits, IntKind.signed]
  omega
theorem or1 (b : Int) (h0 : 0 ≤ b) (h1 : b ≤ 126) : 0 ≤ bits .or .i64 b 1 ∧ bits .or .i64 b 1 ≤ 127 ∧ bits .or .i64 b 1 % 2 = 1 := by
  have e : bits .or .i64 b 1 = IntKind.i64.wrap ((BitVec.ofInt 64 b ||| BitVec.ofInt 64 1).toNat : Int) := rfl
  have hb : (BitVec.ofInt 64 b).toNat ≤ 126 := by rw [BitVec.toNat_ofInt]; omega
  have hle : (BitVec.ofInt 64 b ||| BitVec.ofInt 64 1).toNat < 128 := by
    rw [BitVec.toNat_or]; exact Nat.or_lt_two_pow (n := 7) (by omega) (by decide)
  have hev : (BitVec.ofInt 64 b ||| BitVec.ofInt 64 1).toNat % 2 = 1 := by
    rw [BitVec.toNat_or]
    have := Nat.or_mod_two_pow (a := (BitVec.ofInt 64 b).toNat) (b := (BitVec.ofInt 64 1).toNat) (n := 1)
    rw [show (2 : Nat) ^ 1 = 2 from rfl, show (BitVec.ofInt 64 1).toNat % 2 = 1 from by decide] at this
    rw [this]
    have h2 : (BitVec.ofInt 64 b).toNat % 2 = 0 ∨ (BitVec.ofInt 64 b).toNat % 2 = 1 := by omega
    rcases h2 with h2 | h2 <;> rw [h2] <;> rfl
  rw [e]
  generalize (BitVec.ofInt 64 b ||| BitVec.ofInt 64 1).toNat = k at *
  simp [IntKind.wrap, IntKind.bits, IntKind.signed]
  omega
theorem and127 (a : Int) : 0 ≤ bits .and .i64 a 127 ∧ bits .and .i64 a 127 ≤ 127 := by
  have e : bits .and .i64 a 127 = IntKind.i64.wrap ((BitVec.ofInt 64 a &&& BitVec.ofInt 64 127).toNat : Int) := rfl
  have hle : (BitVec.ofInt 64 a &&& BitVec.ofInt 64 127).toNat ≤ 127 := by
    rw [BitVec.toNat_and]; exact Nat.le_trans Nat.and_le_right (by decide)
  rw [e]
  generalize (BitVec.ofInt 64 a &&& BitVec.ofInt 64 127).toNat = k at *
  simp [IntKind.wrap, IntKind.bits, IntKind.signed]
  omega
theorem and1 (s : Int) (h0 : 0 ≤ s) (h1 : s ≤ 127) : bits .and .i64 s 1 = s % 2 := by
  have e : bits .and .i64 s 1 = IntKind.i64.wrap ((BitVec.ofInt 64 s &&& BitVec.ofInt 64 1).toNat : Int) := rfl
  have hs : (BitVec.ofInt 64 s).toNat = s.toNat := by rw [BitVec.toNat_ofInt]; omega
  have h2 : (BitVec.ofInt 64 s &&& BitVec.ofInt 64 1).toNat = s.toNat % 2 := by
    rw [BitVec.toNat_and, hs, show (BitVec.ofInt 64 1).toNat = 1 from by decide, Nat.and_one_is_mod]
  rw [e, h2]
  simp [IntKind.wrap, IntKind.bits, IntKind.signed]
  omega
/-- One item's series stored in a row of the call's own. -/
theorem ownI_series {w : World} {B g n cap i : Nat} {m : List It} {x : It} (h : OwnI w B (.slice (some ⟨g, 0, none⟩) n cap) m) (hx : m[i]? = some x) (s : Int) :
    OwnI (w.setCell ⟨g, i * 5, none⟩ (.int .i64 s)) B (.slice (some ⟨g, 0, none⟩) n cap) (m.set i ⟨s, x.K, x.T, x.V, x.X⟩) := by
  obtain ⟨hl, ⟨e0, _⟩ | ⟨g', cap', cur, e0, hg, hh, hnc, hcm, hcs, ht⟩⟩ := h
  · cases e0
  cases e0
  have hi : i < m.length := (List.getElem?_eq_some_iff.1 hx).1
  have hheap : (w.setCell ⟨g, i * 5, none⟩ (.int .i64 s)).heap[g]? = some (.cells (cur.setIfInBounds (i * 5) (.int .i64 s)) 29 (0, 0)) := by
    rw [Go.Sort.setCell_eq]
    simp [Go.Sort.mapBlock, Array.getElem?_modify, hh, Go.Sort.onCells]
  refine ⟨by rw [cvs_len], .inr ⟨g, cap, _, by rw [List.length_set], hg, hheap, by rw [List.length_set]; exact hnc, hcm, by simp [hcs], ?_⟩⟩
  rw [List.length_set]
  apply List.ext_getElem?
  intro k
  have hck : ∀ k, k < m.length * 5 → cur.toList[k]? = (cvs m)[k]? := fun k hk => by rw [← ht, List.getElem?_take_of_lt hk]
  by_cases hk : k < m.length * 5
  · rw [List.getElem?_take_of_lt hk, Array.getElem?_toList, Array.getElem?_setIfInBounds]
    have e : k = k / 5 * 5 + k % 5 := by omega
    obtain ⟨y, hy⟩ : ∃ y, m[k / 5]? = some y := ⟨_, List.getElem?_eq_getElem (by omega)⟩
    by_cases hki : k / 5 = i
    · have hxy : (m.set i ⟨s, x.K, x.T, x.V, x.X⟩)[k / 5]? = some ⟨s, x.K, x.T, x.V, x.X⟩ := by rw [hki, List.getElem?_set_self hi]
      have r1 := cvs_get _ (k / 5) (k % 5) _ hxy (by omega)
      rw [← e] at r1
      rw [r1]
      by_cases hk0 : k % 5 = 0
      · rw [if_pos (by omega), if_pos (by rw [hcs]; have := Nat.mul_le_mul_right 5 hnc; omega), hk0]; rfl
      · rw [if_neg (by omega), ← Array.getElem?_toList, hck k hk]
        have r2 := cvs_get m (k / 5) (k % 5) x (by rw [hki]; exact hx) (by omega)
        rw [← e] at r2
        rw [r2]
        have hm : k % 5 = 1 ∨ k % 5 = 2 ∨ k % 5 = 3 ∨ k % 5 = 4 := by omega
        rcases hm with hm | hm | hm | hm <;> rw [hm] <;> rfl
    · have hxy : (m.set i ⟨s, x.K, x.T, x.V, x.X⟩)[k / 5]? = some y := by rw [List.getElem?_set_ne (by omega)]; exact hy
      have r1 := cvs_get _ (k / 5) (k % 5) _ hxy (by omega)
      rw [← e] at r1
      have r2 := cvs_get m (k / 5) (k % 5) y hy (by omega)
      rw [← e] at r2
      rw [r1, if_neg (by omega), ← Array.getElem?_toList, hck k hk, r2]
  · rw [List.getElem?_take_eq_none (by omega), List.getElem?_eq_none (by rw [cvs_len, List.length_set]; omega)]

end Go.Proofs.Ytckfgpcoingphaa.Clep
