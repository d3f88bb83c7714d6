/- What the reader of package item does when called: a byte, a number, an item taken from what is left. Conditions: its two cells hold what is said. -/
import Derived.Test.YtfmofkkjnepbcaaILaw
import Derived.Test.YtfmofkkjnepbcaaCut
namespace Go.Proofs.Ytfmofkkjnepbcaa.Clep
open Go.RowKit
set_option linter.unusedVariables false

theorem Bs.grown {w w' : World} {row : Option Nat} {ao : Option Addr} {len cap : Nat} {zs : List Int} (h : Bs w ao len cap zs) (hg : w.grownBy w' row) (hne : 0 < len → ∀ a, ao = some a → some a.block ≠ row) : Bs w' ao len cap zs := by
  refine ⟨h.1, h.2.1, h.2.2.1, fun h0 => ?_⟩
  obtain ⟨b, off, ho, hc⟩ := h.2.2.2 h0
  exact ⟨b, off, ho, fun i hi => gb_cell hg _ (hc i hi) (hne h0 ⟨b, off, none⟩ ho)⟩
/-- The reader in block R: what is left, and its error. The bytes lie below B. -/
def Re (w : World) (B R : Nat) (zs : List Int) (e : Int) : Prop :=
  (∃ ao len cap, w.cell? ⟨R, 0, none⟩ = some (.slice ao len cap) ∧ Bs w ao len cap zs ∧ cap ≤ 9223372036854775807 ∧ (0 < len → ∀ a, ao = some a → a.block < B)) ∧
    w.cell? ⟨R, 1, none⟩ = some (.int .i64 e) ∧ w.frozen? ⟨R, 0, none⟩ = false ∧ w.frozen? ⟨R, 1, none⟩ = false ∧ B ≤ R
theorem Re.lt {w : World} {B R : Nat} {zs : List Int} {e : Int} (h : Re w B R zs e) : R < w.heap.size := World.block_lt_of_cell? w _ h.2.1
theorem Re.grown {w w' : World} {B R : Nat} {zs : List Int} {e : Int} {row : Option Nat} (h : Re w B R zs e) (hg : w.grownBy w' row) (hne : some R ≠ row) (hB : ∀ k, row = some k → B ≤ k) : Re w' B R zs e := by
  have hl := h.lt
  obtain ⟨⟨ao, len, cap, h0, hb, hc, ha⟩, h1, f0, f1, hr⟩ := h
  have hbl := hg.block R hl hne
  refine ⟨⟨ao, len, cap, gb_cell hg _ h0 hne, hb.grown hg (fun h9 a e he => ?_), hc, ha⟩, gb_cell hg _ h1 hne, (World.frozen?_of_block (a := ⟨R, 0, none⟩) (w := w) hbl).trans f0, (World.frozen?_of_block (a := ⟨R, 1, none⟩) (w := w) hbl).trans f1, hr⟩
  have := ha h9 a e
  have := hB a.block he.symm
  omega
theorem Re.keep {w w' : World} {B R : Nat} {zs : List Int} {e : Int} (h : Re w B R zs e) (hb : Below w.heap.size w w') : Re w' B R zs e := h.grown (gb_below hb none) (by simp) (by simp)
theorem Re.setE {w : World} {B R : Nat} {zs : List Int} {e : Int} (h : Re w B R zs e) (n : Int) : Re (w.setCell ⟨R, 1, none⟩ (.int .i64 n)) B R zs n := by
  obtain ⟨⟨ao, len, cap, h0, hb, hc, ha⟩, h1, f0, f1, hr⟩ := h
  refine ⟨⟨ao, len, cap, ?_, hb.grown (gb_set _ _ _) (fun h9 a e he => ?_), hc, ha⟩, ?_, by simpa using f0, by simpa using f1, hr⟩
  · rw [World.cell?_setCell_other (h := by simp)]; exact h0
  · have := ha h9 a e
    simp at he; omega
  · rw [World.cell?_setCell_same (h := h1)]
theorem Re.setL {w : World} {B R : Nat} {zs ys : List Int} {e : Int} (h : Re w B R zs e) (ao : Option Addr) (len cap : Nat) (hb : Bs w ao len cap ys) (hc : cap ≤ 9223372036854775807) (ha : 0 < len → ∀ a, ao = some a → a.block < B) : Re (w.setCell ⟨R, 0, none⟩ (.slice ao len cap)) B R ys e := by
  obtain ⟨⟨ao0, len0, cap0, h0, -, -, -⟩, h1, f0, f1, hr⟩ := h
  refine ⟨⟨ao, len, cap, ?_, hb.grown (gb_set _ _ _) (fun h9 a e he => ?_), hc, ha⟩, ?_, by simpa using f0, by simpa using f1, hr⟩
  · rw [World.cell?_setCell_same (h := h0)]
  · have := ha h9 a e
    simp at he; omega
  · rw [World.cell?_setCell_other (h := by simp)]; exact h1
theorem cut_block {a : Option Addr} {cap l B : Nat} (h : ∀ x, a = some x → x.block < B) : ∀ x, cut a cap l = some x → x.block < B := by
  intro x hx
  unfold cut at hx
  split at hx
  · exact h x hx
  · cases a with
    | none => cases hx
    | some y =>
      simp at hx
      subst hx
      have := h y rfl
      unfold Addr.add
      split <;> exact this

/-- What a byte comes to: the byte, what is left, the error. -/
def one1 (s : List Int × Int) : Int × List Int × Int := if s.2 ≠ 0 then (0, s) else match s.1 with
  | [] => (0, [], 4)
  | c :: r => (c, r, 0)
/-- What a number comes to. -/
def num1 (s : List Int × Int) : Int × List Int × Int := if s.2 ≠ 0 then (0, s) else ((tk s.1 0 0).1, s.1.drop (tk s.1 0 0).2.1.toNat, (tk s.1 0 0).2.2)

attribute [local go_sem ↓] cut_l

set_option maxHeartbeats 400000 in
theorem one_any (B R : Nat) (zs : List Int) (e : Int) (w : World) (h : Re w B R zs e) :
    Calls Try.prog 48 #[.pointer (some ⟨R, 0, none⟩)] w fun en w' => en = .returned (.int .i64 (one1 (zs, e)).1) ∧ Re w' B R (one1 (zs, e)).2.1 (one1 (zs, e)).2.2 ∧ w.grownBy w' (some R) := by
  have H := hide h
  obtain ⟨⟨ao, len, cap, h0, hb, hc, ha⟩, h1, f0, f1, hr⟩ := h
  by_cases he : e = 0
  · subst he
    cases zs with
    | nil =>
      have hl : len = 0 := by have := hb.1; simpa using this.symm
      subst hl
      have hp := hide (show one1 ([], 0) = (0, [], 4) from rfl)
      have H4 := hide (H.out.setE 4)
      clear hb
      go_enter Try.func48, Try.ntmps48
      go_wp2
      go_ret
      rw [hp.out]
      exact ⟨rfl, H4.out, gb_set _ _ _⟩
    | cons c r =>
      have hlen : len = r.length + 1 := by have := hb.1; simpa using this.symm
      obtain ⟨b, off, rfl, hcell⟩ := hb.2.2.2 (by omega)
      have hc0 := hcell 0 (by omega)
      have hcr := hb.2.2.1 0
      simp only [Nat.add_zero, List.getD, List.getElem?_cons_zero, Option.getD_some] at hc0 hcr
      have hp := hide (show one1 (c :: r, 0) = (c, r, 0) from rfl)
      have hcu := hb.cut 1 len (by omega) (Nat.le_refl _)
      rw [List.take_of_length_le (by rw [hb.1]; exact Nat.le_refl _), List.drop_one, List.tail_cons] at hcu
      have H4 := hide (H.out.setL _ _ _ hcu (by omega) (fun _ => cut_block (ha (by omega))))
      have hcap := hb.2.1.1
      have hl0 : 0 < len := by omega
      clear hb hcu hcell
      have hlb : ((len : Int) == 0) = false := by simp; omega
      have hl1 : (1 : Int) ≤ (len : Int) := by omega
      clear hlen
      go_enter Try.func48, Try.ntmps48
      go_wp2
      go_ret
      rw [hp.out]
      exact ⟨rfl, H4.out, gb_set _ _ _⟩
  · have hp := hide (show one1 (zs, e) = (0, zs, e) by unfold one1; rw [if_pos he])
    have heb : (e != 0) = true := by simp; omega
    clear hb
    go_enter Try.func48, Try.ntmps48
    go_wp2
    go_ret
    rw [hp.out]
    exact ⟨rfl, H.out, gb_below (Below.refl _ _) _⟩

set_option maxHeartbeats 800000 in
theorem number_any (B R : Nat) (zs : List Int) (e : Int) (w : World) (h : Re w B R zs e) :
    Calls Try.prog 37 #[.pointer (some ⟨R, 0, none⟩)] w fun en w' => en = .returned (.int .u64 (num1 (zs, e)).1) ∧ Re w' B R (num1 (zs, e)).2.1 (num1 (zs, e)).2.2 ∧ w.grownBy w' (some R) := by
  have H := hide h
  obtain ⟨⟨ao, len, cap, h0, hb, hc, ha⟩, h1, f0, f1, hr⟩ := h
  by_cases he : e = 0
  · subst he
    have hs := tk_size zs 0 0 (by omega)
    have hp := hide (show num1 (zs, 0) = ((tk zs 0 0).1, zs.drop (tk zs 0 0).2.1.toNat, (tk zs 0 0).2.2) from rfl)
    have ht := hide (take_any ao len cap zs w (by have := hb.2.1.1; omega) hb)
    have hlen := hb.1
    have hcap := hb.2.1.1
    generalize tk zs 0 0 = rr at *
    obtain ⟨n, s, e'⟩ := rr
    simp only at hs hp
    unfold tup at ht
    simp only at ht
    have hcu := hb.cut s.toNat len (by omega) (Nat.le_refl _)
    rw [List.take_of_length_le (by rw [hlen]; exact Nat.le_refl _)] at hcu
    have H4 := hide ((H.out.setE e').setL _ _ _ (hcu.grown (gb_set w ⟨R, 1, none⟩ (.int .i64 e')) (fun h9 a e he => by have := cut_block (ha (by omega)) a e; simp at he; omega)) (by omega) (fun h9 => cut_block (ha (by omega))))
    have hG := hide ((gb_set w ⟨R, 1, none⟩ (.int .i64 e')).trans (gb_set _ ⟨R, 0, none⟩ (.slice (cut ao cap s.toNat) (len - s.toNat) (cap - s.toNat))))
    have hsl : s ≤ (len : Int) := by omega
    have hs0 := hs.1
    clear hb hcu hlen hs ha
    go_enter Try.func37, Try.ntmps37
    go_wp2_with fail
    refine ht.out.mono ?_
    rintro en w1 ⟨rfl, rfl⟩
    go_wp2
    go_ret
    rw [hp.out]
    exact ⟨rfl, H4.out, hG.out⟩
  · have hp := hide (show num1 (zs, e) = (0, zs, e) by unfold num1; rw [if_pos he])
    have heb : (e != 0) = true := by simp; omega
    clear hb
    go_enter Try.func37, Try.ntmps37
    go_wp2
    go_ret
    rw [hp.out]
    exact ⟨rfl, H.out, gb_below (Below.refl _ _) _⟩

end Go.Proofs.Ytfmofkkjnepbcaa.Clep
