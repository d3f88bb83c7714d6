/- Reading an Edit: number by number, as Lean's own functions. No conditions. -/
import Derived.Test.YtgopcaemgcnapaaEBody
namespace Go.Proofs.Ytgopcaemgcnapaa.Clep
open Go.RowKit
set_option linter.unusedVariables false
set_option maxRecDepth 10000

/-- One number more: what is left, and whether one was refused. -/
def rt (s : List Int × Bool) : Int × (List Int × Bool) := if (tk s.1 0 0).2.2 = 0 then ((tk s.1 0 0).1, (s.1.drop (tk s.1 0 0).2.1.toNat, s.2)) else (0, (s.1, true))
def stN (s : List Int × Bool) : Nat → List Int × Bool
  | 0 => s
  | j + 1 => (rt (stN s j)).2
def nr (s : List Int × Bool) (j : Nat) : Int := (rt (stN s j)).1
theorem rt_range (s : List Int × Bool) (h : ByteL s.1) : (0 ≤ (rt s).1 ∧ (rt s).1 ≤ 18446744073709551615) ∧ ByteL (rt s).2.1 := by
  unfold rt
  split
  · have := tk_facts s.1 0 0 (by omega) h (by omega) (by simp)
    exact ⟨⟨this.1, this.2.1⟩, fun z hz => h z (List.mem_of_mem_drop hz)⟩
  · exact ⟨by simp, h⟩
theorem stN_byte (s : List Int × Bool) (h : ByteL s.1) : ∀ j, ByteL (stN s j).1
  | 0 => h
  | j + 1 => (rt_range _ (stN_byte s h j)).2
theorem nr_range (s : List Int × Bool) (h : ByteL s.1) (j : Nat) : 0 ≤ nr s j ∧ nr s j ≤ 18446744073709551615 := (rt_range _ (stN_byte s h j)).1
theorem rt_bad (s : List Int × Bool) (h : s.2 = true) : (rt s).2.2 = true := by unfold rt; split <;> simp [h]
theorem stN_bad (s : List Int × Bool) : ∀ (j k : Nat), (stN s j).2 = true → (stN s (j + k)).2 = true
  | j, 0, h => h
  | j, k + 1, h => rt_bad _ (stN_bad s j k h)
theorem rt_len (s : List Int × Bool) : (rt s).2.1.length ≤ s.1.length := by
  unfold rt
  split
  · simp
  · exact Nat.le_refl _
theorem stN_len (s : List Int × Bool) : ∀ j, (stN s j).1.length ≤ s.1.length
  | 0 => Nat.le_refl _
  | j + 1 => Nat.le_trans (rt_len _) (stN_len s j)
def sm (n : Int) : Int := if n > 1073741824 then -1 else n
/-- Behind the numbers of Drop. -/
def s0X (X : List Int) : List Int × Bool := (X.drop (ul X 40).2.1.toNat, false)
def cX (X : List Int) : Int := (rt (s0X X)).1
def s1X (X : List Int) : List Int × Bool := (rt (s0X X)).2
def fX (X : List Int) (n : Nat) : List Fi := (List.range n).map (fun i => ⟨nr (s1X X) (2 * i), nr (s1X X) (2 * i + 1)⟩)
/-- The Edit that the bytes would be. -/
def rawE (X : List Int) : Ed := ⟨(ul X 40).1, fX X (cX X).toNat, nr (s1X X) (2 * (cX X).toNat), nr (s1X X) (2 * (cX X).toNat + 1), nr (s1X X) (2 * (cX X).toNat + 2), nr (s1X X) (2 * (cX X).toNat + 3), nr (s1X X) (2 * (cX X).toNat + 4)⟩
def okR (X : List Int) : Bool := decide ((ul X 40).2.2 = 0) && (decide (cX X ≤ 40) && (!(stN (s1X X) (2 * (cX X).toNat + 5)).2 && decide ((stN (s1X X) (2 * (cX X).toNat + 5)).1.length = 0)))
/-- What Read answers. -/
def red (X : List Int) : Option Ed := if (okR X && mayB (rawE X)) = true then some (rawE X) else none
def smF (f : Fi) : Fi := ⟨sm f.L, sm f.N⟩
/-- The Edit with each number that is too great as -1. -/
def smE (E : Ed) : Ed := ⟨E.d.map sm, E.a.map smF, sm E.lg, E.fl, E.ct, E.at9, E.ls⟩
theorem sm_id {n : Int} (h : n ≤ 1073741824) : sm n = n := by unfold sm; rw [if_neg (by omega)]
theorem sm_pos {n : Int} (h : 0 ≤ sm n) : sm n = n := by
  unfold sm at h ⊢
  split at h
  · omega
  · rename_i hh; rw [if_neg hh]
theorem map_id_of {α : Type} {f : α → α} : ∀ {l : List α}, (∀ x ∈ l, f x = x) → l.map f = l
  | [], _ => rfl
  | x :: r, h => by rw [List.map_cons, h x (List.mem_cons_self ..), map_id_of (fun y hy => h y (List.mem_cons_of_mem _ hy))]
theorem smE_may {E : Ed} (h : mayB E = true) : smE E = E := by
  have hp := emay_parts ((mayB_iff E).1 h)
  obtain ⟨d, a, lg, fl, ct, at9, ls⟩ := E
  unfold smE
  simp only at hp ⊢
  rw [map_id_of (fun z hz => sm_id (hp.2.1 z hz).2), map_id_of (fun f hf => ?_), sm_id hp.2.2.2.1.2]
  have := hp.2.2.1 f hf
  unfold smF
  rw [sm_id (by omega), sm_id (by omega)]
theorem may_smE {E : Ed} (h : mayB (smE E) = true) : smE E = E := by
  have hp := emay_parts ((mayB_iff _).1 h)
  obtain ⟨d, a, lg, fl, ct, at9, ls⟩ := E
  unfold smE at hp ⊢
  simp only at hp ⊢
  rw [map_id_of (fun z hz => sm_pos (by have := (hp.2.1 (sm z) (List.mem_map.2 ⟨z, hz, rfl⟩)).1; omega)), map_id_of (fun f hf => ?_), sm_pos hp.2.2.2.1.1]
  have := hp.2.2.1 (smF f) (List.mem_map.2 ⟨f, hf, rfl⟩)
  unfold smF at this ⊢
  simp only at this
  rw [sm_pos (by omega), sm_pos (by omega)]
theorem mayB_smE (E : Ed) : mayB (smE E) = mayB E := by
  cases h1 : mayB E with
  | true => rw [smE_may h1, h1]
  | false =>
    cases h2 : mayB (smE E) with
    | false => rfl
    | true => rw [may_smE h2] at h2; rw [h2] at h1; cases h1
theorem red_form (X : List Int) : red X = if (okR X && mayB (smE (rawE X))) = true then some (smE (rawE X)) else none := by
  rw [mayB_smE]
  unfold red
  split
  · rename_i h
    rw [Bool.and_eq_true] at h
    rw [smE_may h.2]
  · rfl
theorem red_may {X : List Int} {E : Ed} (h : red X = some E) : emay E = 0 := by
  unfold red at h
  split at h
  · rename_i hh
    rw [Bool.and_eq_true] at hh
    injection h with h
    rw [← h]
    exact (mayB_iff _).1 hh.2
  · cases h
theorem fX_next (X : List Int) (n : Nat) : fX X (n + 1) = fX X n ++ [⟨nr (s1X X) (2 * n), nr (s1X X) (2 * n + 1)⟩] := by
  unfold fX
  rw [List.range_succ, List.map_append]
  rfl
theorem fX_len (X : List Int) (n : Nat) : (fX X n).length = n := by unfold fX; simp

end Go.Proofs.Ytgopcaemgcnapaa.Clep
