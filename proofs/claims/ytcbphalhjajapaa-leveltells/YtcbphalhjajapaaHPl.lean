/- Which files a pick takes: their places in order, each once. No conditions. -/
import Derived.Test.YtcbphalhjajapaaHPick
namespace Go.Proofs.Ytcbphalhjajapaa.Clep
open Go.RowKit
set_option linter.unusedVariables false
set_option maxRecDepth 10000
set_option linter.unusedSimpArgs false

/-- Is the file at i taken? -/
def pk (l : List He) (k i : Nat) : Bool := (downP l k).contains i || (touP l (downP l k) (pos l (k + 1))).contains i
def pkL (l : List He) (k : Nat) : List Nat := (List.range l.length).filter (pk l k)
theorem posN_sorted (l : List He) (k n : Nat) : (posN l k n).Pairwise (· < ·) := List.Pairwise.filter _ List.pairwise_lt_range
theorem downP_sorted (l : List He) (k : Nat) : (downP l k).Pairwise (· < ·) := by
  unfold downP
  split
  · exact (posN_sorted l k l.length).sublist (List.take_sublist _ _)
  · exact posN_sorted l k l.length
theorem touP_sorted (l : List He) (t : List Nat) (k : Nat) : (touP l t (pos l k)).Pairwise (· < ·) := List.Pairwise.filter _ (posN_sorted l k l.length)
theorem downP_lv {l : List He} {k i : Nat} (h : i ∈ downP l k) : lv l i = (k : Int) := by
  unfold downP at h
  split at h
  · exact pos_lv (List.mem_of_mem_take h)
  · exact pos_lv h
theorem touP_lv {l : List He} {t : List Nat} {k i : Nat} (h : i ∈ touP l t (pos l k)) : lv l i = (k : Int) := pos_lv (touP_mem h)
theorem nodup_of_lt {l : List Nat} (h : l.Pairwise (· < ·)) : l.Nodup := h.imp (fun {a b} h => Nat.ne_of_lt h)
theorem plZ_pk (l : List He) (k : Nat) : plZ l k = zn (pkL l k) := by
  have hnd : (downP l k ++ touP l (downP l k) (pos l (k + 1))).Nodup := by
    rw [List.nodup_append]
    refine ⟨nodup_of_lt (downP_sorted l k), nodup_of_lt (touP_sorted l _ _), fun a ha b hb e => ?_⟩
    subst e
    have h1 := downP_lv ha
    have h2 := touP_lv hb
    rw [h1] at h2
    omega
  have hp : (downP l k ++ touP l (downP l k) (pos l (k + 1))).Perm (pkL l k) := by
    refine (List.perm_ext_iff_of_nodup hnd (List.Pairwise.filter _ List.nodup_range)).2 (fun i => ?_)
    rw [List.mem_append]
    show _ ↔ i ∈ (List.range l.length).filter (pk l k)
    rw [List.mem_filter, List.mem_range]
    unfold pk
    rw [Bool.or_eq_true, List.contains_iff_mem, List.contains_iff_mem]
    refine ⟨fun h => ⟨?_, h⟩, fun h => h.2⟩
    rcases h with h | h
    · exact downP_lt h
    · exact pos_lt (touP_mem h)
  unfold plZ
  refine List.Perm.eq_of_pairwise (le := fun a b : Int => decide (a ≤ b) = true) (fun a b _ _ h1 h2 => ?_) (List.pairwise_mergeSort (fun a b c h1 h2 => ?_) (fun a b => ?_) _) ?_ ?_
  · have := of_decide_eq_true h1; have := of_decide_eq_true h2; omega
  · have := of_decide_eq_true h1; have := of_decide_eq_true h2; exact decide_eq_true (by omega)
  · rw [Bool.or_eq_true, decide_eq_true_eq, decide_eq_true_eq]; omega
  · unfold zn
    rw [List.pairwise_map]
    exact (List.Pairwise.filter _ List.pairwise_lt_range).imp (fun {a b} h => decide_eq_true (by omega))
  · refine (List.mergeSort_perm _ _).trans ?_
    rw [← zn_app]
    exact hp.map _
theorem numZ_pk (l : List He) (k : Nat) : numZ l (plZ l k) = (pkL l k).map (nm l) := by
  rw [plZ_pk]
  unfold numZ zn
  rw [List.map_map]
  refine List.map_congr_left (fun i _ => ?_)
  show nm l ((i : Int)).toNat = nm l i
  rw [show ((i : Int)).toNat = i from by omega]
theorem pkL_lt {l : List He} {k i : Nat} (h : i ∈ pkL l k) : i < l.length := List.mem_range.1 (List.mem_filter.1 h).1
theorem pkL_nodup (l : List He) (k : Nat) : (pkL l k).Nodup := List.Pairwise.filter _ List.nodup_range
theorem pkL_lv {l : List He} {k i : Nat} (h : i ∈ pkL l k) : lv l i = (k : Int) ∨ lv l i = ((k + 1 : Nat) : Int) := by
  have h1 := (List.mem_filter.1 h).2
  unfold pk at h1
  rw [Bool.or_eq_true, List.contains_iff_mem, List.contains_iff_mem] at h1
  rcases h1 with h1 | h1
  · exact .inl (downP_lv h1)
  · exact .inr (touP_lv h1)
/-- Of those that are taken the ones that stand on the level itself. -/
theorem pkL_down (l : List He) (k : Nat) : (pkL l k).filter (fun i => lv l i == (k : Int)) = downP l k := by
  refine List.Perm.eq_of_pairwise (le := fun a b : Nat => a < b) (fun a b _ _ h1 h2 => by omega) ?_ (downP_sorted l k) ?_
  · exact List.Pairwise.filter _ (List.Pairwise.filter _ List.pairwise_lt_range)
  · refine (List.perm_ext_iff_of_nodup (List.Pairwise.filter _ (pkL_nodup l k)) (nodup_of_lt (downP_sorted l k))).2 (fun i => ?_)
    rw [List.mem_filter]
    refine ⟨fun h => ?_, fun h => ⟨?_, ?_⟩⟩
    · have h1 := (List.mem_filter.1 h.1).2
      unfold pk at h1
      rw [Bool.or_eq_true, List.contains_iff_mem, List.contains_iff_mem] at h1
      rcases h1 with h1 | h1
      · exact h1
      · have h2 := touP_lv h1
        have h3 : lv l i = (k : Int) := by simpa using h.2
        rw [h3] at h2
        omega
    · unfold pkL
      rw [List.mem_filter, List.mem_range]
      refine ⟨downP_lt h, ?_⟩
      unfold pk
      rw [Bool.or_eq_true, List.contains_iff_mem]
      exact .inl h
    · rw [downP_lv h]; simp
theorem downP_len {l : List He} {k : Nat} (h : low l = some k) : (k = 0 → 4 ≤ (downP l k).length) ∧ (0 < k → (downP l k).length = 1) := by
  obtain ⟨h3, ho⟩ := low_lt h
  refine ⟨fun e => ?_, fun h0 => ?_⟩
  · subst e
    have : ovr l 0 = decide (4 ≤ (pos l 0).length) := rfl
    rw [this] at ho
    exact of_decide_eq_true ho
  · have hne := ovr_ne ho h3
    unfold downP
    rw [if_pos h0, List.length_take]
    have := List.length_pos_iff.2 hne
    omega
theorem tch_comm (x y : He) : tch x y = tch y x := by
  unfold tch
  cases x.M == 0 <;> cases y.M == 0 <;> cases ltB x.gz y.fz <;> cases ltB y.gz x.fz <;> rfl
theorem tchAt_comm (l : List He) (i j : Nat) : tchAt l i j = tchAt l j i := by
  unfold tchAt
  cases l[i]? with
  | none => cases l[j]? <;> rfl
  | some x =>
    cases l[j]? with
    | none => rfl
    | some y => exact tch_comm x y
/-- On the level below those are taken that touch one that goes down. -/
theorem pk_below {l : List He} {k i : Nat} (hi : i < l.length) (hv : lv l i = ((k + 1 : Nat) : Int)) : pk l k i = (downP l k).any (fun j => tchAt l j i) := by
  unfold pk
  have h1 : (downP l k).contains i = false := by
    rw [← Bool.not_eq_true, List.contains_iff_mem]
    intro h
    have := downP_lv h
    rw [hv] at this
    omega
  rw [h1, Bool.false_or]
  have hp : i ∈ pos l (k + 1) := by
    unfold pos posN
    rw [List.mem_filter, List.mem_range]
    exact ⟨hi, by rw [hv]; simp⟩
  rw [Bool.eq_iff_iff, List.contains_iff_mem]
  unfold touP
  rw [List.mem_filter]
  have e : (fun j => tchAt l i j) = fun j => tchAt l j i := funext fun j => tchAt_comm l i j
  rw [e]
  exact ⟨fun h => h.2, fun h => ⟨hp, h⟩⟩

end Go.Proofs.Ytcbphalhjajapaa.Clep
