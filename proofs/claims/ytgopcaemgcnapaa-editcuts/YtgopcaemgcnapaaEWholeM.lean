/- Views that Edits make; what is dropped and put back. No conditions. -/
import Derived.Test.YtgopcaemgcnapaaEDrop
import Derived.Test.YtgopcaemgcnapaaEWhole
namespace Go.Proofs.Ytgopcaemgcnapaa.Clep
open Go.RowKit
set_option linter.unusedVariables false
set_option maxRecDepth 10000

def goodV (V : Vw) : Prop := V = zV ∨ vok V = true
theorem vok_parts2 {V : Vw} (h : vok V = true) : vwH V = true ∧ V.f.all Fi.ok = true ∧ once V.f = true := by
  unfold vok at h
  rw [Bool.and_eq_true, Bool.and_eq_true] at h
  exact h
theorem vwH_len {V : Vw} (h : vwH V = true) : V.f.length ≤ 40 := by
  unfold vwH at h
  have := of_decide_eq_true h
  omega
theorem good_once {V : Vw} (h : goodV V) : once V.f = true ∧ V.f.length ≤ 40 := by
  rcases h with rfl | h
  · exact ⟨rfl, by unfold zV; simp⟩
  · exact ⟨(vok_parts2 h).2.2, vwH_len (vok_parts2 h).1⟩
theorem appl_vok {V X : Vw} {E : Ed} (h : appl V E = some X) : vok X = true := by
  unfold appl at h
  split at h
  · cases h
  · split at h
    · rename_i hv
      injection h with h
      rw [← h]
      exact hv
    · cases h
theorem put0_zero (x : Int) : put0 0 x = x := by unfold put0; split <;> omega
theorem put0_stay (x : Int) : put0 x 0 = x := by unfold put0; simp
theorem appl_whole {V : Vw} (h : vok V = true) : appl zV (wholeE V) = some V := by
  have e : after zV (wholeE V) [] = V := by
    unfold after wholeE zV
    simp only [put0_zero, List.nil_append]
  unfold appl
  show (match dropN [] [] with | none => none | some l => if vok (after zV (wholeE V) l) = true then some (after zV (wholeE V) l) else none) = some V
  unfold dropN
  simp only [e]
  rw [if_pos h]
theorem once_iff : ∀ (l : List Fi), once l = true ↔ (l.map Fi.N).Nodup
  | [] => by simp [once]
  | f :: r => by
    unfold once
    rw [Bool.and_eq_true, once_iff r, List.map_cons, List.nodup_cons]
    refine and_congr_left fun _ => ?_
    rw [List.all_eq_true]
    constructor
    · intro h hm
      obtain ⟨g, hg, e⟩ := List.mem_map.1 hm
      have := h g hg
      simp [e] at this
    · intro h g hg
      simp only [Bool.not_eq_true', beq_eq_false_iff_ne]
      exact fun e => h (List.mem_map.2 ⟨g, hg, e⟩)
theorem wo_perm {l : List Fi} {k : Nat} {f : Fi} (h : l[k]? = some f) : (wo l k ++ [f]).Perm l := by
  obtain ⟨hk, rfl⟩ := List.getElem?_eq_some_iff.1 h
  unfold wo
  have e : l = l.take k ++ (l[k] :: l.drop (k + 1)) := by
    rw [← List.drop_eq_getElem_cons hk, List.take_append_drop]
  refine List.Perm.trans ?_ (List.Perm.of_eq e.symm)
  rw [List.append_assoc]
  exact List.Perm.append_left _ (List.perm_append_comm)
theorem hasN_at {l : List Fi} {k : Nat} {f : Fi} (h : l[k]? = some f) : hasN l f.N = true := List.any_eq_true.2 ⟨f, List.mem_of_getElem? h, by simp⟩
theorem atN_at {l : List Fi} {k : Nat} {f : Fi} (ho : once l = true) (h : l[k]? = some f) : atN l f.N = k := by
  refine atN_here h rfl ?_
  rw [List.all_eq_true]
  intro g hg
  obtain ⟨j, hj, rfl⟩ := List.getElem_of_mem hg
  rw [List.length_take] at hj
  rw [List.getElem_take]
  simp only [Bool.not_eq_true', beq_eq_false_iff_ne]
  intro e
  have := once_bad (l := l) (k := j) (i := k) (List.getElem?_eq_getElem (by omega)) h (by omega) e
  rw [this] at ho
  cases ho
theorem len_perm {l m : List Fi} (h : l.Perm m) : l.length = m.length := h.length_eq
/-- A file that is dropped and put back comes last. -/
def backV (V : Vw) (k : Nat) (f : Fi) : Vw := ⟨V.lg, wo V.f k ++ [f], V.fl, V.ct, V.at9, V.ls⟩
theorem appl_back {V : Vw} {k : Nat} {f : Fi} (hv : vok V = true) (h : V.f[k]? = some f) : appl V ⟨[f.N], [f], 0, 0, 0, 0, 0⟩ = some (backV V k f) := by
  obtain ⟨h1, h2, h3⟩ := vok_parts2 hv
  have hat := atN_at h3 h
  have hk : k < V.f.length := (List.getElem?_eq_some_iff.1 h).1
  have hd : dropN V.f [f.N] = some (wo V.f k) := by
    unfold dropN
    rw [hat, if_neg (by omega)]
    rfl
  have hp := wo_perm h
  have e : after V ⟨[f.N], [f], 0, 0, 0, 0, 0⟩ (wo V.f k) = backV V k f := by
    unfold after backV
    simp only [put0_stay]
  unfold appl
  simp only [hd, e]
  rw [if_pos]
  unfold vok
  rw [Bool.and_eq_true, Bool.and_eq_true]
  refine ⟨?_, ?_, ?_⟩
  · unfold vwH at h1 ⊢
    have := of_decide_eq_true h1
    refine decide_eq_true ?_
    have hl := len_perm hp
    unfold backV
    simp only [hl]
    exact this
  · exact List.all_eq_true.2 fun x hx => List.all_eq_true.1 h2 x (hp.mem_iff.1 hx)
  · exact (once_iff _).2 (((hp.map Fi.N).nodup_iff).2 ((once_iff _).1 h3))
theorem appl_twice {V : Vw} {k : Nat} {f : Fi} (hv : vok V = true) (h : V.f[k]? = some f) : appl V ⟨[f.N, f.N], [], 0, 0, 0, 0, 0⟩ = none := by
  obtain ⟨h1, h2, h3⟩ := vok_parts2 hv
  have hat := atN_at h3 h
  have hk : k < V.f.length := (List.getElem?_eq_some_iff.1 h).1
  have hd : dropN V.f [f.N, f.N] = none := by
    have hw := wo_but V.f f.N h3 (hasN_at h)
    rw [hat] at hw
    unfold dropN
    rw [hat, if_neg (by omega), hw]
    unfold dropN
    rw [if_pos]
    rw [atN_not, hasN_but]
    simp
  unfold appl
  simp only [hd]
theorem appl_again {V : Vw} {k : Nat} {f : Fi} (hv : vok V = true) (h : V.f[k]? = some f) : appl V ⟨[], [f], 0, 0, 0, 0, 0⟩ = none := by
  unfold appl
  simp only [dropN]
  rw [if_neg]
  intro hx
  have := (vok_parts2 hx).2.2
  rw [once_iff] at this
  unfold after at this
  simp only [List.map_append, List.nodup_append] at this
  exact this.2.2 f.N (List.mem_map.2 ⟨f, List.mem_of_getElem? h, rfl⟩) f.N (by simp) rfl
theorem backV_len {V : Vw} {k : Nat} {f : Fi} (h : V.f[k]? = some f) : (backV V k f).f.length = V.f.length := len_perm (wo_perm h)
theorem backV_last (V : Vw) (k : Nat) (f : Fi) (n : Nat) (hn : (backV V k f).f.length = n + 1) : (backV V k f).f[n]? = some f := by
  unfold backV at hn ⊢
  simp only at hn ⊢
  have : n = (wo V.f k).length := by simp at hn; omega
  rw [this]
  simp
/-- What Apply answers in its first place. -/
def apv (r : Option Vw) : Vw := r.getD zV
theorem apr_any {r : Option Vw} {w w' : World} {e : Ending} (h : ApR r w e w') : ∃ a c, e = .returned (.tuple #[vwV a (apv r).f.length c (apv r), .bool r.isSome]) ∧ c ≤ 9223372036854775807 ∧ OwnF w' w.heap.size (.slice a (apv r).f.length c) (apv r).f ∧ (∀ x ∈ (apv r).f, x.wf) ∧ Below w.heap.size w w' := by
  cases r with
  | none =>
    obtain ⟨he, hb⟩ := h
    exact ⟨none, 0, he, by omega, ownF_nil _ _, fun x hx => (by cases hx), hb⟩
  | some V =>
    obtain ⟨⟨a, c, he, ho, hf⟩, hb⟩ := h
    refine ⟨a, c, he, ?_, ho, hf.2.2.1, hb⟩
    obtain ⟨a', c', e2, hc, _, _⟩ := ownF_fs ho hf.2.2.1
    injection e2 with _ _ e3
    rw [e3]
    exact hc

end Go.Proofs.Ytgopcaemgcnapaa.Clep
