/- A Disk of two names, and what Append, Remove and Create make of it. No conditions but the bounds. -/
import Derived.Test.YthmfkfiblaamfabDRemove
import Derived.Test.YthmfkfiblaamfabDStop
namespace Go.Proofs.Ythmfkfiblaamfab.Clep
open Go.RowKit Go.Maps
set_option linter.unusedVariables false

def bA : ByteArray := ⟨#[97]⟩
def bB : ByteArray := ⟨#[98]⟩
def nA : Lit := .string [97]
def nB : Lit := .string [98]
def qS (q c made : Nat) (fs : List Fl) (na nb : Nat) (sn : List Ch) : St := ⟨q, c, 0, 0, false, made, fs, .map [(nA, i64L na), (nB, i64L nb)], .map [], sn⟩
def qA (q c made : Nat) (fs : List Fl) (na : Nat) (sn : List Ch) : St := ⟨q, c, 0, 0, false, made, fs, .map [(nA, i64L na)], .map [], sn⟩
def qB (q c made : Nat) (fs : List Fl) (nb : Nat) (sn : List Ch) : St := ⟨q, c, 0, 0, false, made, fs, .map [(nB, i64L nb)], .map [], sn⟩
theorem q_begin (q c made : Nat) (fs : List Fl) (na nb : Nat) (sn : List Ch) : beginS (qS q c made fs na nb sn) = (0, qS q (c + 1) made fs na nb sn) := rfl
theorem q_appA (q c made : Nat) (fs : List Fl) (na nb : Nat) (sn : List Ch) (p : List Int) {f : Fl} (hf : fileAt fs na = some f) (hl : f.bs.length + p.length ≤ 250000) :
    appendS (qS q c made fs na nb sn) bA p = if q < flen fs na + (flen fs nb + 0) + p.length then (15, qS q (c + 1) made fs na nb sn) else (0, qS q (c + 1) made (updF fs f.num (growF p)) na nb sn) := by
  rw [appendS_eq _ _ _ (by decide), q_begin]
  have e : apB (0, qS q (c + 1) made fs na nb sn) bA p = match fileAt fs (na : Int) with
    | none => (11, qS q (c + 1) made fs na nb sn)
    | some f => if 250000 < f.bs.length + p.length then (2, qS q (c + 1) made fs na nb sn) else if q < flen fs na + (flen fs nb + 0) + p.length then (15, qS q (c + 1) made fs na nb sn) else (0, qS q (c + 1) made (updF fs f.num (growF p)) na nb sn) := by kernel_rfl
  rw [e, hf]
  simp only
  rw [if_neg (by omega)]
theorem q_appB (q c made : Nat) (fs : List Fl) (na nb : Nat) (sn : List Ch) (p : List Int) {f : Fl} (hf : fileAt fs nb = some f) (hl : f.bs.length + p.length ≤ 250000) :
    appendS (qS q c made fs na nb sn) bB p = if q < flen fs na + (flen fs nb + 0) + p.length then (15, qS q (c + 1) made fs na nb sn) else (0, qS q (c + 1) made (updF fs f.num (growF p)) na nb sn) := by
  rw [appendS_eq _ _ _ (by decide), q_begin]
  have e : apB (0, qS q (c + 1) made fs na nb sn) bB p = match fileAt fs (nb : Int) with
    | none => (11, qS q (c + 1) made fs na nb sn)
    | some f => if 250000 < f.bs.length + p.length then (2, qS q (c + 1) made fs na nb sn) else if q < flen fs na + (flen fs nb + 0) + p.length then (15, qS q (c + 1) made fs na nb sn) else (0, qS q (c + 1) made (updF fs f.num (growF p)) na nb sn) := by kernel_rfl
  rw [e, hf]
  simp only
  rw [if_neg (by omega)]
theorem q_rmvA (q c made : Nat) (fs : List Fl) (na nb : Nat) (sn : List Ch) {f : Fl} (hf : fileAt fs na = some f) : rmvS (qS q c made fs na nb sn) bA = (0, qB q (c + 1) made fs nb (sn ++ [⟨2, bA, ⟨#[]⟩, 0⟩])) := by
  have e : rmvS (qS q c made fs na nb sn) bA = if (fileAt fs (na : Int)).isNone then (11, qS q (c + 1) made fs na nb sn) else (0, qB q (c + 1) made fs nb (sn ++ [⟨2, bA, ⟨#[]⟩, 0⟩])) := by kernel_rfl
  rw [e, hf]
  rfl
theorem q_rmvB (q c made : Nat) (fs : List Fl) (na nb : Nat) (sn : List Ch) {f : Fl} (hf : fileAt fs nb = some f) : rmvS (qS q c made fs na nb sn) bB = (0, qA q (c + 1) made fs na (sn ++ [⟨2, bB, ⟨#[]⟩, 0⟩])) := by
  have e : rmvS (qS q c made fs na nb sn) bB = if (fileAt fs (nb : Int)).isNone then (11, qS q (c + 1) made fs na nb sn) else (0, qA q (c + 1) made fs na (sn ++ [⟨2, bB, ⟨#[]⟩, 0⟩])) := by kernel_rfl
  rw [e, hf]
  rfl
theorem q_creA (q c made : Nat) (fs : List Fl) (nb : Nat) (sn : List Ch) (h0 : fileAt fs 0 = none) : createS (qB q c made fs nb sn) bA = (0, qS q (c + 1) (made + 1) (fs ++ [⟨made + 1, [], 0⟩]) (made + 1) nb (sn ++ [⟨0, bA, ⟨#[]⟩, made + 1⟩])) := by
  have e : createS (qB q c made fs nb sn) bA = if (fileAt fs 0).isSome then (12, qB q (c + 1) made fs nb sn) else (0, qS q (c + 1) (made + 1) (fs ++ [⟨made + 1, [], 0⟩]) (made + 1) nb (sn ++ [⟨0, bA, ⟨#[]⟩, made + 1⟩])) := by kernel_rfl
  rw [e, h0]
  rfl
theorem q_creB (q c made : Nat) (fs : List Fl) (na : Nat) (sn : List Ch) (h0 : fileAt fs 0 = none) : createS (qA q c made fs na sn) bB = (0, qS q (c + 1) (made + 1) (fs ++ [⟨made + 1, [], 0⟩]) na (made + 1) (sn ++ [⟨0, bB, ⟨#[]⟩, made + 1⟩])) := by
  have e : createS (qA q c made fs na sn) bB = if (fileAt fs 0).isSome then (12, qA q (c + 1) made fs na sn) else (0, qS q (c + 1) (made + 1) (fs ++ [⟨made + 1, [], 0⟩]) na (made + 1) (sn ++ [⟨0, bB, ⟨#[]⟩, made + 1⟩])) := by kernel_rfl
  rw [e, h0]
  rfl
theorem q_new (q : Nat) : createS (newS q) bA = (0, qA q 1 1 [⟨1, [], 0⟩] 1 [⟨0, bA, ⟨#[]⟩, 1⟩]) := by kernel_rfl
theorem q_used (q c made : Nat) (fs : List Fl) (na nb : Nat) (sn : List Ch) : (if (qS q c made fs na nb sn).dead then 0 else usedS (qS q c made fs na nb sn) : Nat) = flen fs na + (flen fs nb + 0) := rfl
/-- What a Disk of two names is sure to have. -/
theorem q_facts {F : Nat → Prop} {w : World} {R q c made na nb : Nat} {fs : List Fl} {sn : List Ch} (h : Held F w R (qS q c made fs na nb sn)) :
    (∃ f, fileAt fs na = some f ∧ f.num = na ∧ f.bs.length = flen fs na) ∧ (∃ f, fileAt fs nb = some f ∧ f.num = nb ∧ f.bs.length = flen fs nb) ∧ fileAt fs 0 = none ∧ na ≤ made ∧ nb ≤ made ∧ fileAt fs ((made + 1 : Nat) : Int) = none := by
  obtain ⟨G, D, _⟩ := h
  have hr : fs.Pairwise fun f g => f.num < g.num := D.ok.rise
  have hn : ∀ f ∈ fs, 1 ≤ f.num ∧ f.num ≤ made := D.ok.nums
  have h1 := D.ok.named (nA, i64L na) (by simp [qS, entries])
  have h2 := D.ok.named (nB, i64L nb) (by simp [qS, entries])
  obtain ⟨f1, m1, e1⟩ := h1
  obtain ⟨f2, m2, e2⟩ := h2
  have e1' : f1.num = na := by simp [i64L] at e1; omega
  have e2' : f2.num = nb := by simp [i64L] at e2; omega
  have a1 := fileAt_of hr m1
  have a2 := fileAt_of hr m2
  rw [e1'] at a1
  rw [e2'] at a2
  refine ⟨⟨f1, a1, e1', by unfold flen; rw [a1]⟩, ⟨f2, a2, e2', by unfold flen; rw [a2]⟩, ?_, by rw [← e1']; exact (hn f1 m1).2, by rw [← e2']; exact (hn f2 m2).2, fileAt_none (fun f hf => (hn f hf).2) (by omega)⟩
  unfold fileAt
  rw [List.find?_eq_none]
  intro f hf
  have := (hn f hf).1
  simp
  omega
theorem flen_upd (fs : List Fl) (n : Nat) (p : List Int) (k : Nat) {f : Fl} (hf : fileAt fs k = some f) (hk : f.num = k) : flen (updF fs n (growF p)) k = if k = n then flen fs k + p.length else flen fs k := by
  unfold flen
  rw [updF_at fs n (growF p) (fun f => rfl), hf]
  simp only [Option.map_some]
  rw [hk]
  by_cases h : k = n
  · rw [if_pos h, if_pos h]; simp [growF]
  · rw [if_neg h, if_neg h]
theorem flen_snoc (fs : List Fl) (m k : Nat) (hk : k ≤ m) : flen (fs ++ [⟨m + 1, [], 0⟩]) k = flen fs k := by
  unfold flen
  rw [fileAt_snoc, if_neg (by show ¬ (((m + 1 : Nat) : Int) = (k : Int)); omega), Option.or_none]
theorem flen_new (fs : List Fl) (m : Nat) (h : fileAt fs ((m + 1 : Nat) : Int) = none) : flen (fs ++ [⟨m + 1, [], 0⟩]) ((m + 1 : Nat) : Int) = 0 := by
  unfold flen
  rw [fileAt_snoc, h]
  simp

end Go.Proofs.Ythmfkfiblaamfab.Clep
