/- What settle of a Disk does when called (a walk over the translated program): for any Disk of at most 2^40 calls. -/
import Derived.Test.YthmfkfiblaamfabDRead
namespace Go.Proofs.Ythmfkfiblaamfab.Clep
open Go.RowKit Go.Maps
set_option linter.unusedVariables false

def isNamed (D : DataW Unit) (left : Lit → Bool) (k : Int) : Bool := (entries D).any fun p => !left p.1 && numOf p.2 == k
def settleS (S : St) : St := { S with lasting := S.names, since := [], files := S.files.filter fun f => isNamed S.names (fun _ => false) f.num }
/-- What the new map of files holds, behind some of the names. -/
def Part (β : Nat → Nat) (D : DataW Unit) (left : Lit → Bool) (N : DataW Unit) : Prop := ∀ k : Int, Maps.has N (.int .i64 k) = isNamed D left k ∧ (Maps.has N (.int .i64 k) = true → ∀ z, N.atKey (.int .i64 k) z = i64L (β k.toNat))
theorem part_start (β : Nat → Nat) (D : DataW Unit) (hc : Canon D) : Part β D (Maps.has D) (.map []) := by
  obtain ⟨es, rfl, _, hk⟩ := hc
  intro k
  refine ⟨?_, fun h => by cases h⟩
  show false = _
  symm
  unfold isNamed
  rw [List.any_eq_false]
  intro p hp
  simp only [entries] at hp
  have : Maps.has (.map es) p.1 = true := by
    rw [Maps.has_eq, List.any_eq_true]
    exact ⟨p, hp, WideAt.sameKey_self (hk p hp)⟩
  rw [this]
  simp
theorem named_step {D : DataW Unit} {left : Lit → Bool} {kl : Lit} {c : Int} (hc : Canon D) (hK : WideAt.IsKeyLit kl) (hat : ∀ zd, D.atKey kl zd = i64L c) (k : Int) :
    isNamed D (fun z => left z && !z.sameKey kl) k = (isNamed D left k || c == k) := by
  obtain ⟨p0, h0, e1, e2⟩ := entry_of hc hat
  obtain ⟨es, rfl, hr, _⟩ := hc
  have hap := Maps.apart_of_rising hr
  unfold isNamed
  simp only [entries] at h0 ⊢
  rw [Bool.eq_iff_iff, Bool.or_eq_true, List.any_eq_true, List.any_eq_true]
  have hsame : WideAt.IsKeyLit kl → kl.sameKey kl = true := WideAt.sameKey_self
  constructor
  · rintro ⟨p, hp, h⟩
    rw [Bool.and_eq_true] at h
    by_cases hs : p.1.sameKey kl = true
    · right
      have e : p = p0 := by
        have e' : p.1 = p0.1 := (WideAt.sameKey_eq hs).trans e1.symm
        by_cases hpp : p = p0
        · exact hpp
        · exfalso
          have : ∀ l : List (Lit × DataW Unit), l.Pairwise (fun p q => p.1 ≠ q.1) → p ∈ l → p0 ∈ l → False := by
            intro l
            induction l with
            | nil => intro _ h; cases h
            | cons x r ih =>
              intro hl h1 h2
              rw [List.pairwise_cons] at hl
              rcases List.mem_cons.1 h1 with h1' | h1'
              · rcases List.mem_cons.1 h2 with h2' | h2'
                · exact hpp (h1'.trans h2'.symm)
                · exact hl.1 p0 h2' (by rw [← h1']; exact e')
              · rcases List.mem_cons.1 h2 with h2' | h2'
                · exact hl.1 p h1' (by rw [← h2']; exact e'.symm)
                · exact ih hl.2 h1' h2'
          exact this es hap hp h0
      rw [e, e2] at h
      exact h.2
    · left
      refine ⟨p, hp, ?_⟩
      rw [Bool.not_eq_true] at hs
      rw [Bool.and_eq_true]
      rw [hs] at h
      exact ⟨by simpa using h.1, h.2⟩
  · rintro (⟨p, hp, h⟩ | h)
    · refine ⟨p, hp, ?_⟩
      rw [Bool.and_eq_true] at h ⊢
      refine ⟨?_, h.2⟩
      have := h.1
      simp only [Bool.not_eq_true'] at this
      rw [this]
      rfl
    · refine ⟨p0, h0, ?_⟩
      rw [e1, hsame hK, e2]
      simpa [numOf, i64L] using h
theorem part_step {β : Nat → Nat} {D N : DataW Unit} {left : Lit → Bool} {kl : Lit} {f : Fl} (h : Part β D left N) (hN : IsMap N) (hc : Canon D) (hK : WideAt.IsKeyLit kl) (hat : ∀ zd, D.atKey kl zd = i64L f.num) :
    Part β D (fun z => left z && !z.sameKey kl) (N.put (.int .i64 f.num) (i64L (β f.num))) := by
  intro k
  rw [named_step hc hK hat]
  by_cases hk : (f.num : Int) = k
  · subst hk
    rw [Maps.has_put_same (k := .int .i64 _) hN trivial]
    refine ⟨by simp, fun _ z => ?_⟩
    rw [Maps.atKey_put_same (k := .int .i64 _) hN trivial]
    simp
  · have hne : Lit.int .i64 k ≠ .int .i64 (f.num : Int) := by intro e; injection e with _ e; exact hk e.symm
    rw [Maps.has_put_other hne]
    refine ⟨by rw [(h k).1]; simp [hk], fun hh z => ?_⟩
    rw [Maps.atKey_put_other hne]
    exact (h k).2 hh z
theorem part_end {β : Nat → Nat} {fs : List Fl} {D N : DataW Unit} {left : Lit → Bool} (h : Part β D left N) (hl : ∀ k, left k = false) (hr : fs.Pairwise fun f g => f.num < g.num) (hL : Leads fs D) : FilesD β (fs.filter fun f => isNamed D (fun _ => false) f.num) N := by
  have e : left = fun _ => false := funext hl
  subst e
  intro k
  have hf : fileAt (fs.filter fun f => isNamed D (fun _ => false) f.num) k = if isNamed D (fun _ => false) k then fileAt fs k else none := by
    unfold fileAt
    rw [List.find?_filter]
    have ep : (fun f : Fl => decide (isNamed D (fun _ => false) (f.num : Int) = true ∧ ((f.num : Int) == k) = true)) = fun f : Fl => isNamed D (fun _ => false) k && (f.num : Int) == k := by
      funext f
      by_cases e : (f.num : Int) = k
      · rw [e]; simp
      · have : ((f.num : Int) == k) = false := by simpa using e
        rw [this, Bool.and_false]; simp
    rw [ep]
    cases isNamed D (fun _ => false) k with
    | false => simp
    | true => simp
  rw [hf]
  cases hn : isNamed D (fun _ => false) k with
  | false =>
    have h1 := (h k).1
    rw [hn] at h1
    rw [if_neg (by simp)]
    exact ⟨Maps.atKey_of_not_has h1 _, h1⟩
  | true =>
    have h1 := (h k).1
    rw [hn] at h1
    rw [if_pos rfl]
    obtain ⟨p, hp, hpk⟩ := List.any_eq_true.1 hn
    obtain ⟨f, hfm, e⟩ := hL p hp
    have : k = f.num := by rw [e] at hpk; simpa [numOf, i64L] using Eq.symm (show (f.num : Int) = k by simpa [numOf, i64L] using hpk)
    subst this
    rw [fileAt_of hr hfm, h1, (h _).2 h1]
    exact ⟨by simp, rfl⟩

end Go.Proofs.Ythmfkfiblaamfab.Clep
