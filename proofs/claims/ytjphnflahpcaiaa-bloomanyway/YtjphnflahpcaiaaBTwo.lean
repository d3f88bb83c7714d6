/- Two Filters side by side, made since the call began; what keys set in whatever order. No conditions but the kinds' bounds. -/
import Derived.Test.YtjphnflahpcaiaaBOne
namespace Go.Proofs.Ytjphnflahpcaiaa.Clep
open Go.RowKit
set_option linter.unusedVariables false

structure Two (w W : World) (A B k sz Na Nb : Nat) : Prop where
  ex : ∃ P Q : Nat → Prop, Fl W A P k sz Na ∧ Fl W B Q k sz Nb ∧ (∀ b, P b → ¬ Q b) ∧ (∀ b, P b → w.heap.size ≤ b) ∧ (∀ b, Q b → w.heap.size ≤ b)
  bel : Below w.heap.size w W
theorem Two.swap {w W : World} {A B k sz Na Nb : Nat} (h : Two w W A B k sz Na Nb) : Two w W B A k sz Nb Na := by
  obtain ⟨P, Q, h1, h2, h3, h4, h5⟩ := h.ex
  exact ⟨⟨Q, P, h2, h1, fun b hb hb' => h3 b hb' hb, h5, h4⟩, h.bel⟩
theorem Two.keep {w W W' : World} {A B k sz Na Nb : Nat} (h : Two w W A B k sz Na Nb) (hb : Below W.heap.size W W') : Two w W' A B k sz Na Nb := by
  obtain ⟨P, Q, h1, h2, h3, h4, h5⟩ := h.ex
  exact ⟨⟨P, Q, h1.keep hb, h2.keep hb, h3, h4, h5⟩, bmore h.bel hb⟩
theorem two_of {w W W' : World} {A B k sz Nb Nc : Nat} {P Q R : Nat → Prop} (hb : Below w.heap.size w W) (h2 : Fl W B Q k sz Nb) (h3 : ∀ b, P b → ¬ Q b) (h4 : ∀ b, P b → w.heap.size ≤ b) (h5 : ∀ b, Q b → w.heap.size ≤ b) (hn : Fl W' A (fun b => P b ∨ (W.heap.size ≤ b ∧ b < W'.heap.size)) k sz Nc) (hc : Ch R W W') (hR : ∀ b, R b → P b) : Two w W' A B k sz Nc Nb := by
  refine ⟨⟨_, Q, hn, h2.ch hc (fun b e q => h3 b (hR b q) e), fun b e q => ?_, fun b e => ?_, h5⟩, hb.trans (hc.below hb.size fun i e => h4 i (hR i e))⟩
  · rcases e with e | e
    · exact h3 b e q
    · have := h2.lt b q; omega
  · rcases e with e | e
    · exact h4 b e
    · have := hb.size; omega
theorem two_add (w W : World) (A B k sz Na Nb : Nat) (h : Two w W A B k sz Na Nb) (ao : Option Addr) (len cap : Nat) (zs : List Int) (hm : len ≤ 9223372036854775807) (hz : Bs w ao len cap zs) :
    Calls Try.prog 10 #[.pointer (some ⟨A, 0, none⟩), .slice ao len cap] W fun e W' => e = .returned (.tuple #[]) ∧ Two w W' A B k sz (addk (fnv zs) sz k Na) Nb := by
  obtain ⟨P, Q, h1, h2, h3, h4, h5⟩ := h.ex
  exact (add_h W A P k sz Na h1 ao len cap zs hm (hz.below h.bel (Nat.le_refl _)) ((key_of hz fun _ => False).out (fun b e => ⟨h4 b e, fun q => q⟩))).mono fun e W' ⟨q1, q2, q3⟩ => ⟨q1, two_of h.bel h2 h3 h4 h5 q2 q3 fun b e => e⟩
theorem two_bytes (w W : World) (A B k sz Na Nb : Nat) (h : Two w W A B k sz Na Nb) :
    Calls Try.prog 11 #[.pointer (some ⟨A, 0, none⟩)] W fun e W' => ∃ v, e = .returned v ∧ Own W' W.heap.size v (fb k sz Na) ∧ Two w W' A B k sz Na Nb ∧ Ch (fun b => b = A) W W' := by
  obtain ⟨P, Q, h1, h2, h3, h4, h5⟩ := h.ex
  exact (bytes_h W A P k sz Na h1).mono fun e W' ⟨v, q1, q2, q3, q4, _⟩ => ⟨v, q1, q2, two_of h.bel h2 h3 h4 h5 q3 q4 (fun b e => by rw [e]; exact h1.base), q4⟩
theorem two_ones (w W : World) (A B k sz Na Nb : Nat) (h : Two w W A B k sz Na Nb) :
    Calls Try.prog 12 #[.pointer (some ⟨A, 0, none⟩)] W fun e W' => e = .returned (.int .i64 (pc (8 * sz) Na : Nat)) ∧ Two w W' A B k sz Na Nb := by
  obtain ⟨P, Q, h1, h2, h3, h4, h5⟩ := h.ex
  exact (ones_h W A P k sz Na h1).mono fun e W' ⟨q1, q3, q4⟩ => ⟨q1, two_of h.bel h2 h3 h4 h5 q3 q4 (fun b e => by rw [e]; exact h1.base)⟩
theorem Two.lt {w W : World} {A B k sz Na Nb : Nat} (h : Two w W A B k sz Na Nb) : A < W.heap.size ∧ B < W.heap.size := by
  obtain ⟨P, Q, h1, h2, _⟩ := h.ex
  exact ⟨h1.lt _ h1.base, h2.lt _ h2.base⟩
/-- One of the two. -/
def Ab (A B X : Nat) : Prop := X = A ∨ X = B
theorem two_bytesX (w W : World) (A B k sz N X L : Nat) (S : ByteArray) (hX : Ab A B X) (h : Two w W A B k sz N N) (hk : k ≤ 14) (hs : sz ≤ 25000) (hL : (fb k sz N).length = L) (hS : strOfNums (fb k sz N) = S) :
    Calls Try.prog 11 #[.pointer (some ⟨X, 0, none⟩)] W fun e W' => ∃ a c, e = .returned (.slice a L c) ∧ Two w W' A B k sz N N ∧ Ch (Ab A B) W W' ∧ ∀ W'', Ch (Ab A B) W' W'' → (convert 27 9 (.slice a L c)).run Try.prog W'' = .ok (.string S) W'' := by
  have main : Calls Try.prog 11 #[.pointer (some ⟨X, 0, none⟩)] W fun e W' => ∃ v, e = .returned v ∧ Own W' W.heap.size v (fb k sz N) ∧ Two w W' A B k sz N N ∧ Ch (Ab A B) W W' := by
    rcases hX with rfl | rfl
    · exact (two_bytes w W X B k sz N N h).mono fun e W' ⟨v, q1, q2, q3, q4⟩ => ⟨v, q1, q2, q3, q4.mono fun i _ e => .inl e⟩
    · exact (two_bytes w W X A k sz N N h.swap).mono fun e W' ⟨v, q1, q2, q3, q4⟩ => ⟨v, q1, q2, q3.swap, q4.mono fun i _ e => .inr e⟩
  refine main.mono fun e W' ⟨v, q1, q2, q3, q4⟩ => ?_
  obtain ⟨ao, cap, rfl, _, hbs, hwh⟩ := own_bs q2 (range_of (fb_range k sz N hk hs))
  subst hL hS
  refine ⟨ao, cap, q1, q3, q4, fun W'' hc => conv_bs (hbs.ch hc fun h0 x hx e => ?_)⟩
  obtain ⟨b, off, ho, _⟩ := hbs.2.2.2 h0
  have h1 := hwh b off ho
  rw [hx] at ho
  cases ho
  have := h.lt
  rcases e with e | e
  · have e' : b = A := e; omega
  · have e' : b = B := e; omega
theorem two_onesX (w W : World) (A B k sz N X : Nat) (hX : Ab A B X) (h : Two w W A B k sz N N) :
    Calls Try.prog 12 #[.pointer (some ⟨X, 0, none⟩)] W fun e W' => e = .returned (.int .i64 (pc (8 * sz) N : Nat)) ∧ Two w W' A B k sz N N := by
  rcases hX with rfl | rfl
  · exact two_ones w W X B k sz N N h
  · exact (two_ones w W X A k sz N N h.swap).mono fun e W' q => ⟨q.1, q.2.swap⟩

/-- A bit that a key sets. -/
def Hit (sz k : Nat) (z : List Int) (p : Nat) : Prop := ∃ i, i < k ∧ pl (fnv z) i sz = p
def Has1 (sz k : Nat) (g : Nat → List Int) (i N : Nat) : Prop := ∀ p, N.testBit p = true ↔ ∃ j, j < i ∧ Hit sz k (g j) p
def Has2 (sz k : Nat) (g : Nat → List Int) (T n i N : Nat) : Prop := ∀ p, N.testBit p = true ↔ ∃ j, j < i ∧ (Hit sz k (g ((j + T) % n)) p ∨ (j % 3 = 0 ∧ Hit sz k (g j) p))
theorem has1_step {sz k i N : Nat} {g : Nat → List Int} (h : Has1 sz k g i N) : Has1 sz k g (i + 1) (addk (fnv (g i)) sz k N) := fun p => by
  rw [addk_bit, h p]
  constructor
  · rintro (⟨j, h1, h2⟩ | h1)
    · exact ⟨j, by omega, h2⟩
    · exact ⟨i, by omega, h1⟩
  · rintro ⟨j, h1, h2⟩
    rcases Nat.lt_or_ge j i with h3 | h3
    · exact .inl ⟨j, h3, h2⟩
    · rw [show j = i by omega] at h2; exact .inr h2
theorem has2_step {sz k i N T n : Nat} {g : Nat → List Int} (h : Has2 sz k g T n i N) (h3 : i % 3 ≠ 0) : Has2 sz k g T n (i + 1) (addk (fnv (g ((i + T) % n))) sz k N) := fun p => by
  rw [addk_bit, h p]
  constructor
  · rintro (⟨j, h1, h2⟩ | h1)
    · exact ⟨j, by omega, h2⟩
    · exact ⟨i, by omega, .inl h1⟩
  · rintro ⟨j, h1, h2⟩
    rcases Nat.lt_or_ge j i with h4 | h4
    · exact .inl ⟨j, h4, h2⟩
    · rw [show j = i by omega] at h2
      rcases h2 with h2 | h2
      · exact .inr h2
      · exact absurd h2.1 h3
theorem has2_step3 {sz k i N T n : Nat} {g : Nat → List Int} (h : Has2 sz k g T n i N) (h3 : i % 3 = 0) : Has2 sz k g T n (i + 1) (addk (fnv (g i)) sz k (addk (fnv (g ((i + T) % n))) sz k N)) := fun p => by
  rw [addk_bit, addk_bit, h p]
  constructor
  · rintro ((⟨j, h1, h2⟩ | h1) | h1)
    · exact ⟨j, by omega, h2⟩
    · exact ⟨i, by omega, .inl h1⟩
    · exact ⟨i, by omega, .inr ⟨h3, h1⟩⟩
  · rintro ⟨j, h1, h2⟩
    rcases Nat.lt_or_ge j i with h4 | h4
    · exact .inl (.inl ⟨j, h4, h2⟩)
    · rw [show j = i by omega] at h2
      rcases h2 with h2 | h2
      · exact .inl (.inr h2)
      · exact .inr h2.2
theorem turn_back (j T n : Nat) (hj : j < n) : ∃ i, i < n ∧ (i + T) % n = j := by
  refine ⟨(j + (n - T % n)) % n, Nat.mod_lt _ (by omega), ?_⟩
  have h1 := Nat.div_add_mod T n
  have h2 := Nat.mod_lt T (show 0 < n by omega)
  rw [Nat.mod_add_mod, show j + (n - T % n) + T = j + n * (T / n + 1) by rw [Nat.mul_add, Nat.mul_one]; omega, Nat.add_mul_mod_self_left, Nat.mod_eq_of_lt hj]
theorem has_same {sz k n Na Nb T : Nat} {g : Nat → List Int} (ha : Has1 sz k g n Na) (hb : Has2 sz k g T n n Nb) : Na = Nb := bit_eq fun p => by
  rw [ha p, hb p]
  constructor
  · rintro ⟨j, h1, h2⟩
    obtain ⟨i, hi, e⟩ := turn_back j T n h1
    exact ⟨i, hi, .inl (by rw [e]; exact h2)⟩
  · rintro ⟨j, h1, h2 | h2⟩
    · exact ⟨(j + T) % n, Nat.mod_lt _ (by omega), h2⟩
    · exact ⟨j, h1, h2.2⟩
theorem has1_zero (sz k : Nat) (g : Nat → List Int) : Has1 sz k g 0 0 := fun p => by simp
theorem has2_zero (sz k T n : Nat) (g : Nat → List Int) : Has2 sz k g T n 0 0 := fun p => by simp

end Go.Proofs.Ytjphnflahpcaiaa.Clep
