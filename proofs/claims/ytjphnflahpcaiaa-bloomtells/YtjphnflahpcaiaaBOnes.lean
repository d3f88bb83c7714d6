/- What math/bits.OnesCount64 does when called: it answers how many bits are set. No conditions but the kind's bounds. -/
import Derived.Test.YtjphnflahpcaiaaBBase
namespace Go.Proofs.Ytjphnflahpcaiaa.Clep
open Go.RowKit
set_option linter.unusedVariables false

/-- A mask of n bytes, all the same. -/
def mk (m : Nat) : Nat → Nat
  | 0 => 0
  | n + 1 => 256 * mk m n + m
theorem and_cut (h l a b : Nat) (hl : l < 256) (hb : b < 256) : (256 * h + l) &&& (256 * a + b) = 256 * (h &&& a) + (l &&& b) := by
  have hlb : l &&& b < 2 ^ 8 := Nat.lt_of_le_of_lt Nat.and_le_left hl
  apply Nat.eq_of_testBit_eq
  intro t
  rw [Nat.testBit_and, show (256 : Nat) = 2 ^ 8 from rfl, Nat.testBit_two_pow_mul_add _ hl, Nat.testBit_two_pow_mul_add _ hb, Nat.testBit_two_pow_mul_add _ hlb]
  split <;> simp [Nat.testBit_and]
def s1 (n x : Nat) : Nat := (x / 2 &&& mk 85 n) + (x &&& mk 85 n)
def s2 (n x : Nat) : Nat := (x / 4 &&& mk 51 n) + (x &&& mk 51 n)
def s3 (n x : Nat) : Nat := (x / 16 + x) &&& mk 15 n
def c1 (l : Nat) : Nat := (l / 2 &&& 85) + (l &&& 85)
def c2 (l : Nat) : Nat := (l / 4 &&& 51) + (l &&& 51)
theorem a1 : ∀ (b : Fin 2) (l : Fin 256), (128 * b.val + l.val / 2) &&& 85 = l.val / 2 &&& 85 := by decide +kernel
theorem a2 : ∀ (b : Fin 4) (l : Fin 256), (64 * b.val + l.val / 4) &&& 51 = l.val / 4 &&& 51 := by decide +kernel
theorem a3 : ∀ (b : Fin 5) (l : Fin 256), l.val % 16 ≤ 4 → l.val / 16 ≤ 4 → 16 * b.val + l.val / 16 + l.val < 256 ∧ (16 * b.val + l.val / 16 + l.val) &&& 15 = l.val / 16 + l.val % 16 := by decide +kernel
theorem a4 : ∀ l : Fin 256, c1 l.val < 256 ∧ c2 (c1 l.val) < 256 ∧ c2 (c1 l.val) % 16 ≤ 4 ∧ c2 (c1 l.val) / 16 ≤ 4 ∧ c2 (c1 l.val) / 16 + c2 (c1 l.val) % 16 = pc 8 l.val := by decide +kernel
theorem s1_cut (n h l : Nat) (hl : l < 256) : s1 (n + 1) (256 * h + l) = 256 * s1 n h + c1 l := by
  simp only [s1, c1, mk]
  rw [show (256 * h + l) / 2 = 256 * (h / 2) + (128 * (h % 2) + l / 2) by omega, and_cut _ _ _ _ (by omega) (by decide), and_cut _ _ _ _ hl (by decide)]
  have := a1 ⟨h % 2, Nat.mod_lt _ (by decide)⟩ ⟨l, hl⟩
  simp only at this
  rw [this]
  omega
theorem s2_cut (n h l : Nat) (hl : l < 256) : s2 (n + 1) (256 * h + l) = 256 * s2 n h + c2 l := by
  simp only [s2, c2, mk]
  rw [show (256 * h + l) / 4 = 256 * (h / 4) + (64 * (h % 4) + l / 4) by omega, and_cut _ _ _ _ (by omega) (by decide), and_cut _ _ _ _ hl (by decide)]
  have := a2 ⟨h % 4, Nat.mod_lt _ (by decide)⟩ ⟨l, hl⟩
  simp only at this
  rw [this]
  omega
/-- How many bits of each byte are set, as bytes. -/
def sp : Nat → Nat → Nat
  | 0, _ => 0
  | n + 1, x => 256 * sp n (x / 256) + pc 8 (x % 256)
theorem s12 (n x : Nat) : s2 (n + 1) (s1 (n + 1) x) = 256 * s2 n (s1 n (x / 256)) + c2 (c1 (x % 256)) := by
  have hx : x = 256 * (x / 256) + x % 256 := by omega
  conv => lhs; rw [hx]
  have := a4 ⟨x % 256, Nat.mod_lt _ (by decide)⟩
  rw [s1_cut _ _ _ (Nat.mod_lt _ (by decide)), s2_cut _ _ _ this.1]
theorem s12_low (n x : Nat) : s2 n (s1 n x) % 16 ≤ 4 := by
  cases n with
  | zero => simp [s2, s1, mk]
  | succ n =>
    have := a4 ⟨x % 256, Nat.mod_lt _ (by decide)⟩
    simp only at this
    rw [s12]
    omega
theorem s123 : ∀ (n x : Nat), s3 n (s2 n (s1 n x)) = sp n x
  | 0, x => by simp [s3, sp, mk]
  | n + 1, x => by
    have ih := s123 n (x / 256)
    have hlow := s12_low n (x / 256)
    rw [s12]
    obtain ⟨q1, q2, q3, q4, q5⟩ := a4 ⟨x % 256, Nat.mod_lt _ (by decide)⟩
    simp only at q1 q2 q3 q4 q5
    simp only [sp]
    rw [← ih]
    generalize s2 n (s1 n (x / 256)) = h at *
    rw [← q5]
    generalize c2 (c1 (x % 256)) = l at *
    obtain ⟨r1, r2⟩ := a3 ⟨h % 16, by omega⟩ ⟨l, q2⟩ q3 q4
    simp only at r1 r2
    unfold s3
    simp only [mk]
    rw [show (256 * h + l) / 16 + (256 * h + l) = 256 * (h / 16 + h) + (16 * (h % 16) + l / 16 + l) by omega, and_cut _ _ _ _ r1 (by decide), r2]
theorem pc_cut (x n : Nat) : pc (8 + n) x = pc 8 (x % 256) + pc n (x / 256) := by
  rw [pc_add, show (256 : Nat) = 2 ^ 8 from rfl]
  congr 1
  exact pc_congr 8 _ _ fun t ht => by rw [Nat.testBit_mod_two_pow]; simp [ht]
/-- What the last steps make of it. -/
def fin (y : Nat) : Nat :=
  let y1 := y + y / 256
  let y2 := y1 + y1 / 65536
  (y2 + y2 / 4294967296) % 128
theorem sp_parts (x : Nat) : ∃ p0 p1 p2 p3 p4 p5 p6 p7 : Nat, p0 ≤ 8 ∧ p1 ≤ 8 ∧ p2 ≤ 8 ∧ p3 ≤ 8 ∧ p4 ≤ 8 ∧ p5 ≤ 8 ∧ p6 ≤ 8 ∧ p7 ≤ 8 ∧ sp 8 x = 256 * (256 * (256 * (256 * (256 * (256 * (256 * (256 * 0 + p7) + p6) + p5) + p4) + p3) + p2) + p1) + p0 ∧ pc 64 x = p0 + (p1 + (p2 + (p3 + (p4 + (p5 + (p6 + (p7 + 0))))))) := by
  refine ⟨_, _, _, _, _, _, _, _, pc_le 8 _, pc_le 8 _, pc_le 8 _, pc_le 8 _, pc_le 8 _, pc_le 8 _, pc_le 8 _, pc_le 8 _, rfl, ?_⟩
  rw [show (64 : Nat) = 8 + (8 + (8 + (8 + (8 + (8 + (8 + (8 + 0))))))) from rfl]
  simp only [pc_cut]
  rfl
theorem ones_math (x : Nat) : fin (s3 8 (s2 8 (s1 8 x))) = pc 64 x ∧ s3 8 (s2 8 (s1 8 x)) < 1000000000000000000 := by
  rw [s123]
  obtain ⟨p0, p1, p2, p3, p4, p5, p6, p7, h0, h1, h2, h3, h4, h5, h6, h7, e, e2⟩ := sp_parts x
  rw [e, e2]
  unfold fin
  refine ⟨?_, by omega⟩
  rw [show (256 * (256 * (256 * (256 * (256 * (256 * (256 * (256 * 0 + p7) + p6) + p5) + p4) + p3) + p2) + p1) + p0) + (256 * (256 * (256 * (256 * (256 * (256 * (256 * (256 * 0 + p7) + p6) + p5) + p4) + p3) + p2) + p1) + p0) / 256 = 256 * (256 * (256 * (256 * (256 * (256 * (256 * p7 + (p6 + p7)) + (p5 + p6)) + (p4 + p5)) + (p3 + p4)) + (p2 + p3)) + (p1 + p2)) + (p0 + p1) by omega]
  simp only
  rw [show (256 * (256 * (256 * (256 * (256 * (256 * (256 * p7 + (p6 + p7)) + (p5 + p6)) + (p4 + p5)) + (p3 + p4)) + (p2 + p3)) + (p1 + p2)) + (p0 + p1)) + (256 * (256 * (256 * (256 * (256 * (256 * (256 * p7 + (p6 + p7)) + (p5 + p6)) + (p4 + p5)) + (p3 + p4)) + (p2 + p3)) + (p1 + p2)) + (p0 + p1)) / 65536 = 256 * (256 * (256 * (256 * (256 * (256 * (256 * p7 + (p6 + p7)) + (p5 + p6 + p7)) + (p4 + p5 + p6 + p7)) + (p3 + p4 + p5 + p6)) + (p2 + p3 + p4 + p5)) + (p1 + p2 + p3 + p4)) + (p0 + p1 + p2 + p3) by omega]
  rw [show (256 * (256 * (256 * (256 * (256 * (256 * (256 * p7 + (p6 + p7)) + (p5 + p6 + p7)) + (p4 + p5 + p6 + p7)) + (p3 + p4 + p5 + p6)) + (p2 + p3 + p4 + p5)) + (p1 + p2 + p3 + p4)) + (p0 + p1 + p2 + p3)) / 4294967296 = 256 * (256 * (256 * p7 + (p6 + p7)) + (p5 + p6 + p7)) + (p4 + p5 + p6 + p7) by omega]
  omega

end Go.Proofs.Ytjphnflahpcaiaa.Clep
