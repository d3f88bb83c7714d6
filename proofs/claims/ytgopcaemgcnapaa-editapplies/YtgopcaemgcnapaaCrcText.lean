/- Plain mathematics of the sums of texts: a sum as one number's steps; what is sealed; bits that are turned are found. No conditions. -/
import Derived.Test.YtgopcaemgcnapaaCrc
import Derived.Test.YtgopcaemgcnapaaBase
namespace Go.Proofs.Ytgopcaemgcnapaa.Clep
set_option linter.unusedVariables false
set_option maxRecDepth 10000

def ByteL (zs : List Int) : Prop := ∀ z ∈ zs, 0 ≤ z ∧ z < 256
theorem ByteL.tail {z : Int} {zs : List Int} (h : ByteL (z :: zs)) : ByteL zs := fun y hy => h y (List.mem_cons_of_mem _ hy)
theorem ByteL.head {z : Int} {zs : List Int} (h : ByteL (z :: zs)) : 0 ≤ z ∧ z < 256 := h z (by simp)

theorem xor_join (i x y : Nat) (hy : y < 2 ^ i) : 2 ^ i * x ^^^ y = 2 ^ i * x + y := by
  apply Nat.eq_of_testBit_eq
  intro j
  rw [Nat.testBit_xor, Nat.testBit_two_pow_mul, Nat.testBit_two_pow_mul_add _ hy]
  by_cases h : j < i
  · have h' : ¬ i ≤ j := by omega
    simp [h, h']
  · have : y.testBit j = false := Nat.testBit_lt_two_pow (Nat.lt_of_lt_of_le hy (Nat.pow_le_pow_right (by omega) (by omega)))
    simp [h, this]
    omega

/-- A text's bytes as one number, the first byte lowest. -/
def nn : List Int → Nat
  | [] => 0
  | c :: r => 256 * nn r + c.toNat
/-- A sum's bits over a text. -/
def cr : List Int → Nat → Nat
  | [], c => c
  | z :: r, c => cr r (it 8 (c ^^^ z.toNat))
def ones : Nat := 4294967295
/-- The sum of a text. -/
def crc (zs : List Int) : Nat := cr zs ones ^^^ ones

theorem it8_join (c x : Nat) : it 8 (256 * x ^^^ c) = x ^^^ it 8 c := by
  have := it_shift 8 x
  rw [it_xor, show 256 * x = 2 ^ 8 * x from rfl, this]
theorem cr_nn : ∀ (zs : List Int) (c : Nat), ByteL zs → cr zs c = it (8 * zs.length) (c ^^^ nn zs)
  | [], c, _ => by simp [cr, nn, it]
  | z :: r, c, h => by
    have hz := h.head
    rw [cr, cr_nn r _ h.tail]
    simp only [List.length_cons, nn]
    rw [show 8 * (r.length + 1) = 8 + 8 * r.length from by omega, it_add]
    have e : 256 * nn r + z.toNat = 256 * nn r ^^^ z.toNat := (xor_join 8 (nn r) z.toNat (by omega)).symm
    rw [e, show c ^^^ (256 * nn r ^^^ z.toNat) = 256 * nn r ^^^ (c ^^^ z.toNat) from by ac_rfl, it8_join, Nat.xor_comm (nn r)]
theorem cr_append : ∀ (xs ys : List Int) (c : Nat), cr (xs ++ ys) c = cr ys (cr xs c)
  | [], ys, c => rfl
  | x :: xs, ys, c => by rw [List.cons_append, cr, cr_append xs]; rfl
theorem cr_snoc (xs : List Int) (z : Int) (c : Nat) : cr (xs ++ [z]) c = it 8 (cr xs c ^^^ z.toNat) := by rw [cr_append]; rfl
theorem cr_lt : ∀ (zs : List Int) (c : Nat), ByteL zs → c < 4294967296 → cr zs c < 4294967296
  | [], c, _, h => h
  | z :: r, c, hz, h => by
    have := hz.head
    exact cr_lt r _ hz.tail (it_lt 8 _ (Nat.xor_lt_two_pow (n := 32) h (by omega)))
theorem ones_lt : ones < 4294967296 := by decide
theorem crc_lt (zs : List Int) (h : ByteL zs) : crc zs < 4294967296 := Nat.xor_lt_two_pow (n := 32) (cr_lt zs ones h ones_lt) ones_lt
theorem not_xor (a : Nat) (ha : a < 4294967296) : a ^^^ 4294967295 = 4294967295 - a := by
  have h : (BitVec.ofNat 32 a ^^^ BitVec.allOnes 32).toNat = (~~~ BitVec.ofNat 32 a).toNat := by rw [BitVec.xor_allOnes]
  rw [BitVec.toNat_not, BitVec.toNat_xor, BitVec.toNat_allOnes, BitVec.toNat_ofNat, Nat.mod_eq_of_lt (by omega)] at h
  simpa using h
theorem crc_sub (zs : List Int) (h : ByteL zs) : (crc zs : Int) = 4294967295 - (cr zs 4294967295 : Int) := by
  have hl := cr_lt zs ones h ones_lt
  unfold crc
  rw [show ones = 4294967295 from rfl] at *
  rw [not_xor _ hl]; omega

/-- A step by the table. -/
theorem tab_step (c z : Nat) (hz : z < 256) : c / 256 ^^^ it 8 (c % 256 ^^^ z) = it 8 (c ^^^ z) := by
  have e : c = 256 * (c / 256) ^^^ c % 256 := by
    have := xor_join 8 (c / 256) (c % 256) (by omega)
    rw [show (2 : Nat) ^ 8 = 256 from rfl] at this
    rw [this]; omega
  have h := it8_join (c % 256 ^^^ z) (c / 256)
  rw [← Nat.xor_assoc, ← e] at h
  exact h.symm

theorem nn_lt : ∀ (zs : List Int), ByteL zs → nn zs < 2 ^ (8 * zs.length)
  | [], _ => by simp [nn]
  | z :: r, h => by
    have hz := h.head
    have ih := nn_lt r h.tail
    simp only [List.length_cons, nn]
    rw [show 8 * (r.length + 1) = 8 * r.length + 8 from by omega, Nat.pow_add]
    generalize (2 : Nat) ^ (8 * r.length) = p at *
    omega
theorem nn_append : ∀ (xs ys : List Int), nn (xs ++ ys) = 2 ^ (8 * xs.length) * nn ys + nn xs
  | [], ys => by simp [nn]
  | x :: xs, ys => by
    simp only [List.cons_append, nn, nn_append xs ys, List.length_cons]
    rw [show 8 * (xs.length + 1) = 8 + 8 * xs.length from by omega, Nat.pow_add, show (2 : Nat) ^ 8 = 256 from rfl, Nat.mul_add, Nat.mul_assoc]
    omega
theorem nn_inj : ∀ (xs ys : List Int), xs.length = ys.length → ByteL xs → ByteL ys → nn xs = nn ys → xs = ys
  | [], [], _, _, _, _ => rfl
  | [], _ :: _, h, _, _, _ => by simp at h
  | _ :: _, [], h, _, _, _ => by simp at h
  | x :: xs, y :: ys, hl, hx, hy, h => by
    simp only [nn] at h
    have h1 := hx.head
    have h2 := hy.head
    rw [nn_inj xs ys (by simpa using hl) hx.tail hy.tail (by omega), show x = y from by omega]

/-- Four bytes of a number, the lowest first. -/
def le4 (t : Nat) (k : Nat) : List Int := (List.range k).map fun i => ((t / 2 ^ (8 * i) % 256 : Nat) : Int)
theorem le4_succ (t k : Nat) : le4 t (k + 1) = le4 t k ++ [((t / 2 ^ (8 * k) % 256 : Nat) : Int)] := by simp [le4, List.range_succ]
theorem le4_len (t k : Nat) : (le4 t k).length = k := by simp [le4]
theorem le4_range (t k : Nat) : ByteL (le4 t k) := by
  intro z hz
  simp only [le4, List.mem_map] at hz
  obtain ⟨i, _, rfl⟩ := hz
  omega
theorem nn_le4 (t : Nat) (h : t < 4294967296) : nn (le4 t 4) = t := by
  simp only [le4, List.range, List.range.loop, List.map, nn, Int.toNat_natCast]
  simp only [show (2 : Nat) ^ (8 * 0) = 1 from rfl, show (2 : Nat) ^ (8 * 1) = 256 from rfl, show (2 : Nat) ^ (8 * 2) = 65536 from rfl, show (2 : Nat) ^ (8 * 3) = 16777216 from rfl]
  omega
theorem ByteL.append {a b : List Int} (ha : ByteL a) (hb : ByteL b) : ByteL (a ++ b) := cat_range ha hb

/-- A sum over a text and four bytes more. -/
theorem cr_four (xs ys : List Int) (hy : ByteL ys) (hl : ys.length = 4) (c : Nat) : cr (xs ++ ys) c = it 32 (cr xs c ^^^ nn ys) := by
  rw [cr_append, cr_nn ys _ hy, hl]

/-- What Seal answers. -/
def sl (zs : List Int) : List Int := zs ++ le4 (crc zs) 4
theorem sl_len (zs : List Int) : (sl zs).length = zs.length + 4 := by simp [sl, le4_len]
theorem sl_range (zs : List Int) (h : ByteL zs) : ByteL (sl zs) := h.append (le4_range _ _)

/-- SumRest. -/
theorem crc_sealed (zs : List Int) (h : ByteL zs) : crc (sl zs) = crc [0, 0, 0, 0] := by
  have e : cr (sl zs) ones = it 32 ones := by
    rw [sl, cr_four _ _ (le4_range _ _) (le4_len _ _), nn_le4 _ (crc_lt zs h)]
    unfold crc
    rw [← Nat.xor_assoc, Nat.xor_self, Nat.zero_xor]
  have e2 : cr [0, 0, 0, 0] ones = it 32 ones := by
    have := cr_four [] [0, 0, 0, 0] (by intro z hz; simp at hz; omega) rfl ones
    simpa [cr, nn] using this
  unfold crc
  rw [e, e2]
/-- SumLast. -/
theorem crc_last (zs : List Int) (h : ByteL zs) (x y : Nat) (hx : x < 4294967296) (hy : y < 4294967296) : crc (zs ++ le4 x 4) = crc (zs ++ le4 y 4) ↔ x = y := by
  refine ⟨fun e => ?_, fun e => by rw [e]⟩
  unfold crc at e
  rw [cr_four _ _ (le4_range _ _) (le4_len _ _), cr_four _ _ (le4_range _ _) (le4_len _ _), nn_le4 _ hx, nn_le4 _ hy] at e
  have e1 : it 32 (cr zs ones ^^^ x) = it 32 (cr zs ones ^^^ y) := by
    have := congrArg (· ^^^ ones) e
    simpa [Nat.xor_assoc] using this
  have hc := cr_lt zs ones h ones_lt
  have e2 := it_inj 32 _ _ (Nat.xor_lt_two_pow (n := 32) hc hx) (Nat.xor_lt_two_pow (n := 32) hc hy) e1
  have := congrArg (cr zs ones ^^^ ·) e2
  simpa [← Nat.xor_assoc] using this

/-- A sealed text's sum stands behind it. -/
def good (s : List Int) (n : Nat) : Prop := nn (s.drop n) = crc (s.take n)
theorem ByteL.take {s : List Int} (h : ByteL s) (n : Nat) : ByteL (s.take n) := fun z hz => h z (List.mem_of_mem_take hz)
theorem ByteL.drop {s : List Int} (h : ByteL s) (n : Nat) : ByteL (s.drop n) := fun z hz => h z (List.mem_of_mem_drop hz)
theorem good_iff (s : List Int) (n : Nat) (h : ByteL s) (hl : s.length = n + 4) : good s n ↔ it (8 * (n + 4)) (ones ^^^ nn s) = it 32 ones := by
  have e : cr s ones = it 32 (cr (s.take n) ones ^^^ nn (s.drop n)) := by
    have := cr_four (s.take n) (s.drop n) (h.drop n) (by simp; omega) ones
    rwa [List.take_append_drop] at this
  rw [cr_nn s ones h, hl] at e
  rw [e]
  have hc := cr_lt (s.take n) ones (h.take n) ones_lt
  have hd : nn (s.drop n) < 4294967296 := by
    have := nn_lt _ (h.drop n)
    rw [show (s.drop n).length = 4 from by simp; omega] at this
    exact this
  unfold good crc
  constructor
  · intro g; rw [g, ← Nat.xor_assoc, Nat.xor_self, Nat.zero_xor]
  · intro g
    have := it_inj 32 _ _ (Nat.xor_lt_two_pow (n := 32) hc hd) ones_lt g
    have := congrArg (cr (s.take n) ones ^^^ ·) this
    simpa [← Nat.xor_assoc] using this
theorem good_sl (zs : List Int) (h : ByteL zs) : good (sl zs) zs.length := by
  unfold good sl
  rw [List.drop_left, List.take_left, nn_le4 _ (crc_lt zs h)]
/-- Of a text that is good, one that is turned by e is good just if e's steps come to nothing. -/
theorem good_turn (s s' : List Int) (n e : Nat) (h : ByteL s) (h' : ByteL s') (hl : s.length = n + 4) (hl' : s'.length = n + 4) (g : good s n) (he : nn s' = nn s ^^^ e) :
    good s' n ↔ it (8 * (n + 4)) e = 0 := by
  rw [good_iff s' n h' hl', he, ← Nat.xor_assoc, it_xor, (good_iff s n h hl).1 g]
  constructor
  · intro q
    have := congrArg (it 32 ones ^^^ ·) q
    simpa [← Nat.xor_assoc] using this
  · intro q; rw [q, Nat.xor_zero]

/-- Up to three bits. -/
theorem bit_found (m i : Nat) (hi : i < m) : it m (2 ^ i) ≠ 0 := by
  intro h
  have := par_it m (2 ^ i)
  rw [h, par_zero, par_bit _ _ (by omega)] at this
  cases this
theorem three_found (m i j k : Nat) (hi : i < m) (hj : j < m) (hk : k < m) : it m (2 ^ i ^^^ 2 ^ j ^^^ 2 ^ k) ≠ 0 := by
  intro h
  have := par_it m (2 ^ i ^^^ 2 ^ j ^^^ 2 ^ k)
  rw [h, par_zero, par_xor, par_xor, par_bit _ i (by omega), par_bit _ j (by omega), par_bit _ k (by omega)] at this
  cases this
theorem two_lt (m i j : Nat) (hi : i < j) (hj : j < m) (hm : m ≤ 32768) : it m (2 ^ i ^^^ 2 ^ j) ≠ 0 := by
  intro h
  rw [it_xor] at h
  have h1 := it_far m i 1 (by omega)
  have h2 := it_far m j 1 (by omega)
  rw [Nat.mul_one] at h1 h2
  have h := xor_eq_zero h
  rw [h1, h2, show m - i = j - i + (m - j) from by omega, it_add] at h
  exact order (j - i) (by omega) (by omega) (it_inj (m - j) _ _ (it_lt _ _ (by decide)) (by decide) h)
theorem two_found (m i j : Nat) (hi : i < m) (hj : j < m) (hm : m ≤ 32768) (hne : i ≠ j) : it m (2 ^ i ^^^ 2 ^ j) ≠ 0 := by
  rcases Nat.lt_or_ge i j with h | h
  · exact two_lt m i j h hj hm
  · rw [Nat.xor_comm]; exact two_lt m j i (by omega) hi hm
/-- Bits within 32 in a row. -/
theorem burst_found (m k e : Nat) (hk : k ≤ m) (he : e < 4294967296) (h0 : e ≠ 0) : it m (2 ^ k * e) ≠ 0 := by
  rw [it_far m k e hk]
  exact fun h => h0 (it_ne _ _ he h)

/-- A text with the bit at p turned. -/
def flip (s : List Int) (p : Nat) : List Int := s.set (p / 8) (((s.getD (p / 8) 0).toNat ^^^ 2 ^ (p % 8) : Nat) : Int)
theorem flip_len (s : List Int) (p : Nat) : (flip s p).length = s.length := by simp [flip]
theorem flip_range (s : List Int) (p : Nat) (h : ByteL s) : ByteL (flip s p) := by
  intro z hz
  rcases List.mem_or_eq_of_mem_set hz with hz | rfl
  · exact h z hz
  · have h1 := range_of h (p / 8)
    have h2 : (2 : Nat) ^ (p % 8) < 2 ^ 8 := Nat.pow_lt_pow_right (by omega) (by omega)
    have := Nat.xor_lt_two_pow (n := 8) (x := (s.getD (p / 8) 0).toNat) (y := 2 ^ (p % 8)) (by omega) h2
    omega
theorem nn_flip : ∀ (s : List Int) (p : Nat), ByteL s → p < 8 * s.length → nn (flip s p) = nn s ^^^ 2 ^ p
  | [], p, _, hp => by simp at hp
  | z :: r, p, h, hp => by
    have hz := h.head
    simp only [List.length_cons] at hp
    by_cases h8 : p < 8
    · have e1 : p / 8 = 0 := by omega
      have e2 : p % 8 = p := by omega
      have h2 : (2 : Nat) ^ p < 2 ^ 8 := Nat.pow_lt_pow_right (by omega) (by omega)
      have h3 := Nat.xor_lt_two_pow (n := 8) (x := z.toNat) (y := 2 ^ p) (by omega) h2
      simp only [flip, e1, e2, List.set_cons_zero, nn, List.getD_cons_zero, Int.toNat_natCast]
      have a1 := xor_join 8 (nn r) z.toNat (by omega)
      have a2 := xor_join 8 (nn r) (z.toNat ^^^ 2 ^ p) h3
      rw [show (2 : Nat) ^ 8 = 256 from rfl] at a1 a2
      rw [← a1, ← a2, Nat.xor_assoc]
    · obtain ⟨q, rfl⟩ : ∃ q, p = q + 8 := ⟨p - 8, by omega⟩
      have ih := nn_flip r q h.tail (by omega)
      have e1 : (q + 8) / 8 = q / 8 + 1 := by omega
      have e2 : (q + 8) % 8 = q % 8 := by omega
      have ef : flip (z :: r) (q + 8) = z :: flip r q := by
        simp only [flip, e1, e2, List.set_cons_succ, List.getD_cons_succ]
      rw [ef]
      simp only [nn, ih]
      have a1 := xor_join 8 (nn r) z.toNat (by omega)
      have a2 := xor_join 8 (nn r ^^^ 2 ^ q) z.toNat (by omega)
      rw [show (2 : Nat) ^ 8 = 256 from rfl] at a1 a2
      have a3 : 256 * (nn r ^^^ 2 ^ q) = 256 * nn r ^^^ 2 ^ (q + 8) := by
        rw [Nat.pow_add, show (2 : Nat) ^ 8 = 256 from rfl, Nat.mul_comm (2 ^ q)]
        have := Nat.shiftLeft_xor_distrib (a := nn r) (b := 2 ^ q) (i := 8)
        simpa [Nat.shiftLeft_eq, Nat.mul_comm] using this
      rw [← a1, ← a2, a3, Nat.xor_assoc, Nat.xor_assoc, Nat.xor_comm (2 ^ (q + 8))]

/-- SumParts: sums of texts of one length lie over each other as the texts do. -/
theorem nn_xor3 : ∀ (a b c d : List Int), a.length = d.length → b.length = d.length → c.length = d.length → ByteL a → ByteL b → ByteL c → ByteL d →
    (∀ i, i < d.length → (d.getD i 0).toNat = (a.getD i 0).toNat ^^^ (b.getD i 0).toNat ^^^ (c.getD i 0).toNat) → nn d = nn a ^^^ nn b ^^^ nn c
  | [], [], [], [], _, _, _, _, _, _, _, _ => by simp [nn]
  | x :: a, y :: b, z :: c, u :: d, h1, h2, h3, ha, hb, hc, hd, h => by
    simp only [List.length_cons] at h1 h2 h3 h
    have ih := nn_xor3 a b c d (by omega) (by omega) (by omega) ha.tail hb.tail hc.tail hd.tail (fun i hi => by have := h (i + 1) (by omega); simpa using this)
    have h0 : u.toNat = x.toNat ^^^ y.toNat ^^^ z.toNat := by have := h 0 (by omega); simpa using this
    have hx := ha.head
    have hy := hb.head
    have hz := hc.head
    have hu := hd.head
    have a1 := xor_join 8 (nn a) x.toNat (by omega)
    have a2 := xor_join 8 (nn b) y.toNat (by omega)
    have a3 := xor_join 8 (nn c) z.toNat (by omega)
    have a4 := xor_join 8 (nn a ^^^ nn b ^^^ nn c) u.toNat (by omega)
    have a5 : 2 ^ 8 * (nn a ^^^ nn b ^^^ nn c) = 2 ^ 8 * nn a ^^^ 2 ^ 8 * nn b ^^^ 2 ^ 8 * nn c := by
      have p := Nat.shiftLeft_xor_distrib (a := nn a ^^^ nn b) (b := nn c) (i := 8)
      have q := Nat.shiftLeft_xor_distrib (a := nn a) (b := nn b) (i := 8)
      rw [q] at p
      simpa [Nat.shiftLeft_eq, Nat.mul_comm] using p
    simp only [show (2 : Nat) ^ 8 = 256 from rfl] at a1 a2 a3 a4 a5
    simp only [nn, ih]
    rw [← a1, ← a2, ← a3, ← a4, a5, h0]
    ac_rfl
  | [], [], _ :: _, [], _, _, h, _, _, _, _, _ => by simp at h
  | [], _ :: _, _, [], _, h, _, _, _, _, _, _ => by simp at h
  | _ :: _, _, _, [], h, _, _, _, _, _, _, _ => by simp at h
  | [], _, _, _ :: _, h, _, _, _, _, _, _, _ => by simp at h
  | _ :: _, [], _, _ :: _, _, h, _, _, _, _, _, _ => by simp at h
  | _ :: _, _ :: _, [], _ :: _, _, _, h, _, _, _, _, _ => by simp at h
theorem crc_xor3 (a b c d : List Int) (h1 : a.length = d.length) (h2 : b.length = d.length) (h3 : c.length = d.length) (ha : ByteL a) (hb : ByteL b) (hc : ByteL c) (hd : ByteL d)
    (h : ∀ i, i < d.length → (d.getD i 0).toNat = (a.getD i 0).toNat ^^^ (b.getD i 0).toNat ^^^ (c.getD i 0).toNat) : crc a ^^^ crc b ^^^ crc c ^^^ crc d = 0 := by
  have e := nn_xor3 a b c d h1 h2 h3 ha hb hc hd h
  unfold crc
  rw [cr_nn a _ ha, cr_nn b _ hb, cr_nn c _ hc, cr_nn d _ hd, h1, h2, h3, e]
  have e2 : ∀ m A B C : Nat, it m (ones ^^^ A) ^^^ ones ^^^ (it m (ones ^^^ B) ^^^ ones) ^^^ (it m (ones ^^^ C) ^^^ ones) ^^^ (it m (ones ^^^ (A ^^^ B ^^^ C)) ^^^ ones) = 0 := by
    intro m A B C
    simp only [it_xor]
    have : ∀ o p q r s : Nat, (o ^^^ p) ^^^ s ^^^ ((o ^^^ q) ^^^ s) ^^^ ((o ^^^ r) ^^^ s) ^^^ ((o ^^^ (p ^^^ q ^^^ r)) ^^^ s) = 0 := by
      intro o p q r s
      apply Nat.eq_of_testBit_eq
      intro i
      simp only [Nat.testBit_xor, Nat.zero_testBit]
      cases o.testBit i <;> cases p.testBit i <;> cases q.testBit i <;> cases r.testBit i <;> cases s.testBit i <;> rfl
    exact this _ _ _ _ _
  exact e2 _ _ _ _

end Go.Proofs.Ytgopcaemgcnapaa.Clep
