/- Plain mathematics of the sums of texts (CRC-32C): a sum is linear over exclusive or, one step of it is one to one, keeps the parity of the bits, and does not come back to 1 within 32,767 steps. No conditions. -/
import Derived.RowKit
import Derived.WalkKit
import Derived.Below
import Derived.Deep.QuietTactic
import Derived.BigQuiet
import Derived.Test.YtdldpdllhnpdaaaGreatChecked
import Derived.Laws.BitsAllLaws
import Derived.Laws.Bits64
import Derived.Laws.BytesArg
import Derived.WalkLawsBesides
import Derived.WalkSpells
import Derived.Laws.AppendOwnNone
import Derived.Laws.OwnMore
namespace Go.Proofs.YtdldpdllhnpdaaaGreat.Clep
set_option linter.unusedVariables false
set_option maxRecDepth 10000

/-- One bit of a sum. -/
def stp (c : Nat) : Nat := c / 2 ^^^ c % 2 * 2197175160
/-- k bits of a sum. -/
def it : Nat → Nat → Nat
  | 0, c => c
  | k + 1, c => it k (stp c)

theorem xor_div2 (a b : Nat) : (a ^^^ b) / 2 = a / 2 ^^^ b / 2 := by
  have := Nat.shiftRight_xor_distrib (a := a) (b := b) (i := 1)
  simpa [Nat.shiftRight_eq_div_pow] using this
theorem xor_mod2 (a b : Nat) : (a ^^^ b) % 2 = (a % 2 + b % 2) % 2 := by
  have := Nat.xor_mod_two_pow (a := a) (b := b) (n := 1)
  rw [show (2 : Nat) ^ 1 = 2 from rfl] at this
  rw [this]
  have ha : a % 2 = 0 ∨ a % 2 = 1 := by omega
  have hb : b % 2 = 0 ∨ b % 2 = 1 := by omega
  rcases ha with ha | ha <;> rcases hb with hb | hb <;> rw [ha, hb] <;> rfl
theorem bit_mul (x y p : Nat) (hx : x < 2) (hy : y < 2) : (x + y) % 2 * p = x * p ^^^ y * p := by
  have hx : x = 0 ∨ x = 1 := by omega
  have hy : y = 0 ∨ y = 1 := by omega
  rcases hx with rfl | rfl <;> rcases hy with rfl | rfl <;> simp

theorem stp_xor (a b : Nat) : stp (a ^^^ b) = stp a ^^^ stp b := by
  unfold stp
  rw [xor_div2, xor_mod2, bit_mul _ _ _ (by omega) (by omega)]
  simp only [Nat.xor_assoc]
  congr 1
  rw [← Nat.xor_assoc, ← Nat.xor_assoc, Nat.xor_comm (b / 2)]
theorem it_xor : ∀ (k a b : Nat), it k (a ^^^ b) = it k a ^^^ it k b
  | 0, a, b => rfl
  | k + 1, a, b => by rw [it, stp_xor, it_xor k]; rfl
theorem it_add : ∀ (k m a : Nat), it (k + m) a = it m (it k a)
  | 0, m, a => by rw [Nat.zero_add]; rfl
  | k + 1, m, a => by rw [show k + 1 + m = k + m + 1 from by omega, it, it_add k m]; rfl
theorem stp_two (x : Nat) : stp (2 * x) = x := by
  unfold stp; rw [show 2 * x / 2 = x from by omega, show 2 * x % 2 = 0 from by omega]; simp
theorem it_shift : ∀ (k x : Nat), it k (2 ^ k * x) = x
  | 0, x => by simp [it]
  | k + 1, x => by rw [it, show 2 ^ (k + 1) * x = 2 * (2 ^ k * x) from by rw [Nat.pow_succ]; simp only [Nat.mul_comm, Nat.mul_left_comm], stp_two, it_shift k]
theorem it_zero (k : Nat) : it k 0 = 0 := by have := it_shift k 0; simpa using this
theorem it_far (m k x : Nat) (h : k ≤ m) : it m (2 ^ k * x) = it (m - k) x := by
  rw [show m = k + (m - k) from by omega, it_add, it_shift, show k + (m - k) - k = m - k from by omega]

theorem stp_lt (c : Nat) (h : c < 4294967296) : stp c < 4294967296 := by
  unfold stp
  have : c % 2 * 2197175160 < 2 ^ 32 := by have : c % 2 < 2 := by omega
                                           omega
  exact Nat.xor_lt_two_pow (n := 32) (by omega) this
theorem it_lt : ∀ (k c : Nat), c < 4294967296 → it k c < 4294967296
  | 0, c, h => h
  | k + 1, c, h => it_lt k _ (stp_lt c h)
theorem xor_eq_zero {a b : Nat} (h : a ^^^ b = 0) : a = b := by
  have : a ^^^ b ^^^ b = 0 ^^^ b := by rw [h]
  simpa [Nat.xor_assoc] using this
theorem stp_zero (c : Nat) (h : c < 4294967296) (h0 : stp c = 0) : c = 0 := by
  have e := xor_eq_zero h0
  have : c % 2 = 0 ∨ c % 2 = 1 := by omega
  rcases this with h2 | h2 <;> rw [h2] at e <;> omega
theorem it_ne : ∀ (k c : Nat), c < 4294967296 → it k c = 0 → c = 0
  | 0, c, _, h0 => h0
  | k + 1, c, h, h0 => stp_zero c h (it_ne k _ (stp_lt c h) h0)
theorem it_inj (k a b : Nat) (ha : a < 4294967296) (hb : b < 4294967296) (h : it k a = it k b) : a = b := by
  refine xor_eq_zero (it_ne k _ (Nat.xor_lt_two_pow (n := 32) ha hb) ?_)
  rw [it_xor, h, Nat.xor_self]

/-- The parity of the first f bits. -/
def par : Nat → Nat → Nat
  | 0, _ => 0
  | f + 1, n => (n % 2 + par f (n / 2)) % 2
theorem par_xor : ∀ (f a b : Nat), par f (a ^^^ b) = (par f a + par f b) % 2
  | 0, a, b => rfl
  | f + 1, a, b => by
    simp only [par]
    rw [xor_mod2, xor_div2, par_xor f]
    omega
theorem par_zero : ∀ (f : Nat), par f 0 = 0
  | 0 => rfl
  | f + 1 => by simp only [par, Nat.zero_div, par_zero f]
theorem par_poly : ∀ (f : Nat), par (f + 32) 2197175160 = 1
  | f => by
    have : ∀ n, n ≤ 32 → par (f + n) (2197175160 / 2 ^ (32 - n)) = par n (2197175160 / 2 ^ (32 - n)) := by
      intro n
      induction n with
      | zero => intro _; simp [par_zero, show (2197175160 : Nat) / 2 ^ 32 = 0 from by decide, par]
      | succ n ih =>
        intro hn
        have ih := ih (by omega)
        rw [show f + (n + 1) = f + n + 1 from by omega]
        simp only [par]
        rw [Nat.div_div_eq_div_mul, show 2 ^ (32 - (n + 1)) * 2 = 2 ^ (32 - n) from by rw [← Nat.pow_succ]; congr 1; omega, ih]
    have h := this 32 (by omega)
    simp only [Nat.sub_self, Nat.pow_zero, Nat.div_one] at h
    rw [h]; decide
theorem par_stp (f c : Nat) (hf : 32 ≤ f) : par f (stp c) = par (f + 1) c := by
  obtain ⟨g, rfl⟩ : ∃ g, f = g + 32 := ⟨f - 32, by omega⟩
  unfold stp
  rw [par_xor, show par (g + 32 + 1) c = (c % 2 + par (g + 32) (c / 2)) % 2 from rfl]
  have : c % 2 = 0 ∨ c % 2 = 1 := by omega
  rcases this with h2 | h2 <;> rw [h2]
  · rw [Nat.zero_mul, par_zero]; omega
  · rw [Nat.one_mul, par_poly]; omega
theorem par_it : ∀ (k c : Nat), par 32 (it k c) = par (32 + k) c
  | 0, c => rfl
  | k + 1, c => by
    rw [it, par_it k, par_stp _ _ (by omega)]; rfl
theorem par_bit : ∀ (f i : Nat), i < f → par f (2 ^ i) = 1
  | f + 1, 0, _ => by simp [par, par_zero]
  | f + 1, i + 1, h => by
    simp only [par]
    rw [Nat.pow_succ, show 2 ^ i * 2 % 2 = 0 from by omega, show 2 ^ i * 2 / 2 = 2 ^ i from by omega, par_bit f i (by omega)]

/-- From c on, none of n steps comes to 1, and they end at e. -/
def far : Nat → Nat → Nat → Bool
  | 0, c, e => c == e
  | n + 1, c, e => match (c / 2 ^^^ c % 2 * 2197175160) == 1 with
    | true => false
    | false => far n (c / 2 ^^^ c % 2 * 2197175160) e
theorem far_ne : ∀ (n c e : Nat), far n c e = true → (∀ d, 0 < d → d ≤ n → it d c ≠ 1) ∧ it n c = e
  | 0, c, e, h => ⟨fun d h0 h1 => by omega, by simpa [far, it] using h⟩
  | n + 1, c, e, h => by
    rw [far] at h
    split at h
    · cases h
    · next hc =>
      have ih := far_ne n _ e h
      refine ⟨fun d h0 h1 => ?_, ih.2⟩
      cases d with
      | zero => omega
      | succ d =>
        rw [it]
        cases d with
        | zero => simpa [it, stp] using hc
        | succ d => exact ih.1 (d + 1) (by omega) (by omega)
def Upto (n e : Nat) : Prop := (∀ d, 0 < d → d ≤ n → it d 1 ≠ 1) ∧ it n 1 = e
theorem upto_more {n e f : Nat} (h : Upto n e) (hf : far 1024 e f = true) : Upto (n + 1024) f := by
  have h2 := far_ne 1024 e f hf
  refine ⟨fun d h0 h1 => ?_, by rw [it_add, h.2]; exact h2.2⟩
  rcases Nat.lt_or_ge n d with hd | hd
  · rw [show d = n + (d - n) from by omega, it_add, h.2]
    exact h2.1 (d - n) (by omega) (by omega)
  · exact h.1 d h0 hd
theorem upto_0 : Upto 0 1 := ⟨fun d h0 h1 => by omega, rfl⟩
theorem upto_1 : Upto 1024 1771228834 := upto_more upto_0 (by decide +kernel)
theorem upto_2 : Upto 2048 3702618788 := upto_more upto_1 (by decide +kernel)
theorem upto_3 : Upto 3072 11282895 := upto_more upto_2 (by decide +kernel)
theorem upto_4 : Upto 4096 3178201592 := upto_more upto_3 (by decide +kernel)
theorem upto_5 : Upto 5120 1297520444 := upto_more upto_4 (by decide +kernel)
theorem upto_6 : Upto 6144 2375439644 := upto_more upto_5 (by decide +kernel)
theorem upto_7 : Upto 7168 3708241038 := upto_more upto_6 (by decide +kernel)
theorem upto_8 : Upto 8192 4264641112 := upto_more upto_7 (by decide +kernel)
theorem upto_9 : Upto 9216 1672384998 := upto_more upto_8 (by decide +kernel)
theorem upto_10 : Upto 10240 1955735041 := upto_more upto_9 (by decide +kernel)
theorem upto_11 : Upto 11264 1850521136 := upto_more upto_10 (by decide +kernel)
theorem upto_12 : Upto 12288 502925845 := upto_more upto_11 (by decide +kernel)
theorem upto_13 : Upto 13312 368595539 := upto_more upto_12 (by decide +kernel)
theorem upto_14 : Upto 14336 3733624824 := upto_more upto_13 (by decide +kernel)
theorem upto_15 : Upto 15360 3673877116 := upto_more upto_14 (by decide +kernel)
theorem upto_16 : Upto 16384 4149242244 := upto_more upto_15 (by decide +kernel)
theorem upto_17 : Upto 17408 2942908889 := upto_more upto_16 (by decide +kernel)
theorem upto_18 : Upto 18432 1847728860 := upto_more upto_17 (by decide +kernel)
theorem upto_19 : Upto 19456 3927750375 := upto_more upto_18 (by decide +kernel)
theorem upto_20 : Upto 20480 3098967068 := upto_more upto_19 (by decide +kernel)
theorem upto_21 : Upto 21504 3856817104 := upto_more upto_20 (by decide +kernel)
theorem upto_22 : Upto 22528 2415052639 := upto_more upto_21 (by decide +kernel)
theorem upto_23 : Upto 23552 2934850786 := upto_more upto_22 (by decide +kernel)
theorem upto_24 : Upto 24576 3671759371 := upto_more upto_23 (by decide +kernel)
theorem upto_25 : Upto 25600 778524156 := upto_more upto_24 (by decide +kernel)
theorem upto_26 : Upto 26624 2997890085 := upto_more upto_25 (by decide +kernel)
theorem upto_27 : Upto 27648 3938062399 := upto_more upto_26 (by decide +kernel)
theorem upto_28 : Upto 28672 1761173275 := upto_more upto_27 (by decide +kernel)
theorem upto_29 : Upto 29696 703072131 := upto_more upto_28 (by decide +kernel)
theorem upto_30 : Upto 30720 941193457 := upto_more upto_29 (by decide +kernel)
theorem upto_31 : Upto 31744 2863890204 := upto_more upto_30 (by decide +kernel)
theorem upto_32 : Upto 32768 3265640030 := upto_more upto_31 (by decide +kernel)
/-- Within 32,768 steps a sum's one bit does not come back. -/
theorem order (d : Nat) (h0 : 0 < d) (h1 : d ≤ 32768) : it d 1 ≠ 1 := upto_32.1 d h0 h1

end Go.Proofs.YtdldpdllhnpdaaaGreat.Clep

/- A region that draws its order, whose operations read what is kept and whose callees make memory of their own: walked once, in the order of the text, at the class of all worlds that keep what was there. No conditions. -/
namespace Go.Proofs.YtdldpdllhnpdaaaGreat.Clep
open Go.RowKit
set_option linter.unusedVariables false
set_option maxRecDepth 10000

/-- A world that keeps all that was there in w. -/
structure Kp (w : World) where
  W : World
  h : Below w.heap.size w W

theorem wp_region_kept {P : Program} {id : Nat} {Q : Exit → Act → World → Prop} {a : Act} {w : World} {l : List Oper} (hm : P.follows .mixedOrders = true) (hB : Region.lexB .any l.toArray = true)
    (h : wpQuiet P l.toArray (fun w' => ∃ p : Kp w, w' = p.W) (fun a' => ∀ w', (∃ p : Kp w, w' = p.W) → Q .normal a' w') l a) : (Code.region id l.toArray true).wp P Q a w :=
  wp_region_quiet (C := fun w' => ∃ p : Kp w, w' = p.W) hm hB ⟨⟨_, (Below.refl _ _).drew⟩, rfl⟩ (by simpa using h)

/-- A callee that makes memory of its own alone, and answers one value whatever the world. -/
theorem kp_call {P : Program} {f : FuncId} {args : Array Value} {w : World} {p : Kp w} {v : Value}
    (h : Calls P f args p.W fun e w' => e = .returned v ∧ Below p.W.heap.size p.W w') : Calls P f args p.W fun e w'' => e = .returned v ∧ ∃ q : Kp w, w'' = q.W :=
  h.mono fun _ w' ⟨he, hb⟩ => ⟨he, ⟨w', p.h.trans (hb.mono p.h.size)⟩, rfl⟩
theorem kp_same {P : Program} {f : FuncId} {args : Array Value} {w : World} {p : Kp w} {v : Value}
    (h : Calls P f args p.W fun e w' => e = .returned v ∧ w' = p.W) : Calls P f args p.W fun e w'' => e = .returned v ∧ ∃ q : Kp w, w'' = q.W :=
  h.mono fun _ w' ⟨he, hb⟩ => ⟨he, p, hb⟩

end Go.Proofs.YtdldpdllhnpdaaaGreat.Clep

/- What the walks of every layer share: bytes that a slice leads to, rows that a call made, texts of bytes, eight bytes of a number. No conditions. -/
namespace Go.Proofs.YtdldpdllhnpdaaaGreat.Clep
open Go.RowKit
set_option linter.unusedVariables false
set_option maxRecDepth 10000

theorem hide {p : Prop} (h : p) : Hid p := h
theorem ret_eq {v v' : Value} (h : v = v') : Ending.returned v = .returned v' := by rw [h]
theorem drop_get (zs : List Int) (k : Nat) (h : k < zs.length) : zs.drop k = zs.getD k 0 :: zs.drop (k + 1) := by
  rw [List.drop_eq_getElem_cons h]; simp [List.getD, List.getElem?_eq_getElem h]
theorem xor_all (a : Nat) (ha : a < 18446744073709551616) : a ^^^ 18446744073709551615 = 18446744073709551615 - a := by
  have h : (BitVec.ofNat 64 a ^^^ BitVec.allOnes 64).toNat = (~~~ BitVec.ofNat 64 a).toNat := by rw [BitVec.xor_allOnes]
  rw [BitVec.toNat_not, BitVec.toNat_xor, BitVec.toNat_allOnes, BitVec.toNat_ofNat, Nat.mod_eq_of_lt (by omega)] at h
  simpa using h
/-- The slice value (ao, len, cap) leads to the bytes zs in w. -/
def Bs (w : World) (ao : Option Addr) (len cap : Nat) (zs : List Int) : Prop :=
  zs.length = len ∧ (len ≤ cap ∧ (ao = none → len = 0 ∧ cap = 0)) ∧ (∀ i, 0 ≤ zs.getD i 0 ∧ zs.getD i 0 < 256) ∧
    (0 < len → ∃ b off, ao = some ⟨b, off, none⟩ ∧ ∀ i, i < len → w.cell? ⟨b, off + i, none⟩ = some (.int .u8 (zs.getD i 0)))
theorem info5 : (Tryz.prog.info? 5).map (fun i => (i.zero, i.size, i.bytes)) = some (some (.int .u8 0), 1, 1) := by kernel_rfl
def bv (zs : List Int) : List Value := zs.map (Value.int .u8)
/-- The slice value v owns the bytes zs, in a row of the call's own from block B on. -/
def Own (w : World) (B : Nat) (v : Value) (zs : List Int) : Prop := w.ownsRow B 5 1 v zs.length (bv zs)
theorem add_plain (b off j : Nat) : (⟨b, off, none⟩ : Addr).add j = ⟨b, off + j, none⟩ := by unfold Addr.add; split <;> simp_all
theorem bv_len (zs : List Int) : (bv zs).length = zs.length := by simp [bv]
theorem bv_one (zs : List Int) : ∀ u ∈ bv zs, u.oneCell' = true := by
  intro u hu
  simp only [bv, List.mem_map] at hu
  obtain ⟨z, _, rfl⟩ := hu
  rfl
theorem bv_get {zs : List Int} {j : Nat} {u : Value} (h : (bv zs)[j]? = some u) : j < zs.length ∧ u = .int .u8 (zs.getD j 0) := by
  simp only [bv, List.getElem?_map, Option.map_eq_some_iff] at h
  obtain ⟨z, hz, rfl⟩ := h
  have hj : j < zs.length := by
    rcases Nat.lt_or_ge j zs.length with h | h
    · exact h
    · rw [List.getElem?_eq_none h] at hz; cases hz
  exact ⟨hj, by simp [List.getD, hz]⟩
theorem bs_cells {w : World} {ao : Option Addr} {len cap : Nat} {zs : List Int} (h : Bs w ao len cap zs) :
    ∀ ad, ao = some ad → ∀ j u, (bv zs)[j]? = some u → w.cell? (ad.add j) = some u := by
  intro ad had j u hu
  obtain ⟨hj, rfl⟩ := bv_get hu
  obtain ⟨b, off, ho, hc⟩ := h.2.2.2 (by have := h.1; omega)
  rw [had] at ho
  cases ho
  rw [add_plain]
  exact hc j (by have := h.1; omega)
theorem Bs.below {w w' : World} {B : Nat} {ao : Option Addr} {len cap : Nat} {zs : List Int} (h : Bs w ao len cap zs) (hb : Below B w w') (hB : w.heap.size ≤ B) : Bs w' ao len cap zs := by
  refine ⟨h.1, h.2.1, h.2.2.1, fun h0 => ?_⟩
  obtain ⟨b, off, ho, hc⟩ := h.2.2.2 h0
  refine ⟨b, off, ho, fun i hi => ?_⟩
  rw [hb.cell (p := ⟨b, off + i, none⟩) (Nat.lt_of_lt_of_le (World.block_lt_of_cell? w _ (hc i hi)) hB)]
  exact hc i hi
theorem own_bs {w : World} {B : Nat} {v : Value} {zs : List Int} (h : Own w B v zs) (hz : ∀ i, 0 ≤ zs.getD i 0 ∧ zs.getD i 0 < 256) :
    ∃ ao cap, v = .slice ao zs.length cap ∧ cap ≤ maxLen ∧ Bs w ao zs.length cap zs ∧ ∀ g off, ao = some ⟨g, off, none⟩ → B ≤ g ∧ g < w.heap.size ∧ off = 0 := by
  obtain ⟨hl, ⟨rfl, hn⟩ | ⟨g, cap, cur, rfl, hg, hh, hnc, hcm, hcs, hx⟩⟩ := h
  · exact ⟨none, 0, by rw [hn], by simp [maxLen], ⟨rfl, ⟨by omega, fun _ => ⟨hn, rfl⟩⟩, hz, fun h => by omega⟩, fun g off h => by cases h⟩
  · refine ⟨some ⟨g, 0, none⟩, cap, rfl, hcm, ⟨rfl, ⟨hnc, fun h => by cases h⟩, hz, fun _ => ⟨g, 0, rfl, fun i hi => ?_⟩⟩, fun g' off h => ?_⟩
    · have hc := World.ownsRow.cells (w := w) (base := B) (e := 5) (size := 1) (v := .slice (some ⟨g, 0, none⟩) zs.length cap) (n := zs.length) (xs := bv zs)
        ⟨hl, .inr ⟨g, cap, cur, rfl, hg, hh, hnc, hcm, hcs, hx⟩⟩ (g := g) rfl i (.int .u8 (zs.getD i 0)) (by simp [bv, List.getD, List.getElem?_eq_getElem hi])
      rwa [add_plain] at hc
    · cases h
      refine ⟨hg, ?_, rfl⟩
      exact (Array.getElem?_eq_some_iff.1 hh).1
theorem own_snoc {w : World} {B : Nat} {v : Value} {ys : List Int} {z : Int} (h : w.ownsRow B 5 1 v (ys.length + 1) (bv ys ++ [.int .u8 z])) : Own w B v (ys ++ [z]) := by
  unfold Own bv; simpa [bv] using h
theorem below_step {w wr w1 : World} {B : Nat} {o : Obj} {u : Value} {ys : List Int} (hb : Below B w wr) (hs : B ≤ wr.heap.size) (hown : Own wr B u ys) (hg : (wr.alloc o).grownBy w1 u.ownBlock) : Below B w w1 :=
  (hb.alloc hs o).grown hg (by simp; omega) (fun k hk => (World.ownsRow.lt hown k hk).1)
theorem range_of {zs : List Int} (h : ∀ z ∈ zs, 0 ≤ z ∧ z < 256) : ∀ i, 0 ≤ zs.getD i 0 ∧ zs.getD i 0 < 256 := by
  intro i
  rcases Nat.lt_or_ge i zs.length with hi | hi
  · have : zs.getD i 0 = zs[i] := by simp [List.getD, List.getElem?_eq_getElem hi]
    rw [this]; exact h _ (List.getElem_mem hi)
  · have : zs.getD i 0 = 0 := by simp [List.getD, List.getElem?_eq_none hi]
    rw [this]; omega
theorem bs_nil (w : World) : Bs w none 0 0 [] := ⟨rfl, ⟨Nat.le_refl _, fun _ => ⟨rfl, rfl⟩⟩, range_of (by simp), fun h => by omega⟩
theorem conv_bs {w : World} {ao : Option Addr} {len cap : Nat} {zs : List Int} (h : Bs w ao len cap zs) :
    (convert 40 9 (.slice ao len cap)).run Tryz.prog w = .ok (.string (strOfNums zs)) w := by
  cases ao with
  | none =>
    obtain ⟨rfl, rfl⟩ := h.2.1.2 rfl
    have hz : zs = [] := List.eq_nil_of_length_eq_zero h.1
    subst hz
    exact run_convert_bytes_nil w 40 5 Tryz.underlying40 Tryz.underlying5 0 0 9 Tryz.underlying9
  | some a =>
    have hl : (loadCells a len).run Tryz.prog w = .ok (zs.map (Value.int .u8)).toArray w := by
      have := run_loadCells_list (P := Tryz.prog) w a (bv zs) (bs_cells h a rfl)
      rw [bv_len, h.1] at this
      exact this
    rw [run_convert_bytes_string w 40 9 5 _ len cap Tryz.underlying40 Tryz.underlying5 Tryz.underlying9, run_bytesToString w _ len cap zs hl, foldl_push_bytes]
    simp [strOfNums, ByteArray.empty, ByteArray.emptyWithCapacity]
    rfl
/-- The text s holds the bytes zs. -/
def Sz (s : ByteArray) (zs : List Int) : Prop := s.size = zs.length ∧ ∀ k (h : k < s.size), ((s[k]'h).toNat : Int) = zs.getD k 0
theorem sz_of (zs : List Int) (hz : ∀ i, 0 ≤ zs.getD i 0 ∧ zs.getD i 0 < 256) : Sz (strOfNums zs) zs := by
  refine ⟨by simp [strOfNums, ByteArray.size], fun k h => ?_⟩
  have hk : k < zs.length := by simpa [strOfNums, ByteArray.size] using h
  have := hz k
  have e : zs.getD k 0 = zs[k] := by simp [List.getD, List.getElem?_eq_getElem hk]
  rw [e] at this ⊢
  show (((strOfNums zs).data[k]'(by simpa [strOfNums] using hk)).toNat : Int) = zs[k]
  simp [strOfNums]
  omega
theorem u64_bounds {n : Int} (h : (Lit.int .u64 n).wf = true) : 0 ≤ n ∧ n ≤ 18446744073709551615 := by
  simp only [Lit.wf, IntKind.min, IntKind.max, IntKind.signed, IntKind.bits, Bool.and_eq_true] at h
  simp at h
  omega
theorem u8_bounds {n : Int} (h : (Lit.int .u8 n).wf = true) : 0 ≤ n ∧ n < 256 := by
  simp only [Lit.wf, IntKind.min, IntKind.max, IntKind.signed, IntKind.bits, Bool.and_eq_true] at h
  simp at h
  omega
theorem i64_bounds {n : Int} (h : (Lit.int .i64 n).wf = true) : -9223372036854775808 ≤ n ∧ n ≤ 9223372036854775807 := by
  simp only [Lit.wf, IntKind.min, IntKind.max, IntKind.signed, IntKind.bits, Bool.and_eq_true, decide_eq_true_eq, if_true] at h
  omega
theorem bs_of_row {w : World} {a : Option Addr} {len cap : Nat} {zs : List Int}
    (h : (a = none ∧ len = 0 ∧ cap = 0 ∧ zs = []) ∨ ∃ x, a = some x ∧ len ≤ cap ∧ cap ≤ maxLen ∧ zs.length = cap ∧ (∀ i, i < zs.length → w.cell? (x.add i) = some (.int .u8 (zs.getD i 0))) ∧ ∀ n ∈ zs, (Lit.int .u8 n).wf = true) :
    Bs w a len cap (zs.take len) ∧ len ≤ 9223372036854775807 := by
  rcases h with ⟨rfl, rfl, rfl, rfl⟩ | ⟨x, rfl, hl, hm, hz, hcell, hwz⟩
  · exact ⟨bs_nil w, by omega⟩
  · unfold maxLen at hm
    refine ⟨⟨by rw [List.length_take]; omega, ⟨hl, fun h => by cases h⟩, range_of fun z hz => u8_bounds (hwz z (List.mem_of_mem_take hz)), fun h0 => ?_⟩, by omega⟩
    obtain ⟨b, off, spot⟩ := x
    have hc := hcell 0 (by omega)
    have hspot : spot = none := by simpa [Addr.add] using World.cell?_spot hc
    subst hspot
    refine ⟨b, off, rfl, fun i hi => ?_⟩
    have := hcell i (by omega)
    rw [add_plain] at this
    rw [this]
    simp [List.getD, hi]
theorem str_size (zs : List Int) : (strOfNums zs).size = zs.length := by simp [strOfNums, ByteArray.size]
theorem cat_range {a b : List Int} (ha : ∀ z ∈ a, 0 ≤ z ∧ z < 256) (hb : ∀ z ∈ b, 0 ≤ z ∧ z < 256) : ∀ z ∈ a ++ b, 0 ≤ z ∧ z < 256 := by
  intro z hz
  rcases List.mem_append.1 hz with h | h
  · exact ha z h
  · exact hb z h
theorem bs_range {w : World} {ao : Option Addr} {len cap : Nat} {zs : List Int} (h : Bs w ao len cap zs) : ∀ z ∈ zs, 0 ≤ z ∧ z < 256 := by
  intro z hz
  obtain ⟨j, hj, rfl⟩ := List.getElem_of_mem hz
  have := h.2.2.1 j
  simpa [List.getD, List.getElem?_eq_getElem hj] using this
/-- A row of the call's own that isn't empty, with all that is known of it. -/
theorem own_at {w : World} {B : Nat} {v : Value} {zs : List Int} (h : Own w B v zs) (hz : ∀ z ∈ zs, 0 ≤ z ∧ z < 256) (L : Nat) (hL : zs.length = L) (h0 : 0 < L) :
    ∃ g cap, v = .slice (some ⟨g, 0, none⟩) L cap ∧ L ≤ cap ∧ cap ≤ 9223372036854775807 ∧ Bs w (some ⟨g, 0, none⟩) L cap zs := by
  subst hL
  obtain ⟨ao, cap, rfl, hcm, hbs, hwh⟩ := own_bs h (range_of hz)
  obtain ⟨b, off, rfl, _⟩ := hbs.2.2.2 h0
  obtain ⟨_, _, rfl⟩ := hwh b off rfl
  unfold maxLen at hcm
  exact ⟨b, cap, rfl, hbs.2.1.1, hcm, hbs⟩
theorem own_conv {w : World} {B : Nat} {v : Value} {zs : List Int} (h : Own w B v zs) (hz : ∀ z ∈ zs, 0 ≤ z ∧ z < 256) (L : Nat) (hL : zs.length = L) :
    ∃ ao cap, v = .slice ao L cap ∧ Hid (∀ w', Below w.heap.size w w' → (convert 40 9 (.slice ao L cap)).run Tryz.prog w' = .ok (.string (strOfNums zs)) w') := by
  subst hL
  obtain ⟨ao, cap, rfl, _, hbs, _⟩ := own_bs h (range_of hz)
  exact ⟨ao, cap, rfl, hide fun w' hb => conv_bs (hbs.below hb (Nat.le_refl _))⟩
theorem str_cat (a b : List Int) : (strOfNums (a ++ b)).toList = (strOfNums a ++ strOfNums b).toList := by
  rw [ByteArray.toList_eq, ByteArray.toList_eq]
  simp [strOfNums]
theorem Bs.dropAt {w : World} {b off len cap : Nat} {zs : List Int} (h : Bs w (some ⟨b, off, none⟩) len cap zs) (k : Nat) (hk : k ≤ len) : Bs w (some ⟨b, off + k, none⟩) (len - k) (cap - k) (zs.drop k) := by
  refine ⟨by rw [List.length_drop, h.1], ⟨by have := h.2.1.1; omega, fun e => by cases e⟩, range_of fun z hz => ?_, fun h0 => ?_⟩
  · obtain ⟨j, hj, rfl⟩ := List.getElem_of_mem (List.mem_of_mem_drop hz)
    have := h.2.2.1 j
    simpa [List.getD, List.getElem?_eq_getElem hj] using this
  · obtain ⟨b', off', ho, hc⟩ := h.2.2.2 (by omega)
    cases ho
    refine ⟨b, off + k, rfl, fun i hi => ?_⟩
    have := hc (k + i) (by omega)
    rw [← Nat.add_assoc] at this
    rw [this]
    simp [List.getD]
theorem Bs.take {w : World} {ao : Option Addr} {len cap : Nat} {zs : List Int} (h : Bs w ao len cap zs) (k : Nat) (hk : k ≤ len) (hn : ao ≠ none) : Bs w ao k cap (zs.take k) := by
  refine ⟨by rw [List.length_take, h.1]; omega, ⟨by have := h.2.1.1; omega, fun e => absurd e hn⟩, range_of fun z hz => ?_, fun h0 => ?_⟩
  · obtain ⟨j, hj, rfl⟩ := List.getElem_of_mem (List.mem_of_mem_take hz)
    have := h.2.2.1 j
    simpa [List.getD, List.getElem?_eq_getElem hj] using this
  · obtain ⟨b, off, ho, hc⟩ := h.2.2.2 (by omega)
    refine ⟨b, off, ho, fun i hi => ?_⟩
    rw [hc i (by omega)]
    simp [List.getD, hi]
theorem and16 (a : Int) : 0 ≤ bits .and .i64 a 65535 ∧ bits .and .i64 a 65535 ≤ 65535 := by
  have e : bits .and .i64 a 65535 = IntKind.i64.wrap ((BitVec.ofInt 64 a &&& BitVec.ofInt 64 65535).toNat : Int) := rfl
  have hle : (BitVec.ofInt 64 a &&& BitVec.ofInt 64 65535).toNat ≤ 65535 := by
    rw [BitVec.toNat_and]; exact Nat.le_trans Nat.and_le_right (by decide)
  rw [e]
  generalize (BitVec.ofInt 64 a &&& BitVec.ofInt 64 65535).toNat = k at *
  simp [IntKind.wrap, IntKind.bits, IntKind.signed]
  omega
def ub (zs : List Int) : List UInt8 := zs.map fun n => UInt8.ofNat n.toNat
theorem toList_str (zs : List Int) : (strOfNums zs).toList = ub zs := by
  rw [ByteArray.toList_eq, strOfNums_data]
  rfl
theorem ub_inj : ∀ (xs ys : List Int), (∀ z ∈ xs, 0 ≤ z ∧ z < 256) → (∀ z ∈ ys, 0 ≤ z ∧ z < 256) → ub xs = ub ys → xs = ys
  | [], [], _, _, _ => rfl
  | [], _ :: _, _, _, h => by simp [ub] at h
  | _ :: _, [], _, _, h => by simp [ub] at h
  | x :: xs, y :: ys, hx, hy, h => by
    simp only [ub, List.map_cons, List.cons.injEq] at h
    have hx0 := hx x (by simp)
    have hy0 := hy y (by simp)
    have e := congrArg UInt8.toNat h.1
    simp only [UInt8.toNat_ofNat'] at e
    rw [show x = y from by omega, ub_inj xs ys (fun z hz => hx z (by simp [hz])) (fun z hz => hy z (by simp [hz])) h.2]
theorem str_eq (xs ys : List Int) (hx : ∀ z ∈ xs, 0 ≤ z ∧ z < 256) (hy : ∀ z ∈ ys, 0 ≤ z ∧ z < 256) : ((strOfNums xs).toList == (strOfNums ys).toList) = decide (xs = ys) := by
  rw [toList_str, toList_str, Bool.eq_iff_iff]
  simp only [beq_iff_eq, decide_eq_true_eq]
  exact ⟨ub_inj xs ys hx hy, fun h => by rw [h]⟩
def e8b (n : Int) (k : Nat) : Int := n / 2 ^ (8 * (7 - k)) % 256
def e8 (n : Int) (k : Nat) : List Int := (List.range k).map (e8b n)
theorem e8_succ (n : Int) (k : Nat) : e8 n (k + 1) = e8 n k ++ [e8b n k] := by simp [e8, List.range_succ]
theorem e8_len (n : Int) (k : Nat) : (e8 n k).length = k := by simp [e8]
theorem e8_all (n : Int) : e8 n 8 = [n / 72057594037927936 % 256, n / 281474976710656 % 256, n / 1099511627776 % 256, n / 4294967296 % 256, n / 16777216 % 256, n / 65536 % 256, n / 256 % 256, n / 1 % 256] := rfl
theorem e8_range (n : Int) : ∀ z ∈ e8 n 8, 0 ≤ z ∧ z < 256 := by
  rw [e8_all]; intro z hz
  simp only [List.mem_cons, List.not_mem_nil, or_false] at hz
  omega
def val : List Int → Int
  | [] => 0
  | c :: r => c * 256 ^ r.length + val r
theorem val_lt : ∀ (xs : List Int), (∀ z ∈ xs, 0 ≤ z ∧ z < 256) → 0 ≤ val xs ∧ val xs < 256 ^ xs.length
  | [], _ => by simp [val]
  | c :: r, h => by
    have ih := val_lt r fun z hz => h z (by simp [hz])
    have hc := h c (by simp)
    simp only [val, List.length_cons, Int.pow_succ]
    have h1 : 0 ≤ c * 256 ^ r.length := Int.mul_nonneg hc.1 (by omega)
    have h2 : c * 256 ^ r.length ≤ 255 * 256 ^ r.length := Int.mul_le_mul_of_nonneg_right (by omega) (by omega)
    generalize (256 : Int) ^ r.length = p at *
    omega
theorem val_e8 (n : Int) (h0 : 0 ≤ n) (h1 : n ≤ 18446744073709551615) : val (e8 n 8) = n := by
  rw [e8_all]
  simp only [val, List.length_cons, List.length_nil, show (256 : Int) ^ (0 + 1 + 1 + 1 + 1 + 1 + 1 + 1) = 72057594037927936 from by decide, show (256 : Int) ^ (0 + 1 + 1 + 1 + 1 + 1 + 1) = 281474976710656 from by decide,
    show (256 : Int) ^ (0 + 1 + 1 + 1 + 1 + 1) = 1099511627776 from by decide, show (256 : Int) ^ (0 + 1 + 1 + 1 + 1) = 4294967296 from by decide, show (256 : Int) ^ (0 + 1 + 1 + 1) = 16777216 from by decide,
    show (256 : Int) ^ (0 + 1 + 1) = 65536 from by decide, show (256 : Int) ^ (0 + 1) = 256 from by decide, show (256 : Int) ^ 0 = 1 from by decide]
  omega
theorem zeros8 : (madeCells #[Value.int IntKind.u8 0] 8).toList = bv (List.replicate 8 0) := by kernel_rfl
theorem set_zero (n : Int) (k : Nat) (hk : k < 8) : (bv (e8 n k ++ List.replicate (8 - k) 0)).set k (.int .u8 (e8b n k)) = bv (e8 n (k + 1) ++ List.replicate (8 - (k + 1)) 0) := by
  rw [show 8 - k = 8 - (k + 1) + 1 from by omega, List.replicate_succ, e8_succ]
  simp only [bv, List.map_append, List.map_cons, List.map_nil, List.append_assoc]
  rw [List.set_append, if_neg (by simp [e8_len])]
  simp [e8_len]

end Go.Proofs.YtdldpdllhnpdaaaGreat.Clep

/- Plain mathematics of the sums of texts: a sum as one number's steps; what is sealed; bits that are turned are found. No conditions. -/
namespace Go.Proofs.YtdldpdllhnpdaaaGreat.Clep
set_option linter.unusedVariables false
set_option maxRecDepth 10000

def ByteL (zs : List Int) : Prop := ∀ z ∈ zs, 0 ≤ z ∧ z < 256
theorem ByteL.tail {z : Int} {zs : List Int} (h : ByteL (z :: zs)) : ByteL zs := fun y hy => h y (List.mem_cons_of_mem _ hy)
theorem ByteL.head {z : Int} {zs : List Int} (h : ByteL (z :: zs)) : 0 ≤ z ∧ z < 256 := h z (by simp)

theorem xor_join (i x y : Nat) (hy : y < 2 ^ i) : 2 ^ i * x ^^^ y = 2 ^ i * x + y := by
  apply Nat.eq_of_testBit_eq
  intro j
  rw [Nat.testBit_xor, Nat.testBit_two_pow_mul, Nat.testBit_two_pow_mul_add _ hy]
  by_cases h : j < i
  · have h' : ¬ i ≤ j := by omega
    simp [h, h']
  · have : y.testBit j = false := Nat.testBit_lt_two_pow (Nat.lt_of_lt_of_le hy (Nat.pow_le_pow_right (by omega) (by omega)))
    simp [h, this]
    omega

/-- A text's bytes as one number, the first byte lowest. -/
def nn : List Int → Nat
  | [] => 0
  | c :: r => 256 * nn r + c.toNat
/-- A sum's bits over a text. -/
def cr : List Int → Nat → Nat
  | [], c => c
  | z :: r, c => cr r (it 8 (c ^^^ z.toNat))
def ones : Nat := 4294967295
/-- The sum of a text. -/
def crc (zs : List Int) : Nat := cr zs ones ^^^ ones

theorem it8_join (c x : Nat) : it 8 (256 * x ^^^ c) = x ^^^ it 8 c := by
  have := it_shift 8 x
  rw [it_xor, show 256 * x = 2 ^ 8 * x from rfl, this]
theorem cr_nn : ∀ (zs : List Int) (c : Nat), ByteL zs → cr zs c = it (8 * zs.length) (c ^^^ nn zs)
  | [], c, _ => by simp [cr, nn, it]
  | z :: r, c, h => by
    have hz := h.head
    rw [cr, cr_nn r _ h.tail]
    simp only [List.length_cons, nn]
    rw [show 8 * (r.length + 1) = 8 + 8 * r.length from by omega, it_add]
    have e : 256 * nn r + z.toNat = 256 * nn r ^^^ z.toNat := (xor_join 8 (nn r) z.toNat (by omega)).symm
    rw [e, show c ^^^ (256 * nn r ^^^ z.toNat) = 256 * nn r ^^^ (c ^^^ z.toNat) from by ac_rfl, it8_join, Nat.xor_comm (nn r)]
theorem cr_append : ∀ (xs ys : List Int) (c : Nat), cr (xs ++ ys) c = cr ys (cr xs c)
  | [], ys, c => rfl
  | x :: xs, ys, c => by rw [List.cons_append, cr, cr_append xs]; rfl
theorem cr_snoc (xs : List Int) (z : Int) (c : Nat) : cr (xs ++ [z]) c = it 8 (cr xs c ^^^ z.toNat) := by rw [cr_append]; rfl
theorem cr_lt : ∀ (zs : List Int) (c : Nat), ByteL zs → c < 4294967296 → cr zs c < 4294967296
  | [], c, _, h => h
  | z :: r, c, hz, h => by
    have := hz.head
    exact cr_lt r _ hz.tail (it_lt 8 _ (Nat.xor_lt_two_pow (n := 32) h (by omega)))
theorem ones_lt : ones < 4294967296 := by decide
theorem crc_lt (zs : List Int) (h : ByteL zs) : crc zs < 4294967296 := Nat.xor_lt_two_pow (n := 32) (cr_lt zs ones h ones_lt) ones_lt
theorem not_xor (a : Nat) (ha : a < 4294967296) : a ^^^ 4294967295 = 4294967295 - a := by
  have h : (BitVec.ofNat 32 a ^^^ BitVec.allOnes 32).toNat = (~~~ BitVec.ofNat 32 a).toNat := by rw [BitVec.xor_allOnes]
  rw [BitVec.toNat_not, BitVec.toNat_xor, BitVec.toNat_allOnes, BitVec.toNat_ofNat, Nat.mod_eq_of_lt (by omega)] at h
  simpa using h
theorem crc_sub (zs : List Int) (h : ByteL zs) : (crc zs : Int) = 4294967295 - (cr zs 4294967295 : Int) := by
  have hl := cr_lt zs ones h ones_lt
  unfold crc
  rw [show ones = 4294967295 from rfl] at *
  rw [not_xor _ hl]; omega

/-- A step by the table. -/
theorem tab_step (c z : Nat) (hz : z < 256) : c / 256 ^^^ it 8 (c % 256 ^^^ z) = it 8 (c ^^^ z) := by
  have e : c = 256 * (c / 256) ^^^ c % 256 := by
    have := xor_join 8 (c / 256) (c % 256) (by omega)
    rw [show (2 : Nat) ^ 8 = 256 from rfl] at this
    rw [this]; omega
  have h := it8_join (c % 256 ^^^ z) (c / 256)
  rw [← Nat.xor_assoc, ← e] at h
  exact h.symm

theorem nn_lt : ∀ (zs : List Int), ByteL zs → nn zs < 2 ^ (8 * zs.length)
  | [], _ => by simp [nn]
  | z :: r, h => by
    have hz := h.head
    have ih := nn_lt r h.tail
    simp only [List.length_cons, nn]
    rw [show 8 * (r.length + 1) = 8 * r.length + 8 from by omega, Nat.pow_add]
    generalize (2 : Nat) ^ (8 * r.length) = p at *
    omega
theorem nn_append : ∀ (xs ys : List Int), nn (xs ++ ys) = 2 ^ (8 * xs.length) * nn ys + nn xs
  | [], ys => by simp [nn]
  | x :: xs, ys => by
    simp only [List.cons_append, nn, nn_append xs ys, List.length_cons]
    rw [show 8 * (xs.length + 1) = 8 + 8 * xs.length from by omega, Nat.pow_add, show (2 : Nat) ^ 8 = 256 from rfl, Nat.mul_add, Nat.mul_assoc]
    omega
theorem nn_inj : ∀ (xs ys : List Int), xs.length = ys.length → ByteL xs → ByteL ys → nn xs = nn ys → xs = ys
  | [], [], _, _, _, _ => rfl
  | [], _ :: _, h, _, _, _ => by simp at h
  | _ :: _, [], h, _, _, _ => by simp at h
  | x :: xs, y :: ys, hl, hx, hy, h => by
    simp only [nn] at h
    have h1 := hx.head
    have h2 := hy.head
    rw [nn_inj xs ys (by simpa using hl) hx.tail hy.tail (by omega), show x = y from by omega]

/-- Four bytes of a number, the lowest first. -/
def le4 (t : Nat) (k : Nat) : List Int := (List.range k).map fun i => ((t / 2 ^ (8 * i) % 256 : Nat) : Int)
theorem le4_succ (t k : Nat) : le4 t (k + 1) = le4 t k ++ [((t / 2 ^ (8 * k) % 256 : Nat) : Int)] := by simp [le4, List.range_succ]
theorem le4_len (t k : Nat) : (le4 t k).length = k := by simp [le4]
theorem le4_range (t k : Nat) : ByteL (le4 t k) := by
  intro z hz
  simp only [le4, List.mem_map] at hz
  obtain ⟨i, _, rfl⟩ := hz
  omega
theorem nn_le4 (t : Nat) (h : t < 4294967296) : nn (le4 t 4) = t := by
  simp only [le4, List.range, List.range.loop, List.map, nn, Int.toNat_natCast]
  simp only [show (2 : Nat) ^ (8 * 0) = 1 from rfl, show (2 : Nat) ^ (8 * 1) = 256 from rfl, show (2 : Nat) ^ (8 * 2) = 65536 from rfl, show (2 : Nat) ^ (8 * 3) = 16777216 from rfl]
  omega
theorem ByteL.append {a b : List Int} (ha : ByteL a) (hb : ByteL b) : ByteL (a ++ b) := cat_range ha hb

/-- A sum over a text and four bytes more. -/
theorem cr_four (xs ys : List Int) (hy : ByteL ys) (hl : ys.length = 4) (c : Nat) : cr (xs ++ ys) c = it 32 (cr xs c ^^^ nn ys) := by
  rw [cr_append, cr_nn ys _ hy, hl]

/-- What Seal answers. -/
def sl (zs : List Int) : List Int := zs ++ le4 (crc zs) 4
theorem sl_len (zs : List Int) : (sl zs).length = zs.length + 4 := by simp [sl, le4_len]
theorem sl_range (zs : List Int) (h : ByteL zs) : ByteL (sl zs) := h.append (le4_range _ _)

/-- SumRest. -/
theorem crc_sealed (zs : List Int) (h : ByteL zs) : crc (sl zs) = crc [0, 0, 0, 0] := by
  have e : cr (sl zs) ones = it 32 ones := by
    rw [sl, cr_four _ _ (le4_range _ _) (le4_len _ _), nn_le4 _ (crc_lt zs h)]
    unfold crc
    rw [← Nat.xor_assoc, Nat.xor_self, Nat.zero_xor]
  have e2 : cr [0, 0, 0, 0] ones = it 32 ones := by
    have := cr_four [] [0, 0, 0, 0] (by intro z hz; simp at hz; omega) rfl ones
    simpa [cr, nn] using this
  unfold crc
  rw [e, e2]
/-- SumLast. -/
theorem crc_last (zs : List Int) (h : ByteL zs) (x y : Nat) (hx : x < 4294967296) (hy : y < 4294967296) : crc (zs ++ le4 x 4) = crc (zs ++ le4 y 4) ↔ x = y := by
  refine ⟨fun e => ?_, fun e => by rw [e]⟩
  unfold crc at e
  rw [cr_four _ _ (le4_range _ _) (le4_len _ _), cr_four _ _ (le4_range _ _) (le4_len _ _), nn_le4 _ hx, nn_le4 _ hy] at e
  have e1 : it 32 (cr zs ones ^^^ x) = it 32 (cr zs ones ^^^ y) := by
    have := congrArg (· ^^^ ones) e
    simpa [Nat.xor_assoc] using this
  have hc := cr_lt zs ones h ones_lt
  have e2 := it_inj 32 _ _ (Nat.xor_lt_two_pow (n := 32) hc hx) (Nat.xor_lt_two_pow (n := 32) hc hy) e1
  have := congrArg (cr zs ones ^^^ ·) e2
  simpa [← Nat.xor_assoc] using this

/-- A sealed text's sum stands behind it. -/
def good (s : List Int) (n : Nat) : Prop := nn (s.drop n) = crc (s.take n)
theorem ByteL.take {s : List Int} (h : ByteL s) (n : Nat) : ByteL (s.take n) := fun z hz => h z (List.mem_of_mem_take hz)
theorem ByteL.drop {s : List Int} (h : ByteL s) (n : Nat) : ByteL (s.drop n) := fun z hz => h z (List.mem_of_mem_drop hz)
theorem good_iff (s : List Int) (n : Nat) (h : ByteL s) (hl : s.length = n + 4) : good s n ↔ it (8 * (n + 4)) (ones ^^^ nn s) = it 32 ones := by
  have e : cr s ones = it 32 (cr (s.take n) ones ^^^ nn (s.drop n)) := by
    have := cr_four (s.take n) (s.drop n) (h.drop n) (by simp; omega) ones
    rwa [List.take_append_drop] at this
  rw [cr_nn s ones h, hl] at e
  rw [e]
  have hc := cr_lt (s.take n) ones (h.take n) ones_lt
  have hd : nn (s.drop n) < 4294967296 := by
    have := nn_lt _ (h.drop n)
    rw [show (s.drop n).length = 4 from by simp; omega] at this
    exact this
  unfold good crc
  constructor
  · intro g; rw [g, ← Nat.xor_assoc, Nat.xor_self, Nat.zero_xor]
  · intro g
    have := it_inj 32 _ _ (Nat.xor_lt_two_pow (n := 32) hc hd) ones_lt g
    have := congrArg (cr (s.take n) ones ^^^ ·) this
    simpa [← Nat.xor_assoc] using this
theorem good_sl (zs : List Int) (h : ByteL zs) : good (sl zs) zs.length := by
  unfold good sl
  rw [List.drop_left, List.take_left, nn_le4 _ (crc_lt zs h)]
/-- Of a text that is good, one that is turned by e is good just if e's steps come to nothing. -/
theorem good_turn (s s' : List Int) (n e : Nat) (h : ByteL s) (h' : ByteL s') (hl : s.length = n + 4) (hl' : s'.length = n + 4) (g : good s n) (he : nn s' = nn s ^^^ e) :
    good s' n ↔ it (8 * (n + 4)) e = 0 := by
  rw [good_iff s' n h' hl', he, ← Nat.xor_assoc, it_xor, (good_iff s n h hl).1 g]
  constructor
  · intro q
    have := congrArg (it 32 ones ^^^ ·) q
    simpa [← Nat.xor_assoc] using this
  · intro q; rw [q, Nat.xor_zero]

/-- Up to three bits. -/
theorem bit_found (m i : Nat) (hi : i < m) : it m (2 ^ i) ≠ 0 := by
  intro h
  have := par_it m (2 ^ i)
  rw [h, par_zero, par_bit _ _ (by omega)] at this
  cases this
theorem three_found (m i j k : Nat) (hi : i < m) (hj : j < m) (hk : k < m) : it m (2 ^ i ^^^ 2 ^ j ^^^ 2 ^ k) ≠ 0 := by
  intro h
  have := par_it m (2 ^ i ^^^ 2 ^ j ^^^ 2 ^ k)
  rw [h, par_zero, par_xor, par_xor, par_bit _ i (by omega), par_bit _ j (by omega), par_bit _ k (by omega)] at this
  cases this
theorem two_lt (m i j : Nat) (hi : i < j) (hj : j < m) (hm : m ≤ 32768) : it m (2 ^ i ^^^ 2 ^ j) ≠ 0 := by
  intro h
  rw [it_xor] at h
  have h1 := it_far m i 1 (by omega)
  have h2 := it_far m j 1 (by omega)
  rw [Nat.mul_one] at h1 h2
  have h := xor_eq_zero h
  rw [h1, h2, show m - i = j - i + (m - j) from by omega, it_add] at h
  exact order (j - i) (by omega) (by omega) (it_inj (m - j) _ _ (it_lt _ _ (by decide)) (by decide) h)
theorem two_found (m i j : Nat) (hi : i < m) (hj : j < m) (hm : m ≤ 32768) (hne : i ≠ j) : it m (2 ^ i ^^^ 2 ^ j) ≠ 0 := by
  rcases Nat.lt_or_ge i j with h | h
  · exact two_lt m i j h hj hm
  · rw [Nat.xor_comm]; exact two_lt m j i (by omega) hi hm
/-- Bits within 32 in a row. -/
theorem burst_found (m k e : Nat) (hk : k ≤ m) (he : e < 4294967296) (h0 : e ≠ 0) : it m (2 ^ k * e) ≠ 0 := by
  rw [it_far m k e hk]
  exact fun h => h0 (it_ne _ _ he h)

/-- A text with the bit at p turned. -/
def flip (s : List Int) (p : Nat) : List Int := s.set (p / 8) (((s.getD (p / 8) 0).toNat ^^^ 2 ^ (p % 8) : Nat) : Int)
theorem flip_len (s : List Int) (p : Nat) : (flip s p).length = s.length := by simp [flip]
theorem flip_range (s : List Int) (p : Nat) (h : ByteL s) : ByteL (flip s p) := by
  intro z hz
  rcases List.mem_or_eq_of_mem_set hz with hz | rfl
  · exact h z hz
  · have h1 := range_of h (p / 8)
    have h2 : (2 : Nat) ^ (p % 8) < 2 ^ 8 := Nat.pow_lt_pow_right (by omega) (by omega)
    have := Nat.xor_lt_two_pow (n := 8) (x := (s.getD (p / 8) 0).toNat) (y := 2 ^ (p % 8)) (by omega) h2
    omega
theorem nn_flip : ∀ (s : List Int) (p : Nat), ByteL s → p < 8 * s.length → nn (flip s p) = nn s ^^^ 2 ^ p
  | [], p, _, hp => by simp at hp
  | z :: r, p, h, hp => by
    have hz := h.head
    simp only [List.length_cons] at hp
    by_cases h8 : p < 8
    · have e1 : p / 8 = 0 := by omega
      have e2 : p % 8 = p := by omega
      have h2 : (2 : Nat) ^ p < 2 ^ 8 := Nat.pow_lt_pow_right (by omega) (by omega)
      have h3 := Nat.xor_lt_two_pow (n := 8) (x := z.toNat) (y := 2 ^ p) (by omega) h2
      simp only [flip, e1, e2, List.set_cons_zero, nn, List.getD_cons_zero, Int.toNat_natCast]
      have a1 := xor_join 8 (nn r) z.toNat (by omega)
      have a2 := xor_join 8 (nn r) (z.toNat ^^^ 2 ^ p) h3
      rw [show (2 : Nat) ^ 8 = 256 from rfl] at a1 a2
      rw [← a1, ← a2, Nat.xor_assoc]
    · obtain ⟨q, rfl⟩ : ∃ q, p = q + 8 := ⟨p - 8, by omega⟩
      have ih := nn_flip r q h.tail (by omega)
      have e1 : (q + 8) / 8 = q / 8 + 1 := by omega
      have e2 : (q + 8) % 8 = q % 8 := by omega
      have ef : flip (z :: r) (q + 8) = z :: flip r q := by
        simp only [flip, e1, e2, List.set_cons_succ, List.getD_cons_succ]
      rw [ef]
      simp only [nn, ih]
      have a1 := xor_join 8 (nn r) z.toNat (by omega)
      have a2 := xor_join 8 (nn r ^^^ 2 ^ q) z.toNat (by omega)
      rw [show (2 : Nat) ^ 8 = 256 from rfl] at a1 a2
      have a3 : 256 * (nn r ^^^ 2 ^ q) = 256 * nn r ^^^ 2 ^ (q + 8) := by
        rw [Nat.pow_add, show (2 : Nat) ^ 8 = 256 from rfl, Nat.mul_comm (2 ^ q)]
        have := Nat.shiftLeft_xor_distrib (a := nn r) (b := 2 ^ q) (i := 8)
        simpa [Nat.shiftLeft_eq, Nat.mul_comm] using this
      rw [← a1, ← a2, a3, Nat.xor_assoc, Nat.xor_assoc, Nat.xor_comm (2 ^ (q + 8))]

/-- SumParts: sums of texts of one length lie over each other as the texts do. -/
theorem nn_xor3 : ∀ (a b c d : List Int), a.length = d.length → b.length = d.length → c.length = d.length → ByteL a → ByteL b → ByteL c → ByteL d →
    (∀ i, i < d.length → (d.getD i 0).toNat = (a.getD i 0).toNat ^^^ (b.getD i 0).toNat ^^^ (c.getD i 0).toNat) → nn d = nn a ^^^ nn b ^^^ nn c
  | [], [], [], [], _, _, _, _, _, _, _, _ => by simp [nn]
  | x :: a, y :: b, z :: c, u :: d, h1, h2, h3, ha, hb, hc, hd, h => by
    simp only [List.length_cons] at h1 h2 h3 h
    have ih := nn_xor3 a b c d (by omega) (by omega) (by omega) ha.tail hb.tail hc.tail hd.tail (fun i hi => by have := h (i + 1) (by omega); simpa using this)
    have h0 : u.toNat = x.toNat ^^^ y.toNat ^^^ z.toNat := by have := h 0 (by omega); simpa using this
    have hx := ha.head
    have hy := hb.head
    have hz := hc.head
    have hu := hd.head
    have a1 := xor_join 8 (nn a) x.toNat (by omega)
    have a2 := xor_join 8 (nn b) y.toNat (by omega)
    have a3 := xor_join 8 (nn c) z.toNat (by omega)
    have a4 := xor_join 8 (nn a ^^^ nn b ^^^ nn c) u.toNat (by omega)
    have a5 : 2 ^ 8 * (nn a ^^^ nn b ^^^ nn c) = 2 ^ 8 * nn a ^^^ 2 ^ 8 * nn b ^^^ 2 ^ 8 * nn c := by
      have p := Nat.shiftLeft_xor_distrib (a := nn a ^^^ nn b) (b := nn c) (i := 8)
      have q := Nat.shiftLeft_xor_distrib (a := nn a) (b := nn b) (i := 8)
      rw [q] at p
      simpa [Nat.shiftLeft_eq, Nat.mul_comm] using p
    simp only [show (2 : Nat) ^ 8 = 256 from rfl] at a1 a2 a3 a4 a5
    simp only [nn, ih]
    rw [← a1, ← a2, ← a3, ← a4, a5, h0]
    ac_rfl
  | [], [], _ :: _, [], _, _, h, _, _, _, _, _ => by simp at h
  | [], _ :: _, _, [], _, h, _, _, _, _, _, _ => by simp at h
  | _ :: _, _, _, [], h, _, _, _, _, _, _, _ => by simp at h
  | [], _, _, _ :: _, h, _, _, _, _, _, _, _ => by simp at h
  | _ :: _, [], _, _ :: _, _, h, _, _, _, _, _, _ => by simp at h
  | _ :: _, _ :: _, [], _ :: _, _, _, h, _, _, _, _, _ => by simp at h
theorem crc_xor3 (a b c d : List Int) (h1 : a.length = d.length) (h2 : b.length = d.length) (h3 : c.length = d.length) (ha : ByteL a) (hb : ByteL b) (hc : ByteL c) (hd : ByteL d)
    (h : ∀ i, i < d.length → (d.getD i 0).toNat = (a.getD i 0).toNat ^^^ (b.getD i 0).toNat ^^^ (c.getD i 0).toNat) : crc a ^^^ crc b ^^^ crc c ^^^ crc d = 0 := by
  have e := nn_xor3 a b c d h1 h2 h3 ha hb hc hd h
  unfold crc
  rw [cr_nn a _ ha, cr_nn b _ hb, cr_nn c _ hc, cr_nn d _ hd, h1, h2, h3, e]
  have e2 : ∀ m A B C : Nat, it m (ones ^^^ A) ^^^ ones ^^^ (it m (ones ^^^ B) ^^^ ones) ^^^ (it m (ones ^^^ C) ^^^ ones) ^^^ (it m (ones ^^^ (A ^^^ B ^^^ C)) ^^^ ones) = 0 := by
    intro m A B C
    simp only [it_xor]
    have : ∀ o p q r s : Nat, (o ^^^ p) ^^^ s ^^^ ((o ^^^ q) ^^^ s) ^^^ ((o ^^^ r) ^^^ s) ^^^ ((o ^^^ (p ^^^ q ^^^ r)) ^^^ s) = 0 := by
      intro o p q r s
      apply Nat.eq_of_testBit_eq
      intro i
      simp only [Nat.testBit_xor, Nat.zero_testBit]
      cases o.testBit i <;> cases p.testBit i <;> cases q.testBit i <;> cases r.testBit i <;> cases s.testBit i <;> rfl
    exact this _ _ _ _ _
  exact e2 _ _ _ _

end Go.Proofs.YtdldpdllhnpdaaaGreat.Clep

/- An append of any bytes to a row of bytes that the call made, and a row that is written out on the spot: as one rule each. Conditions: lengths of at most 2^46. -/
namespace Go.Proofs.YtdldpdllhnpdaaaGreat.Clep
open Go.RowKit
set_option linter.unusedVariables false
set_option maxRecDepth 10000

theorem wpList_append_bytes {w : World} {ops : Array Oper} {rest : List Oper} {o : Oper} {a : Act} {Q : Exit → Act → World → Prop} (hgd : o.guard = none) (s x : Operand)
    (ho : o.op = .call { callee := .builtin .append, args := #[s, x], argTypes := #[40, 40] })
    (base : Nat) (v : Value) (xs : List Int) (hs : a.eval s = v) (hown : Own w base v xs) (ao : Option Addr) (len cap : Nat) (ys : List Int) (hx : a.eval x = .slice ao len cap) (hb : Bs w ao len cap ys)
    (hlen : xs.length + len ≤ 70368744177664) (hbase : base ≤ w.heap.size)
    (h : ∀ v' w', Own w' base v' (xs ++ ys) → Below base w w' → wpList Tryz.prog ops Q rest (a.put o.dst v') w') : wpList Tryz.prog ops Q (o :: rest) a w := by
  obtain ⟨i0, hi, hz0, hz1, hz2⟩ := info_parts info5
  cases ao with
  | none =>
    obtain ⟨rfl, rfl⟩ := hb.2.1.2 rfl
    have hy : ys = [] := List.eq_nil_of_length_eq_zero hb.1
    subst hy
    exact wpList_append_own_none hgd s x 40 ho base 5 i0 1 Tryz.underlying40 hi v xs.length (bv xs) hs hown hx (h v w (by rwa [List.append_nil]) (Below.refl _ _))
  | some ad =>
    refine wpList_append_own _ hgd s x 40 ho base 5 i0 (.int .u8 0) 1 1 Tryz.underlying40 hi hz0 hz1 hz2 rfl (by decide) v xs.length (bv xs) hs hown ad len cap (bv ys) hx (by rw [bv_len, hb.1]; omega) (bs_cells hb ad rfl) (bv_one ys)
      (by unfold maxLen; omega) (by omega) hbase ?_
    intro v' w' h1 h2 _
    refine h v' w' ?_ ((Below.refl _ _).grown h2 hbase (fun k hk => (World.ownsRow.lt hown k hk).1))
    unfold Own
    rw [List.length_append, hb.1, show bv (xs ++ ys) = bv xs ++ bv ys from by simp [bv]]
    exact h1

/-- A row of bytes that was written out on the spot. -/
theorem own_lit (w : World) (zs : List Int) (B : Nat) (hB : B ≤ w.heap.size) (arr : Array Value) (ha : arr = (bv zs).toArray) (L : Nat) (hL : zs.length = L) (hm : L ≤ 70368744177664) : Own (w.alloc (.cells arr 5)) B (.slice (some ⟨w.heap.size, 0, none⟩) L L) zs := by
  subst ha hL
  have := World.ownsRow_lit (base := B) (e := 5) (size := 1) w (bv zs).toArray zs.length hB (by unfold maxLen; omega) (by simp [bv])
  simpa [Own] using this

theorem own_keep {w w' : World} {B : Nat} {v : Value} {zs : List Int} (h : Own w B v zs) (hb : Below w.heap.size w w') : Own w' B v zs := by
  obtain ⟨hl, ⟨rfl, hn⟩ | ⟨g, cap, cur, rfl, hg, hh, hnc, hcm, hcs, hx⟩⟩ := h
  · exact ⟨hl, .inl ⟨rfl, hn⟩⟩
  · refine ⟨hl, .inr ⟨g, cap, cur, rfl, hg, ?_, hnc, hcm, hcs, hx⟩⟩
    rw [hb.block g (Array.getElem?_eq_some_iff.1 hh).1]
    exact hh
theorem own_base {w : World} {B C : Nat} {v : Value} {zs : List Int} (h : Own w B v zs) (hc : C ≤ B) : Own w C v zs := by
  obtain ⟨hl, ⟨rfl, hn⟩ | ⟨g, cap, cur, rfl, hg, hh, hnc, hcm, hcs, hx⟩⟩ := h
  · exact ⟨hl, .inl ⟨rfl, hn⟩⟩
  · exact ⟨hl, .inr ⟨g, cap, cur, rfl, Nat.le_trans hc hg, hh, hnc, hcm, hcs, hx⟩⟩

end Go.Proofs.YtdldpdllhnpdaaaGreat.Clep

/- Slices of slices of bytes, whether nil or not: where they lie, and what they lead to. No conditions but the bounds. -/
namespace Go.Proofs.YtdldpdllhnpdaaaGreat.Clep
open Go.RowKit
set_option linter.unusedVariables false
set_option maxRecDepth 10000

/-- Where a slice of (a, cap) from l on lies. -/
def cut (a : Option Addr) (cap l : Nat) : Option Addr := if cap = l then a else a.map (·.add l)
theorem cut_eq (a : Option Addr) (l h cap : Nat) : sliced a l h cap 1 = .slice (cut a cap l) (h - l) (cap - l) := by
  unfold sliced cut
  rw [Nat.mul_one]
theorem sizeof_u8 (w : World) : (sizeOf (Tryz.prog.elem 40)).run Tryz.prog w = .ok 1 w := by
  go_simp
theorem under_bytes : Tryz.prog.underlying 40 = some (.slice (Tryz.prog.elem 40)) := by kernel_rfl
theorem cut_h (w : World) (a : Option Addr) (len cap : Nat) (k : IntKind) (h : Int) (h0 : 0 ≤ h) (h2 : h ≤ cap) :
    (Instr.sliceAt 40 (.slice a len cap) none (some (.int k h)) none).run Tryz.prog w = .ok (.slice (cut a cap 0) h.toNat cap) w := by
  rw [run_sliceAt_slice _ _ _ _ _ _ under_bytes, run_slice_h _ _ _ _ _ under_bytes k h h0 h2, sizeof_u8]
  simp only [Result.andThen, cut_eq, Nat.sub_zero]
theorem cut_l (w : World) (a : Option Addr) (len cap : Nat) (k : IntKind) (l : Int) (h0 : 0 ≤ l) (h1 : l ≤ len) :
    (Instr.sliceAt 40 (.slice a len cap) (some (.int k l)) none none).run Tryz.prog w = .ok (.slice (cut a cap l.toNat) (len - l.toNat) (cap - l.toNat)) w := by
  rw [run_sliceAt_slice _ _ _ _ _ _ under_bytes, run_slice_l _ _ _ _ _ under_bytes k l h0 h1, sizeof_u8]
  simp only [Result.andThen, cut_eq]
theorem cut_lh (w : World) (a : Option Addr) (len cap : Nat) (k k' : IntKind) (l h : Int) (h0 : 0 ≤ l) (h1 : l ≤ h) (h2 : h ≤ cap) :
    (Instr.sliceAt 40 (.slice a len cap) (some (.int k l)) (some (.int k' h)) none).run Tryz.prog w = .ok (.slice (cut a cap l.toNat) (h.toNat - l.toNat) (cap - l.toNat)) w := by
  rw [run_sliceAt_slice _ _ _ _ _ _ under_bytes, run_slice_lh _ _ _ _ _ under_bytes k k' l h h0 h1 h2, sizeof_u8]
  simp only [Result.andThen, cut_eq]

theorem Bs.cut {w : World} {a : Option Addr} {len cap : Nat} {zs : List Int} (hb : Bs w a len cap zs) (l h : Nat) (h1 : l ≤ h) (h2 : h ≤ len) : Bs w (cut a cap l) (h - l) (cap - l) ((zs.take h).drop l) := by
  have hl : ((zs.take h).drop l).length = h - l := by rw [List.length_drop, List.length_take, hb.1]; omega
  have hc := hb.2.1.1
  refine ⟨hl, ⟨by omega, fun hn => ?_⟩, ?_, fun h0 => ?_⟩
  · have : a = none := by
      cases a with
      | none => rfl
      | some x => unfold Clep.cut at hn; split at hn <;> cases hn
    have := hb.2.1.2 this
    omega
  · refine range_of fun z hz => ?_
    exact bs_range hb z (List.mem_of_mem_take (List.mem_of_mem_drop hz))
  · obtain ⟨b, off, rfl, hcell⟩ := hb.2.2.2 (by omega)
    refine ⟨b, off + l, ?_, fun i hi => ?_⟩
    · unfold Clep.cut
      rw [if_neg (by omega)]
      simp [add_plain]
    · have := hcell (l + i) (by omega)
      rw [Nat.add_assoc, this]
      simp [List.getD, List.getElem?_drop, show l + i < h by omega]

end Go.Proofs.YtdldpdllhnpdaaaGreat.Clep

/- Numbers that are masked, and places within a row. No conditions but the kinds' own bounds. -/
namespace Go.Proofs.YtdldpdllhnpdaaaGreat.Clep
open Go.RowKit
set_option linter.unusedVariables false
set_option maxRecDepth 10000

theorem and_mask (a : Int) (m : Nat) (hm : m < 9223372036854775808) : 0 ≤ bits .and .i64 a (m : Int) ∧ bits .and .i64 a (m : Int) ≤ m := by
  have e : bits .and .i64 a (m : Int) = IntKind.i64.wrap ((BitVec.ofInt 64 a &&& BitVec.ofInt 64 (m : Int)).toNat : Int) := rfl
  have hle : (BitVec.ofInt 64 a &&& BitVec.ofInt 64 (m : Int)).toNat ≤ m := by
    rw [BitVec.toNat_and]
    refine Nat.le_trans Nat.and_le_right ?_
    rw [BitVec.toNat_ofInt]
    omega
  rw [e]
  generalize (BitVec.ofInt 64 a &&& BitVec.ofInt 64 (m : Int)).toNat = k at *
  simp [IntKind.wrap, IntKind.bits, IntKind.signed]
  omega
/-- A place within a row: what is masked, and what is left of it. -/
theorem place_of (a : Int) (m : Nat) (hm : m < 9223372036854775808) (d : Int) (D : Nat) (hd : d = (D : Int)) (h0 : 0 < D) : ∃ P : Nat, (bits .and .i64 a (m : Int)).tmod d = (P : Int) ∧ P < D := by
  obtain ⟨h1, h2⟩ := and_mask a m hm
  obtain ⟨x, hx⟩ := Int.eq_ofNat_of_zero_le h1
  rw [hx, hd]
  exact ⟨x % D, by rw [Int.ofNat_tmod], Nat.mod_lt _ h0⟩

end Go.Proofs.YtdldpdllhnpdaaaGreat.Clep
