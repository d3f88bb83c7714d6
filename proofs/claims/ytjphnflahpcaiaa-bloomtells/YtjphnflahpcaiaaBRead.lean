/- What head and Read do when called, and which bytes are a Filter. No conditions but the kinds' bounds. -/
import Derived.Test.YtjphnflahpcaiaaBBytes
import Derived.Test.YtjphnflahpcaiaaCut
namespace Go.Proofs.Ytjphnflahpcaiaa.Clep
open Go.RowKit
set_option linter.unusedVariables false

/-- All bits, out of their bytes. -/
def rv : List Int → Nat
  | [] => 0
  | z :: r => z.toNat + 256 * rv r
theorem rv_lt : ∀ (zs : List Int), (∀ z ∈ zs, 0 ≤ z ∧ z < 256) → rv zs < 2 ^ (8 * zs.length)
  | [], _ => by simp [rv]
  | z :: r, h => by
    have ih := rv_lt r fun y hy => h y (by simp [hy])
    have hz := h z (by simp)
    simp only [rv, List.length_cons]
    rw [show 8 * (r.length + 1) = 8 * r.length + 8 by omega, Nat.pow_add]
    generalize 2 ^ (8 * r.length) = q at *
    omega
theorem rv_snoc : ∀ (zs : List Int) (z : Int), rv (zs ++ [z]) = rv zs + z.toNat * 2 ^ (8 * zs.length)
  | [], z => by simp [rv]
  | y :: r, z => by
    simp only [List.cons_append, rv, rv_snoc r z, List.length_cons]
    rw [show 8 * (r.length + 1) = 8 + 8 * r.length by omega, Nat.pow_add, Nat.mul_add, Nat.mul_left_comm, Nat.add_assoc]
theorem rv_or (zs : List Int) (z : Int) (h : ∀ y ∈ zs, 0 ≤ y ∧ y < 256) : rv (zs ++ [z]) = rv zs ||| z.toNat * 2 ^ (8 * zs.length) := by
  have h1 := rv_lt zs h
  have h2 := Nat.two_pow_add_eq_or_of_lt h1 z.toNat
  rw [rv_snoc, Nat.mul_comm, Nat.or_comm, ← h2]
  omega
theorem by8_rv : ∀ (zs : List Int) (i : Nat), (∀ z ∈ zs, 0 ≤ z ∧ z < 256) → i < zs.length → (by8 (rv zs) i : Int) = zs.getD i 0
  | [], i, _, hi => by simp at hi
  | z :: r, 0, h, _ => by
    have hz := h z (by simp)
    simp only [by8, rv, Nat.mul_zero, Nat.pow_zero, Nat.div_one, List.getD_cons_zero]
    omega
  | z :: r, i + 1, h, hi => by
    have hz := h z (by simp)
    have ih := by8_rv r i (fun y hy => h y (by simp [hy])) (by simpa using hi)
    simp only [List.getD_cons_succ]
    rw [← ih]
    simp only [by8, rv]
    rw [show 8 * (i + 1) = 8 + 8 * i by omega, Nat.pow_add, ← Nat.div_div_eq_div_mul, show (z.toNat + 256 * rv r) / 2 ^ 8 = rv r by omega]
theorem bys_rv (zs : List Int) (h : ∀ z ∈ zs, 0 ≤ z ∧ z < 256) : bys (rv zs) zs.length = zs := by
  apply List.ext_getElem (by rw [bys_len])
  intro i h1 h2
  have := by8_rv zs i h h2
  simp only [bys, List.getElem_map, List.getElem_range]
  rw [this]
  simp [List.getD, List.getElem?_eq_getElem h2]
/-- The two numbers that bytes begin with. -/
def Hd (zs : List Int) (k n : Int) (a b : Nat) : Prop := tk zs 0 0 = (k, (a : Int), 0) ∧ tk (zs.drop a) 0 0 = (n, (b : Int), 0)
def HdBad (zs : List Int) (x : Int) : Prop := x ≠ 0 ∧ ((tk zs 0 0).2.2 = x ∨ ∃ (k : Int) (a : Nat), tk zs 0 0 = (k, (a : Int), 0) ∧ (tk (zs.drop a) 0 0).2.2 = x)
theorem tk_form (zs : List Int) (hz : ∀ z ∈ zs, 0 ≤ z ∧ z < 256) : ∃ (k : Int) (a : Nat) (x : Int), tk zs 0 0 = (k, (a : Int), x) ∧ 0 ≤ k ∧ k ≤ 18446744073709551615 ∧ a ≤ 10 ∧ a ≤ zs.length := by
  obtain ⟨h1, h2, h3⟩ := tk_size zs 0 0 (by omega)
  obtain ⟨h4, h5, _⟩ := tk_facts zs 0 0 (by omega) hz (by omega) (by decide)
  obtain ⟨a, ha⟩ := Int.eq_ofNat_of_zero_le h1
  refine ⟨_, a, (tk zs 0 0).2.2, ?_, h4, h5, by omega, by omega⟩
  rw [← ha]
theorem hd_cases (zs : List Int) (hz : ∀ z ∈ zs, 0 ≤ z ∧ z < 256) : (∃ x, HdBad zs x) ∨ ∃ k n a b, Hd zs k n a b ∧ 0 ≤ k ∧ k ≤ 18446744073709551615 ∧ 0 ≤ n ∧ n ≤ 18446744073709551615 ∧ a + b ≤ zs.length ∧ a + b ≤ 20 := by
  obtain ⟨k, a, x, h1, h2, h3, h4, h5⟩ := tk_form zs hz
  by_cases hx : x = 0
  · subst hx
    obtain ⟨n, b, y, g1, g2, g3, g4, g5⟩ := tk_form (zs.drop a) fun z q => hz z (List.mem_of_mem_drop q)
    rw [List.length_drop] at g5
    by_cases hy : y = 0
    · subst hy
      exact .inr ⟨k, n, a, b, ⟨h1, g1⟩, h2, h3, g2, g3, by omega, by omega⟩
    · exact .inl ⟨y, hy, .inr ⟨k, a, h1, by rw [g1]⟩⟩
  · exact .inl ⟨x, hx, .inl (by rw [h1])⟩

theorem results_tmp4 {fn : Func} {t u v x : Tmp} (h : fn.results = #[.tmp t, .tmp u, .tmp v, .tmp x]) (tmps : Array Value) (P : Program) (w : World) :
    (results fn tmps).run P w = .ok (.tuple #[tmps.getD t undef, tmps.getD u undef, tmps.getD v undef, tmps.getD x undef]) w := by
  simp [results, h]
set_option maxRecDepth 100000 in
theorem head_bad (w : World) (ao : Option Addr) (len cap : Nat) (zs : List Int) (hm : len ≤ 9223372036854775807) (h : Bs w ao len cap zs) (x : Int) (hb : HdBad zs x) :
    Calls Try.prog 28 #[.slice ao len cap] w fun e w' => e = .returned (.tuple #[.int .u64 0, .int .u64 0, .slice none 0 0, .int .i64 x]) ∧ w' = w := by
  have C1 := hide (take_any ao len cap zs w hm h)
  obtain ⟨hx, hb⟩ := hb
  rcases hb with hb | ⟨k, a, h1, h2⟩
  · obtain ⟨k, a, x', h1, h2, h3, h4, h5⟩ := tk_form zs (bs_range h)
    rw [h1] at hb C1
    simp only at hb
    subst hb
    unfold tup at C1
    clear h h1
    go_enter Try.func28, Try.ntmps28
    go_wp2_with fail
    refine C1.out.mono ?_
    rintro e w1 ⟨rfl, rfl⟩
    go_wp2
    (try simp only [Exit.inBlock, Exit.then])
    refine bodyPost_ret (results_tmp4 rfl _ _ _) rfl ?_
    exact ⟨rfl, rfl⟩
  · obtain ⟨k', a', x', h1', _, _, h4, h5⟩ := tk_form zs (bs_range h)
    rw [h1] at h1' C1
    simp only [Prod.mk.injEq] at h1'
    have ha : a ≤ len := by have := h.1; omega
    have hc := cut_l w ao len cap .i64 (a : Int) (by omega) (by omega)
    rw [Int.toNat_natCast] at hc
    have hbs := h.cut a len ha (Nat.le_refl _)
    rw [show zs.take len = zs by rw [← h.1, List.take_length]] at hbs
    have C2 := hide (take_any _ _ _ _ w (by omega) hbs)
    obtain ⟨n, b, y, g1, _⟩ := tk_form (zs.drop a) fun z q => bs_range h z (List.mem_of_mem_drop q)
    rw [g1] at h2 C2
    simp only at h2
    subst h2
    unfold tup at C1 C2
    clear h h1 h1' g1 hbs
    go_enter Try.func28, Try.ntmps28
    go_wp2_with fail
    refine C1.out.mono ?_
    rintro e w1 ⟨rfl, rfl⟩
    go_wp2_with fail
    refine C2.out.mono ?_
    rintro e w2 ⟨rfl, rfl⟩
    go_wp2
    (try simp only [Exit.inBlock, Exit.then])
    refine bodyPost_ret (results_tmp4 rfl _ _ _) rfl ?_
    exact ⟨rfl, rfl⟩
set_option maxRecDepth 100000 in
theorem head_ok (w : World) (ao : Option Addr) (len cap : Nat) (zs : List Int) (hm : len ≤ 9223372036854775807) (h : Bs w ao len cap zs) (k n : Int) (a b : Nat) (hd : Hd zs k n a b) (hab : a + b ≤ len) (hab2 : a + b ≤ 20) :
    Calls Try.prog 28 #[.slice ao len cap] w fun e w' => e = .returned (.tuple #[.int .u64 k, .int .u64 n, .slice (cut ao cap (a + b)) (len - (a + b)) (cap - (a + b)), .int .i64 0]) ∧ Below w.heap.size w w' := by
  have C1 := hide (take_any ao len cap zs w hm h)
  obtain ⟨h1, h2⟩ := hd
  rw [h1] at C1
  have hc := cut_l w ao len cap .i64 (a : Int) (by omega) (by omega)
  rw [Int.toNat_natCast] at hc
  have hc2 : ∀ W : World, (Instr.sliceAt 27 (.slice ao len cap) (some (.int .i64 ((a : Int) + (b : Int)))) none none).run Try.prog W = .ok (.slice (cut ao cap (a + b)) (len - (a + b)) (cap - (a + b))) W := fun W => by
    have := cut_l W ao len cap .i64 ((a : Int) + (b : Int)) (by omega) (by omega)
    rwa [show ((a : Int) + (b : Int)).toNat = a + b by omega] at this
  have hbs := h.cut a len (by omega) (Nat.le_refl _)
  rw [show zs.take len = zs by rw [← h.1, List.take_length]] at hbs
  have C2 := hide (take_any _ _ _ _ w (by omega) hbs)
  rw [h2] at C2
  unfold tup at C1 C2
  clear h h1 h2 hbs
  go_enter Try.func28, Try.ntmps28
  go_wp2_with fail
  refine C1.out.mono ?_
  rintro e w1 ⟨rfl, rfl⟩
  go_wp2_with fail
  refine C2.out.mono ?_
  rintro e w2 ⟨rfl, rfl⟩
  clear C1 C2 hc
  go_wp2
  go_region
  go_wp2
  (try simp only [Exit.inBlock, Exit.then])
  refine bodyPost_ret (results_tmp4 rfl _ _ _) rfl ?_
  exact ⟨rfl, (Below.refl _ _).drew⟩

end Go.Proofs.Ytjphnflahpcaiaa.Clep
