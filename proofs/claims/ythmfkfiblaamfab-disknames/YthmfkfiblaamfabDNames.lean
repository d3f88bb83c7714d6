/- Sixteen names in order, and what a Crash leaves of them. No conditions. -/
import Derived.Test.YthmfkfiblaamfabDList
import Derived.Test.YthmfkfiblaamfabDRemove
namespace Go.Proofs.Ythmfkfiblaamfab.Clep
open Go.RowKit Go.Maps Go.Sort Go.Shelf
set_option linter.unusedVariables false
set_option linter.unusedSimpArgs false

def dgI (i : Nat) : ByteArray := ⟨#[UInt8.ofNat (48 + (i + 10) / 10), UInt8.ofNat (48 + (i + 10) % 10)]⟩
def nmI (i : Nat) : ByteArray := ⟨#[110, UInt8.ofNat (48 + (i + 10) / 10), UInt8.ofNat (48 + (i + 10) % 10)]⟩
def entI (j : Nat) : Lit × DataW Unit := (key (nmI j), i64L ((j + 1 : Nat) : Int))
def cI (j : Nat) : Ch := ⟨0, nmI j, ⟨#[]⟩, j + 1⟩
def nX (i : Nat) : St := ⟨1000, i, 0, 0, false, i, (List.range i).map fun j => ⟨j + 1, [], 0⟩, .map ((List.range i).map entI), .map [], (List.range i).map cI⟩
theorem below16 {i : Nat} (h : i < 16) : i = 0 ∨ i = 1 ∨ i = 2 ∨ i = 3 ∨ i = 4 ∨ i = 5 ∨ i = 6 ∨ i = 7 ∨ i = 8 ∨ i = 9 ∨ i = 10 ∨ i = 11 ∨ i = 12 ∨ i = 13 ∨ i = 14 ∨ i = 15 := by omega
theorem names1 (i : Nat) (h : i < 16) : createS (nX i) (nmI i) = (0, nX (i + 1)) := by
  rcases below16 h with rfl | rfl | rfl | rfl | rfl | rfl | rfl | rfl | rfl | rfl | rfl | rfl | rfl | rfl | rfl | rfl <;> kernel_rfl
theorem names_apart : ∀ n < 16, ∀ j < n, (key (nmI j)).sameKey (key (nmI n)) = false ∧ (key (nmI n)).before (key (nmI j)) = false ∧ leB (nmI j).data.toList (nmI n).data.toList = true := by decide
theorem insert_end {x : Lit × DataW Unit} : ∀ l : List (Lit × DataW Unit), (∀ p ∈ l, x.1.before p.1 = false) → DataW.insert x l = l ++ [x]
  | [], _ => rfl
  | y :: r, h => by
    simp only [DataW.insert]
    rw [if_neg (by rw [h y List.mem_cons_self]; simp), insert_end r (fun p hp => h p (List.mem_cons_of_mem _ hp))]
    rfl
def keepB (ks : List Int) (j : Nat) : Bool := evenK (ks.drop j)
def keptI (ks : List Int) (n : Nat) : List Nat := (List.range n).filter (keepB ks)
theorem kept_succ (ks : List Int) (n : Nat) : keptI ks (n + 1) = keptI ks n ++ (if keepB ks n then [n] else []) := by
  unfold keptI
  rw [List.range_succ, List.filter_append]
  congr 1
  cases h : keepB ks n <;> simp [h]
theorem kept_lt (ks : List Int) (n : Nat) : ∀ j ∈ keptI ks n, j < n := fun j hj => List.mem_range.1 (List.mem_filter.1 hj).1
theorem doAll_names (ks : List Int) : ∀ n, n ≤ 16 → doAll ((List.range n).map cI) (.map []) ks = .map ((keptI ks n).map entI)
  | 0, _ => rfl
  | n + 1, h => by
    rw [List.range_succ, List.map_append, List.map_singleton, doAll_snoc, doAll_names ks n (by omega), kept_succ]
    have hl : ((List.range n).map cI).length = n := by simp
    rw [hl]
    show (if keepB ks n then _ else _) = _
    cases hk : keepB ks n with
    | false => simp
    | true =>
      rw [if_pos rfl, if_pos rfl, List.map_append, List.map_singleton]
      show DataW.map (DataW.insert (entI n) (((keptI ks n).map entI).filter fun p => !p.1.sameKey (key (nmI n)))) = _
      have hf : (((keptI ks n).map entI).filter fun p => !p.1.sameKey (key (nmI n))) = (keptI ks n).map entI := by
        rw [List.filter_eq_self]
        intro p hp
        obtain ⟨j, hj, rfl⟩ := List.mem_map.1 hp
        have := (names_apart n (by omega) j (kept_lt ks n j hj)).1
        show (!(key (nmI j)).sameKey (key (nmI n))) = true
        rw [this]; rfl
      rw [hf, insert_end]
      intro p hp
      obtain ⟨j, hj, rfl⟩ := List.mem_map.1 hp
      exact (names_apart n (by omega) j (kept_lt ks n j hj)).2.1
theorem keep_whole (f : Fl) (ks : List Int) (h : f.bs.length = f.lasts) : crashF f ks = f ∧ restK f ks = ks := by
  have h1 : keepN f ks = 0 := by unfold keepN; rw [if_pos h]
  refine ⟨?_, by unfold restK; rw [if_pos h]⟩
  unfold crashF
  rw [h1, Nat.add_zero, ← h, List.take_length]
  cases f
  simp only at h ⊢
  rw [h]
theorem crash_whole : ∀ (fs : List Fl) (ks : List Int), (∀ f ∈ fs, f.bs.length = f.lasts) → crashAll fs ks = (fs, ks)
  | [], ks, _ => rfl
  | f :: r, ks, h => by
    have h1 := keep_whole f ks (h f List.mem_cons_self)
    simp only [crashAll]
    rw [h1.1, h1.2, crash_whole r ks (fun g hg => h g (List.mem_cons_of_mem _ hg))]
def wantL (ks : List Int) (n : Nat) : List (List UInt8) := (keptI ks n).map fun j => (nmI j).data.toList
theorem names2 (n : Nat) (ks : List Int) (h : n ≤ 16) : namesL (crashS (nX n) ks) = wantL ks n ∧ (crashS (nX n) ks).dead = false ∧ (crashS (nX n) ks).calls = n := by
  refine ⟨?_, rfl, rfl⟩
  have hc : crashAll (nX n).files ks = ((nX n).files, ks) := crash_whole _ ks (by
    intro f hf
    obtain ⟨j, _, rfl⟩ := List.mem_map.1 hf
    rfl)
  have e : (crashS (nX n) ks).names = .map ((keptI ks n).map entI) := by
    show doAll (nX n).since (nX n).lasting (crashAll (nX n).files ks).2 = _
    rw [hc]
    exact doAll_names ks n h
  unfold namesL
  rw [e]
  have hk : strKeys (.map ((keptI ks n).map entI) : DataW Unit) = wantL ks n := by
    show List.map (fun p => strOf p.1) ((keptI ks n).map entI) = _
    rw [List.map_map]
    rfl
  rw [hk]
  refine List.mergeSort_of_pairwise ?_
  unfold wantL
  rw [List.pairwise_map]
  unfold keptI
  refine (List.pairwise_lt_range.filter _).imp_of_mem ?_
  intro a b ha hb hab
  exact (names_apart b (by have := List.mem_range.1 (List.mem_filter.1 hb).1; omega) a hab).2.2
theorem names_len : ∀ j < 16, (nmI j).data.toList.length ≤ 3 := by decide
theorem and_one (z : Int) : bits .and .i64 z 1 = z % 2 := by
  have e : bits .and .i64 z 1 = IntKind.i64.wrap ((BitVec.ofInt 64 z &&& BitVec.ofInt 64 1).toNat : Int) := rfl
  have h1 : (BitVec.ofInt 64 z &&& BitVec.ofInt 64 1).toNat = (z % 18446744073709551616).toNat % 2 := by
    rw [BitVec.toNat_and, show (BitVec.ofInt 64 1).toNat = 1 from rfl, Nat.and_one_is_mod, BitVec.toNat_ofInt]
    rfl
  rw [e, h1]
  simp [IntKind.wrap, IntKind.bits, IntKind.signed]
  omega
theorem even_iff (z : Int) : (z.tmod 2 == 0) = decide (z % 2 = 0) := by
  rw [Bool.eq_iff_iff]
  simp only [beq_iff_eq, decide_eq_true_eq]
  constructor
  · intro h; have := Int.dvd_of_tmod_eq_zero h; omega
  · intro h; exact Int.tmod_eq_zero_of_dvd (by omega)
theorem names_bad (S : St) (s a : ByteArray) (zs : List Int) (h : okName s = false) : createS S s = (10, S) ∧ appendS S s zs = (10, S) ∧ syncS S s = (10, S) ∧ rmvS S s = (10, S) ∧ renS S s a = (10, S) ∧ renS S a s = (10, S) ∧ (readS S s) = (10, []) := by
  refine ⟨?_, ?_, ?_, ?_, ?_, ?_, ?_⟩
  · unfold createS; rw [if_pos h]
  · unfold appendS; rw [if_pos h]
  · unfold syncS; rw [if_pos h]
  · unfold rmvS; rw [if_pos h]
  · unfold renS; rw [if_pos (.inl h)]
  · unfold renS; rw [if_pos (.inr h)]
  · unfold readS; rw [if_pos h]

theorem digits_any (i : Nat) (h : i < 16) (w : World) : Calls Try.prog 20 #[.int .i64 i] w fun e w' => e = .returned (.string (dgI i)) ∧ Below w.heap.size w w' := by
  rcases below16 h with rfl | rfl | rfl | rfl | rfl | rfl | rfl | rfl | rfl | rfl | rfl | rfl | rfl | rfl | rfl | rfl
  all_goals
    go_enter Try.func20, Try.ntmps20
    go_wp2
    go_quiet (fail)
    go_wp2
    go_ret
    exact ⟨rfl, drewN_below w _⟩
theorem okName_len (s : ByteArray) (hp : ∀ i (hi : i < s.size), i < s.size → okB (s[i]'hi).toNat = true) : okName s = (decide (1 ≤ s.size) && decide (s.size ≤ 16)) := by
  by_cases h : 1 ≤ s.size ∧ s.size ≤ 16
  · rw [okName_good s h hp, decide_eq_true h.1, decide_eq_true h.2]; rfl
  · unfold okName
    have : (decide (1 ≤ s.size) && decide (s.size ≤ 16)) = false := by
      rw [Bool.and_eq_false_iff, decide_eq_false_iff_not, decide_eq_false_iff_not]; omega
    rw [this]; rfl
theorem refok_any (s : ByteArray) (w : World) (hs : s.size ≤ 100) :
    Calls Try.prog 21 #[.string s] w fun e w' => e = .returned (.bool (okName s)) ∧ w' = w := by
  go_enter Try.func21, Try.ntmps21
  go_wp2
  go_loop [3] (fun i => ∃ k : Nat, k ≤ s.size ∧ i = .int .i64 k ∧ Hid (∀ i (hi : i < s.size), i < k → okB (s[i]'hi).toNat = true)) (fun i => s.size - (intOf i).toNat)
  case atStart => exact ⟨0, by omega, rfl, hide (fun i hi h => by omega)⟩
  case round =>
    obtain ⟨k, hk, rfl, hT⟩ := hrel
    by_cases hlk : k < s.size
    · obtain ⟨z, hck⟩ : ∃ z : Nat, (s[k]'hlk).toNat = z := ⟨_, rfl⟩
      have hz : z < 256 := by rw [← hck]; exact UInt8.toNat_lt _
      have HG := hide (okName_upto s k hlk hT.out)
      have HB := hide (okName_bad s k hlk)
      rw [hck] at HG HB
      clear hT
      have hok := okB_iff z
      go_wp2
      all_goals first
        | (refine ⟨⟨k + 1, by omega, by go_num, hide (HG.out (hok.2 (by first | omega | (simp only [Bool.not_eq_false', decide_eq_true_eq, beq_iff_eq, bne_eq_false_iff_eq] at *; omega))))⟩, ?_⟩; simp [intOf]; omega)
        | (go_ret; exact ⟨by rw [HB.out (by rw [← Bool.not_eq_true, hok]; first | omega | (simp only [Bool.not_eq_true', beq_eq_false_iff_ne, ne_eq] at *; omega))]; rfl, rfl⟩)
    · have h8 : k = s.size := by omega
      subst h8
      have HO := hide (okName_len s hT.out)
      by_cases h1 : 1 ≤ s.size
      · have h1' : (1 : Int) ≤ (s.size : Int) := by omega
        by_cases h2 : s.size ≤ 16
        · have h2' : (s.size : Int) ≤ 16 := by omega
          go_wp2
          go_ret
          exact ⟨by rw [HO.out, decide_eq_true h1, decide_eq_true h2]; rfl, rfl⟩
        · have h2' : ¬ ((s.size : Int) ≤ 16) := by omega
          go_wp2
          go_ret
          exact ⟨by rw [HO.out, decide_eq_true h1, decide_eq_false h2]; rfl, rfl⟩
      · have h1' : ¬ ((1 : Int) ≤ (s.size : Int)) := by omega
        go_wp2
        go_ret
        exact ⟨by rw [HO.out, decide_eq_false h1]; rfl, rfl⟩

end Go.Proofs.Ythmfkfiblaamfab.Clep
