/- What the small calls of a Disk do (walks over the translated program): last, isName, modulo, the atomic count, find, next. No conditions but the bounds that each names. -/
import Derived.Test.YthmfkfiblaamfabDSt
namespace Go.Proofs.Ythmfkfiblaamfab.Clep
open Go.RowKit Go.Maps
set_option linter.unusedVariables false

theorem load_at (R o : Nat) (p : Int) (w : World) (h0 : w.cell? ⟨R, o, none⟩ = some (.int .i64 p)) :
    Calls Try.prog 30 #[.pointer (some ⟨R, o, none⟩)] w fun e w' => e = .returned (.int .i64 p) ∧ w' = w := by
  have hld := run_call_load (P := Try.prog) Try.func43 (by kernel_rfl) (by kernel_rfl) (by kernel_rfl) .i64 (by kernel_rfl) h0
  go_enter Try.func30, Try.ntmps30
  go_wp2
  go_ret
  exact ⟨rfl, rfl⟩
theorem add_at (R o : Nat) (p : Nat) (w : World) (h0 : w.cell? ⟨R, o, none⟩ = some (.int .i64 p)) (hf : w.frozen? ⟨R, o, none⟩ = false) (h2 : p ≤ 4611686018427387904) :
    Calls Try.prog 40 #[.pointer (some ⟨R, o, none⟩), .int .i64 1] w fun e w' => e = .returned (.int .i64 (p + 1)) ∧ w' = w.setCell ⟨R, o, none⟩ (.int .i64 (p + 1)) := by
  have hadd := run_call_add (P := Try.prog) Try.func52 (by kernel_rfl) (by kernel_rfl) (by kernel_rfl) .i64 (by kernel_rfl) (y := 1) (s := p + 1) h0 hf (by
    simp [go_sem, IntKind.wrap, IntKind.bits, IntKind.signed]
    omega)
  go_enter Try.func40, Try.ntmps40
  go_wp2
  go_ret
  exact ⟨rfl, rfl⟩
theorem last_any (R o n : Nat) (w : World) (h0 : w.cell? ⟨R, o, none⟩ = some (.int .i64 n)) (hf : w.frozen? ⟨R, o, none⟩ = false) (hn : n ≤ 9223372036854775807) :
    Calls Try.prog 41 #[.pointer (some ⟨R, o, none⟩)] w fun e w' => e = .returned (.bool (decide (n = 1))) ∧ (w' = w ∧ n = 0 ∨ w' = w.setCell ⟨R, o, none⟩ (.int .i64 ((n - 1 : Nat) : Int)) ∧ 0 < n) := by
  by_cases h : n = 0
  · subst h
    go_enter Try.func41, Try.ntmps41
    go_wp2
    go_ret
    exact ⟨by simp, .inl ⟨rfl, trivial⟩⟩
  · obtain ⟨m, rfl⟩ : ∃ m, n = m + 1 := ⟨n - 1, by omega⟩
    go_enter Try.func41, Try.ntmps41
    go_wp2
    go_ret
    refine ⟨ret_eq ?_, .inr ⟨by simp, by omega⟩⟩
    show Value.bool ((m : Int) == 0) = _
    congr 1
    rw [Bool.eq_iff_iff]
    simp
theorem modulo_any (k m : Int) (w : World) (h1 : 1 ≤ m) (h2 : m ≤ 1000000) (hk : (Lit.int .i64 k).wf = true) :
    Calls Try.prog 47 #[.int .i64 k, .int .i64 m] w fun e w' => e = .returned (.int .i64 (k % m)) ∧ w' = w := by
  go_enter Try.func47, Try.ntmps47
  go_wp2
  go_ret
  have ha1 := Int.tmod_lt_of_pos k (show 0 < m by omega)
  have ha2 := Int.tmod_lt_of_pos (-k) (show 0 < m by omega)
  rw [Int.neg_tmod] at ha2
  have e1 : wrap64 (k.tmod m + m) = k.tmod m + m := by
    generalize k.tmod m = x at *
    unfold wrap64
    omega
  have e2 : k.tmod m % m = k % m := by
    have := Int.mul_tdiv_add_tmod k m
    conv => rhs; rw [← this]
    rw [Int.mul_add_emod_self_left]
  refine ⟨ret_eq ?_, rfl⟩
  show Value.int .i64 ((wrap64 (k.tmod m + m)).tmod m) = _
  rw [e1, Int.tmod_eq_emod_of_nonneg (by omega), Int.add_emod_right, e2]

/-- A byte that a name may have. -/
def okB (z : Nat) : Bool := z = 46 || (97 ≤ z && z ≤ 122) || (48 ≤ z && z ≤ 57)
theorem okB_iff (z : Nat) : okB z = true ↔ z = 46 ∨ (97 ≤ z ∧ z ≤ 122) ∨ (48 ≤ z ∧ z ≤ 57) := by
  unfold okB
  simp [or_assoc]
def okName (s : ByteArray) : Bool := decide (1 ≤ s.size) && decide (s.size ≤ 16) && s.data.toList.all fun b => okB b.toNat
theorem okName_upto (s : ByteArray) (k : Nat) (h : k < s.size) (hp : ∀ i (hi : i < s.size), i < k → okB (s[i]'hi).toNat = true) : okB (s[k]'h).toNat = true → ∀ i (hi : i < s.size), i < k + 1 → okB (s[i]'hi).toNat = true := by
  intro ho i hi hik
  rcases Nat.lt_or_ge i k with h1 | h1
  · exact hp i hi h1
  · obtain rfl : i = k := by omega
    exact ho
theorem okName_bad (s : ByteArray) (k : Nat) (h : k < s.size) (hb : okB (s[k]'h).toNat = false) : okName s = false := by
  unfold okName
  rw [Bool.and_eq_false_iff]
  right
  rw [List.all_eq_false]
  refine ⟨s[k]'h, ?_, by rw [hb]; simp⟩
  show s.data[k]'h ∈ _
  exact Array.getElem_mem_toList _
theorem okName_good (s : ByteArray) (h : 1 ≤ s.size ∧ s.size ≤ 16) (hp : ∀ i (hi : i < s.size), i < s.size → okB (s[i]'hi).toNat = true) : okName s = true := by
  unfold okName
  rw [Bool.and_eq_true, Bool.and_eq_true]
  refine ⟨⟨decide_eq_true h.1, decide_eq_true h.2⟩, ?_⟩
  rw [List.all_eq_true]
  intro b hb
  obtain ⟨i, hi, rfl⟩ := List.getElem_of_mem hb
  have hi' : i < s.size := by rw [Array.length_toList] at hi; exact hi
  exact hp i hi' hi'
theorem isName_any (s : ByteArray) (w : World) (hs : s.size ≤ 70368744177664) :
    Calls Try.prog 36 #[.string s] w fun e w' => e = .returned (.bool (okName s)) ∧ w' = w := by
  by_cases h : 1 ≤ s.size ∧ s.size ≤ 16
  · have H := hide h
    have d1 : ¬ ((s.size : Int) < 1) := by omega
    have d2 : ¬ ((16 : Int) < (s.size : Int)) := by omega
    clear h
    go_enter Try.func36, Try.ntmps36
    go_wp2
    go_loop [15] (fun i => ∃ k : Nat, k ≤ s.size ∧ i = .int .i64 k ∧ Hid (∀ i (hi : i < s.size), i < k → okB (s[i]'hi).toNat = true)) (fun i => s.size - (intOf i).toNat)
    case atStart => exact ⟨0, by omega, rfl, hide (fun i hi h => by omega)⟩
    case round =>
      obtain ⟨k, hk, rfl, hT⟩ := hrel
      by_cases hlk : k < s.size
      · obtain ⟨z, hck⟩ : ∃ z : Nat, (s[k]'hlk).toNat = z := ⟨_, rfl⟩
        have hz : z < 256 := by rw [← hck]; exact UInt8.toNat_lt _
        have HG := hide (okName_upto s k hlk hT.out)
        have HB := hide (okName_bad s k hlk)
        rw [hck] at HG HB
        clear hT
        have hok := okB_iff z
        go_wp2
        all_goals first
          | (refine ⟨⟨k + 1, by omega, by go_num, hide (HG.out (hok.2 (by first | omega | (simp only [bne_eq_false_iff_eq] at *; omega))))⟩, ?_⟩; simp [intOf]; omega)
          | (go_ret; exact ⟨by rw [HB.out (by rw [← Bool.not_eq_true, hok]; omega)]; rfl, rfl⟩)
      · have h8 : k = s.size := by omega
        subst h8
        have HO := hide (okName_good s H.out hT.out)
        go_wp2
        go_ret
        exact ⟨by rw [HO.out]; rfl, rfl⟩
  · have ho : okName s = false := by
      unfold okName
      have : ¬ (1 ≤ s.size ∧ s.size ≤ 16) := h
      simp only [Bool.and_eq_false_iff, decide_eq_false_iff_not]
      left
      omega
    rw [ho]
    by_cases h1 : s.size < 1
    · have d1 : ((s.size : Int) < 1) := by omega
      go_enter Try.func36, Try.ntmps36
      go_wp2
      go_ret
      exact ⟨rfl, rfl⟩
    · have d1 : ¬ ((s.size : Int) < 1) := by omega
      have d2 : ((16 : Int) < (s.size : Int)) := by omega
      go_enter Try.func36, Try.ntmps36
      go_wp2
      go_ret
      exact ⟨rfl, rfl⟩

theorem next_none (R : Nat) (ao : Option Addr) (cap : Nat) (w : World) (h : w.cell? ⟨R, 0, none⟩ = some (.slice ao 0 cap)) :
    Calls Try.prog 34 #[.pointer (some ⟨R, 0, none⟩)] w fun e w' => e = .returned (.tuple #[.int .i64 0, .bool false]) ∧ w' = w := by
  go_enter Try.func34, Try.ntmps34
  go_wp2
  go_ret2
  exact ⟨rfl, rfl⟩
theorem next_some (R b off len cap : Nat) (k : Int) (w : World) (h : w.cell? ⟨R, 0, none⟩ = some (.slice (some ⟨b, off, none⟩) (len + 1) cap)) (hf : w.frozen? ⟨R, 0, none⟩ = false) (hc : w.cell? ⟨b, off, none⟩ = some (.int .i64 k))
    (hl : len + 1 ≤ cap) (hm : cap ≤ 9223372036854775807) :
    Calls Try.prog 34 #[.pointer (some ⟨R, 0, none⟩)] w fun e w' => e = .returned (.tuple #[.int .i64 k, .bool true]) ∧
      w' = w.setCell ⟨R, 0, none⟩ (.slice (if cap = 1 then some ⟨b, off, none⟩ else some ⟨b, off + 1, none⟩) len (cap - 1)) := by
  go_enter Try.func34, Try.ntmps34
  go_wp2
  · go_ret2
    refine ⟨rfl, ?_⟩
    subst h
    simp
  · go_ret2
    refine ⟨rfl, ?_⟩
    rfl

/-- A row of numbers that a slice value leads to. -/
def NumV (Q : Nat → Prop) (w : World) (v : Value) (ks : List Int) : Prop := ∃ ao cap, v = .slice ao ks.length cap ∧ ks.length ≤ cap ∧ cap ≤ 9223372036854775807 ∧ (∀ k ∈ ks, (Lit.int .i64 k).wf = true) ∧
  (0 < ks.length → ∃ b off, ao = some ⟨b, off, none⟩ ∧ Q b ∧ ∀ i, i < ks.length → w.cell? ⟨b, off + i, none⟩ = some (.int .i64 (ks.getD i 0)))
theorem NumV.keep {Q : Nat → Prop} {w w' : World} {v : Value} {ks : List Int} (h : NumV Q w v ks) (hk : ∀ i, i < w.heap.size → Q i → w'.heap[i]? = w.heap[i]?) : NumV Q w' v ks := by
  obtain ⟨ao, cap, h1, h2, h3, h4, h5⟩ := h
  refine ⟨ao, cap, h1, h2, h3, h4, fun h0 => ?_⟩
  obtain ⟨b, off, e, hq, hc⟩ := h5 h0
  exact ⟨b, off, e, hq, fun i hi => by rw [World.cell?_of_block (w := w) (hk b (World.block_lt_of_cell? w _ (hc i hi)) hq)]; exact hc i hi⟩
/-- A variable of one cell, in a block of its own. -/
def Var1 (w : World) (R : Nat) (v : Value) : Prop := ∃ T, w.heap[R]? = some (.cells #[v] T (0, 0))
theorem Var1.cell {w : World} {R : Nat} {v : Value} (h : Var1 w R v) : w.cell? ⟨R, 0, none⟩ = some v := by
  obtain ⟨T, h⟩ := h
  simp [World.cell?, h]
theorem Var1.froz {w : World} {R : Nat} {v : Value} (h : Var1 w R v) : w.frozen? ⟨R, 0, none⟩ = false := by
  obtain ⟨T, h⟩ := h
  simp [World.frozen?, h]
theorem Var1.lt {w : World} {R : Nat} {v : Value} (h : Var1 w R v) : R < w.heap.size := by
  obtain ⟨T, h⟩ := h
  exact (Array.getElem?_eq_some_iff.1 h).1
theorem Var1.set {w : World} {R : Nat} {v : Value} (h : Var1 w R v) (u : Value) : Var1 (w.setCell ⟨R, 0, none⟩ u) R u := by
  obtain ⟨T, h⟩ := h
  exact ⟨T, by rw [heap_setCell_same w R 0 _ T u h]; rfl⟩
/-- One block has turned, and nothing else. -/
structure One (R : Nat) (w w' : World) : Prop where
  os : w'.os = w.os
  tape : w'.tape = w.tape
  output : w'.output = w.output
  size : w'.heap.size = w.heap.size
  block : ∀ i, i ≠ R → w'.heap[i]? = w.heap[i]?
theorem One.refl (R : Nat) (w : World) : One R w w := ⟨rfl, rfl, rfl, rfl, fun _ _ => rfl⟩
theorem One.set (R i : Nat) (w : World) (v : Value) : One R w (w.setCell ⟨R, i, none⟩ v) := ⟨rfl, rfl, rfl, by simp, fun k hk => heap_setCell_other w ⟨R, i, none⟩ k v hk⟩
theorem One.trans {R : Nat} {a b c : World} (h : One R a b) (k : One R b c) : One R a c := ⟨k.os.trans h.os, k.tape.trans h.tape, k.output.trans h.output, k.size.trans h.size, fun i hi => (k.block i hi).trans (h.block i hi)⟩
theorem next_any (Q : Nat → Prop) (R : Nat) (v : Value) (ks : List Int) (w : World) (hv : Var1 w R v) (hn : NumV Q w v ks) :
    Calls Try.prog 34 #[.pointer (some ⟨R, 0, none⟩)] w fun e w' => e = .returned (.tuple #[.int .i64 (ks.getD 0 0), .bool (!ks.isEmpty)]) ∧ One R w w' ∧ ∃ v', Var1 w' R v' ∧ NumV Q w' v' ks.tail := by
  obtain ⟨ao, cap, rfl, hl, hm, hw, hc⟩ := hn
  cases ks with
  | nil =>
    refine (next_none R ao cap w hv.cell).mono ?_
    rintro e w' ⟨rfl, rfl⟩
    exact ⟨rfl, One.refl _ _, _, hv, ⟨ao, cap, rfl, hl, hm, hw, hc⟩⟩
  | cons k ks =>
    obtain ⟨b, off, rfl, hq, hb⟩ := hc (by simp)
    have hb0 := hb 0 (by simp)
    simp only [Nat.add_zero, List.getD_cons_zero] at hb0
    have hne : b ≠ R := by
      rintro rfl
      obtain ⟨T, hT⟩ := hv
      simp only [World.cell?, hT] at hb0
      cases off with
      | zero => simp at hb0
      | succ n => simp at hb0
    refine (next_some R b off ks.length cap k w hv.cell hv.froz hb0 hl hm).mono ?_
    rintro e w' ⟨rfl, rfl⟩
    refine ⟨rfl, One.set _ _ _ _, _, hv.set _, _, _, rfl, by simp at hl ⊢; omega, by omega, fun x hx => hw x (List.mem_cons_of_mem _ hx), fun h0 => ?_⟩
    simp only [List.tail_cons] at h0 ⊢
    simp only [List.length_cons] at hl
    refine ⟨b, off + 1, by rw [if_neg (by omega)], hq, fun i hi => ?_⟩
    rw [World.cell?_of_block (heap_setCell_other w ⟨R, 0, none⟩ b _ hne)]
    have := hb (i + 1) (by simp; omega)
    rw [show off + (i + 1) = off + 1 + i from by omega] at this
    rw [this]
    simp

end Go.Proofs.Ythmfkfiblaamfab.Clep
