/- Bytes that are read are just those that would be written: numbers, items, frames, blocks. No conditions. -/
import Derived.Test.YtcgfopkoalnjkaaZs
import Derived.Test.YtcgfopkoalnjkaaXa
namespace Go.Proofs.Ytcgfopkoalnjkaa.Clep
open Go.RowKit
set_option linter.unusedVariables false
set_option maxRecDepth 10000

theorem tk_canon : ∀ (zs : List Int) (i : Nat) (n v q : Int), i ≤ 9 → (∀ z ∈ zs, 0 ≤ z ∧ z < 256) → tk zs i n = (v, q, 0) →
    ∃ u : Int, 0 ≤ u ∧ v = n + u * 2 ^ (7 * i) ∧ (0 < i → u ≠ 0) ∧ (i : Int) + 1 ≤ q ∧ zs = enc (9 - i) u ++ zs.drop (q - i).toNat
  | [], i, n, v, q, _, _, h => by simp [tk] at h
  | c :: r, i, n, v, q, hi, hz, h => by
    have hc := hz c (by simp)
    rw [tk] at h
    split at h
    · simp at h
    · rename_i h1
      split at h
      · rename_i h2
        have hi9 : i < 9 := by omega
        obtain ⟨u, hu0, hv, hne, hq, hr⟩ := tk_canon r (i + 1) _ v q (by omega) (fun z hz' => hz z (by simp [hz'])) h
        have hu1 : 1 ≤ u := by have := hne (by omega); omega
        refine ⟨(c - 128) + 128 * u, by omega, ?_, fun _ => by omega, by omega, ?_⟩
        · rw [hv, pow7, Int.add_mul, Int.add_assoc]
          congr 2
          rw [← Int.mul_assoc, Int.mul_comm u 128]
        · obtain ⟨f, hf⟩ : ∃ f, 9 - i = f + 1 := ⟨8 - i, by omega⟩
          have hf2 : 9 - (i + 1) = f := by omega
          rw [hf2] at hr
          rw [hf, enc_big f _ (by omega), show ((c - 128) + 128 * u) % 128 + 128 = c by omega, show ((c - 128) + 128 * u) / 128 = u by omega]
          obtain ⟨d, hd⟩ : ∃ d, (q - ((i + 1 : Nat) : Int)).toNat = d := ⟨_, rfl⟩
          rw [hd] at hr
          rw [show (q - (i : Int)).toNat = d + 1 by omega, List.drop_succ_cons, List.cons_append, ← hr]
      · split at h
        · simp at h
        · rename_i h2 h3
          simp only [Prod.mk.injEq, and_true] at h
          refine ⟨c, hc.1, h.1.symm, fun h0 => by omega, by omega, ?_⟩
          rw [enc_small _ c (by omega), show (q - (i : Int)).toNat = 1 by omega]
          rfl
theorem num1_canon (s s' : List Int) (v : Int) (hz : ∀ z ∈ s, 0 ≤ z ∧ z < 256) (h : num1 (s, 0) = (v, s', 0)) : s = pu v ++ s' ∧ 0 ≤ v ∧ ∀ z ∈ s', 0 ≤ z ∧ z < 256 := by
  unfold num1 at h
  rw [if_neg (by simp)] at h
  simp only [Prod.mk.injEq] at h
  obtain ⟨h1, h2, h3⟩ := h
  obtain ⟨u, hu0, hv, _, hq, hs⟩ := tk_canon s 0 0 (tk s 0 0).1 (tk s 0 0).2.1 (by omega) hz (by
    have e : tk s 0 0 = ((tk s 0 0).1, (tk s 0 0).2.1, (tk s 0 0).2.2) := rfl
    rw [h3] at e; exact e)
  have huv : u = v := by rw [h1] at hv; simp at hv; omega
  refine ⟨?_, by omega, fun z hz' => hz z (by rw [← h2] at hz'; exact List.mem_of_mem_drop hz')⟩
  rw [← h2, ← huv]
  conv => lhs; rw [hs]
  rw [show ((tk s 0 0).2.1 - ((0 : Nat) : Int)).toNat = (tk s 0 0).2.1.toNat by simp]
  rfl
theorem num1_err (s : List Int) (e : Int) (v : Int) (s' : List Int) (h : num1 (s, e) = (v, s', 0)) : e = 0 := by
  rcases Classical.em (e = 0) with h0 | h0
  · exact h0
  · rw [num1_bad s e h0] at h
    simp only [Prod.mk.injEq] at h
    exact h.2.2
theorem item1_canon (s s' : List Int) (x : It) (hz : ∀ z ∈ s, 0 ≤ z ∧ z < 256) (h : item1 (s, 0) = (x, s', 0)) : s = x.b ++ s' ∧ ∀ z ∈ s', 0 ≤ z ∧ z < 256 := by
  match s, hz, h with
  | [], _, h => have := item1_torn [] (by simp); rw [h] at this; cases this
  | [a], _, h => have := item1_torn [a] (by simp); rw [h] at this; cases this
  | a :: b :: r, hz, h =>
    rw [item1_two] at h
    obtain ⟨T, r1, e1, hT⟩ : ∃ T r1 e1, num1 (r, 0) = (T, r1, e1) := ⟨_, _, _, rfl⟩
    rw [hT] at h
    obtain ⟨V, r2, e2, hV⟩ : ∃ V r2 e2, num1 (r1, e1) = (V, r2, e2) := ⟨_, _, _, rfl⟩
    simp only at h
    rw [hV] at h
    obtain ⟨M, r3, e3, hM⟩ : ∃ M r3 e3, num1 (r2, e2) = (M, r3, e3) := ⟨_, _, _, rfl⟩
    simp only at h
    rw [hM] at h
    simp only [Prod.mk.injEq] at h
    obtain ⟨hx, hr3, he3⟩ := h
    subst he3
    have he2 := num1_err r2 e2 M r3 hM
    subst he2
    have he1 := num1_err r1 e1 V r2 hV
    subst he1
    obtain ⟨k1, p1, z1⟩ := num1_canon r r1 T (fun z hz' => hz z (by simp [hz'])) hT
    obtain ⟨k2, p2, z2⟩ := num1_canon r1 r2 V z1 hV
    obtain ⟨k3, p3, z3⟩ := num1_canon r2 r3 M z2 hM
    have ha := hz a (by simp)
    have hb := hz b (by simp)
    refine ⟨?_, by rw [← hr3]; exact z3⟩
    rw [← hx, ← hr3]
    show _ = ib a b T V (usgn M) ++ r3
    unfold ib
    rw [sgn_usgn M p3, show a % 256 = a by omega, show b % 256 = b by omega, k1, k2, k3]
    simp
theorem rds_canon : ∀ (c : Nat) (s : List Int) (acc l : List It) (s' : List Int), (∀ z ∈ s, 0 ≤ z ∧ z < 256) → rds c (s, 0) acc = (l, s', 0) → ∃ m, l = acc ++ m ∧ m.length = c ∧ s = ibs m ++ s'
  | 0, s, acc, l, s', _, h => by
    simp only [rds, Prod.mk.injEq] at h
    exact ⟨[], by rw [List.append_nil]; exact h.1.symm, rfl, by simp [ibs, h.2.1]⟩
  | c + 1, s, acc, l, s', hz, h => by
    obtain ⟨x, s1, e1, hx⟩ : ∃ x s1 e1, item1 (s, 0) = (x, s1, e1) := ⟨_, _, _, rfl⟩
    rw [rds, hx] at h
    simp only at h
    split at h
    · rename_i he
      simp only [Prod.mk.injEq] at h
      exact absurd h.2.2 he
    · rename_i he
      have he1 : e1 = 0 := by simpa using he
      subst he1
      obtain ⟨k1, z1⟩ := item1_canon s s1 x hz hx
      obtain ⟨m, hl, hm, hs⟩ := rds_canon c s1 (acc ++ [x]) l s' z1 h
      refine ⟨x :: m, by rw [hl]; simp, by simp [hm], ?_⟩
      rw [k1, hs]
      simp [ibs]
theorem rd_canon (ys : List Int) (l : List It) (hz : ∀ z ∈ ys, 0 ≤ z ∧ z < 256) (h : rd ys = (l, 0)) : ys = ibn l := by
  obtain ⟨c, s1, e1, hc⟩ : ∃ c s1 e1, num1 (ys, 0) = (c, s1, e1) := ⟨_, _, _, rfl⟩
  unfold rd at h
  rw [hc] at h
  simp only at h
  split at h
  · rename_i he
    simp only [Prod.mk.injEq] at h
    exact absurd h.2 he
  · rename_i he
    have he1 : e1 = 0 := by simpa using he
    subst he1
    split at h
    · simp at h
    · obtain ⟨k1, p1, z1⟩ := num1_canon ys s1 c hz hc
      obtain ⟨r, s2, e2, hr⟩ : ∃ r s2 e2, rds c.toNat (s1, 0) [] = (r, s2, e2) := ⟨_, _, _, rfl⟩
      rw [hr] at h
      simp only at h
      split at h
      · rename_i he2
        simp only [Prod.mk.injEq] at h
        exact absurd h.2 he2
      · rename_i he2
        have he3 : e2 = 0 := by simpa using he2
        subst he3
        split at h
        · rename_i hok
          simp only [Prod.mk.injEq, and_true] at h
          obtain ⟨m, hl, hm, hs⟩ := rds_canon c.toNat s1 [] r s2 z1 hr
          rw [List.nil_append] at hl
          rw [k1, hs, hok.2, List.append_nil, ← h, hl]
          unfold ibn
          rw [hm, show ((c.toNat : Nat) : Int) = c by omega]
        · simp at h
theorem isB_canon (X : List Int) (hX : ByteL X) (h : isB X = true) : X.take ((ln X).toNat + 12) = bkb (bx X) := by
  obtain ⟨hce, hkd, hfit⟩ := isB_iff.1 h
  obtain ⟨g1, g2, _, _, g5, g6, g7⟩ := ce_ok X hce
  have hln := ln_range X (range_of hX)
  have hys : ByteL (bo X) := fun z hz => hX z (List.mem_of_mem_take (List.mem_of_mem_drop (List.mem_of_mem_take hz)))
  have hrd : rd (bo X) = (bx X, 0) := by
    rcases rd_cases (bo X) with q | q
    · unfold bx; rw [← q.1]
    · have := (fit_iff.1 hfit).1
      unfold bx at this; rw [q.2] at this; simp at this
  have hib := rd_canon (bo X) (bx X) hys hrd
  obtain ⟨n, hn⟩ : ∃ n, (ln X).toNat = n := ⟨_, rfl⟩
  have hlnn : ln X = (n : Int) := by omega
  have hbl := bo_len X hce
  rw [hn] at hbl g6 ⊢
  have hbd : sl (bo X) = bd X := by
    have hl : (bd X).length = n + 4 := by unfold bd; rw [List.length_drop, List.length_take, hn]; omega
    have hr : ByteL (bd X) := fun z hz => hX z (List.mem_of_mem_take (List.mem_of_mem_drop hz))
    have := (sl_iff (bd X) n hr hl).2 (by
      unfold good
      unfold be at g7
      rw [hn] at g7
      split at g7
      · assumption
      · cases g7)
    have e : bo X = (bd X).take n := by unfold bo; rw [hn]
    rw [e]; exact this
  have hhd : sl (X.take 4) = X.take 8 := by
    have hl : (X.take 8).length = 4 + 4 := by rw [List.length_take]; omega
    have := (sl_iff (X.take 8) 4 (ByteL.take hX 8) hl).2 (by
      unfold good
      unfold he at g2
      split at g2
      · assumption
      · cases g2)
    rwa [List.take_take] at this
  have h4 : X.take 4 = hd 2 n := by
    have hb := range_of hX
    have b1 := hb 1
    have b2 := hb 2
    have b3 := hb 3
    unfold ln at hlnn
    unfold kd at hkd
    have e4 : X.take 4 = [X.getD 0 0, X.getD 1 0, X.getD 2 0, X.getD 3 0] := by
      match X, g1 with
      | _ :: _ :: _ :: _ :: _, _ => rfl
    rw [e4, hkd]
    generalize X.getD 1 0 = x1 at *
    generalize X.getD 2 0 = x2 at *
    generalize X.getD 3 0 = x3 at *
    unfold hd
    have c1 : x1 = ((n / 65536 : Nat) : Int) := by omega
    have c2 : x2 = ((n / 256 : Nat) : Int) := by omega
    have c3 : x3 = ((n % 256 : Nat) : Int) := by omega
    rw [c1, c2, c3]
  unfold bkb fr
  rw [← hib, hbl, ← h4, hhd, hbd]
  unfold bd
  rw [hn]
  have e : X.take 8 = (X.take (n + 12)).take 8 := by rw [List.take_take, Nat.min_eq_left (by omega)]
  rw [e, List.take_append_drop]

end Go.Proofs.Ytcgfopkoalnjkaa.Clep
