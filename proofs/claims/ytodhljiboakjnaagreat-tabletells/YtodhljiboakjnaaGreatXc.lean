/- Heads of frames. No conditions. -/
import Derived.Test.YtodhljiboakjnaaGreatZp
import Derived.Test.YtodhljiboakjnaaGreatZk
namespace Go.Proofs.YtodhljiboakjnaaGreat.Clep
open Go.RowKit
set_option linter.unusedVariables false
set_option maxRecDepth 10000

theorem hd_kd (k : Int) (n : Nat) (r : List Int) : kd (sl (hd k n) ++ r) = k := by simp [kd, sl, hd]
theorem hd_ln (k : Int) (n : Nat) (r : List Int) (hn : n ≤ 60000) : ln (sl (hd k n) ++ r) = n := by
  simp only [ln, sl, hd, List.cons_append, List.nil_append, List.getD_cons_succ, List.getD_cons_zero]
  omega
theorem hd_he (k : Int) (n : Nat) (r : List Int) (hk : 1 ≤ k) (hk2 : k ≤ 100) (hn : n ≤ 60000) : he (sl (hd k n) ++ r) = 0 := by
  have hg : nn ((sl (hd k n)).drop 4) = crc ((sl (hd k n)).take 4) := good_sl (hd k n) (hd_range k n hk hk2 hn)
  unfold he
  rw [List.take_append_of_le_length (by rw [sl_len, hd_len]; omega), List.take_of_length_le (by rw [sl_len, hd_len]; omega), if_pos hg]
/-- A frame that is cut is torn. -/
theorem torn (k : Int) (ys : List Int) (t : Nat) (hk : 1 ≤ k) (hk2 : k ≤ 100) (hn : ys.length ≤ 60000) (ht : t < ys.length + 12) : ce ((fr k ys).take t) = 4 := by
  have hlen : ((fr k ys).take t).length = t := by rw [List.length_take, fr_len]; omega
  rcases Nat.lt_or_ge t 8 with h | h
  · unfold ce; rw [if_pos (by omega)]
  · have e : (fr k ys).take t = sl (hd k ys.length) ++ (sl ys).take (t - 8) := by
      unfold fr
      rw [List.take_append, List.take_of_length_le (by rw [sl_len, hd_len]; omega), sl_len, hd_len]
    unfold ce
    rw [if_neg (by omega), hlen, e, if_neg (by rw [hd_he _ _ _ hk hk2 hn]; simp), if_neg (by rw [hd_kd, hd_ln _ _ _ hn]; omega), if_pos (by rw [hd_ln _ _ _ hn]; omega)]


end Go.Proofs.YtodhljiboakjnaaGreat.Clep

/- Frames in one of which up to three bits are turned: what is told of them. -/
namespace Go.Proofs.YtodhljiboakjnaaGreat.Clep
open Go.RowKit
set_option linter.unusedVariables false
set_option maxRecDepth 10000

def flips (s : List Int) (qs : List Nat) : List Int := qs.foldl flip s
theorem flips_len : ∀ (qs : List Nat) (s : List Int), (flips s qs).length = s.length
  | [], s => rfl
  | q :: qs, s => by show (flips (flip s q) qs).length = _; rw [flips_len qs, flip_len]
theorem flips_range : ∀ (qs : List Nat) (s : List Int), ByteL s → ByteL (flips s qs)
  | [], s, h => h
  | q :: qs, s, h => flips_range qs (flip s q) (flip_range s q h)
theorem getD_left (A B : List Int) (i : Nat) (h : i < A.length) : (A ++ B).getD i 0 = A.getD i 0 := by simp [List.getD, List.getElem?_append_left h]
theorem getD_right (A B : List Int) (i : Nat) : (A ++ B).getD (A.length + i) 0 = B.getD i 0 := by simp [List.getD, List.getElem?_append_right (Nat.le_add_right _ _)]
theorem flip_left (A B : List Int) (q : Nat) (h : q < 8 * A.length) : flip (A ++ B) q = flip A q ++ B := by
  have h8 : q / 8 < A.length := by omega
  unfold flip
  rw [List.set_append, if_pos h8, getD_left A B _ h8]
theorem flip_right (A B : List Int) (q : Nat) : flip (A ++ B) (8 * A.length + q) = A ++ flip B q := by
  unfold flip
  rw [show (8 * A.length + q) / 8 = A.length + q / 8 from by omega, show (8 * A.length + q) % 8 = q % 8 from by omega, List.set_append, if_neg (by omega), getD_right, show A.length + q / 8 - A.length = q / 8 from by omega]
theorem flips_right (A B : List Int) : ∀ (qs : List Nat), flips (A ++ B) (qs.map (8 * A.length + ·)) = A ++ flips B qs := by
  intro qs
  induction qs generalizing B with
  | nil => rfl
  | cons q qs ih => show flips (flip (A ++ B) (8 * A.length + q)) _ = _; rw [flip_right, ih]; rfl
/-- Turned in a text of two parts: turned in the parts. -/
theorem flips_parts : ∀ (qs : List Nat) (A B : List Int) (n : Nat), (∀ q ∈ qs, q < 8 * (A.length + B.length)) → qs.length ≤ n →
    ∃ us bs, flips (A ++ B) qs = flips A us ++ flips B bs ∧ us.length ≤ n ∧ bs.length ≤ n ∧ (∀ a ∈ us, a < 8 * A.length) ∧ (∀ b ∈ bs, b < 8 * B.length)
  | [], A, B, n, _, _ => ⟨[], [], rfl, Nat.zero_le _, Nat.zero_le _, by simp, by simp⟩
  | q :: qs, A, B, n, hq, hn => by
    have hq0 := hq q (List.mem_cons_self)
    simp only [List.length_cons] at hn
    rcases Nat.lt_or_ge q (8 * A.length) with h | h
    · obtain ⟨us, bs, h1, h2, h3, h4, h5⟩ := flips_parts qs (flip A q) B (n - 1) (fun x hx => by rw [flip_len]; exact hq x (List.mem_cons_of_mem _ hx)) (by omega)
      refine ⟨q :: us, bs, ?_, by simp only [List.length_cons]; omega, by omega, fun a ha => ?_, h5⟩
      · show flips (flip (A ++ B) q) qs = flips (flip A q) us ++ _
        rw [flip_left A B q h, h1]
      · rcases List.mem_cons.1 ha with rfl | ha
        · exact h
        · have := h4 a ha; rwa [flip_len] at this
    · obtain ⟨us, bs, h1, h2, h3, h4, h5⟩ := flips_parts qs A (flip B (q - 8 * A.length)) (n - 1) (fun x hx => by rw [flip_len]; exact hq x (List.mem_cons_of_mem _ hx)) (by omega)
      refine ⟨us, (q - 8 * A.length) :: bs, ?_, by omega, by simp only [List.length_cons]; omega, h4, fun b hb => ?_⟩
      · show flips (flip (A ++ B) q) qs = _ ++ flips (flip B (q - 8 * A.length)) bs
        rw [show q = 8 * A.length + (q - 8 * A.length) from by omega, flip_right, show 8 * A.length + (q - 8 * A.length) - 8 * A.length = q - 8 * A.length from by omega, h1]
      · rcases List.mem_cons.1 hb with rfl | hb
        · omega
        · have := h5 b hb; rwa [flip_len] at this
/-- Up to three bits turned in a sealed text are found. -/
theorem flips_found (zs : List Int) (hz : ByteL zs) (hm : zs.length ≤ 4088) (qs : List Nat) (hq : qs.length ≤ 3) (hb : ∀ q ∈ qs, q < 8 * (zs.length + 4)) : flips (sl zs) qs = sl zs ∨ ¬ good (flips (sl zs) qs) zs.length := by
  have hr := sl_range zs hz
  have hl := sl_len zs
  have hfl : (flips (sl zs) qs).length = zs.length + 4 := by rw [flips_len, hl]
  have hfr := flips_range qs _ hr
  match qs, hq, hb, hfl, hfr with
  | [], _, _, _, _ => exact .inl rfl
  | [a], _, hb, hfl, hfr =>
    have ha := hb a (by simp)
    have e : nn (flips (sl zs) [a]) = nn (sl zs) ^^^ turnE [a, a, a] (0 + 1) := by
      show nn (flip (sl zs) a) = _; rw [nn_flip _ _ hr (by rw [hl]; omega)]; simp [turnE]
    rcases bits_final zs _ zs.length hz rfl hfl hfr a a a 0 (by omega) ha ha ha hm e with h | ⟨_, h⟩
    · exact .inl h
    · exact .inr h
  | [a, b], _, hb, hfl, hfr =>
    have ha := hb a (by simp)
    have hb' := hb b (by simp)
    have e : nn (flips (sl zs) [a, b]) = nn (sl zs) ^^^ turnE [a, b, b] (1 + 1) := by
      show nn (flip (flip (sl zs) a) b) = _
      rw [nn_flip _ _ (flip_range _ _ hr) (by rw [flip_len, hl]; omega), nn_flip _ _ hr (by rw [hl]; omega)]; simp [turnE, Nat.xor_assoc]
    rcases bits_final zs _ zs.length hz rfl hfl hfr a b b 1 (by omega) ha hb' hb' hm e with h | ⟨_, h⟩
    · exact .inl h
    · exact .inr h
  | [a, b, c], _, hb, hfl, hfr =>
    have ha := hb a (by simp)
    have hb' := hb b (by simp)
    have hc := hb c (by simp)
    have e : nn (flips (sl zs) [a, b, c]) = nn (sl zs) ^^^ turnE [a, b, c] (2 + 1) := by
      show nn (flip (flip (flip (sl zs) a) b) c) = _
      rw [nn_flip _ _ (flip_range _ _ (flip_range _ _ hr)) (by rw [flip_len, flip_len, hl]; omega), nn_flip _ _ (flip_range _ _ hr) (by rw [flip_len, hl]; omega), nn_flip _ _ hr (by rw [hl]; omega)]; simp [turnE, Nat.xor_assoc]
    rcases bits_final zs _ zs.length hz rfl hfl hfr a b c 2 (by omega) ha hb' hc hm e with h | ⟨_, h⟩
    · exact .inl h
    · exact .inr h
  | _ :: _ :: _ :: _ :: _, hq, _, _, _ => simp only [List.length_cons] at hq; omega

/-- A frame in which up to three bits are turned is refused, or is us it was. -/
theorem fr_turned (k : Int) (ys r : List Int) (qs : List Nat) (hk : 1 ≤ k) (hk2 : k ≤ 100) (hn : ys.length ≤ 4088) (hy : ByteL ys) (hq : qs.length ≤ 3) (hb : ∀ q ∈ qs, q < 8 * (ys.length + 12)) :
    flips (fr k ys) qs = fr k ys ∨ ce (flips (fr k ys) qs ++ r) ≠ 0 := by
  have hhr := hd_range k ys.length hk hk2 (by omega)
  have hl1 : (sl (hd k ys.length)).length = 8 := by rw [sl_len, hd_len]
  have hl2 : (sl ys).length = ys.length + 4 := sl_len ys
  obtain ⟨us, bs, e, ha, hb1, ha2, hb2⟩ := flips_parts qs (sl (hd k ys.length)) (sl ys) 3 (fun q h => by rw [hl1, hl2]; have := hb q h; omega) hq
  rw [hl1] at ha2
  rw [hl2] at hb2
  unfold fr
  rw [e]
  have lA : (flips (sl (hd k ys.length)) us).length = 8 := by rw [flips_len, hl1]
  have lB : (flips (sl ys) bs).length = ys.length + 4 := by rw [flips_len, hl2]
  rcases flips_found (hd k ys.length) hhr (by rw [hd_len]; omega) us ha (fun q h => by have := ha2 q h; rw [hd_len]; omega) with h1 | h1
  · rw [h1]
    rcases flips_found ys hy hn bs hb1 (fun q h => hb2 q h) with h2 | h2
    · rw [h2]; exact .inl rfl
    · right
      rw [List.append_assoc]
      have hln := hd_ln k ys.length (flips (sl ys) bs ++ r) (by omega)
      have hbd : bd (sl (hd k ys.length) ++ (flips (sl ys) bs ++ r)) = flips (sl ys) bs := by
        unfold bd
        rw [hln, Int.toNat_natCast, ← List.append_assoc, List.take_append_of_le_length (by rw [List.length_append, hl1, lB]; omega), List.take_of_length_le (by rw [List.length_append, hl1, lB]; omega), List.drop_append_of_le_length (by omega), List.drop_eq_nil_of_le (by omega), List.nil_append]
      have hbe : be (sl (hd k ys.length) ++ (flips (sl ys) bs ++ r)) = 5 := by
        unfold be; rw [hbd, hln, Int.toNat_natCast, if_neg (show ¬ nn ((flips (sl ys) bs).drop ys.length) = crc ((flips (sl ys) bs).take ys.length) from h2)]
      unfold ce
      rw [if_neg (by rw [List.length_append, hl1]; omega), if_neg (by rw [hd_he _ _ _ hk hk2 (by omega)]; simp), if_neg (by rw [hd_kd, hln]; omega), if_neg (by rw [hln, List.length_append, List.length_append, hl1, lB]; omega), hbe]
      decide
  · right
    have hhe : he (flips (sl (hd k ys.length)) us ++ flips (sl ys) bs ++ r) = 5 := by
      unfold he
      rw [List.append_assoc, List.take_append_of_le_length (by omega), List.take_of_length_le (by omega), if_neg (show ¬ nn ((flips (sl (hd k ys.length)) us).drop 4) = crc ((flips (sl (hd k ys.length)) us).take 4) from h1)]
    unfold ce
    rw [if_neg (by rw [List.length_append, List.length_append, lA]; omega), hhe, if_pos (by decide)]
    decide

end Go.Proofs.YtodhljiboakjnaaGreat.Clep
