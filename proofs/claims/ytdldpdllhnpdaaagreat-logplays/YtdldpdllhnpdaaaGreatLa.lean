/- Batches and logs as rows of bytes: what a row says that begins with batches, is cut, or has bits turned. No conditions. -/
import Derived.Test.YtdldpdllhnpdaaaGreatZc
import Derived.Test.YtdldpdllhnpdaaaGreatZj
import Derived.Test.YtdldpdllhnpdaaaGreatZk
import Derived.Test.YtdldpdllhnpdaaaGreatZl
import Derived.Test.YtdldpdllhnpdaaaGreatZh
namespace Go.Proofs.YtdldpdllhnpdaaaGreat.Clep
open Go.RowKit
set_option linter.unusedVariables false
set_option maxRecDepth 10000

/-- The error of Batch. -/
def bmay (l : List It) : Int := if l.length = 0 then 1 else if may l ≠ 0 then may l else if 60000 < (ibn l).length then 2 else 0
/-- A batch's bytes. -/
def bt (l : List It) : List Int := fr 1 (ibn l)
structure Bg (l : List It) : Prop where
  ne : 0 < l.length
  wf : ∀ x ∈ l, x.wf
  ok : l.all It.ok = true
  len : l.length ≤ 2000
  sz : (ibn l).length ≤ 60000
theorem bg_of {l : List It} (hw : ∀ x ∈ l, x.wf) (h : bmay l = 0) : Bg l := by
  unfold bmay at h
  split at h
  · cases h
  · split at h
    · rename_i h1 h2; exact absurd h h2
    · split at h
      · cases h
      · rename_i h1 h2 h3
        have hm : may l = 0 := Classical.byContradiction h2
        unfold may at hm
        split at hm
        · cases hm
        · split at hm
          · rename_i h4 h5; exact ⟨by omega, hw, h5, by omega, by omega⟩
          · cases hm
theorem Bg.may {l : List It} (h : Bg l) : bmay l = 0 := by
  have hm : Clep.may l = 0 := by unfold Clep.may; rw [if_neg (by have := h.len; omega), if_pos h.ok]
  unfold bmay
  rw [if_neg (by have := h.ne; omega), if_neg (by rw [hm]; simp), if_neg (by have := h.sz; omega)]
theorem bt_len (l : List It) : (bt l).length = (ibn l).length + 12 := fr_len _ _
theorem Bg.byte {l : List It} (h : Bg l) : ByteL (ibn l) := ibn_range l h.wf h.len
theorem bt_range {l : List It} (h : Bg l) : ByteL (bt l) := fr_range 1 (ibn l) (by omega) (by omega) h.sz h.byte

theorem enc_short : ∀ (f k : Nat) (n : Int), n < 128 ^ (k + 1) → (enc f n).length ≤ k + 1
  | 0, k, n, _ => by simp [enc]
  | f + 1, k, n, h => by
    rw [enc]
    split
    · simp
    · cases k with
      | zero => simp at h; omega
      | succ k =>
        have e : (128 : Int) ^ (k + 1 + 1) = 128 ^ (k + 1) * 128 := Int.pow_succ _ _
        rw [e] at h
        have := enc_short f k (n / 128) (by generalize (128 : Int) ^ (k + 1) = q at *; omega)
        simp only [List.length_cons]
        omega
theorem ib_short (S K T V X : Int) (h : okI S K T V X = true) : (ib S K T V X).length ≤ 25 := by
  unfold okI at h
  simp only [decide_eq_true_eq] at h
  have hT : T ≤ 1099511627776 := by omega
  have h1 := enc_short 9 5 T (by have : (128 : Int) ^ (5 + 1) = 4398046511104 := by decide
                                 omega)
  have h2 := enc_short 9 6 V (by have : (128 : Int) ^ (6 + 1) = 562949953421312 := by decide
                                 omega)
  have h3 := pu_len (sgn X)
  unfold ib
  simp only [List.length_append, List.length_cons, List.length_nil]
  unfold pu at *
  omega
theorem ibs_short : ∀ (l : List It), l.all It.ok = true → (ibs l).length ≤ 25 * l.length
  | [], _ => by simp [ibs]
  | x :: r, h => by
    simp only [List.all_cons, Bool.and_eq_true] at h
    have h1 := ib_short x.S x.K x.T x.V x.X h.1
    have h2 := ibs_short r h.2
    unfold ibs at *
    simp only [List.flatMap_cons, List.length_append, List.length_cons, It.b]
    omega
theorem ibn_short (l : List It) (h : l.all It.ok = true) : (ibn l).length ≤ 10 + 25 * l.length := by
  have h1 := ibs_short l h
  have h2 := pu_len l.length
  unfold ibn
  rw [List.length_append]; omega

/-- Is this frame a batch's? -/
def gb (x : Int × List Int) : Bool := x.1 == 1 && ((rd x.2).2 == 0 && !((rd x.2).1.length == 0))
def gi (x : Int × List Int) : List It := (rd x.2).1
/-- What Replay answers. -/
def rp (X : List Int) : List (List It) × Nat × Int :=
  if ((SP X).2.2 = 0 ∨ (SP X).2.2 = 4) ∧ (SP X).1.all gb = true then ((SP X).1.map gi, (SP X).2.1, 0) else ([], 0, 9)
theorem rp_err (X : List Int) : (rp X).2.2 = 0 ∨ rp X = ([], 0, 9) := by
  unfold rp
  split
  · exact .inl rfl
  · exact .inr rfl
def lg (ls : List (List It)) : List Int := ls.flatMap bt
theorem lg_cons (l : List It) (ls : List (List It)) : lg (l :: ls) = bt l ++ lg ls := rfl
theorem lg_app (a b : List (List It)) : lg (a ++ b) = lg a ++ lg b := List.flatMap_append
theorem lg_range : ∀ (ls : List (List It)), (∀ l ∈ ls, Bg l) → ByteL (lg ls)
  | [], _ => fun z hz => by simp [lg] at hz
  | l :: ls, h => by rw [lg_cons]; exact ByteL.append (bt_range (h l (by simp))) (lg_range ls (fun x hx => h x (by simp [hx])))
theorem lg_len : ∀ (ls : List (List It)), (lg ls).length ≤ 22 * ls.length + 32 * ls.flatten.length
  | [] => by simp [lg]
  | l :: ls => by
    have h1 := lg_len ls
    have h2 := ibs_len l
    have h3 := pu_len l.length
    have h4 : (ibn l).length = (pu l.length).length + (ibs l).length := by unfold ibn; rw [List.length_append]
    rw [lg_cons]
    simp only [List.length_append, bt_len, List.length_cons, List.flatten_cons]
    omega
theorem gb_ok {l : List It} (h : Bg l) : gb (1, ibn l) = true ∧ gi (1, ibn l) = l := by
  have h1 := rd_ok l h.wf h.ok h.len
  have h2 := h.ne
  unfold gb gi
  rw [h1]
  refine ⟨?_, rfl⟩
  simp
  intro e; rw [e] at h2; simp at h2
theorem SP_lg : ∀ (ls : List (List It)), (∀ l ∈ ls, Bg l) → ∀ r : List Int, SP (lg ls ++ r) = (ls.map (fun l => ((1 : Int), ibn l)) ++ (SP r).1, (lg ls).length + (SP r).2.1, (SP r).2.2)
  | [], _, r => by simp [lg]
  | l :: ls, h, r => by
    have hl := h l (by simp)
    rw [lg_cons, List.append_assoc, show bt l = fr 1 (ibn l) from rfl, SP_front 1 (ibn l) _ (by omega) (by omega) hl.sz hl.byte, SP_lg ls (fun x hx => h x (by simp [hx])) r]
    simp only [List.map_cons, List.cons_append, List.length_append, fr_len]
    refine Prod.ext rfl (Prod.ext ?_ rfl)
    show _ + _ + (_ + _) = _ + _ + _ + _
    omega
theorem all_gb : ∀ (ls : List (List It)), (∀ l ∈ ls, Bg l) → (ls.map (fun l => ((1 : Int), ibn l))).all gb = true ∧ (ls.map (fun l => ((1 : Int), ibn l))).map gi = ls
  | [], _ => by simp
  | l :: ls, h => by
    have h1 := gb_ok (h l (by simp))
    have h2 := all_gb ls (fun x hx => h x (by simp [hx]))
    simp only [List.map_cons, List.all_cons, h1.1, h1.2, h2.1, h2.2, Bool.and_self, and_self]
/-- Batches, and something behind them. -/
theorem rp_lg (ls : List (List It)) (h : ∀ l ∈ ls, Bg l) (r : List Int) : rp (lg ls ++ r) = if (rp r).2.2 = 0 then (ls ++ (rp r).1, (lg ls).length + (rp r).2.1, 0) else ([], 0, 9) := by
  have h1 := all_gb ls h
  unfold rp
  rw [SP_lg ls h r]
  simp only [List.all_append, h1.1, Bool.true_and, List.map_append, h1.2]
  by_cases hc : ((SP r).2.2 = 0 ∨ (SP r).2.2 = 4) ∧ (SP r).1.all gb = true
  · rw [if_pos hc, if_pos hc, if_pos rfl]
  · rw [if_neg hc, if_neg hc, if_neg (by decide)]
theorem rp_nil : rp [] = ([], 0, 0) := rfl
theorem rp_all (ls : List (List It)) (h : ∀ l ∈ ls, Bg l) : rp (lg ls) = (ls, (lg ls).length, 0) := by
  have := rp_lg ls h []
  rw [List.append_nil, rp_nil] at this
  rw [this]; simp
/-- A batch that is cut. -/
theorem rp_torn {l : List It} (h : Bg l) (t : Nat) (ht : t < (bt l).length) : rp ((bt l).take t) = ([], 0, 0) := by
  rcases Nat.eq_zero_or_pos t with h0 | h0
  · subst h0; rfl
  · have hc : ce ((bt l).take t) = 4 := torn 1 (ibn l) t (by omega) (by omega) h.sz (by rw [bt_len] at ht; exact ht)
    have hx : (bt l).take t ≠ [] := fun e => by
      have := congrArg List.length e
      rw [List.length_take, List.length_nil] at this
      omega
    unfold rp
    rw [SP_bad _ hx (by rw [hc]; decide), hc]
    rfl
/-- Where the first k batches end. -/
def en (ls : List (List It)) (k : Nat) : Nat := (lg (ls.take k)).length
theorem en_zero (ls : List (List It)) : en ls 0 = 0 := rfl
theorem en_all (ls : List (List It)) (k : Nat) (h : ls.length ≤ k) : en ls k = (lg ls).length := by unfold en; rw [List.take_of_length_le h]
theorem en_succ (ls : List (List It)) (k : Nat) (l : List It) (h : ls[k]? = some l) : en ls (k + 1) = en ls k + (bt l).length := by
  unfold en
  rw [List.take_add_one, h, lg_app, List.length_append]
  simp [lg]
theorem lg_split (ls : List (List It)) (k : Nat) : lg ls = lg (ls.take k) ++ lg (ls.drop k) := by rw [← lg_app, List.take_append_drop]
theorem en_le (ls : List (List It)) (k : Nat) : en ls k ≤ (lg ls).length := by rw [lg_split ls k, List.length_append]; unfold en; omega
theorem en_mono (ls : List (List It)) (i j : Nat) (h : i ≤ j) : en ls i ≤ en ls j := by
  have : ls.take i = (ls.take j).take i := by rw [List.take_take]; congr 1; omega
  unfold en
  rw [this]
  exact en_le (ls.take j) i
theorem lg_take (ls : List (List It)) (k : Nat) : (lg ls).take (en ls k) = lg (ls.take k) := by
  have h := lg_split ls k
  conv => lhs; rw [h]
  unfold en
  rw [List.take_append_of_le_length (Nat.le_refl _), List.take_length]
theorem lg_drop (ls : List (List It)) (k : Nat) : (lg ls).drop (en ls k) = lg (ls.drop k) := by
  have h := lg_split ls k
  conv => lhs; rw [h]
  unfold en
  exact List.drop_left
/-- A log that is cut at K, n of its batches whole. -/
theorem rp_cut (ls : List (List It)) (h : ∀ l ∈ ls, Bg l) (n K : Nat) (hn : n ≤ ls.length) (hK : K ≤ (lg ls).length) (h1 : en ls n ≤ K) (h2 : n < ls.length → K < en ls (n + 1)) : rp ((lg ls).take K) = (ls.take n, en ls n, 0) := by
  have hg : ∀ l ∈ ls.take n, Bg l := fun l hl => h l (List.mem_of_mem_take hl)
  have e : (lg ls).take K = lg (ls.take n) ++ (lg (ls.drop n)).take (K - en ls n) := by
    conv => lhs; rw [lg_split ls n]
    rw [List.take_append, List.take_of_length_le (by unfold en at h1; omega)]
    rfl
  rw [e, rp_lg _ hg]
  have hr : rp ((lg (ls.drop n)).take (K - en ls n)) = ([], 0, 0) := by
    rcases Nat.lt_or_ge n ls.length with hl | hl
    · have hx : ls[n]? = some ls[n] := List.getElem?_eq_getElem hl
      have hd : ls.drop n = ls[n] :: ls.drop (n + 1) := List.drop_eq_getElem_cons hl
      have h3 := en_succ ls n _ hx
      have h4 := h2 hl
      rw [hd, lg_cons, List.take_append_of_le_length (by omega)]
      exact rp_torn (h _ (List.getElem_mem hl)) _ (by omega)
    · rw [List.drop_eq_nil_of_le hl]; simp [lg, rp_nil]
  rw [hr]
  simp [en]
/-- A frame in which up to three bits are turned is refused by its sums, or is as it was. -/
theorem fr_five (k : Int) (ys r : List Int) (qs : List Nat) (hk : 1 ≤ k) (hk2 : k ≤ 100) (hn : ys.length ≤ 4088) (hy : ByteL ys) (hq : qs.length ≤ 3) (hb : ∀ q ∈ qs, q < 8 * (ys.length + 12)) :
    flips (fr k ys) qs = fr k ys ∨ ce (flips (fr k ys) qs ++ r) = 5 := by
  have hhr := hd_range k ys.length hk hk2 (by omega)
  have hl1 : (sl (hd k ys.length)).length = 8 := by rw [sl_len, hd_len]
  have hl2 : (sl ys).length = ys.length + 4 := sl_len ys
  obtain ⟨us, bs, e, ha, hb1, ha2, hb2⟩ := flips_parts qs (sl (hd k ys.length)) (sl ys) 3 (fun q h => by rw [hl1, hl2]; have := hb q h; omega) hq
  rw [hl1] at ha2
  rw [hl2] at hb2
  unfold fr
  rw [e]
  have lA : (flips (sl (hd k ys.length)) us).length = 8 := by rw [flips_len, hl1]
  have lB : (flips (sl ys) bs).length = ys.length + 4 := by rw [flips_len, hl2]
  rcases flips_found (hd k ys.length) hhr (by rw [hd_len]; omega) us ha (fun q h => by have := ha2 q h; rw [hd_len]; omega) with h1 | h1
  · rw [h1]
    rcases flips_found ys hy hn bs hb1 (fun q h => hb2 q h) with h2 | h2
    · rw [h2]; exact .inl rfl
    · right
      rw [List.append_assoc]
      have hln := hd_ln k ys.length (flips (sl ys) bs ++ r) (by omega)
      have hbd : bd (sl (hd k ys.length) ++ (flips (sl ys) bs ++ r)) = flips (sl ys) bs := by
        unfold bd
        rw [hln, Int.toNat_natCast, ← List.append_assoc, List.take_append_of_le_length (by rw [List.length_append, hl1, lB]; omega), List.take_of_length_le (by rw [List.length_append, hl1, lB]; omega), List.drop_append_of_le_length (by omega), List.drop_eq_nil_of_le (by omega), List.nil_append]
      have hbe : be (sl (hd k ys.length) ++ (flips (sl ys) bs ++ r)) = 5 := by
        unfold be; rw [hbd, hln, Int.toNat_natCast, if_neg (show ¬ nn ((flips (sl ys) bs).drop ys.length) = crc ((flips (sl ys) bs).take ys.length) from h2)]
      unfold ce
      rw [if_neg (by rw [List.length_append, hl1]; omega), if_neg (by rw [hd_he _ _ _ hk hk2 (by omega)]; simp), if_neg (by rw [hd_kd, hln]; omega), if_neg (by rw [hln, List.length_append, List.length_append, hl1, lB]; omega), hbe]
  · right
    have hhe : he (flips (sl (hd k ys.length)) us ++ flips (sl ys) bs ++ r) = 5 := by
      unfold he
      rw [List.append_assoc, List.take_append_of_le_length (by omega), List.take_of_length_le (by omega), if_neg (show ¬ nn ((flips (sl (hd k ys.length)) us).drop 4) = crc ((flips (sl (hd k ys.length)) us).take 4) from h1)]
    unfold ce
    rw [if_neg (by rw [List.length_append, List.length_append, lA]; omega), hhe, if_pos (by decide)]
/-- A log in one batch of which up to three bits are turned. -/
theorem rp_turned (ls : List (List It)) (h : ∀ l ∈ ls, Bg l) (m : Nat) (l : List It) (hm : ls[m]? = some l) (hs : l.length ≤ 150) (qs : List Nat) (hq : qs.length ≤ 3) (hb : ∀ q ∈ qs, q < 8 * (bt l).length) :
    flips (lg ls) (qs.map (8 * en ls m + ·)) = lg ls ∨ rp (flips (lg ls) (qs.map (8 * en ls m + ·))) = ([], 0, 9) := by
  have hl := h l (List.mem_of_getElem? hm)
  have hd : ls.drop m = l :: ls.drop (m + 1) := by
    obtain ⟨hlt, rfl⟩ := List.getElem?_eq_some_iff.1 hm
    exact List.drop_eq_getElem_cons hlt
  have e : lg ls = lg (ls.take m) ++ (bt l ++ lg (ls.drop (m + 1))) := by rw [← lg_cons, ← hd]; exact lg_split ls m
  have hsz := ibn_short l hl.ok
  have hg : ∀ x ∈ ls.take m, Bg x := fun x hx => h x (List.mem_of_mem_take hx)
  have hfl : ∀ (qs : List Nat) (A B : List Int), (∀ q ∈ qs, q < 8 * A.length) → flips (A ++ B) qs = flips A qs ++ B := by
    intro qs
    induction qs with
    | nil => intro A B _; rfl
    | cons q qs ih =>
      intro A B hq
      show flips (flip (A ++ B) q) qs = flips (flip A q) qs ++ B
      rw [flip_left A B q (hq q (by simp)), ih _ _ (fun x hx => by rw [flip_len]; exact hq x (by simp [hx]))]
  have e2 : flips (lg ls) (qs.map (8 * en ls m + ·)) = lg (ls.take m) ++ (flips (bt l) qs ++ lg (ls.drop (m + 1))) := by
    unfold en
    rw [e, show lg (List.take m (ls)) = lg (ls.take m) from rfl, flips_right, hfl qs _ _ hb]
  rw [e2]
  rcases fr_five 1 (ibn l) (lg (ls.drop (m + 1))) qs (by omega) (by omega) (by omega) hl.byte hq (fun q h => by have := hb q h; rw [bt_len] at this; exact this) with h1 | h1
  · left; rw [show bt l = fr 1 (ibn l) from rfl, h1]; exact e.symm
  · right
    rw [rp_lg _ hg]
    have hc : ce (flips (bt l) qs ++ lg (ls.drop (m + 1))) = 5 := h1
    have hx : flips (bt l) qs ++ lg (ls.drop (m + 1)) ≠ [] := fun e => by
      have := congrArg List.length e
      rw [List.length_append, flips_len, bt_len] at this
      simp at this
    have hr : rp (flips (bt l) qs ++ lg (ls.drop (m + 1))) = ([], 0, 9) := by
      unfold rp
      rw [SP_bad _ hx (by rw [hc]; decide), hc]
      rfl
    rw [hr]
    rfl

end Go.Proofs.YtdldpdllhnpdaaaGreat.Clep

/- What log.Batch and log.unbatch do when called (walks over the translated program): for any items, any bytes. No conditions. -/
namespace Go.Proofs.YtdldpdllhnpdaaaGreat.Clep
open Go.RowKit
set_option linter.unusedVariables false
set_option maxRecDepth 10000

theorem own_nil (w : World) (B : Nat) : Own w B (.slice none 0 0) [] := World.ownsRow_nil _ _ _ _
set_option maxHeartbeats 400000 in
theorem batch_bad (a : Option Addr) (n c : Nat) (l : List It) (w : World) (h : Is w a n c l) (hn : n ≤ 9223372036854775807) (E : Int) (hE : bmay l = E) (hne : E ≠ 0) :
    Calls Tryz.prog 27 #[.slice a n c] w fun e w' => e = .returned (.tuple #[.slice none 0 0, .int .i64 E]) ∧ Below w.heap.size w w' := by
  have hl := h.1
  unfold bmay may at hE
  rw [hl] at hE
  by_cases h0 : n = 0
  · rw [if_pos h0] at hE
    subst h0 hE
    go_enter Tryz.func27, Tryz.ntmps27
    go_wp2
    go_ret2
    exact ⟨rfl, Below.refl _ _⟩
  · rw [if_neg h0] at hE
    have hn0 : ¬ ((n : Int) = 0) := by omega
    by_cases h1 : 2000 < n
    · rw [if_pos h1, if_pos (by decide)] at hE
      subst hE
      have C := hide (bytes_long none a 0 0 n c w h1 hn)
      go_enter Tryz.func27, Tryz.ntmps27
      go_wp2_with fail
      refine C.out.mono ?_
      rintro e w1 ⟨rfl, rfl⟩
      go_wp2
      go_ret2
      exact ⟨rfl, Below.refl _ _⟩
    · rw [if_neg h1] at hE
      by_cases h2 : l.all It.ok = true
      · rw [if_pos h2, if_neg (by simp)] at hE
        by_cases h3 : 60000 < (ibn l).length
        · rw [if_pos h3] at hE
          subst hE
          have C := hide (bytes_any none a 0 0 n c [] l w (by omega) (by omega) (bs_nil w) h h2)
          have hr := hide (range_of (ibn_range l h.2.2.1 (by omega)))
          have hm := (ibn_len l (by omega)).2
          generalize hL : (ibn l).length = L at *
          have HL := hide hL
          clear hL
          go_enter Tryz.func27, Tryz.ntmps27
          go_wp2_with fail
          refine C.out.mono ?_
          rintro e w1 ⟨v, rfl, ho, hb1⟩
          rw [List.nil_append] at ho
          obtain ⟨a1, c1, hv, -, -, -⟩ := own_bs ho hr.out
          rw [HL.out] at hv
          subst hv
          have P := hide (fput_long none a1 0 0 L c1 1 w1 (by omega) (by omega) h3 (by omega))
          have HB := hide hb1
          clear ho hb1 C
          go_wp2_with fail
          refine P.out.mono ?_
          rintro e w2 ⟨rfl, rfl⟩
          go_wp2
          go_ret2
          exact ⟨rfl, HB.out⟩
        · rw [if_neg h3] at hE
          exact absurd hE.symm hne
      · rw [if_neg h2, if_pos (by decide)] at hE
        subst hE
        have C := hide (bytes_bad none a 0 0 n c [] l w (by omega) (by omega) (bs_nil w) h (by simpa using h2))
        go_enter Tryz.func27, Tryz.ntmps27
        go_wp2_with fail
        refine C.out.mono ?_
        rintro e w1 ⟨rfl, hb⟩
        have HB := hide hb
        clear hb
        go_wp2
        go_ret2
        exact ⟨rfl, HB.out⟩
set_option maxHeartbeats 400000 in
theorem batch_ok (a : Option Addr) (n c : Nat) (l : List It) (w : World) (h : Is w a n c l) (hg : Bg l) :
    Calls Tryz.prog 27 #[.slice a n c] w fun e w' => ∃ v, e = .returned (.tuple #[v, .int .i64 0]) ∧ Own w' w.heap.size v (bt l) ∧ Below w.heap.size w w' := by
  have hl := h.1
  have h1 := hg.ne
  have h2 := hg.len
  have hn0 : ¬ ((n : Int) = 0) := by omega
  have C := hide (bytes_any none a 0 0 n c [] l w (by omega) (by omega) (bs_nil w) h hg.ok)
  have hr := hide (range_of (ibn_range l h.2.2.1 (by omega)))
  have hm := hg.sz
  have HBT := hide (show bt l = fr 1 (ibn l) from rfl)
  generalize hL : (ibn l).length = L at *
  have HL := hide hL
  clear hL
  go_enter Tryz.func27, Tryz.ntmps27
  go_wp2_with fail
  refine C.out.mono ?_
  rintro e w1 ⟨v, rfl, ho, hb1⟩
  rw [List.nil_append] at ho
  obtain ⟨a1, c1, hv, -, hB, -⟩ := own_bs ho hr.out
  rw [HL.out] at hv hB
  subst hv
  have P := hide (fput_any none a1 0 0 L c1 [] (ibn l) 1 w1 (by omega) (by omega) hm (by omega) (bs_nil w1) hB)
  have HB := hide hb1
  clear ho hb1 C hB
  go_wp2_with fail
  refine P.out.mono ?_
  rintro e w2 ⟨v2, rfl, ho2, hb2⟩
  rw [List.nil_append, ← HBT.out] at ho2
  have HO := hide (own_base ho2 HB.out.size)
  have HB2 := hide (bmore HB.out hb2)
  clear ho2 hb2
  go_wp2
  go_ret2
  exact ⟨_, rfl, HO.out, HB2.out⟩
/-- Both at once. -/
theorem batch_any (a : Option Addr) (n c : Nat) (l : List It) (w : World) (h : Is w a n c l) (hn : n ≤ 9223372036854775807) :
    Calls Tryz.prog 27 #[.slice a n c] w fun e w' => ∃ v, e = .returned (.tuple #[v, .int .i64 (bmay l)]) ∧ Own w' w.heap.size v (if bmay l = 0 then bt l else []) ∧ Below w.heap.size w w' := by
  by_cases hz : bmay l = 0
  · refine (batch_ok a n c l w h (bg_of h.2.2.1 hz)).mono ?_
    rintro e w' ⟨v, rfl, ho, hb⟩
    rw [hz, if_pos rfl]
    exact ⟨v, rfl, ho, hb⟩
  · refine (batch_bad a n c l w h hn _ rfl hz).mono ?_
    rintro e w' ⟨rfl, hb⟩
    rw [if_neg hz]
    exact ⟨_, rfl, own_nil _ _, hb⟩

set_option maxHeartbeats 400000 in
theorem unbatch_any (k : Int) (ao : Option Addr) (len cap : Nat) (zs : List Int) (w : World) (hc : cap ≤ 9223372036854775807) (h : Bs w ao len cap zs) :
    Calls Tryz.prog 43 #[.int .i64 k, .slice ao len cap] w fun e w' => ∃ v, e = .returned (.tuple #[v, .bool (gb (k, zs))]) ∧ (gb (k, zs) = true → OwnI w' w.heap.size v (gi (k, zs))) ∧ Below w.heap.size w w' := by
  have C := hide (read_any ao len cap zs w hc h)
  have HG := hide (show gb (k, zs) = (k == 1 && ((rd zs).2 == 0 && !((rd zs).1.length == 0))) from rfl)
  have HI := hide (show gi (k, zs) = (rd zs).1 from rfl)
  clear h
  generalize gb (k, zs) = G at *
  by_cases hk : k = 1
  · subst hk
    go_enter Tryz.func43, Tryz.ntmps43
    go_wp2_with fail
    refine C.out.mono ?_
    rintro e w1 ⟨v, rfl, ho, hb⟩
    have HO := hide ho
    have hlv := ownI_len ho
    have hshape : ∃ a1 n1 c1, v = .slice a1 n1 c1 := by
      obtain ⟨_, ⟨rfl, _⟩ | ⟨g, cap, cur, rfl, _⟩⟩ := ho
      · exact ⟨_, _, _, rfl⟩
      · exact ⟨_, _, _, rfl⟩
    obtain ⟨a1, n1, c1, rfl⟩ := hshape
    have hn1 : n1 = (rd zs).1.length := hlv
    rw [← hn1] at HG
    have HB := hide hb
    rw [← HI.out] at HO
    clear C ho hb hlv hn1 HI
    generalize (rd zs).2 = E at *
    by_cases hE : E = 0
    · subst hE
      by_cases h0 : n1 = 0
      · have hG : G = false := by rw [HG.out, h0]; simp
        subst h0 hG
        clear HG
        go_wp2
        go_ret2
        exact ⟨_, rfl, (fun h => by cases h), HB.out⟩
      · have hG : G = true := by rw [HG.out]; simp [h0]
        have h0' : ¬ ((n1 : Int) = 0) := by omega
        subst hG
        clear HG
        go_wp2
        go_ret2
        exact ⟨_, rfl, (by first | exact HO.out | exact fun _ => HO.out), HB.out⟩
    · have hG : G = false := by rw [HG.out]; simp [hE]
      subst hG
      clear HG
      go_wp2
      go_ret2
      exact ⟨_, rfl, (fun h => by cases h), HB.out⟩
  · have hG : G = false := by rw [HG.out]; simp [hk]
    subst hG
    clear HG C HI
    go_enter Tryz.func43, Tryz.ntmps43
    go_wp2
    go_ret2
    exact ⟨_, rfl, (fun h => by cases h), Below.refl _ _⟩

end Go.Proofs.YtdldpdllhnpdaaaGreat.Clep
