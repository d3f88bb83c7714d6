/- A table's bytes, what their blocks are read as, and that bits turned in them are found. No conditions but the bounds. -/
import Derived.Test.YtodhljiboakjnaaGreatZs
import Derived.Test.YtodhljiboakjnaaGreatZe
import Derived.Test.YtodhljiboakjnaaGreatZw
import Derived.Test.YtodhljiboakjnaaGreatXb
import Derived.Test.YtodhljiboakjnaaGreatXc
import Derived.Test.YtodhljiboakjnaaGreatBc
import Derived.Test.YtodhljiboakjnaaGreatBa
namespace Go.Proofs.YtodhljiboakjnaaGreat.Clep
open Go.RowKit
set_option linter.unusedVariables false
set_option maxRecDepth 10000

/-- All bits of the Filter of l. -/
def fN (sz : Nat) (l : List It) : Nat := l.foldl (fun N x => addk (fnv (kb x.S x.K x.T)) sz 7 N) 0
/-- The first j blocks. -/
def bls (l : List It) : Nat → List Int
  | 0 => []
  | j + 1 => bls l j ++ bkb (ck 20 l j)
/-- What the index says of them. -/
def ixs (l : List It) : Nat → List Int
  | 0 => []
  | j + 1 => ixs l j ++ pu ((bls l j).length : Nat) ++ ibn ((ck 20 l j).take 1)
def nb (l : List It) : Nat := cnr 20 l.length
def tS (l : List It) : Nat := sOf l.length 10
def tA (l : List It) : List Int := bls l (nb l)
def tI (l : List It) : List Int := ixs l (nb l)
def tF (l : List It) : List Int := fb 7 (tS l) (fN (tS l) l)
def tB (l : List It) : List Int := tA l ++ fr 3 (tI l)
def tC (l : List It) : List Int := tB l ++ fr 4 (tF l)
def tE (l : List It) : List Int := pu ((tA l).length : Nat) ++ pu ((tB l).length : Nat) ++ pu (l.length : Nat)
def tb (l : List It) : List Int := tC l ++ fr 5 (tE l)
/-- Items of which there is a table. -/
structure TOk (l : List It) : Prop where
  rise : Rise l
  ok : ∀ x ∈ l, x.ok = true
  wf : ∀ x ∈ l, x.wf
  len : l.length ≤ 2000
theorem tme_zero {l : List It} (h : tme l = 0) (hw : ∀ x ∈ l, x.wf) : TOk l := by
  unfold tme at h
  split at h
  · cases h
  · split at h
    · rename_i h1 h2
      have := risB_iff.1 h2
      exact ⟨this.1, this.2, hw, by omega⟩
    · cases h
theorem TOk.tme {l : List It} (h : TOk l) : tme l = 0 := by
  unfold Clep.tme
  rw [if_neg (by have := h.len; omega), if_pos (risB_iff.2 ⟨h.rise, h.ok⟩)]
theorem nb_lt {l : List It} {j : Nat} : j < nb l ↔ j * 20 < l.length := by
  unfold nb cnr; omega
theorem nb_le {l : List It} (h : l.length ≤ 2000) : nb l ≤ 100 := by unfold nb cnr; omega
theorem ck_mem {l : List It} {s j : Nat} {x : It} (h : x ∈ ck s l j) : x ∈ l := List.mem_of_mem_drop (List.mem_of_mem_take h)
theorem ck_sub (l : List It) (s j : Nat) : (ck s l j).Sublist l := (List.take_sublist _ _).trans (List.drop_sublist _ _)
theorem ck_len (l : List It) (s j : Nat) : (ck s l j).length = min s (l.length - j * s) := by unfold ck; simp
theorem TOk.fit {l : List It} (h : TOk l) {j : Nat} (hj : j < nb l) : fit (ck 20 l j) = true :=
  fit_iff.2 ⟨by rw [ck_len]; have := nb_lt.1 hj; omega, by rw [ck_len]; omega, h.rise.sublist (ck_sub l 20 j)⟩
theorem TOk.allok {l : List It} (h : TOk l) (j : Nat) : (ck 20 l j).all It.ok = true := List.all_eq_true.2 fun x hx => h.ok x (ck_mem hx)
theorem TOk.wfs {l : List It} (h : TOk l) (j : Nat) : ∀ x ∈ ck 20 l j, x.wf := fun x hx => h.wf x (ck_mem hx)
theorem take_ck (l : List It) (j : Nat) : l.take (j * 20) ++ ck 20 l j = l.take ((j + 1) * 20) := by
  unfold ck
  rw [Nat.succ_mul, List.take_add]
theorem ibn20 (l : List It) (h : l.length ≤ 20) : (ibn l).length ≤ 650 := by
  have h1 := ibs_len l
  have h2 := pu_len (l.length : Int)
  unfold ibn
  rw [List.length_append]
  omega
theorem ibn1 (l : List It) (h : l.length ≤ 1) : (ibn l).length ≤ 42 := by
  have h1 := ibs_len l
  have h2 := pu_len (l.length : Int)
  unfold ibn
  rw [List.length_append]
  omega
theorem bls_len (l : List It) : ∀ j, (bls l j).length ≤ 662 * j
  | 0 => by simp [bls]
  | j + 1 => by
    have h1 := bls_len l j
    have h2 := ibn20 (ck 20 l j) (by rw [ck_len]; omega)
    simp only [bls, List.length_append, bkb_len]
    omega
theorem ixs_len (l : List It) : ∀ j, (ixs l j).length ≤ 52 * j
  | 0 => by simp [ixs]
  | j + 1 => by
    have h1 := ixs_len l j
    have h2 := ibn1 ((ck 20 l j).take 1) (by rw [List.length_take]; omega)
    have h3 := pu_len ((bls l j).length : Int)
    simp only [ixs, List.length_append]
    omega
theorem bls_range {l : List It} (h : TOk l) : ∀ j, ByteL (bls l j)
  | 0 => by intro z hz; simp [bls] at hz
  | j + 1 => ByteL.append (bls_range h j) (bkb_range _ (h.wfs j) (by rw [ck_len]; omega))
theorem ixs_range {l : List It} (h : TOk l) : ∀ j, j ≤ 100 → ByteL (ixs l j)
  | 0, _ => by intro z hz; simp [ixs] at hz
  | j + 1, hj => by
    have := bls_len l j
    refine ByteL.append (ByteL.append (ixs_range h j (by omega)) (pu_range _ (by omega) (by omega))) ?_
    exact fun z hz => ibn_range _ (fun x hx => h.wfs j x (List.mem_of_mem_take hx)) (by rw [List.length_take]; omega) z hz
theorem tA_len {l : List It} (h : TOk l) : (tA l).length ≤ 66200 := by
  have h1 := bls_len l (nb l)
  have h2 := nb_le h.len
  unfold tA; omega
theorem tI_len {l : List It} (h : TOk l) : (tI l).length ≤ 5200 := by
  have h1 := ixs_len l (nb l)
  have h2 := nb_le h.len
  unfold tI; omega
theorem tS_rng {l : List It} (h : TOk l) : 8 ≤ tS l ∧ tS l ≤ 2500 := by
  have := h.len
  unfold tS sOf; omega
theorem tF_len {l : List It} (h : TOk l) : (tF l).length ≤ 2520 := by
  have h1 := tS_rng h
  have h2 := pu_len (7 : Nat)
  have h3 := pu_len (tS l : Nat)
  unfold tF; rw [fb_len]; omega
theorem tB_len {l : List It} (h : TOk l) : (tB l).length ≤ 71500 := by
  have h1 := tA_len h
  have h2 := tI_len h
  unfold tB; rw [List.length_append, fr_len]; omega
theorem tC_len {l : List It} (h : TOk l) : (tC l).length ≤ 74100 := by
  have h1 := tB_len h
  have h2 := tF_len h
  unfold tC; rw [List.length_append, fr_len]; omega
theorem tE_len (l : List It) : (tE l).length ≤ 30 := by
  have h1 := pu_len ((tA l).length : Nat)
  have h2 := pu_len ((tB l).length : Nat)
  have h3 := pu_len (l.length : Nat)
  unfold tE; rw [List.length_append, List.length_append]; omega
theorem tb_len {l : List It} (h : TOk l) : 36 ≤ (tb l).length ∧ (tb l).length ≤ 75000 := by
  have h1 := tC_len h
  have h2 := tE_len l
  unfold tb tC tB at *; simp only [List.length_append, fr_len] at *; omega
theorem tA_range {l : List It} (h : TOk l) : ByteL (tA l) := bls_range h _
theorem tI_range {l : List It} (h : TOk l) : ByteL (tI l) := ixs_range h _ (nb_le h.len)
theorem tF_range {l : List It} (h : TOk l) : ByteL (tF l) := fb_range 7 _ _ (by omega) (by have := tS_rng h; omega)
theorem tB_range {l : List It} (h : TOk l) : ByteL (tB l) := ByteL.append (tA_range h) (fr_range 3 _ (by omega) (by omega) (by have := tI_len h; omega) (tI_range h))
theorem tC_range {l : List It} (h : TOk l) : ByteL (tC l) := ByteL.append (tB_range h) (fr_range 4 _ (by omega) (by omega) (by have := tF_len h; omega) (tF_range h))
theorem tE_range {l : List It} (h : TOk l) : ByteL (tE l) := by
  have h1 := tA_len h
  have h2 := tB_len h
  have h3 := h.len
  exact ByteL.append (ByteL.append (pu_range _ (by omega) (by omega)) (pu_range _ (by omega) (by omega))) (pu_range _ (by omega) (by omega))
theorem tb_range {l : List It} (h : TOk l) : ByteL (tb l) := ByteL.append (tC_range h) (fr_range 5 _ (by omega) (by omega) (by have := tE_len l; omega) (tE_range h))

/-- What begin reads. -/
def bgs : Nat → List Int → List It → List It
  | 0, _, acc => acc
  | f + 1, X, acc => if acc.length ≤ 2000 ∧ isB X = true then bgs f (X.drop ((ln X).toNat + 12)) (acc ++ bx X) else acc
def bg (X : List Int) : List It := bgs 2001 X []
theorem bgs_stop (f : Nat) (X : List Int) (acc : List It) (h : ¬ (acc.length ≤ 2000 ∧ isB X = true)) : bgs f X acc = acc := by
  cases f with
  | zero => rfl
  | succ f => rw [bgs, if_neg h]
theorem bgs_step (f : Nat) (X : List Int) (acc : List It) (hf : 2001 ≤ f + acc.length) (h : acc.length ≤ 2000) (hb : isB X = true) : ∃ g, f = g + 1 ∧ bgs f X acc = bgs g (X.drop ((ln X).toNat + 12)) (acc ++ bx X) ∧ 2001 ≤ g + (acc ++ bx X).length := by
  obtain ⟨g, rfl⟩ : ∃ g, f = g + 1 := ⟨f - 1, by omega⟩
  refine ⟨g, rfl, by rw [bgs, if_pos ⟨h, hb⟩], ?_⟩
  have := (fit_iff.1 (isB_fit hb)).1
  rw [List.length_append]; omega
theorem bgs_blocks {l : List It} (hT : TOk l) (R : List Int) (hR : isB R = false) : ∀ d j f, j + d = nb l → 2001 ≤ f + (l.take (j * 20)).length → ∃ r, tA l = bls l j ++ r ∧ bgs f (r ++ R) (l.take (j * 20)) = l
  | 0, j, f, hj, hf => by
    refine ⟨[], by simp [tA, ← hj], ?_⟩
    have hn : l.length ≤ j * 20 := by
      have := mt (nb_lt (l := l) (j := j)).2 (by omega); omega
    rw [List.nil_append, bgs_stop _ _ _ (by simp [hR]), List.take_of_length_le hn]
  | d + 1, j, f, hj, hf => by
    have hjl : j < nb l := by omega
    have h1 := hT.fit hjl
    have hk : (l.take (j * 20)).length ≤ 2000 := by rw [List.length_take]; have := hT.len; omega
    obtain ⟨g, hfg⟩ : ∃ g, f = g + 1 := ⟨f - 1, by omega⟩
    have hc := fit_iff.1 h1
    obtain ⟨r', e1, e2⟩ := bgs_blocks hT R hR d (j + 1) g (by omega) (by
      rw [← take_ck, List.length_append]; omega)
    refine ⟨bkb (ck 20 l j) ++ r', by rw [e1]; simp [bls], ?_⟩
    obtain ⟨b1, b2, b3⟩ := isB_bkb (ck 20 l j) (r' ++ R) (hT.wfs j) h1 (hT.allok j)
    rw [hfg, List.append_assoc, bgs, if_pos ⟨hk, b1⟩, b2, b3, take_ck]
    rw [show (bkb (ck 20 l j) ++ (r' ++ R)).drop (((ibn (ck 20 l j)).length : Int).toNat + 12) = r' ++ R from drop_app _ _ _ (by rw [bkb_len]; omega)]
    exact e2
theorem isB_kd (k : Int) (ys r : List Int) (hk : k ≠ 2) : isB (fr k ys ++ r) = false := by
  cases h : isB (fr k ys ++ r) with
  | false => rfl
  | true => exact absurd ((fr_kd k ys r).symm.trans (isB_iff.1 h).2.1) hk
theorem bg_tb {l : List It} (h : TOk l) : bg (tb l) = l := by
  obtain ⟨r, e1, e2⟩ := bgs_blocks h (fr 3 (tI l) ++ (fr 4 (tF l) ++ fr 5 (tE l))) (isB_kd 3 _ _ (by decide)) (nb l) 0 2001 (by omega) (by simp)
  have e3 : r = tA l := by simpa [bls] using e1.symm
  unfold bg tb tC tB
  rw [e3] at e2
  simpa using e2
/-- X is a table's bytes. -/
def isT (X : List Int) : Bool := decide (tme (bg X) = 0 ∧ X = tb (bg X))
theorem isT_iff {X : List Int} : isT X = true ↔ tme (bg X) = 0 ∧ X = tb (bg X) := by unfold isT; simp
theorem isT_tb {l : List It} (h : TOk l) : isT (tb l) = true := isT_iff.2 ⟨by rw [bg_tb h]; exact h.tme, by rw [bg_tb h]⟩
theorem bgs_wf : ∀ (f : Nat) (X : List Int) (acc : List It), ByteL X → (∀ x ∈ acc, x.wf) → ∀ x ∈ bgs f X acc, x.wf
  | 0, X, acc, _, h => h
  | f + 1, X, acc, hX, h => by
    rw [bgs]
    split
    · refine bgs_wf f _ _ (fun z hz => hX z (List.mem_of_mem_drop hz)) fun x hx => ?_
      rcases List.mem_append.1 hx with e | e
      · exact h x e
      · exact rd_wf (bo X) (fun z hz => hX z (by unfold bo bd at hz; exact List.mem_of_mem_take (List.mem_of_mem_drop (List.mem_of_mem_take hz)))) x e
    · exact h
theorem isT_ok {X : List Int} (hX : ByteL X) (h : isT X = true) : TOk (bg X) := tme_zero (isT_iff.1 h).1 (bgs_wf _ _ _ hX (by simp))

/-- Frames one behind the other. -/
def frB (fs : List (Int × List Int)) : List Int := fs.flatMap fun p => fr p.1 p.2
def fsL (l : List It) : List (Int × List Int) := (List.range (nb l)).map (fun j => ((2 : Int), ibn (ck 20 l j))) ++ [(3, tI l), (4, tF l), (5, tE l)]
theorem bls_fr (l : List It) : ∀ j, bls l j = frB ((List.range j).map fun j => ((2 : Int), ibn (ck 20 l j)))
  | 0 => rfl
  | j + 1 => by
    rw [List.range_succ, List.map_append, frB, List.flatMap_append, bls, bls_fr l j]
    simp [frB, bkb]
theorem tb_fr (l : List It) : tb l = frB (fsL l) := by
  unfold fsL frB tb tC tB tA
  rw [List.flatMap_append, bls_fr]
  simp [frB]
def FrOk (m : Nat) (p : Int × List Int) : Prop := (1 ≤ p.1 ∧ p.1 ≤ 100) ∧ p.2.length ≤ m ∧ ByteL p.2
theorem fr_inj (k k' : Int) (ys ys' r r' : List Int) (h1 : ys.length ≤ 60000) (h2 : ys'.length ≤ 60000) (h : fr k ys ++ r = fr k' ys' ++ r') : k = k' ∧ ys = ys' ∧ r = r' := by
  have e1 := congrArg kd h
  rw [fr_kd, fr_kd] at e1
  have e2 := congrArg bo h
  rw [fr_bo _ _ _ h1, fr_bo _ _ _ h2] at e2
  subst e1; subst e2
  exact ⟨rfl, rfl, List.append_cancel_left h⟩
theorem frB_turned : ∀ (fs gs : List (Int × List Int)) (qs : List Nat), (∀ p ∈ fs, FrOk 4088 p) → (∀ p ∈ gs, FrOk 60000 p) → qs.length ≤ 3 → (∀ q ∈ qs, q < 8 * (frB fs).length) → flips (frB fs) qs = frB gs → flips (frB fs) qs = frB fs
  | [], gs, qs, _, _, _, hq, _ => by
    cases qs with
    | nil => rfl
    | cons q qs => have := hq q (by simp); simp [frB] at this
  | p :: fs, gs, qs, hf, hg, h3, hq, h => by
    obtain ⟨k, ys⟩ := p
    have hp := hf (k, ys) (by simp)
    have e0 : frB ((k, ys) :: fs) = fr k ys ++ frB fs := by simp [frB]
    rw [e0] at hq h ⊢
    rw [List.length_append] at hq
    obtain ⟨us, bs, e1, hu, hb, hus, hbs⟩ := flips_parts qs (fr k ys) (frB fs) 3 hq h3
    rw [e1] at h ⊢
    rcases fr_turned k ys (flips (frB fs) bs) us hp.1.1 hp.1.2 hp.2.1 hp.2.2 hu (by rw [fr_len] at hus; exact hus) with e | e
    · rw [e] at h ⊢
      cases gs with
      | nil =>
        have := congrArg List.length h
        rw [List.length_append, fr_len] at this
        simp [frB] at this
      | cons p' gs =>
        obtain ⟨k', ys'⟩ := p'
        have hp' := hg (k', ys') (by simp)
        rw [show frB ((k', ys') :: gs) = fr k' ys' ++ frB gs by simp [frB]] at h
        obtain ⟨-, -, e2⟩ := fr_inj _ _ _ _ _ _ (by have := hp.2.1; simp only at this; omega) hp'.2.1 h
        rw [frB_turned fs gs bs (fun p hp => hf p (by simp [hp])) (fun p hp => hg p (by simp [hp])) hb hbs e2]
    · exfalso
      cases gs with
      | nil =>
        have := congrArg List.length h
        rw [List.length_append, flips_len, fr_len] at this
        simp [frB] at this
      | cons p' gs =>
        obtain ⟨k', ys'⟩ := p'
        have hp' := hg (k', ys') (by simp)
        rw [show frB ((k', ys') :: gs) = fr k' ys' ++ frB gs by simp [frB]] at h
        rw [h] at e
        exact e (fr_ce k' ys' _ hp'.1.1 hp'.1.2 hp'.2.1 hp'.2.2)
theorem fsL_ok {l : List It} (h : TOk l) (m : Nat) (h1 : 650 ≤ m) (h2 : (tI l).length ≤ m) (h3 : (tF l).length ≤ m) : ∀ p ∈ fsL l, FrOk m p := by
  intro p hp
  unfold fsL at hp
  rcases List.mem_append.1 hp with e | e
  · obtain ⟨j, hj, rfl⟩ := List.mem_map.1 e
    exact ⟨by simp, Nat.le_trans (ibn20 _ (by rw [ck_len]; omega)) h1, bytel_ibn _ (h.wfs j) (by rw [ck_len]; omega)⟩
  · simp only [List.mem_cons, List.not_mem_nil, or_false] at e
    rcases e with rfl | rfl | rfl
    · exact ⟨by simp, h2, tI_range h⟩
    · exact ⟨by simp, h3, tF_range h⟩
    · exact ⟨by simp, by have := tE_len l; simp only; omega, tE_range h⟩
/-- Up to three bits that are turned in a table of at most 60 items make no table. -/
theorem tb_turned {l : List It} (h : TOk l) (h60 : l.length ≤ 60) (qs : List Nat) (h3 : qs.length ≤ 3) (hq : ∀ q ∈ qs, q < 8 * (tb l).length) (hT : isT (flips (tb l) qs) = true) : flips (tb l) qs = tb l := by
  have hX : ByteL (flips (tb l) qs) := flips_range _ _ (tb_range h)
  have hM := isT_ok hX hT
  have e := (isT_iff.1 hT).2
  generalize bg (flips (tb l) qs) = m at hM e
  rw [tb_fr] at hq ⊢
  rw [tb_fr, tb_fr m] at e
  refine frB_turned _ _ qs (fsL_ok h 4088 (by omega) (by have := tI_len h; have h1 := ixs_len l (nb l); unfold tI; have : nb l ≤ 3 := by { unfold nb cnr; omega }; omega) (by have := tF_len h; omega)) (fsL_ok hM 60000 (by omega) (by have := tI_len hM; omega) (by have := tF_len hM; omega)) h3 hq e

end Go.Proofs.YtodhljiboakjnaaGreat.Clep
