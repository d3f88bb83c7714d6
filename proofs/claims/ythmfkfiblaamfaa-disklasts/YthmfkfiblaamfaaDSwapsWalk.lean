/- Statement DiskSwaps says true for any two lengths, whatever is kept, the name Synced or not: the walk over the translated program. -/
import Derived.Test.YthmfkfiblaamfaaDBytes
namespace Go.Proofs.Ythmfkfiblaamfaa.Clep
open Go.RowKit Go.Maps
set_option linter.unusedVariables false

theorem and8 (a : Int) : ∃ n : Nat, bits .and .i64 a 255 = n ∧ n ≤ 255 := by
  have e : bits .and .i64 a 255 = IntKind.i64.wrap ((BitVec.ofInt 64 a &&& BitVec.ofInt 64 255).toNat : Int) := rfl
  have hle : (BitVec.ofInt 64 a &&& BitVec.ofInt 64 255).toNat ≤ 255 := by
    rw [BitVec.toNat_and]; exact Nat.le_trans Nat.and_le_right (by decide)
  rw [e]
  generalize (BitVec.ofInt 64 a &&& BitVec.ofInt 64 255).toNat = k at *
  refine ⟨k, ?_, hle⟩
  simp [IntKind.wrap, IntKind.bits, IntKind.signed]
  omega
theorem keep_full (f : Fl) (ks : List Int) (h : f.bs.length = f.lasts) : crashF f ks = f ∧ restK f ks = ks := by
  have h1 : keepN f ks = 0 := by unfold keepN; rw [if_pos h]
  refine ⟨?_, by unfold restK; rw [if_pos h]⟩
  unfold crashF
  rw [h1, Nat.add_zero, ← h, List.take_length]
  cases f
  simp only at h ⊢
  rw [h]
theorem crash_full : ∀ (fs : List Fl) (ks : List Int), (∀ f ∈ fs, f.bs.length = f.lasts) → crashAll fs ks = (fs, ks)
  | [], ks, _ => rfl
  | f :: r, ks, h => by
    have h1 := keep_full f ks (h f List.mem_cons_self)
    simp only [crashAll]
    rw [h1.1, h1.2, crash_full r ks (fun g hg => h g (List.mem_cons_of_mem _ hg))]
def bM : ByteArray := ⟨#[109]⟩
def bT : ByteArray := ⟨#[116]⟩
def nM : Lit := .string [109]
def nT : Lit := .string [116]
def sw0 : St := newS 1048576
def sw1 : St := ⟨1048576, 1, 0, 0, false, 1, [⟨1, [], 0⟩], .map [(nM, i64L 1)], .map [], [⟨0, bM, ⟨#[]⟩, 1⟩]⟩
def sw2 (A : List Int) : St := ⟨1048576, 2, 0, 0, false, 1, [⟨1, A, 0⟩], .map [(nM, i64L 1)], .map [], [⟨0, bM, ⟨#[]⟩, 1⟩]⟩
def sw3 (A : List Int) : St := ⟨1048576, 3, 0, 0, false, 1, [⟨1, A, A.length⟩], .map [(nM, i64L 1)], .map [], [⟨0, bM, ⟨#[]⟩, 1⟩]⟩
def sw4 (A : List Int) : St := ⟨1048576, 4, 0, 0, false, 2, [⟨1, A, A.length⟩, ⟨2, [], 0⟩], .map [(nM, i64L 1), (nT, i64L 2)], .map [], [⟨0, bM, ⟨#[]⟩, 1⟩, ⟨0, bT, ⟨#[]⟩, 2⟩]⟩
def sw5 (A B : List Int) : St := ⟨1048576, 5, 0, 0, false, 2, [⟨1, A, A.length⟩, ⟨2, B, 0⟩], .map [(nM, i64L 1), (nT, i64L 2)], .map [], [⟨0, bM, ⟨#[]⟩, 1⟩, ⟨0, bT, ⟨#[]⟩, 2⟩]⟩
def sw6 (A B : List Int) : St := ⟨1048576, 6, 0, 0, false, 2, [⟨1, A, A.length⟩, ⟨2, B, B.length⟩], .map [(nM, i64L 1), (nT, i64L 2)], .map [], [⟨0, bM, ⟨#[]⟩, 1⟩, ⟨0, bT, ⟨#[]⟩, 2⟩]⟩
def sw7 (A B : List Int) : St := ⟨1048576, 7, 0, 0, false, 2, [⟨1, A, A.length⟩, ⟨2, B, B.length⟩], .map [(nM, i64L 1), (nT, i64L 2)], .map [(nM, i64L 1), (nT, i64L 2)], []⟩
def sw8 (A B : List Int) : St := ⟨1048576, 8, 0, 0, false, 2, [⟨1, A, A.length⟩, ⟨2, B, B.length⟩], .map [(nM, i64L 2)], .map [(nM, i64L 1), (nT, i64L 2)], [⟨1, bT, bM, 0⟩]⟩
def sw9 (A B : List Int) : St := ⟨1048576, 9, 0, 0, false, 2, [⟨2, B, B.length⟩], .map [(nM, i64L 2)], .map [(nM, i64L 2)], []⟩
def sw10 (A B : List Int) (n : Nat) : St := ⟨1048576, n, 0, 0, false, 2, [⟨2, B, B.length⟩], .map [(nM, i64L 2)], .map [(nM, i64L 2)], []⟩
def sw11 (A B : List Int) : St := ⟨1048576, 8, 0, 0, false, 2, [⟨1, A, A.length⟩, ⟨2, B, B.length⟩], .map [(nM, i64L 1), (nT, i64L 2)], .map [(nM, i64L 1), (nT, i64L 2)], []⟩
theorem swap1 : createS sw0 bM = (0, sw1) := by kernel_rfl
theorem swap2 (A : List Int) (h : A.length ≤ 255) : appendS sw1 bM A = (0, sw2 A) := by
  have e : appendS sw1 bM A = if 250000 < 0 + A.length then (2, (beginS sw1).2) else if 1048576 < 0 + A.length then (15, (beginS sw1).2) else (0, sw2 ([] ++ A)) := by kernel_rfl
  rw [e, if_neg (by omega), if_neg (by omega), List.nil_append]
theorem swap3 (A : List Int) : syncS (sw2 A) bM = (0, sw3 A) := by kernel_rfl
theorem swap4 (A : List Int) : createS (sw3 A) bT = (0, sw4 A) := by kernel_rfl
theorem swap5 (A B : List Int) (ha : A.length ≤ 255) (h : B.length ≤ 255) : appendS (sw4 A) bT B = (0, sw5 A B) := by
  have e : appendS (sw4 A) bT B = if 250000 < 0 + B.length then (2, (beginS (sw4 A)).2) else if 1048576 < A.length + (0 + 0) + B.length then (15, (beginS (sw4 A)).2) else (0, sw5 A ([] ++ B)) := by kernel_rfl
  rw [e, if_neg (by omega), if_neg (by omega), List.nil_append]
theorem swap6 (A B : List Int) : syncS (sw5 A B) bT = (0, sw6 A B) := by kernel_rfl
theorem swap7 (A B : List Int) : syncDirS (sw6 A B) = (0, sw7 A B) := by kernel_rfl
theorem swap8 (A B : List Int) : renS (sw7 A B) bT bM = (0, sw8 A B) := by
  unfold renS
  rw [if_neg (by decide), if_neg (by show ¬ ((beginS (sw7 A B)).1 ≠ 0); exact fun h => h rfl), if_neg (show ¬ _ from (by show ¬ (Option.isNone (some (⟨2, B, B.length⟩ : Fl)) = true); simp)), if_neg (by decide)]
  rfl
theorem swap9 (A B : List Int) : syncDirS (sw8 A B) = (0, sw9 A B) := by kernel_rfl
theorem swap10 (A B : List Int) (ks : List Int) : crashS (sw9 A B) ks = sw10 A B 9 := by
  unfold crashS
  rw [show (sw9 A B).files = [⟨2, B, B.length⟩] from rfl, crash_full _ ks (by intro f hf; rw [List.mem_singleton] at hf; subst hf; rfl)]
  kernel_rfl
theorem swap11 (A B : List Int) (ks : List Int) : crashS (sw8 A B) ks = if evenK ks then sw10 A B 8 else sw11 A B := by
  unfold crashS
  rw [show (sw8 A B).files = [⟨1, A, A.length⟩, ⟨2, B, B.length⟩] from rfl, crash_full _ ks (by intro f hf; simp at hf; rcases hf with rfl | rfl <;> rfl),
    show (sw8 A B).since = [⟨1, bT, bM, 0⟩] from rfl]
  simp only [doAll]
  cases evenK ks
  · kernel_rfl
  · kernel_rfl

theorem b_step {w2 W W' : World} (h : Below w2.heap.size w2 W) (hb : Below W.heap.size W W') : Below w2.heap.size w2 W' := h.trans (hb.mono h.size)
set_option maxHeartbeats 1600000 in
set_option maxRecDepth 8000 in
theorem swaps_any (a b : Int) (ao : Option Addr) (len cap : Nat) (ks : List Int) (sy : Bool) (w : World) (hk : NumV (· < w.heap.size) w (.slice ao len cap) ks) :
    Calls Try.prog 6 #[.int .i64 a, .int .i64 b, .slice ao len cap, .bool sy] w fun e w' => e = .returned (.bool true) ∧ Below w.heap.size w w' := by
  obtain ⟨la, hla, hla2⟩ := and8 a
  obtain ⟨lb, hlb, hlb2⟩ := and8 b
  have HK := hide hk
  have NW := hide (new_h 1048576 w (by omega) 1048576 rfl)
  clear hk
  go_enter Try.func6, Try.ntmps6
  go_wp2_with fail
  refine NW.out.mono ?_
  rintro e w0 ⟨R, rfl, H0, B0⟩
  have HH0 := hide H0
  have HB0 := hide B0
  clear H0 B0 NW
  go_wp2_with fail
  refine (create_h bM swap1 HH0.out (by decide) (by decide)).mono ?_
  rintro e w1 ⟨rfl, H1, S1⟩
  have HB1 := hide (HB0.out.trans (S1.below (fun i hi => hi)))
  have HH1 := hide (H1)
  clear H1 S1 HB0 HH0
  go_wp2_with fail
  refine (bytes_any 1 la w1 (by omega) (by omega)).mono ?_
  rintro e x1 ⟨rfl, y1⟩
  obtain ⟨c1, z1, hcv1, hc1, hb1, hB1, _, hl1⟩ := str_bytes x1 (byt 1 la) (byt_range 1 la)
  have hbz1 := y1.trans (hb1.out.mono y1.size)
  have HZ1 := hide (HH1.out.wide hbz1)
  have HBZ1 := hide (HB1.out.trans (hbz1.mono HB1.out.size))
  have hlo1 : w1.heap.size ≤ x1.heap.size := y1.size
  have hln1 := byt_len 1 la
  have AP1 := hide (append_h bM (some ⟨x1.heap.size, 0, none⟩) _ c1 (byt 1 la) (swap2 _ (by rw [byt_len]; omega)) HZ1.out (by decide) (by decide) hB1.out (by rw [hln1]; omega) (fun b off h => by cases h; exact .inr ⟨hlo1, hl1.out⟩))
  rw [hln1] at hcv1 AP1
  clear y1 hbz1 HZ1 hb1 hB1 hl1 hlo1 hln1 HH1 HB1
  go_wp2_with fail
  refine AP1.out.mono ?_
  rintro e w2 ⟨rfl, H2, S2⟩
  have HB2 := hide (HBZ1.out.trans (S2.below (fun i hi => .inl hi)))
  have HH2 := hide (H2.less (fun i hi => .inl hi) : Held (· < w.heap.size) w2 R _)
  clear H2 S2 HBZ1 AP1 hcv1 hc1
  go_wp2_with fail
  refine (sync_h bM (swap3 _) HH2.out (by show 2 < 1099511627776; omega) (by decide)).mono ?_
  rintro e w3 ⟨rfl, H3, S3⟩
  have HB3 := hide (HB2.out.trans (S3.below (fun i hi => hi)))
  have HH3 := hide (H3)
  clear H3 S3 HB2 HH2
  go_wp2_with fail
  refine (create_h bT (swap4 _) HH3.out (by show 3 < 1099511627776; omega) (by decide)).mono ?_
  rintro e w4 ⟨rfl, H4, S4⟩
  have HB4 := hide (HB3.out.trans (S4.below (fun i hi => hi)))
  have HH4 := hide (H4)
  clear H4 S4 HB3 HH3
  go_wp2_with fail
  refine (bytes_any 2 lb w4 (by omega) (by omega)).mono ?_
  rintro e x4 ⟨rfl, y4⟩
  obtain ⟨c4, z4, hcv4, hc4, hb4, hB4, _, hl4⟩ := str_bytes x4 (byt 2 lb) (byt_range 2 lb)
  have hbz4 := y4.trans (hb4.out.mono y4.size)
  have HZ4 := hide (HH4.out.wide hbz4)
  have HBZ4 := hide (HB4.out.trans (hbz4.mono HB4.out.size))
  have hlo4 : w4.heap.size ≤ x4.heap.size := y4.size
  have hln4 := byt_len 2 lb
  have AP4 := hide (append_h bT (some ⟨x4.heap.size, 0, none⟩) _ c4 (byt 2 lb) (swap5 _ _ (by rw [byt_len]; omega) (by rw [byt_len]; omega)) HZ4.out (by show 4 < 1099511627776; omega) (by decide) hB4.out (by rw [hln4]; omega) (fun b off h => by cases h; exact .inr ⟨hlo4, hl4.out⟩))
  rw [hln4] at hcv4 AP4
  clear y4 hbz4 HZ4 hb4 hB4 hl4 hlo4 hln4 HH4 HB4
  go_wp2_with fail
  refine AP4.out.mono ?_
  rintro e w5 ⟨rfl, H5, S5⟩
  have HB5 := hide (HBZ4.out.trans (S5.below (fun i hi => .inl hi)))
  have HH5 := hide (H5.less (fun i hi => .inl hi) : Held (· < w.heap.size) w5 R _)
  clear H5 S5 HBZ4 AP4 hcv4 hc4
  go_wp2_with fail
  refine (sync_h bT (swap6 _ _) HH5.out (by show 5 < 1099511627776; omega) (by decide)).mono ?_
  rintro e w6 ⟨rfl, H6, S6⟩
  have HB6 := hide (HB5.out.trans (S6.below (fun i hi => hi)))
  have HH6 := hide (H6)
  clear H6 S6 HB5 HH5
  go_wp2_with fail
  refine (syncDir_h (swap7 _ _) HH6.out (by show 6 < 1099511627776; omega)).mono ?_
  rintro e w7 ⟨rfl, H7, S7⟩
  have HB7 := hide (HB6.out.trans (S7.below (fun i hi => hi)))
  have HH7 := hide (H7)
  clear H7 S7 HB6 HH6
  go_wp2_with fail
  refine (rename_h bT bM (swap8 _ _) HH7.out (by show 7 < 1099511627776; omega) (by decide) (by decide)).mono ?_
  rintro e w8 ⟨rfl, H8, S8⟩
  have HB8 := hide (HB7.out.trans (S8.below (fun i hi => hi)))
  have HH8 := hide (H8)
  clear H8 S8 HB7 HH7
  cases sy
  · cases hev : evenK ks
    · have hcr : crashS (sw8 (byt 1 la) (byt 2 lb)) ks = sw11 (byt 1 la) (byt 2 lb) := by rw [swap11, hev]; rfl
      go_wp2_with fail
      refine (crash_h ao len cap ks (hcr) HH8.out (by show 8 ≤ 1099511627776; omega) (HK.out.keep (fun j hj _ => HB8.out.block j hj))).mono ?_
      rintro e wc ⟨rfl, Hc, Sc⟩
      have HBc := hide (HB8.out.trans (Sc.below (fun i hi => hi)))
      have HHc := hide Hc
      clear Hc Sc HB8 HH8
      go_wp2_with fail
      refine (read_h bM (show readS (sw11 (byt 1 la) (byt 2 lb)) bM = (0, byt 1 la) from rfl) HHc.out (by decide)).mono ?_
      rintro e wd ⟨xo, xc, rfl, xO, _, Bd⟩
      have HBd := hide (HBc.out.trans (Bd.mono HBc.out.size))
      obtain ⟨xo', xc', xe, hall⟩ := own_conv xO (byt_range 1 la) la (byt_len 1 la)
      rw [byt_len] at xe
      injection xe with e1 e2 e3
      subst e1 e3
      rw [byt_len]
      have hrefl := Below.refl wd.heap.size wd
      have hall' := hall.out
      clear Bd xO HBc HHc hall
      go_wp2_with fail
      go_region_held_law (fun W => Below wd.heap.size wd W)
        (first | assumption | exact Below.drew (by assumption) | exact b_step (by assumption) (by assumption))
        (first | (go_at_call 15; refine (bytes_any _ _ _ (by omega) (by omega)).mono ?_; rintro e w' ⟨rfl, hb'⟩))
      all_goals
        have hq : Below wd.heap.size wd w' := by assumption
        have HBe := hide (HBd.out.trans (hq.mono HBd.out.size))
        have AW := hide (awake_any w')
        generalize ((strOfNums (byt 1 la)).toList == (strOfNums (byt 2 lb)).toList) = q at *
        clear hq hall' hrefl HBd
        cases q
        · go_wp2_with fail
          refine AW.out.mono ?_
          rintro e wz ⟨rfl, Bz⟩
          have HBz := hide (HBe.out.trans (Bz.mono HBe.out.size))
          clear Bz AW
          go_wp2
          go_ret
          exact ⟨rfl, HBz.out⟩
        · go_wp2_with fail
          refine AW.out.mono ?_
          rintro e wz ⟨rfl, Bz⟩
          have HBz := hide (HBe.out.trans (Bz.mono HBe.out.size))
          clear Bz AW
          go_wp2
          go_ret
          exact ⟨rfl, HBz.out⟩
    · have hcr : crashS (sw8 (byt 1 la) (byt 2 lb)) ks = sw10 (byt 1 la) (byt 2 lb) 8 := by rw [swap11, hev]; rfl
      go_wp2_with fail
      refine (crash_h ao len cap ks (hcr) HH8.out (by show 8 ≤ 1099511627776; omega) (HK.out.keep (fun j hj _ => HB8.out.block j hj))).mono ?_
      rintro e wc ⟨rfl, Hc, Sc⟩
      have HBc := hide (HB8.out.trans (Sc.below (fun i hi => hi)))
      have HHc := hide Hc
      clear Hc Sc HB8 HH8
      go_wp2_with fail
      refine (read_h bM (show readS (sw10 (byt 1 la) (byt 2 lb) 8) bM = (0, byt 2 lb) from rfl) HHc.out (by decide)).mono ?_
      rintro e wd ⟨xo, xc, rfl, xO, _, Bd⟩
      have HBd := hide (HBc.out.trans (Bd.mono HBc.out.size))
      obtain ⟨xo', xc', xe, hall⟩ := own_conv xO (byt_range 2 lb) lb (byt_len 2 lb)
      rw [byt_len] at xe
      injection xe with e1 e2 e3
      subst e1 e3
      rw [byt_len]
      have hrefl := Below.refl wd.heap.size wd
      have hall' := hall.out
      clear Bd xO HBc HHc hall
      go_wp2_with fail
      go_region_held_law (fun W => Below wd.heap.size wd W)
        (first | assumption | exact Below.drew (by assumption) | exact b_step (by assumption) (by assumption))
        (first | (go_at_call 15; refine (bytes_any _ _ _ (by omega) (by omega)).mono ?_; rintro e w' ⟨rfl, hb'⟩))
      all_goals
        have hq : Below wd.heap.size wd w' := by assumption
        have HBe := hide (HBd.out.trans (hq.mono HBd.out.size))
        have AW := hide (awake_any w')
        generalize ((strOfNums (byt 2 lb)).toList == (strOfNums (byt 1 la)).toList) = q at *
        clear hq hall' hrefl HBd
        cases q
        · go_wp2_with fail
          refine AW.out.mono ?_
          rintro e wz ⟨rfl, Bz⟩
          have HBz := hide (HBe.out.trans (Bz.mono HBe.out.size))
          clear Bz AW
          go_wp2
          go_ret
          exact ⟨rfl, HBz.out⟩
        · go_wp2_with fail
          refine AW.out.mono ?_
          rintro e wz ⟨rfl, Bz⟩
          have HBz := hide (HBe.out.trans (Bz.mono HBe.out.size))
          clear Bz AW
          go_wp2
          go_ret
          exact ⟨rfl, HBz.out⟩
  · go_wp2_with fail
    refine (syncDir_h (swap9 _ _) HH8.out (by show 8 < 1099511627776; omega)).mono ?_
    rintro e w9 ⟨rfl, H9, S9⟩
    have HB9 := hide (HB8.out.trans (S9.below (fun i hi => hi)))
    have HH9 := hide H9
    clear H9 S9 HB8 HH8
    go_wp2_with fail
    refine (crash_h ao len cap ks (swap10 _ _ ks) HH9.out (by show 9 ≤ 1099511627776; omega) (HK.out.keep (fun j hj _ => HB9.out.block j hj))).mono ?_
    rintro e wc ⟨rfl, Hc, Sc⟩
    have HBc := hide (HB9.out.trans (Sc.below (fun i hi => hi)))
    have HHc := hide Hc
    clear Hc Sc HB9 HH9
    go_wp2_with fail
    refine (read_h bM (show readS (sw10 (byt 1 la) (byt 2 lb) 9) bM = (0, byt 2 lb) from rfl) HHc.out (by decide)).mono ?_
    rintro e wd ⟨xo, xc, rfl, xO, _, Bd⟩
    have HBd := hide (HBc.out.trans (Bd.mono HBc.out.size))
    obtain ⟨xo', xc', xe, hall⟩ := own_conv xO (byt_range 2 lb) lb (byt_len 2 lb)
    rw [byt_len] at xe
    injection xe with e1 e2 e3
    subst e1 e3
    rw [byt_len]
    have hrefl := Below.refl wd.heap.size wd
    have hall' := hall.out
    clear Bd xO HBc HHc hall
    go_wp2_with fail
    go_region_held_law (fun W => Below wd.heap.size wd W)
      (first | assumption | exact Below.drew (by assumption) | exact b_step (by assumption) (by assumption))
      (first | (go_at_call 15; refine (bytes_any _ _ _ (by omega) (by omega)).mono ?_; rintro e w' ⟨rfl, hb'⟩))
    all_goals
      have hq : Below wd.heap.size wd w' := by assumption
      have HBe := hide (HBd.out.trans (hq.mono HBd.out.size))
      have AW := hide (awake_any w')
      generalize ((strOfNums (byt 2 lb)).toList == (strOfNums (byt 1 la)).toList) = q at *
      clear hq hall' hrefl HBd
      cases q
      · go_wp2_with fail
        refine AW.out.mono ?_
        rintro e wz ⟨rfl, Bz⟩
        have HBz := hide (HBe.out.trans (Bz.mono HBe.out.size))
        clear Bz AW
        go_wp2
        go_ret
        exact ⟨rfl, HBz.out⟩
      · go_wp2_with fail
        refine AW.out.mono ?_
        rintro e wz ⟨rfl, Bz⟩
        have HBz := hide (HBe.out.trans (Bz.mono HBe.out.size))
        clear Bz AW
        go_wp2
        go_ret
        exact ⟨rfl, HBz.out⟩

end Go.Proofs.Ythmfkfiblaamfaa.Clep
