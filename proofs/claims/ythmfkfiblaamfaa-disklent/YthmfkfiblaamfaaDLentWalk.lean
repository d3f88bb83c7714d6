/- Statement DiskLent says true for any bytes, any place: the walk over the translated program. -/
import Derived.Test.YthmfkfiblaamfaaDAwake
namespace Go.Proofs.Ythmfkfiblaamfaa.Clep
open Go.RowKit Go.Maps
set_option linter.unusedVariables false

/-- What is not the Disk's may be written. -/
theorem Held.write {F : Nat → Prop} {w : World} {R : Nat} {S : St} (h : Held F w R S) {b : Nat} (hb : F b) (i : Nat) (v : Value) : Held F (w.setCell ⟨b, i, none⟩ v) R S := by
  obtain ⟨G, D, hF⟩ := h
  have hb0 := (hF b hb).2
  have T : Turn G.τ (fun n => n = 0) w (w.setCell ⟨b, i, none⟩ v) := turn_set v hb0
  obtain ⟨DD, f1, f2, f3⟩ := D.fm
  refine ⟨G, ⟨row_keep T D.row (by rw [D.tR]; omega), ⟨DD, map_keep T f1 (by rw [D.tf]; omega), f2, f3⟩, map_keep T D.nm (by rw [D.tn]; omega), map_keep T D.lm (by rw [D.tl]; omega), owns_keep T D.sc (fun g hg => by rw [D.ts g hg]; omega),
    fun f hf => file_keep T (D.files f hf) (by omega) (by omega), D.tR, D.tf, D.tn, D.tl, D.ts, fun i hi => D.top i (by simpa using hi), D.ok⟩, fun j hj => by simpa using hF j hj⟩
def lt1 : St := ⟨1048576, 1, 0, 0, false, 1, [⟨1, [], 0⟩], .map [(.string [97], i64L 1)], .map [], [⟨0, ⟨#[97]⟩, ⟨#[]⟩, 1⟩]⟩
def lt2 (zs : List Int) : St := ⟨1048576, 2, 0, 0, false, 1, [⟨1, zs, 0⟩], .map [(.string [97], i64L 1)], .map [], [⟨0, ⟨#[97]⟩, ⟨#[]⟩, 1⟩]⟩
theorem lent1 : createS (newS 1048576) ⟨#[97]⟩ = (0, lt1) := by kernel_rfl
theorem lent2 (zs : List Int) (h : zs.length ≤ 1000) : appendS lt1 ⟨#[97]⟩ zs = (0, lt2 zs) := by
  have e : appendS lt1 ⟨#[97]⟩ zs = if 250000 < 0 + zs.length then (2, (beginS lt1).2) else if 1048576 < 0 + zs.length then (15, (beginS lt1).2) else (0, lt2 ([] ++ zs)) := by kernel_rfl
  rw [e, if_neg (by omega), if_neg (by omega), List.nil_append]
theorem lent3 (zs : List Int) : readS (lt2 zs) ⟨#[97]⟩ = (0, zs) := rfl
theorem lent4 (zs : List Int) : usedS (lt2 zs) = zs.length := by
  show zs.length + 0 = _
  rfl
theorem own_parts {w : World} {B L : Nat} {v : Value} {zs : List Int} (h : Own w B v zs) (hL : zs.length = L) (hz : ∀ z ∈ zs, 0 ≤ z ∧ z < 256) (h0 : 0 < L) : ∃ g cap, v = .slice (some ⟨g, 0, none⟩) L cap ∧ B ≤ g ∧ g < w.heap.size ∧ L ≤ cap ∧ cap ≤ 9223372036854775807 ∧ Bs w (some ⟨g, 0, none⟩) L cap zs ∧ (∀ i, w.frozen? ⟨g, i, none⟩ = false) ∧ ∀ i, i < L → w.cell? ⟨g, i, none⟩ = some (.int .u8 (zs.getD i 0)) := by
  subst hL
  have h' := h
  obtain ⟨hl, ⟨rfl, hn⟩ | ⟨g, cap, cur, rfl, hg, hh, hnc, hcm, hcs, hx⟩⟩ := h
  · omega
  · obtain ⟨ao, cap', e, hm', hb, _⟩ := own_bs h' (range_of hz)
    injection e with e1 e2 e3
    subst e1 e3
    unfold maxLen at hcm
    refine ⟨g, cap, rfl, hg, (Array.getElem?_eq_some_iff.1 hh).1, hnc, hcm, hb, fun i => frozen_of_row w g i _ _ hh, fun i hi => ?_⟩
    obtain ⟨b, off, ho, hc⟩ := hb.2.2.2 h0
    injection ho with ho
    injection ho with o1 o2
    subst o1 o2
    have := hc i hi
    rwa [Nat.zero_add] at this

set_option maxHeartbeats 800000 in
set_option maxRecDepth 4000 in
theorem lent_any (ao : Option Addr) (len cap : Nat) (zs : List Int) (at_ : Int) (w : World) (hb : Bs w ao len cap zs ∧ len ≤ 9223372036854775807) (hw : (Lit.int .i64 at_).wf = true) :
    Calls Try.prog 3 #[.slice ao len cap, .int .i64 at_] w fun e w' => e = .returned (.bool true) ∧ Below w.heap.size w w' := by
  obtain ⟨hb, hl⟩ := hb
  have hlz := hide hb.1
  have hz := hide (bs_range hb)
  have HB := hide hb
  have NW := hide (new_h 1048576 w (by omega) 1048576 rfl)
  clear hb
  by_cases hlen : len = 0 ∨ 1000 < len
  · go_enter Try.func3, Try.ntmps3
    go_wp2_with fail
    refine NW.out.mono ?_
    rintro e w1 ⟨R, rfl, H1, B1⟩
    have HB1 := hide B1
    have AW := hide (awake_any w1)
    clear H1 B1 NW
    rcases hlen with h0 | h0
    · have h0' : ((len : Int) = 0) := by omega
      have h1' : ((len : Int) == 0) = true := by simpa using h0'
      have h2' : ¬ ((1000 : Int) < (len : Int)) := by omega
      go_wp2_with fail
      refine AW.out.mono ?_
      rintro e w2 ⟨rfl, B2⟩
      have HB2 := hide (HB1.out.trans (B2.mono HB1.out.size))
      clear B2
      go_wp2
      go_ret
      exact ⟨rfl, HB2.out⟩
    · have h1' : ((len : Int) == 0) = false := by simp; omega
      have h2' : ((1000 : Int) < (len : Int)) := by omega
      go_wp2_with fail
      refine AW.out.mono ?_
      rintro e w2 ⟨rfl, B2⟩
      have HB2 := hide (HB1.out.trans (B2.mono HB1.out.size))
      clear B2
      go_wp2
      go_ret
      exact ⟨rfl, HB2.out⟩
  · have h1' : ((len : Int) == 0) = false := by simp; omega
    have h2' : ¬ ((1000 : Int) < (len : Int)) := by omega
    have h3 : 0 < len ∧ len ≤ 1000 := by omega
    clear hlen
    go_enter Try.func3, Try.ntmps3
    go_wp2_with fail
    refine NW.out.mono ?_
    rintro e w1 ⟨R, rfl, H1, B1⟩
    have HB1 := hide B1
    have hB1 := HB.out.below B1 (Nat.le_refl _)
    have hcv := conv_bs hB1
    have HBs1 := hide hB1
    have hO0 := hide (own_lit w1 [] w1.heap.size (Nat.le_refl _) #[] rfl 0 rfl (by omega))
    have HH1 := hide H1
    clear H1 B1 NW hB1
    have HBsA := hide (HBs1.out.below ((Below.refl _ w1).alloc (Nat.le_refl _) (.cells #[] 5)) (Nat.le_refl _))
    go_wp2_with (first
      | (at_builtin; refine wpList_append_bytes rfl _ _ rfl w1.heap.size _ [] rfl hO0.out ao len cap zs rfl HBsA.out (by simp; omega) (by simp) ?_; intro v2 w2 o2 b2)
      | fail)
    rw [List.nil_append] at o2
    have b2' : Below w1.heap.size w1 w2 := ((Below.refl _ w1).alloc (Nat.le_refl _) (.cells #[] 5)).trans b2
    obtain ⟨g, gc, rfl, hg1, hg2, hgc, hgm, hgB, hgf, hgcell⟩ := own_parts o2 hlz.out hz.out h3.1
    have HH2 := HH1.out.wide b2'
    have CR := hide (create_h ⟨#[97]⟩ lent1 HH2 (by decide) (by decide))
    have HB2 := hide (HB1.out.trans (b2'.mono HB1.out.size))
    have Hgr := hide (show w1.heap.size ≤ g ∧ g < w2.heap.size from ⟨hg1, hg2⟩)
    have HgB := hide hgB
    have Hgh := hide (show ∃ T, ∃ cur, w2.heap[g]? = some (.cells cur T (0, 0)) by
      obtain ⟨_, ⟨e, _⟩ | ⟨g', cap', cur, e, _, hh, _⟩⟩ := o2
      · injection e with e1; cases e1
      · injection e with e1 e2 e3; cases e1; exact ⟨_, cur, hh⟩)
    clear o2 b2 b2' hg1 hg2 hgB hgf hgcell HBsA HBs1 hO0 HH1 HH2 hcv
    go_wp2_with fail
    refine CR.out.mono ?_
    rintro e w3 ⟨rfl, H3, S3⟩
    have fg : (fun i => i < w.heap.size ∨ w1.heap.size ≤ i ∧ i < w2.heap.size) g := .inr Hgr.out
    have hBs3 : Bs w3 (some ⟨g, 0, none⟩) len gc zs := by
      have h := HgB.out
      refine ⟨h.1, h.2.1, h.2.2.1, fun h0 => ?_⟩
      obtain ⟨b, off, ho, hc⟩ := h.2.2.2 h0
      injection ho with ho
      injection ho with o1 o2
      subst o1 o2
      exact ⟨g, 0, rfl, fun i hi => by rw [World.cell?_of_block (w := w2) (S3.block g fg)]; exact hc i hi⟩
    have AP := hide (append_h ⟨#[97]⟩ (some ⟨g, 0, none⟩) len gc zs (lent2 zs (by rw [hlz.out]; omega)) H3 (by decide) (by decide) hBs3 (by omega) (fun b off h => by cases h; exact fg))
    have HB3 := hide (HB2.out.trans (S3.below (fun i hi => .inl hi)))
    have HS3 := hide S3
    clear hBs3 H3 S3 CR
    go_wp2_with fail
    refine AP.out.mono ?_
    rintro e w4 ⟨rfl, H4, S4⟩
    have hg4 : w4.heap[g]? = w2.heap[g]? := (S4.block g fg).trans (HS3.out.block g fg)
    have HB4 := hide (HB3.out.trans (S4.below (fun i hi => .inl hi)))
    have HH4 := hide H4
    obtain ⟨kk, hkk, hkl⟩ : ∃ kk : Nat, (bits .and .i64 at_ 65535).tmod (len : Int) = kk ∧ kk < len := by
      have h1 := and16 at_
      have h2 := Int.tmod_nonneg (len : Int) h1.1
      have h3' := Int.tmod_lt_of_pos (bits .and .i64 at_ 65535) (show (0 : Int) < (len : Int) by omega)
      exact ⟨_, (Int.toNat_of_nonneg h2).symm, by omega⟩
    have cg : w4.cell? ⟨g, kk, none⟩ = some (.int .u8 (zs.getD kk 0)) := by
      have h := HgB.out
      obtain ⟨b, off, ho, hc⟩ := h.2.2.2 h3.1
      injection ho with ho
      injection ho with o1 o2
      subst o1 o2
      rw [World.cell?_of_block (w := w2) hg4]
      have := hc kk hkl
      rwa [Nat.zero_add] at this
    have fg4 : w4.frozen? ⟨g, kk, none⟩ = false := by
      obtain ⟨T, cur, hh⟩ := Hgh.out
      exact frozen_of_row w4 g kk cur T (hg4.trans hh)
    have hlen0 : ¬ ((len : Int) = 0) := by omega
    have hkl' : (kk : Int) < (len : Int) := by omega
    generalize zs.getD kk 0 = zk at *
    have hh4 : ∀ v, Held (fun i => i < w.heap.size ∨ w1.heap.size ≤ i ∧ i < w2.heap.size) (w4.setCell ⟨g, kk, none⟩ v) R (lt2 zs) := fun v => HH4.out.write fg kk v
    have hbb4 : ∀ v, Below w.heap.size w (w4.setCell ⟨g, kk, none⟩ v) := fun v => HB4.out.setCell (show w.heap.size ≤ g by have := Hgr.out.1; have := HB1.out.size; omega) v
    have HH5 := hide hh4
    have HBB5 := hide hbb4
    clear H4 S4 AP hg4 hh4 hbb4 HS3
    go_wp2_with fail
    have H5 := HH5.out (.int .u8 ((zk + 1) % 256))
    have B5 := HBB5.out (.int .u8 ((zk + 1) % 256))
    generalize w4.setCell ⟨g, kk, none⟩ (.int .u8 ((zk + 1) % 256)) = w5 at *
    refine (read_h ⟨#[97]⟩ (lent3 zs) H5 (by decide)).mono ?_
    rintro e w6 ⟨xo, xc, rfl, xO, _, B6⟩
    obtain ⟨xg, xc', xe, hx1, hx2, hxc, hxm, hxB, hxf, hxcell⟩ := own_parts xO hlz.out hz.out h3.1
    rw [hlz.out] at xe
    injection xe with e1 e2 e3
    subst e1 e3
    rw [hlz.out]
    have hcv6 := conv_bs hxB
    have H6 := H5.wide B6
    have HB6 := hide (B5.trans (B6.mono B5.size))
    have cx : w6.cell? ⟨xg, kk, none⟩ = some (.int .u8 (zs.getD kk 0)) := hxcell kk hkl
    have fx : w6.frozen? ⟨xg, kk, none⟩ = false := hxf kk
    have fxg : (fun i => (i < w.heap.size ∨ w1.heap.size ≤ i ∧ i < w2.heap.size) ∨ w5.heap.size ≤ i ∧ i < w6.heap.size) xg := .inr ⟨hx1, hx2⟩
    have hh6 : ∀ v, Held (fun i => i < w.heap.size) (w6.setCell ⟨xg, kk, none⟩ v) R (lt2 zs) := fun v => (H6.write fxg kk v).less (fun i hi => .inl (.inl hi))
    have hbb6 : ∀ v, Below w.heap.size w (w6.setCell ⟨xg, kk, none⟩ v) := fun v => HB6.out.setCell (show w.heap.size ≤ xg by have := B5.size; omega) v
    have HH6 := hide hh6
    have HBB6 := hide hbb6
    have hxl : (kk : Int) < (xc : Int) := by omega
    generalize zs.getD kk 0 = zx at *
    clear hh6 hbb6 H6 H5 B5 B6 xO hxB hxf hxcell HBB5 HH5 fxg fg4 cg hx1 hx2
    go_wp2_with fail
    have H7 := HH6.out (.int .u8 ((zx + 2) % 256))
    have B7 := HBB6.out (.int .u8 ((zx + 2) % 256))
    generalize w6.setCell ⟨xg, kk, none⟩ (.int .u8 ((zx + 2) % 256)) = w7 at *
    refine (read_h ⟨#[97]⟩ (lent3 zs) H7 (by decide)).mono ?_
    rintro e w8 ⟨yo, yc, rfl, yO, H8, B8⟩
    obtain ⟨yg, yc', ye, _, _, _, _, hyB, _, _⟩ := own_parts yO hlz.out hz.out h3.1
    rw [hlz.out] at ye
    injection ye with e1 e2 e3
    subst e1 e3
    rw [hlz.out]
    have hcv8 := conv_bs hyB
    have HB8 := hide (B7.trans (B8.mono B7.size))
    have US := hide (used_h H8 (by show 2 ≤ 1099511627776; omega))
    have hss : (strOfNums zs).size = len := by rw [str_size]; exact hlz.out
    clear H7 B7 B8 yO hyB H8 HH6 HBB6 cx fx hcv6
    go_wp2_with fail
    refine US.out.mono ?_
    rintro e w9 ⟨he, _, B9⟩
    obtain rfl : e = .returned (.int .i64 len) := by
      rw [he, show (if (lt2 zs).dead = true then 0 else usedS (lt2 zs)) = zs.length from lent4 zs, hlz.out]
    have HB9 := hide (HB8.out.trans (B9.mono HB8.out.size))
    have AW := hide (awake_any w9)
    clear B9 US he
    go_wp2_with fail
    refine AW.out.mono ?_
    rintro e w10 ⟨rfl, B10⟩
    have HB10 := hide (HB9.out.trans (B10.mono HB9.out.size))
    clear B10 AW
    go_wp2
    go_ret
    exact ⟨rfl, HB10.out⟩

end Go.Proofs.Ythmfkfiblaamfaa.Clep
