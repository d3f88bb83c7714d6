/- Statement DiskNever says true for any appends to three files, a Sync behind any of them: the walk over the translated program. -/
import Derived.Test.YthmfkfiblaamfaaDNever
import Derived.Test.YthmfkfiblaamfaaDAwake
namespace Go.Proofs.Ythmfkfiblaamfaa.Clep
open Go.RowKit Go.Maps
set_option linter.unusedVariables false

theorem Held.setF {F : Nat → Prop} {w : World} {R : Nat} {S : St} (h : Held F w R S) {b : Nat} (hb : F b) (i : Nat) (v : Value) : Held F (w.setCell ⟨b, i, none⟩ v) R S := by
  obtain ⟨G, D, hF⟩ := h
  have hb0 := (hF b hb).2
  have T : Turn G.τ (fun n => n = 0) w (w.setCell ⟨b, i, none⟩ v) := turn_set v hb0
  obtain ⟨DD, f1, f2, f3⟩ := D.fm
  refine ⟨G, ⟨row_keep T D.row (by rw [D.tR]; omega), ⟨DD, map_keep T f1 (by rw [D.tf]; omega), f2, f3⟩, map_keep T D.nm (by rw [D.tn]; omega), map_keep T D.lm (by rw [D.tl]; omega), owns_keep T D.sc (fun g hg => by rw [D.ts g hg]; omega),
    fun f hf => file_keep T (D.files f hf) (by omega) (by omega), D.tR, D.tf, D.tn, D.tl, D.ts, fun i hi => D.top i (by simpa using hi), D.ok⟩, fun j hj => by simpa using hF j hj⟩
def FF (B N V U : Nat) : Nat → Prop := fun i => i < B ∨ i = N ∨ i = V ∨ i = U
def Mem (N V U : Nat) (x0 x1 x2 y0 y1 y2 : ByteArray) (w : World) : Prop := Str3 9 w N ⟨#[97]⟩ ⟨#[98]⟩ ⟨#[99]⟩ ∧ Str3 35 w V x0 x1 x2 ∧ Str3 35 w U y0 y1 y2
theorem Mem.same {B N V U : Nat} {x0 x1 x2 y0 y1 y2 : ByteArray} {w w' : World} (h : Mem N V U x0 x1 x2 y0 y1 y2 w) (hs : Same (FF B N V U) w w') : Mem N V U x0 x1 x2 y0 y1 y2 w' :=
  ⟨(hs.block N (.inr (.inl rfl))).trans h.1, (hs.block V (.inr (.inr (.inl rfl)))).trans h.2.1, (hs.block U (.inr (.inr (.inr rfl)))).trans h.2.2⟩
set_option maxHeartbeats 4000000 in
set_option maxRecDepth 8000 in
theorem never_any (ao : Option Addr) (la ca : Nat) (ka : List Int) (w : World) (ha : NumV (· < w.heap.size) w (.slice ao la ca) ka) :
    Calls Try.prog 4 #[.slice ao la ca] w fun e w' => e = .returned (.bool true) ∧ Below w.heap.size w w' := by
  have HA := hide ha.at.2
  have NW := hide (new_h 1048576 w (by omega) 1048576 rfl)
  clear ha
  go_enter Try.func4, Try.ntmps4
  go_wp2_with fail
  refine NW.out.mono ?_
  rintro e w0 ⟨R, rfl, H0, B0⟩
  have HH0 := hide H0
  have HB0 := hide B0
  clear H0 B0 NW
  have bb : Below w0.heap.size w0 (((w0.alloc (.cells #[.string ⟨#[97]⟩, .string ⟨#[98]⟩, .string ⟨#[99]⟩] 9)).alloc (.cells #[.string ⟨#[]⟩, .string ⟨#[]⟩, .string ⟨#[]⟩] 35)).alloc (.cells #[.string ⟨#[]⟩, .string ⟨#[]⟩, .string ⟨#[]⟩] 35)) := (((Below.refl _ w0).alloc (Nat.le_refl _) _).alloc (by simp) _).alloc (by simp; omega) _
  have HH3 := hide (show Held (FF w.heap.size w0.heap.size (w0.heap.size + 1) (w0.heap.size + 1 + 1)) (((w0.alloc (.cells #[.string ⟨#[97]⟩, .string ⟨#[98]⟩, .string ⟨#[99]⟩] 9)).alloc (.cells #[.string ⟨#[]⟩, .string ⟨#[]⟩, .string ⟨#[]⟩] 35)).alloc (.cells #[.string ⟨#[]⟩, .string ⟨#[]⟩, .string ⟨#[]⟩] 35)) R (nwS 0) from (HH0.out.wide bb).less (fun i hi => by
    rcases hi with hi | rfl | rfl | rfl
    · exact .inl hi
    · exact .inr ⟨by omega, by simp only [World.size_alloc]; omega⟩
    · exact .inr ⟨by omega, by simp only [World.size_alloc]; omega⟩
    · exact .inr ⟨by omega, by simp only [World.size_alloc]; omega⟩))
  have HM3 := hide (show Mem w0.heap.size (w0.heap.size + 1) (w0.heap.size + 1 + 1) (strOfNums []) (strOfNums []) (strOfNums []) (strOfNums []) (strOfNums []) (strOfNums []) (((w0.alloc (.cells #[.string ⟨#[97]⟩, .string ⟨#[98]⟩, .string ⟨#[99]⟩] 9)).alloc (.cells #[.string ⟨#[]⟩, .string ⟨#[]⟩, .string ⟨#[]⟩] 35)).alloc (.cells #[.string ⟨#[]⟩, .string ⟨#[]⟩, .string ⟨#[]⟩] 35)) by
    refine ⟨?_, ?_, ?_⟩
    · unfold Str3
      rw [Below.heap_alloc _ _ _ (by simp; omega), Below.heap_alloc _ _ _ (by simp)]
      exact (MapKept.heap_alloc w0 _).1
    · unfold Str3
      rw [Below.heap_alloc _ _ _ (by simp)]
      have := (MapKept.heap_alloc (w0.alloc (.cells #[.string ⟨#[97]⟩, .string ⟨#[98]⟩, .string ⟨#[99]⟩] 9)) (.cells #[.string ⟨#[]⟩, .string ⟨#[]⟩, .string ⟨#[]⟩] 35)).1
      rw [World.size_alloc] at this
      exact this
    · unfold Str3
      have := (MapKept.heap_alloc ((w0.alloc (.cells #[.string ⟨#[97]⟩, .string ⟨#[98]⟩, .string ⟨#[99]⟩] 9)).alloc (.cells #[.string ⟨#[]⟩, .string ⟨#[]⟩, .string ⟨#[]⟩] 35)) (.cells #[.string ⟨#[]⟩, .string ⟨#[]⟩, .string ⟨#[]⟩] 35)).1
      rw [World.size_alloc, World.size_alloc] at this
      exact this)
  have HB3 := hide (HB0.out.trans (bb.mono HB0.out.size))
  have HNU := hide (show w.heap.size ≤ w0.heap.size ∧ w.heap.size ≤ w0.heap.size + 1 ∧ w.heap.size ≤ w0.heap.size + 1 + 1 from ⟨HB0.out.size, Nat.le_succ_of_le HB0.out.size, Nat.le_succ_of_le (Nat.le_succ_of_le HB0.out.size)⟩)
  have hd : w0.heap.size < w0.heap.size + 1 ∧ w0.heap.size + 1 < w0.heap.size + 1 + 1 := ⟨by omega, by omega⟩
  clear bb HH0 HB0
  go_wp2_with fail
  generalize ((w0.alloc (.cells #[.string ⟨#[97]⟩, .string ⟨#[98]⟩, .string ⟨#[99]⟩] 9)).alloc (.cells #[.string ⟨#[]⟩, .string ⟨#[]⟩, .string ⟨#[]⟩] 35)).alloc (.cells #[.string ⟨#[]⟩, .string ⟨#[]⟩, .string ⟨#[]⟩] 35) = w3 at *
  generalize w0.heap.size + 1 + 1 = U at *
  generalize w0.heap.size + 1 = V at *
  generalize w0.heap.size = N at *
  go_loopw [7] (fun i wr => ∃ (k : Nat), i = .int .i64 k ∧ k ≤ 3 ∧ Hid (Held (FF w.heap.size N V U) wr R (nwS k)) ∧ Hid (Mem N V U (strOfNums []) (strOfNums []) (strOfNums []) (strOfNums []) (strOfNums []) (strOfNums []) wr) ∧ Hid (Below w.heap.size w wr)) (fun i _ => 3 - (intOf i).toNat)
  case atStart => exact ⟨0, rfl, by omega, HH3, HM3, HB3⟩
  case round =>
    obtain ⟨k, rfl, hk3, hH, hM, hB⟩ := hrel
    rcases (show k = 0 ∨ k = 1 ∨ k = 2 ∨ k = 3 by omega) with rfl | rfl | rfl | rfl
    · have h3' : (((0 : Nat) : Int)) < 3 := by omega
      have cN := hM.out.1.cells.1
      go_wp2_with fail
      refine (create_h b0 nev1 hH.out (by decide) (by decide)).mono ?_
      rintro e w4 ⟨rfl, H4, S4⟩
      have HH4 := hide (show Held (FF w.heap.size N V U) w4 R (nwS 1) from H4)
      have HM4 := hide (hM.out.same S4)
      have HB4 := hide (hB.out.trans (S4.below (fun i hi => .inl hi)))
      clear H4 S4 hH hM hB cN
      go_wp2
      go_roundw
      case rel => exact ⟨1, by go_num, by omega, HH4, HM4, HB4⟩
      case measure => simp [intOf]
    · have h3' : (((1 : Nat) : Int)) < 3 := by omega
      have cN := hM.out.1.cells.2.1
      go_wp2_with fail
      refine (create_h b1 nev2 hH.out (by decide) (by decide)).mono ?_
      rintro e w4 ⟨rfl, H4, S4⟩
      have HH4 := hide (show Held (FF w.heap.size N V U) w4 R (nwS 2) from H4)
      have HM4 := hide (hM.out.same S4)
      have HB4 := hide (hB.out.trans (S4.below (fun i hi => .inl hi)))
      clear H4 S4 hH hM hB cN
      go_wp2
      go_roundw
      case rel => exact ⟨2, by go_num, by omega, HH4, HM4, HB4⟩
      case measure => simp [intOf]
    · have h3' : (((2 : Nat) : Int)) < 3 := by omega
      have cN := hM.out.1.cells.2.2.1
      go_wp2_with fail
      refine (create_h b2 nev3 hH.out (by decide) (by decide)).mono ?_
      rintro e w4 ⟨rfl, H4, S4⟩
      have HH4 := hide (show Held (FF w.heap.size N V U) w4 R (nwS 3) from H4)
      have HM4 := hide (hM.out.same S4)
      have HB4 := hide (hB.out.trans (S4.below (fun i hi => .inl hi)))
      clear H4 S4 hH hM hB cN
      go_wp2
      go_roundw
      case rel => exact ⟨3, by go_num, by omega, HH4, HM4, HB4⟩
      case measure => simp [intOf]
    · have h3' : ¬ ((((3 : Nat) : Int)) < 3) := by omega
      go_wp2_with fail
      refine (syncDir_h nev4 (show Held (FF w.heap.size N V U) wr R nw3 from hH.out) (by decide)).mono ?_
      rintro e w4 ⟨rfl, H4, S4⟩
      have HH4 := hide H4
      have HM4 := hide (hM.out.same S4)
      have HB4 := hide (hB.out.trans (S4.below (fun i hi => .inl hi)))
      clear H4 S4 hH hM hB
      go_wp2_with fail
      go_loopw [8] (fun i wr => ∃ (i0 c : Nat) (X0 X1 X2 Y0 Y1 Y2 : List Int) (L0 L1 L2 : Nat), i = .int .i64 i0 ∧ i0 ≤ 40 ∧ Hid (c ≤ 4 + i0) ∧ Hid (X0.length + X1.length + X2.length ≤ 15 * i0) ∧ Hid (Y0 = X0.take L0 ∧ Y1 = X1.take L1 ∧ Y2 = X2.take L2) ∧ Hid (Held (FF w.heap.size N V U) wr R (nv c X0 X1 X2 L0 L1 L2)) ∧ Hid (Mem N V U (strOfNums X0) (strOfNums X1) (strOfNums X2) (strOfNums Y0) (strOfNums Y1) (strOfNums Y2) wr) ∧ Hid (Below w.heap.size w wr)) (fun i _ => 40 - (intOf i).toNat)
      case atStart => exact ⟨0, 4, [], [], [], [], [], [], 0, 0, 0, rfl, by omega, hide (by omega), hide (by simp), hide ⟨rfl, rfl, rfl⟩, HH4, HM4, HB4⟩
      case round =>
        obtain ⟨i0, c, X0, X1, X2, Y0, Y1, Y2, L0, L1, L2, rfl, hi40, hcb, hXl, hYY, hH2, hM2, hB2⟩ := hrel
        have hcbo := hcb.out
        by_cases hc : i0 < la ∧ i0 < 40
        · obtain ⟨ab, aoff, rfl, hq, hcell, hlm⟩ := HA.out i0 hc.1
          have hi1 : (i0 : Int) < (la : Int) := by omega
          have hi2 : (i0 : Int) < 40 := by omega
          have hcr : ∀ W, Below w.heap.size w W → W.cell? ⟨ab, aoff + i0, none⟩ = some (.int .i64 (ka.getD i0 0)) := fun W hW => by rw [hW.cell (p := ⟨ab, aoff + i0, none⟩) hq]; exact hcell
          generalize ka.getD i0 0 = z at *
          obtain ⟨v, hv, hv2⟩ := andm z 255 (by omega)
          have hv' : bits .and .i64 z 255 = (v : Int) := hv
          obtain ⟨m, hm, hm2⟩ := andm (z / 1024) 15 (by omega)
          have hm' : bits .and .i64 (z / 1024) 15 = (m : Int) := hm
          obtain ⟨t, ht, ht2⟩ := andm (z / 256) 3 (by omega)
          have ht' : bits .and .i64 (z / 256) 3 = (t : Int) := ht
          have hLr := hide (nev_rng hH2.out).2.2.2
          have hcw := hcr wr hB2.out
          have HH4 := hH2
          have HM4 := hM2
          have HB4 := hB2
          clear hcell hc hv hm ht hcr hH2 hM2 hB2
          rcases (show v % 3 = 0 ∨ v % 3 = 1 ∨ v % 3 = 2 by omega) with hv3 | hv3 | hv3
          · have hvk : ((v : Int)).tmod 3 = 0 := by rw [Int.tmod_eq_emod_of_nonneg (by omega)]; omega
            clear hv3
            by_cases htt : t = 0
            · have ht0 : ((t : Int) == 0) = true := by simp; omega
              have cN := HM4.out.1.cells.1
              go_wp2_with fail
              refine (sync_h b0 (nevS0 c X0 X1 X2 L0 L1 L2) HH4.out (by show c < 1099511627776; omega) (by decide)).mono ?_
              rintro e w5 ⟨rfl, H5, S5⟩
              have HM5 := HM4.out.same S5
              have HB5 := HB4.out.trans (S5.below (fun i hi => .inl hi))
              have cV := HM5.2.1.cells.1
              have cU := HM5.2.2.cells.1
              have fU := HM5.2.2.cells.2.2.2.1 0
              have HH6 := hide (H5.setF (b := U) (.inr (.inr (.inr rfl))) 0 (.string (strOfNums X0)))
              have HM6 := hide (show Mem N V U (strOfNums X0) (strOfNums X1) (strOfNums X2) (strOfNums X0) (strOfNums Y1) (strOfNums Y2) (w5.setCell ⟨U, 0, none⟩ (.string (strOfNums X0))) from ⟨HM5.1.other (by omega) _ _, HM5.2.1.other (by omega) _ _, HM5.2.2.set0 _⟩)
              have HB6 := hide (HB5.setCell (p := ⟨U, 0, none⟩) HNU.out.2.2 (.string (strOfNums X0)))
              clear H5 S5 HM5 HB5 cN HM4 HB4 HH4
              go_wp2
              go_roundw
              case rel => exact ⟨i0 + 1, c + 1, X0, X1, X2, X0, Y1, Y2, X0.length, L1, L2, by go_num, by omega, hide (by omega), hide (by have := hXl.out; omega), hide (show X0 = X0.take X0.length ∧ Y1 = X1.take L1 ∧ Y2 = X2.take L2 from ⟨(List.take_length).symm, hYY.out.2.1, hYY.out.2.2⟩), HH6, HM6, HB6⟩
              case measure => simp [intOf]; omega
            · have ht0 : ((t : Int) == 0) = false := by simp; omega
              have cN0 := HM4.out.1
              go_wp2_with fail
              refine (bytes_h i0 m HH4.out (by omega) (by omega)).mono ?_
              rintro e w5 ⟨rfl, H5, S5⟩
              have hle := hXl.out
              have HM5 := HM4.out.same S5
              obtain ⟨c6, w6, hcv, hap⟩ := step_append b0 (byt i0 m) (byt_range i0 m) (nevA0 c X0 X1 X2 (byt i0 m) L0 L1 L2 (by rw [byt_len]; omega)) H5 (by show c < 1099511627776; omega) (by decide) (by rw [byt_len]; omega) (fun i hi => by
                rcases hi with hi | rfl | rfl | rfl
                · exact Nat.lt_of_lt_of_le hi (Nat.le_trans HB4.out.size S5.size)
                · exact HM5.1.cells.2.2.2.2
                · exact HM5.2.1.cells.2.2.2.2
                · exact HM5.2.2.cells.2.2.2.2)
              rw [byt_len] at hcv hap
              have cN := HM5.1.cells.1
              have HM5' := hide HM5
              have HB5 := hide (HB4.out.trans (S5.below (fun i hi => .inl hi)))
              clear H5 S5 HM5 HM4 HB4 HH4 cN0
              go_wp2_with fail
              refine hap.out.mono ?_
              rintro e w7 ⟨rfl, H7, S7⟩
              have HM7 := HM5'.out.same S7
              have cV := HM7.2.1.cells.1
              have fV := HM7.2.1.cells.2.2.2.1 0
              have hj := str_join X0 (byt i0 m)
              have hz1 := str_size X0
              have hz2 : (strOfNums (byt i0 m)).size = m := by rw [str_size, byt_len]
              have HH8 := hide (H7.setF (b := V) (.inr (.inr (.inl rfl))) 0 (.string (strOfNums (X0 ++ byt i0 m))))
              have HM8 := hide (show Mem N V U (strOfNums (X0 ++ byt i0 m)) (strOfNums (X1)) (strOfNums (X2)) (strOfNums Y0) (strOfNums Y1) (strOfNums Y2) (w7.setCell ⟨V, 0, none⟩ (.string (strOfNums (X0 ++ byt i0 m)))) from ⟨HM7.1.other (by omega) _ _, HM7.2.1.set0 _, HM7.2.2.other (by omega) _ _⟩)
              have HB8 := hide ((HB5.out.trans (S7.below (fun i hi => .inl hi))).setCell (p := ⟨V, 0, none⟩) HNU.out.2.1 (.string (strOfNums (X0 ++ byt i0 m))))
              clear H7 S7 HM7 HB5 HM5' hap hcv cN
              go_wp2
              go_roundw
              case rel => exact ⟨i0 + 1, c + 1, X0 ++ byt i0 m, X1, X2, Y0, Y1, Y2, L0, L1, L2, by go_num, by omega, hide (by omega), hide (by rw [List.length_append, byt_len]; omega), hide (show Y0 = (X0 ++ byt i0 m).take L0 ∧ Y1 = (X1).take L1 ∧ Y2 = (X2).take L2 from ⟨by rw [List.take_append_of_le_length hLr.out.1]; exact hYY.out.1, hYY.out.2.1, hYY.out.2.2⟩), HH8, HM8, HB8⟩
              case measure => simp [intOf]; omega
          · have hvk : ((v : Int)).tmod 3 = 1 := by rw [Int.tmod_eq_emod_of_nonneg (by omega)]; omega
            clear hv3
            by_cases htt : t = 0
            · have ht0 : ((t : Int) == 0) = true := by simp; omega
              have cN := HM4.out.1.cells.2.1
              go_wp2_with fail
              refine (sync_h b1 (nevS1 c X0 X1 X2 L0 L1 L2) HH4.out (by show c < 1099511627776; omega) (by decide)).mono ?_
              rintro e w5 ⟨rfl, H5, S5⟩
              have HM5 := HM4.out.same S5
              have HB5 := HB4.out.trans (S5.below (fun i hi => .inl hi))
              have cV := HM5.2.1.cells.2.1
              have cU := HM5.2.2.cells.2.1
              have fU := HM5.2.2.cells.2.2.2.1 1
              have HH6 := hide (H5.setF (b := U) (.inr (.inr (.inr rfl))) 1 (.string (strOfNums X1)))
              have HM6 := hide (show Mem N V U (strOfNums X0) (strOfNums X1) (strOfNums X2) (strOfNums Y0) (strOfNums X1) (strOfNums Y2) (w5.setCell ⟨U, 1, none⟩ (.string (strOfNums X1))) from ⟨HM5.1.other (by omega) _ _, HM5.2.1.other (by omega) _ _, HM5.2.2.set1 _⟩)
              have HB6 := hide (HB5.setCell (p := ⟨U, 1, none⟩) HNU.out.2.2 (.string (strOfNums X1)))
              clear H5 S5 HM5 HB5 cN HM4 HB4 HH4
              go_wp2
              go_roundw
              case rel => exact ⟨i0 + 1, c + 1, X0, X1, X2, Y0, X1, Y2, L0, X1.length, L2, by go_num, by omega, hide (by omega), hide (by have := hXl.out; omega), hide (show Y0 = X0.take L0 ∧ X1 = X1.take X1.length ∧ Y2 = X2.take L2 from ⟨hYY.out.1, (List.take_length).symm, hYY.out.2.2⟩), HH6, HM6, HB6⟩
              case measure => simp [intOf]; omega
            · have ht0 : ((t : Int) == 0) = false := by simp; omega
              have cN0 := HM4.out.1
              go_wp2_with fail
              refine (bytes_h i0 m HH4.out (by omega) (by omega)).mono ?_
              rintro e w5 ⟨rfl, H5, S5⟩
              have hle := hXl.out
              have HM5 := HM4.out.same S5
              obtain ⟨c6, w6, hcv, hap⟩ := step_append b1 (byt i0 m) (byt_range i0 m) (nevA1 c X0 X1 X2 (byt i0 m) L0 L1 L2 (by rw [byt_len]; omega)) H5 (by show c < 1099511627776; omega) (by decide) (by rw [byt_len]; omega) (fun i hi => by
                rcases hi with hi | rfl | rfl | rfl
                · exact Nat.lt_of_lt_of_le hi (Nat.le_trans HB4.out.size S5.size)
                · exact HM5.1.cells.2.2.2.2
                · exact HM5.2.1.cells.2.2.2.2
                · exact HM5.2.2.cells.2.2.2.2)
              rw [byt_len] at hcv hap
              have cN := HM5.1.cells.2.1
              have HM5' := hide HM5
              have HB5 := hide (HB4.out.trans (S5.below (fun i hi => .inl hi)))
              clear H5 S5 HM5 HM4 HB4 HH4 cN0
              go_wp2_with fail
              refine hap.out.mono ?_
              rintro e w7 ⟨rfl, H7, S7⟩
              have HM7 := HM5'.out.same S7
              have cV := HM7.2.1.cells.2.1
              have fV := HM7.2.1.cells.2.2.2.1 1
              have hj := str_join X1 (byt i0 m)
              have hz1 := str_size X1
              have hz2 : (strOfNums (byt i0 m)).size = m := by rw [str_size, byt_len]
              have HH8 := hide (H7.setF (b := V) (.inr (.inr (.inl rfl))) 1 (.string (strOfNums (X1 ++ byt i0 m))))
              have HM8 := hide (show Mem N V U (strOfNums (X0)) (strOfNums (X1 ++ byt i0 m)) (strOfNums (X2)) (strOfNums Y0) (strOfNums Y1) (strOfNums Y2) (w7.setCell ⟨V, 1, none⟩ (.string (strOfNums (X1 ++ byt i0 m)))) from ⟨HM7.1.other (by omega) _ _, HM7.2.1.set1 _, HM7.2.2.other (by omega) _ _⟩)
              have HB8 := hide ((HB5.out.trans (S7.below (fun i hi => .inl hi))).setCell (p := ⟨V, 1, none⟩) HNU.out.2.1 (.string (strOfNums (X1 ++ byt i0 m))))
              clear H7 S7 HM7 HB5 HM5' hap hcv cN
              go_wp2
              go_roundw
              case rel => exact ⟨i0 + 1, c + 1, X0, X1 ++ byt i0 m, X2, Y0, Y1, Y2, L0, L1, L2, by go_num, by omega, hide (by omega), hide (by rw [List.length_append, byt_len]; omega), hide (show Y0 = (X0).take L0 ∧ Y1 = (X1 ++ byt i0 m).take L1 ∧ Y2 = (X2).take L2 from ⟨hYY.out.1, by rw [List.take_append_of_le_length hLr.out.2.1]; exact hYY.out.2.1, hYY.out.2.2⟩), HH8, HM8, HB8⟩
              case measure => simp [intOf]; omega
          · have hvk : ((v : Int)).tmod 3 = 2 := by rw [Int.tmod_eq_emod_of_nonneg (by omega)]; omega
            clear hv3
            by_cases htt : t = 0
            · have ht0 : ((t : Int) == 0) = true := by simp; omega
              have cN := HM4.out.1.cells.2.2.1
              go_wp2_with fail
              refine (sync_h b2 (nevS2 c X0 X1 X2 L0 L1 L2) HH4.out (by show c < 1099511627776; omega) (by decide)).mono ?_
              rintro e w5 ⟨rfl, H5, S5⟩
              have HM5 := HM4.out.same S5
              have HB5 := HB4.out.trans (S5.below (fun i hi => .inl hi))
              have cV := HM5.2.1.cells.2.2.1
              have cU := HM5.2.2.cells.2.2.1
              have fU := HM5.2.2.cells.2.2.2.1 2
              have HH6 := hide (H5.setF (b := U) (.inr (.inr (.inr rfl))) 2 (.string (strOfNums X2)))
              have HM6 := hide (show Mem N V U (strOfNums X0) (strOfNums X1) (strOfNums X2) (strOfNums Y0) (strOfNums Y1) (strOfNums X2) (w5.setCell ⟨U, 2, none⟩ (.string (strOfNums X2))) from ⟨HM5.1.other (by omega) _ _, HM5.2.1.other (by omega) _ _, HM5.2.2.set2 _⟩)
              have HB6 := hide (HB5.setCell (p := ⟨U, 2, none⟩) HNU.out.2.2 (.string (strOfNums X2)))
              clear H5 S5 HM5 HB5 cN HM4 HB4 HH4
              go_wp2
              go_roundw
              case rel => exact ⟨i0 + 1, c + 1, X0, X1, X2, Y0, Y1, X2, L0, L1, X2.length, by go_num, by omega, hide (by omega), hide (by have := hXl.out; omega), hide (show Y0 = X0.take L0 ∧ Y1 = X1.take L1 ∧ X2 = X2.take X2.length from ⟨hYY.out.1, hYY.out.2.1, (List.take_length).symm⟩), HH6, HM6, HB6⟩
              case measure => simp [intOf]; omega
            · have ht0 : ((t : Int) == 0) = false := by simp; omega
              have cN0 := HM4.out.1
              go_wp2_with fail
              refine (bytes_h i0 m HH4.out (by omega) (by omega)).mono ?_
              rintro e w5 ⟨rfl, H5, S5⟩
              have hle := hXl.out
              have HM5 := HM4.out.same S5
              obtain ⟨c6, w6, hcv, hap⟩ := step_append b2 (byt i0 m) (byt_range i0 m) (nevA2 c X0 X1 X2 (byt i0 m) L0 L1 L2 (by rw [byt_len]; omega)) H5 (by show c < 1099511627776; omega) (by decide) (by rw [byt_len]; omega) (fun i hi => by
                rcases hi with hi | rfl | rfl | rfl
                · exact Nat.lt_of_lt_of_le hi (Nat.le_trans HB4.out.size S5.size)
                · exact HM5.1.cells.2.2.2.2
                · exact HM5.2.1.cells.2.2.2.2
                · exact HM5.2.2.cells.2.2.2.2)
              rw [byt_len] at hcv hap
              have cN := HM5.1.cells.2.2.1
              have HM5' := hide HM5
              have HB5 := hide (HB4.out.trans (S5.below (fun i hi => .inl hi)))
              clear H5 S5 HM5 HM4 HB4 HH4 cN0
              go_wp2_with fail
              refine hap.out.mono ?_
              rintro e w7 ⟨rfl, H7, S7⟩
              have HM7 := HM5'.out.same S7
              have cV := HM7.2.1.cells.2.2.1
              have fV := HM7.2.1.cells.2.2.2.1 2
              have hj := str_join X2 (byt i0 m)
              have hz1 := str_size X2
              have hz2 : (strOfNums (byt i0 m)).size = m := by rw [str_size, byt_len]
              have HH8 := hide (H7.setF (b := V) (.inr (.inr (.inl rfl))) 2 (.string (strOfNums (X2 ++ byt i0 m))))
              have HM8 := hide (show Mem N V U (strOfNums (X0)) (strOfNums (X1)) (strOfNums (X2 ++ byt i0 m)) (strOfNums Y0) (strOfNums Y1) (strOfNums Y2) (w7.setCell ⟨V, 2, none⟩ (.string (strOfNums (X2 ++ byt i0 m)))) from ⟨HM7.1.other (by omega) _ _, HM7.2.1.set2 _, HM7.2.2.other (by omega) _ _⟩)
              have HB8 := hide ((HB5.out.trans (S7.below (fun i hi => .inl hi))).setCell (p := ⟨V, 2, none⟩) HNU.out.2.1 (.string (strOfNums (X2 ++ byt i0 m))))
              clear H7 S7 HM7 HB5 HM5' hap hcv cN
              go_wp2
              go_roundw
              case rel => exact ⟨i0 + 1, c + 1, X0, X1, X2 ++ byt i0 m, Y0, Y1, Y2, L0, L1, L2, by go_num, by omega, hide (by omega), hide (by rw [List.length_append, byt_len]; omega), hide (show Y0 = (X0).take L0 ∧ Y1 = (X1).take L1 ∧ Y2 = (X2 ++ byt i0 m).take L2 from ⟨hYY.out.1, hYY.out.2.1, by rw [List.take_append_of_le_length hLr.out.2.2]; exact hYY.out.2.2⟩), HH8, HM8, HB8⟩
              case measure => simp [intOf]; omega
        · have hx : (¬ ((i0 : Int) < (la : Int))) ∨ (((i0 : Int) < (la : Int)) ∧ ¬ ((i0 : Int) < 40)) := by omega
          clear hc HA
          rcases hx with hx | ⟨hx, hx2⟩
          all_goals
            have HX := hide (nevC c X0 X1 X2 L0 L1 L2)
            have HHk := hide (hH2.out.more (.cells #[.int .i64 0, .int .i64 0, .int .i64 0] 3))
            have HKn := hide (num_lit (fun i => FF w.heap.size N V U i ∨ i = wr.heap.size) wr [0, 0, 0] (by decide) #[.int .i64 0, .int .i64 0, .int .i64 0] rfl (.inr rfl) 3 rfl (by omega))
            have bk := (Below.refl wr.heap.size wr).alloc (Nat.le_refl _) (.cells #[.int .i64 0, .int .i64 0, .int .i64 0] 3)
            have hHs := hH2.out.same bk
            have HMk := hide (hM2.out.same hHs.2)
            have HBk := hide (hB2.out.trans (bk.mono hB2.out.size))
            clear bk hHs hH2 hM2 hB2
            go_wp2_with fail
            refine (crash_h _ 3 3 [0, 0, 0] HX.out HHk.out (by show c ≤ 1099511627776; omega) HKn.out).mono ?_
            rintro e w9 ⟨rfl, H9, S9⟩
            have HH9 := hide (H9.less (fun i hi => .inl hi) : Held (FF w.heap.size N V U) w9 R _)
            have HM9 := hide (HMk.out.same (S9.mono (fun i hi => .inl hi)))
            have HB9 := hide (HBk.out.trans (S9.below (fun i hi => .inl (.inl hi))))
            clear H9 S9 HHk HMk HBk HKn HX
            go_wp2_with fail
            go_loopw [11] (fun i wr => ∃ (k3 : Nat), i = .int .i64 k3 ∧ k3 ≤ 3 ∧ Hid (Held (FF w.heap.size N V U) wr R (nv c (X0.take L0) (X1.take L1) (X2.take L2) L0 L1 L2)) ∧ Hid (Mem N V U (strOfNums X0) (strOfNums X1) (strOfNums X2) (strOfNums Y0) (strOfNums Y1) (strOfNums Y2) wr) ∧ Hid (Below w.heap.size w wr)) (fun i _ => 3 - (intOf i).toNat)
            case atStart => exact ⟨0, rfl, by omega, HH9, HM9, HB9⟩
            case round =>
              obtain ⟨k3, rfl, hk3, hH3, hM3, hB3⟩ := hrel
              rcases (show k3 = 0 ∨ k3 = 1 ∨ k3 = 2 ∨ k3 = 3 by omega) with rfl | rfl | rfl | rfl
              · have h3' : (((0 : Nat) : Int)) < 3 := by omega
                have cN := hM3.out.1.cells.1
                go_wp2_with fail
                refine (read_h b0 (nevR0 c (X0.take L0) (X1.take L1) (X2.take L2) L0 L1 L2) hH3.out (by decide)).mono ?_
                rintro e w10 ⟨xo, xc, rfl, xO, H10, B10⟩
                obtain ⟨xo', xc', xe, hall⟩ := own_conv xO (nev_rng H10).1 (X0.take L0).length rfl
                injection xe with e1 e2 e3
                subst e1 e3
                have hcv := fun n => hall.out (w10.drewN n) (drewN_below w10 n)
                have hHs := hH3.out.same B10
                have HM10 := hM3.out.same hHs.2
                have HB10 := hB3.out.trans (B10.mono hB3.out.size)
                have cU := HM10.2.2.cells.1
                rw [hYY.out.1] at cU
                have HHa := hide H10
                have HMa := hide HM10
                have HBa := hide HB10
                generalize (X0.take L0).length = LL at *
                clear xO hall B10 H10 HM10 HB10 hHs e2 hH3 hM3 hB3 cN
                go_wp2_with fail
                go_quiet (fail)
                have HHb := hide (HHa.out.same (drewN_below w10 nq)).1
                have HMb := hide (HMa.out.same (HHa.out.same (drewN_below w10 nq)).2)
                have HBb := hide (HBa.out.trans ((drewN_below w10 nq).mono HBa.out.size))
                generalize w10.drewN nq = w11 at *
                clear hcv cU HHa HMa HBa
                go_wp2
                go_roundw
                case rel => exact ⟨1, by go_num, by omega, HHb, HMb, HBb⟩
                case measure => simp [intOf]
              · have h3' : (((1 : Nat) : Int)) < 3 := by omega
                have cN := hM3.out.1.cells.2.1
                go_wp2_with fail
                refine (read_h b1 (nevR1 c (X0.take L0) (X1.take L1) (X2.take L2) L0 L1 L2) hH3.out (by decide)).mono ?_
                rintro e w10 ⟨xo, xc, rfl, xO, H10, B10⟩
                obtain ⟨xo', xc', xe, hall⟩ := own_conv xO (nev_rng H10).2.1 (X1.take L1).length rfl
                injection xe with e1 e2 e3
                subst e1 e3
                have hcv := fun n => hall.out (w10.drewN n) (drewN_below w10 n)
                have hHs := hH3.out.same B10
                have HM10 := hM3.out.same hHs.2
                have HB10 := hB3.out.trans (B10.mono hB3.out.size)
                have cU := HM10.2.2.cells.2.1
                rw [hYY.out.2.1] at cU
                have HHa := hide H10
                have HMa := hide HM10
                have HBa := hide HB10
                generalize (X1.take L1).length = LL at *
                clear xO hall B10 H10 HM10 HB10 hHs e2 hH3 hM3 hB3 cN
                go_wp2_with fail
                go_quiet (fail)
                have HHb := hide (HHa.out.same (drewN_below w10 nq)).1
                have HMb := hide (HMa.out.same (HHa.out.same (drewN_below w10 nq)).2)
                have HBb := hide (HBa.out.trans ((drewN_below w10 nq).mono HBa.out.size))
                generalize w10.drewN nq = w11 at *
                clear hcv cU HHa HMa HBa
                go_wp2
                go_roundw
                case rel => exact ⟨2, by go_num, by omega, HHb, HMb, HBb⟩
                case measure => simp [intOf]
              · have h3' : (((2 : Nat) : Int)) < 3 := by omega
                have cN := hM3.out.1.cells.2.2.1
                go_wp2_with fail
                refine (read_h b2 (nevR2 c (X0.take L0) (X1.take L1) (X2.take L2) L0 L1 L2) hH3.out (by decide)).mono ?_
                rintro e w10 ⟨xo, xc, rfl, xO, H10, B10⟩
                obtain ⟨xo', xc', xe, hall⟩ := own_conv xO (nev_rng H10).2.2.1 (X2.take L2).length rfl
                injection xe with e1 e2 e3
                subst e1 e3
                have hcv := fun n => hall.out (w10.drewN n) (drewN_below w10 n)
                have hHs := hH3.out.same B10
                have HM10 := hM3.out.same hHs.2
                have HB10 := hB3.out.trans (B10.mono hB3.out.size)
                have cU := HM10.2.2.cells.2.2.1
                rw [hYY.out.2.2] at cU
                have HHa := hide H10
                have HMa := hide HM10
                have HBa := hide HB10
                generalize (X2.take L2).length = LL at *
                clear xO hall B10 H10 HM10 HB10 hHs e2 hH3 hM3 hB3 cN
                go_wp2_with fail
                go_quiet (fail)
                have HHb := hide (HHa.out.same (drewN_below w10 nq)).1
                have HMb := hide (HMa.out.same (HHa.out.same (drewN_below w10 nq)).2)
                have HBb := hide (HBa.out.trans ((drewN_below w10 nq).mono HBa.out.size))
                generalize w10.drewN nq = w11 at *
                clear hcv cU HHa HMa HBa
                go_wp2
                go_roundw
                case rel => exact ⟨3, by go_num, by omega, HHb, HMb, HBb⟩
                case measure => simp [intOf]
              · have h3' : ¬ ((((3 : Nat) : Int)) < 3) := by omega
                have AW := hide (awake_any wr)
                go_wp2_with fail
                refine AW.out.mono ?_
                rintro e wz ⟨rfl, Bz⟩
                have HBz := hide (hB3.out.trans (Bz.mono hB3.out.size))
                clear Bz AW
                go_wp2
                go_ret
                exact ⟨rfl, HBz.out⟩

end Go.Proofs.Ythmfkfiblaamfaa.Clep
