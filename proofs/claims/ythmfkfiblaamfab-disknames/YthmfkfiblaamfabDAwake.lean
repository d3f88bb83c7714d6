/- The statements' own test of the Disk says true: the walk over the translated program. No conditions. -/
import Derived.Test.YthmfkfiblaamfabDLits
namespace Go.Proofs.Ythmfkfiblaamfab.Clep
open Go.RowKit Go.Maps
set_option linter.unusedVariables false

def nmA : ByteArray := ⟨#[97]⟩
def aw1 : St := ⟨1000, 1, 0, 0, false, 1, [⟨1, [], 0⟩], .map [(.string [97], i64L 1)], .map [], [⟨0, ⟨#[97]⟩, ⟨#[]⟩, 1⟩]⟩
def aw2 : St := ⟨1000, 2, 0, 0, false, 1, [⟨1, [120, 121, 122], 0⟩], .map [(.string [97], i64L 1)], .map [], [⟨0, ⟨#[97]⟩, ⟨#[]⟩, 1⟩]⟩
def aw3 : St := ⟨1000, 3, 0, 0, false, 1, [⟨1, [120, 121, 122], 0⟩], .map [(.string [97], i64L 1)], .map [(.string [97], i64L 1)], []⟩
def aw4 : St := ⟨1000, 3, 0, 0, false, 1, [⟨1, [120, 121], 2⟩], .map [(.string [97], i64L 1)], .map [(.string [97], i64L 1)], []⟩
theorem awake1 : createS (newS 1000) ⟨#[97]⟩ = (0, aw1) := by kernel_rfl
theorem awake2 : appendS aw1 ⟨#[97]⟩ [120, 121, 122] = (0, aw2) := by kernel_rfl
theorem awake3 : syncDirS aw2 = (0, aw3) := by kernel_rfl
theorem awake4 : crashS aw3 [2] = aw4 := by kernel_rfl
theorem awake5 : readS aw4 ⟨#[97]⟩ = (0, [120, 121]) := by kernel_rfl

set_option maxHeartbeats 400000 in
set_option maxRecDepth 4000 in
theorem awake_any (w : World) : Calls Try.prog 17 #[] w fun e w' => e = .returned (.bool true) ∧ Below w.heap.size w w' := by
  have NW := hide (new_h 1000 w (by omega) 1000 rfl)
  go_enter Try.func17, Try.ntmps17
  go_wp2_with fail
  refine NW.out.mono ?_
  rintro e w1 ⟨R, rfl, H1, B1⟩
  have CR := hide (create_h ⟨#[97]⟩ awake1 H1 (by decide) (by decide))
  have HB1 := hide B1
  clear H1 B1 NW
  go_wp2_with fail
  refine CR.out.mono ?_
  rintro e w2 ⟨rfl, H2, S2⟩
  obtain ⟨v2, hcv, hb2, hB2, hl2⟩ := conv_lit w2 [120, 121, 122] (by decide) #[.int .u8 120, .int .u8 121, .int .u8 122] rfl 3 rfl
  have AP := hide (append_h ⟨#[97]⟩ (some ⟨w2.heap.size, 0, none⟩) 3 3 [120, 121, 122] awake2 (H2.wide hb2.out) (by decide) (by decide) hB2.out (by omega) (fun b off h => by cases h; exact .inr ⟨Nat.le_refl _, hl2.out⟩))
  have HB2 := hide ((HB1.out.trans (S2.below (fun i hi => hi))).trans (hb2.out.mono (Nat.le_trans HB1.out.size S2.size)))
  clear H2 S2 CR HB1 hb2 hB2 hl2
  go_wp2_with fail
  refine AP.out.mono ?_
  rintro e w3 ⟨rfl, H3, S3⟩
  have SD := hide (syncDir_h awake3 (H3.less (fun i hi => .inl hi) : Held (· < w.heap.size) w3 R aw2) (by decide))
  have HB3 := hide (HB2.out.trans (S3.below (fun i hi => .inl hi)))
  clear H3 S3 AP HB2 hcv
  go_wp2_with fail
  refine SD.out.mono ?_
  rintro e w4 ⟨rfl, H4, S4⟩
  have CS := hide (crash_h (some ⟨w4.heap.size, 0, none⟩) 1 1 [2] awake4 (H4.more (.cells #[.int .i64 2] 3)) (by decide) (num_lit _ w4 [2] (by decide) _ rfl (.inr rfl) 1 rfl (by omega)))
  have HB4 := hide (HB3.out.trans (S4.below (fun i hi => hi)))
  clear H4 S4 SD HB3
  go_wp2_with fail
  refine CS.out.mono ?_
  rintro e w5 ⟨rfl, H5, S5⟩
  have RD := hide (read_h ⟨#[97]⟩ awake5 (H5.less (fun i hi => .inl hi) : Held (· < w.heap.size) w5 R aw4) (by decide))
  have HB5 := hide ((HB4.out.alloc HB4.out.size (.cells #[.int .i64 2] 3)).trans (S5.below (fun i hi => .inl hi)))
  clear H5 S5 CS HB4
  go_wp2_with fail
  refine RD.out.mono ?_
  rintro e w6 ⟨xo, xc, rfl, xO, H6, B6⟩
  have CL := hide (calls_h H6)
  have HB6 := hide (HB5.out.trans (B6.mono HB5.out.size))
  obtain ⟨xo', xc', xe, _, xB, _⟩ := own_bs xO (range_of (by decide))
  injection xe with e1 e2 e3
  subst e1 e3
  have hcv := conv_bs xB
  have hst : strOfNums [120, 121] = ⟨#[120, 121]⟩ := by kernel_rfl
  rw [hst] at hcv
  clear RD HB5 B6 xO xB hst H6
  simp only [List.length_cons, List.length_nil, Nat.zero_add, Nat.reduceAdd] at hcv ⊢
  go_wp2_with fail
  refine CL.out.mono ?_
  rintro e w7 ⟨he, rfl⟩
  obtain rfl : e = .returned (.int .i64 3) := he
  clear CL
  go_wp2
  go_ret
  exact ⟨rfl, HB6.out⟩

end Go.Proofs.Ythmfkfiblaamfab.Clep
