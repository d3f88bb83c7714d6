/- What block.Put, and the document's own Block, do when called. Conditions: at most 2^45 bytes ahead. -/
import Derived.Test.YtodhljiboakjnaaGreatZe
import Derived.Test.YtodhljiboakjnaaGreatZo
import Derived.Test.YtodhljiboakjnaaGreatZr
import Derived.Test.YtodhljiboakjnaaGreatZp
import Derived.Test.YtodhljiboakjnaaGreatZn
namespace Go.Proofs.YtodhljiboakjnaaGreat.Clep
open Go.RowKit
set_option linter.unusedVariables false

/-- A block's bytes. -/
def bkb (l : List It) : List Int := fr 2 (ibn l)
theorem ibn_few (l : List It) (hl : l.length ≤ 100) : 1 ≤ (ibn l).length ∧ (ibn l).length ≤ 3210 := by
  have h1 := ibs_len l
  have h2 := pu_len (l.length : Int)
  unfold ibn
  rw [List.length_append]
  omega
theorem bytel_ibn (l : List It) (hw : ∀ x ∈ l, x.wf) (hl : l.length ≤ 100) : ByteL (ibn l) := ibn_range l hw (by omega)
theorem bkb_len (l : List It) : (bkb l).length = (ibn l).length + 12 := fr_len _ _
theorem bkb_range (l : List It) (hw : ∀ x ∈ l, x.wf) (hl : l.length ≤ 100) : ByteL (bkb l) := fr_range 2 _ (by omega) (by omega) (by have := ibn_few l hl; omega) (bytel_ibn l hw hl)
theorem bme_zero {l : List It} (h : bme l = 0) : fit l = true ∧ l.all It.ok = true := by
  unfold bme at h
  split at h
  · cases h
  · split at h
    · rename_i h1 h2
      have := risB_iff.1 h2.2
      exact ⟨fit_iff.2 ⟨h2.1, by omega, this.1⟩, List.all_eq_true.2 this.2⟩
    · cases h
theorem bme_of {l : List It} (h : fit l = true) (h2 : l.all It.ok = true) : bme l = 0 := by
  have := fit_iff.1 h
  unfold bme
  rw [if_neg (by omega), if_pos ⟨this.1, risB_iff.2 ⟨this.2.2, List.all_eq_true.1 h2⟩⟩]
theorem bme_cases (l : List It) : (100 < l.length ∧ bme l = 2) ∨ (l.length ≤ 100 ∧ fit l = false ∧ bme l = 1) ∨ (l.length ≤ 100 ∧ fit l = true ∧ l.all It.ok = false ∧ bme l = 1) ∨ (l.length ≤ 100 ∧ fit l = true ∧ l.all It.ok = true ∧ bme l = 0) := by
  rcases Nat.lt_or_ge 100 l.length with h | h
  · exact .inl ⟨h, by unfold bme; rw [if_pos h]⟩
  · cases hf : fit l with
    | false =>
      refine .inr (.inl ⟨h, rfl, ?_⟩)
      unfold bme
      rw [if_neg (by omega), if_neg]
      rintro ⟨h0, hr⟩
      rw [fit_iff.2 ⟨h0, h, (risB_iff.1 hr).1⟩] at hf
      cases hf
    | true =>
      cases hk : l.all It.ok with
      | false =>
        refine .inr (.inr (.inl ⟨h, rfl, rfl, ?_⟩))
        unfold bme
        rw [if_neg (by omega), if_neg]
        rintro ⟨h0, hr⟩
        rw [List.all_eq_true.2 (risB_iff.1 hr).2] at hk
        cases hk
      | true => exact .inr (.inr (.inr ⟨h, rfl, rfl, bme_of hf hk⟩))
set_option maxRecDepth 100000 in
set_option maxHeartbeats 1000000 in
theorem bput_any (a0 a1 : Option Addr) (len0 cap0 len1 cap1 : Nat) (zs : List Int) (l : List It) (w : World) (hm : len0 ≤ 500000000000) (hl : len1 ≤ 9223372036854775807) (h0 : Bs w a0 len0 cap0 zs) (h1 : Is w a1 len1 cap1 l) :
    Calls Tryz.prog 55 #[.slice a0 len0 cap0, .slice a1 len1 cap1] w fun e w' => Below w.heap.size w w' ∧ ((bme l ≠ 0 ∧ e = .returned (.tuple #[.slice none 0 0, .int .i64 (bme l)])) ∨
      (bme l = 0 ∧ ∃ v, e = .returned (.tuple #[v, .int .i64 0]) ∧ Own w' w.heap.size v (zs ++ bkb l))) := by
  have hll := h1.1
  have hwf := h1.2.2.1
  rcases bme_cases l with ⟨g, hb⟩ | ⟨g, hf, hb⟩ | ⟨g, hf, hk, hb⟩ | ⟨g, hf, hk, hb⟩
  · have hgt : 100 < len1 := by omega
    have HB := hide hb
    clear h0 h1 hwf hb
    go_enter Tryz.func55, Tryz.ntmps55
    go_wp2
    go_ret2
    exact ⟨Below.refl _ _, .inl ⟨by rw [HB.out]; decide, by rw [HB.out]; rfl⟩⟩
  · have hle : len1 ≤ 100 := by omega
    have hft := fits_any a1 len1 cap1 l w h1 hl
    rw [hf] at hft
    have HF := hide hft
    have HB := hide hb
    clear h0 h1 hwf hb hft hf
    go_enter Tryz.func55, Tryz.ntmps55
    go_wp2_with (first | (go_at_call 82; refine HF.out.mono ?_; rintro e w1 ⟨rfl, hb1⟩))
    go_ret2
    exact ⟨hb1, .inl ⟨by rw [HB.out]; decide, by rw [HB.out]; rfl⟩⟩
  · have hle : len1 ≤ 100 := by omega
    have hft := fits_any a1 len1 cap1 l w h1 hl
    rw [hf] at hft
    have HF := hide hft
    have HB := hide hb
    have HY := hide (fun W (hW : Below w.heap.size w W) => bytes_bad none a1 0 0 len1 cap1 [] l W (by omega) (by omega) (bs_nil W) (h1.below hW (Nat.le_refl _)) hk)
    clear h0 h1 hwf hb hft hf hk
    go_enter Tryz.func55, Tryz.ntmps55
    go_wp2_with (first | (go_at_call 82; refine HF.out.mono ?_; rintro e w1 ⟨rfl, hb1⟩) | (go_at_call 54; refine (HY.out _ hb1).mono ?_; rintro e w2 ⟨rfl, hb2⟩))
    go_ret2
    exact ⟨bmore hb1 hb2, .inl ⟨by rw [HB.out]; decide, by rw [HB.out]; rfl⟩⟩
  · have hle : len1 ≤ 100 := by omega
    have hft := fits_any a1 len1 cap1 l w h1 hl
    rw [hf] at hft
    have HF := hide hft
    have HB := hide hb
    have HN := hide (ibn_few l g)
    have HR := hide (bytel_ibn l hwf g)
    have HY := hide (fun W (hW : Below w.heap.size w W) => bytes_any none a1 0 0 len1 cap1 [] l W (by omega) (by omega) (bs_nil W) (h1.below hW (Nat.le_refl _)) hk)
    have H0 := hide (fun W (hW : Below w.heap.size w W) => h0.below hW (Nat.le_refl _))
    clear h0 h1 hwf hb hft hf hk
    go_enter Tryz.func55, Tryz.ntmps55
    go_wp2_with (first | (go_at_call 82; refine HF.out.mono ?_; rintro e w1 ⟨rfl, hb1⟩) | fail)
    refine (HY.out _ hb1).mono ?_
    rintro e w2 ⟨v, rfl, ho, hb2⟩
    rw [List.nil_append] at ho
    obtain ⟨a2, c2, rfl, hc2, hbs, -⟩ := own_bs ho (range_of HR.out)
    have hP := hide (fput_any a0 a2 len0 cap0 (ibn l).length c2 zs (ibn l) 2 w2 (by omega) (by omega) (by have := HN.out; omega) (by omega) (H0.out _ (bmore hb1 hb2)) hbs)
    have HB2 := hide (bmore hb1 hb2)
    clear HY HF H0 ho hbs hb2
    generalize hL : (ibn l).length = L at *
    go_wp2_with (first | (go_at_call 58; refine hP.out.mono ?_; rintro e w3 ⟨v3, rfl, ho3, hb3⟩))
    go_ret2
    exact ⟨bmore HB2.out hb3, .inr ⟨HB.out, _, rfl, own_base ho3 HB2.out.size⟩⟩
theorem block_any (a : Option Addr) (n c : Nat) (l : List It) (w : World) (h : Is w a n c l) (hn : n ≤ 100) :
    Calls Tryz.prog 35 #[.slice a n c] w fun e w' => e = .returned (.string (strOfNums (bkb l))) ∧ Below w.heap.size w w' := by
  have hl := h.1
  have hB := hide (refbytes_any a n c l w (by omega) h)
  have hF := hide (fun W => refframe_any 2 (strOfNums (ibn l)) (ibn l) W (by omega) (by omega) rfl (by have := ibn_few l (by omega); omega) (bytel_ibn l h.2.2.1 (by omega)))
  clear h
  generalize hs : strOfNums (ibn l) = s at *
  go_enter Tryz.func35, Tryz.ntmps35
  go_wp2_with (first | (go_at_call 34; refine hB.out.mono ?_; rintro e w1 ⟨rfl, hb1⟩) | (go_at_call 39; refine (hF.out _).mono ?_; rintro e w2 ⟨rfl, hb2⟩))
  go_ret
  exact ⟨rfl, bmore hb1 hb2⟩

end Go.Proofs.YtodhljiboakjnaaGreat.Clep

/- Blocks: what is put is taken; a block's bytes are just those that would be written. No conditions. -/
namespace Go.Proofs.YtodhljiboakjnaaGreat.Clep
open Go.RowKit
set_option linter.unusedVariables false
set_option maxRecDepth 10000

theorem isB_bkb (l : List It) (r : List Int) (hw : ∀ x ∈ l, x.wf) (hf : fit l = true) (hk : l.all It.ok = true) : isB (bkb l ++ r) = true ∧ bx (bkb l ++ r) = l ∧ ln (bkb l ++ r) = ((ibn l).length : Int) := by
  have hl := (fit_iff.1 hf).2.1
  have hn := (ibn_few l hl).2
  have hb : bx (bkb l ++ r) = l := by
    unfold bx bkb
    rw [fr_bo 2 (ibn l) r (by omega), rd_ok l hw hk (by omega)]
  refine ⟨isB_iff.2 ⟨fr_ce 2 (ibn l) r (by omega) (by omega) (by omega) (bytel_ibn l hw hl), fr_kd 2 (ibn l) r, by rw [hb]; exact hf⟩, hb, fr_ln 2 (ibn l) r (by omega)⟩
theorem isB_fit {X : List Int} (h : isB X = true) : fit (bx X) = true := (isB_iff.1 h).2.2
theorem isB_nil : isB [] = false := by
  unfold isB
  have : ce [] = 4 := by kernel_rfl
  simp [this]

end Go.Proofs.YtodhljiboakjnaaGreat.Clep
