/- What the document's own List and Unlist (package clepsydraref1), and the statements' own Same, do when called: for rows up to 100000 numbers, any text up to 2^40. -/
import Derived.Test.YtgopcaemgcnapaaRefSum
import Derived.Test.YtgopcaemgcnapaaNListMath
namespace Go.Proofs.Ytgopcaemgcnapaa.Clep
open Go.RowKit
set_option linter.unusedVariables false
set_option maxRecDepth 10000

set_option maxHeartbeats 1000000 in
theorem reflist_any (a1 : Option Addr) (len1 cap1 : Nat) (ns : List Int) (w : World) (hm1 : len1 ≤ 100000) (h1 : Us w a1 len1 cap1 ns) :
    Calls Try.prog 37 #[.slice a1 len1 cap1] w fun e w' => e = .returned (.string (strOfNums (li ns))) ∧ Below w.heap.size w w' := by
  have H1 := hide h1
  have hnl := hide h1.1
  have hz := hide h1.2.2.1
  clear h1
  go_enter Try.func37, Try.ntmps37
  go_wp2_with fail
  refine (refnum_any _ _ (by omega) (by omega)).mono ?_
  obtain ⟨s0, hs0⟩ : ∃ s0, strOfNums (pu (len1 : Int)) = s0 := ⟨_, rfl⟩
  rw [hs0]
  rintro e w1 ⟨rfl, hb⟩
  have HB := hide hb
  have HS0 := hide hs0
  clear hb hs0
  go_wp2_with fail
  go_loopw [3, 4] (fun u i wr => ∃ (k : Nat) (sk : ByteArray), k ≤ len1 ∧ i = .int .i64 k ∧ u = .string sk ∧ sk.size ≤ 10 + 10 * k ∧ Hid (sk = strOfNums (pu (len1 : Int) ++ rows ns k)) ∧ Hid (Below w.heap.size w wr)) (fun _ i _ => len1 - (intOf i).toNat)
  case atStart => exact ⟨0, s0, by omega, rfl, rfl, by rw [← HS0.out, str_size]; have := pu_len (len1 : Int); omega, hide (by rw [← HS0.out]; simp [rows]), HB⟩
  case round =>
    obtain ⟨k, sk, hk, rfl, rfl, hsk, hS, hbel⟩ := hrel
    by_cases hlt : k < len1
    · obtain ⟨b, off, rfl, hcell⟩ := (H1.out.below hbel.out (Nat.le_refl _)).2.2.2 (by omega)
      have hck := hcell k hlt
      have hzk := hz.out k
      have HS := hide (rows_succ ns k (by rw [hnl.out]; exact hlt))
      have HPL := hide (pu_len (ns.getD k 0))
      clear hcell
      generalize ns.getD k 0 = c at *
      go_wp2_with fail
      refine (refnum_any _ c hzk.1 hzk.2).mono ?_
      obtain ⟨sc, hsc⟩ : ∃ sc, strOfNums (pu c) = sc := ⟨_, rfl⟩
      rw [hsc]
      rintro e w2 ⟨rfl, hb2⟩
      have HB2 := hide (hbel.out.trans (hb2.mono hbel.out.size))
      have hscs : sc.size ≤ 10 := by rw [← hsc, str_size]; exact HPL.out.2
      have HSC := hide hsc
      have hadd : ∀ W, (Op.stringOp .add sk sc).run Try.prog W = .ok (.string (sk ++ sc)) W := fun W => run_string_add_sum W _ _ (by omega)
      clear hb2 hsc
      go_wp2_with fail
      go_roundw
      case rel => exact ⟨k + 1, sk ++ sc, by omega, by go_num, rfl, by rw [ByteArray.size_append]; omega, hide (by rw [hS.out, ← HSC.out, str_app, HS.out, List.append_assoc]), HB2⟩
      case measure => simp [intOf]; omega
    · have HE : Hid (sk = strOfNums (li ns)) := hide (by rw [hS.out]; unfold li; rw [rows_all ns k (by rw [hnl.out]; omega), hnl.out])
      go_wp2
      go_ret
      exact ⟨by rw [HE.out]; rfl, hbel.out⟩

theorem ownU_us {w : World} {B : Nat} {v : Value} {ns : List Int} (h : OwnU w B v ns) (hz : ∀ z ∈ ns, 0 ≤ z ∧ z ≤ 18446744073709551615) :
    ∃ ao cap, v = .slice ao ns.length cap ∧ Us w ao ns.length cap ns := by
  obtain ⟨hl, ⟨rfl, hn⟩ | ⟨g, cap, cur, rfl, hg, hh, hnc, hcm, hcs, hx⟩⟩ := h
  · exact ⟨none, 0, by rw [hn], ⟨rfl, ⟨by omega, fun _ => ⟨hn, rfl⟩⟩, urange_of hz, fun h => by omega⟩⟩
  · refine ⟨some ⟨g, 0, none⟩, cap, rfl, ⟨rfl, ⟨hnc, fun h => by cases h⟩, urange_of hz, fun _ => ⟨g, 0, rfl, fun i hi => ?_⟩⟩⟩
    have hc := World.ownsRow.cells (w := w) (base := B) (e := 24) (size := 1) (v := .slice (some ⟨g, 0, none⟩) ns.length cap) (n := ns.length) (xs := uv ns)
      ⟨hl, .inr ⟨g, cap, cur, rfl, hg, hh, hnc, hcm, hcs, hx⟩⟩ (g := g) rfl i (.int .u64 (ns.getD i 0)) (by simp [uv, List.getD, List.getElem?_eq_getElem hi])
    rwa [add_plain] at hc

end Go.Proofs.Ytgopcaemgcnapaa.Clep
