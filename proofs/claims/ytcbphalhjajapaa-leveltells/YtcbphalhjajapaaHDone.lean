/- What level.Done and level.Over do when called (walks over the translated program). Conditions: at most 1,000 files, each of 0 to 1,000,000 items. -/
import Derived.Test.YtcbphalhjajapaaHOver
namespace Go.Proofs.Ytcbphalhjajapaa.Clep
open Go.RowKit
set_option linter.unusedVariables false
set_option linter.unusedSimpArgs false

theorem new_look (w : World) (F : Value) : Ek (w.alloc (Obj.cells #[F, .int .u32 0, .int .i32 0, .int .u32 0, .slice none 0 0, .slice none 0 0, .slice none 0 0, .slice none 0 0] 56)) w.heap.size (lkC F 0 0 nilP) 56 := ek_new w _ _
theorem hs_far {w : World} {a : Option Addr} {n c : Nat} {l : List He} (h : Hs w a n c l) : Hid (∀ W, Below w.heap.size w W → Hs W a n c l) := hide (fun W hW => h.below hW (Nat.le_refl _))
set_option maxRecDepth 100000 in
theorem done_any (a : Option Addr) (n c : Nat) (l : List He) (w : World) (h : Hs w a n c l) (hm : Mild l) :
    Calls Try.prog 12 #[.slice a n c] w fun e w' => e = .returned (.bool (low l).isNone) ∧ Below w.heap.size w w' := by
  have A1 := (Below.refl w.heap.size w).alloc (Nat.le_refl _) (Obj.cells #[.slice a n c, .int .u32 0, .int .i32 0, .int .u32 0, .slice none 0 0, .slice none 0 0, .slice none 0 0, .slice none 0 0] 56)
  have HF := hs_far h
  have HL := hide (lowest_any w.heap.size w.heap.size a n c l _ (Nat.le_refl _) A1.size h.1 hm (new_look w (.slice a n c)) (hide (fun W hW => HF.out W (A1.trans hW))))
  have HA := hide A1
  have HV := hide (show lowV l = match low l with | none => .tuple #[.int .i64 0, .bool false] | some k => .tuple #[.int .i64 (k : Int), .bool true] from rfl)
  clear A1 h hm HF
  generalize lowV l = V at *
  generalize low l = R at *
  go_enter Try.func12, Try.ntmps12
  go_wp2_with fail
  refine HL.out.mono ?_
  rintro e w1 ⟨rfl, ps, _, hg⟩
  have HB := hide (HA.out.grown hg HA.out.size (fun q hq => by cases hq; exact Nat.le_refl _))
  cases R with
  | none =>
    have hv := HV.out
    simp only at hv
    subst hv
    clear HL HA hg
    go_wp2
    go_ret
    exact ⟨rfl, HB.out⟩
  | some k =>
    have hv := HV.out
    simp only at hv
    subst hv
    clear HL HA hg
    go_wp2
    go_ret
    exact ⟨rfl, HB.out⟩
theorem filt_succ (p : Nat → Bool) (n : Nat) : (List.range (n + 1)).filter p = (List.range n).filter p ++ (if p n = true then [n] else []) := by
  rw [List.range_succ, List.filter_append]
  congr 1
  cases h : p n <;> simp [h]
theorem zrow_base {w : World} {B C n size : Nat} {e : TypeId} {v : Value} {xs : List Value} (h : w.ownsRow B e size v n xs) (hc : C ≤ B) : w.ownsRow C e size v n xs := by
  obtain ⟨hl, ⟨rfl, hn⟩ | ⟨g, cap, cur, rfl, hg, hh, hnc, hcm, hcs, hx⟩⟩ := h
  · exact ⟨hl, .inl ⟨rfl, hn⟩⟩
  · exact ⟨hl, .inr ⟨g, cap, cur, rfl, Nat.le_trans hc hg, hh, hnc, hcm, hcs, hx⟩⟩
/-- Between the rounds of Over: the look, as it stood in W0, and the row. -/
structure OvS (a : Option Addr) (n c : Nat) (l : List He) (w W0 W : World) (v : Value) (i : Nat) : Prop where
  k : ∃ ps, Lk W0 w.heap.size (.slice a n c) l ps
  b0 : Below w.heap.size w W0
  b : Below W0.heap.size W0 W
  o : OwnZ W W0.heap.size v (zn ((List.range i).filter (ovr l)))
set_option maxRecDepth 100000 in
set_option maxHeartbeats 1000000 in
theorem overs_any (a : Option Addr) (n c : Nat) (l : List He) (w : World) (h : Hs w a n c l) (hm : Mild l) :
    Calls Try.prog 15 #[.slice a n c] w fun e w' => ∃ v, e = .returned v ∧ OwnZ w' w.heap.size v (overE l) ∧ Below w.heap.size w w' := by
  have A1 := (Below.refl w.heap.size w).alloc (Nat.le_refl _) (Obj.cells #[.slice a n c, .int .u32 0, .int .i32 0, .int .u32 0, .slice none 0 0, .slice none 0 0, .slice none 0 0, .slice none 0 0] 56)
  have HF := hs_far h
  have K0 := hide (new_look w (.slice a n c))
  have hl := h.1
  have HFI := hide (over_first w.heap.size w.heap.size a n c l _ (Nat.le_refl _) A1.size hl (by have := hm.1; omega) K0.out (hide (fun W hW => HF.out W (A1.trans hW))))
  have HDO := hide (fun (ps : Nat → Value) (k : Nat) (W : World) (hk : k < 4) (h : Lk W w.heap.size (.slice a n c) l ps) (hg : Below w.heap.size w W) => over_done w.heap.size w.heap.size a n c l ps k W hk h hl hm hg.size (hide (fun W' hW' => HF.out W' (hg.trans hW'))))
  have HA := hide A1
  clear h hm hl A1 HF K0
  go_enter Try.func15, Try.ntmps15
  go_wp2_with fail
  generalize w.alloc (Obj.cells #[.slice a n c, .int .u32 0, .int .i32 0, .int .u32 0, .slice none 0 0, .slice none 0 0, .slice none 0 0, .slice none 0 0] 56) = wa at *
  go_loopw [4, 8] (fun v t wr => ∃ i : Nat, i ≤ 4 ∧ t = .int .i64 i ∧ Hid ((i = 0 ∧ wr = wa ∧ v = .slice none 0 0) ∨ (0 < i ∧ ∃ W0, OvS a n c l w W0 wr v i))) (fun _ t _ => 4 - (intOf t).toNat)
  case atStart => exact ⟨0, by omega, rfl, hide (.inl ⟨rfl, rfl, rfl⟩)⟩
  case round =>
    obtain ⟨i, hi, rfl, hst⟩ := hrel
    by_cases hlt : i < 4
    · have hqi : (i : Int) < 4 := by omega
      have HC := hide (show Calls Try.prog 26 #[.pointer (some ⟨w.heap.size, 0, none⟩), .int .i64 (i : Int)] wr fun e w' => e = .returned (.bool (ovr l i)) ∧ ∃ W0, OvS a n c l w W0 w' u4 i from by
        rcases hst.out with ⟨rfl, rfl, rfl⟩ | ⟨h0, W0, hs⟩
        · exact HFI.out.mono fun e w' ⟨he, ps, hr, hg⟩ => ⟨he, w', ⟨⟨ps, hr⟩, HA.out.grown hg HA.out.size (fun q hq => by cases hq; exact Nat.le_refl _), Below.refl _ _, ownZ_nil _ _⟩⟩
        · obtain ⟨⟨ps, hlk⟩, hb0, hb, ho⟩ := hs
          have hbw := hb0.trans (hb.mono hb0.size)
          exact (HDO.out ps i _ hlt (hlk.keep hb) hbw).mono fun e w' ⟨he, hb2⟩ => ⟨he, W0, ⟨⟨ps, hlk⟩, hb0, hb.trans (hb2.mono hb.size), xrow_keep ho hb2⟩⟩)
      clear hst
      go_wp2_with fail
      refine HC.out.mono ?_
      rintro e w2 ⟨rfl, W0, hs⟩
      have HFS := hide (filt_succ (ovr l) i)
      clear HC
      cases hov : ovr l i with
      | false =>
        have HR := hide (show OvS a n c l w W0 w2 u4 (i + 1) from ⟨hs.k, hs.b0, hs.b, by rw [HFS.out, hov, if_neg (by simp), List.append_nil]; exact hs.o⟩)
        clear hs hov
        go_wp2
        go_roundw
        case rel => exact ⟨i + 1, by omega, by go_num, hide (.inr ⟨by omega, W0, HR.out⟩)⟩
        case measure => simp [intOf]; omega
      | true =>
        have A3 := (Below.refl _ w2).alloc (Nat.le_refl _) (Obj.cells #[.int .i64 (i : Int)] 3)
        have HE := hide (ek_new w2 #[.int .i64 (i : Int)] 3)
        have HO := hide (xrow_keep hs.o A3)
        have HB := hide (hs.b.trans (A3.mono hs.b.size))
        have HS := hide (Nat.le_trans hs.b.size A3.size)
        have HLE := hide (show (zn ((List.range i).filter (ovr l))).length ≤ 100000 from by rw [zn_len]; have := List.length_filter_le (ovr l) (List.range i); rw [List.length_range] at this; omega)
        have HFT := hide (show zn ((List.range (i + 1)).filter (ovr l)) = zn ((List.range i).filter (ovr l)) ++ [(i : Int)] from by rw [HFS.out, hov, if_pos rfl, zn_app]; rfl)
        have HH := hide hs
        clear hs hov A3
        go_wp2_with (at_builtin; refine wpList_append_zz rfl _ _ rfl W0.heap.size _ _ rfl HO.out w2.heap.size (i : Int) rfl HE.out HLE.out HS.out ?_; intro v3 w3 ho3 hg3 hk3 _)
        go_roundw
        case rel => exact ⟨i + 1, by omega, by go_num, hide (.inr ⟨by omega, W0, ⟨HH.out.k, HH.out.b0, HB.out.grown hg3 HS.out (fun q hq => hk3 q hq), by rw [HFT.out]; exact ho3⟩⟩)⟩
        case measure => simp [intOf]; omega
    · obtain rfl : i = 4 := by omega
      rcases hst.out with ⟨h, _⟩ | ⟨_, W0, hs⟩
      · omega
      have HR := hide (show OwnZ _ w.heap.size u4 (overE l) ∧ Below w.heap.size w _ from ⟨zrow_base hs.o hs.b0.size, hs.b0.trans (hs.b.mono hs.b0.size)⟩)
      clear hst hs
      go_wp2
      go_ret
      exact ⟨_, rfl, HR.out.1, HR.out.2⟩

end Go.Proofs.Ytcbphalhjajapaa.Clep
