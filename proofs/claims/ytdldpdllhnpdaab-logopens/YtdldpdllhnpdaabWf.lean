/- What log.Open does when called (a walk over the translated program): for any Disk, any name, a file of at most a million bytes. -/
import Derived.Test.YtdldpdllhnpdaabLe
import Derived.Test.YtdldpdllhnpdaabLb
import Derived.BigRegion
import Derived.RegionTactic
namespace Go.Proofs.Ytdldpdllhnpdaab.Clep
open Go.RowKit Go.Maps
set_option linter.unusedVariables false
set_option maxRecDepth 10000

theorem store_any (R i : Nat) (v : Value) (y : Int) (w : World) (h : w.cell? ⟨R, i, none⟩ = some v) (hf : w.frozen? ⟨R, i, none⟩ = false) :
    Calls Try.prog 21 #[.pointer (some ⟨R, i, none⟩), .int .i64 y] w fun e w' => e = .returned (.tuple #[]) ∧ w' = w.setCell ⟨R, i, none⟩ (.int .i64 y) := by
  have hst := run_call_store (P := Try.prog) Try.func34 (by kernel_rfl) (by kernel_rfl) (by kernel_rfl) (by kernel_rfl) (k := .i64) (y := y) h hf
  go_enter Try.func21, Try.ntmps21
  go_wp2
  go_end0
  exact ⟨rfl, rfl⟩
theorem lopen_nil (s : ByteArray) (w : World) : Calls Try.prog 8 #[.pointer none, .string s] w fun e w' => e = .returned (.tuple #[.pointer none, .slice none 0 0, .bool false, .int .i64 1]) ∧ w' = w := by
  go_enter Try.func8, Try.ntmps8
  go_wp2
  refine bodyPost_ret (by simp [results, Try.results8, go_sem]) rfl ⟨rfl, rfl⟩
theorem lopen_bad {F : Nat → Prop} {R : Nat} {S : St} {w : World} (s : ByteArray) {E : Nat} {zs : List Int} (e : readS S s = (E, zs)) (h : Held F w R S) (hs : s.size ≤ 70368744177664) (hE : E ≠ 0) :
    Calls Try.prog 8 #[.pointer (some ⟨R, 0, none⟩), .string s] w fun e w' => e = .returned (.tuple #[.pointer none, .slice none 0 0, .bool false, .int .i64 E]) ∧ Held F w' R S ∧ Below w.heap.size w w' := by
  have C := hide (read_h s e h hs)
  have hne : ¬ ((E : Int) = 0) := by omega
  clear h e
  go_enter Try.func8, Try.ntmps8
  go_wp2_with fail
  refine C.out.mono ?_
  rintro e w1 ⟨ao, cap, rfl, -, h1, hb⟩
  have H1 := hide h1
  have HB := hide hb
  generalize zs.length = L at *
  clear h1 hb C
  go_wp2
  refine bodyPost_ret (by simp [results, Try.results8, go_sem]) rfl ⟨rfl, H1.out, HB.out⟩
theorem lopen_corrupt {F : Nat → Prop} {R : Nat} {S : St} {w : World} (s : ByteArray) {zs : List Int} (e : readS S s = (0, zs)) (h : Held F w R S) (hs : s.size ≤ 70368744177664) (hl : zs.length ≤ 1000000) (hr : ByteL zs) (hE : (rp zs).2.2 ≠ 0) :
    Calls Try.prog 8 #[.pointer (some ⟨R, 0, none⟩), .string s] w fun e w' => e = .returned (.tuple #[.pointer none, .slice none 0 0, .bool false, .int .i64 (rp zs).2.2]) ∧ Held F w' R S ∧ Below w.heap.size w w' := by
  have C := hide (read_h s e h hs)
  have HR := hide (range_of hr)
  have HRP := hide (fun W ao cap (hW : Bs W ao zs.length cap zs) => replay_any ao zs.length cap zs W hl hW)
  clear h e hr
  go_enter Try.func8, Try.ntmps8
  go_wp2_with fail
  refine C.out.mono ?_
  rintro e w1 ⟨ao, cap, rfl, ho, h1, hb⟩
  obtain ⟨ao', cap', hv, -, hB, -⟩ := own_bs ho HR.out
  injection hv with e1 e2 e3
  subst e1 e3
  have RP := hide (HRP.out w1 _ _ hB)
  have H1 := hide h1
  have HB := hide hb
  generalize zs.length = L at *
  clear h1 hb C ho hB e2 HRP
  go_wp2_with fail
  refine RP.out.mono ?_
  rintro e w2 ⟨v, ys, rfl, hor, -, hb2, -⟩
  obtain ⟨a2, c2, rfl, -, -⟩ := hor.rws
  have H2 := hide (H1.out.same hb2).1
  have HB2 := hide (bmore HB.out hb2)
  generalize (rp zs).2.1 = E1 at *
  clear hb2 hor RP H1 HB
  go_wp2
  refine bodyPost_ret (by simp [results, Try.results8, go_sem]) rfl ⟨rfl, H2.out, HB2.out⟩
theorem lo_open {F : Nat → Prop} {w : World} {L R : Nat} {s : ByteArray} {S : St} (h : Blk w L (lgV R s false 0 0) 70) (hh : Held F w R S) (hL : F L) (t : Bool) (sz ct : Nat) :
    Lo F (((w.setCell ⟨L, 2, none⟩ (.bool t)).setCell ⟨L, 3, none⟩ (.int .i64 sz)).setCell ⟨L, 4, none⟩ (.int .i64 ct)) L R s t sz ct S ∧ Ch (fun i => i = L) w (((w.setCell ⟨L, 2, none⟩ (.bool t)).setCell ⟨L, 3, none⟩ (.int .i64 sz)).setCell ⟨L, 4, none⟩ (.int .i64 ct)) := by
  have c1 : Ch (fun i => i = L) w (w.setCell ⟨L, 2, none⟩ (.bool t)) := Ch.set w ⟨L, 2, none⟩ _ rfl
  have c2 : Ch (fun i => i = L) (w.setCell ⟨L, 2, none⟩ (.bool t)) ((w.setCell ⟨L, 2, none⟩ (.bool t)).setCell ⟨L, 3, none⟩ (.int .i64 sz)) := Ch.set _ ⟨L, 3, none⟩ _ rfl
  have c3 : Ch (fun i => i = L) ((w.setCell ⟨L, 2, none⟩ (.bool t)).setCell ⟨L, 3, none⟩ (.int .i64 sz)) (((w.setCell ⟨L, 2, none⟩ (.bool t)).setCell ⟨L, 3, none⟩ (.int .i64 sz)).setCell ⟨L, 4, none⟩ (.int .i64 ct)) := Ch.set _ ⟨L, 4, none⟩ _ rfl
  have c := (c1.trans c2).trans c3
  exact ⟨⟨((h.set 2 _).set 3 _).set 4 _, (hh.ch (c.mono (fun i _ e => by subst e; exact hL))).less (fun i hi => .inl hi), hL⟩, c⟩
set_option maxHeartbeats 1000000 in
theorem lopen_ok {F : Nat → Prop} {R : Nat} {S : St} {w : World} (s : ByteArray) {zs : List Int} (e : readS S s = (0, zs)) (h : Held F w R S) (hs : s.size ≤ 70368744177664) (hl : zs.length ≤ 1000000) (hr : ByteL zs) (hE : (rp zs).2.2 = 0) (len E1 : Nat) (hlen : zs.length = len) (hE1 : (rp zs).2.1 = E1) (t : Bool) (ht : decide (E1 < len) = t) :
    Calls Try.prog 8 #[.pointer (some ⟨R, 0, none⟩), .string s] w fun e w' => ∃ L v ys, e = .returned (.tuple #[.pointer (some ⟨L, 0, none⟩), v, .bool (!t), .int .i64 0]) ∧ w.heap.size ≤ L ∧
      Lo (fun i => F i ∨ i = L) w' L R s t E1 ys.length S ∧ Ors w' w.heap.size v ys ∧ ys.map Sl.l = (rp zs).1 ∧ (∀ g, v.ownBlock = some g → g ≠ L) ∧ Below w.heap.size w w' := by
  have C := hide (read_h s e h hs)
  have HR := hide (range_of hr)
  have HRP := hide (fun W ao cap (hW : Bs W ao zs.length cap zs) => replay_any ao zs.length cap zs W hl hW)
  clear h e hr
  have HE := hide hE
  have HE1 := hide hE1
  have hti : decide ((E1 : Int) < (len : Int)) = t := by rw [← ht]; congr 1; exact propext ⟨fun h => by omega, fun h => by omega⟩
  rw [hlen] at C HRP hl
  clear hE hE1 hlen
  go_enter Try.func8, Try.ntmps8
  go_wp2_with fail
  refine C.out.mono ?_
  rintro e w1 ⟨ao, cap, rfl, ho, h1, hb⟩
  obtain ⟨ao', cap', hv, -, hB, -⟩ := own_bs ho HR.out
  injection hv with e1 e2 e3
  subst e1 e3
  rw [← e2] at hB
  have RP := hide (HRP.out w1 _ _ hB)
  have H1 := hide h1
  have HB := hide hb
  clear h1 hb C ho hB e2 HRP
  go_wp2_with fail
  refine RP.out.mono ?_
  rintro e w2 ⟨v, ys, rfl, hor, hym, hb2, -⟩
  rw [HE.out, HE1.out]
  have HOR := hide hor
  obtain ⟨a2, c2, rfl, hrw, hc2⟩ := hor.rws
  have hyl : ys.length ≤ 9223372036854775807 := Nat.le_trans hrw.2.1.1 hc2
  have H2 := hide (H1.out.same hb2).1
  have HB2 := hide (bmore HB.out hb2)
  have HYM := hide hym
  have BG := hide (lbegin_any R s w2 hs)
  clear hb2 hor hym hrw RP H1
  go_wp2_with fail
  refine BG.out.mono ?_
  rintro e w3 ⟨L, rfl, hblk, hL, hb3⟩
  have HO3 := hide (HOR.out.keep hb3)
  have H3 := hide ((H2.out.wide hb3).less (F' := fun i => F i ∨ i = L) (fun i hi => by
    rcases hi with hi | hi
    · exact .inl hi
    · subst hi; exact .inr ⟨hL, hblk.lt⟩))
  have HB3 := hide (bmore HB2.out hb3)
  have HBK := hide hblk
  have HLo := hide (lo_open hblk H3.out (.inr rfl) t E1 ys.length)
  have hLb := hide (Nat.le_trans HB2.out.size hL)
  have HNB := hide (show ∀ z ∈ ys, 0 < z.n → ∀ x, z.a = some x → x.block < L from fun z hz h0 x hx => Nat.lt_of_lt_of_le (is_lt (HOR.out.is z hz).1 h0 x hx) hL)
  have hBs := hide HB.out.size
  have hap := hide (show ∀ g, (Value.slice a2 ys.length c2).ownBlock = some g → g ≠ L from fun g hg e => by
    have := (World.ownsRow.lt HOR.out.own g hg).2
    omega)
  have c2' : w3.cell? ⟨L, 2, none⟩ = some (.bool false) := hblk.cell rfl
  have f2' := hblk.free 2
  have c3' : (w3.setCell ⟨L, 2, none⟩ (.bool t)).cell? ⟨L, 3, none⟩ = some (.int .i64 0) := (hblk.set 2 (.bool t)).cell rfl
  have f3' := (hblk.set 2 (.bool t)).free 3
  have c4' : ((w3.setCell ⟨L, 2, none⟩ (.bool t)).setCell ⟨L, 3, none⟩ (.int .i64 E1)).cell? ⟨L, 4, none⟩ = some (.int .i64 0) := ((hblk.set 2 (.bool t)).set 3 (.int .i64 E1)).cell rfl
  have f4' := ((hblk.set 2 (.bool t)).set 3 (.int .i64 E1)).free 4
  have ST := hide (store_any L 4 _ ys.length _ c4' f4')
  clear hblk hL hb3 BG H2 H3 HOR HB2 c4' f4'
  go_wp2_with fail
  refine ST.out.mono ?_
  rintro e w4 ⟨rfl, hw4⟩
  rw [← hw4] at HLo
  have HB4 := hide (HB3.out.trans (HLo.out.2.below HB3.out.size (fun i e => by rw [e]; exact hLb.out)))
  have HO4 := hide ((HO3.out.grown (row := some L) ⟨HLo.out.2.os, HLo.out.2.tape, HLo.out.2.output, HLo.out.2.size, fun i hi hne => HLo.out.2.block i hi (fun e => hne (by rw [e]))⟩ (by
    cases hv : (Value.slice a2 ys.length c2).ownBlock with
    | none => exact .inl rfl
    | some g => exact .inr (fun e => by injection e with e; exact hap.out g hv e)) (fun z hz h0 x hx e => by
      have h1 := HNB.out z hz h0 x hx
      injection e with e
      omega)).base hBs.out)
  have c5 := (HLo.out.1.below ((Below.refl _ w4).drew)).cells.2.2.1
  have c6 := HLo.out.1.cells.2.2.1
  clear hw4 ST HO3 HB3 c2' f2' c3' f3'
  go_wp2_with fail
  go_region
  have HL5 := hide (HLo.out.1.below ((Below.refl _ w4).drew))
  have HO5 := hide (HO4.out.keep ((Below.refl _ w4).drew))
  have HB5 := hide (HB4.out.drew)
  clear c5 c6
  generalize w4.drew = w5 at *
  go_wp2
  refine bodyPost_ret (by simp [results, Try.results8, go_sem]) rfl ⟨L, _, ys, rfl, hLb.out, HL5.out, HO5.out, HYM.out, hap.out, HB5.out⟩

end Go.Proofs.Ytdldpdllhnpdaab.Clep
