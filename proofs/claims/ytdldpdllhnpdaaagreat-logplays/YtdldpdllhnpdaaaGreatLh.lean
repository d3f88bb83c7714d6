/- What Size and Sync of a Log do when called (walks over the translated program). Conditions: fewer than 2^40 calls of the Disk. -/
import Derived.Test.YtdldpdllhnpdaaaGreatLe
import Derived.Test.YtdldpdllhnpdaaaGreatLb
import Derived.BigRegion
import Derived.RegionTactic
import Derived.Test.YtdldpdllhnpdaaaGreatLa
import Derived.Test.YtdldpdllhnpdaaaGreatZl
import Derived.Test.YtdldpdllhnpdaaaGreatYg
namespace Go.Proofs.YtdldpdllhnpdaaaGreat.Clep
open Go.RowKit Go.Maps
set_option linter.unusedVariables false
set_option maxRecDepth 10000

theorem lsize_any {F : Nat → Prop} {w : World} {L R : Nat} {s : ByteArray} {t : Bool} {sz ct : Nat} {S : St} (h : Lo F w L R s t sz ct S) :
    Calls Tryz.prog 13 #[.pointer (some ⟨L, 0, none⟩)] w fun e w' => e = .returned (.int .i64 sz) ∧ w' = w := by
  obtain ⟨c0, c1, c2, c3, c4⟩ := h.cells
  clear h
  go_enter Tryz.func13, Tryz.ntmps13
  go_wp2
  go_ret
  exact ⟨rfl, rfl⟩
theorem lsync_torn {F : Nat → Prop} {w : World} {L R : Nat} {s : ByteArray} {sz ct : Nat} {S : St} (h : Lo F w L R s true sz ct S) :
    Calls Tryz.prog 15 #[.pointer (some ⟨L, 0, none⟩)] w fun e w' => e = .returned (.int .i64 9) ∧ w' = w := by
  obtain ⟨c0, c1, c2, c3, c4⟩ := h.cells
  clear h
  go_enter Tryz.func15, Tryz.ntmps15
  go_wp2
  go_ret
  exact ⟨rfl, rfl⟩
set_option maxHeartbeats 1000000 in
theorem lsync_any {F : Nat → Prop} {w : World} {L R : Nat} {s : ByteArray} {sz ct : Nat} {S : St} (h : Lo F w L R s false sz ct S) {E : Nat} {S' : St} (e : syncS S s = (E, S')) (hm : S.calls < 1099511627776) (hs : s.size ≤ 70368744177664) :
    Calls Tryz.prog 15 #[.pointer (some ⟨L, 0, none⟩)] w fun e w' => e = .returned (.int .i64 E) ∧ Lo F w' L R s false sz ct S' ∧ Same F w w' := by
  obtain ⟨c0, c1, c2, c3, c4⟩ := h.cells
  have AP := hide (sync_h s e (h.held.same ((Below.refl _ w).drew)).1 hm hs)
  have H := hide h
  clear h e c0 c1 c3 c4
  obtain ⟨c0, c1, d2, c3, c4⟩ := (H.out.below ((Below.refl _ w).drew)).cells
  have HK0 := And.intro c0 c1
  have HK2 := hide (show ∀ W, Same F w.drew W → W.cell? ⟨L, 0, none⟩ = some (.pointer (some ⟨R, 0, none⟩)) ∧ W.cell? ⟨L, 1, none⟩ = some (.string s) from fun W hW => by
    have := hW.blk (H.out.below ((Below.refl _ w).drew)).blk H.out.own
    exact ⟨this.cell rfl, this.cell rfl⟩)
  go_enter Tryz.func15, Tryz.ntmps15
  go_wp2_with fail
  go_region_held_law (fun W => W.cell? ⟨L, 0, none⟩ = some (.pointer (some ⟨R, 0, none⟩)) ∧ W.cell? ⟨L, 1, none⟩ = some (.string s))
    (first | exact HK0 | exact HK2.out _ (by with_reducible assumption))
    (first | (go_at_call 32; refine AP.out.mono ?_; rintro e w2 ⟨rfl, h2, s2⟩))
  have L2 : Hid (Lo F w2 L R s false sz ct S') := hide ⟨s2.blk (H.out.below ((Below.refl _ w).drew)).blk H.out.own, h2, H.out.own⟩
  have S2 := hide ((same_drew F w).trans s2)
  clear h2 s2 AP c0 c1 c2 d2 c3 c4 HK0 HK2
  go_wp2
  go_ret
  exact ⟨rfl, L2.out, S2.out⟩

end Go.Proofs.YtdldpdllhnpdaaaGreat.Clep

/- What log.Open does when called (a walk over the translated program): for any Disk, any name, a file of at most a million bytes. -/
namespace Go.Proofs.YtdldpdllhnpdaaaGreat.Clep
open Go.RowKit Go.Maps
set_option linter.unusedVariables false
set_option maxRecDepth 10000

theorem store_any (R i : Nat) (v : Value) (y : Int) (w : World) (h : w.cell? ⟨R, i, none⟩ = some v) (hf : w.frozen? ⟨R, i, none⟩ = false) :
    Calls Tryz.prog 40 #[.pointer (some ⟨R, i, none⟩), .int .i64 y] w fun e w' => e = .returned (.tuple #[]) ∧ w' = w.setCell ⟨R, i, none⟩ (.int .i64 y) := by
  have hst := run_call_store (P := Tryz.prog) Tryz.func61 (by kernel_rfl) (by kernel_rfl) (by kernel_rfl) (by kernel_rfl) (k := .i64) (y := y) h hf
  go_enter Tryz.func40, Tryz.ntmps40
  go_wp2
  go_end0
  exact ⟨rfl, rfl⟩
theorem lopen_nil (s : ByteArray) (w : World) : Calls Tryz.prog 18 #[.pointer none, .string s] w fun e w' => e = .returned (.tuple #[.pointer none, .slice none 0 0, .bool false, .int .i64 1]) ∧ w' = w := by
  go_enter Tryz.func18, Tryz.ntmps18
  go_wp2
  refine bodyPost_ret (by simp [results, Tryz.results18, go_sem]) rfl ⟨rfl, rfl⟩
theorem lopen_bad {F : Nat → Prop} {R : Nat} {S : St} {w : World} (s : ByteArray) {E : Nat} {zs : List Int} (e : readS S s = (E, zs)) (h : Held F w R S) (hs : s.size ≤ 70368744177664) (hE : E ≠ 0) :
    Calls Tryz.prog 18 #[.pointer (some ⟨R, 0, none⟩), .string s] w fun e w' => e = .returned (.tuple #[.pointer none, .slice none 0 0, .bool false, .int .i64 E]) ∧ Held F w' R S ∧ Below w.heap.size w w' := by
  have C := hide (read_h s e h hs)
  have hne : ¬ ((E : Int) = 0) := by omega
  clear h e
  go_enter Tryz.func18, Tryz.ntmps18
  go_wp2_with fail
  refine C.out.mono ?_
  rintro e w1 ⟨ao, cap, rfl, -, h1, hb⟩
  have H1 := hide h1
  have HB := hide hb
  generalize zs.length = L at *
  clear h1 hb C
  go_wp2
  refine bodyPost_ret (by simp [results, Tryz.results18, go_sem]) rfl ⟨rfl, H1.out, HB.out⟩
theorem lopen_corrupt {F : Nat → Prop} {R : Nat} {S : St} {w : World} (s : ByteArray) {zs : List Int} (e : readS S s = (0, zs)) (h : Held F w R S) (hs : s.size ≤ 70368744177664) (hl : zs.length ≤ 1000000) (hr : ByteL zs) (hE : (rp zs).2.2 ≠ 0) :
    Calls Tryz.prog 18 #[.pointer (some ⟨R, 0, none⟩), .string s] w fun e w' => e = .returned (.tuple #[.pointer none, .slice none 0 0, .bool false, .int .i64 (rp zs).2.2]) ∧ Held F w' R S ∧ Below w.heap.size w w' := by
  have C := hide (read_h s e h hs)
  have HR := hide (range_of hr)
  have HRP := hide (fun W ao cap (hW : Bs W ao zs.length cap zs) => replay_any ao zs.length cap zs W hl hW)
  clear h e hr
  go_enter Tryz.func18, Tryz.ntmps18
  go_wp2_with fail
  refine C.out.mono ?_
  rintro e w1 ⟨ao, cap, rfl, ho, h1, hb⟩
  obtain ⟨ao', cap', hv, -, hB, -⟩ := own_bs ho HR.out
  injection hv with e1 e2 e3
  subst e1 e3
  have RP := hide (HRP.out w1 _ _ hB)
  have H1 := hide h1
  have HB := hide hb
  generalize zs.length = L at *
  clear h1 hb C ho hB e2 HRP
  go_wp2_with fail
  refine RP.out.mono ?_
  rintro e w2 ⟨v, ys, rfl, hor, -, hb2, -⟩
  obtain ⟨a2, c2, rfl, -, -⟩ := hor.rws
  have H2 := hide (H1.out.same hb2).1
  have HB2 := hide (bmore HB.out hb2)
  generalize (rp zs).2.1 = E1 at *
  clear hb2 hor RP H1 HB
  go_wp2
  refine bodyPost_ret (by simp [results, Tryz.results18, go_sem]) rfl ⟨rfl, H2.out, HB2.out⟩
theorem lo_open {F : Nat → Prop} {w : World} {L R : Nat} {s : ByteArray} {S : St} (h : Blk w L (lgV R s false 0 0) 67) (hh : Held F w R S) (hL : F L) (t : Bool) (sz ct : Nat) :
    Lo F (((w.setCell ⟨L, 2, none⟩ (.bool t)).setCell ⟨L, 3, none⟩ (.int .i64 sz)).setCell ⟨L, 4, none⟩ (.int .i64 ct)) L R s t sz ct S ∧ Ch (fun i => i = L) w (((w.setCell ⟨L, 2, none⟩ (.bool t)).setCell ⟨L, 3, none⟩ (.int .i64 sz)).setCell ⟨L, 4, none⟩ (.int .i64 ct)) := by
  have c1 : Ch (fun i => i = L) w (w.setCell ⟨L, 2, none⟩ (.bool t)) := Ch.set w ⟨L, 2, none⟩ _ rfl
  have c2 : Ch (fun i => i = L) (w.setCell ⟨L, 2, none⟩ (.bool t)) ((w.setCell ⟨L, 2, none⟩ (.bool t)).setCell ⟨L, 3, none⟩ (.int .i64 sz)) := Ch.set _ ⟨L, 3, none⟩ _ rfl
  have c3 : Ch (fun i => i = L) ((w.setCell ⟨L, 2, none⟩ (.bool t)).setCell ⟨L, 3, none⟩ (.int .i64 sz)) (((w.setCell ⟨L, 2, none⟩ (.bool t)).setCell ⟨L, 3, none⟩ (.int .i64 sz)).setCell ⟨L, 4, none⟩ (.int .i64 ct)) := Ch.set _ ⟨L, 4, none⟩ _ rfl
  have c := (c1.trans c2).trans c3
  exact ⟨⟨((h.set 2 _).set 3 _).set 4 _, (hh.ch (c.mono (fun i _ e => by subst e; exact hL))).less (fun i hi => .inl hi), hL⟩, c⟩
set_option maxHeartbeats 1000000 in
theorem lopen_ok {F : Nat → Prop} {R : Nat} {S : St} {w : World} (s : ByteArray) {zs : List Int} (e : readS S s = (0, zs)) (h : Held F w R S) (hs : s.size ≤ 70368744177664) (hl : zs.length ≤ 1000000) (hr : ByteL zs) (hE : (rp zs).2.2 = 0) (len E1 : Nat) (hlen : zs.length = len) (hE1 : (rp zs).2.1 = E1) (t : Bool) (ht : decide (E1 < len) = t) :
    Calls Tryz.prog 18 #[.pointer (some ⟨R, 0, none⟩), .string s] w fun e w' => ∃ L v ys, e = .returned (.tuple #[.pointer (some ⟨L, 0, none⟩), v, .bool (!t), .int .i64 0]) ∧ w.heap.size ≤ L ∧
      Lo (fun i => F i ∨ i = L) w' L R s t E1 ys.length S ∧ Ors w' w.heap.size v ys ∧ ys.map Sl.l = (rp zs).1 ∧ (∀ g, v.ownBlock = some g → g ≠ L) ∧ Below w.heap.size w w' := by
  have C := hide (read_h s e h hs)
  have HR := hide (range_of hr)
  have HRP := hide (fun W ao cap (hW : Bs W ao zs.length cap zs) => replay_any ao zs.length cap zs W hl hW)
  clear h e hr
  have HE := hide hE
  have HE1 := hide hE1
  have hti : decide ((E1 : Int) < (len : Int)) = t := by rw [← ht]; congr 1; exact propext ⟨fun h => by omega, fun h => by omega⟩
  rw [hlen] at C HRP hl
  clear hE hE1 hlen
  go_enter Tryz.func18, Tryz.ntmps18
  go_wp2_with fail
  refine C.out.mono ?_
  rintro e w1 ⟨ao, cap, rfl, ho, h1, hb⟩
  obtain ⟨ao', cap', hv, -, hB, -⟩ := own_bs ho HR.out
  injection hv with e1 e2 e3
  subst e1 e3
  rw [← e2] at hB
  have RP := hide (HRP.out w1 _ _ hB)
  have H1 := hide h1
  have HB := hide hb
  clear h1 hb C ho hB e2 HRP
  go_wp2_with fail
  refine RP.out.mono ?_
  rintro e w2 ⟨v, ys, rfl, hor, hym, hb2, -⟩
  rw [HE.out, HE1.out]
  have HOR := hide hor
  obtain ⟨a2, c2, rfl, hrw, hc2⟩ := hor.rws
  have hyl : ys.length ≤ 9223372036854775807 := Nat.le_trans hrw.2.1.1 hc2
  have H2 := hide (H1.out.same hb2).1
  have HB2 := hide (bmore HB.out hb2)
  have HYM := hide hym
  have BG := hide (lbegin_any R s w2 hs)
  clear hb2 hor hym hrw RP H1
  go_wp2_with fail
  refine BG.out.mono ?_
  rintro e w3 ⟨L, rfl, hblk, hL, hb3⟩
  have HO3 := hide (HOR.out.keep hb3)
  have H3 := hide ((H2.out.wide hb3).less (F' := fun i => F i ∨ i = L) (fun i hi => by
    rcases hi with hi | hi
    · exact .inl hi
    · subst hi; exact .inr ⟨hL, hblk.lt⟩))
  have HB3 := hide (bmore HB2.out hb3)
  have HBK := hide hblk
  have HLo := hide (lo_open hblk H3.out (.inr rfl) t E1 ys.length)
  have hLb := hide (Nat.le_trans HB2.out.size hL)
  have HNB := hide (show ∀ z ∈ ys, 0 < z.n → ∀ x, z.a = some x → x.block < L from fun z hz h0 x hx => Nat.lt_of_lt_of_le (is_lt (HOR.out.is z hz).1 h0 x hx) hL)
  have hBs := hide HB.out.size
  have hap := hide (show ∀ g, (Value.slice a2 ys.length c2).ownBlock = some g → g ≠ L from fun g hg e => by
    have := (World.ownsRow.lt HOR.out.own g hg).2
    omega)
  have c2' : w3.cell? ⟨L, 2, none⟩ = some (.bool false) := hblk.cell rfl
  have f2' := hblk.free 2
  have c3' : (w3.setCell ⟨L, 2, none⟩ (.bool t)).cell? ⟨L, 3, none⟩ = some (.int .i64 0) := (hblk.set 2 (.bool t)).cell rfl
  have f3' := (hblk.set 2 (.bool t)).free 3
  have c4' : ((w3.setCell ⟨L, 2, none⟩ (.bool t)).setCell ⟨L, 3, none⟩ (.int .i64 E1)).cell? ⟨L, 4, none⟩ = some (.int .i64 0) := ((hblk.set 2 (.bool t)).set 3 (.int .i64 E1)).cell rfl
  have f4' := ((hblk.set 2 (.bool t)).set 3 (.int .i64 E1)).free 4
  have ST := hide (store_any L 4 _ ys.length _ c4' f4')
  clear hblk hL hb3 BG H2 H3 HOR HB2 c4' f4'
  go_wp2_with fail
  refine ST.out.mono ?_
  rintro e w4 ⟨rfl, hw4⟩
  rw [← hw4] at HLo
  have HB4 := hide (HB3.out.trans (HLo.out.2.below HB3.out.size (fun i e => by rw [e]; exact hLb.out)))
  have HO4 := hide ((HO3.out.grown (row := some L) ⟨HLo.out.2.os, HLo.out.2.tape, HLo.out.2.output, HLo.out.2.size, fun i hi hne => HLo.out.2.block i hi (fun e => hne (by rw [e]))⟩ (by
    cases hv : (Value.slice a2 ys.length c2).ownBlock with
    | none => exact .inl rfl
    | some g => exact .inr (fun e => by injection e with e; exact hap.out g hv e)) (fun z hz h0 x hx e => by
      have h1 := HNB.out z hz h0 x hx
      injection e with e
      omega)).base hBs.out)
  have c5 := (HLo.out.1.below ((Below.refl _ w4).drew)).cells.2.2.1
  have c6 := HLo.out.1.cells.2.2.1
  clear hw4 ST HO3 HB3 c2' f2' c3' f3'
  go_wp2_with fail
  go_region
  have HL5 := hide (HLo.out.1.below ((Below.refl _ w4).drew))
  have HO5 := hide (HO4.out.keep ((Below.refl _ w4).drew))
  have HB5 := hide (HB4.out.drew)
  clear c5 c6
  generalize w4.drew = w5 at *
  go_wp2
  refine bodyPost_ret (by simp [results, Tryz.results18, go_sem]) rfl ⟨L, _, ys, rfl, hLb.out, HL5.out, HO5.out, HYM.out, hap.out, HB5.out⟩

end Go.Proofs.YtdldpdllhnpdaaaGreat.Clep

/- A log that was cut: how many of its batches stand whole. No conditions. -/
namespace Go.Proofs.YtdldpdllhnpdaaaGreat.Clep
open Go.RowKit
set_option linter.unusedVariables false
set_option maxRecDepth 10000

theorem whole_at (D : List (List It)) (K : Nat) : ∀ m, m ≤ D.length → ∃ n, n ≤ m ∧ en D n ≤ K ∧ (n < m → K < en D (n + 1))
  | 0, _ => ⟨0, Nat.le_refl _, by rw [en_zero]; omega, fun h => by omega⟩
  | m + 1, hm => by
    obtain ⟨n, h1, h2, h3⟩ := whole_at D K m (by omega)
    rcases Nat.lt_or_ge n m with h | h
    · exact ⟨n, by omega, h2, fun _ => h3 h⟩
    · have e : n = m := by omega
      subst e
      rcases Nat.lt_or_ge K (en D (n + 1)) with h4 | h4
      · exact ⟨n, by omega, h2, fun _ => h4⟩
      · exact ⟨n + 1, Nat.le_refl _, h4, fun h5 => by omega⟩
/-- Of the log of D, cut at K, n batches stand whole, no fewer than the k0 that last. -/
theorem whole_cut (D : List (List It)) (h : ∀ l ∈ D, Bg l) (K k0 : Nat) (hK : K ≤ (lg D).length) (hk : k0 ≤ D.length) (h0 : en D k0 ≤ K) :
    ∃ n, n ≤ D.length ∧ k0 ≤ n ∧ en D n ≤ K ∧ rp ((lg D).take K) = (D.take n, en D n, 0) := by
  obtain ⟨n, h1, h2, h3⟩ := whole_at D K D.length (Nat.le_refl _)
  refine ⟨n, h1, ?_, h2, rp_cut D h n K h1 hK h2 h3⟩
  rcases Nat.lt_or_ge n k0 with h4 | h4
  · have h5 := h3 (by omega)
    have h6 := en_mono D (n + 1) k0 (by omega)
    omega
  · exact h4
theorem flat_snoc (D : List (List It)) (l : List It) : (D ++ [l]).flatten.length = D.flatten.length + l.length := by simp

end Go.Proofs.YtdldpdllhnpdaaaGreat.Clep

/- A Log on a Disk of one file, and the statement's own row of what was done: what each call of LogPlays leaves of them. Conditions: fewer than 2^40 calls, logs of at most 200,000 bytes. -/
namespace Go.Proofs.YtdldpdllhnpdaaaGreat.Clep
open Go.RowKit Go.Maps
set_option linter.unusedVariables false
set_option maxRecDepth 10000

def nm7 : ByteArray := ⟨#[108, 111, 103, 46, 55]⟩
def nk7 : Lit := .string [108, 111, 103, 46, 55]
def pk0 : St := ⟨1048576, 1, 0, 0, false, 1, [⟨1, [], 0⟩], .map [(nk7, i64L 1)], .map [], [⟨0, nm7, ⟨#[]⟩, 1⟩]⟩
/-- A Disk with the file log.7, whose name lasts; Ls of its bytes last; f: which call fails. -/
def pk (c : Nat) (X : List Int) (Ls f : Nat) : St := ⟨1048576, c, 0, f, false, 1, [⟨1, X, Ls⟩], .map [(nk7, i64L 1)], .map [(nk7, i64L 1)], []⟩
theorem pk_new : createS (newS 1048576) nm7 = (0, pk0) := by kernel_rfl
theorem pk_dir : syncDirS pk0 = (0, pk 2 [] 0 0) := by kernel_rfl
theorem pk_app (c Ls : Nat) (X p : List Int) (h : X.length + p.length ≤ 250000) : appendS (pk c X Ls 0) nm7 p = (0, pk (c + 1) (X ++ p) Ls 0) := by
  have e : appendS (pk c X Ls 0) nm7 p = if 250000 < X.length + p.length then (2, (beginS (pk c X Ls 0)).2) else if 1048576 < X.length + 0 + p.length then (15, (beginS (pk c X Ls 0)).2) else (0, pk (c + 1) (X ++ p) Ls 0) := by kernel_rfl
  rw [e, if_neg (by omega), if_neg (by omega)]
theorem pk_full (c Ls : Nat) (X p : List Int) : appendS (pk c X Ls 1) nm7 p = (15, pk (c + 1) X Ls 0) := by kernel_rfl
theorem pk_sync (c Ls : Nat) (X : List Int) : syncS (pk c X Ls 0) nm7 = (0, pk (c + 1) X X.length 0) := by kernel_rfl
theorem pk_crash (c Ls : Nat) (X : List Int) (ks : List Int) : crashS (pk c X Ls 0) ks = pk c (X.take (Ls + keepN ⟨1, X, Ls⟩ ks)) (Ls + keepN ⟨1, X, Ls⟩ ks) 0 := by kernel_rfl
theorem pk_read (c Ls f : Nat) (X : List Int) : readS (pk c X Ls f) nm7 = (0, X) := by kernel_rfl

/-- The Log, its Disk, and beside them the row dv of what was done. -/
structure Pl (w wr : World) (L R : Nat) (dv : Value) (D E : List (List It)) (k0 c f : Nat) : Prop where
  bel : Below w.heap.size w wr
  lo : ∃ F : Nat → Prop, Lo F wr L R nm7 false (lg D).length D.length (pk c (lg D) (en D k0) f) ∧ (∀ i, i < w.heap.size → F i) ∧ ∀ g, dv.ownBlock = some g → F g ∧ g ≠ L
  row : ∃ ys, OwnS wr w.heap.size dv ys ∧ (∀ z ∈ ys, Is w z.a z.n z.c z.l ∧ z.n ≤ 9223372036854775807) ∧ ys.map Sl.l = E
  low : w.heap.size ≤ L
theorem row_same {F : Nat → Prop} {w w' : World} {B e s n : Nat} {v : Value} {xs : List Value} (h : w.ownsRow B e s v n xs) (hs : Same F w w') (hv : ∀ g, v.ownBlock = some g → F g) : w'.ownsRow B e s v n xs := by
  obtain ⟨hl, ⟨rfl, hn⟩ | ⟨g, cap, cur, rfl, hg, hh, r⟩⟩ := h
  · exact ⟨hl, .inl ⟨rfl, hn⟩⟩
  · exact ⟨hl, .inr ⟨g, cap, cur, rfl, hg, by rw [hs.block g (hv g rfl)]; exact hh, r⟩⟩
theorem Pl.below {w wr w' : World} {L R : Nat} {dv : Value} {D E : List (List It)} {k0 c f : Nat} (h : Pl w wr L R dv D E k0 c f) (hb : Below wr.heap.size wr w') : Pl w w' L R dv D E k0 c f := by
  obtain ⟨F, h1, h2, h3⟩ := h.lo
  obtain ⟨ys, r1, r2, r3⟩ := h.row
  exact ⟨bmore h.bel hb, ⟨F, h1.below hb, h2, h3⟩, ⟨ys, ownS_keep r1 hb, r2, r3⟩, h.low⟩
/-- What a call does that leaves all but the Disk and the Log as it was. -/
theorem Pl.step {w wr w' : World} {L R : Nat} {dv : Value} {D D' E : List (List It)} {k0 k1 c c' f f' : Nat} {F : Nat → Prop} (h : Pl w wr L R dv D E k0 c f) (h2 : ∀ i, i < w.heap.size → F i) (h3 : ∀ g, dv.ownBlock = some g → F g ∧ g ≠ L)
    (hl : Lo F w' L R nm7 false (lg D').length D'.length (pk c' (lg D') (en D' k1) f')) (hs : Same (fun i => F i ∧ i ≠ L) wr w') : Pl w w' L R dv D' E k1 c' f' := by
  obtain ⟨ys, r1, r2, r3⟩ := h.row
  have hlow := h.low
  exact ⟨h.bel.trans (hs.below (fun i hi => ⟨h2 i hi, by omega⟩)), ⟨F, hl, h2, h3⟩, ⟨ys, row_same r1 hs h3, r2, r3⟩, h.low⟩
theorem pfail_any {w wr : World} {L R : Nat} {dv : Value} {D E : List (List It)} {k0 c f : Nat} (n : Nat) (hn : n ≤ 1099511627776) (h : Pl w wr L R dv D E k0 c f) :
    Calls Tryz.prog 9 #[.pointer (some ⟨R, 0, none⟩), .int .i64 n] wr fun e w' => e = .returned (.tuple #[]) ∧ Pl w w' L R dv D E k0 c n := by
  obtain ⟨F, h1, h2, h3⟩ := h.lo
  refine (fail_h n hn h1.held).mono ?_
  rintro e w' ⟨rfl, H, S⟩
  exact ⟨rfl, h.step h2 h3 ⟨S.blk h1.blk h1.own, H, h1.own⟩ (S.mono (fun i hi => hi.1))⟩
theorem pput_bad {w wr : World} {L R : Nat} {dv : Value} {D E : List (List It)} {k0 c f : Nat} (h : Pl w wr L R dv D E k0 c f) (a : Option Addr) (n cp : Nat) (l : List It) (hi : Is wr a n cp l) (hn : n ≤ 9223372036854775807) (V : Int) (hV : bmay l = V) (hne : V ≠ 0) :
    Calls Tryz.prog 11 #[.pointer (some ⟨L, 0, none⟩), .slice a n cp] wr fun e w' => e = .returned (.int .i64 V) ∧ Pl w w' L R dv D E k0 c f := by
  obtain ⟨F, h1, h2, h3⟩ := h.lo
  refine (lput_bad h1 a n cp l hi hn V hV hne).mono ?_
  rintro e w' ⟨rfl, hb⟩
  exact ⟨rfl, h.below hb⟩
theorem pput_full {w wr : World} {L R : Nat} {dv : Value} {D E : List (List It)} {k0 c : Nat} (h : Pl w wr L R dv D E k0 c 1) (a : Option Addr) (n cp : Nat) (l : List It) (hi : Is wr a n cp l) (hg : Bg l) (hc : c < 1099511627776) (hsz : (lg D).length ≤ 200000) (hct : D.length ≤ 1000) :
    Calls Tryz.prog 11 #[.pointer (some ⟨L, 0, none⟩), .slice a n cp] wr fun e w' => e = .returned (.int .i64 15) ∧ Pl w w' L R dv D E k0 (c + 1) 0 := by
  obtain ⟨F, h1, h2, h3⟩ := h.lo
  refine (lput_any h1 a n cp l hi hg (pk_full c _ _ (bt l)) hc (by decide) (by omega) (by omega)).mono ?_
  rintro e w' ⟨rfl, hl, hs⟩
  exact ⟨rfl, h.step h2 h3 hl hs⟩
theorem pput_ok {w wr : World} {L R : Nat} {dv : Value} {D E : List (List It)} {k0 c : Nat} (h : Pl w wr L R dv D E k0 c 0) (a : Option Addr) (n cp : Nat) (l : List It) (hi : Is wr a n cp l) (hg : Bg l) (hc : c < 1099511627776) (hsz : (lg D).length + (bt l).length ≤ 200000) (hct : D.length ≤ 1000) (hk : k0 ≤ D.length) :
    Calls Tryz.prog 11 #[.pointer (some ⟨L, 0, none⟩), .slice a n cp] wr fun e w' => e = .returned (.int .i64 0) ∧ Pl w w' L R dv (D ++ [l]) E k0 (c + 1) 0 := by
  obtain ⟨F, h1, h2, h3⟩ := h.lo
  refine (lput_any h1 a n cp l hi hg (pk_app c _ _ (bt l) (by omega)) hc (by decide) (by omega) (by omega)).mono ?_
  rintro e w' ⟨rfl, hl, hs⟩
  refine ⟨rfl, h.step (D' := D ++ [l]) (k1 := k0) h2 h3 ?_ hs⟩
  have e1 : lg (D ++ [l]) = lg D ++ bt l := by rw [lg_app]; simp [lg]
  have e2 : en (D ++ [l]) k0 = en D k0 := by unfold en; rw [List.take_append_of_le_length hk]
  rw [e1, e2, List.length_append, List.length_append, List.length_singleton]
  exact hl
theorem psync_any {w wr : World} {L R : Nat} {dv : Value} {D E : List (List It)} {k0 c : Nat} (h : Pl w wr L R dv D E k0 c 0) (hc : c < 1099511627776) :
    Calls Tryz.prog 15 #[.pointer (some ⟨L, 0, none⟩)] wr fun e w' => e = .returned (.int .i64 0) ∧ Pl w w' L R dv D E D.length (c + 1) 0 := by
  obtain ⟨F, h1, h2, h3⟩ := h.lo
  refine (lsync_any h1 (pk_sync c _ _) hc (by decide)).mono ?_
  rintro e w' ⟨rfl, hl, hs⟩
  refine ⟨rfl, h.step (D' := D) (k1 := D.length) h2 h3 ?_ (hs.mono (fun i hi => hi.1))⟩
  rw [en_all D D.length (Nat.le_refl _)]
  exact hl
theorem psize_any {w wr : World} {L R : Nat} {dv : Value} {D E : List (List It)} {k0 c f : Nat} (h : Pl w wr L R dv D E k0 c f) :
    Calls Tryz.prog 13 #[.pointer (some ⟨L, 0, none⟩)] wr fun e w' => e = .returned (.int .i64 ((lg D).length : Nat)) ∧ w' = wr := by
  obtain ⟨F, h1, h2, h3⟩ := h.lo
  exact lsize_any h1
theorem pcount_any {w wr : World} {L R : Nat} {dv : Value} {D E : List (List It)} {k0 c f : Nat} (h : Pl w wr L R dv D E k0 c f) :
    Calls Tryz.prog 14 #[.pointer (some ⟨L, 0, none⟩)] wr fun e w' => e = .returned (.int .i64 (D.length : Nat)) ∧ w' = wr := by
  obtain ⟨F, h1, h2, h3⟩ := h.lo
  exact lcount_any h1
theorem Pl.ors {w wr : World} {L R : Nat} {dv : Value} {D E : List (List It)} {k0 c f : Nat} (h : Pl w wr L R dv D E k0 c f) : ∃ ys, Ors wr w.heap.size dv ys ∧ (∀ z ∈ ys, Is w z.a z.n z.c z.l ∧ z.n ≤ 9223372036854775807) ∧ ys.map Sl.l = E := by
  obtain ⟨ys, r1, r2, r3⟩ := h.row
  refine ⟨ys, ⟨r1, fun z hz => ⟨(r2 z hz).1.below h.bel (Nat.le_refl _), (r2 z hz).2⟩, fun z hz h0 x hx e => ?_⟩, r2, r3⟩
  have h1 := (World.ownsRow.lt r1 _ e).1
  have h2 := is_lt (r2 z hz).1 h0 x hx
  omega
/-- One row more of what was done. -/
theorem Pl.grow {w wr w' : World} {L R : Nat} {dv dv' : Value} {D E : List (List It)} {k0 c f : Nat} {ys : List Sl} {z : Sl} (h : Pl w wr L R dv D E k0 c f) (hz : Is w z.a z.n z.c z.l) (hzn : z.n ≤ 9223372036854775807) (hm : ys.map Sl.l = E) (hy : ∀ z ∈ ys, Is w z.a z.n z.c z.l ∧ z.n ≤ 9223372036854775807)
    (ho : Ors w' w.heap.size dv' (ys ++ [z])) (hg : wr.grownBy w' dv.ownBlock) (hl : dv'.ownBlock = dv.ownBlock ∨ dv'.ownBlock = some (wr.heap.size + 1)) (hb : Below w.heap.size wr w') : Pl w w' L R dv' D (E ++ [z.l]) k0 c f := by
  obtain ⟨F, h1, h2, h3⟩ := h.lo
  have hch : Ch F wr w' := ⟨hg.os, hg.tape, hg.output, hg.size, fun i hi hf => hg.block i hi (fun e => hf (h3 i e.symm).1)⟩
  have hLt := h1.blk.lt
  refine ⟨h.bel.trans hb, ⟨fun i => F i ∨ (wr.heap.size ≤ i ∧ i < w'.heap.size), ⟨?_, h1.held.ch hch, .inl h1.own⟩, fun i hi => .inl (h2 i hi), fun g hg' => ?_⟩, ⟨ys ++ [z], ho.own, fun y hy' => ?_, by rw [List.map_append, hm]; rfl⟩, h.low⟩
  · unfold Blk
    rw [hg.block L hLt (fun e => (h3 L e.symm).2 rfl)]
    exact h1.blk
  · rcases hl with e | e
    · rw [e] at hg'
      exact ⟨.inl (h3 g hg').1, (h3 g hg').2⟩
    · have := (World.ownsRow.lt ho.own g hg').2
      rw [e] at hg'
      injection hg' with hg'
      exact ⟨.inr ⟨by omega, this⟩, by omega⟩
  · rcases List.mem_append.1 hy' with e | e
    · exact hy y e
    · rw [List.mem_singleton.1 e]; exact ⟨hz, hzn⟩

end Go.Proofs.YtdldpdllhnpdaaaGreat.Clep

/- What a Crash leaves of the Disk of LogPlays, and of the statement's own row beside it. Conditions: fewer than 2^40 calls. -/
namespace Go.Proofs.YtdldpdllhnpdaaaGreat.Clep
open Go.RowKit Go.Maps
set_option linter.unusedVariables false
set_option maxRecDepth 10000

/-- The Disk, and beside it the row dv. -/
structure Pc (w wr : World) (R : Nat) (dv : Value) (E : List (List It)) (S : St) : Prop where
  bel : Below w.heap.size w wr
  held : ∃ F : Nat → Prop, Held F wr R S ∧ (∀ i, i < w.heap.size → F i) ∧ ∀ g, dv.ownBlock = some g → F g
  row : ∃ ys, OwnS wr w.heap.size dv ys ∧ (∀ z ∈ ys, Is w z.a z.n z.c z.l ∧ z.n ≤ 9223372036854775807) ∧ ys.map Sl.l = E
theorem Pc.below {w wr w' : World} {R : Nat} {dv : Value} {E : List (List It)} {S : St} (h : Pc w wr R dv E S) (hb : Below wr.heap.size wr w') : Pc w w' R dv E S := by
  obtain ⟨F, h1, h2, h3⟩ := h.held
  obtain ⟨ys, r1, r2, r3⟩ := h.row
  exact ⟨bmore h.bel hb, ⟨F, (h1.same hb).1, h2, h3⟩, ⟨ys, ownS_keep r1 hb, r2, r3⟩⟩
theorem Pc.rws {w wr : World} {R : Nat} {da : Option Addr} {dn dc : Nat} {E : List (List It)} {S : St} (h : Pc w wr R (.slice da dn dc) E S) : ∃ ys, Rws wr da dn dc ys ∧ ys.map Sl.l = E := by
  obtain ⟨ys, r1, r2, r3⟩ := h.row
  obtain ⟨a, c, e, hr, _⟩ := ownS_rws r1 (fun z hz => ⟨(r2 z hz).1.below h.bel (Nat.le_refl _), (r2 z hz).2⟩)
  injection e with e1 e2 e3
  subst e1 e2 e3
  exact ⟨ys, hr, r3⟩
theorem pcrash_any {w wr : World} {L R : Nat} {dv : Value} {D E : List (List It)} {k0 c : Nat} (ke : Int) (hke : (Lit.int .i64 ke).wf = true) (h : Pl w wr L R dv D E k0 c 0) (hc : c ≤ 1099511627776) :
    Calls Tryz.prog 16 #[.pointer (some ⟨R, 0, none⟩), .slice (some ⟨wr.heap.size, 0, none⟩) 1 1] (wr.alloc (.cells #[.int .i64 ke] 3)) fun e w' => e = .returned (.tuple #[]) ∧ ∃ K, en D k0 ≤ K ∧ K ≤ (lg D).length ∧ Pc w w' R dv E (pk c ((lg D).take K) K 0) := by
  obtain ⟨F, h1, h2, h3⟩ := h.lo
  obtain ⟨ys, r1, r2, r3⟩ := h.row
  have hA := (Below.refl _ wr).alloc (Nat.le_refl _) (.cells #[.int .i64 ke] 3)
  have hlast : en D k0 ≤ (lg D).length := en_le D k0
  have hkp := keepN_le ⟨1, lg D, en D k0⟩ [ke] hlast
  refine (crash_h (some ⟨wr.heap.size, 0, none⟩) 1 1 [ke] (pk_crash c _ _ [ke]) (h1.held.more (.cells #[.int .i64 ke] 3)) hc (num_lit _ wr [ke] (fun k hk => by rw [List.mem_singleton.1 hk]; exact hke) _ rfl (.inr rfl) 1 rfl (by omega))).mono ?_
  rintro e w' ⟨rfl, H, S⟩
  refine ⟨rfl, _, Nat.le_add_right _ _, hkp, ⟨h.bel.trans ((hA.mono h.bel.size).trans (S.below (fun i hi => .inl (h2 i hi)))), ⟨F, H.less (fun i hi => .inl hi), h2, fun g hg => (h3 g hg).1⟩, ⟨ys, row_same (ownS_keep r1 hA) S (fun g hg => .inl (h3 g hg).1), r2, r3⟩⟩⟩
def y9 : It := ⟨9, 1, 0, 9, 0⟩
theorem y9_bg : Bg [y9] := by
  have hk : [y9].all It.ok = true := by kernel_rfl
  have := ibn_short [y9] hk
  refine ⟨by simp, fun x hx => ?_, hk, by simp, by simp at this; omega⟩
  rw [List.mem_singleton.1 hx]; unfold y9 It.wf; simp
theorem y9_is (w : World) : Is (w.alloc (Obj.cells #[Value.int IntKind.i64 9, Value.int IntKind.i64 1, Value.int IntKind.u64 0, Value.int IntKind.u64 9, Value.int IntKind.i64 0] 48)) (some ⟨w.heap.size, 0, none⟩) 1 1 [y9] :=
  is_one w 9 1 0 9 0 (by unfold It.wf; simp)
theorem y9_len : (bt [y9]).length ≤ 100 := by
  have := ibn_short [y9] y9_bg.ok
  rw [bt_len]; simp at this; omega

end Go.Proofs.YtdldpdllhnpdaaaGreat.Clep
