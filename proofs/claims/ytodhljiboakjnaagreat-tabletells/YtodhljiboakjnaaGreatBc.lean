/- What Add and Has do when called. Conditions: the key is no part of the Filter's own memory. -/
import Derived.Test.YtodhljiboakjnaaGreatBb
import Derived.Test.YtodhljiboakjnaaGreatZh
import Derived.Deep.RegionHeldLaw
import Derived.Lib.SlBytesConst
namespace Go.Proofs.YtodhljiboakjnaaGreat.Clep
open Go.RowKit
set_option linter.unusedVariables false

/-- What a slice of bytes leads to is none of B's. -/
def Out (B : Nat → Prop) (ao : Option Addr) (len : Nat) : Prop := 0 < len → ∀ x, ao = some x → ¬ B x.block
theorem Bs.ch {P : Nat → Prop} {w w' : World} {ao : Option Addr} {len cap : Nat} {zs : List Int} (h : Bs w ao len cap zs) (hc : Ch P w w') (hn : Out P ao len) : Bs w' ao len cap zs := by
  refine ⟨h.1, h.2.1, h.2.2.1, fun h0 => ?_⟩
  obtain ⟨b, off, ho, hcell⟩ := h.2.2.2 h0
  refine ⟨b, off, ho, fun i hi => ?_⟩
  have := hcell i hi
  rw [World.cell?_of_block (a := ⟨b, off + i, none⟩) (hc.block b (World.block_lt_of_cell? w _ this) (hn h0 _ ho))]
  exact this
theorem Lf.add {w : World} {M D k sz N p : Nat} (h : Lf w M D k sz N) (hp : p / 64 < nw sz) : Lf (w.setCell ⟨D, p / 64, none⟩ (.int .u64 ((wd N (p / 64) ||| 2 ^ (p % 64) : Nat) : Int))) M D k sz (N ||| 2 ^ p) :=
  ⟨h.head.other _ _ (Ne.symm h.ne), by rw [← wv_set N p _ hp]; exact h.words.set _ _, h.ne⟩
theorem Lf.below {w w' : World} {M D k sz N : Nat} (h : Lf w M D k sz N) (hb : Below w.heap.size w w') : Lf w' M D k sz N := h.keep hb
theorem Lf.fl {w w' : World} {M D k sz N : Nat} {B : Nat → Prop} (h : Lf w' M D k sz N) (hl : ∀ b, B b → b < w.heap.size) (hM : B M) (hs : w.heap.size ≤ w'.heap.size) (hD : B D ∨ w.heap.size ≤ D) (hk : 1 ≤ k ∧ k ≤ 14) (hz : 8 ≤ sz ∧ sz ≤ 25000) (hN : N < 2 ^ (8 * sz)) :
    Fl w' M (fun b => B b ∨ (w.heap.size ≤ b ∧ b < w'.heap.size)) k sz N := by
  refine ⟨fun b hb => ?_, .inl hM, hk, hz, hN, .inr ⟨D, h, ?_⟩⟩
  · rcases hb with hb | hb
    · exact Nat.lt_of_lt_of_le (hl b hb) hs
    · exact hb.2
  · rcases hD with hD | hD
    · exact .inl hD
    · exact .inr ⟨hD, h.words.lt⟩
theorem or_u64 (a b : Nat) (ha : a < 18446744073709551616) (hb : b < 18446744073709551616) : bits BinOp.or IntKind.u64 (a : Int) (b : Int) = ((a ||| b : Nat) : Int) := bits_or_u64_nat a b ha hb
theorem pow_lt64 (p : Nat) : 2 ^ (p % 64) < 18446744073709551616 := Nat.lt_of_lt_of_le (Nat.pow_lt_pow_right (by decide) (Nat.mod_lt p (show 0 < 64 by decide))) (by decide)

set_option maxRecDepth 100000 in
set_option maxHeartbeats 1600000 in
theorem add_h (w : World) (M : Nat) (B : Nat → Prop) (k sz N : Nat) (h : Fl w M B k sz N) (ao : Option Addr) (len cap : Nat) (zs : List Int) (hm : len ≤ 9223372036854775807) (hz : Bs w ao len cap zs) (ho : Out B ao len) :
    Calls Tryz.prog 57 #[.pointer (some ⟨M, 0, none⟩), .slice ao len cap] w fun e w' => e = .returned (.tuple #[]) ∧ Fl w' M (fun b => B b ∨ (w.heap.size ≤ b ∧ b < w'.heap.size)) k sz (addk (fnv zs) sz k N) ∧ Ch B w w' := by
  have c1 := laid_any w M B k sz N h
  obtain ⟨n, hn⟩ : ∃ n, nw sz = n := ⟨_, rfl⟩
  rw [hn] at c1
  have C1 := hide c1
  have HN := hide hn
  clear c1 hn
  have HF := hide h
  have HZ := hide hz
  have HO := hide ho
  have hk := h.kb
  have hs := h.sb
  clear h hz ho
  obtain ⟨H, hH⟩ : ∃ H, fnv zs = H := ⟨_, rfl⟩
  have hf : H < 18446744073709551616 := by rw [← hH]; exact fnv_lt zs
  rw [hH]
  have HH := hide hH
  clear hH
  go_enter Tryz.func57, Tryz.ntmps57
  go_wp2_with fail
  refine C1.out.mono ?_
  rintro e w1 ⟨D, rfl, hL, hD, hc0⟩
  have hc : Ch B w w1 := hc0.mono fun i _ e => by rw [e]; exact HF.out.base
  have HL := hide hL
  have HD := hide hD
  have HC := hide hc
  have c2 := hash_any ao len cap zs w1 hm (HZ.out.ch hc HO.out)
  rw [HH.out] at c2
  have C2 := hide c2
  have c0 : w1.cell? ⟨M, 0, none⟩ = some (.int .i64 k) := hL.head.cell rfl
  clear hL hD hc hc0 C1 c2
  go_wp2_with fail
  refine C2.out.mono ?_
  rintro e w2 ⟨rfl, rfl⟩
  clear C2
  go_wp2
  go_loopw [17] (fun u wr => ∃ i : Nat, u = .int .i64 i ∧ i ≤ k ∧ Hid (Lf wr M D k sz (addk H sz i N)) ∧ Hid (Ch (fun b => b = D) w2 wr)) (fun u _ => k - (intOf u).toNat)
  case atStart => exact ⟨0, rfl, by omega, hide HL.out, hide (Ch.of (Below.refl _ _))⟩
  case round =>
    obtain ⟨i, rfl, hi, hl, hcc⟩ := hrel
    by_cases hlt : i < k
    · have C3 := hide (place_any wr M H i sz (hl.out.head.cell rfl) hf (by omega) hs)
      have hp := bpl_lt H i sz (by omega)
      have HA : Hid (addk H sz (i + 1) N = addk H sz i N ||| 2 ^ bpl H i sz) := hide rfl
      go_wp2_with fail
      refine C3.out.mono ?_
      rintro e w3 ⟨rfl, hb⟩
      have HL3 := hide (hl.out.keep hb)
      have HC3 := hide (hcc.out.trans (Ch.of hb))
      generalize bpl H i sz = p at *
      have hp2 : p / 64 < nw sz := by unfold nw; omega
      have hp3 : p / 64 < n := by rw [← HN.out]; exact hp2
      have cD : w3.cell? ⟨D, p / 64, none⟩ = some (.int .u64 (wd (addk H sz i N) (p / 64) : Nat)) := HL3.out.words.cell (wv_get _ _ _ hp2)
      have fD : w3.frozen? ⟨D, p / 64, none⟩ = false := HL3.out.words.free _
      have hor := or_u64 (wd (addk H sz i N) (p / 64)) (2 ^ (p % 64)) (wd_lt _ _) (pow_lt64 p)
      have HL4 := hide (HL3.out.add hp2)
      have hnw : n ≤ 4000 := by rw [← HN.out]; unfold nw; omega
      generalize hX : wd (addk H sz i N) (p / 64) = X at *
      generalize hY : 2 ^ (p % 64) = Y at *
      generalize hZ : X ||| Y = Z at *
      generalize hq : p / 64 = q at *
      clear hX hY hZ hb hq hp C3 hp2
      go_wp2
      go_round
      case rel => exact ⟨i + 1, by go_num, by omega, hide (by rw [HA.out]; exact HL4.out), hide (HC3.out.trans (Ch.set (P := fun b => b = D) w3 ⟨D, q, none⟩ _ rfl))⟩
      case measure => simp [intOf]; omega
    · have h8 : i = k := by omega
      subst h8
      go_wp2
      go_end0
      have hsz := Nat.le_trans HC.out.size hcc.out.size
      refine ⟨rfl, hl.out.fl HF.out.lt HF.out.base hsz HD.out HF.out.kb HF.out.sb (addk_lt H sz N (by omega) HF.out.nb _), ?_⟩
      exact ⟨hcc.out.os.trans HC.out.os, hcc.out.tape.trans HC.out.tape, hcc.out.output.trans HC.out.output, hsz, fun b hb hnb => (hcc.out.block b (Nat.lt_of_lt_of_le hb HC.out.size) (fun e => by subst e; rcases HD.out with q | q; exact hnb q; omega)).trans (HC.out.block b hb hnb)⟩

/-- laid lays the words, or finds them laid. -/
def LaidTo (w : World) (M k sz N : Nat) (Q : World → Nat → Prop) : Prop :=
  Calls Tryz.prog 68 #[.pointer (some ⟨M, 0, none⟩)] w fun e w' => ∃ D, e = .returned (.slice (some ⟨D, 0, none⟩) (nw sz) (nw sz)) ∧ Lf w' M D k sz N ∧ Q w' D
theorem laid_l (w : World) (M D k sz N : Nat) (h : Lf w M D k sz N) : LaidTo w M k sz N fun w1 D1 => D1 = D ∧ Below w.heap.size w w1 := by
  have A1 := (Below.refl _ w).alloc (Nat.le_refl _) (Obj.cells #[.pointer (some ⟨M, 0, none⟩)] 57)
  have K1 := hpS w (Obj.cells #[.pointer (some ⟨M, 0, none⟩)] 57) w.heap.size rfl
  obtain ⟨w1, hw1⟩ : ∃ w1, w1 = w.alloc (Obj.cells #[.pointer (some ⟨M, 0, none⟩)] 57) := ⟨_, rfl⟩
  rw [← hw1] at A1 K1
  have hL := h.keep A1
  have B1 := hide A1
  have hpl : w1.cell? ⟨w.heap.size, 0, none⟩ = some (.pointer (some ⟨M, 0, none⟩)) := by simp [World.cell?, K1]
  have hDo := hide (do_done ⟨M, 2, none⟩ (.func (.func 94) #[] #[.pointer (some ⟨w.heap.size, 0, none⟩)]) w1 (hL.head.cell rfl))
  have c5 : w1.cell? ⟨M, 5, none⟩ = some (.slice (some ⟨D, 0, none⟩) (nw sz) (nw sz)) := hL.head.cell rfl
  have HL := hide hL
  clear h A1 K1 hL
  unfold LaidTo
  go_enter Tryz.func68, Tryz.ntmps68
  go_wp2_with fail
  rw [← hw1]
  clear hw1
  refine hDo.out.mono ?_
  rintro e w2 ⟨rfl, rfl⟩
  clear hDo
  go_wp2
  go_ret
  exact ⟨D, rfl, HL.out, rfl, B1.out⟩
theorem hask_no {h sz k N i : Nat} (hi : i < k) (hb : N.testBit (bpl h i sz) = false) : hask h sz k N = false := by
  rcases hx : hask h sz k N with _ | _
  · rfl
  · have := (hask_iff _ _ _ _).1 hx i hi
    rw [hb] at this; cases this

set_option maxRecDepth 100000 in
set_option maxHeartbeats 1600000 in
theorem has_g (w : World) (M k sz N : Nat) (hk : 1 ≤ k ∧ k ≤ 14) (hs : 8 ≤ sz ∧ sz ≤ 25000) (ao : Option Addr) (len cap : Nat) (zs : List Int) (hm : len ≤ 9223372036854775807) (Q : World → Nat → Prop) (c1 : LaidTo w M k sz N fun w1 D => Q w1 D ∧ Bs w1 ao len cap zs) :
    Calls Tryz.prog 45 #[.pointer (some ⟨M, 0, none⟩), .slice ao len cap] w fun e w' => e = .returned (.bool (hask (fnv zs) sz k N)) ∧ ∃ w1 D, Q w1 D ∧ Lf w1 M D k sz N ∧ Below w1.heap.size w1 w' := by
  unfold LaidTo at c1
  obtain ⟨n, hn⟩ : ∃ n, nw sz = n := ⟨_, rfl⟩
  rw [hn] at c1
  have C1 := hide c1
  have HN := hide hn
  clear c1 hn
  obtain ⟨H, hH⟩ : ∃ H, fnv zs = H := ⟨_, rfl⟩
  have hf : H < 18446744073709551616 := by rw [← hH]; exact fnv_lt zs
  rw [hH]
  have HH := hide hH
  clear hH
  go_enter Tryz.func45, Tryz.ntmps45
  go_wp2_with fail
  refine C1.out.mono ?_
  rintro e w1 ⟨D, rfl, hL, hQ, hz⟩
  have HL := hide hL
  have HQ := hide hQ
  have c2 := hash_any ao len cap zs w1 hm hz
  rw [HH.out] at c2
  have C2 := hide c2
  have c0 : w1.cell? ⟨M, 0, none⟩ = some (.int .i64 k) := hL.head.cell rfl
  clear hL hQ hz C1 c2
  go_wp2_with fail
  refine C2.out.mono ?_
  rintro e w2 ⟨rfl, rfl⟩
  clear C2
  go_wp2
  go_loopw [18] (fun u wr => ∃ i : Nat, u = .int .i64 i ∧ i ≤ k ∧ Hid (hask H sz i N = true) ∧ Hid (Below w2.heap.size w2 wr)) (fun u _ => k - (intOf u).toNat)
  case atStart => exact ⟨0, rfl, by omega, hide rfl, hide (Below.refl _ _)⟩
  case round =>
    obtain ⟨i, rfl, hi, hl, hcc⟩ := hrel
    have HLr := hide (HL.out.keep hcc.out)
    by_cases hlt : i < k
    · have C3 := hide (place_any wr M H i sz (HLr.out.head.cell rfl) hf (by omega) hs)
      have hp := bpl_lt H i sz (by omega)
      have HA : Hid (N.testBit (bpl H i sz) = true → hask H sz (i + 1) N = true) := hide fun e => by
        show (hask H sz i N && N.testBit (bpl H i sz)) = true
        rw [hl.out, e]; rfl
      have HB : Hid (N.testBit (bpl H i sz) = false → hask H sz k N = false) := hide fun e => hask_no hlt e
      go_wp2_with fail
      refine C3.out.mono ?_
      rintro e w3 ⟨rfl, hb⟩
      have HL3 := hide (HLr.out.keep hb)
      have HC3 := hide (bmore hcc.out hb)
      generalize bpl H i sz = p at *
      have hp2 : p / 64 < nw sz := by unfold nw; omega
      have hp3 : p / 64 < n := by rw [← HN.out]; exact hp2
      have cD : w3.cell? ⟨D, p / 64, none⟩ = some (.int .u64 (wd N (p / 64) : Nat)) := HL3.out.words.cell (wv_get _ _ _ hp2)
      have hor := and_u64 (wd N (p / 64)) (2 ^ (p % 64)) (wd_lt _ _) (pow_lt64 p)
      rw [wd_test] at hor
      have hnw : n ≤ 4000 := by rw [← HN.out]; unfold nw; omega
      have hY0 : 0 < 2 ^ (p % 64) := Nat.two_pow_pos _
      cases hbit : N.testBit p with
      | true =>
        rw [hbit] at hor
        simp only [if_true] at hor
        have HA1 := hide (HA.out hbit)
        generalize hX : wd N (p / 64) = X at *
        generalize hY : 2 ^ (p % 64) = Y at *
        generalize hq : p / 64 = q at *
        clear hX hY hb hq hp C3 hp2 HA HB hbit
        go_wp2
        go_round
        case rel => exact ⟨i + 1, by go_num, by omega, HA1, HC3⟩
        case measure => simp [intOf]; omega
      | false =>
        rw [hbit] at hor
        simp only [Bool.false_eq_true, if_false] at hor
        have HA1 := hide (HB.out hbit)
        generalize hX : wd N (p / 64) = X at *
        generalize hY : 2 ^ (p % 64) = Y at *
        generalize hq : p / 64 = q at *
        clear hX hY hb hq hp C3 hp2 HA HB hbit
        go_wp2
        go_ret
        refine ⟨by rw [HA1.out]; rfl, _, D, HQ.out, HL.out, HC3.out⟩
    · have h8 : i = k := by omega
      subst h8
      go_wp2
      go_ret
      refine ⟨by rw [hl.out]; rfl, _, D, HQ.out, HL.out, hcc.out⟩

/-- Behind a call that only looks. -/
theorem fl_look {w w1 w2 : World} {M D k sz N : Nat} {B : Nat → Prop} (h : Fl w M B k sz N) (hL : Lf w1 M D k sz N) (hD : B D ∨ w.heap.size ≤ D) (hc : Ch (fun b => b = M) w w1) (hb : Below w1.heap.size w1 w2) :
    Fl w2 M (fun b => B b ∨ (w.heap.size ≤ b ∧ b < w2.heap.size)) k sz N ∧ Ch (fun b => b = M) w w2 :=
  ⟨(hL.keep hb).fl h.lt h.base (Nat.le_trans hc.size hb.size) hD h.kb h.sb h.nb, hc.trans (Ch.of hb)⟩
theorem laidTo_h (w : World) (M : Nat) (B : Nat → Prop) (k sz N : Nat) (h : Fl w M B k sz N) : LaidTo w M k sz N fun w1 D => (B D ∨ w.heap.size ≤ D) ∧ Ch (fun b => b = M) w w1 := laid_any w M B k sz N h
theorem has_h (w : World) (M : Nat) (B : Nat → Prop) (k sz N : Nat) (h : Fl w M B k sz N) (ao : Option Addr) (len cap : Nat) (zs : List Int) (hm : len ≤ 9223372036854775807) (hz : Bs w ao len cap zs) (ho : Out B ao len) :
    Calls Tryz.prog 45 #[.pointer (some ⟨M, 0, none⟩), .slice ao len cap] w fun e w' => e = .returned (.bool (hask (fnv zs) sz k N)) ∧ Fl w' M (fun b => B b ∨ (w.heap.size ≤ b ∧ b < w'.heap.size)) k sz N ∧ Ch (fun b => b = M) w w' :=
  (has_g w M k sz N h.kb h.sb ao len cap zs hm (fun w1 D => (B D ∨ w.heap.size ≤ D) ∧ Ch (fun b => b = M) w w1) ((laid_any w M B k sz N h).mono fun e w1 ⟨D, h1, h2, h3, h4⟩ => ⟨D, h1, h2, ⟨h3, h4⟩, hz.ch (h4.mono fun i _ e => by rw [e]; exact h.base) ho⟩)).mono fun e w' ⟨h1, w1, D, ⟨h2, h3⟩, h4, h5⟩ => ⟨h1, fl_look h h4 h2 h3 h5⟩
theorem has_l (w : World) (M D k sz N : Nat) (h : Lf w M D k sz N) (hk : 1 ≤ k ∧ k ≤ 14) (hs : 8 ≤ sz ∧ sz ≤ 25000) (ao : Option Addr) (len cap : Nat) (zs : List Int) (hm : len ≤ 9223372036854775807) (hz : Bs w ao len cap zs) :
    Calls Tryz.prog 45 #[.pointer (some ⟨M, 0, none⟩), .slice ao len cap] w fun e w' => e = .returned (.bool (hask (fnv zs) sz k N)) ∧ Below w.heap.size w w' :=
  (has_g w M k sz N hk hs ao len cap zs hm (fun w1 D1 => Below w.heap.size w w1) (Calls.mono (laid_l w M D k sz N h) fun e w1 ⟨D1, h1, h2, h3, h4⟩ => ⟨D1, h1, h2, h4, hz.below h4 (Nat.le_refl _)⟩)).mono fun e w' ⟨h1, w1, D1, h2, h4, h5⟩ => ⟨h1, bmore h2 h5⟩
end Go.Proofs.YtodhljiboakjnaaGreat.Clep

/- What Filter.Bytes does when called. No conditions but that the Filter lies in memory. -/
namespace Go.Proofs.YtodhljiboakjnaaGreat.Clep
open Go.RowKit
set_option linter.unusedVariables false

/-- The first m bytes of all bits. -/
def bys (N m : Nat) : List Int := (List.range m).map fun i => (by8 N i : Int)
theorem bys_succ (N m : Nat) : bys N (m + 1) = bys N m ++ [(by8 N m : Int)] := by simp [bys, List.range_succ]
theorem bys_len (N m : Nat) : (bys N m).length = m := by simp [bys]
theorem bys_range (N m : Nat) : ∀ z ∈ bys N m, 0 ≤ z ∧ z < 256 := by
  intro z hz
  simp only [bys, List.mem_map] at hz
  obtain ⟨i, _, rfl⟩ := hz
  have := by8_lt N i
  omega
/-- What Bytes answers. -/
def fb (k sz N : Nat) : List Int := (pu k ++ pu sz) ++ bys N sz
theorem fb_range (k sz N : Nat) (hk : k ≤ 14) (hs : sz ≤ 25000) : ∀ z ∈ fb k sz N, 0 ≤ z ∧ z < 256 :=
  cat_range (cat_range (pu_range k (by omega) (by omega)) (pu_range sz (by omega) (by omega))) (bys_range N sz)
theorem fb_len (k sz N : Nat) : (fb k sz N).length = (pu k).length + (pu sz).length + sz := by simp [fb, bys_len]; omega

theorem own_blk {w w' : World} {B : Nat} {v : Value} {zs : List Int} (h : Own w B v zs) (hb : ∀ g, B ≤ g → g < w.heap.size → w'.heap[g]? = w.heap[g]?) : Own w' B v zs := by
  obtain ⟨hl, ⟨rfl, hn⟩ | ⟨g, cap, cur, rfl, hg, hh, hnc, hcm, hcs, hx⟩⟩ := h
  · exact ⟨hl, .inl ⟨rfl, hn⟩⟩
  · refine ⟨hl, .inr ⟨g, cap, cur, rfl, hg, ?_, hnc, hcm, hcs, hx⟩⟩
    rw [hb g hg (Array.getElem?_eq_some_iff.1 hh).1]
    exact hh
/-- A row of bytes is not the block of the words. -/
theorem own_ne {w : World} {B : Nat} {v : Value} {zs : List Int} {D : Nat} {cs : Array Value} (h : Own w B v zs) (hD : Blk w D cs 23) : ∀ g, v.ownBlock = some g → B ≤ g ∧ g ≠ D := by
  intro g hg
  refine ⟨(World.ownsRow.lt h g hg).1, ?_⟩
  obtain ⟨hl, ⟨rfl, hn⟩ | ⟨g', cap, cur, rfl, hg', hh, hnc, hcm, hcs, hx⟩⟩ := h
  · cases hg
  · simp only [Value.ownBlock, Option.some.injEq] at hg
    rintro rfl
    subst hg
    unfold Blk at hD
    rw [hh] at hD
    cases hD
theorem append_ch {w w2 wr w3 : World} {M D k sz N : Nat} {v : Value} {ys : List Int} {o : Obj} (hL : Lf wr M D k sz N) (hO : Own wr w.heap.size v ys) (hC : Ch (fun b => w.heap.size ≤ b ∧ b ≠ D) w2 wr) (hs : w.heap.size ≤ wr.heap.size) (hM : M < w.heap.size) (hg : (wr.alloc o).grownBy w3 v.ownBlock) :
    Lf w3 M D k sz N ∧ Ch (fun b => w.heap.size ≤ b ∧ b ≠ D) w2 w3 := by
  have hne := own_ne hO hL.words
  have h1 : Ch (fun b => w.heap.size ≤ b ∧ b ≠ D) wr w3 := by
    have ha := (Below.refl wr.heap.size wr).alloc (Nat.le_refl _) o
    refine ⟨hg.os.trans ha.os, hg.tape.trans ha.tape, hg.output.trans ha.output, Nat.le_trans ha.size hg.size, fun b hb hnb => ?_⟩
    rw [hg.block b (Nat.lt_of_lt_of_le hb ha.size) (fun e => hnb (hne b e.symm)), ha.block b hb]
  exact ⟨hL.ch h1 (fun e => by omega) (fun e => e.2 rfl), hC.trans h1⟩
set_option maxRecDepth 100000 in
set_option maxHeartbeats 1600000 in
theorem bytes_g (w : World) (M k sz N : Nat) (hk : 1 ≤ k ∧ k ≤ 14) (hs : 8 ≤ sz ∧ sz ≤ 25000) (hM0 : w.cell? ⟨M, 0, none⟩ = some (.int .i64 k)) (hM1 : w.cell? ⟨M, 1, none⟩ = some (.int .i64 sz)) (Q : World → World → Nat → Prop) (c1 : ∀ W, Below w.heap.size w W → LaidTo W M k sz N (Q W)) (hQ : ∀ W W' D, Q W W' D → W.heap.size ≤ W'.heap.size ∧ ∀ g, w.heap.size ≤ g → g < W.heap.size → W'.heap[g]? = W.heap[g]?) :
    Calls Tryz.prog 59 #[.pointer (some ⟨M, 0, none⟩)] w fun e w' => ∃ v, e = .returned v ∧ Own w' w.heap.size v (fb k sz N) ∧ ∃ w1 w2 D, Below w.heap.size w w1 ∧ Q w1 w2 D ∧ Lf w' M D k sz N ∧ Ch (fun b => w.heap.size ≤ b ∧ b ≠ D) w2 w' := by
  have c24 : Hid (∀ W ao len cap zs (x : Nat), Below w.heap.size w W → Bs W ao len cap zs → len ≤ 100 → x ≤ 100000 → Calls Tryz.prog 53 #[.slice ao len cap, .int .u64 (IntKind.u64.wrap (x : Int))] W fun e w' => ∃ a l c, e = .returned (.slice a l c) ∧ l ≤ len + 10 ∧ Own w' w.heap.size (.slice a l c) (zs ++ pu x) ∧ Bs w' a l c (zs ++ pu x) ∧ Below w.heap.size w w') := hide fun W ao len cap zs x hW hz hl hx =>
    by
      rw [wrap_u64 x (by omega)]
      refine (put_any ao len cap zs W x (by omega) (by omega) (by omega) hz).mono fun e w' ⟨v, h1, h2, h3⟩ => ?_
      obtain ⟨a, c, rfl, hc, hb, _⟩ := own_bs h2 (range_of (cat_range (bs_range hz) (pu_range x (by omega) (by omega))))
      refine ⟨a, _, c, h1, ?_, own_base h2 hW.size, hb, hW.trans (h3.mono hW.size)⟩
      have := pu_len x
      rw [List.length_append, hz.1]; omega
  have HC : Hid (∀ W, Below w.heap.size w W → Below w.heap.size w W ∧ W.cell? ⟨M, 0, none⟩ = some (.int .i64 k) ∧ W.cell? ⟨M, 1, none⟩ = some (.int .i64 sz)) := hide fun W hW =>
    ⟨hW, (hW.cell (p := ⟨M, 0, none⟩) (World.block_lt_of_cell? w _ hM0)).trans hM0, (hW.cell (p := ⟨M, 1, none⟩) (World.block_lt_of_cell? w _ hM1)).trans hM1⟩
  have C1 := hide c1
  have HQ := hide hQ
  have HMlt : Hid (M < w.heap.size) := hide (World.block_lt_of_cell? w _ hM0)
  obtain ⟨i0, Hi0, hz0, hz1, hz2⟩ := info_parts info5
  have hb0 : Below w.heap.size w w := Below.refl _ _
  have hn0 : ∀ W, Bs W none 0 0 [] := bs_nil
  clear c1 hQ
  go_enter Tryz.func59, Tryz.ntmps59
  go_wp2_with fail
  go_region_held_law (fun W => Below w.heap.size w W ∧ W.cell? ⟨M, 0, none⟩ = some (.int .i64 k) ∧ W.cell? ⟨M, 1, none⟩ = some (.int .i64 sz))
    (first | exact HC.out _ (by assumption) | exact HC.out _ (Below.drew (by assumption)))
    (first
    | (go_at_call 53; refine (c24.out _ _ _ _ _ _ (And.left (by assumption)) (by first | exact hn0 _ | assumption) (by omega) (by omega)).mono ?_; rintro e w1 ⟨a, l, c, rfl, hl, hown, hbs, hb⟩))
  clear hn0 hM0 c24
  have HOW := hide hown
  have HB1 := hide hb
  have HCC := hide (HC.out _ hb)
  clear hown hbs hb
  go_wp2_with fail
  refine Calls.mono (C1.out w1 HB1.out) ?_
  rintro e w2 ⟨D, rfl, hL, hQ⟩
  have HL := hide hL
  have HQ2 := hide hQ
  have HOW2 := hide (own_blk HOW.out (HQ.out _ _ _ hQ).2)
  have c1 : w2.cell? ⟨M, 1, none⟩ = some (.int .i64 sz) := hL.head.cell rfl
  clear hL hQ
  go_wp2
  go_loopw [3, 24] (fun v u wr => ∃ (i : Nat) (ys : List Int), u = .int .i64 i ∧ i ≤ sz ∧ Hid (ys = (pu k ++ pu sz) ++ bys N i) ∧ Hid (Own wr w.heap.size v ys) ∧ Hid (Lf wr M D k sz N) ∧ Hid (Ch (fun b => w.heap.size ≤ b ∧ b ≠ D) w2 wr)) (fun _ u _ => sz - (intOf u).toNat)
  case atStart => exact ⟨0, _, rfl, by omega, hide rfl, hide (by simpa [bys] using HOW2.out), HL, hide (Ch.of (Below.refl _ _))⟩
  case round =>
    obtain ⟨i, ys, rfl, hi, hY, hO, hLr, hCr⟩ := hrel
    by_cases hlt : i < sz
    · have hn1 : i / 8 < nw sz := by unfold nw; omega
      have cD : wr.cell? ⟨D, i / 8, none⟩ = some (.int .u64 (wd N (i / 8) : Nat)) := hLr.out.words.cell (wv_get _ _ _ hn1)
      have hX := wd_lt N (i / 8)
      have hnw : nw sz ≤ 4000 := by unfold nw; omega
      have hV : (wd N (i / 8) : Int) / 2 ^ (i % 8 * 8) % 256 = (by8 N i : Nat) := by rw [← by8_wd N i, Int.natCast_emod, Int.natCast_ediv, Int.natCast_pow]; rfl
      have HV := hide hV
      clear hV
      have hsz := hide (show w.heap.size ≤ wr.heap.size from Nat.le_trans HB1.out.size (Nat.le_trans (HQ.out _ _ _ HQ2.out).1 hCr.out.size))
      have hol : Hid (ys.length ≤ 100000) := hide (by rw [hY.out]; have := pu_len k; have := pu_len sz; simp [bys_len]; omega)
      generalize wd N (i / 8) = X at *
      go_wp2_with (first
        | (at_builtin; refine wpList_append_own _ rfl _ _ 28 rfl w.heap.size 5 i0 (.int .u8 0) 1 1 Tryz.underlying28 Hi0 hz0 hz1 hz2 rfl (by decide) _ _ _ rfl (hO.out.alloc _) ⟨wr.heap.size, 0, none⟩ 1 1 [.int .u8 ((X : Int) / 2 ^ (i % 8 * 8) % 256)] rfl rfl ?c1 ?c2 ?c3 ?c4 ?c5 ?_)
        | fail)
      case c1 => exact cell_one_new _ _ _
      case c2 => intro u hu; simp at hu; subst hu; rfl
      case c3 => have := hol.out; unfold maxLen; omega
      case c4 => have := hol.out; omega
      case c5 => have := hsz.out; simp; omega
      intro v' w3 hown' hgrow _
      rw [HV.out] at hown'
      have HW := hide hown'
      have HW2 := hide (append_ch hLr.out hO.out hCr.out hsz.out HMlt.out hgrow)
      clear hown' hgrow
      go_wp2
      go_round
      case rel => exact ⟨i + 1, ys ++ [(by8 N i : Int)], by go_num, by omega, hide (by rw [bys_succ, ← List.append_assoc, hY.out]), hide (own_snoc HW.out), hide HW2.out.1, hide HW2.out.2⟩
      case measure => simp [intOf]; omega
    · have h8 : i = sz := by omega
      subst h8
      go_wp2
      go_ret
      exact ⟨_, rfl, by have := hO.out; rw [hY.out] at this; exact this, w1, w2, D, HB1.out, HQ2.out, hLr.out, hCr.out⟩

theorem Fl.cells {w : World} {M : Nat} {B : Nat → Prop} {k sz N : Nat} (h : Fl w M B k sz N) : w.cell? ⟨M, 0, none⟩ = some (.int .i64 k) ∧ w.cell? ⟨M, 1, none⟩ = some (.int .i64 sz) := by
  rcases h.ex with ⟨h1, h2⟩ | ⟨D, h1, h2⟩
  · exact ⟨h1.cell rfl, h1.cell rfl⟩
  · exact ⟨h1.head.cell rfl, h1.head.cell rfl⟩
theorem bytes_h (w : World) (M : Nat) (B : Nat → Prop) (k sz N : Nat) (h : Fl w M B k sz N) :
    Calls Tryz.prog 59 #[.pointer (some ⟨M, 0, none⟩)] w fun e w' => ∃ v, e = .returned v ∧ Own w' w.heap.size v (fb k sz N) ∧ Fl w' M (fun b => B b ∨ (w.heap.size ≤ b ∧ b < w'.heap.size)) k sz N ∧ Ch (fun b => b = M) w w' ∧ ∃ D, Lf w' M D k sz N := by
  refine (bytes_g w M k sz N h.kb h.sb h.cells.1 h.cells.2 (fun W W' D => (B D ∨ W.heap.size ≤ D) ∧ Ch (fun b => b = M) W W') (fun W hW => laidTo_h W M B k sz N (h.keep hW)) ?_).mono ?_
  · rintro W W' D ⟨h1, h2⟩
    exact ⟨h2.size, fun g hg hg2 => h2.block g hg2 fun e => by have := h.lt M h.base; omega⟩
  · rintro e w' ⟨v, h1, h2, w1, w2, D, h3, ⟨h4, h5⟩, h6, h7⟩
    have hsz := Nat.le_trans h3.size (Nat.le_trans h5.size h7.size)
    have hD : B D ∨ w.heap.size ≤ D := h4.elim .inl fun e => .inr (Nat.le_trans h3.size e)
    refine ⟨v, h1, h2, h6.fl h.lt h.base hsz hD h.kb h.sb h.nb, ?_, D, h6⟩
    have h7' : Ch (fun b => w.heap.size ≤ b ∧ b ≠ D) w1 w1 := Ch.of (Below.refl _ _)
    refine ⟨h7.os.trans (h5.os.trans h3.os), h7.tape.trans (h5.tape.trans h3.tape), h7.output.trans (h5.output.trans h3.output), hsz, fun b hb hnb => ?_⟩
    have e1 := Nat.lt_of_lt_of_le hb h3.size
    rw [h7.block b (Nat.lt_of_lt_of_le e1 h5.size) (fun e => by omega), h5.block b e1 hnb, h3.block b hb]
theorem bytes_l (w : World) (M D k sz N : Nat) (h : Lf w M D k sz N) (hk : 1 ≤ k ∧ k ≤ 14) (hs : 8 ≤ sz ∧ sz ≤ 25000) :
    Calls Tryz.prog 59 #[.pointer (some ⟨M, 0, none⟩)] w fun e w' => ∃ v, e = .returned v ∧ Own w' w.heap.size v (fb k sz N) ∧ Below w.heap.size w w' := by
  refine (bytes_g w M k sz N hk hs (h.head.cell rfl) (h.head.cell rfl) (fun W W' D1 => D1 = D ∧ Below W.heap.size W W') (fun W hW => laid_l W M D k sz N (h.keep hW)) ?_).mono ?_
  · rintro W W' D ⟨h1, h2⟩
    exact ⟨h2.size, fun g hg hg2 => h2.block g hg2⟩
  · rintro e w' ⟨v, h1, h2, w1, w2, D1, h3, ⟨rfl, h5⟩, h6, h7⟩
    exact ⟨v, h1, h2, (bmore h3 h5).trans (h7.below (Nat.le_trans h3.size h5.size) fun i e => e.1)⟩

end Go.Proofs.YtodhljiboakjnaaGreat.Clep

/- A Filter that was made since the call began, beside other memory F; what its calls do; what awake does when called. No conditions but the kinds' bounds. -/
namespace Go.Proofs.YtodhljiboakjnaaGreat.Clep
open Go.RowKit
set_option linter.unusedVariables false

/-- The Filter in block M was made since w; F: what is not its own. -/
structure One (w W : World) (F : Nat → Prop) (M k sz N : Nat) : Prop where
  ex : ∃ P : Nat → Prop, Fl W M P k sz N ∧ ∀ b, P b → w.heap.size ≤ b ∧ ¬ F b
  size : w.heap.size ≤ W.heap.size
  flt : ∀ b, F b → b < W.heap.size
/-- All that changed is new, and none of F's. -/
def Nu (w : World) (F : Nat → Prop) (W W' : World) : Prop := Ch (fun b => w.heap.size ≤ b ∧ ¬ F b) W W'
theorem One.kb {w W : World} {F : Nat → Prop} {M k sz N : Nat} (h : One w W F M k sz N) : 1 ≤ k ∧ k ≤ 14 := by obtain ⟨P, h1, _⟩ := h.ex; exact h1.kb
theorem One.sb {w W : World} {F : Nat → Prop} {M k sz N : Nat} (h : One w W F M k sz N) : 8 ≤ sz ∧ sz ≤ 25000 := by obtain ⟨P, h1, _⟩ := h.ex; exact h1.sb
theorem One.nb {w W : World} {F : Nat → Prop} {M k sz N : Nat} (h : One w W F M k sz N) : N < 2 ^ (8 * sz) := by obtain ⟨P, h1, _⟩ := h.ex; exact h1.nb
theorem One.ch {w W W' : World} {F P : Nat → Prop} {M k sz N : Nat} (h : One w W F M k sz N) (hc : Ch P W W') (hp : ∀ b, P b → F b ∨ b < w.heap.size) : One w W' F M k sz N := by
  obtain ⟨Q, h1, h2⟩ := h.ex
  refine ⟨⟨Q, h1.ch hc fun b hb e => ?_, h2⟩, Nat.le_trans h.size hc.size, fun b hb => Nat.lt_of_lt_of_le (h.flt b hb) hc.size⟩
  have := h2 b hb
  rcases hp b e with q | q
  · exact this.2 q
  · omega
theorem One.keep {w W W' : World} {F : Nat → Prop} {M k sz N : Nat} (h : One w W F M k sz N) (hb : Below W.heap.size W W') : One w W' F M k sz N :=
  h.ch (P := fun _ => False) (Ch.of hb) fun b e => e.elim
theorem Nu.keep {w W W' : World} {F : Nat → Prop} (h : Below W.heap.size W W') : Nu w F W W' := Ch.of h
theorem Nu.trans {w W W1 W2 : World} {F : Nat → Prop} (h : Nu w F W W1) (h2 : Nu w F W1 W2) : Nu w F W W2 := Ch.trans h h2
theorem Nu.below {w W W' : World} {F : Nat → Prop} (h : Nu w F W W') (hb : Below w.heap.size w W) : Below w.heap.size w W' := hb.trans (Ch.below h hb.size fun i e => e.1)
theorem Nu.bs {w W W' : World} {F : Nat → Prop} {ao : Option Addr} {len cap : Nat} {zs : List Int} (h : Nu w F W W') (hz : Bs W ao len cap zs) (ho : 0 < len → ∀ x, ao = some x → x.block < w.heap.size ∨ F x.block) : Bs W' ao len cap zs :=
  hz.ch h fun h0 x hx e => by rcases ho h0 x hx with q | q; omega; exact e.2 q
/-- More of F. -/
theorem One.more {w W : World} {F G : Nat → Prop} {M k sz N : Nat} (h : One w W F M k sz N) (W' : World) (hb : Below W.heap.size W W') (hG : ∀ b, G b → F b ∨ (W.heap.size ≤ b ∧ b < W'.heap.size)) : One w W' G M k sz N := by
  obtain ⟨P, h1, h2⟩ := h.ex
  refine ⟨⟨P, h1.keep hb, fun b hb' => ⟨(h2 b hb').1, fun e => ?_⟩⟩, Nat.le_trans h.size hb.size, fun b e => ?_⟩
  · rcases hG b e with q | q
    · exact (h2 b hb').2 q
    · have := h1.lt b hb'; omega
  · rcases hG b e with q | q
    · exact Nat.lt_of_lt_of_le (h.flt b q) hb.size
    · exact q.2
theorem one_of {w W W' : World} {F P : Nat → Prop} {M k sz N : Nat} (hs : w.heap.size ≤ W.heap.size) (hf : ∀ b, F b → b < W.heap.size) (h2 : ∀ b, P b → w.heap.size ≤ b ∧ ¬ F b) (h : Fl W' M (fun b => P b ∨ (W.heap.size ≤ b ∧ b < W'.heap.size)) k sz N) (hc : Ch P W W') :
    One w W' F M k sz N ∧ Nu w F W W' := by
  refine ⟨⟨⟨_, h, fun b hb => ?_⟩, Nat.le_trans hs hc.size, fun b hb => Nat.lt_of_lt_of_le (hf b hb) hc.size⟩, hc.mono fun i _ e => h2 i e⟩
  rcases hb with q | q
  · exact h2 b q
  · exact ⟨by omega, fun e => by have := hf b e; omega⟩
theorem one_new (w W : World) (F : Nat → Prop) (n b : Nat) (hn : n ≤ 10000) (hb : 1 ≤ b ∧ b ≤ 20) (hs : w.heap.size ≤ W.heap.size) (hf : ∀ b, F b → b < W.heap.size) :
    Calls Tryz.prog 56 #[.int .i64 n, .int .i64 b] W fun e W' => ∃ M, e = .returned (.tuple #[.pointer (some ⟨M, 0, none⟩), .int .i64 0]) ∧ One w W' F M (kOf b) (sOf n b) 0 ∧ Below W.heap.size W W' ∧ W.heap.size ≤ M ∧ M < W'.heap.size := by
  refine (new_ok n b W hn hb).mono fun e W' h => ⟨_, h.1, ⟨⟨_, h.2.1, fun b hb => ⟨by omega, fun e => by have := hf b e; omega⟩⟩, Nat.le_trans hs h.2.2.size, fun b e => Nat.lt_of_lt_of_le (hf b e) h.2.2.size⟩, h.2.2, Nat.le_refl _, h.2.1.lt _ h.2.1.base⟩
/-- A key that was there, or that lies in memory of F. -/
def Key (w : World) (F : Nat → Prop) (ao : Option Addr) (len : Nat) : Prop := 0 < len → ∀ x, ao = some x → x.block < w.heap.size ∨ F x.block
theorem Key.out {w : World} {F P : Nat → Prop} {ao : Option Addr} {len : Nat} (h : Key w F ao len) (h2 : ∀ b, P b → w.heap.size ≤ b ∧ ¬ F b) : Out P ao len := fun h0 x hx e => by
  have := h2 _ e
  rcases h h0 x hx with q | q
  · omega
  · exact this.2 q
theorem key_of {w : World} {ao : Option Addr} {len cap : Nat} {zs : List Int} (h : Bs w ao len cap zs) (F : Nat → Prop) : Key w F ao len := fun h0 x hx => by
  obtain ⟨b, off, ho, hc⟩ := h.2.2.2 h0
  rw [hx] at ho
  cases ho
  exact .inl (World.block_lt_of_cell? w _ (hc 0 h0))
theorem one_add (w W : World) (F : Nat → Prop) (M k sz N : Nat) (h : One w W F M k sz N) (ao : Option Addr) (len cap : Nat) (zs : List Int) (hm : len ≤ 9223372036854775807) (hz : Bs W ao len cap zs) (hk : Key w F ao len) :
    Calls Tryz.prog 57 #[.pointer (some ⟨M, 0, none⟩), .slice ao len cap] W fun e W' => e = .returned (.tuple #[]) ∧ One w W' F M k sz (addk (fnv zs) sz k N) ∧ Nu w F W W' := by
  obtain ⟨P, h1, h2⟩ := h.ex
  exact (add_h W M P k sz N h1 ao len cap zs hm hz (hk.out h2)).mono fun e W' ⟨q1, q2, q3⟩ => ⟨q1, one_of h.size h.flt h2 q2 q3⟩
theorem one_has (w W : World) (F : Nat → Prop) (M k sz N : Nat) (h : One w W F M k sz N) (ao : Option Addr) (len cap : Nat) (zs : List Int) (hm : len ≤ 9223372036854775807) (hz : Bs W ao len cap zs) (hk : Key w F ao len) :
    Calls Tryz.prog 45 #[.pointer (some ⟨M, 0, none⟩), .slice ao len cap] W fun e W' => e = .returned (.bool (hask (fnv zs) sz k N)) ∧ One w W' F M k sz N ∧ Nu w F W W' := by
  obtain ⟨P, h1, h2⟩ := h.ex
  exact (has_h W M P k sz N h1 ao len cap zs hm hz (hk.out h2)).mono fun e W' ⟨q1, q2, q3⟩ => ⟨q1, one_of h.size h.flt h2 q2 (q3.mono fun i _ e => by rw [e]; exact h1.base)⟩
theorem one_bytes (w W : World) (F : Nat → Prop) (M k sz N : Nat) (h : One w W F M k sz N) :
    Calls Tryz.prog 59 #[.pointer (some ⟨M, 0, none⟩)] W fun e W' => ∃ v, e = .returned v ∧ Own W' W.heap.size v (fb k sz N) ∧ One w W' F M k sz N ∧ Nu w F W W' ∧ ∃ D, Lf W' M D k sz N := by
  obtain ⟨P, h1, h2⟩ := h.ex
  exact (bytes_h W M P k sz N h1).mono fun e W' ⟨v, q1, q2, q3, q4, q5⟩ => ⟨v, q1, q2, (one_of h.size h.flt h2 q3 (q4.mono fun i _ e => by rw [e]; exact h1.base)).1, (one_of h.size h.flt h2 q3 (q4.mono fun i _ e => by rw [e]; exact h1.base)).2, q5⟩

/-- A key of one byte, a constant text's. -/
theorem conv_one (w : World) (z : Int) (hz : 0 ≤ z ∧ z < 256) :
    ∃ w', (convert 28 28 (.slice (some ⟨w.heap.size, 0, none⟩) 1 1)).run Tryz.prog (w.alloc (.cells #[.int .u8 z] 5)) = .ok (.slice (some ⟨w.heap.size, 0, none⟩) 1 1) w' ∧
      Hid (Below w.heap.size w w') ∧ Hid (Bs w' (some ⟨w.heap.size, 0, none⟩) 1 1 [z]) := by
  refine ⟨_, Go.Lib.run_convert_bytes_const (P := Tryz.prog) w 28 5 #[.int .u8 z] 1 1 Tryz.underlying28 Tryz.underlying5, hide ((Below.refl _ w).alloc (Nat.le_refl _) _), hide ?_⟩
  refine ⟨rfl, ⟨Nat.le_refl _, fun h => by cases h⟩, range_of (by intro y hy; simp only [List.mem_cons, List.not_mem_nil, or_false] at hy; omega), fun _ => ⟨w.heap.size, 0, rfl, fun i hi => ?_⟩⟩
  have hh := hpS w (.cells #[.int .u8 z] 5 (1, 2)) w.heap.size rfl
  match i, hi with
  | 0, _ => exact (show (w.alloc (.cells #[.int .u8 z] 5 (1, 2))).cell? ⟨w.heap.size, 0, none⟩ = some (.int .u8 z) by unfold World.cell?; rw [hh]; rfl)
theorem one_fresh {w W W2 : World} {F : Nat → Prop} {M k sz N : Nat} (h : One w W F M k sz N) (hb : Below W.heap.size W W2) : ∃ P : Nat → Prop, Fl W2 M P k sz N ∧ (∀ b, P b → w.heap.size ≤ b ∧ ¬ F b) ∧ ∀ b, W.heap.size ≤ b → ¬ P b := by
  obtain ⟨P, h1, h2⟩ := h.ex
  exact ⟨P, h1.keep hb, h2, fun b hb e => by have := h1.lt b e; omega⟩
/-- Keys that were made behind the Filter. -/
theorem one_add1 (w W W2 : World) (M k sz N : Nat) (F : Nat → Prop) (h : One w W F M k sz N) (hb : Below W.heap.size W W2) (ao : Option Addr) (len cap : Nat) (zs : List Int) (hm : len ≤ 9223372036854775807) (hz : Bs W2 ao len cap zs) (hk : 0 < len → ∀ x, ao = some x → W.heap.size ≤ x.block) :
    Calls Tryz.prog 57 #[.pointer (some ⟨M, 0, none⟩), .slice ao len cap] W2 fun e W' => e = .returned (.tuple #[]) ∧ One w W' F M k sz (addk (fnv zs) sz k N) ∧ Nu w F W W' := by
  obtain ⟨P, h1, h2, h3⟩ := one_fresh h hb
  refine (add_h _ M P k sz N h1 ao len cap zs hm hz (fun h0 x hx e => h3 _ (hk h0 x hx) e)).mono fun e W' ⟨q1, q2, q3⟩ => ⟨q1, ?_⟩
  have h' := h.keep hb
  have := one_of h'.size h'.flt h2 q2 q3
  exact ⟨this.1, (Nu.keep hb).trans this.2⟩
theorem one_has1 (w W W2 : World) (M k sz N : Nat) (F : Nat → Prop) (h : One w W F M k sz N) (hb : Below W.heap.size W W2) (ao : Option Addr) (len cap : Nat) (zs : List Int) (hm : len ≤ 9223372036854775807) (hz : Bs W2 ao len cap zs) (hk : 0 < len → ∀ x, ao = some x → W.heap.size ≤ x.block) :
    Calls Tryz.prog 45 #[.pointer (some ⟨M, 0, none⟩), .slice ao len cap] W2 fun e W' => e = .returned (.bool (hask (fnv zs) sz k N)) ∧ One w W' F M k sz N ∧ Nu w F W W' := by
  obtain ⟨P, h1, h2, h3⟩ := one_fresh h hb
  refine (has_h _ M P k sz N h1 ao len cap zs hm hz (fun h0 x hx e => h3 _ (hk h0 x hx) e)).mono fun e W' ⟨q1, q2, q3⟩ => ⟨q1, ?_⟩
  have h' := h.keep hb
  have := one_of h'.size h'.flt h2 q2 (q3.mono fun i _ e => by rw [e]; exact h1.base)
  exact ⟨this.1, (Nu.keep hb).trans this.2⟩
theorem fresh1 (W : World) : 0 < 1 → ∀ x, some (⟨W.heap.size, 0, none⟩ : Addr) = some x → W.heap.size ≤ x.block := fun _ x hx => by cases hx; exact Nat.le_refl _

end Go.Proofs.YtodhljiboakjnaaGreat.Clep
