/- What Add and Has do when called. Conditions: the key is no part of the Filter's own memory. -/
import Derived.Test.YtjphnflahpcaiaaBLaid
namespace Go.Proofs.Ytjphnflahpcaiaa.Clep
open Go.RowKit
set_option linter.unusedVariables false

/-- What a slice of bytes leads to is none of B's. -/
def Out (B : Nat → Prop) (ao : Option Addr) (len : Nat) : Prop := 0 < len → ∀ x, ao = some x → ¬ B x.block
theorem Bs.ch {P : Nat → Prop} {w w' : World} {ao : Option Addr} {len cap : Nat} {zs : List Int} (h : Bs w ao len cap zs) (hc : Ch P w w') (hn : Out P ao len) : Bs w' ao len cap zs := by
  refine ⟨h.1, h.2.1, h.2.2.1, fun h0 => ?_⟩
  obtain ⟨b, off, ho, hcell⟩ := h.2.2.2 h0
  refine ⟨b, off, ho, fun i hi => ?_⟩
  have := hcell i hi
  rw [World.cell?_of_block (a := ⟨b, off + i, none⟩) (hc.block b (World.block_lt_of_cell? w _ this) (hn h0 _ ho))]
  exact this
theorem Lf.add {w : World} {M D k sz N p : Nat} (h : Lf w M D k sz N) (hp : p / 64 < nw sz) : Lf (w.setCell ⟨D, p / 64, none⟩ (.int .u64 ((wd N (p / 64) ||| 2 ^ (p % 64) : Nat) : Int))) M D k sz (N ||| 2 ^ p) :=
  ⟨h.head.other _ _ (Ne.symm h.ne), by rw [← wv_set N p _ hp]; exact h.words.set _ _, h.ne⟩
theorem Lf.below {w w' : World} {M D k sz N : Nat} (h : Lf w M D k sz N) (hb : Below w.heap.size w w') : Lf w' M D k sz N := h.keep hb
theorem Lf.fl {w w' : World} {M D k sz N : Nat} {B : Nat → Prop} (h : Lf w' M D k sz N) (hl : ∀ b, B b → b < w.heap.size) (hM : B M) (hs : w.heap.size ≤ w'.heap.size) (hD : B D ∨ w.heap.size ≤ D) (hk : 1 ≤ k ∧ k ≤ 14) (hz : 8 ≤ sz ∧ sz ≤ 25000) (hN : N < 2 ^ (8 * sz)) :
    Fl w' M (fun b => B b ∨ (w.heap.size ≤ b ∧ b < w'.heap.size)) k sz N := by
  refine ⟨fun b hb => ?_, .inl hM, hk, hz, hN, .inr ⟨D, h, ?_⟩⟩
  · rcases hb with hb | hb
    · exact Nat.lt_of_lt_of_le (hl b hb) hs
    · exact hb.2
  · rcases hD with hD | hD
    · exact .inl hD
    · exact .inr ⟨hD, h.words.lt⟩
theorem or_u64 (a b : Nat) (ha : a < 18446744073709551616) (hb : b < 18446744073709551616) : bits BinOp.or IntKind.u64 (a : Int) (b : Int) = ((a ||| b : Nat) : Int) := bits_or_u64_nat a b ha hb
theorem pow_lt64 (p : Nat) : 2 ^ (p % 64) < 18446744073709551616 := Nat.lt_of_lt_of_le (Nat.pow_lt_pow_right (by decide) (Nat.mod_lt p (show 0 < 64 by decide))) (by decide)

set_option maxRecDepth 100000 in
set_option maxHeartbeats 1600000 in
theorem add_h (w : World) (M : Nat) (B : Nat → Prop) (k sz N : Nat) (h : Fl w M B k sz N) (ao : Option Addr) (len cap : Nat) (zs : List Int) (hm : len ≤ 9223372036854775807) (hz : Bs w ao len cap zs) (ho : Out B ao len) :
    Calls Try.prog 10 #[.pointer (some ⟨M, 0, none⟩), .slice ao len cap] w fun e w' => e = .returned (.tuple #[]) ∧ Fl w' M (fun b => B b ∨ (w.heap.size ≤ b ∧ b < w'.heap.size)) k sz (addk (fnv zs) sz k N) ∧ Ch B w w' := by
  have c1 := laid_any w M B k sz N h
  obtain ⟨n, hn⟩ : ∃ n, nw sz = n := ⟨_, rfl⟩
  rw [hn] at c1
  have C1 := hide c1
  have HN := hide hn
  clear c1 hn
  have HF := hide h
  have HZ := hide hz
  have HO := hide ho
  have hk := h.kb
  have hs := h.sb
  clear h hz ho
  obtain ⟨H, hH⟩ : ∃ H, fnv zs = H := ⟨_, rfl⟩
  have hf : H < 18446744073709551616 := by rw [← hH]; exact fnv_lt zs
  rw [hH]
  have HH := hide hH
  clear hH
  go_enter Try.func10, Try.ntmps10
  go_wp2_with fail
  refine C1.out.mono ?_
  rintro e w1 ⟨D, rfl, hL, hD, hc0⟩
  have hc : Ch B w w1 := hc0.mono fun i _ e => by rw [e]; exact HF.out.base
  have HL := hide hL
  have HD := hide hD
  have HC := hide hc
  have c2 := hash_any ao len cap zs w1 hm (HZ.out.ch hc HO.out)
  rw [HH.out] at c2
  have C2 := hide c2
  have c0 : w1.cell? ⟨M, 0, none⟩ = some (.int .i64 k) := hL.head.cell rfl
  clear hL hD hc hc0 C1 c2
  go_wp2_with fail
  refine C2.out.mono ?_
  rintro e w2 ⟨rfl, rfl⟩
  clear C2
  go_wp2
  go_loopw [17] (fun u wr => ∃ i : Nat, u = .int .i64 i ∧ i ≤ k ∧ Hid (Lf wr M D k sz (addk H sz i N)) ∧ Hid (Ch (fun b => b = D) w2 wr)) (fun u _ => k - (intOf u).toNat)
  case atStart => exact ⟨0, rfl, by omega, hide HL.out, hide (Ch.of (Below.refl _ _))⟩
  case round =>
    obtain ⟨i, rfl, hi, hl, hcc⟩ := hrel
    by_cases hlt : i < k
    · have C3 := hide (place_any wr M H i sz (hl.out.head.cell rfl) hf (by omega) hs)
      have hp := pl_lt H i sz (by omega)
      have HA : Hid (addk H sz (i + 1) N = addk H sz i N ||| 2 ^ pl H i sz) := hide rfl
      go_wp2_with fail
      refine C3.out.mono ?_
      rintro e w3 ⟨rfl, hb⟩
      have HL3 := hide (hl.out.keep hb)
      have HC3 := hide (hcc.out.trans (Ch.of hb))
      generalize pl H i sz = p at *
      have hp2 : p / 64 < nw sz := by unfold nw; omega
      have hp3 : p / 64 < n := by rw [← HN.out]; exact hp2
      have cD : w3.cell? ⟨D, p / 64, none⟩ = some (.int .u64 (wd (addk H sz i N) (p / 64) : Nat)) := HL3.out.words.cell (wv_get _ _ _ hp2)
      have fD : w3.frozen? ⟨D, p / 64, none⟩ = false := HL3.out.words.free _
      have hor := or_u64 (wd (addk H sz i N) (p / 64)) (2 ^ (p % 64)) (wd_lt _ _) (pow_lt64 p)
      have HL4 := hide (HL3.out.add hp2)
      have hnw : n ≤ 4000 := by rw [← HN.out]; unfold nw; omega
      generalize hX : wd (addk H sz i N) (p / 64) = X at *
      generalize hY : 2 ^ (p % 64) = Y at *
      generalize hZ : X ||| Y = Z at *
      generalize hq : p / 64 = q at *
      clear hX hY hZ hb hq hp C3 hp2
      go_wp2
      go_round
      case rel => exact ⟨i + 1, by go_num, by omega, hide (by rw [HA.out]; exact HL4.out), hide (HC3.out.trans (Ch.set (P := fun b => b = D) w3 ⟨D, q, none⟩ _ rfl))⟩
      case measure => simp [intOf]; omega
    · have h8 : i = k := by omega
      subst h8
      go_wp2
      go_end0
      have hsz := Nat.le_trans HC.out.size hcc.out.size
      refine ⟨rfl, hl.out.fl HF.out.lt HF.out.base hsz HD.out HF.out.kb HF.out.sb (addk_lt H sz N (by omega) HF.out.nb _), ?_⟩
      exact ⟨hcc.out.os.trans HC.out.os, hcc.out.tape.trans HC.out.tape, hcc.out.output.trans HC.out.output, hsz, fun b hb hnb => (hcc.out.block b (Nat.lt_of_lt_of_le hb HC.out.size) (fun e => by subst e; rcases HD.out with q | q; exact hnb q; omega)).trans (HC.out.block b hb hnb)⟩

/-- laid lays the words, or finds them laid. -/
def LaidTo (w : World) (M k sz N : Nat) (Q : World → Nat → Prop) : Prop :=
  Calls Try.prog 21 #[.pointer (some ⟨M, 0, none⟩)] w fun e w' => ∃ D, e = .returned (.slice (some ⟨D, 0, none⟩) (nw sz) (nw sz)) ∧ Lf w' M D k sz N ∧ Q w' D
theorem laid_l (w : World) (M D k sz N : Nat) (h : Lf w M D k sz N) : LaidTo w M k sz N fun w1 D1 => D1 = D ∧ Below w.heap.size w w1 := by
  have A1 := (Below.refl _ w).alloc (Nat.le_refl _) (Obj.cells #[.pointer (some ⟨M, 0, none⟩)] 23)
  have K1 := hpS w (Obj.cells #[.pointer (some ⟨M, 0, none⟩)] 23) w.heap.size rfl
  obtain ⟨w1, hw1⟩ : ∃ w1, w1 = w.alloc (Obj.cells #[.pointer (some ⟨M, 0, none⟩)] 23) := ⟨_, rfl⟩
  rw [← hw1] at A1 K1
  have hL := h.keep A1
  have B1 := hide A1
  have hpl : w1.cell? ⟨w.heap.size, 0, none⟩ = some (.pointer (some ⟨M, 0, none⟩)) := by simp [World.cell?, K1]
  have hDo := hide (do_done ⟨M, 2, none⟩ (.func (.func 31) #[] #[.pointer (some ⟨w.heap.size, 0, none⟩)]) w1 (hL.head.cell rfl))
  have c5 : w1.cell? ⟨M, 5, none⟩ = some (.slice (some ⟨D, 0, none⟩) (nw sz) (nw sz)) := hL.head.cell rfl
  have HL := hide hL
  clear h A1 K1 hL
  unfold LaidTo
  go_enter Try.func21, Try.ntmps21
  go_wp2_with fail
  rw [← hw1]
  clear hw1
  refine hDo.out.mono ?_
  rintro e w2 ⟨rfl, rfl⟩
  clear hDo
  go_wp2
  go_ret
  exact ⟨D, rfl, HL.out, rfl, B1.out⟩
theorem hask_no {h sz k N i : Nat} (hi : i < k) (hb : N.testBit (pl h i sz) = false) : hask h sz k N = false := by
  rcases hx : hask h sz k N with _ | _
  · rfl
  · have := (hask_iff _ _ _ _).1 hx i hi
    rw [hb] at this; cases this

set_option maxRecDepth 100000 in
set_option maxHeartbeats 1600000 in
theorem has_g (w : World) (M k sz N : Nat) (hk : 1 ≤ k ∧ k ≤ 14) (hs : 8 ≤ sz ∧ sz ≤ 25000) (ao : Option Addr) (len cap : Nat) (zs : List Int) (hm : len ≤ 9223372036854775807) (Q : World → Nat → Prop) (c1 : LaidTo w M k sz N fun w1 D => Q w1 D ∧ Bs w1 ao len cap zs) :
    Calls Try.prog 15 #[.pointer (some ⟨M, 0, none⟩), .slice ao len cap] w fun e w' => e = .returned (.bool (hask (fnv zs) sz k N)) ∧ ∃ w1 D, Q w1 D ∧ Lf w1 M D k sz N ∧ Below w1.heap.size w1 w' := by
  unfold LaidTo at c1
  obtain ⟨n, hn⟩ : ∃ n, nw sz = n := ⟨_, rfl⟩
  rw [hn] at c1
  have C1 := hide c1
  have HN := hide hn
  clear c1 hn
  obtain ⟨H, hH⟩ : ∃ H, fnv zs = H := ⟨_, rfl⟩
  have hf : H < 18446744073709551616 := by rw [← hH]; exact fnv_lt zs
  rw [hH]
  have HH := hide hH
  clear hH
  go_enter Try.func15, Try.ntmps15
  go_wp2_with fail
  refine C1.out.mono ?_
  rintro e w1 ⟨D, rfl, hL, hQ, hz⟩
  have HL := hide hL
  have HQ := hide hQ
  have c2 := hash_any ao len cap zs w1 hm hz
  rw [HH.out] at c2
  have C2 := hide c2
  have c0 : w1.cell? ⟨M, 0, none⟩ = some (.int .i64 k) := hL.head.cell rfl
  clear hL hQ hz C1 c2
  go_wp2_with fail
  refine C2.out.mono ?_
  rintro e w2 ⟨rfl, rfl⟩
  clear C2
  go_wp2
  go_loopw [18] (fun u wr => ∃ i : Nat, u = .int .i64 i ∧ i ≤ k ∧ Hid (hask H sz i N = true) ∧ Hid (Below w2.heap.size w2 wr)) (fun u _ => k - (intOf u).toNat)
  case atStart => exact ⟨0, rfl, by omega, hide rfl, hide (Below.refl _ _)⟩
  case round =>
    obtain ⟨i, rfl, hi, hl, hcc⟩ := hrel
    have HLr := hide (HL.out.keep hcc.out)
    by_cases hlt : i < k
    · have C3 := hide (place_any wr M H i sz (HLr.out.head.cell rfl) hf (by omega) hs)
      have hp := pl_lt H i sz (by omega)
      have HA : Hid (N.testBit (pl H i sz) = true → hask H sz (i + 1) N = true) := hide fun e => by
        show (hask H sz i N && N.testBit (pl H i sz)) = true
        rw [hl.out, e]; rfl
      have HB : Hid (N.testBit (pl H i sz) = false → hask H sz k N = false) := hide fun e => hask_no hlt e
      go_wp2_with fail
      refine C3.out.mono ?_
      rintro e w3 ⟨rfl, hb⟩
      have HL3 := hide (HLr.out.keep hb)
      have HC3 := hide (bmore hcc.out hb)
      generalize pl H i sz = p at *
      have hp2 : p / 64 < nw sz := by unfold nw; omega
      have hp3 : p / 64 < n := by rw [← HN.out]; exact hp2
      have cD : w3.cell? ⟨D, p / 64, none⟩ = some (.int .u64 (wd N (p / 64) : Nat)) := HL3.out.words.cell (wv_get _ _ _ hp2)
      have hor := and_u64 (wd N (p / 64)) (2 ^ (p % 64)) (wd_lt _ _) (pow_lt64 p)
      rw [wd_test] at hor
      have hnw : n ≤ 4000 := by rw [← HN.out]; unfold nw; omega
      have hY0 : 0 < 2 ^ (p % 64) := Nat.two_pow_pos _
      cases hbit : N.testBit p with
      | true =>
        rw [hbit] at hor
        simp only [if_true] at hor
        have HA1 := hide (HA.out hbit)
        generalize hX : wd N (p / 64) = X at *
        generalize hY : 2 ^ (p % 64) = Y at *
        generalize hq : p / 64 = q at *
        clear hX hY hb hq hp C3 hp2 HA HB hbit
        go_wp2
        go_round
        case rel => exact ⟨i + 1, by go_num, by omega, HA1, HC3⟩
        case measure => simp [intOf]; omega
      | false =>
        rw [hbit] at hor
        simp only [Bool.false_eq_true, if_false] at hor
        have HA1 := hide (HB.out hbit)
        generalize hX : wd N (p / 64) = X at *
        generalize hY : 2 ^ (p % 64) = Y at *
        generalize hq : p / 64 = q at *
        clear hX hY hb hq hp C3 hp2 HA HB hbit
        go_wp2
        go_ret
        refine ⟨by rw [HA1.out]; rfl, _, D, HQ.out, HL.out, HC3.out⟩
    · have h8 : i = k := by omega
      subst h8
      go_wp2
      go_ret
      refine ⟨by rw [hl.out]; rfl, _, D, HQ.out, HL.out, hcc.out⟩

set_option maxRecDepth 100000 in
set_option maxHeartbeats 1600000 in
theorem ones_g (w : World) (M k sz N : Nat) (hs : 8 ≤ sz ∧ sz ≤ 25000) (hN : N < 2 ^ (8 * sz)) (Q : World → Nat → Prop) (c1 : LaidTo w M k sz N Q) :
    Calls Try.prog 12 #[.pointer (some ⟨M, 0, none⟩)] w fun e w' => e = .returned (.int .i64 (pc (8 * sz) N : Nat)) ∧ ∃ w1 D, Q w1 D ∧ Lf w1 M D k sz N ∧ Below w1.heap.size w1 w' := by
  unfold LaidTo at c1
  obtain ⟨n, hn⟩ : ∃ n, nw sz = n := ⟨_, rfl⟩
  rw [hn] at c1
  have C1 := hide c1
  have HN := hide hn
  clear c1 hn
  have HT : Hid (pc (64 * n) N = pc (8 * sz) N) := hide (pc_big N (8 * sz) hN (64 * n) (by rw [← HN.out]; unfold nw; omega))
  have hnw : n ≤ 4000 := by rw [← HN.out]; unfold nw; omega
  generalize pc (8 * sz) N = R at *
  go_enter Try.func12, Try.ntmps12
  go_wp2_with fail
  refine C1.out.mono ?_
  rintro e w1 ⟨D, rfl, hL, hQ⟩
  have HL := hide hL
  have HQ := hide hQ
  clear hL hQ C1
  go_wp2
  go_loopw [3, 9] (fun v u wr => ∃ i : Nat, u = .int .i64 i ∧ i ≤ n ∧ v = .int .i64 (pc (64 * i) N : Nat) ∧ wr = w1) (fun _ u _ => n - (intOf u).toNat)
  case atStart => exact ⟨0, rfl, by omega, rfl, rfl⟩
  case round =>
    obtain ⟨i, rfl, hi, rfl, rfl⟩ := hrel
    by_cases hlt : i < n
    · have cD : wr.cell? ⟨D, i, none⟩ = some (.int .u64 (wd N i : Nat)) := HL.out.words.cell (wv_get _ _ _ (by rw [HN.out]; exact hlt))
      have C3 := hide (ones64_any (wd N i) (wd_lt _ _) wr)
      have HP := hide (pc_words N i)
      have hb1 := pc_le (64 * i) N
      have hb2 := pc_le 64 (wd N i)
      generalize pc (64 * i) N = a at *
      generalize wd N i = x at *
      go_wp2_with fail
      refine C3.out.mono ?_
      rintro e w3 ⟨rfl, rfl⟩
      clear C3
      generalize pc 64 x = b at *
      go_wp2
      go_round
      case rel => exact ⟨i + 1, by go_num, by omega, by rw [HP.out]; go_num, trivial⟩
      case measure => simp [intOf]; omega
    · have h8 : i = n := by omega
      subst h8
      go_wp2
      go_ret
      refine ⟨by rw [← HT.out]; rfl, _, D, HQ.out, HL.out, Below.refl _ _⟩

/-- Behind a call that only looks. -/
theorem fl_look {w w1 w2 : World} {M D k sz N : Nat} {B : Nat → Prop} (h : Fl w M B k sz N) (hL : Lf w1 M D k sz N) (hD : B D ∨ w.heap.size ≤ D) (hc : Ch (fun b => b = M) w w1) (hb : Below w1.heap.size w1 w2) :
    Fl w2 M (fun b => B b ∨ (w.heap.size ≤ b ∧ b < w2.heap.size)) k sz N ∧ Ch (fun b => b = M) w w2 :=
  ⟨(hL.keep hb).fl h.lt h.base (Nat.le_trans hc.size hb.size) hD h.kb h.sb h.nb, hc.trans (Ch.of hb)⟩
theorem laidTo_h (w : World) (M : Nat) (B : Nat → Prop) (k sz N : Nat) (h : Fl w M B k sz N) : LaidTo w M k sz N fun w1 D => (B D ∨ w.heap.size ≤ D) ∧ Ch (fun b => b = M) w w1 := laid_any w M B k sz N h
theorem has_h (w : World) (M : Nat) (B : Nat → Prop) (k sz N : Nat) (h : Fl w M B k sz N) (ao : Option Addr) (len cap : Nat) (zs : List Int) (hm : len ≤ 9223372036854775807) (hz : Bs w ao len cap zs) (ho : Out B ao len) :
    Calls Try.prog 15 #[.pointer (some ⟨M, 0, none⟩), .slice ao len cap] w fun e w' => e = .returned (.bool (hask (fnv zs) sz k N)) ∧ Fl w' M (fun b => B b ∨ (w.heap.size ≤ b ∧ b < w'.heap.size)) k sz N ∧ Ch (fun b => b = M) w w' :=
  (has_g w M k sz N h.kb h.sb ao len cap zs hm (fun w1 D => (B D ∨ w.heap.size ≤ D) ∧ Ch (fun b => b = M) w w1) ((laid_any w M B k sz N h).mono fun e w1 ⟨D, h1, h2, h3, h4⟩ => ⟨D, h1, h2, ⟨h3, h4⟩, hz.ch (h4.mono fun i _ e => by rw [e]; exact h.base) ho⟩)).mono fun e w' ⟨h1, w1, D, ⟨h2, h3⟩, h4, h5⟩ => ⟨h1, fl_look h h4 h2 h3 h5⟩
theorem has_l (w : World) (M D k sz N : Nat) (h : Lf w M D k sz N) (hk : 1 ≤ k ∧ k ≤ 14) (hs : 8 ≤ sz ∧ sz ≤ 25000) (ao : Option Addr) (len cap : Nat) (zs : List Int) (hm : len ≤ 9223372036854775807) (hz : Bs w ao len cap zs) :
    Calls Try.prog 15 #[.pointer (some ⟨M, 0, none⟩), .slice ao len cap] w fun e w' => e = .returned (.bool (hask (fnv zs) sz k N)) ∧ Below w.heap.size w w' :=
  (has_g w M k sz N hk hs ao len cap zs hm (fun w1 D1 => Below w.heap.size w w1) (Calls.mono (laid_l w M D k sz N h) fun e w1 ⟨D1, h1, h2, h3, h4⟩ => ⟨D1, h1, h2, h4, hz.below h4 (Nat.le_refl _)⟩)).mono fun e w' ⟨h1, w1, D1, h2, h4, h5⟩ => ⟨h1, bmore h2 h5⟩
theorem ones_h (w : World) (M : Nat) (B : Nat → Prop) (k sz N : Nat) (h : Fl w M B k sz N) :
    Calls Try.prog 12 #[.pointer (some ⟨M, 0, none⟩)] w fun e w' => e = .returned (.int .i64 (pc (8 * sz) N : Nat)) ∧ Fl w' M (fun b => B b ∨ (w.heap.size ≤ b ∧ b < w'.heap.size)) k sz N ∧ Ch (fun b => b = M) w w' :=
  (ones_g w M k sz N h.sb h.nb _ (laidTo_h w M B k sz N h)).mono fun e w' ⟨h1, w1, D, ⟨h2, h3⟩, h4, h5⟩ => ⟨h1, fl_look h h4 h2 h3 h5⟩
theorem ones_l (w : World) (M D k sz N : Nat) (h : Lf w M D k sz N) (hs : 8 ≤ sz ∧ sz ≤ 25000) (hN : N < 2 ^ (8 * sz)) :
    Calls Try.prog 12 #[.pointer (some ⟨M, 0, none⟩)] w fun e w' => e = .returned (.int .i64 (pc (8 * sz) N : Nat)) ∧ Below w.heap.size w w' :=
  (ones_g w M k sz N hs hN _ (laid_l w M D k sz N h)).mono fun e w' ⟨h1, w1, D1, ⟨h2, h3⟩, h4, h5⟩ => ⟨h1, bmore h3 h5⟩

end Go.Proofs.Ytjphnflahpcaiaa.Clep
