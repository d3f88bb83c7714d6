/- What frame.check does when called (a walk over the translated program): for any bytes of at most 2^46, any place in them. -/
import Derived.Test.YtgopcaemgcnapaaFrame
import Derived.Deep.RegionHeldLaw
namespace Go.Proofs.Ytgopcaemgcnapaa.Clep
open Go.RowKit
set_option linter.unusedVariables false
set_option maxRecDepth 10000

/-- What a row of bytes begins with, read as a head: its kind and its length. -/
def kd (X : List Int) : Int := X.getD 0 0
def ln (X : List Int) : Int := X.getD 1 0 * 65536 + X.getD 2 0 * 256 + X.getD 3 0
def he (X : List Int) : Int := if nn ((X.take 8).drop 4) = crc ((X.take 8).take 4) then 0 else 5
def bd (X : List Int) : List Int := (X.take ((ln X).toNat + 12)).drop 8
def be (X : List Int) : Int := if nn ((bd X).drop (ln X).toNat) = crc ((bd X).take (ln X).toNat) then 0 else 5
/-- The error of the frame that X begins with. -/
def ce (X : List Int) : Int :=
  if X.length < 8 then 4 else if he X ≠ 0 then he X else if kd X < 1 ∨ 100 < kd X ∨ 60000 < ln X then 3 else if X.length < (ln X).toNat + 12 then 4 else be X
/-- The place of the frame that X begins with, P being X's own. -/
def cp (X : List Int) (P : Nat) : Value := if ce X = 0 then pl (kd X) (P + 8) (P + 8 + ln X) else pl 0 0 0

theorem ln_range (X : List Int) (h : ∀ i, 0 ≤ X.getD i 0 ∧ X.getD i 0 < 256) : 0 ≤ ln X ∧ ln X < 16777216 := by
  have := h 1; have := h 2; have := h 3
  unfold ln; omega
theorem getD_drop (zs : List Int) (P k : Nat) : (zs.drop P).getD k 0 = zs.getD (P + k) 0 := by simp [List.getD]

theorem open_err (ao : Option Addr) (len cap : Nat) (zs : List Int) (n : Nat) (w : World) (hm : len ≤ 70368744177664) (hn : len = n + 4) (h : Bs w ao len cap zs) :
    Calls Try.prog 70 #[.slice ao len cap] w fun e w' => Below w.heap.size w w' ∧ ∃ v, e = .returned (.tuple #[v, .int .i64 (if nn (zs.drop n) = crc (zs.take n) then 0 else 5)]) := by
  obtain ⟨b, off, rfl, _⟩ := h.2.2.2 (by omega)
  refine (open_long b off len cap zs w n hn hm h).mono ?_
  rintro e w1 ⟨hb, ⟨hg, v, he, _⟩ | ⟨hg, he⟩⟩
  · exact ⟨hb, v, by rw [he, if_pos (show nn (zs.drop n) = crc (zs.take n) from hg)]⟩
  · exact ⟨hb, _, by rw [he, if_neg (show ¬ nn (zs.drop n) = crc (zs.take n) from hg)]⟩

theorem check_short (ao : Option Addr) (len cap : Nat) (P : Nat) (w : World) (hm : len ≤ 70368744177664) (hP : P ≤ len) (h8 : len < P + 8) :
    Calls Try.prog 56 #[.slice ao len cap, .int .i64 P] w fun e w' => Below w.heap.size w w' ∧ e = .returned (.tuple #[pl 0 0 0, .int .i64 4]) := by
  go_enter Try.func56, Try.ntmps56
  go_wp2
  refine bodyPost_ret (v := .tuple #[pl 0 0 0, .int .i64 4]) (by simp [results, Try.results56, go_sem, pl]) rfl ⟨?_, rfl⟩
  exact (Below.refl _ w).alloc (Nat.le_refl _) _

/-- A variable of three numbers in a block of its own. -/
def Var3 (w : World) (R : Nat) (x y z : Int) : Prop := w.cell? ⟨R, 0, none⟩ = some (.int .i64 x) ∧ w.cell? ⟨R, 1, none⟩ = some (.int .i64 y) ∧ w.cell? ⟨R, 2, none⟩ = some (.int .i64 z) ∧
  w.frozen? ⟨R, 0, none⟩ = false ∧ w.frozen? ⟨R, 1, none⟩ = false ∧ w.frozen? ⟨R, 2, none⟩ = false
theorem var3_new (w : World) (x y z : Int) : Var3 (w.alloc (Obj.cells #[Value.int IntKind.i64 x, Value.int IntKind.i64 y, Value.int IntKind.i64 z] 109)) w.heap.size x y z := by
  unfold Var3; simp [go_sem]
theorem Var3.below {w w' : World} {R B : Nat} {x y z : Int} (h : Var3 w R x y z) (hb : Below B w w') (hB : w.heap.size ≤ B) : Var3 w' R x y z := by
  have hR : R < B := Nat.lt_of_lt_of_le (World.block_lt_of_cell? w _ h.1) hB
  obtain ⟨h0, h1, h2, f0, f1, f2⟩ := h
  exact ⟨(hb.cell (p := ⟨R, 0, none⟩) hR).trans h0, (hb.cell (p := ⟨R, 1, none⟩) hR).trans h1, (hb.cell (p := ⟨R, 2, none⟩) hR).trans h2,
    (hb.frozen (p := ⟨R, 0, none⟩) hR).trans f0, (hb.frozen (p := ⟨R, 1, none⟩) hR).trans f1, (hb.frozen (p := ⟨R, 2, none⟩) hR).trans f2⟩

theorem var3_set {w : World} {R : Nat} {a b c : Int} (h : Var3 w R a b c) (x y z : Int) :
    Var3 (((w.setCell ⟨R, 0, none⟩ (.int .i64 x)).setCell ⟨R, 1, none⟩ (.int .i64 y)).setCell ⟨R, 2, none⟩ (.int .i64 z)) R x y z := by
  obtain ⟨h0, h1, h2, f0, f1, f2⟩ := h
  have n01 : (⟨R, 0, none⟩ : Addr) ≠ ⟨R, 1, none⟩ := by simp
  have n02 : (⟨R, 0, none⟩ : Addr) ≠ ⟨R, 2, none⟩ := by simp
  have n12 : (⟨R, 1, none⟩ : Addr) ≠ ⟨R, 2, none⟩ := by simp
  refine ⟨?_, ?_, ?_, by simpa using f0, by simpa using f1, by simpa using f2⟩
  · rw [World.cell?_setCell_other (h := n02.symm), World.cell?_setCell_other (h := n01.symm), World.cell?_setCell_same (h := h0)]
  · rw [World.cell?_setCell_other (h := n12.symm), World.cell?_setCell_same (h := show _ = some (Value.int .i64 b) by rw [World.cell?_setCell_other (h := n01)]; exact h1)]
  · rw [World.cell?_setCell_same (h := show _ = some (Value.int .i64 c) by rw [World.cell?_setCell_other (h := n12), World.cell?_setCell_other (h := n02)]; exact h2)]
theorem var3_results {w : World} {R : Nat} {x y z e : Int} (h : Var3 w R x y z) (ts : Array Value) (h4 : ts.getD 4 undef = .pointer (some ⟨R, 0, none⟩)) (h5 : ts.getD 5 undef = .int .i64 e) :
    (results Try.f56 ts).run Try.prog w = .ok (.tuple #[pl x y z, .int .i64 e]) w := by
  obtain ⟨h0, h1, h2, _⟩ := h
  rw [Array.getD_eq_getD_getElem?] at h4 h5
  simp [results, Try.results56, go_sem, pl, h0, h1, h2, h4, h5]

set_option maxHeartbeats 400000 in
theorem check_long (b off len cap : Nat) (zs : List Int) (P : Nat) (w : World) (hm : len ≤ 70368744177664) (h : Bs w (some ⟨b, off, none⟩) len cap zs) (hP : P + 8 ≤ len) (X : List Int) (hX : X = zs.drop P) :
    Calls Try.prog 56 #[.slice (some ⟨b, off, none⟩) len cap, .int .i64 P] w fun e w' => Below w.heap.size w w' ∧ e = .returned (.tuple #[cp X P, .int .i64 (ce X)]) := by
  have hcap := h.2.1.1
  have hXl : X.length = len - P := by rw [hX, List.length_drop, h.1]
  have hn8 : ¬ X.length < 8 := by omega
  have hlr := ln_range X (by rw [hX]; exact range_of (ByteL.drop (bs_range h) P))
  have C1 : Hid (∀ W, Below w.heap.size w W → Calls Try.prog 70 #[.slice (some ⟨b, off + P, none⟩) 8 (cap - P)] W fun e w' => Below W.heap.size W w' ∧ ∃ v, e = .returned (.tuple #[v, .int .i64 (he X)])) := hide fun W hW => by
    have := ((h.below hW (Nat.le_refl _)).takeAt (P + 8) hP).dropAt P (by omega)
    rw [show P + 8 - P = 8 from by omega, show (zs.take (P + 8)).drop P = X.take 8 from by rw [hX, List.drop_take, show P + 8 - P = 8 from by omega]] at this
    exact open_err _ 8 _ _ 4 W (by omega) rfl this
  have C2 : Hid (∀ W, Below w.heap.size w W → Calls Try.prog 71 #[.slice (some ⟨b, off, none⟩) len cap, .int .i64 P] W fun e w' => e = .returned (pl (kd X) (P + 8) (P + 8 + ln X)) ∧ Below W.heap.size W w') := hide fun W hW => by
    have := fread_any b off len cap zs P W hm (h.below hW (Nat.le_refl _)) P rfl hP
    unfold kd ln
    rw [hX]
    simp only [getD_drop, Nat.add_zero]
    exact this
  have C3 : (ln X).toNat + 12 ≤ len - P → Hid (∀ W, Below w.heap.size w W → Calls Try.prog 70 #[.slice (some ⟨b, off + (P + 8), none⟩) ((ln X).toNat + 4) (cap - (P + 8))] W fun e w' => Below W.heap.size W w' ∧ ∃ v, e = .returned (.tuple #[v, .int .i64 (be X)])) := fun hl => hide fun W hW => by
    have := ((h.below hW (Nat.le_refl _)).takeAt (P + ((ln X).toNat + 12)) (by omega)).dropAt (P + 8) (by omega)
    rw [show P + ((ln X).toNat + 12) - (P + 8) = (ln X).toNat + 4 from by omega, show (zs.take (P + ((ln X).toNat + 12))).drop (P + 8) = bd X from by
      unfold bd; rw [hX, ← List.drop_drop, List.drop_take, show P + ((ln (zs.drop P)).toNat + 12) - P = (ln (zs.drop P)).toNat + 12 from by omega]] at this
    exact open_err _ _ _ _ (ln X).toNat W (by omega) rfl this
  have hce : ce X = if he X ≠ 0 then he X else if kd X < 1 ∨ 100 < kd X ∨ 60000 < ln X then 3 else if X.length < (ln X).toNat + 12 then 4 else be X := by unfold ce; rw [if_neg hn8]
  have HC := hide hce
  have hP8 : (P : Int) + 8 ≤ (cap : Int) := by omega
  clear h hce hX
  go_enter Try.func56, Try.ntmps56
  go_wp2_with fail
  refine (C1.out _ ((Below.refl _ w).alloc (Nat.le_refl _) _)).mono ?_
  rintro e w1 ⟨hb1, v1, rfl⟩
  have V1 := (var3_new w 0 0 0).below hb1 (Nat.le_refl _)
  have B1 := hide (((Below.refl w.heap.size w).alloc (Nat.le_refl _) _).trans (hb1.mono (by simp)))
  clear hb1 C1
  unfold pl at C2
  by_cases h1 : he X = 0
  · have HC1 := hide (show ce X = if kd X < 1 ∨ 100 < kd X ∨ 60000 < ln X then 3 else if X.length < (ln X).toNat + 12 then 4 else be X by rw [HC.out, if_neg (by simp [h1])])
    clear HC
    go_wp2_with fail
    refine (C2.out _ B1.out).mono ?_
    rintro e w2 ⟨rfl, hb2⟩
    have V2 := V1.below hb2 (Nat.le_refl _)
    have B2 := hide (B1.out.trans (hb2.mono B1.out.size))
    have hsz : w.heap.size < w2.heap.size := World.block_lt_of_cell? w2 _ V2.1
    clear hb2 V1 C2 h1
    by_cases hk : kd X < 1 ∨ 100 < kd X ∨ 60000 < ln X
    · have H5 := hide (show ce X = 3 by rw [HC1.out, if_pos hk])
      have HP := hide (show cp X P = pl 0 0 0 by unfold cp; rw [if_neg (by rw [H5.out]; decide)])
      have B3 := (((B2.out.setCell (p := ⟨w.heap.size, 0, none⟩) (Nat.le_refl _) (.int .i64 0)).setCell (p := ⟨w.heap.size, 1, none⟩) (Nat.le_refl _) (.int .i64 0)).setCell (p := ⟨w.heap.size, 2, none⟩) (Nat.le_refl _) (.int .i64 0))
      have B4 := hide (B3.alloc B3.size (Obj.cells #[Value.int IntKind.i64 (kd X), Value.int IntKind.i64 (P + 8), Value.int IntKind.i64 (P + 8 + ln X)] 109))
      have V4 := hide ((var3_set V2 0 0 0).below ((Below.refl _ _).alloc (Nat.le_refl _) (Obj.cells #[Value.int IntKind.i64 (kd X), Value.int IntKind.i64 (P + 8), Value.int IntKind.i64 (P + 8 + ln X)] 109)) (Nat.le_refl _))
      clear B3
      obtain ⟨q0, q1, q2, f0, f1, f2⟩ := V2
      clear C3 HC1
      generalize kd X = K at *
      generalize ln X = N at *
      rcases hk with hk | hk | hk
      · go_wp2
        refine bodyPost_ret (var3_results V4.out _ rfl rfl) rfl ⟨B4.out, by rw [HP.out, H5.out]⟩
      · have hk2 : ¬ K < 1 := by omega
        go_wp2
        refine bodyPost_ret (var3_results V4.out _ rfl rfl) rfl ⟨B4.out, by rw [HP.out, H5.out]⟩
      · by_cases hk2 : K < 1
        · go_wp2
          refine bodyPost_ret (var3_results V4.out _ rfl rfl) rfl ⟨B4.out, by rw [HP.out, H5.out]⟩
        · by_cases hk3 : 100 < K
          · go_wp2
            refine bodyPost_ret (var3_results V4.out _ rfl rfl) rfl ⟨B4.out, by rw [HP.out, H5.out]⟩
          · go_wp2
            refine bodyPost_ret (var3_results V4.out _ rfl rfl) rfl ⟨B4.out, by rw [HP.out, H5.out]⟩
    · have HC2 := hide (show ce X = if X.length < (ln X).toNat + 12 then 4 else be X by rw [HC1.out, if_neg hk])
      have hk1 : ¬ kd X < 1 := by omega
      have hk2 : ¬ 100 < kd X := by omega
      have hk3 : ¬ 60000 < ln X := by omega
      clear HC1 hk
      have VR := V2.below ((Below.refl _ w2).alloc (Nat.le_refl _) (Obj.cells #[Value.int IntKind.i64 (kd X), Value.int IntKind.i64 (P + 8), Value.int IntKind.i64 (P + 8 + ln X)] 109)) (Nat.le_refl _)
      have VP := var3_new w2 (kd X) (P + 8) (P + 8 + ln X)
      have BW := B2.out.trans (((Below.refl _ w2).alloc (Nat.le_refl _) (Obj.cells #[Value.int IntKind.i64 (kd X), Value.int IntKind.i64 (P + 8), Value.int IntKind.i64 (P + 8 + ln X)] 109)).mono B2.out.size)
      have HV := hide V2
      clear V2
      obtain ⟨q0, q1, q2, f0, f1, f2⟩ := HV.out
      go_wp2_with fail
      refine (next_any _ _ _ _ (by omega) (by omega)).mono ?_
      rintro e w3 ⟨rfl, hb3⟩
      have VR3 := VR.below hb3 (Nat.le_refl _)
      have VP3 := VP.below hb3 (Nat.le_refl _)
      have B3 := hide (BW.trans (hb3.mono BW.size))
      clear hb3 VR VP BW q0 q1 q2 f0 f1 f2 HV
      by_cases hl : X.length < (ln X).toNat + 12
      · have H5 := hide (show ce X = 4 by rw [HC2.out, if_pos hl])
        have HP := hide (show cp X P = pl 0 0 0 by unfold cp; rw [if_neg (by rw [H5.out]; decide)])
        have B4 := hide (((B3.out.setCell (p := ⟨w.heap.size, 0, none⟩) (Nat.le_refl _) (.int .i64 0)).setCell (p := ⟨w.heap.size, 1, none⟩) (Nat.le_refl _) (.int .i64 0)).setCell (p := ⟨w.heap.size, 2, none⟩) (Nat.le_refl _) (.int .i64 0))
        have V4 := hide (var3_set VR3 0 0 0)
        obtain ⟨q0, q1, q2, f0, f1, f2⟩ := VR3
        have hgt : ¬ ((P : Int) + 8 + ln X + 4 ≤ (len : Int)) := by omega
        clear C3 HC2
        go_wp2
        refine bodyPost_ret (var3_results V4.out _ rfl rfl) rfl ⟨B4.out, by rw [HP.out, H5.out]⟩
      · have H5 := hide (show ce X = be X by rw [HC2.out, if_neg hl])
        have c3 := C3 (by omega)
        clear C3 HC2
        have hle : (P : Int) + 8 + ln X + 4 ≤ (len : Int) := by omega
        have HP := hide (show cp X P = if be X = 0 then pl (kd X) (P + 8) (P + 8 + ln X) else pl 0 0 0 by unfold cp; rw [H5.out])
        generalize be X = E at *
        generalize kd X = K at *
        generalize ln X = L at *
        obtain ⟨N, rfl⟩ := Int.eq_ofNat_of_zero_le hlr.1
        simp only [Int.toNat_natCast] at c3
        have HVP := hide (fun W (hW : Below w3.heap.size w3 W) => VP3.below hW (Nat.le_refl _))
        have HVR := hide (fun W (hW : Below w3.heap.size w3 W) => VR3.below hW (Nat.le_refl _))
        have cN : Hid (∀ W, Below w3.heap.size w3 W → Calls Try.prog 58 #[.agg #[.int .i64 K, .int .i64 ((P : Int) + 8), .int .i64 ((P : Int) + 8 + N)]] W fun e w' => e = .returned (.int .i64 ((P : Int) + 8 + N + 4)) ∧ Below w3.heap.size w3 w') := hide fun W hW => (next_any K _ _ W (by omega) (by omega)).mono fun e w' ⟨he, hb⟩ => ⟨he, hW.trans (hb.mono hW.size)⟩
        have cO : Hid (∀ W (m : Nat), m = N + 4 → Below w3.heap.size w3 W → Calls Try.prog 70 #[.slice (some ⟨b, off + (P + 8), none⟩) m (cap - (P + 8))] W fun e w' => ∃ v, e = .returned (.tuple #[v, .int .i64 E]) ∧ Below w3.heap.size w3 w') := hide fun W m hm hW => by
          subst hm
          exact (c3.out W (B3.out.trans (hW.mono B3.out.size))).mono fun e w' ⟨hb, v, he⟩ => ⟨v, he, hW.trans (hb.mono hW.size)⟩
        have hcc : (P : Int) + 8 + N + 4 ≤ (cap : Int) := by omega
        have hlh : (P : Int) + 8 ≤ (P : Int) + 8 + N + 4 := by omega
        have hne : ¬ cap = P + 8 := by omega
        obtain ⟨p0, p1, p2, g0, g1, g2⟩ := VP3
        have hb0 : Below w3.heap.size w3 w3 := Below.refl _ _
        clear VR3 c3
        go_wp2_with fail
        go_region_held_law (fun W => Below w3.heap.size w3 W ∧ W.cell? ⟨w2.heap.size, 0, none⟩ = some (.int .i64 K) ∧ W.cell? ⟨w2.heap.size, 1, none⟩ = some (.int .i64 ((P : Int) + 8)) ∧ W.cell? ⟨w2.heap.size, 2, none⟩ = some (.int .i64 ((P : Int) + 8 + N)))
          (first | exact ⟨by assumption, (HVP.out _ (by assumption)).1, (HVP.out _ (by assumption)).2.1, (HVP.out _ (by assumption)).2.2.1⟩ | exact ⟨Below.drew (by assumption), (HVP.out _ (Below.drew (by assumption))).1, (HVP.out _ (Below.drew (by assumption))).2.1, (HVP.out _ (Below.drew (by assumption))).2.2.1⟩)
          (first
          | (go_at_call 58; refine (cN.out _ (And.left (by assumption))).mono ?_; rintro e w' ⟨rfl, hb⟩)
          | (go_at_call 70; refine (cO.out _ _ (by omega) (And.left (by assumption))).mono ?_; rintro e w' ⟨v, rfl, hb⟩))
        all_goals
          have VR := HVR.out _ hb
          have VP := HVP.out _ hb
          have BB := hide (B3.out.trans (hb.mono B3.out.size))
          clear hb hb0 HVP HVR cN cO p0 p1 p2 g0 g1 g2
          by_cases hE : E = 0
          · have HQ := hide (show cp X P = pl K (P + 8) (P + 8 + N) by rw [HP.out, if_pos hE])
            have H0 := hide (show ce X = 0 by rw [H5.out]; exact hE)
            have V4 := hide (var3_set VR K (P + 8) (P + 8 + N))
            have B4 := hide (((BB.out.setCell (p := ⟨w.heap.size, 0, none⟩) (Nat.le_refl _) (.int .i64 K)).setCell (p := ⟨w.heap.size, 1, none⟩) (Nat.le_refl _) (.int .i64 (P + 8))).setCell (p := ⟨w.heap.size, 2, none⟩) (Nat.le_refl _) (.int .i64 (P + 8 + N)))
            obtain ⟨q0, q1, q2, f0, f1, f2⟩ := VR
            obtain ⟨p0, p1, p2, g0, g1, g2⟩ := VP
            clear HP H5
            go_wp2
            refine bodyPost_ret (var3_results V4.out _ rfl rfl) rfl ⟨B4.out, by rw [HQ.out, H0.out]⟩
          · have HQ := hide (show cp X P = pl 0 0 0 by rw [HP.out, if_neg hE])
            have V4 := hide (var3_set VR 0 0 0)
            have B4 := hide (((BB.out.setCell (p := ⟨w.heap.size, 0, none⟩) (Nat.le_refl _) (.int .i64 0)).setCell (p := ⟨w.heap.size, 1, none⟩) (Nat.le_refl _) (.int .i64 0)).setCell (p := ⟨w.heap.size, 2, none⟩) (Nat.le_refl _) (.int .i64 0))
            obtain ⟨q0, q1, q2, f0, f1, f2⟩ := VR
            obtain ⟨p0, p1, p2, g0, g1, g2⟩ := VP
            clear HP
            go_wp2
            refine bodyPost_ret (var3_results V4.out _ rfl rfl) rfl ⟨B4.out, by rw [HQ.out, H5.out]⟩
  · have hcp : cp X P = pl 0 0 0 := by unfold cp; rw [if_neg (by rw [HC.out, if_pos h1]; exact h1)]
    have hc5 : ce X = he X := by rw [HC.out, if_pos h1]
    have HP := hide hcp
    have H5 := hide hc5
    have V2 := var3_set V1 0 0 0
    clear C2 C3 HC hcp hc5
    generalize he X = E at *
    obtain ⟨q0, q1, q2, f0, f1, f2⟩ := V1
    go_wp2
    have B2 := hide (((B1.out.setCell (p := ⟨w.heap.size, 0, none⟩) (Nat.le_refl _) (.int .i64 0)).setCell (p := ⟨w.heap.size, 1, none⟩) (Nat.le_refl _) (.int .i64 0)).setCell (p := ⟨w.heap.size, 2, none⟩) (Nat.le_refl _) (.int .i64 0))
    refine bodyPost_ret (var3_results V2 _ rfl rfl) rfl ⟨B2.out, by rw [HP.out, H5.out]⟩

theorem check_any (ao : Option Addr) (len cap : Nat) (zs : List Int) (P : Nat) (w : World) (hm : len ≤ 70368744177664) (h : Bs w ao len cap zs) (hP : P ≤ len) :
    Calls Try.prog 56 #[.slice ao len cap, .int .i64 P] w fun e w' => Below w.heap.size w w' ∧ e = .returned (.tuple #[cp (zs.drop P) P, .int .i64 (ce (zs.drop P))]) := by
  by_cases h8 : len < P + 8
  · have hc : ce (zs.drop P) = 4 := by unfold ce; rw [if_pos (by rw [List.length_drop, h.1]; omega)]
    have hp : cp (zs.drop P) P = pl 0 0 0 := by unfold cp; rw [hc]; rfl
    rw [hc, hp]
    exact check_short ao len cap P w hm hP h8
  · obtain ⟨b, off, rfl, _⟩ := h.2.2.2 (by omega)
    exact check_long b off len cap zs P w hm h (by omega) _ rfl

end Go.Proofs.Ytgopcaemgcnapaa.Clep
