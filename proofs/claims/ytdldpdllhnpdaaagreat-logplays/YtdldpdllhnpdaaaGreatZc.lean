/- What frame.Put does when called (a walk over the translated program): for any bytes of at most 2^45, any kind, any body. -/
import Derived.Test.YtdldpdllhnpdaaaGreatZb
import Derived.Deep.RegionHeldLaw
namespace Go.Proofs.YtdldpdllhnpdaaaGreat.Clep
open Go.RowKit
set_option linter.unusedVariables false
set_option maxRecDepth 10000

/-- A head. -/
def hd (k : Int) (n : Nat) : List Int := [k, ((n / 65536 : Nat) : Int), ((n / 256 : Nat) : Int), ((n % 256 : Nat) : Int)]
/-- A frame. -/
def fr (k : Int) (ys : List Int) : List Int := sl (hd k ys.length) ++ sl ys
theorem hd_len (k : Int) (n : Nat) : (hd k n).length = 4 := rfl
theorem hd_range (k : Int) (n : Nat) (h0 : 1 ≤ k) (h1 : k ≤ 100) (hn : n ≤ 60000) : ByteL (hd k n) := by
  intro z hz
  simp only [hd, List.mem_cons, List.not_mem_nil, or_false] at hz
  omega
theorem fr_len (k : Int) (ys : List Int) : (fr k ys).length = ys.length + 12 := by
  unfold fr; rw [List.length_append, sl_len, sl_len, hd_len]; omega
theorem fr_range (k : Int) (ys : List Int) (h0 : 1 ≤ k) (h1 : k ≤ 100) (hn : ys.length ≤ 60000) (h : ByteL ys) : ByteL (fr k ys) :=
  ByteL.append (sl_range _ (hd_range k _ h0 h1 hn)) (sl_range _ h)

theorem fput_arg (a0 a2 : Option Addr) (len0 cap0 len2 cap2 : Nat) (k : Int) (w : World) (hk : k < 1 ∨ 100 < k) :
    Calls Tryz.prog 52 #[.slice a0 len0 cap0, .int .i64 k, .slice a2 len2 cap2] w fun e w' => e = .returned (.tuple #[.slice none 0 0, .int .i64 1]) ∧ w' = w := by
  go_enter Tryz.func52, Tryz.ntmps52
  rcases hk with hk | hk
  · go_wp2
    go_ret2
    exact ⟨rfl, rfl⟩
  · have hk2 : ¬ k < 1 := by omega
    go_wp2
    go_ret2
    exact ⟨rfl, rfl⟩
theorem fput_long (a0 a2 : Option Addr) (len0 cap0 len2 cap2 : Nat) (k : Int) (w : World) (hk : 1 ≤ k) (hk2 : k ≤ 100) (hl : 60000 < len2) (hm : len2 ≤ 70368744177664) :
    Calls Tryz.prog 52 #[.slice a0 len0 cap0, .int .i64 k, .slice a2 len2 cap2] w fun e w' => e = .returned (.tuple #[.slice none 0 0, .int .i64 2]) ∧ w' = w := by
  have hn1 : ¬ k < 1 := by omega
  have hn2 : ¬ 100 < k := by omega
  go_enter Tryz.func52, Tryz.ntmps52
  go_wp2
  go_ret2
  exact ⟨rfl, rfl⟩

set_option maxHeartbeats 400000 in
theorem fput_any (a0 a2 : Option Addr) (len0 cap0 len2 cap2 : Nat) (zs ys : List Int) (k : Int) (w : World) (hk : 1 ≤ k) (hk2 : k ≤ 100) (hl : len2 ≤ 60000) (hm : len0 ≤ 35184372088832) (h0 : Bs w a0 len0 cap0 zs) (h2 : Bs w a2 len2 cap2 ys) :
    Calls Tryz.prog 52 #[.slice a0 len0 cap0, .int .i64 k, .slice a2 len2 cap2] w fun e w' => ∃ v, e = .returned (.tuple #[v, .int .i64 0]) ∧ Own w' w.heap.size v (zs ++ fr k ys) ∧ Below w.heap.size w w' := by
  obtain ⟨i0, hi, hz0, hz1, hz2⟩ := info_parts info5
  have hn1 : ¬ k < 1 := by omega
  have hn2 : ¬ 100 < k := by omega
  have l0 := h0.1
  have l2 := h2.1
  have H0 := hide (fun W (hW : Below w.heap.size w W) => h0.below hW (Nat.le_refl _))
  have H2 := hide (fun W (hW : Below w.heap.size w W) => h2.below hW (Nat.le_refl _))
  have HH := hide (hd_range k len2 hk hk2 hl)
  have HA := hide (show #[Value.int IntKind.u8 k, Value.int IntKind.u8 ((len2 : Int) / 65536), Value.int IntKind.u8 ((len2 : Int) / 256), Value.int IntKind.u8 ((len2 : Int) % 256)] = (bv (hd k len2)).toArray by
    simp [bv, hd])
  clear h0 h2
  go_enter Tryz.func52, Tryz.ntmps52
  go_wp2_with (first
    | (at_make; refine wpList_make_own _ rfl _ _ 40 rfl (w.heap.size + 1) 5 i0 (.int .u8 0) 1 Tryz.underlying40 hi hz0 hz1 .i64 .i64 _ (len0 + 8 + len2 + 4) rfl rfl ?c1 ?c2 ?c3 ?c4 ?_)
    | fail)
  case c2 => omega
  case c3 => unfold maxLen; omega
  intro w1 hown hg
  have hs1 : (w.alloc (Obj.cells #[Value.int IntKind.u8 k, Value.int IntKind.u8 ((len2 : Int) / 65536), Value.int IntKind.u8 ((len2 : Int) / 256), Value.int IntKind.u8 ((len2 : Int) % 256)] 5)).heap.size = w.heap.size + 1 := by simp
  have hA : Below w.heap.size w (w.alloc (Obj.cells #[Value.int IntKind.u8 k, Value.int IntKind.u8 ((len2 : Int) / 65536), Value.int IntKind.u8 ((len2 : Int) / 256), Value.int IntKind.u8 ((len2 : Int) % 256)] 5)) := (Below.refl _ w).alloc (Nat.le_refl _) _
  have hD := bs_newL w (hd k len2) HH.out _ HA.out 4 rfl (0, 0)
  have HO1 := hide (show Own w1 (w.heap.size + 1) _ [] from hown)
  generalize w.alloc (Obj.cells #[Value.int IntKind.u8 k, Value.int IntKind.u8 ((len2 : Int) / 65536), Value.int IntKind.u8 ((len2 : Int) / 256), Value.int IntKind.u8 ((len2 : Int) % 256)] 5) = W0 at *
  have HS0 := hide hs1
  have HDK := hide (fun W (hW : Below (w.heap.size + 1) W0 W) => hD.below hW (by rw [hs1]; exact Nat.le_refl _))
  have HBK := hide (fun W (hW : Below (w.heap.size + 1) W0 W) => hA.trans (hW.mono (Nat.le_succ _)))
  have hb1 := (Below.refl (w.heap.size + 1) W0).grown hg (by rw [hs1]; exact Nat.le_refl _) (fun k hk => by cases hk)
  have HSK := hide (fun W (hW : Below (w.heap.size + 1) W0 W) => show w.heap.size + 1 ≤ W.heap.size by have := hW.size; rwa [hs1] at this)
  have HB1 := hide hb1
  clear hown hg hb1 hD HA hA hs1
  go_wp2_with (first
    | (at_builtin; refine wpList_append_bytes rfl _ _ rfl (w.heap.size + 1) _ [] rfl HO1.out a0 len0 cap0 zs rfl (H0.out _ (HBK.out _ HB1.out)) ?d1 ?d2 ?_)
    | fail)
  case d1 => simp; omega
  case d2 => exact HSK.out _ HB1.out
  intro v2 w2 ho2 hb2
  have HB2 := hide (HB1.out.trans hb2)
  have HO2 := hide (show Own w2 (w.heap.size + 1) v2 zs from ho2)
  clear ho2 hb2 HO1 HB1
  go_wp2_with fail
  refine (seal_any _ 4 4 (hd k len2) w2 (by omega) (HDK.out _ HB2.out)).mono ?_
  rintro e w3 ⟨v3, rfl, ho3, hb3⟩
  obtain ⟨g3, c3, rfl, -, -, hbs3⟩ := own_at ho3 (sl_range _ HH.out) 8 (by rw [sl_len, hd_len]) (by omega)
  have HO3 := hide (own_keep HO2.out hb3)
  have HB3 := hide (HB2.out.trans (hb3.mono (HSK.out _ HB2.out)))
  have HS3 := hide hbs3
  clear ho3 hb3 hbs3 HO2
  go_wp2_with (first
    | (at_builtin; refine wpList_append_bytes rfl _ _ rfl (w.heap.size + 1) _ zs rfl HO3.out _ 8 c3 _ rfl HS3.out ?e1 ?e2 ?_)
    | fail)
  case e1 => omega
  case e2 => exact HSK.out _ HB3.out
  intro v4 w4 ho4 hb4
  have HB4 := hide (HB3.out.trans hb4)
  have HO4 := hide ho4
  clear ho4 hb4 HO3 HB3 HS3
  go_wp2_with fail
  refine (seal_any a2 len2 cap2 ys w4 (by omega) (H2.out _ (HBK.out _ HB4.out))).mono ?_
  rintro e w5 ⟨v5, rfl, ho5, hb5⟩
  obtain ⟨g5, c5, rfl, -, -, hbs5⟩ := own_at ho5 (sl_range _ (bs_range (H2.out _ (Below.refl _ w)))) (len2 + 4) (by rw [sl_len, l2]) (by omega)
  have HO5 := hide (own_keep HO4.out hb5)
  have HB5 := hide (HB4.out.trans (hb5.mono (HSK.out _ HB4.out)))
  have HS5 := hide hbs5
  clear ho5 hb5 hbs5 HO4
  go_wp2_with (first
    | (at_builtin; refine wpList_append_bytes rfl _ _ rfl (w.heap.size + 1) _ (zs ++ sl (hd k len2)) rfl HO5.out _ (len2 + 4) c5 _ rfl HS5.out ?f1 ?f2 ?_)
    | fail)
  case f1 => rw [List.length_append, sl_len, hd_len]; omega
  case f2 => exact HSK.out _ HB5.out
  intro v6 w6 ho6 hb6
  have HB6 := hide (HBK.out _ (HB5.out.trans hb6))
  have HO6 := hide ho6
  clear ho6 hb6 HO5 HB5 HS5
  go_wp2
  go_ret2
  exact ⟨_, rfl, by unfold fr; rw [l2]; exact own_base HO6.out (Nat.le_succ _), HB6.out⟩

end Go.Proofs.YtdldpdllhnpdaaaGreat.Clep

/- What frame.check does when called (a walk over the translated program): for any bytes of at most 2^46, any place in them. -/
namespace Go.Proofs.YtdldpdllhnpdaaaGreat.Clep
open Go.RowKit
set_option linter.unusedVariables false
set_option maxRecDepth 10000

/-- What a row of bytes begins with, read as a head: its kind and its length. -/
def kd (X : List Int) : Int := X.getD 0 0
def ln (X : List Int) : Int := X.getD 1 0 * 65536 + X.getD 2 0 * 256 + X.getD 3 0
def he (X : List Int) : Int := if nn ((X.take 8).drop 4) = crc ((X.take 8).take 4) then 0 else 5
def bd (X : List Int) : List Int := (X.take ((ln X).toNat + 12)).drop 8
def be (X : List Int) : Int := if nn ((bd X).drop (ln X).toNat) = crc ((bd X).take (ln X).toNat) then 0 else 5
/-- The error of the frame that X begins with. -/
def ce (X : List Int) : Int :=
  if X.length < 8 then 4 else if he X ≠ 0 then he X else if kd X < 1 ∨ 100 < kd X ∨ 60000 < ln X then 3 else if X.length < (ln X).toNat + 12 then 4 else be X
/-- The place of the frame that X begins with, P being X's own. -/
def cp (X : List Int) (P : Nat) : Value := if ce X = 0 then pl (kd X) (P + 8) (P + 8 + ln X) else pl 0 0 0

theorem ln_range (X : List Int) (h : ∀ i, 0 ≤ X.getD i 0 ∧ X.getD i 0 < 256) : 0 ≤ ln X ∧ ln X < 16777216 := by
  have := h 1; have := h 2; have := h 3
  unfold ln; omega
theorem getD_drop (zs : List Int) (P k : Nat) : (zs.drop P).getD k 0 = zs.getD (P + k) 0 := by simp [List.getD]

theorem open_err (ao : Option Addr) (len cap : Nat) (zs : List Int) (n : Nat) (w : World) (hm : len ≤ 70368744177664) (hn : len = n + 4) (h : Bs w ao len cap zs) :
    Calls Tryz.prog 98 #[.slice ao len cap] w fun e w' => Below w.heap.size w w' ∧ ∃ v, e = .returned (.tuple #[v, .int .i64 (if nn (zs.drop n) = crc (zs.take n) then 0 else 5)]) := by
  obtain ⟨b, off, rfl, _⟩ := h.2.2.2 (by omega)
  refine (open_long b off len cap zs w n hn hm h).mono ?_
  rintro e w1 ⟨hb, ⟨hg, v, he, _⟩ | ⟨hg, he⟩⟩
  · exact ⟨hb, v, by rw [he, if_pos (show nn (zs.drop n) = crc (zs.take n) from hg)]⟩
  · exact ⟨hb, _, by rw [he, if_neg (show ¬ nn (zs.drop n) = crc (zs.take n) from hg)]⟩

theorem check_short (ao : Option Addr) (len cap : Nat) (P : Nat) (w : World) (hm : len ≤ 70368744177664) (hP : P ≤ len) (h8 : len < P + 8) :
    Calls Tryz.prog 78 #[.slice ao len cap, .int .i64 P] w fun e w' => Below w.heap.size w w' ∧ e = .returned (.tuple #[pl 0 0 0, .int .i64 4]) := by
  go_enter Tryz.func78, Tryz.ntmps78
  go_wp2
  refine bodyPost_ret (v := .tuple #[pl 0 0 0, .int .i64 4]) (by simp [results, Tryz.results78, go_sem, pl]) rfl ⟨?_, rfl⟩
  exact (Below.refl _ w).alloc (Nat.le_refl _) _

/-- A variable of three numbers in a block of its own. -/
def Var3 (w : World) (R : Nat) (x y z : Int) : Prop := w.cell? ⟨R, 0, none⟩ = some (.int .i64 x) ∧ w.cell? ⟨R, 1, none⟩ = some (.int .i64 y) ∧ w.cell? ⟨R, 2, none⟩ = some (.int .i64 z) ∧
  w.frozen? ⟨R, 0, none⟩ = false ∧ w.frozen? ⟨R, 1, none⟩ = false ∧ w.frozen? ⟨R, 2, none⟩ = false
theorem var3_new (w : World) (x y z : Int) : Var3 (w.alloc (Obj.cells #[Value.int IntKind.i64 x, Value.int IntKind.i64 y, Value.int IntKind.i64 z] 118)) w.heap.size x y z := by
  unfold Var3; simp [go_sem]
theorem Var3.below {w w' : World} {R B : Nat} {x y z : Int} (h : Var3 w R x y z) (hb : Below B w w') (hB : w.heap.size ≤ B) : Var3 w' R x y z := by
  have hR : R < B := Nat.lt_of_lt_of_le (World.block_lt_of_cell? w _ h.1) hB
  obtain ⟨h0, h1, h2, f0, f1, f2⟩ := h
  exact ⟨(hb.cell (p := ⟨R, 0, none⟩) hR).trans h0, (hb.cell (p := ⟨R, 1, none⟩) hR).trans h1, (hb.cell (p := ⟨R, 2, none⟩) hR).trans h2,
    (hb.frozen (p := ⟨R, 0, none⟩) hR).trans f0, (hb.frozen (p := ⟨R, 1, none⟩) hR).trans f1, (hb.frozen (p := ⟨R, 2, none⟩) hR).trans f2⟩

theorem var3_set {w : World} {R : Nat} {a b c : Int} (h : Var3 w R a b c) (x y z : Int) :
    Var3 (((w.setCell ⟨R, 0, none⟩ (.int .i64 x)).setCell ⟨R, 1, none⟩ (.int .i64 y)).setCell ⟨R, 2, none⟩ (.int .i64 z)) R x y z := by
  obtain ⟨h0, h1, h2, f0, f1, f2⟩ := h
  have n01 : (⟨R, 0, none⟩ : Addr) ≠ ⟨R, 1, none⟩ := by simp
  have n02 : (⟨R, 0, none⟩ : Addr) ≠ ⟨R, 2, none⟩ := by simp
  have n12 : (⟨R, 1, none⟩ : Addr) ≠ ⟨R, 2, none⟩ := by simp
  refine ⟨?_, ?_, ?_, by simpa using f0, by simpa using f1, by simpa using f2⟩
  · rw [World.cell?_setCell_other (h := n02.symm), World.cell?_setCell_other (h := n01.symm), World.cell?_setCell_same (h := h0)]
  · rw [World.cell?_setCell_other (h := n12.symm), World.cell?_setCell_same (h := show _ = some (Value.int .i64 b) by rw [World.cell?_setCell_other (h := n01)]; exact h1)]
  · rw [World.cell?_setCell_same (h := show _ = some (Value.int .i64 c) by rw [World.cell?_setCell_other (h := n12), World.cell?_setCell_other (h := n02)]; exact h2)]
theorem var3_results {w : World} {R : Nat} {x y z e : Int} (h : Var3 w R x y z) (ts : Array Value) (h4 : ts.getD 4 undef = .pointer (some ⟨R, 0, none⟩)) (h5 : ts.getD 5 undef = .int .i64 e) :
    (results Tryz.f78 ts).run Tryz.prog w = .ok (.tuple #[pl x y z, .int .i64 e]) w := by
  obtain ⟨h0, h1, h2, _⟩ := h
  rw [Array.getD_eq_getD_getElem?] at h4 h5
  simp [results, Tryz.results78, go_sem, pl, h0, h1, h2, h4, h5]

set_option maxHeartbeats 400000 in
theorem check_long (b off len cap : Nat) (zs : List Int) (P : Nat) (w : World) (hm : len ≤ 70368744177664) (h : Bs w (some ⟨b, off, none⟩) len cap zs) (hP : P + 8 ≤ len) (X : List Int) (hX : X = zs.drop P) :
    Calls Tryz.prog 78 #[.slice (some ⟨b, off, none⟩) len cap, .int .i64 P] w fun e w' => Below w.heap.size w w' ∧ e = .returned (.tuple #[cp X P, .int .i64 (ce X)]) := by
  have hcap := h.2.1.1
  have hXl : X.length = len - P := by rw [hX, List.length_drop, h.1]
  have hn8 : ¬ X.length < 8 := by omega
  have hlr := ln_range X (by rw [hX]; exact range_of (ByteL.drop (bs_range h) P))
  have C1 : Hid (∀ W, Below w.heap.size w W → Calls Tryz.prog 98 #[.slice (some ⟨b, off + P, none⟩) 8 (cap - P)] W fun e w' => Below W.heap.size W w' ∧ ∃ v, e = .returned (.tuple #[v, .int .i64 (he X)])) := hide fun W hW => by
    have := ((h.below hW (Nat.le_refl _)).takeAt (P + 8) hP).dropAt P (by omega)
    rw [show P + 8 - P = 8 from by omega, show (zs.take (P + 8)).drop P = X.take 8 from by rw [hX, List.drop_take, show P + 8 - P = 8 from by omega]] at this
    exact open_err _ 8 _ _ 4 W (by omega) rfl this
  have C2 : Hid (∀ W, Below w.heap.size w W → Calls Tryz.prog 63 #[.slice (some ⟨b, off, none⟩) len cap, .int .i64 P] W fun e w' => e = .returned (pl (kd X) (P + 8) (P + 8 + ln X)) ∧ Below W.heap.size W w') := hide fun W hW => by
    have := fread_any b off len cap zs P W hm (h.below hW (Nat.le_refl _)) P rfl hP
    unfold kd ln
    rw [hX]
    simp only [getD_drop, Nat.add_zero]
    exact this
  have C3 : (ln X).toNat + 12 ≤ len - P → Hid (∀ W, Below w.heap.size w W → Calls Tryz.prog 98 #[.slice (some ⟨b, off + (P + 8), none⟩) ((ln X).toNat + 4) (cap - (P + 8))] W fun e w' => Below W.heap.size W w' ∧ ∃ v, e = .returned (.tuple #[v, .int .i64 (be X)])) := fun hl => hide fun W hW => by
    have := ((h.below hW (Nat.le_refl _)).takeAt (P + ((ln X).toNat + 12)) (by omega)).dropAt (P + 8) (by omega)
    rw [show P + ((ln X).toNat + 12) - (P + 8) = (ln X).toNat + 4 from by omega, show (zs.take (P + ((ln X).toNat + 12))).drop (P + 8) = bd X from by
      unfold bd; rw [hX, ← List.drop_drop, List.drop_take, show P + ((ln (zs.drop P)).toNat + 12) - P = (ln (zs.drop P)).toNat + 12 from by omega]] at this
    exact open_err _ _ _ _ (ln X).toNat W (by omega) rfl this
  have hce : ce X = if he X ≠ 0 then he X else if kd X < 1 ∨ 100 < kd X ∨ 60000 < ln X then 3 else if X.length < (ln X).toNat + 12 then 4 else be X := by unfold ce; rw [if_neg hn8]
  have HC := hide hce
  have hP8 : (P : Int) + 8 ≤ (cap : Int) := by omega
  clear h hce hX
  go_enter Tryz.func78, Tryz.ntmps78
  go_wp2_with fail
  refine (C1.out _ ((Below.refl _ w).alloc (Nat.le_refl _) _)).mono ?_
  rintro e w1 ⟨hb1, v1, rfl⟩
  have V1 := (var3_new w 0 0 0).below hb1 (Nat.le_refl _)
  have B1 := hide (((Below.refl w.heap.size w).alloc (Nat.le_refl _) _).trans (hb1.mono (by simp)))
  clear hb1 C1
  unfold pl at C2
  by_cases h1 : he X = 0
  · have HC1 := hide (show ce X = if kd X < 1 ∨ 100 < kd X ∨ 60000 < ln X then 3 else if X.length < (ln X).toNat + 12 then 4 else be X by rw [HC.out, if_neg (by simp [h1])])
    clear HC
    go_wp2_with fail
    refine (C2.out _ B1.out).mono ?_
    rintro e w2 ⟨rfl, hb2⟩
    have V2 := V1.below hb2 (Nat.le_refl _)
    have B2 := hide (B1.out.trans (hb2.mono B1.out.size))
    have hsz : w.heap.size < w2.heap.size := World.block_lt_of_cell? w2 _ V2.1
    clear hb2 V1 C2 h1
    by_cases hk : kd X < 1 ∨ 100 < kd X ∨ 60000 < ln X
    · have H5 := hide (show ce X = 3 by rw [HC1.out, if_pos hk])
      have HP := hide (show cp X P = pl 0 0 0 by unfold cp; rw [if_neg (by rw [H5.out]; decide)])
      have B3 := (((B2.out.setCell (p := ⟨w.heap.size, 0, none⟩) (Nat.le_refl _) (.int .i64 0)).setCell (p := ⟨w.heap.size, 1, none⟩) (Nat.le_refl _) (.int .i64 0)).setCell (p := ⟨w.heap.size, 2, none⟩) (Nat.le_refl _) (.int .i64 0))
      have B4 := hide (B3.alloc B3.size (Obj.cells #[Value.int IntKind.i64 (kd X), Value.int IntKind.i64 (P + 8), Value.int IntKind.i64 (P + 8 + ln X)] 118))
      have V4 := hide ((var3_set V2 0 0 0).below ((Below.refl _ _).alloc (Nat.le_refl _) (Obj.cells #[Value.int IntKind.i64 (kd X), Value.int IntKind.i64 (P + 8), Value.int IntKind.i64 (P + 8 + ln X)] 118)) (Nat.le_refl _))
      clear B3
      obtain ⟨q0, q1, q2, f0, f1, f2⟩ := V2
      clear C3 HC1
      generalize kd X = K at *
      generalize ln X = N at *
      rcases hk with hk | hk | hk
      · go_wp2
        refine bodyPost_ret (var3_results V4.out _ rfl rfl) rfl ⟨B4.out, by rw [HP.out, H5.out]⟩
      · have hk2 : ¬ K < 1 := by omega
        go_wp2
        refine bodyPost_ret (var3_results V4.out _ rfl rfl) rfl ⟨B4.out, by rw [HP.out, H5.out]⟩
      · by_cases hk2 : K < 1
        · go_wp2
          refine bodyPost_ret (var3_results V4.out _ rfl rfl) rfl ⟨B4.out, by rw [HP.out, H5.out]⟩
        · by_cases hk3 : 100 < K
          · go_wp2
            refine bodyPost_ret (var3_results V4.out _ rfl rfl) rfl ⟨B4.out, by rw [HP.out, H5.out]⟩
          · go_wp2
            refine bodyPost_ret (var3_results V4.out _ rfl rfl) rfl ⟨B4.out, by rw [HP.out, H5.out]⟩
    · have HC2 := hide (show ce X = if X.length < (ln X).toNat + 12 then 4 else be X by rw [HC1.out, if_neg hk])
      have hk1 : ¬ kd X < 1 := by omega
      have hk2 : ¬ 100 < kd X := by omega
      have hk3 : ¬ 60000 < ln X := by omega
      clear HC1 hk
      have VR := V2.below ((Below.refl _ w2).alloc (Nat.le_refl _) (Obj.cells #[Value.int IntKind.i64 (kd X), Value.int IntKind.i64 (P + 8), Value.int IntKind.i64 (P + 8 + ln X)] 118)) (Nat.le_refl _)
      have VP := var3_new w2 (kd X) (P + 8) (P + 8 + ln X)
      have BW := B2.out.trans (((Below.refl _ w2).alloc (Nat.le_refl _) (Obj.cells #[Value.int IntKind.i64 (kd X), Value.int IntKind.i64 (P + 8), Value.int IntKind.i64 (P + 8 + ln X)] 118)).mono B2.out.size)
      have HV := hide V2
      clear V2
      obtain ⟨q0, q1, q2, f0, f1, f2⟩ := HV.out
      go_wp2_with fail
      refine (next_any _ _ _ _ (by omega) (by omega)).mono ?_
      rintro e w3 ⟨rfl, hb3⟩
      have VR3 := VR.below hb3 (Nat.le_refl _)
      have VP3 := VP.below hb3 (Nat.le_refl _)
      have B3 := hide (BW.trans (hb3.mono BW.size))
      clear hb3 VR VP BW q0 q1 q2 f0 f1 f2 HV
      by_cases hl : X.length < (ln X).toNat + 12
      · have H5 := hide (show ce X = 4 by rw [HC2.out, if_pos hl])
        have HP := hide (show cp X P = pl 0 0 0 by unfold cp; rw [if_neg (by rw [H5.out]; decide)])
        have B4 := hide (((B3.out.setCell (p := ⟨w.heap.size, 0, none⟩) (Nat.le_refl _) (.int .i64 0)).setCell (p := ⟨w.heap.size, 1, none⟩) (Nat.le_refl _) (.int .i64 0)).setCell (p := ⟨w.heap.size, 2, none⟩) (Nat.le_refl _) (.int .i64 0))
        have V4 := hide (var3_set VR3 0 0 0)
        obtain ⟨q0, q1, q2, f0, f1, f2⟩ := VR3
        have hgt : ¬ ((P : Int) + 8 + ln X + 4 ≤ (len : Int)) := by omega
        clear C3 HC2
        go_wp2
        refine bodyPost_ret (var3_results V4.out _ rfl rfl) rfl ⟨B4.out, by rw [HP.out, H5.out]⟩
      · have H5 := hide (show ce X = be X by rw [HC2.out, if_neg hl])
        have c3 := C3 (by omega)
        clear C3 HC2
        have hle : (P : Int) + 8 + ln X + 4 ≤ (len : Int) := by omega
        have HP := hide (show cp X P = if be X = 0 then pl (kd X) (P + 8) (P + 8 + ln X) else pl 0 0 0 by unfold cp; rw [H5.out])
        generalize be X = E at *
        generalize kd X = K at *
        generalize ln X = L at *
        obtain ⟨N, rfl⟩ := Int.eq_ofNat_of_zero_le hlr.1
        simp only [Int.toNat_natCast] at c3
        have HVP := hide (fun W (hW : Below w3.heap.size w3 W) => VP3.below hW (Nat.le_refl _))
        have HVR := hide (fun W (hW : Below w3.heap.size w3 W) => VR3.below hW (Nat.le_refl _))
        have cN : Hid (∀ W, Below w3.heap.size w3 W → Calls Tryz.prog 65 #[.agg #[.int .i64 K, .int .i64 ((P : Int) + 8), .int .i64 ((P : Int) + 8 + N)]] W fun e w' => e = .returned (.int .i64 ((P : Int) + 8 + N + 4)) ∧ Below w3.heap.size w3 w') := hide fun W hW => (next_any K _ _ W (by omega) (by omega)).mono fun e w' ⟨he, hb⟩ => ⟨he, hW.trans (hb.mono hW.size)⟩
        have cO : Hid (∀ W (m : Nat), m = N + 4 → Below w3.heap.size w3 W → Calls Tryz.prog 98 #[.slice (some ⟨b, off + (P + 8), none⟩) m (cap - (P + 8))] W fun e w' => ∃ v, e = .returned (.tuple #[v, .int .i64 E]) ∧ Below w3.heap.size w3 w') := hide fun W m hm hW => by
          subst hm
          exact (c3.out W (B3.out.trans (hW.mono B3.out.size))).mono fun e w' ⟨hb, v, he⟩ => ⟨v, he, hW.trans (hb.mono hW.size)⟩
        have hcc : (P : Int) + 8 + N + 4 ≤ (cap : Int) := by omega
        have hlh : (P : Int) + 8 ≤ (P : Int) + 8 + N + 4 := by omega
        have hne : ¬ cap = P + 8 := by omega
        obtain ⟨p0, p1, p2, g0, g1, g2⟩ := VP3
        have hb0 : Below w3.heap.size w3 w3 := Below.refl _ _
        clear VR3 c3
        go_wp2_with fail
        go_region_held_law (fun W => Below w3.heap.size w3 W ∧ W.cell? ⟨w2.heap.size, 0, none⟩ = some (.int .i64 K) ∧ W.cell? ⟨w2.heap.size, 1, none⟩ = some (.int .i64 ((P : Int) + 8)) ∧ W.cell? ⟨w2.heap.size, 2, none⟩ = some (.int .i64 ((P : Int) + 8 + N)))
          (first | exact ⟨by assumption, (HVP.out _ (by assumption)).1, (HVP.out _ (by assumption)).2.1, (HVP.out _ (by assumption)).2.2.1⟩ | exact ⟨Below.drew (by assumption), (HVP.out _ (Below.drew (by assumption))).1, (HVP.out _ (Below.drew (by assumption))).2.1, (HVP.out _ (Below.drew (by assumption))).2.2.1⟩)
          (first
          | (go_at_call 65; refine (cN.out _ (And.left (by assumption))).mono ?_; rintro e w' ⟨rfl, hb⟩)
          | (go_at_call 98; refine (cO.out _ _ (by omega) (And.left (by assumption))).mono ?_; rintro e w' ⟨v, rfl, hb⟩))
        all_goals
          have VR := HVR.out _ hb
          have VP := HVP.out _ hb
          have BB := hide (B3.out.trans (hb.mono B3.out.size))
          clear hb hb0 HVP HVR cN cO p0 p1 p2 g0 g1 g2
          by_cases hE : E = 0
          · have HQ := hide (show cp X P = pl K (P + 8) (P + 8 + N) by rw [HP.out, if_pos hE])
            have H0 := hide (show ce X = 0 by rw [H5.out]; exact hE)
            have V4 := hide (var3_set VR K (P + 8) (P + 8 + N))
            have B4 := hide (((BB.out.setCell (p := ⟨w.heap.size, 0, none⟩) (Nat.le_refl _) (.int .i64 K)).setCell (p := ⟨w.heap.size, 1, none⟩) (Nat.le_refl _) (.int .i64 (P + 8))).setCell (p := ⟨w.heap.size, 2, none⟩) (Nat.le_refl _) (.int .i64 (P + 8 + N)))
            obtain ⟨q0, q1, q2, f0, f1, f2⟩ := VR
            obtain ⟨p0, p1, p2, g0, g1, g2⟩ := VP
            clear HP H5
            go_wp2
            refine bodyPost_ret (var3_results V4.out _ rfl rfl) rfl ⟨B4.out, by rw [HQ.out, H0.out]⟩
          · have HQ := hide (show cp X P = pl 0 0 0 by rw [HP.out, if_neg hE])
            have V4 := hide (var3_set VR 0 0 0)
            have B4 := hide (((BB.out.setCell (p := ⟨w.heap.size, 0, none⟩) (Nat.le_refl _) (.int .i64 0)).setCell (p := ⟨w.heap.size, 1, none⟩) (Nat.le_refl _) (.int .i64 0)).setCell (p := ⟨w.heap.size, 2, none⟩) (Nat.le_refl _) (.int .i64 0))
            obtain ⟨q0, q1, q2, f0, f1, f2⟩ := VR
            obtain ⟨p0, p1, p2, g0, g1, g2⟩ := VP
            clear HP
            go_wp2
            refine bodyPost_ret (var3_results V4.out _ rfl rfl) rfl ⟨B4.out, by rw [HQ.out, H5.out]⟩
  · have hcp : cp X P = pl 0 0 0 := by unfold cp; rw [if_neg (by rw [HC.out, if_pos h1]; exact h1)]
    have hc5 : ce X = he X := by rw [HC.out, if_pos h1]
    have HP := hide hcp
    have H5 := hide hc5
    have V2 := var3_set V1 0 0 0
    clear C2 C3 HC hcp hc5
    generalize he X = E at *
    obtain ⟨q0, q1, q2, f0, f1, f2⟩ := V1
    go_wp2
    have B2 := hide (((B1.out.setCell (p := ⟨w.heap.size, 0, none⟩) (Nat.le_refl _) (.int .i64 0)).setCell (p := ⟨w.heap.size, 1, none⟩) (Nat.le_refl _) (.int .i64 0)).setCell (p := ⟨w.heap.size, 2, none⟩) (Nat.le_refl _) (.int .i64 0))
    refine bodyPost_ret (var3_results V2 _ rfl rfl) rfl ⟨B2.out, by rw [HP.out, H5.out]⟩

theorem check_any (ao : Option Addr) (len cap : Nat) (zs : List Int) (P : Nat) (w : World) (hm : len ≤ 70368744177664) (h : Bs w ao len cap zs) (hP : P ≤ len) :
    Calls Tryz.prog 78 #[.slice ao len cap, .int .i64 P] w fun e w' => Below w.heap.size w w' ∧ e = .returned (.tuple #[cp (zs.drop P) P, .int .i64 (ce (zs.drop P))]) := by
  by_cases h8 : len < P + 8
  · have hc : ce (zs.drop P) = 4 := by unfold ce; rw [if_pos (by rw [List.length_drop, h.1]; omega)]
    have hp : cp (zs.drop P) P = pl 0 0 0 := by unfold cp; rw [hc]; rfl
    rw [hc, hp]
    exact check_short ao len cap P w hm hP h8
  · obtain ⟨b, off, rfl, _⟩ := h.2.2.2 (by omega)
    exact check_long b off len cap zs P w hm h (by omega) _ rfl

end Go.Proofs.YtdldpdllhnpdaaaGreat.Clep

/- What frame.Take does when called (a walk over the translated program): for any bytes of at most 2^46, any place. -/
namespace Go.Proofs.YtdldpdllhnpdaaaGreat.Clep
open Go.RowKit
set_option linter.unusedVariables false
set_option maxRecDepth 10000

/-- The body of the frame that X begins with. -/
def bo (X : List Int) : List Int := (bd X).take (ln X).toNat
theorem ce_ok (X : List Int) (h : ce X = 0) : 8 ≤ X.length ∧ he X = 0 ∧ 1 ≤ kd X ∧ kd X ≤ 100 ∧ ln X ≤ 60000 ∧ (ln X).toNat + 12 ≤ X.length ∧ be X = 0 := by
  unfold ce at h
  split at h
  · cases h
  · split at h
    · rename_i h2; exact absurd h h2
    · split at h
      · cases h
      · split at h
        · cases h
        · rename_i h1 h2 h3 h4
          exact ⟨by omega, by simpa using h2, by omega, by omega, by omega, by omega, h⟩
theorem bo_len (X : List Int) (h : ce X = 0) : (bo X).length = (ln X).toNat := by
  have := ce_ok X h
  unfold bo bd
  rw [List.length_take, List.length_drop, List.length_take]
  omega
theorem bo_cut (zs : List Int) (P n : Nat) (hn : (ln (zs.drop P)).toNat = n) : (zs.take (P + 8 + n)).drop (P + 8) = bo (zs.drop P) := by
  unfold bo bd
  rw [hn, ← List.drop_drop, List.drop_take, show P + 8 + n - P = 8 + n from by omega, List.drop_take, show 8 + n - 8 = n from by omega, List.drop_take, show n + 12 - 8 = n + 4 from by omega, List.take_take, Nat.min_eq_left (by omega)]

end Go.Proofs.YtdldpdllhnpdaaaGreat.Clep

/- Frames as rows of bytes: what a row says that begins with a frame. -/
namespace Go.Proofs.YtdldpdllhnpdaaaGreat.Clep
open Go.RowKit
set_option linter.unusedVariables false
set_option maxRecDepth 10000

theorem fr_kd (k : Int) (ys r : List Int) : kd (fr k ys ++ r) = k := by simp [kd, fr, sl, hd]
theorem fr_ln (k : Int) (ys r : List Int) (hn : ys.length ≤ 60000) : ln (fr k ys ++ r) = ys.length := by
  simp only [ln, fr, sl, hd, List.cons_append, List.nil_append, List.getD_cons_succ, List.getD_cons_zero]
  omega
theorem fr_head (k : Int) (ys r : List Int) : (fr k ys ++ r).take 8 = sl (hd k ys.length) := by
  unfold fr
  rw [List.append_assoc, List.take_append_of_le_length (by rw [sl_len, hd_len]; omega), List.take_of_length_le (by rw [sl_len, hd_len]; omega)]
theorem fr_bd (k : Int) (ys r : List Int) (hn : ys.length ≤ 60000) : bd (fr k ys ++ r) = sl ys := by
  unfold bd
  rw [fr_ln k ys r hn, Int.toNat_natCast, List.take_append_of_le_length (by rw [fr_len]; omega), List.take_of_length_le (by rw [fr_len]; omega)]
  unfold fr
  rw [List.drop_append_of_le_length (by rw [sl_len, hd_len]; omega), List.drop_eq_nil_of_le (by rw [sl_len, hd_len]; omega), List.nil_append]
theorem fr_bo (k : Int) (ys r : List Int) (hn : ys.length ≤ 60000) : bo (fr k ys ++ r) = ys := by
  unfold bo
  rw [fr_bd k ys r hn, fr_ln k ys r hn, Int.toNat_natCast]
  unfold sl
  rw [List.take_left]
theorem fr_ce (k : Int) (ys r : List Int) (hk : 1 ≤ k) (hk2 : k ≤ 100) (hn : ys.length ≤ 60000) (hy : ByteL ys) : ce (fr k ys ++ r) = 0 := by
  have hg1 : nn ((sl (hd k ys.length)).drop 4) = crc ((sl (hd k ys.length)).take 4) := good_sl (hd k ys.length) (hd_range k _ hk hk2 hn)
  have hg2 : nn ((sl ys).drop ys.length) = crc ((sl ys).take ys.length) := good_sl ys hy
  have hh : he (fr k ys ++ r) = 0 := by unfold he; rw [fr_head, if_pos hg1]
  have hb : be (fr k ys ++ r) = 0 := by unfold be; rw [fr_bd k ys r hn, fr_ln k ys r hn, Int.toNat_natCast, if_pos hg2]
  unfold ce
  rw [if_neg (by rw [List.length_append, fr_len]; omega), if_neg (by simp [hh]), if_neg (by rw [fr_kd, fr_ln k ys r hn]; omega), if_neg (by rw [fr_ln k ys r hn, List.length_append, fr_len]; omega)]
  exact hb
theorem drop_app (zs r : List Int) (P : Nat) (h : zs.length = P) : (zs ++ r).drop P = r := by subst h; exact List.drop_left

end Go.Proofs.YtdldpdllhnpdaaaGreat.Clep

/- What a row of bytes says, frame behind frame, up to the first that is none. -/
namespace Go.Proofs.YtdldpdllhnpdaaaGreat.Clep
open Go.RowKit
set_option linter.unusedVariables false
set_option maxRecDepth 10000

/-- Frames from the front on, at most f of them: kinds and bodies, where the last ends, why. -/
def sp : Nat → List Int → List (Int × List Int) × Nat × Int
  | 0, _ => ([], 0, 0)
  | f + 1, X => if X = [] then ([], 0, 0) else if ce X = 0 then
      ((kd X, bo X) :: (sp f (X.drop ((ln X).toNat + 12))).1, (ln X).toNat + 12 + (sp f (X.drop ((ln X).toNat + 12))).2.1, (sp f (X.drop ((ln X).toNat + 12))).2.2)
    else ([], 0, ce X)
def SP (X : List Int) : List (Int × List Int) × Nat × Int := sp X.length X

theorem sp_succ (f : Nat) (X : List Int) : sp (f + 1) X = if X = [] then ([], 0, 0) else if ce X = 0 then
      ((kd X, bo X) :: (sp f (X.drop ((ln X).toNat + 12))).1, (ln X).toNat + 12 + (sp f (X.drop ((ln X).toNat + 12))).2.1, (sp f (X.drop ((ln X).toNat + 12))).2.2)
    else ([], 0, ce X) := rfl
theorem sp_fuel : ∀ (f g : Nat) (X : List Int), X.length ≤ f → X.length ≤ g → sp f X = sp g X
  | 0, 0, _, _, _ => rfl
  | 0, g + 1, X, hf, _ => by
    have : X = [] := List.eq_nil_of_length_eq_zero (by omega)
    subst this; simp [sp]
  | f + 1, 0, X, _, hg => by
    have : X = [] := List.eq_nil_of_length_eq_zero (by omega)
    subst this; simp [sp]
  | f + 1, g + 1, X, hf, hg => by
    have ih : X ≠ [] → sp f (X.drop ((ln X).toNat + 12)) = sp g (X.drop ((ln X).toNat + 12)) := fun hx => by
      have : 0 < X.length := List.length_pos_iff.2 hx
      exact sp_fuel f g _ (by rw [List.length_drop]; omega) (by rw [List.length_drop]; omega)
    rw [sp_succ, sp_succ]
    split
    · rfl
    · rename_i hx
      rw [ih hx]
theorem SP_nil : SP [] = ([], 0, 0) := rfl
theorem SP_bad (X : List Int) (hx : X ≠ []) (hc : ce X ≠ 0) : SP X = ([], 0, ce X) := by
  unfold SP
  obtain ⟨f, hf⟩ : ∃ f, X.length = f + 1 := ⟨X.length - 1, by have := List.length_pos_iff.2 hx; omega⟩
  rw [hf, sp_succ, if_neg hx, if_neg hc]
theorem SP_good (X : List Int) (hc : ce X = 0) : SP X = ((kd X, bo X) :: (SP (X.drop ((ln X).toNat + 12))).1, (ln X).toNat + 12 + (SP (X.drop ((ln X).toNat + 12))).2.1, (SP (X.drop ((ln X).toNat + 12))).2.2) := by
  have hk := ce_ok X hc
  have hx : X ≠ [] := fun h => by subst h; simp at hk
  obtain ⟨f, hf⟩ : ∃ f, X.length = f + 1 := ⟨X.length - 1, by omega⟩
  have e : SP (X.drop ((ln X).toNat + 12)) = sp f (X.drop ((ln X).toNat + 12)) := sp_fuel _ f _ (Nat.le_refl _) (by rw [List.length_drop]; omega)
  rw [e]
  unfold SP
  rw [hf, sp_succ, if_neg hx, if_pos hc]
theorem SP_front (k : Int) (ys r : List Int) (hk : 1 ≤ k) (hk2 : k ≤ 100) (hn : ys.length ≤ 60000) (hy : ByteL ys) :
    SP (fr k ys ++ r) = ((k, ys) :: (SP r).1, ys.length + 12 + (SP r).2.1, (SP r).2.2) := by
  rw [SP_good _ (fr_ce k ys r hk hk2 hn hy), fr_kd, fr_bo k ys r hn, fr_ln k ys r hn, Int.toNat_natCast, drop_app (fr k ys) r _ (fr_len k ys)]

/-- Behind j frames the place is P. -/
def At (zs : List Int) (j P : Nat) : Prop := P ≤ zs.length ∧ j ≤ P ∧ (SP zs).1.drop j = (SP (zs.drop P)).1 ∧ j ≤ (SP zs).1.length ∧ (SP zs).2.1 = P + (SP (zs.drop P)).2.1 ∧ (SP zs).2.2 = (SP (zs.drop P)).2.2
theorem At.start (zs : List Int) : At zs 0 0 := ⟨by omega, by omega, by simp, by omega, by simp, by simp⟩
theorem At.end {zs : List Int} {j P : Nat} (h : At zs j P) (hP : P = zs.length) : (SP zs).1.length = j ∧ (SP zs).2.1 = P ∧ (SP zs).2.2 = 0 := by
  obtain ⟨_, _, h1, h2, h3, h4⟩ := h
  rw [hP, List.drop_length, SP_nil] at h1 h3 h4
  have := List.drop_eq_nil_iff.1 h1
  exact ⟨by omega, by rw [h3, hP]; rfl, h4⟩
theorem At.stop {zs : List Int} {j P : Nat} (h : At zs j P) (hP : P < zs.length) (hc : ce (zs.drop P) ≠ 0) : (SP zs).1.length = j ∧ (SP zs).2.1 = P ∧ (SP zs).2.2 = ce (zs.drop P) := by
  obtain ⟨_, _, h1, h2, h3, h4⟩ := h
  have hx : zs.drop P ≠ [] := fun h => by have := List.drop_eq_nil_iff.1 h; omega
  rw [SP_bad _ hx hc] at h1 h3 h4
  have := List.drop_eq_nil_iff.1 h1
  exact ⟨by omega, by rw [h3]; rfl, h4⟩
theorem At.step {zs : List Int} {j P : Nat} (h : At zs j P) (hc : ce (zs.drop P) = 0) : At zs (j + 1) (P + ((ln (zs.drop P)).toNat + 12)) ∧ j < (SP zs).1.length ∧ (SP zs).1.getD j (0, []) = (kd (zs.drop P), bo (zs.drop P)) := by
  obtain ⟨hP, hj, h1, h2, h3, h4⟩ := h
  have hk := ce_ok _ hc
  rw [List.length_drop] at hk
  rw [SP_good _ hc, List.drop_drop] at h1 h3 h4
  have hlt : j < (SP zs).1.length := by
    rcases Nat.lt_or_ge j (SP zs).1.length with h | h
    · exact h
    · rw [List.drop_eq_nil_of_le h] at h1; cases h1
  rw [List.drop_eq_getElem_cons hlt] at h1
  injection h1 with h5 h6
  refine ⟨⟨by omega, by omega, h6, by omega, by rw [h3]; simp only []; omega, h4⟩, hlt, ?_⟩
  rw [List.getD, List.getElem?_eq_getElem hlt, Option.getD_some, h5]
theorem At.more {zs : List Int} {j P : Nat} (h : At zs j P) (hj : j < (SP zs).1.length) : ce (zs.drop P) = 0 := by
  rcases Classical.em (ce (zs.drop P) = 0) with h0 | h0
  · exact h0
  · have hP := h.1
    rcases Nat.lt_or_ge P zs.length with hl | hl
    · have := (h.stop hl h0).1; omega
    · have := (h.end (by omega)).1; omega

end Go.Proofs.YtdldpdllhnpdaaaGreat.Clep
