/- What num.Take, num.Sign and num.Unsign do when called: for any bytes, any whole number. No conditions. -/
import Derived.Test.YtcahlmneancapaaGreatDoorFv16
import Derived.Deep.RegionHeldLaw
namespace Go.Proofs.YtcahlmneancapaaGreatDoor.Clep
open Go.RowKit
set_option linter.unusedVariables false
set_option maxRecDepth 10000

def tup (r : Int × Int × Int) : Value := .tuple #[.int .u64 r.1, .int .i64 r.2.1, .int .i64 r.2.2]
set_option maxHeartbeats 800000 in
theorem take_core (ao : Option Addr) (len cap : Nat) (zs : List Int) (w : World) (r : Int × Int × Int) (hr : Hid (tk zs 0 0 = r)) (hm : len ≤ 9223372036854775807) (hl : Hid (zs.length = len))
    (hz : Hid (∀ i, 0 ≤ zs.getD i 0 ∧ zs.getD i 0 < 256))
    (hc : Hid (0 < len → ∃ b off, ao = some ⟨b, off, none⟩ ∧ ∀ i, i < len → w.cell? ⟨b, off + i, none⟩ = some (.int .u8 (zs.getD i 0)))) :
    Calls Tryz.prog 85 #[.slice ao len cap] w fun e w' => e = .returned (tup r) ∧ w' = w := by
  go_enter Tryz.func85, Tryz.ntmps85
  go_wp2
  go_loop [2, 9] (fun n i => ∃ k : Nat, ∃ N : Int, k ≤ len ∧ k ≤ 9 ∧ i = .int .i64 k ∧ n = .int .u64 N ∧ Hid (tk (zs.drop k) k N = r) ∧ Hid (0 ≤ N ∧ N < 2 ^ (7 * k))) (fun _ i => len - (intOf i).toNat)
  case atStart => exact ⟨0, 0, Nat.zero_le _, by omega, rfl, rfl, hide (by simpa using hr.out), hide (by simp)⟩
  case round =>
    obtain ⟨k, N, hk, hk9, rfl, rfl, hT, hN⟩ := hrel
    by_cases hlt : k < len
    · obtain ⟨b, off, rfl, hcc⟩ := hc.out (by omega)
      have hck := hcc k hlt
      have hzk := hz.out k
      have hkl : Hid (k < zs.length) := hide (by rw [hl.out]; exact hlt)
      have ha := and_high (zs.getD k 0) hzk.1 hzk.2
      have HO := hide (fun h9 => or_shift N (zs.getD k 0) k hk9 hN.out hzk.1 hzk.2 h9)
      have HX := hide (fun h9 hc => tk_over zs k N hkl.out h9 hc)
      have HM := hide (fun h9 hc => tk_more zs k N hkl.out h9 hc)
      have HZ := hide (fun h0 hc => tk_zero zs k N hkl.out h0 hc)
      have HL := hide (fun h9 hc h0 => tk_last zs k N hkl.out h9 hc h0)
      have HS := hide (fun h0 hc => shift_lt N (zs.getD k 0) k hN.out h0 hc)
      clear hcc
      generalize zs.getD k 0 = c at *
      by_cases h9 : k = 9
      · have h9b : ((k : Int) == 9) = true := by simp; omega
        have H9 := hide h9
        clear h9
        by_cases hc1 : 1 < c
        · go_wp2
          go_ret3
          exact ⟨ret_eq (by have := hT.out; rw [HX.out H9.out hc1] at this; subst this; rfl), rfl⟩
        · have hcn : ¬ 128 ≤ c := by omega
          rw [decide_eq_false hcn] at ha
          by_cases hc0 : c = 0
          · have hcb : (c == 0) = true := by simp [hc0]
            have H0 := hide hc0
            have hkp : (0 : Int) < (k : Int) := by have := H9.out; omega
            clear hc0
            go_wp2
            go_ret3
            exact ⟨ret_eq (by have := hT.out; rw [HZ.out (by have := H9.out; omega) H0.out] at this; subst this; rfl), rfl⟩
          · have hcb : (c == 0) = false := by simp; omega
            go_wp2
            go_ret3
            refine ⟨ret_eq ?_, rfl⟩
            have := hT.out
            rw [HL.out (by omega) (by omega) (by omega)] at this
            subst this
            have e := HO.out (by omega)
            rw [show c % 128 = c from by omega] at e
            simp only [tup]
            rw [← e]
            rfl
      · have hk9b : ((k : Int) == 9) = false := by simp; omega
        by_cases hc1 : 128 ≤ c
        · rw [decide_eq_true hc1] at ha
          go_wp2
          go_round
          case rel =>
            have e := HO.out (by omega)
            rw [show c % 128 = c - 128 from by omega] at e
            exact ⟨k + 1, _, by omega, by omega, by go_num, rfl, hide (by rw [e, ← HM.out (by omega) hc1]; exact hT.out), hide (by rw [e]; exact HS.out hc1 (by omega))⟩
          case measure => simp [intOf]; omega
        · rw [decide_eq_false hc1] at ha
          by_cases hz0 : c = 0 ∧ 0 < k
          · have hcb : (c == 0) = true := by simp [hz0.1]
            have hkp : (0 : Int) < (k : Int) := by omega
            have H0 := hide hz0
            clear hz0
            go_wp2
            go_ret3
            exact ⟨ret_eq (by have := hT.out; rw [HZ.out H0.out.2 H0.out.1] at this; subst this; rfl), rfl⟩
          · have H0 := hide hz0
            clear hz0
            have hlast := hide (HL.out (by omega) (by omega) (by have := H0.out; omega))
            have hor := HO.out (by omega)
            rw [show c % 128 = c from by omega] at hor
            have HR := hide hor
            clear hor
            by_cases hc0 : c = 0
            · have hcb : (c == 0) = true := by simp [hc0]
              have hkp : ¬ (0 : Int) < (k : Int) := by have := H0.out; omega
              clear hc0
              go_wp2
              go_ret3
              refine ⟨ret_eq ?_, rfl⟩
              have := hT.out
              rw [hlast.out] at this
              subst this
              simp only [tup]
              rw [← HR.out]
              rfl
            · have hcb : (c == 0) = false := by simp; omega
              go_wp2
              go_ret3
              refine ⟨ret_eq ?_, rfl⟩
              have := hT.out
              rw [hlast.out] at this
              subst this
              simp only [tup]
              rw [← HR.out]
              rfl
    · go_wp2
      go_ret3
      have := hT.out
      rw [tk_end zs k N (by have := hl.out; omega)] at this
      subst this
      exact ⟨rfl, rfl⟩
theorem take_any (ao : Option Addr) (len cap : Nat) (zs : List Int) (w : World) (hm : len ≤ 9223372036854775807) (h : Bs w ao len cap zs) :
    Calls Tryz.prog 85 #[.slice ao len cap] w fun e w' => e = .returned (tup (tk zs 0 0)) ∧ w' = w :=
  take_core ao len cap zs w _ (hide rfl) hm (hide h.1) (hide h.2.2.1) (hide h.2.2.2)
theorem take_none (ao : Option Addr) (cap : Nat) (w : World) : Calls Tryz.prog 85 #[.slice ao 0 cap] w fun e w' => e = .returned (tup (0, 0, 4)) ∧ w' = w :=
  take_core ao 0 cap [] w _ (hide rfl) (by omega) (hide rfl) (hide (range_of (by simp))) (hide fun h => by omega)

end Go.Proofs.YtcahlmneancapaaGreatDoor.Clep

/- What num.room, num.grow and num.Put do when called: for any bytes of at most 2^46, any number. -/
namespace Go.Proofs.YtcahlmneancapaaGreatDoor.Clep
open Go.RowKit
set_option linter.unusedVariables false
set_option maxRecDepth 10000

set_option maxHeartbeats 400000 in
theorem room_any (ao : Option Addr) (len cap : Nat) (zs : List Int) (w : World) (n : Int) (h0 : 0 ≤ n) (h1 : n ≤ 1000000) (hm : len ≤ 70368744177664) (h : Bs w ao len cap zs) :
    Calls Tryz.prog 134 #[.slice ao len cap, .int .i64 n] w fun e w' => ∃ v, e = .returned v ∧ Own w' w.heap.size v zs ∧ Below w.heap.size w w' := by
  obtain ⟨i0, hi, hz0, hz1, hz2⟩ := info_parts info5
  have hcs := hide (bs_cells h)
  have hnl := hide h.2.1.2
  have hzl := hide h.1
  clear h
  go_enter Tryz.func134, Tryz.ntmps134
  go_wp2_with (first
    | (at_make; refine wpList_make_own _ rfl _ _ 44 rfl w.heap.size 5 i0 (.int .u8 0) 1 Tryz.underlying44 hi hz0 hz1 .i64 .i64 _ (len + n.toNat) rfl rfl ?c1 ?c2 ?c3 ?c4 ?_)
    | fail)
  case c1 => omega
  case c2 => rw [hz2]; omega
  case c3 => unfold maxLen; omega
  case c4 => exact Nat.le_refl _
  intro w1 hown hg
  have hb1 : Hid (Below w.heap.size w w1) := hide ((Below.refl _ _).grown hg (Nat.le_refl _) (fun k hk => by cases hk))
  have HG := hide hg
  clear hg
  go_wp2_with (first
    | (at_builtin; refine wpList_append_fits_any _ rfl (.tmp 11) (.tmp 12) 44 rfl w.heap.size 5 i0 1 Tryz.underlying44 hi hz1 w.heap.size 0 (len + n.toNat) [] rfl hown ao len cap (bv zs) rfl ?d1 ?d2 ?d3 ?d4 ?d5 ?_)
    | fail)
  case d1 => rw [bv_len, hzl.out]; omega
  case d2 => exact hnl.out
  case d3 =>
    intro ad had j u hu
    exact HG.out.cell (hcs.out ad had j u hu) (by intro h; cases h)
  case d4 => exact bv_one zs
  case d5 => omega
  intro w2 hown2 hg2
  have hb2 := hide (hb1.out.grown hg2 hb1.out.size (fun k hk => by cases hk; exact Nat.le_refl _))
  have HO := hide hown2
  clear hg2 hown2 hown
  go_wp2
  go_ret
  refine ⟨_, rfl, ?_, hb2.out⟩
  have := HO.out
  unfold Own
  rw [hzl.out]
  first | exact this | simpa using this
set_option maxHeartbeats 400000 in
theorem grow_any (v : Value) (xs : List Int) (B : Nat) (w : World) (n : Int) (h0 : 0 ≤ n) (h1 : n ≤ 18446744073709551615) (hm : xs.length ≤ 100000000000000) (h : Own w B v xs) (hB : B ≤ w.heap.size) :
    Calls Tryz.prog 133 #[v, .int .u64 n] w fun e w' => ∃ v', e = .returned v' ∧ Own w' B v' (xs ++ pu n) ∧ Below B w w' := by
  obtain ⟨i0, hi, hz0, hz1, hz2⟩ := info_parts info5
  have H := hide h
  have hfu := hide (u64_fuel n h1)
  clear h
  go_enter Tryz.func133, Tryz.ntmps133
  go_wp2
  go_loopw [0, 1] (fun u m wr => ∃ (f : Nat) (N : Int) (ys : List Int), m = .int .u64 N ∧ 0 ≤ N ∧ N ≤ 18446744073709551615 ∧ ys.length + f ≤ xs.length + 9 ∧ Hid (N < 128 ^ (f + 1)) ∧
      Hid (ys ++ enc f N = xs ++ pu n) ∧ Hid (Own wr B u ys) ∧ Hid (Below B w wr)) (fun _ m _ => (intOf m).toNat)
  case atStart => exact ⟨9, n, xs, rfl, h0, h1, by omega, hfu, hide rfl, H, hide (Below.refl _ _)⟩
  case round =>
    obtain ⟨f, N, ys, rfl, hN0, hN1, hf, hfu2, he, hown, hbel⟩ := hrel
    by_cases hb : 128 ≤ N
    · obtain ⟨g, hg1, hg2⟩ := fuel_step f N hb hfu2.out
      have HG := hide hg1
      have HG2 := hide hg2
      have hsz := hide hbel.out.size
      have HOR := hide (or_high N hN0)
      clear hg1 hg2
      go_wp2_with (first
        | (at_builtin; refine wpList_append_own _ rfl _ _ 44 rfl B 5 i0 (.int .u8 0) 1 1 Tryz.underlying44 hi hz0 hz1 hz2 rfl (by decide) _ _ _ rfl (hown.out.alloc _) ⟨wr.heap.size, 0, none⟩ 1 1 [.int .u8 (bits BinOp.or IntKind.u8 (IntKind.u8.wrap N) 128)] rfl rfl ?c1 ?c2 ?c3 ?c4 ?c5 ?_)
        | fail)
      case c1 => exact cell_one_new _ _ _
      case c2 => intro u hu; simp at hu; subst hu; rfl
      case c3 => unfold maxLen; omega
      case c4 => omega
      case c5 => have := hsz.out; simp; omega
      intro v' w1 hown' hgrow _
      have HW := hide hown'
      have HW2 := hide hgrow
      clear hown' hgrow
      go_wp2
      go_roundw
      case rel =>
        have hw := HW.out
        rw [HOR.out] at hw
        exact ⟨g, _, ys ++ [N % 128 + 128], rfl, by omega, by omega, by have := HG.out; simp; omega, HG2, hide (by rw [← he.out, HG.out, enc_big g N hb]; simp), hide (own_snoc hw), hide (below_step hbel.out (by have := hsz.out; omega) hown.out HW2.out)⟩
      case measure => simp [intOf]; omega
    · have hsz := hide hbel.out.size
      go_wp2_with (first
        | (at_builtin; refine wpList_append_own _ rfl _ _ 44 rfl B 5 i0 (.int .u8 0) 1 1 Tryz.underlying44 hi hz0 hz1 hz2 rfl (by decide) _ _ _ rfl (hown.out.alloc _) ⟨wr.heap.size, 0, none⟩ 1 1 [.int .u8 N] rfl rfl ?e1 ?e2 ?e3 ?e4 ?e5 ?_)
        | fail)
      case e2 => rfl
      case e3 => unfold maxLen; omega
      case e4 => omega
      case e5 => have := hsz.out; simp; omega
      intro v' w1 hown' hgrow _
      have HW := hide hown'
      have HW2 := hide hgrow
      clear hown' hgrow
      go_wp2
      go_ret
      refine ⟨_, rfl, ?_, below_step hbel.out (by have := hsz.out; omega) hown.out HW2.out⟩
      rw [← he.out, enc_small f N (by omega)]
      exact own_snoc HW.out
set_option maxHeartbeats 400000 in
theorem put_any (ao : Option Addr) (len cap : Nat) (zs : List Int) (w : World) (n : Int) (h0 : 0 ≤ n) (h1 : n ≤ 18446744073709551615) (hm : len ≤ 70368744177664) (h : Bs w ao len cap zs) :
    Calls Tryz.prog 107 #[.slice ao len cap, .int .u64 n] w fun e w' => ∃ v, e = .returned v ∧ Own w' w.heap.size v (zs ++ pu n) ∧ Below w.heap.size w w' := by
  have hzl := hide h.1
  have H := hide h
  clear h
  go_enter Tryz.func107, Tryz.ntmps107
  go_wp2_with fail
  refine (room_any ao len cap zs w 10 (by omega) (by omega) hm H.out).mono ?_
  rintro e w1 ⟨v, rfl, ho, hb⟩
  have HO := hide ho
  have HB := hide hb
  clear ho hb
  go_wp2_with fail
  refine (grow_any v zs w.heap.size w1 n h0 h1 (by have := hzl.out; omega) HO.out HB.out.size).mono ?_
  rintro e w2 ⟨v', rfl, ho2, hb2⟩
  have HO2 := hide ho2
  have HB2 := hide hb2
  clear ho2 hb2
  go_wp2
  go_ret
  exact ⟨_, rfl, HO2.out, HB.out.trans HB2.out⟩

end Go.Proofs.YtcahlmneancapaaGreatDoor.Clep

/- What frame.check does when called (a walk over the translated program): for any bytes of at most 2^46, any place in them. -/
namespace Go.Proofs.YtcahlmneancapaaGreatDoor.Clep
open Go.RowKit
set_option linter.unusedVariables false
set_option maxRecDepth 10000

/-- What a row of bytes begins with, read as a head: its kind and its length. -/
def kd (X : List Int) : Int := X.getD 0 0
def ln (X : List Int) : Int := X.getD 1 0 * 65536 + X.getD 2 0 * 256 + X.getD 3 0
def he (X : List Int) : Int := if nn ((X.take 8).drop 4) = crc ((X.take 8).take 4) then 0 else 5
def bd (X : List Int) : List Int := (X.take ((ln X).toNat + 12)).drop 8
def be (X : List Int) : Int := if nn ((bd X).drop (ln X).toNat) = crc ((bd X).take (ln X).toNat) then 0 else 5
/-- The error of the frame that X begins with. -/
def ce (X : List Int) : Int :=
  if X.length < 8 then 4 else if he X ≠ 0 then he X else if kd X < 1 ∨ 100 < kd X ∨ 60000 < ln X then 3 else if X.length < (ln X).toNat + 12 then 4 else be X
/-- The place of the frame that X begins with, P being X's own. -/
def cp (X : List Int) (P : Nat) : Value := if ce X = 0 then pl (kd X) (P + 8) (P + 8 + ln X) else pl 0 0 0

theorem ln_range (X : List Int) (h : ∀ i, 0 ≤ X.getD i 0 ∧ X.getD i 0 < 256) : 0 ≤ ln X ∧ ln X < 16777216 := by
  have := h 1; have := h 2; have := h 3
  unfold ln; omega
theorem getD_drop (zs : List Int) (P k : Nat) : (zs.drop P).getD k 0 = zs.getD (P + k) 0 := by simp [List.getD]

theorem open_err (ao : Option Addr) (len cap : Nat) (zs : List Int) (n : Nat) (w : World) (hm : len ≤ 70368744177664) (hn : len = n + 4) (h : Bs w ao len cap zs) :
    Calls Tryz.prog 139 #[.slice ao len cap] w fun e w' => Below w.heap.size w w' ∧ ∃ v, e = .returned (.tuple #[v, .int .i64 (if nn (zs.drop n) = crc (zs.take n) then 0 else 5)]) := by
  obtain ⟨b, off, rfl, _⟩ := h.2.2.2 (by omega)
  refine (open_long b off len cap zs w n hn hm h).mono ?_
  rintro e w1 ⟨hb, ⟨hg, v, he, _⟩ | ⟨hg, he⟩⟩
  · exact ⟨hb, v, by rw [he, if_pos (show nn (zs.drop n) = crc (zs.take n) from hg)]⟩
  · exact ⟨hb, _, by rw [he, if_neg (show ¬ nn (zs.drop n) = crc (zs.take n) from hg)]⟩

theorem check_short (ao : Option Addr) (len cap : Nat) (P : Nat) (w : World) (hm : len ≤ 70368744177664) (hP : P ≤ len) (h8 : len < P + 8) :
    Calls Tryz.prog 110 #[.slice ao len cap, .int .i64 P] w fun e w' => Below w.heap.size w w' ∧ e = .returned (.tuple #[pl 0 0 0, .int .i64 4]) := by
  go_enter Tryz.func110, Tryz.ntmps110
  go_wp2
  refine bodyPost_ret (v := .tuple #[pl 0 0 0, .int .i64 4]) (by simp [results, Tryz.results110, go_sem, pl]) rfl ⟨?_, rfl⟩
  exact (Below.refl _ w).alloc (Nat.le_refl _) _

/-- A variable of three numbers in a block of its own. -/
def Var3 (w : World) (R : Nat) (x y z : Int) : Prop := w.cell? ⟨R, 0, none⟩ = some (.int .i64 x) ∧ w.cell? ⟨R, 1, none⟩ = some (.int .i64 y) ∧ w.cell? ⟨R, 2, none⟩ = some (.int .i64 z) ∧
  w.frozen? ⟨R, 0, none⟩ = false ∧ w.frozen? ⟨R, 1, none⟩ = false ∧ w.frozen? ⟨R, 2, none⟩ = false
theorem var3_new (w : World) (x y z : Int) : Var3 (w.alloc (Obj.cells #[Value.int IntKind.i64 x, Value.int IntKind.i64 y, Value.int IntKind.i64 z] 170)) w.heap.size x y z := by
  unfold Var3; simp [go_sem]
theorem Var3.below {w w' : World} {R B : Nat} {x y z : Int} (h : Var3 w R x y z) (hb : Below B w w') (hB : w.heap.size ≤ B) : Var3 w' R x y z := by
  have hR : R < B := Nat.lt_of_lt_of_le (World.block_lt_of_cell? w _ h.1) hB
  obtain ⟨h0, h1, h2, f0, f1, f2⟩ := h
  exact ⟨(hb.cell (p := ⟨R, 0, none⟩) hR).trans h0, (hb.cell (p := ⟨R, 1, none⟩) hR).trans h1, (hb.cell (p := ⟨R, 2, none⟩) hR).trans h2,
    (hb.frozen (p := ⟨R, 0, none⟩) hR).trans f0, (hb.frozen (p := ⟨R, 1, none⟩) hR).trans f1, (hb.frozen (p := ⟨R, 2, none⟩) hR).trans f2⟩

theorem var3_set {w : World} {R : Nat} {a b c : Int} (h : Var3 w R a b c) (x y z : Int) :
    Var3 (((w.setCell ⟨R, 0, none⟩ (.int .i64 x)).setCell ⟨R, 1, none⟩ (.int .i64 y)).setCell ⟨R, 2, none⟩ (.int .i64 z)) R x y z := by
  obtain ⟨h0, h1, h2, f0, f1, f2⟩ := h
  have n01 : (⟨R, 0, none⟩ : Addr) ≠ ⟨R, 1, none⟩ := by simp
  have n02 : (⟨R, 0, none⟩ : Addr) ≠ ⟨R, 2, none⟩ := by simp
  have n12 : (⟨R, 1, none⟩ : Addr) ≠ ⟨R, 2, none⟩ := by simp
  refine ⟨?_, ?_, ?_, by simpa using f0, by simpa using f1, by simpa using f2⟩
  · rw [World.cell?_setCell_other (h := n02.symm), World.cell?_setCell_other (h := n01.symm), World.cell?_setCell_same (h := h0)]
  · rw [World.cell?_setCell_other (h := n12.symm), World.cell?_setCell_same (h := show _ = some (Value.int .i64 b) by rw [World.cell?_setCell_other (h := n01)]; exact h1)]
  · rw [World.cell?_setCell_same (h := show _ = some (Value.int .i64 c) by rw [World.cell?_setCell_other (h := n12), World.cell?_setCell_other (h := n02)]; exact h2)]
theorem var3_results {w : World} {R : Nat} {x y z e : Int} (h : Var3 w R x y z) (ts : Array Value) (h4 : ts.getD 4 undef = .pointer (some ⟨R, 0, none⟩)) (h5 : ts.getD 5 undef = .int .i64 e) :
    (results Tryz.f110 ts).run Tryz.prog w = .ok (.tuple #[pl x y z, .int .i64 e]) w := by
  obtain ⟨h0, h1, h2, _⟩ := h
  rw [Array.getD_eq_getD_getElem?] at h4 h5
  simp [results, Tryz.results110, go_sem, pl, h0, h1, h2, h4, h5]

set_option maxHeartbeats 400000 in
theorem check_long (b off len cap : Nat) (zs : List Int) (P : Nat) (w : World) (hm : len ≤ 70368744177664) (h : Bs w (some ⟨b, off, none⟩) len cap zs) (hP : P + 8 ≤ len) (X : List Int) (hX : X = zs.drop P) :
    Calls Tryz.prog 110 #[.slice (some ⟨b, off, none⟩) len cap, .int .i64 P] w fun e w' => Below w.heap.size w w' ∧ e = .returned (.tuple #[cp X P, .int .i64 (ce X)]) := by
  have hcap := h.2.1.1
  have hXl : X.length = len - P := by rw [hX, List.length_drop, h.1]
  have hn8 : ¬ X.length < 8 := by omega
  have hlr := ln_range X (by rw [hX]; exact range_of (ByteL.drop (bs_range h) P))
  have C1 : Hid (∀ W, Below w.heap.size w W → Calls Tryz.prog 139 #[.slice (some ⟨b, off + P, none⟩) 8 (cap - P)] W fun e w' => Below W.heap.size W w' ∧ ∃ v, e = .returned (.tuple #[v, .int .i64 (he X)])) := hide fun W hW => by
    have := ((h.below hW (Nat.le_refl _)).takeAt (P + 8) hP).dropAt P (by omega)
    rw [show P + 8 - P = 8 from by omega, show (zs.take (P + 8)).drop P = X.take 8 from by rw [hX, List.drop_take, show P + 8 - P = 8 from by omega]] at this
    exact open_err _ 8 _ _ 4 W (by omega) rfl this
  have C2 : Hid (∀ W, Below w.heap.size w W → Calls Tryz.prog 116 #[.slice (some ⟨b, off, none⟩) len cap, .int .i64 P] W fun e w' => e = .returned (pl (kd X) (P + 8) (P + 8 + ln X)) ∧ Below W.heap.size W w') := hide fun W hW => by
    have := fread_any b off len cap zs P W hm (h.below hW (Nat.le_refl _)) P rfl hP
    unfold kd ln
    rw [hX]
    simp only [getD_drop, Nat.add_zero]
    exact this
  have C3 : (ln X).toNat + 12 ≤ len - P → Hid (∀ W, Below w.heap.size w W → Calls Tryz.prog 139 #[.slice (some ⟨b, off + (P + 8), none⟩) ((ln X).toNat + 4) (cap - (P + 8))] W fun e w' => Below W.heap.size W w' ∧ ∃ v, e = .returned (.tuple #[v, .int .i64 (be X)])) := fun hl => hide fun W hW => by
    have := ((h.below hW (Nat.le_refl _)).takeAt (P + ((ln X).toNat + 12)) (by omega)).dropAt (P + 8) (by omega)
    rw [show P + ((ln X).toNat + 12) - (P + 8) = (ln X).toNat + 4 from by omega, show (zs.take (P + ((ln X).toNat + 12))).drop (P + 8) = bd X from by
      unfold bd; rw [hX, ← List.drop_drop, List.drop_take, show P + ((ln (zs.drop P)).toNat + 12) - P = (ln (zs.drop P)).toNat + 12 from by omega]] at this
    exact open_err _ _ _ _ (ln X).toNat W (by omega) rfl this
  have hce : ce X = if he X ≠ 0 then he X else if kd X < 1 ∨ 100 < kd X ∨ 60000 < ln X then 3 else if X.length < (ln X).toNat + 12 then 4 else be X := by unfold ce; rw [if_neg hn8]
  have HC := hide hce
  have hP8 : (P : Int) + 8 ≤ (cap : Int) := by omega
  clear h hce hX
  go_enter Tryz.func110, Tryz.ntmps110
  go_wp2_with fail
  refine (C1.out _ ((Below.refl _ w).alloc (Nat.le_refl _) _)).mono ?_
  rintro e w1 ⟨hb1, v1, rfl⟩
  have V1 := (var3_new w 0 0 0).below hb1 (Nat.le_refl _)
  have B1 := hide (((Below.refl w.heap.size w).alloc (Nat.le_refl _) _).trans (hb1.mono (by simp)))
  clear hb1 C1
  unfold pl at C2
  by_cases h1 : he X = 0
  · have HC1 := hide (show ce X = if kd X < 1 ∨ 100 < kd X ∨ 60000 < ln X then 3 else if X.length < (ln X).toNat + 12 then 4 else be X by rw [HC.out, if_neg (by simp [h1])])
    clear HC
    go_wp2_with fail
    refine (C2.out _ B1.out).mono ?_
    rintro e w2 ⟨rfl, hb2⟩
    have V2 := V1.below hb2 (Nat.le_refl _)
    have B2 := hide (B1.out.trans (hb2.mono B1.out.size))
    have hsz : w.heap.size < w2.heap.size := World.block_lt_of_cell? w2 _ V2.1
    clear hb2 V1 C2 h1
    by_cases hk : kd X < 1 ∨ 100 < kd X ∨ 60000 < ln X
    · have H5 := hide (show ce X = 3 by rw [HC1.out, if_pos hk])
      have HP := hide (show cp X P = pl 0 0 0 by unfold cp; rw [if_neg (by rw [H5.out]; decide)])
      have B3 := (((B2.out.setCell (p := ⟨w.heap.size, 0, none⟩) (Nat.le_refl _) (.int .i64 0)).setCell (p := ⟨w.heap.size, 1, none⟩) (Nat.le_refl _) (.int .i64 0)).setCell (p := ⟨w.heap.size, 2, none⟩) (Nat.le_refl _) (.int .i64 0))
      have B4 := hide (B3.alloc B3.size (Obj.cells #[Value.int IntKind.i64 (kd X), Value.int IntKind.i64 (P + 8), Value.int IntKind.i64 (P + 8 + ln X)] 170))
      have V4 := hide ((var3_set V2 0 0 0).below ((Below.refl _ _).alloc (Nat.le_refl _) (Obj.cells #[Value.int IntKind.i64 (kd X), Value.int IntKind.i64 (P + 8), Value.int IntKind.i64 (P + 8 + ln X)] 170)) (Nat.le_refl _))
      clear B3
      obtain ⟨q0, q1, q2, f0, f1, f2⟩ := V2
      clear C3 HC1
      generalize kd X = K at *
      generalize ln X = N at *
      rcases hk with hk | hk | hk
      · go_wp2
        refine bodyPost_ret (var3_results V4.out _ rfl rfl) rfl ⟨B4.out, by rw [HP.out, H5.out]⟩
      · have hk2 : ¬ K < 1 := by omega
        go_wp2
        refine bodyPost_ret (var3_results V4.out _ rfl rfl) rfl ⟨B4.out, by rw [HP.out, H5.out]⟩
      · by_cases hk2 : K < 1
        · go_wp2
          refine bodyPost_ret (var3_results V4.out _ rfl rfl) rfl ⟨B4.out, by rw [HP.out, H5.out]⟩
        · by_cases hk3 : 100 < K
          · go_wp2
            refine bodyPost_ret (var3_results V4.out _ rfl rfl) rfl ⟨B4.out, by rw [HP.out, H5.out]⟩
          · go_wp2
            refine bodyPost_ret (var3_results V4.out _ rfl rfl) rfl ⟨B4.out, by rw [HP.out, H5.out]⟩
    · have HC2 := hide (show ce X = if X.length < (ln X).toNat + 12 then 4 else be X by rw [HC1.out, if_neg hk])
      have hk1 : ¬ kd X < 1 := by omega
      have hk2 : ¬ 100 < kd X := by omega
      have hk3 : ¬ 60000 < ln X := by omega
      clear HC1 hk
      have VR := V2.below ((Below.refl _ w2).alloc (Nat.le_refl _) (Obj.cells #[Value.int IntKind.i64 (kd X), Value.int IntKind.i64 (P + 8), Value.int IntKind.i64 (P + 8 + ln X)] 170)) (Nat.le_refl _)
      have VP := var3_new w2 (kd X) (P + 8) (P + 8 + ln X)
      have BW := B2.out.trans (((Below.refl _ w2).alloc (Nat.le_refl _) (Obj.cells #[Value.int IntKind.i64 (kd X), Value.int IntKind.i64 (P + 8), Value.int IntKind.i64 (P + 8 + ln X)] 170)).mono B2.out.size)
      have HV := hide V2
      clear V2
      obtain ⟨q0, q1, q2, f0, f1, f2⟩ := HV.out
      go_wp2_with fail
      refine (next_any _ _ _ _ (by omega) (by omega)).mono ?_
      rintro e w3 ⟨rfl, hb3⟩
      have VR3 := VR.below hb3 (Nat.le_refl _)
      have VP3 := VP.below hb3 (Nat.le_refl _)
      have B3 := hide (BW.trans (hb3.mono BW.size))
      clear hb3 VR VP BW q0 q1 q2 f0 f1 f2 HV
      by_cases hl : X.length < (ln X).toNat + 12
      · have H5 := hide (show ce X = 4 by rw [HC2.out, if_pos hl])
        have HP := hide (show cp X P = pl 0 0 0 by unfold cp; rw [if_neg (by rw [H5.out]; decide)])
        have B4 := hide (((B3.out.setCell (p := ⟨w.heap.size, 0, none⟩) (Nat.le_refl _) (.int .i64 0)).setCell (p := ⟨w.heap.size, 1, none⟩) (Nat.le_refl _) (.int .i64 0)).setCell (p := ⟨w.heap.size, 2, none⟩) (Nat.le_refl _) (.int .i64 0))
        have V4 := hide (var3_set VR3 0 0 0)
        obtain ⟨q0, q1, q2, f0, f1, f2⟩ := VR3
        have hgt : ¬ ((P : Int) + 8 + ln X + 4 ≤ (len : Int)) := by omega
        clear C3 HC2
        go_wp2
        refine bodyPost_ret (var3_results V4.out _ rfl rfl) rfl ⟨B4.out, by rw [HP.out, H5.out]⟩
      · have H5 := hide (show ce X = be X by rw [HC2.out, if_neg hl])
        have c3 := C3 (by omega)
        clear C3 HC2
        have hle : (P : Int) + 8 + ln X + 4 ≤ (len : Int) := by omega
        have HP := hide (show cp X P = if be X = 0 then pl (kd X) (P + 8) (P + 8 + ln X) else pl 0 0 0 by unfold cp; rw [H5.out])
        generalize be X = E at *
        generalize kd X = K at *
        generalize ln X = L at *
        obtain ⟨N, rfl⟩ := Int.eq_ofNat_of_zero_le hlr.1
        simp only [Int.toNat_natCast] at c3
        have HVP := hide (fun W (hW : Below w3.heap.size w3 W) => VP3.below hW (Nat.le_refl _))
        have HVR := hide (fun W (hW : Below w3.heap.size w3 W) => VR3.below hW (Nat.le_refl _))
        have cN : Hid (∀ W, Below w3.heap.size w3 W → Calls Tryz.prog 112 #[.agg #[.int .i64 K, .int .i64 ((P : Int) + 8), .int .i64 ((P : Int) + 8 + N)]] W fun e w' => e = .returned (.int .i64 ((P : Int) + 8 + N + 4)) ∧ Below w3.heap.size w3 w') := hide fun W hW => (next_any K _ _ W (by omega) (by omega)).mono fun e w' ⟨he, hb⟩ => ⟨he, hW.trans (hb.mono hW.size)⟩
        have cO : Hid (∀ W (m : Nat), m = N + 4 → Below w3.heap.size w3 W → Calls Tryz.prog 139 #[.slice (some ⟨b, off + (P + 8), none⟩) m (cap - (P + 8))] W fun e w' => ∃ v, e = .returned (.tuple #[v, .int .i64 E]) ∧ Below w3.heap.size w3 w') := hide fun W m hm hW => by
          subst hm
          exact (c3.out W (B3.out.trans (hW.mono B3.out.size))).mono fun e w' ⟨hb, v, he⟩ => ⟨v, he, hW.trans (hb.mono hW.size)⟩
        have hcc : (P : Int) + 8 + N + 4 ≤ (cap : Int) := by omega
        have hlh : (P : Int) + 8 ≤ (P : Int) + 8 + N + 4 := by omega
        have hne : ¬ cap = P + 8 := by omega
        obtain ⟨p0, p1, p2, g0, g1, g2⟩ := VP3
        have hb0 : Below w3.heap.size w3 w3 := Below.refl _ _
        clear VR3 c3
        go_wp2_with fail
        go_region_held_law (fun W => Below w3.heap.size w3 W ∧ W.cell? ⟨w2.heap.size, 0, none⟩ = some (.int .i64 K) ∧ W.cell? ⟨w2.heap.size, 1, none⟩ = some (.int .i64 ((P : Int) + 8)) ∧ W.cell? ⟨w2.heap.size, 2, none⟩ = some (.int .i64 ((P : Int) + 8 + N)))
          (first | exact ⟨by assumption, (HVP.out _ (by assumption)).1, (HVP.out _ (by assumption)).2.1, (HVP.out _ (by assumption)).2.2.1⟩ | exact ⟨Below.drew (by assumption), (HVP.out _ (Below.drew (by assumption))).1, (HVP.out _ (Below.drew (by assumption))).2.1, (HVP.out _ (Below.drew (by assumption))).2.2.1⟩)
          (first
          | (go_at_call 112; refine (cN.out _ (And.left (by assumption))).mono ?_; rintro e w' ⟨rfl, hb⟩)
          | (go_at_call 139; refine (cO.out _ _ (by omega) (And.left (by assumption))).mono ?_; rintro e w' ⟨v, rfl, hb⟩))
        all_goals
          have VR := HVR.out _ hb
          have VP := HVP.out _ hb
          have BB := hide (B3.out.trans (hb.mono B3.out.size))
          clear hb hb0 HVP HVR cN cO p0 p1 p2 g0 g1 g2
          by_cases hE : E = 0
          · have HQ := hide (show cp X P = pl K (P + 8) (P + 8 + N) by rw [HP.out, if_pos hE])
            have H0 := hide (show ce X = 0 by rw [H5.out]; exact hE)
            have V4 := hide (var3_set VR K (P + 8) (P + 8 + N))
            have B4 := hide (((BB.out.setCell (p := ⟨w.heap.size, 0, none⟩) (Nat.le_refl _) (.int .i64 K)).setCell (p := ⟨w.heap.size, 1, none⟩) (Nat.le_refl _) (.int .i64 (P + 8))).setCell (p := ⟨w.heap.size, 2, none⟩) (Nat.le_refl _) (.int .i64 (P + 8 + N)))
            obtain ⟨q0, q1, q2, f0, f1, f2⟩ := VR
            obtain ⟨p0, p1, p2, g0, g1, g2⟩ := VP
            clear HP H5
            go_wp2
            refine bodyPost_ret (var3_results V4.out _ rfl rfl) rfl ⟨B4.out, by rw [HQ.out, H0.out]⟩
          · have HQ := hide (show cp X P = pl 0 0 0 by rw [HP.out, if_neg hE])
            have V4 := hide (var3_set VR 0 0 0)
            have B4 := hide (((BB.out.setCell (p := ⟨w.heap.size, 0, none⟩) (Nat.le_refl _) (.int .i64 0)).setCell (p := ⟨w.heap.size, 1, none⟩) (Nat.le_refl _) (.int .i64 0)).setCell (p := ⟨w.heap.size, 2, none⟩) (Nat.le_refl _) (.int .i64 0))
            obtain ⟨q0, q1, q2, f0, f1, f2⟩ := VR
            obtain ⟨p0, p1, p2, g0, g1, g2⟩ := VP
            clear HP
            go_wp2
            refine bodyPost_ret (var3_results V4.out _ rfl rfl) rfl ⟨B4.out, by rw [HQ.out, H5.out]⟩
  · have hcp : cp X P = pl 0 0 0 := by unfold cp; rw [if_neg (by rw [HC.out, if_pos h1]; exact h1)]
    have hc5 : ce X = he X := by rw [HC.out, if_pos h1]
    have HP := hide hcp
    have H5 := hide hc5
    have V2 := var3_set V1 0 0 0
    clear C2 C3 HC hcp hc5
    generalize he X = E at *
    obtain ⟨q0, q1, q2, f0, f1, f2⟩ := V1
    go_wp2
    have B2 := hide (((B1.out.setCell (p := ⟨w.heap.size, 0, none⟩) (Nat.le_refl _) (.int .i64 0)).setCell (p := ⟨w.heap.size, 1, none⟩) (Nat.le_refl _) (.int .i64 0)).setCell (p := ⟨w.heap.size, 2, none⟩) (Nat.le_refl _) (.int .i64 0))
    refine bodyPost_ret (var3_results V2 _ rfl rfl) rfl ⟨B2.out, by rw [HP.out, H5.out]⟩

theorem check_any (ao : Option Addr) (len cap : Nat) (zs : List Int) (P : Nat) (w : World) (hm : len ≤ 70368744177664) (h : Bs w ao len cap zs) (hP : P ≤ len) :
    Calls Tryz.prog 110 #[.slice ao len cap, .int .i64 P] w fun e w' => Below w.heap.size w w' ∧ e = .returned (.tuple #[cp (zs.drop P) P, .int .i64 (ce (zs.drop P))]) := by
  by_cases h8 : len < P + 8
  · have hc : ce (zs.drop P) = 4 := by unfold ce; rw [if_pos (by rw [List.length_drop, h.1]; omega)]
    have hp : cp (zs.drop P) P = pl 0 0 0 := by unfold cp; rw [hc]; rfl
    rw [hc, hp]
    exact check_short ao len cap P w hm hP h8
  · obtain ⟨b, off, rfl, _⟩ := h.2.2.2 (by omega)
    exact check_long b off len cap zs P w hm h (by omega) _ rfl

end Go.Proofs.YtcahlmneancapaaGreatDoor.Clep

/- What frame.Take does when called (a walk over the translated program): for any bytes of at most 2^46, any place. -/
namespace Go.Proofs.YtcahlmneancapaaGreatDoor.Clep
open Go.RowKit
set_option linter.unusedVariables false
set_option maxRecDepth 10000

/-- The body of the frame that X begins with. -/
def bo (X : List Int) : List Int := (bd X).take (ln X).toNat
theorem ce_ok (X : List Int) (h : ce X = 0) : 8 ≤ X.length ∧ he X = 0 ∧ 1 ≤ kd X ∧ kd X ≤ 100 ∧ ln X ≤ 60000 ∧ (ln X).toNat + 12 ≤ X.length ∧ be X = 0 := by
  unfold ce at h
  split at h
  · cases h
  · split at h
    · rename_i h2; exact absurd h h2
    · split at h
      · cases h
      · split at h
        · cases h
        · rename_i h1 h2 h3 h4
          exact ⟨by omega, by simpa using h2, by omega, by omega, by omega, by omega, h⟩
theorem bo_len (X : List Int) (h : ce X = 0) : (bo X).length = (ln X).toNat := by
  have := ce_ok X h
  unfold bo bd
  rw [List.length_take, List.length_drop, List.length_take]
  omega
theorem bo_cut (zs : List Int) (P n : Nat) (hn : (ln (zs.drop P)).toNat = n) : (zs.take (P + 8 + n)).drop (P + 8) = bo (zs.drop P) := by
  unfold bo bd
  rw [hn, ← List.drop_drop, List.drop_take, show P + 8 + n - P = 8 + n from by omega, List.drop_take, show 8 + n - 8 = n from by omega, List.drop_take, show n + 12 - 8 = n + 4 from by omega, List.take_take, Nat.min_eq_left (by omega)]

theorem ftake_arg (ao : Option Addr) (len cap : Nat) (p : Int) (w : World) (hm : len ≤ 70368744177664) (hp : p < 0 ∨ (len : Int) < p) :
    Calls Tryz.prog 84 #[.slice ao len cap, .int .i64 p] w fun e w' => e = .returned (.tuple #[.int .i64 0, .slice none 0 0, .int .i64 0, .int .i64 1]) ∧ w' = w := by
  go_enter Tryz.func84, Tryz.ntmps84
  rcases hp with hp | hp
  · go_wp2
    refine bodyPost_ret (by simp [results, Tryz.results84, go_sem]) rfl ⟨rfl, rfl⟩
  · have hp2 : ¬ p < 0 := by omega
    go_wp2
    refine bodyPost_ret (by simp [results, Tryz.results84, go_sem]) rfl ⟨rfl, rfl⟩

theorem ftake_bad (ao : Option Addr) (len cap : Nat) (zs : List Int) (P : Nat) (w : World) (hm : len ≤ 70368744177664) (h : Bs w ao len cap zs) (hP : P ≤ len) (hc : ce (zs.drop P) ≠ 0) :
    Calls Tryz.prog 84 #[.slice ao len cap, .int .i64 P] w fun e w' => e = .returned (.tuple #[.int .i64 0, .slice none 0 0, .int .i64 0, .int .i64 (ce (zs.drop P))]) ∧ Below w.heap.size w w' := by
  have C := hide (check_any ao len cap zs P w hm h hP)
  have hp : cp (zs.drop P) P = .agg #[.int .i64 0, .int .i64 0, .int .i64 0] := by unfold cp; rw [if_neg hc]; rfl
  rw [hp] at C
  clear h hp
  generalize ce (zs.drop P) = E at *
  go_enter Tryz.func84, Tryz.ntmps84
  go_wp2_with fail
  refine C.out.mono ?_
  rintro e w1 ⟨hb, rfl⟩
  have HB := hide (hb.alloc hb.size (Obj.cells #[Value.int IntKind.i64 0, Value.int IntKind.i64 0, Value.int IntKind.i64 0] 170))
  clear hb C
  go_wp2
  refine bodyPost_ret (by simp [results, Tryz.results84, go_sem]) rfl ⟨rfl, HB.out⟩

set_option maxHeartbeats 400000 in
theorem ftake_good (ao : Option Addr) (len cap : Nat) (zs : List Int) (P : Nat) (w : World) (hm : len ≤ 70368744177664) (h : Bs w ao len cap zs) (hP : P ≤ len) (X : List Int) (hX : X = zs.drop P) (hc : ce X = 0) :
    Calls Tryz.prog 84 #[.slice ao len cap, .int .i64 P] w fun e w' => ∃ v, e = .returned (.tuple #[.int .i64 (kd X), v, .int .i64 (P + 12 + ln X), .int .i64 0]) ∧ Own w' w.heap.size v (bo X) ∧ Below w.heap.size w w' := by
  have C := hide (check_any ao len cap zs P w hm h hP)
  have hk := ce_ok X hc
  have hXl : X.length = len - P := by rw [hX, List.length_drop, h.1]
  have hlr := ln_range X (by rw [hX]; exact range_of (ByteL.drop (bs_range h) P))
  rw [← hX] at C
  have hp : cp X P = .agg #[.int .i64 (kd X), .int .i64 (P + 8), .int .i64 (P + 8 + ln X)] := by unfold cp; rw [if_pos hc]; rfl
  rw [hp, hc] at C
  have cB : Hid (∀ W, Below w.heap.size w W → Calls Tryz.prog 111 #[.agg #[.int .i64 (kd X), .int .i64 ((P : Int) + 8), .int .i64 ((P : Int) + 8 + ln X)], .slice ao len cap] W fun e w' => ∃ v, e = .returned v ∧ Hid (∀ W', Below w'.heap.size w' W' → Own W' w.heap.size v (bo X)) ∧ Below w.heap.size w w' ∧ Below W.heap.size W w') := hide fun W hW => by
    have hcu : (zs.take ((P : Int) + 8 + ln X).toNat).drop ((P : Int) + 8).toNat = bo X := by
      rw [hX, ← bo_cut zs P (ln (zs.drop P)).toNat rfl, ← hX]
      congr 2 <;> omega
    refine (body_any ao len cap zs (kd X) (P + 8) (P + 8 + ln X) W hm (h.below hW (Nat.le_refl _)) (by omega) (by omega) (by omega)).mono ?_
    rintro e w' ⟨v, he, ho, hb⟩
    rw [hcu] at ho
    exact ⟨v, he, hide fun W' hW' => own_base (own_keep ho hW') hW.size, hW.trans (hb.mono hW.size), hb⟩
  have cN : Hid (∀ W, Below w.heap.size w W → Calls Tryz.prog 112 #[.agg #[.int .i64 (kd X), .int .i64 ((P : Int) + 8), .int .i64 ((P : Int) + 8 + ln X)]] W fun e w' => e = .returned (.int .i64 ((P : Int) + 8 + ln X + 4)) ∧ Below w.heap.size w w' ∧ Below W.heap.size W w') := hide fun W hW =>
    (next_any (kd X) _ _ W (by omega) (by omega)).mono fun e w' ⟨he, hb⟩ => ⟨he, hW.trans (hb.mono hW.size), hb⟩
  clear h hp hX
  generalize bo X = Y at *
  generalize kd X = K at *
  generalize ln X = L at *
  clear hk hXl hc
  go_enter Tryz.func84, Tryz.ntmps84
  go_wp2_with fail
  refine C.out.mono ?_
  rintro e w1 ⟨hb1, rfl⟩
  have hb2 := hb1.alloc hb1.size (Obj.cells #[Value.int IntKind.i64 K, Value.int IntKind.i64 (P + 8), Value.int IntKind.i64 (P + 8 + L)] 170)
  have VP := var3_new w1 K (P + 8) (P + 8 + L)
  have hcP : ∀ W, Below (w1.alloc (Obj.cells #[Value.int IntKind.i64 K, Value.int IntKind.i64 (P + 8), Value.int IntKind.i64 (P + 8 + L)] 170)).heap.size (w1.alloc (Obj.cells #[Value.int IntKind.i64 K, Value.int IntKind.i64 (P + 8), Value.int IntKind.i64 (P + 8 + L)] 170)) W → Var3 W w1.heap.size K (P + 8) (P + 8 + L) := fun W hW => VP.below hW (Nat.le_refl _)
  have HB2 := hide hb2
  have HVP := hide hcP
  have HVQ := hide VP
  clear hb1 hb2 hcP VP C
  go_wp2_with fail
  generalize w1.alloc (Obj.cells #[Value.int IntKind.i64 K, Value.int IntKind.i64 (P + 8), Value.int IntKind.i64 (P + 8 + L)] 170) = w2 at *
  have dB : Hid (∀ W, Below w2.heap.size w2 W → Calls Tryz.prog 111 #[.agg #[.int .i64 K, .int .i64 ((P : Int) + 8), .int .i64 ((P : Int) + 8 + L)], .slice ao len cap] W fun e w' => ∃ v, e = .returned v ∧ Hid (∀ W', Below w'.heap.size w' W' → Own W' w.heap.size v Y) ∧ Below w2.heap.size w2 w' ∧ Below W.heap.size W w') := hide fun W hW =>
    (cB.out W (HB2.out.trans (hW.mono HB2.out.size))).mono fun e w' ⟨v, he, ho, _, hb⟩ => ⟨v, he, ho, hW.trans (hb.mono hW.size), hb⟩
  have dN : Hid (∀ W, Below w2.heap.size w2 W → Calls Tryz.prog 112 #[.agg #[.int .i64 K, .int .i64 ((P : Int) + 8), .int .i64 ((P : Int) + 8 + L)]] W fun e w' => e = .returned (.int .i64 ((P : Int) + 8 + L + 4)) ∧ Below w2.heap.size w2 w' ∧ Below W.heap.size W w') := hide fun W hW =>
    (cN.out W (HB2.out.trans (hW.mono HB2.out.size))).mono fun e w' ⟨he, _, hb⟩ => ⟨he, hW.trans (hb.mono hW.size), hb⟩
  obtain ⟨p0, p1, p2, g0, g1, g2⟩ := HVQ.out
  have hb0 : Below w2.heap.size w2 w2 := Below.refl _ _
  clear cB cN HVQ
  go_region_held_law (fun W => Below w2.heap.size w2 W ∧ W.cell? ⟨w1.heap.size, 0, none⟩ = some (.int .i64 K) ∧ W.cell? ⟨w1.heap.size, 1, none⟩ = some (.int .i64 ((P : Int) + 8)) ∧ W.cell? ⟨w1.heap.size, 2, none⟩ = some (.int .i64 ((P : Int) + 8 + L)))
    (first | exact ⟨by assumption, (HVP.out _ (by assumption)).1, (HVP.out _ (by assumption)).2.1, (HVP.out _ (by assumption)).2.2.1⟩ | exact ⟨Below.drew (by assumption), (HVP.out _ (Below.drew (by assumption))).1, (HVP.out _ (Below.drew (by assumption))).2.1, (HVP.out _ (Below.drew (by assumption))).2.2.1⟩)
    (first
    | (go_at_call 112; refine (dN.out _ (And.left (by assumption))).mono ?_; rintro e w' ⟨rfl, hb, hbn⟩)
    | (go_at_call 111; refine (dB.out _ (And.left (by assumption))).mono ?_; rintro e w' ⟨v, rfl, ho, hb, hbb⟩))
  have HO := hide (ho.out _ hbn)
  have HB := hide (HB2.out.trans (hb.mono HB2.out.size))
  rename_i hHeld
  clear hb hbn hHeld hbb ho dB dN HVP p0 p1 p2 g0 g1 g2 hb0
  go_wp2
  refine bodyPost_ret (v := .tuple #[.int .i64 K, v, .int .i64 (P + 8 + L + 4), .int .i64 0]) (by simp [results, Tryz.results84, go_sem]) rfl ⟨v, ?_, HO.out, HB.out⟩
  rw [show (P : Int) + 8 + L + 4 = P + 12 + L from by omega]

end Go.Proofs.YtcahlmneancapaaGreatDoor.Clep

/- Frames as rows of bytes: what a row says that begins with a frame. -/
namespace Go.Proofs.YtcahlmneancapaaGreatDoor.Clep
open Go.RowKit
set_option linter.unusedVariables false
set_option maxRecDepth 10000

theorem fr_kd (k : Int) (ys r : List Int) : kd (fr k ys ++ r) = k := by simp [kd, fr, sl, hd]
theorem fr_ln (k : Int) (ys r : List Int) (hn : ys.length ≤ 60000) : ln (fr k ys ++ r) = ys.length := by
  simp only [ln, fr, sl, hd, List.cons_append, List.nil_append, List.getD_cons_succ, List.getD_cons_zero]
  omega
theorem fr_head (k : Int) (ys r : List Int) : (fr k ys ++ r).take 8 = sl (hd k ys.length) := by
  unfold fr
  rw [List.append_assoc, List.take_append_of_le_length (by rw [sl_len, hd_len]; omega), List.take_of_length_le (by rw [sl_len, hd_len]; omega)]
theorem fr_bd (k : Int) (ys r : List Int) (hn : ys.length ≤ 60000) : bd (fr k ys ++ r) = sl ys := by
  unfold bd
  rw [fr_ln k ys r hn, Int.toNat_natCast, List.take_append_of_le_length (by rw [fr_len]; omega), List.take_of_length_le (by rw [fr_len]; omega)]
  unfold fr
  rw [List.drop_append_of_le_length (by rw [sl_len, hd_len]; omega), List.drop_eq_nil_of_le (by rw [sl_len, hd_len]; omega), List.nil_append]
theorem fr_bo (k : Int) (ys r : List Int) (hn : ys.length ≤ 60000) : bo (fr k ys ++ r) = ys := by
  unfold bo
  rw [fr_bd k ys r hn, fr_ln k ys r hn, Int.toNat_natCast]
  unfold sl
  rw [List.take_left]
theorem fr_ce (k : Int) (ys r : List Int) (hk : 1 ≤ k) (hk2 : k ≤ 100) (hn : ys.length ≤ 60000) (hy : ByteL ys) : ce (fr k ys ++ r) = 0 := by
  have hg1 : nn ((sl (hd k ys.length)).drop 4) = crc ((sl (hd k ys.length)).take 4) := good_sl (hd k ys.length) (hd_range k _ hk hk2 hn)
  have hg2 : nn ((sl ys).drop ys.length) = crc ((sl ys).take ys.length) := good_sl ys hy
  have hh : he (fr k ys ++ r) = 0 := by unfold he; rw [fr_head, if_pos hg1]
  have hb : be (fr k ys ++ r) = 0 := by unfold be; rw [fr_bd k ys r hn, fr_ln k ys r hn, Int.toNat_natCast, if_pos hg2]
  unfold ce
  rw [if_neg (by rw [List.length_append, fr_len]; omega), if_neg (by simp [hh]), if_neg (by rw [fr_kd, fr_ln k ys r hn]; omega), if_neg (by rw [fr_ln k ys r hn, List.length_append, fr_len]; omega)]
  exact hb
theorem drop_app (zs r : List Int) (P : Nat) (h : zs.length = P) : (zs ++ r).drop P = r := by subst h; exact List.drop_left

end Go.Proofs.YtcahlmneancapaaGreatDoor.Clep
