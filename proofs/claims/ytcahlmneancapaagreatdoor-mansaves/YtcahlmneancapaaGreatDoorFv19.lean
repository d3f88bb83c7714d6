/- What the own Take and Sign of the document do when called: for any text, any whole number. No conditions. -/
import Derived.Test.YtcahlmneancapaaGreatDoorFv17
import Derived.Test.YtcahlmneancapaaGreatDoorFv18
import Derived.Test.YtcahlmneancapaaGreatDoorFv03
import Derived.Test.YtcahlmneancapaaGreatDoorFv00
import Derived.Test.YtcahlmneancapaaGreatDoorFv16
namespace Go.Proofs.YtcahlmneancapaaGreatDoor.Clep
open Go.RowKit
set_option linter.unusedVariables false
set_option maxRecDepth 10000

theorem or_shift2 (N c : Int) (k : Nat) (hk : k ≤ 9) (hN : 0 ≤ N ∧ N < 2 ^ (7 * k)) (h0 : 0 ≤ c) (hc : c < 256) (h9 : k = 9 → c ≤ 1) :
    bits BinOp.or IntKind.u64 N (IntKind.u64.wrap (bits BinOp.and IntKind.u64 c 127 * 2 ^ (7 * k))) = N + (c % 128) * 2 ^ (7 * k) := by
  have e := or_shift N c k hk hN h0 hc h9
  rw [← e]
  obtain ⟨C, rfl⟩ := Int.eq_ofNat_of_zero_le h0
  rw [show (127 : Int) = ((127 : Nat) : Int) from rfl, show (128 : Int) = ((128 : Nat) : Int) from rfl, u64_and_nat C 127 (by omega) (by omega), nat_mask7,
    u8_andNot_nat C 128 (by omega) (by omega), show 255 - 128 = 127 from rfl, nat_mask7, IntKind.wrap_u64 ((C % 128 : Nat) : Int),
    show ((C % 128 : Nat) : Int) % 18446744073709551616 = ((C % 128 : Nat) : Int) from by omega]
end Go.Proofs.YtcahlmneancapaaGreatDoor.Clep

/- Rows of numbers (slices of uint64), and what they come to by sevens. No conditions. -/
namespace Go.Proofs.YtcahlmneancapaaGreatDoor.Clep
open Go.RowKit
set_option linter.unusedVariables false
set_option maxRecDepth 10000

/-- The slice value (ao, len, cap) leads to the numbers ns in w. -/
def Us (w : World) (ao : Option Addr) (len cap : Nat) (ns : List Int) : Prop :=
  ns.length = len ∧ (len ≤ cap ∧ (ao = none → len = 0 ∧ cap = 0)) ∧ (∀ i, 0 ≤ ns.getD i 0 ∧ ns.getD i 0 ≤ 18446744073709551615) ∧
    (0 < len → ∃ b off, ao = some ⟨b, off, none⟩ ∧ ∀ i, i < len → w.cell? ⟨b, off + i, none⟩ = some (.int .u64 (ns.getD i 0)))

theorem urange_of {ns : List Int} (h : ∀ z ∈ ns, 0 ≤ z ∧ z ≤ 18446744073709551615) : ∀ i, 0 ≤ ns.getD i 0 ∧ ns.getD i 0 ≤ 18446744073709551615 := by
  intro i
  rcases Nat.lt_or_ge i ns.length with hi | hi
  · have : ns.getD i 0 = ns[i] := by simp [List.getD, List.getElem?_eq_getElem hi]
    rw [this]; exact h _ (List.getElem_mem hi)
  · have : ns.getD i 0 = 0 := by simp [List.getD, List.getElem?_eq_none hi]
    rw [this]; omega
theorem us_nil (w : World) : Us w none 0 0 [] := ⟨rfl, ⟨Nat.le_refl _, fun _ => ⟨rfl, rfl⟩⟩, urange_of (by simp), fun h => by omega⟩
theorem us_of_row {w : World} {a : Option Addr} {len cap : Nat} {zs : List Int}
    (h : (a = none ∧ len = 0 ∧ cap = 0 ∧ zs = []) ∨ ∃ x, a = some x ∧ len ≤ cap ∧ cap ≤ maxLen ∧ zs.length = cap ∧ (∀ i, i < zs.length → w.cell? (x.add i) = some (.int .u64 (zs.getD i 0))) ∧ ∀ n ∈ zs, (Lit.int .u64 n).wf = true) :
    Us w a len cap (zs.take len) ∧ len ≤ 9223372036854775807 := by
  rcases h with ⟨rfl, rfl, rfl, rfl⟩ | ⟨x, rfl, hl, hm, hz, hcell, hwz⟩
  · exact ⟨us_nil w, by omega⟩
  · unfold maxLen at hm
    refine ⟨⟨by rw [List.length_take]; omega, ⟨hl, fun h => by cases h⟩, urange_of fun z hz => u64_bounds (hwz z (List.mem_of_mem_take hz)), fun h0 => ?_⟩, by omega⟩
    obtain ⟨b, off, spot⟩ := x
    have hc := hcell 0 (by omega)
    have hspot : spot = none := by simpa [Addr.add] using World.cell?_spot hc
    subst hspot
    refine ⟨b, off, rfl, fun i hi => ?_⟩
    have := hcell i (by omega)
    rw [add_plain] at this
    rw [this]
    simp [List.getD, hi]
theorem Us.below {w w' : World} {B : Nat} {ao : Option Addr} {len cap : Nat} {zs : List Int} (h : Us w ao len cap zs) (hb : Below B w w') (hB : w.heap.size ≤ B) : Us w' ao len cap zs := by
  refine ⟨h.1, h.2.1, h.2.2.1, fun h0 => ?_⟩
  obtain ⟨b, off, ho, hc⟩ := h.2.2.2 h0
  refine ⟨b, off, ho, fun i hi => ?_⟩
  rw [hb.cell (p := ⟨b, off + i, none⟩) (Nat.lt_of_lt_of_le (World.block_lt_of_cell? w _ (hc i hi)) hB)]
  exact hc i hi

/-- The first k numbers, by sevens. -/
def rows (ns : List Int) (k : Nat) : List Int := (ns.take k).flatMap pu
def rest (ns : List Int) (k : Nat) : List Int := (ns.drop k).flatMap pu
theorem rows_succ (ns : List Int) (k : Nat) (h : k < ns.length) : rows ns (k + 1) = rows ns k ++ pu (ns.getD k 0) := by
  unfold rows
  rw [List.take_succ_eq_append_getElem h, List.flatMap_append]
  simp [List.getD, List.getElem?_eq_getElem h]
theorem rest_at (ns : List Int) (k : Nat) (h : k < ns.length) : rest ns k = pu (ns.getD k 0) ++ rest ns (k + 1) := by
  unfold rest
  rw [drop_get ns k h, List.flatMap_cons]
theorem rest_end (ns : List Int) (k : Nat) (h : ns.length ≤ k) : rest ns k = [] := by
  unfold rest; rw [List.drop_eq_nil_of_le h]; rfl
theorem rows_rest (ns : List Int) (k : Nat) : rows ns k ++ rest ns k = rest ns 0 := by
  unfold rows rest
  rw [← List.flatMap_append, List.take_append_drop, List.drop_zero]
theorem rows_all (ns : List Int) (k : Nat) (h : ns.length ≤ k) : rows ns k = rest ns 0 := by
  rw [← rows_rest ns k, rest_end ns k h, List.append_nil]
theorem rows_len (ns : List Int) : ∀ k, k ≤ ns.length → (rows ns k).length ≤ 10 * k
  | 0, _ => by simp [rows]
  | k + 1, h => by
    have ih := rows_len ns k (by omega)
    have := pu_len (ns.getD k 0)
    rw [rows_succ ns k (by omega), List.length_append]; omega
theorem rows_range (ns : List Int) (hz : ∀ i, 0 ≤ ns.getD i 0 ∧ ns.getD i 0 ≤ 18446744073709551615) (k : Nat) : ∀ z ∈ rows ns k, 0 ≤ z ∧ z < 256 := by
  intro z h
  unfold rows at h
  obtain ⟨n, hn, hz'⟩ := List.mem_flatMap.1 h
  obtain ⟨j, hj, rfl⟩ := List.getElem_of_mem (List.mem_of_mem_take hn)
  have := hz j
  have e : ns.getD j 0 = ns[j] := by simp [List.getD, List.getElem?_eq_getElem hj]
  rw [e] at this
  exact pu_range _ this.1 this.2 z hz'
theorem drop_rows (ns : List Int) (k : Nat) : (rest ns 0).drop (rows ns k).length = rest ns k := by
  rw [← rows_rest ns k]; simp
theorem tk_rest (ns : List Int) (hz : ∀ i, 0 ≤ ns.getD i 0 ∧ ns.getD i 0 ≤ 18446744073709551615) (k : Nat) (h : k < ns.length) : tk (rest ns k) 0 0 = (ns.getD k 0, ((pu (ns.getD k 0)).length : Int), 0) := by
  rw [rest_at ns k h, tk_pu _ _ (hz k).1 (hz k).2]
end Go.Proofs.YtcahlmneancapaaGreatDoor.Clep

/- What the reader of package num does when called: its place, and the number that it takes. Conditions: the reader's cells hold what is said, and are its own. -/
namespace Go.Proofs.YtcahlmneancapaaGreatDoor.Clep
open Go.RowKit
set_option linter.unusedVariables false
set_option maxRecDepth 10000

def tup2 (r : Int × Int) : Value := .tuple #[.int .u64 r.1, .int .i64 r.2]
set_option maxHeartbeats 400000 in
theorem place_any (R : Nat) (p : Int) (w : World) (h0 : w.cell? ⟨R, 1, none⟩ = some (.int .i64 p)) (h1 : 0 ≤ p) (h2 : p ≤ 9223372036854775807) :
    Calls Tryz.prog 204 #[.pointer (some ⟨R, 0, none⟩)] w fun e w' => e = .returned (.int .i64 p) ∧ w' = w := by
  have hld := run_call_load (P := Tryz.prog) Tryz.func141 (by kernel_rfl) (by kernel_rfl) (by kernel_rfl) .i64 (by kernel_rfl) h0
  go_enter Tryz.func204, Tryz.ntmps204
  go_wp2
  go_ret
  exact ⟨rfl, rfl⟩

set_option maxHeartbeats 1000000 in
theorem rtake_in (R P len cap b off : Nat) (zs : List Int) (w : World) (x s e : Int) (hr : Hid (tk (zs.drop P) 0 0 = (x, s, e))) (hs : 0 ≤ s ∧ s ≤ 10) (h : Bs w (some ⟨b, off, none⟩) len cap zs) (hP : P < len) (hm : len ≤ 4611686018427387904) (hcap : len ≤ cap) (hcm : cap ≤ 9223372036854775807)
    (h0 : w.cell? ⟨R, 0, none⟩ = some (.slice (some ⟨b, off, none⟩) len cap)) (h1 : w.cell? ⟨R, 1, none⟩ = some (.int .i64 P)) (f1 : w.frozen? ⟨R, 1, none⟩ = false) :
    Calls Tryz.prog 203 #[.pointer (some ⟨R, 0, none⟩)] w fun en w' => en = .returned (tup2 (x, e)) ∧ ∃ w1, Below w.heap.size w w1 ∧ w' = w1.setCell ⟨R, 1, none⟩ (.int .i64 (P + s)) := by
  have hR : R < w.heap.size := World.block_lt_of_cell? w _ h0
  have c0 : ∀ p : Kp w, p.W.cell? ⟨R, 0, none⟩ = some (.slice (some ⟨b, off, none⟩) len cap) := fun p => by rw [p.h.cell (p := ⟨R, 0, none⟩) hR]; exact h0
  have c1 : Hid (∀ W, Below w.heap.size w W → W.cell? ⟨R, 1, none⟩ = some (.int .i64 P)) := hide fun W hW => by rw [hW.cell (p := ⟨R, 1, none⟩) hR]; exact h1
  have cf : Hid (∀ W, Below w.heap.size w W → W.frozen? ⟨R, 1, none⟩ = false) := hide fun W hW => by rw [hW.frozen (p := ⟨R, 1, none⟩) hR]; exact f1
  have cP : Hid (∀ p : Kp w, Calls Tryz.prog 204 #[.pointer (some ⟨R, 0, none⟩)] p.W fun e w'' => e = .returned (.int .i64 P) ∧ ∃ q : Kp w, w'' = q.W) := hide fun p => kp_same (place_any R P _ (c1.out _ p.h) (by omega) (by omega))
  have cT : Hid (∀ p : Kp w, Calls Tryz.prog 85 #[.slice (some ⟨b, off + P, none⟩) (len - P) (cap - P)] p.W fun en w'' => en = .returned (.tuple #[.int .u64 x, .int .i64 s, .int .i64 e]) ∧ ∃ q : Kp w, w'' = q.W) := hide fun p => kp_same (by
    have := take_any _ (len - P) (cap - P) (zs.drop P) p.W (by omega) ((h.below p.h (Nat.le_refl _)).dropAt P (by omega))
    rwa [hr.out] at this)
  have hne : Nonempty (Kp w) := ⟨⟨w, Below.refl _ _⟩⟩
  have hlt : P < cap := by omega
  clear h h0 h1 f1
  go_enter Tryz.func203, Tryz.ntmps203
  go_wp2_with fail
  refine wp_region_kept (by kernel_rfl) (by kernel_rfl) ?_
  repeat (first
    | go_big_quiet_step (first | (go_at_call 204; exact cP.out _) | (go_at_call 85; exact cT.out _))
    | fail)
  refine wpQuiet_nil ?_
  intro w1 hw'
  have HB : Hid (Below w.heap.size w w1) := by
    obtain ⟨⟨w3', hb3⟩, hw''⟩ := hw'
    rw [hw'']; exact hb3
  have k1 := c1.out _ HB.out
  have kf := cf.out _ HB.out
  have hadd := run_call_add (P := Tryz.prog) Tryz.func120 (by kernel_rfl) (by kernel_rfl) (by kernel_rfl) .i64 (by kernel_rfl) (y := s) (s := (P : Int) + s) k1 kf (by
    simp [go_sem, IntKind.wrap, IntKind.bits, IntKind.signed]
    omega)
  clear hw' c0 hne cP cT c1 cf
  go_wp2
  go_ret2
  exact ⟨rfl, w1, HB.out, rfl⟩

/-- At the end of the bytes nothing is taken. -/
theorem rtake_end (R P len cap : Nat) (ao : Option Addr) (w : World) (hP : P = len) (hm : len ≤ 4611686018427387904) (hcap : len ≤ cap) (hcm : cap ≤ 9223372036854775807)
    (h0 : w.cell? ⟨R, 0, none⟩ = some (.slice ao len cap)) (h1 : w.cell? ⟨R, 1, none⟩ = some (.int .i64 P)) (f1 : w.frozen? ⟨R, 1, none⟩ = false) :
    Calls Tryz.prog 203 #[.pointer (some ⟨R, 0, none⟩)] w fun en w' => en = .returned (tup2 (0, 4)) ∧ ∃ w1, Below w.heap.size w w1 ∧ w' = w1.setCell ⟨R, 1, none⟩ (.int .i64 P) := by
  subst hP
  have hR : R < w.heap.size := World.block_lt_of_cell? w _ h0
  have c0 : ∀ p : Kp w, p.W.cell? ⟨R, 0, none⟩ = some (.slice ao P cap) := fun p => by rw [p.h.cell (p := ⟨R, 0, none⟩) hR]; exact h0
  have c1 : Hid (∀ W, Below w.heap.size w W → W.cell? ⟨R, 1, none⟩ = some (.int .i64 P)) := hide fun W hW => by rw [hW.cell (p := ⟨R, 1, none⟩) hR]; exact h1
  have cf : Hid (∀ W, Below w.heap.size w W → W.frozen? ⟨R, 1, none⟩ = false) := hide fun W hW => by rw [hW.frozen (p := ⟨R, 1, none⟩) hR]; exact f1
  have cP : Hid (∀ p : Kp w, Calls Tryz.prog 204 #[.pointer (some ⟨R, 0, none⟩)] p.W fun e w'' => e = .returned (.int .i64 P) ∧ ∃ q : Kp w, w'' = q.W) := hide fun p => kp_same (place_any R P _ (c1.out _ p.h) (by omega) (by omega))
  have cT : Hid (∀ (p : Kp w) (ad : Option Addr) (c : Nat), Calls Tryz.prog 85 #[.slice ad 0 c] p.W fun en w'' => en = .returned (.tuple #[.int .u64 0, .int .i64 0, .int .i64 4]) ∧ ∃ q : Kp w, w'' = q.W) := hide fun p ad c => kp_same (take_none ad c p.W)
  have hne : Nonempty (Kp w) := ⟨⟨w, Below.refl _ _⟩⟩
  clear h0 h1 f1
  go_enter Tryz.func203, Tryz.ntmps203
  go_wp2_with fail
  refine wp_region_kept (by kernel_rfl) (by kernel_rfl) ?_
  repeat (first
    | go_big_quiet_step (first | (go_at_call 204; exact cP.out _) | (go_at_call 85; exact cT.out _ _ _))
    | fail)
  refine wpQuiet_nil ?_
  intro w1 hw'
  have HB : Hid (Below w.heap.size w w1) := by
    obtain ⟨⟨w3', hb3⟩, hw''⟩ := hw'
    rw [hw'']; exact hb3
  have k1 := c1.out _ HB.out
  have kf := cf.out _ HB.out
  have hadd := run_call_add (P := Tryz.prog) Tryz.func120 (by kernel_rfl) (by kernel_rfl) (by kernel_rfl) .i64 (by kernel_rfl) (y := 0) (s := (P : Int)) k1 kf (by
    simp [go_sem, IntKind.wrap, IntKind.bits, IntKind.signed]
    omega)
  clear hw' c0 hne cP cT c1 cf
  go_wp2
  all_goals
    go_ret2
    exact ⟨rfl, w1, HB.out, rfl⟩

end Go.Proofs.YtcahlmneancapaaGreatDoor.Clep

/- What num.List does when called (a walk over the translated program): for any bytes of at most 2^46, any numbers up to a million. -/
namespace Go.Proofs.YtcahlmneancapaaGreatDoor.Clep
open Go.RowKit
set_option linter.unusedVariables false
set_option maxRecDepth 10000

/-- What List writes of ns. -/
def li (ns : List Int) : List Int := pu (ns.length : Int) ++ rest ns 0

set_option maxHeartbeats 1000000 in
theorem list_any (ao : Option Addr) (len cap : Nat) (zs : List Int) (a1 : Option Addr) (len1 cap1 : Nat) (ns : List Int) (w : World) (hm : len ≤ 35184372088832) (h : Bs w ao len cap zs) (hm1 : len1 ≤ 100000) (h1 : Us w a1 len1 cap1 ns) :
    Calls Tryz.prog 106 #[.slice ao len cap, .slice a1 len1 cap1] w fun e w' => ∃ v, e = .returned v ∧ Own w' w.heap.size v (zs ++ li ns) ∧ Below w.heap.size w w' := by
  have H := hide h
  have H1 := hide h1
  have hzl := hide h.1
  have hnl := hide h1.1
  have hz := hide h1.2.2.1
  clear h h1
  go_enter Tryz.func106, Tryz.ntmps106
  go_wp2_with fail
  refine (room_any ao len cap zs w _ (by omega) (by omega) (by omega) H.out).mono ?_
  rintro e w1 ⟨v, rfl, ho, hb⟩
  have HO := hide ho
  have HB := hide hb
  clear ho hb
  go_wp2_with fail
  refine (grow_any v zs w.heap.size w1 _ (by omega) (by omega) (by have := hzl.out; omega) HO.out HB.out.size).mono ?_
  rintro e w2 ⟨v', rfl, ho2, hb2⟩
  have HO2 := hide ho2
  have HB2 := hide (HB.out.trans hb2)
  clear ho2 hb2
  go_wp2_with fail
  go_loopw [5, 19] (fun u i wr => ∃ k : Nat, k ≤ len1 ∧ i = .int .i64 k ∧ Hid (Own wr w.heap.size u (zs ++ pu (len1 : Int) ++ rows ns k)) ∧ Hid (Below w.heap.size w wr)) (fun _ i _ => len1 - (intOf i).toNat)
  case atStart => exact ⟨0, by omega, rfl, hide (by simpa [rows] using HO2.out), HB2⟩
  case round =>
    obtain ⟨k, hk, rfl, hown, hbel⟩ := hrel
    by_cases hlt : k < len1
    · obtain ⟨b, off, rfl, hcell⟩ := (H1.out.below hbel.out (Nat.le_refl _)).2.2.2 (by omega)
      have hck := hcell k hlt
      have hzk := hz.out k
      have HS := hide (rows_succ ns k (by rw [hnl.out]; exact hlt))
      have HLn := hide (rows_len ns k (by rw [hnl.out]; omega))
      have HPL := hide (pu_len (len1 : Int))
      clear hcell
      generalize ns.getD k 0 = c at *
      go_wp2_with fail
      refine (grow_any _ _ w.heap.size wr c hzk.1 hzk.2 ?_ hown.out hbel.out.size).mono ?_
      · rw [List.length_append, List.length_append]; have := HLn.out; have := HPL.out; have := hzl.out; omega
      rintro e w3 ⟨v3, rfl, ho3, hb3⟩
      rw [List.append_assoc _ (rows ns k), ← HS.out] at ho3
      have HO3 := hide ho3
      have HB3 := hide (hbel.out.trans hb3)
      clear ho3 hb3
      go_wp2_with fail
      go_roundw
      case rel => exact ⟨k + 1, by omega, by go_num, HO3, HB3⟩
      case measure => simp [intOf]; omega
    · have HE : Hid (zs ++ pu (len1 : Int) ++ rows ns k = zs ++ li ns) := hide (by unfold li; rw [rows_all ns k (by rw [hnl.out]; omega), hnl.out, List.append_assoc])
      go_wp2
      go_ret
      exact ⟨_, rfl, by rw [← HE.out]; exact hown.out, hbel.out⟩

end Go.Proofs.YtcahlmneancapaaGreatDoor.Clep

/- What num.Unlist does when called (a walk over the translated program): for any bytes up to 2^40, any bound. -/
namespace Go.Proofs.YtcahlmneancapaaGreatDoor.Clep
open Go.RowKit
set_option linter.unusedVariables false
set_option maxRecDepth 10000

/-- c numbers from place P of zs on, behind acc: the numbers, the place behind them, the error. -/
def uls : Nat → List Int → Nat → List Int → List Int × Int × Int
  | 0, _, P, acc => (acc, (P : Int), 0)
  | c + 1, zs, P, acc => if (tk (zs.drop P) 0 0).2.2 = 0 then uls c zs (P + (tk (zs.drop P) 0 0).2.1.toNat) (acc ++ [(tk (zs.drop P) 0 0).1]) else ([], 0, (tk (zs.drop P) 0 0).2.2)
/-- What Unlist answers. -/
def ul (zs : List Int) (most : Int) : List Int × Int × Int :=
  if (tk zs 0 0).2.2 = 0 then (if max most 0 < (tk zs 0 0).1 then ([], 0, 2) else uls (tk zs 0 0).1.toNat zs (tk zs 0 0).2.1.toNat []) else ([], 0, (tk zs 0 0).2.2)

def uv (ns : List Int) : List Value := ns.map (Value.int .u64)
def OwnU (w : World) (B : Nat) (v : Value) (ns : List Int) : Prop := w.ownsRow B 29 1 v ns.length (uv ns)
theorem info25 : (Tryz.prog.info? 29).map (fun i => (i.zero, i.size, i.bytes)) = some (some (.int .u64 0), 1, 8) := by kernel_rfl

theorem ownU_below {w w' : World} {B : Nat} {v : Value} {ns : List Int} (h : OwnU w B v ns) (hb : Below w.heap.size w w') : OwnU w' B v ns := by
  obtain ⟨h1, h2⟩ := h
  refine ⟨h1, ?_⟩
  rcases h2 with h2 | ⟨g, cap, cur, hv, hg, hh, r⟩
  · exact .inl h2
  · exact .inr ⟨g, cap, cur, hv, hg, by rw [hb.block g (Array.getElem?_eq_some_iff.1 hh).1]; exact hh, r⟩
theorem ownU_snoc {w : World} {B : Nat} {v : Value} {ys : List Int} {z : Int} (h : w.ownsRow B 29 1 v (ys.length + 1) (uv ys ++ [.int .u64 z])) : OwnU w B v (ys ++ [z]) := by
  unfold OwnU uv; simpa [uv] using h

theorem ownU_mono {w : World} {B B' : Nat} {v : Value} {ns : List Int} (h : OwnU w B v ns) (hB : B' ≤ B) : OwnU w B' v ns := by
  obtain ⟨h1, h2⟩ := h
  refine ⟨h1, ?_⟩
  rcases h2 with h2 | ⟨g, cap, cur, hv, hg, r⟩
  · exact .inl h2
  · exact .inr ⟨g, cap, cur, hv, by omega, r⟩

/-- A reader's call, at whatever place. -/
theorem rtake_any (R P len cap : Nat) (ao : Option Addr) (zs : List Int) (w : World) (h : Bs w ao len cap zs) (hP : P ≤ len) (hm : len ≤ 4611686018427387904) (hcm : cap ≤ 9223372036854775807)
    (h0 : w.cell? ⟨R, 0, none⟩ = some (.slice ao len cap)) (h1 : w.cell? ⟨R, 1, none⟩ = some (.int .i64 P)) (f1 : w.frozen? ⟨R, 1, none⟩ = false) :
    Calls Tryz.prog 203 #[.pointer (some ⟨R, 0, none⟩)] w fun en w' => en = .returned (tup2 ((tk (zs.drop P) 0 0).1, (tk (zs.drop P) 0 0).2.2)) ∧ ∃ w1, Below w.heap.size w w1 ∧ w' = w1.setCell ⟨R, 1, none⟩ (.int .i64 ((P + (tk (zs.drop P) 0 0).2.1.toNat : Nat) : Int)) := by
  have hsz := tk_size (zs.drop P) 0 0 (by omega)
  by_cases hlt : P < len
  · obtain ⟨b, off, rfl, _⟩ := h.2.2.2 (by omega)
    have := rtake_in R P len cap b off zs w _ _ _ (hide (rfl : tk (zs.drop P) 0 0 = ((tk (zs.drop P) 0 0).1, (tk (zs.drop P) 0 0).2.1, (tk (zs.drop P) 0 0).2.2))) ⟨hsz.1, hsz.2.1⟩ h hlt hm h.2.1.1 hcm h0 h1 f1
    rw [show ((P + (tk (zs.drop P) 0 0).2.1.toNat : Nat) : Int) = (P : Int) + (tk (zs.drop P) 0 0).2.1 from by omega]
    exact this
  · have e : zs.drop P = [] := List.drop_eq_nil_of_le (by have := h.1; omega)
    rw [e]
    exact rtake_end R P len cap ao w (by omega) hm h.2.1.1 hcm h0 h1 f1

/-- The reader's own block in W, at place P; all that was there in w is kept. -/
def Rd (w W : World) (ao : Option Addr) (len cap P : Nat) : Prop :=
  W.cell? ⟨w.heap.size, 0, none⟩ = some (.slice ao len cap) ∧ W.cell? ⟨w.heap.size, 1, none⟩ = some (.int .i64 P) ∧ W.frozen? ⟨w.heap.size, 1, none⟩ = false ∧ Below w.heap.size w W ∧ w.heap.size < W.heap.size
theorem rd_new (w : World) (ao : Option Addr) (len cap : Nat) (t : TypeId) : Rd w (w.alloc (.cells #[.slice ao len cap, .int .i64 0] t)) ao len cap 0 :=
  ⟨by simp, by simp, by simp, (Below.refl _ _).alloc (Nat.le_refl _) _, by simp⟩
theorem rd_below {w W W' : World} {ao : Option Addr} {len cap P : Nat} (h : Rd w W ao len cap P) (hb : Below (w.heap.size + 1) W W') : Rd w W' ao len cap P := by
  obtain ⟨h1, h2, h3, h4, h5⟩ := h
  refine ⟨?_, ?_, ?_, h4.trans (hb.mono (by omega)), Nat.lt_of_lt_of_le h5 hb.size⟩
  · rw [hb.cell (p := ⟨w.heap.size, 0, none⟩) (by simp)]; exact h1
  · rw [hb.cell (p := ⟨w.heap.size, 1, none⟩) (by simp)]; exact h2
  · rw [hb.frozen (p := ⟨w.heap.size, 1, none⟩) (by simp)]; exact h3
theorem rd_set {w W : World} {ao : Option Addr} {len cap P : Nat} (h : Rd w W ao len cap P) (Q : Nat) : Rd w (W.setCell ⟨w.heap.size, 1, none⟩ (.int .i64 Q)) ao len cap Q := by
  obtain ⟨h1, h2, h3, h4, h5⟩ := h
  refine ⟨?_, ?_, ?_, h4.setCell (Nat.le_refl _) _, by simpa using h5⟩
  · rw [World.cell?_setCell_other _ _ _ _ (by simp)]; exact h1
  · exact World.cell?_setCell_same _ _ _ h2
  · simpa using h3
theorem uls_yes (c : Nat) (zs : List Int) (P : Nat) (acc : List Int) (x s e : Int) (hr : tk (zs.drop P) 0 0 = (x, s, e)) (he : e = 0) : uls (c + 1) zs P acc = uls c zs (P + s.toNat) (acc ++ [x]) := by
  rw [uls, hr, if_pos he]
theorem uls_no (c : Nat) (zs : List Int) (P : Nat) (acc : List Int) (x s e : Int) (hr : tk (zs.drop P) 0 0 = (x, s, e)) (he : ¬ e = 0) : uls (c + 1) zs P acc = ([], 0, e) := by
  rw [uls, hr, if_neg he]

/-- A reader's call, in the words of its own block. -/
theorem rtake_rd (P len cap : Nat) (ao : Option Addr) (zs : List Int) (w W : World) (h : Bs w ao len cap zs) (hP : P ≤ len) (hm : len ≤ 1099511627776) (hcm : cap ≤ 9223372036854775807) (hR : Rd w W ao len cap P)
    (x s e : Int) (hT : tk (zs.drop P) 0 0 = (x, s, e)) (Q : Nat) (hQ : Q = P + s.toNat) :
    Calls Tryz.prog 203 #[.pointer (some ⟨w.heap.size, 0, none⟩)] W fun en W' => en = .returned (.tuple #[.int .u64 x, .int .i64 e]) ∧ Rd w W' ao len cap Q ∧ ∀ v ns, OwnU W (w.heap.size + 1) v ns → OwnU W' (w.heap.size + 1) v ns := by
  refine (rtake_any w.heap.size P len cap ao zs W (h.below hR.2.2.2.1 (Nat.le_refl _)) hP (by omega) hcm hR.1 hR.2.1 hR.2.2.1).mono ?_
  rw [hT]
  rintro en W' ⟨rfl, w0, hb0, rfl⟩
  refine ⟨rfl, ?_, fun v ns ho => ?_⟩
  · rw [hQ]; exact rd_set (rd_below hR (hb0.mono (by have := hR.2.2.2.2; omega))) _
  · exact ownsRow_setCell_below (ownU_below ho hb0) (by simp) _

set_option maxHeartbeats 2000000 in
theorem unlist_any (ao : Option Addr) (len cap : Nat) (zs : List Int) (most : Int) (w : World) (hm : len ≤ 1099511627776) (hcm : cap ≤ 9223372036854775807) (h : Bs w ao len cap zs) (hmo : most ≤ 9223372036854775807) (hmo2 : -9223372036854775808 ≤ most) (r : List Int × Int × Int) (hr : Hid (ul zs most = r)) :
    Calls Tryz.prog 174 #[.slice ao len cap, .int .i64 most] w fun e w' => ∃ v, e = .returned (.tuple #[v, .int .i64 r.2.1, .int .i64 r.2.2]) ∧ OwnU w' w.heap.size v r.1 ∧ Below w.heap.size w w' := by
  obtain ⟨i0, hi, hz0, hz1, hz2⟩ := info_parts info25
  have H := hide h
  have hzr := hide (bs_range h)
  have hzl := hide h.1
  clear h
  go_enter Tryz.func174, Tryz.ntmps174
  go_wp2_with fail
  have hf := tk_facts zs 0 0 (by omega) hzr.out (by omega) (by simp)
  have hsz := tk_size zs 0 0 (by omega)
  obtain ⟨C, S0, E, hT⟩ : ∃ C S0 E, tk zs 0 0 = (C, S0, E) := ⟨_, _, _, rfl⟩
  rw [hT] at hf hsz
  have HT := hide hT
  clear hT
  simp only at hf hsz
  obtain ⟨P0, hP0⟩ : ∃ P0, P0 = 0 + S0.toNat := ⟨_, rfl⟩
  refine (rtake_rd 0 len cap ao zs w _ H.out (Nat.zero_le _) hm hcm (rd_new w ao len cap 263) C S0 E (by rw [List.drop_zero]; exact HT.out) P0 hP0).mono ?_
  rintro e w1 ⟨rfl, hrd, _⟩
  have HR := hide hrd
  have hP0l : P0 ≤ len := by have := hzl.out; omega
  have HP0 := hide hP0
  clear hrd hP0
  by_cases hE : E = 0
  · have hEb : (E != 0) = false := by simp [hE]
    have HE := hide hE
    clear hE
    obtain ⟨M, hM, hMc⟩ : ∃ M : Int, M = max most 0 ∧ ((most < 0 ∧ M = 0) ∨ (0 ≤ most ∧ M = most)) := ⟨max most 0, rfl, by omega⟩
    have HM := hide hM
    clear hM
    by_cases hC : M < C
    · have HRR : Hid (r = ([], 0, 2)) := hide (by rw [← hr.out]; unfold ul; rw [HT.out]; simp only; rw [if_pos HE.out, if_pos (by rw [← HM.out]; exact hC)])
      rcases hMc with ⟨hq, hM0⟩ | ⟨hq, hM0⟩
      all_goals
        rw [hM0] at hC
        clear hM0
        go_wp2
        go_ret3
        rw [HRR.out]
        exact ⟨_, rfl, World.ownsRow_nil _ _ _ _, HR.out.2.2.2.1⟩
    · have HRR : Hid (uls C.toNat zs P0 [] = r) := hide (by rw [← hr.out]; unfold ul; rw [HT.out]; simp only; rw [if_pos HE.out, if_neg (by rw [← HM.out]; exact hC), HP0.out, Nat.zero_add])
      have hC0 := hf.1
      have hC1 := hf.2.1
      rcases hMc with ⟨hq, hM0⟩ | ⟨hq, hM0⟩
      · rw [hM0] at hC
        clear hM0 hf hsz HP0
        go_wp2_with fail
        go_loopw [10, 28] (fun u i wr => ∃ (k P : Nat) (acc : List Int), i = .int .u64 k ∧ (k : Int) ≤ C ∧ acc.length ≤ P ∧ P ≤ len ∧ Hid (uls (C.toNat - k) zs P acc = r) ∧ Hid (OwnU wr (w.heap.size + 1) u acc) ∧ Hid (Rd w wr ao len cap P)) (fun _ i _ => (C - intOf i).toNat)
        case atStart => exact ⟨0, P0, [], rfl, hC0, by simp, hP0l, HRR, hide (World.ownsRow_nil _ _ _ _), HR⟩
        case round =>
          obtain ⟨k, P, acc, rfl, hk, hacc, hP, hu, hown, hR⟩ := hrel
          by_cases hlt : (k : Int) < C
          · exact absurd hlt (by omega)
          · have HRR2 : Hid (r = (acc, (P : Int), 0)) := hide (by rw [← hu.out, show C.toNat - k = 0 from by omega]; rfl)
            go_wp2_with (go_at_call 204; refine (place_any _ P _ hR.out.2.1 ?_ ?_).mono ?_; rotate_left 2; rintro en w2 ⟨rfl, rfl⟩; rotate_right 2; omega; omega)
            go_ret3
            rw [HRR2.out]
            exact ⟨_, rfl, ownU_mono hown.out (by omega), hR.out.2.2.2.1⟩
      · rw [hM0] at hC
        clear hM0 hf hsz HP0
        go_wp2_with fail
        go_loopw [10, 28] (fun u i wr => ∃ (k P : Nat) (acc : List Int), i = .int .u64 k ∧ (k : Int) ≤ C ∧ acc.length ≤ P ∧ P ≤ len ∧ Hid (uls (C.toNat - k) zs P acc = r) ∧ Hid (OwnU wr (w.heap.size + 1) u acc) ∧ Hid (Rd w wr ao len cap P)) (fun _ i _ => (C - intOf i).toNat)
        case atStart => exact ⟨0, P0, [], rfl, hC0, by simp, hP0l, HRR, hide (World.ownsRow_nil _ _ _ _), HR⟩
        case round =>
          obtain ⟨k, P, acc, rfl, hk, hacc, hP, hu, hown, hR⟩ := hrel
          by_cases hlt : (k : Int) < C
          · have hf := tk_facts (zs.drop P) 0 0 (by omega) (fun z hz => hzr.out z (List.mem_of_mem_drop hz)) (by omega) (by simp)
            have hsz := tk_size (zs.drop P) 0 0 (by omega)
            obtain ⟨x, s, e, hT⟩ : ∃ x s e, tk (zs.drop P) 0 0 = (x, s, e) := ⟨_, _, _, rfl⟩
            rw [hT] at hf hsz
            have HT2 := hide hT
            clear hT
            simp only at hf hsz
            rw [List.length_drop] at hsz
            obtain ⟨Q, hQ⟩ : ∃ Q, Q = P + s.toNat := ⟨_, rfl⟩
            go_wp2_with fail
            refine (rtake_rd P len cap ao zs w wr H.out hP hm hcm hR.out x s e HT2.out Q hQ).mono ?_
            rintro en w2 ⟨rfl, hrd, hkeep⟩
            have HR2 := hide hrd
            have HO2 := hide (hkeep _ _ hown.out)
            have hQl : Q ≤ len := by have := hzl.out; omega
            have HQ := hide hQ
            have HF := hide hf
            have hx := hf.1
            have hx1 := hf.2.1
            clear hrd hkeep hQ hsz hf
            by_cases he : e = 0
            · have heb : (e != 0) = false := by simp [he]
              have hQP : P + 1 ≤ Q := by have := HF.out.2.2 he; have := HQ.out; omega
              have HU2 : Hid (uls (C.toNat - (k + 1)) zs Q (acc ++ [x]) = r) := hide (by rw [← hu.out, show C.toNat - k = (C.toNat - (k + 1)) + 1 from by omega, uls_yes _ zs P acc x s e HT2.out he, HQ.out])
              clear he
              have hszw := hide HR2.out.2.2.2.2
              go_wp2_with (first
                | (at_builtin; refine wpList_append_own _ rfl _ _ 160 rfl (w.heap.size + 1) 29 i0 (.int .u64 0) 1 8 Tryz.underlying160 hi hz0 hz1 hz2 rfl (by decide) _ _ _ rfl (HO2.out.alloc _) ⟨w2.heap.size, 0, none⟩ 1 1 [.int .u64 x] rfl rfl ?d1 ?d2 ?d3 ?d4 ?d5 ?_)
                | fail)
              case d1 => exact cell_one_new _ _ _
              case d2 => intro u hu; simp at hu; subst hu; rfl
              case d3 => unfold maxLen; omega
              case d4 => omega
              case d5 => have := hszw.out; simp; omega
              intro v' w3 hown' hgrow _
              have HW := hide (ownU_snoc hown')
              have HR3 : Hid (Rd w w3 ao len cap Q) := hide (rd_below HR2.out (((Below.refl _ _).alloc (by have := hszw.out; omega) _).grown hgrow (by have := hszw.out; simp; omega) (fun j hj => (World.ownsRow.lt HO2.out j hj).1)))
              clear hown' hgrow
              go_wp2
              go_roundw
              case rel => exact ⟨k + 1, Q, acc ++ [x], by go_num, by omega, by simp; omega, hQl, HU2, HW, HR3⟩
              case measure => simp [intOf]; omega
            · have heb : (e != 0) = true := by simp [he]
              have HRR2 : Hid (r = ([], 0, e)) := hide (by rw [← hu.out, show C.toNat - k = (C.toNat - (k + 1)) + 1 from by omega, uls_no _ zs P acc x s e HT2.out he])
              clear he
              go_wp2
              go_ret3
              rw [HRR2.out]
              exact ⟨_, rfl, World.ownsRow_nil _ _ _ _, HR2.out.2.2.2.1⟩
          · have HRR2 : Hid (r = (acc, (P : Int), 0)) := hide (by rw [← hu.out, show C.toNat - k = 0 from by omega]; rfl)
            go_wp2_with (go_at_call 204; refine (place_any _ P _ hR.out.2.1 ?_ ?_).mono ?_; rotate_left 2; rintro en w2 ⟨rfl, rfl⟩; rotate_right 2; omega; omega)
            go_ret3
            rw [HRR2.out]
            exact ⟨_, rfl, ownU_mono hown.out (by omega), hR.out.2.2.2.1⟩
  · have hEb : (E != 0) = true := by simp [hE]
    have HRR : Hid (r = ([], 0, E)) := hide (by rw [← hr.out]; unfold ul; rw [HT.out]; simp only; rw [if_neg hE])
    clear hE
    go_wp2
    go_ret3
    rw [HRR.out]
    exact ⟨_, rfl, World.ownsRow_nil _ _ _ _, HR.out.2.2.2.1⟩

end Go.Proofs.YtcahlmneancapaaGreatDoor.Clep
