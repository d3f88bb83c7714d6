/- What From, Get, Level and All of a List do when called. Conditions: fewer than 2^40 items. -/
import Derived.Test.YtakpapgjdpnedaaTHeld
import Derived.Maps.AppendAt
namespace Go.Proofs.Ytakpapgjdpnedaa.Clep
open Go.RowKit
set_option linter.unusedVariables false

def it0 : It := ⟨0, 0, 0, 0, 0⟩
/-- The least that is not ahead of x. -/
def fromW (x : It) (ws : List (It × Nat)) : Option It := (ws.find? fun p => !(p.1.less x)).map Prod.fst
def getW (x : It) (ws : List (It × Nat)) : Option It := match fromW x ws with | some y => if x.same y then some y else none | none => none
/-- Those of a height. -/
def levW (n : Int) (ws : List (It × Nat)) : List It := if 1 ≤ n ∧ n ≤ 6 then (ws.filter fun p => decide (n ≤ (p.2 : Int))).map Prod.fst else []
def AnsW (l : List It) (w : World) (e : Ending) (w' : World) : Prop := ∃ a c, e = .returned (.slice a l.length c) ∧ Is w' a l.length c l ∧ c ≤ 9223372036854775807 ∧ Below w.heap.size w w'
theorem from_abs {S : Sk} (hp : Pu S) (x : It) : fromW x S.abs = (be (S.lt x) (S.lev 0)).map S.x := by
  rw [lev0 hp]
  unfold fromW Sk.abs
  generalize S.l = l
  induction l with
  | nil => rfl
  | cons b r ih =>
    unfold be
    rw [List.map_cons, List.find?_cons]
    show Option.map _ (match (!((S.x b).less x)) with | true => _ | false => _) = _
    cases hb : S.lt x b with
    | true =>
      have hb' : (S.x b).less x = true := hb
      rw [hb']
      simp only [Bool.not_true, if_true]
      exact ih
    | false =>
      have hb' : (S.x b).less x = false := hb
      rw [hb']
      simp
theorem from_results {w : World} {R : Nat} {S K T V X : Int} {b : Bool} (h : Vx w R S K T V X) (ts : Array Value) (h2 : ts.getD 4 undef = .pointer (some ⟨R, 0, none⟩)) (h3 : ts.getD 5 undef = .bool b) :
    (results Try.f17 ts).run Try.prog w = .ok (.tuple #[.agg #[.int .i64 S, .int .i64 K, .int .u64 T, .int .u64 V, .int .i64 X], .bool b]) w := by
  obtain ⟨⟨h0, h1, h4, h5, h6⟩, -⟩ := h
  simp only [Nat.zero_add] at h1 h4 h5 h6
  rw [Array.getD_eq_getD_getElem?] at h2 h3
  simp [results, Try.results17, go_sem, h0, h1, h2, h3, h4, h5, h6]
theorem get_results {w : World} {R : Nat} {S K T V X : Int} {b : Bool} (h : Vx w R S K T V X) (ts : Array Value) (h2 : ts.getD 4 undef = .pointer (some ⟨R, 0, none⟩)) (h3 : ts.getD 5 undef = .bool b) :
    (results Try.f16 ts).run Try.prog w = .ok (.tuple #[.agg #[.int .i64 S, .int .i64 K, .int .u64 T, .int .u64 V, .int .i64 X], .bool b]) w := by
  obtain ⟨⟨h0, h1, h4, h5, h6⟩, -⟩ := h
  simp only [Nat.zero_add] at h1 h4 h5 h6
  rw [Array.getD_eq_getD_getElem?] at h2 h3
  simp [results, Try.results16, go_sem, h0, h1, h2, h3, h4, h5, h6]

set_option maxHeartbeats 1000000 in
theorem from_any (w : World) (Z : Sk) (S K T V X : Int) (h : Hp w Z (Z.f :: Z.l)) (hp : Pu Z) (o : Option It) (ho : fromW ⟨S, K, T, V, X⟩ Z.abs = o) :
    Calls Try.prog 17 #[.pointer (some ⟨Z.L, 0, none⟩), .agg #[.int .i64 S, .int .i64 K, .int .u64 T, .int .u64 V, .int .i64 X]] w fun e w' =>
      e = .returned (.tuple #[.agg (itV (o.getD it0)), .bool o.isSome]) ∧ Below w.heap.size w w' := by
  obtain ⟨w0, hw0⟩ : ∃ w0, w0 = w.alloc (Obj.cells #[Value.int IntKind.i64 S, Value.int IntKind.i64 K, Value.int IntKind.u64 T, Value.int IntKind.u64 V, Value.int IntKind.i64 X] 29) := ⟨_, rfl⟩
  obtain ⟨w1, hw1⟩ : ∃ w1, w1 = w0.alloc (Obj.cells #[Value.int IntKind.i64 0, Value.int IntKind.i64 0, Value.int IntKind.u64 0, Value.int IntKind.u64 0, Value.int IntKind.i64 0] 29) := ⟨_, rfl⟩
  have B0 : Below w.heap.size w w0 := by rw [hw0]; exact (Below.refl _ _).alloc (Nat.le_refl _) _
  have B01 : Below w0.heap.size w0 w1 := by rw [hw1]; exact (Below.refl _ _).alloc (Nat.le_refl _) _
  have B1 := hide (bmore B0 B01)
  have V1 := vx_new w0 0 0 0 0 0
  rw [← hw1] at V1
  have hsz : w0.heap.size = w.heap.size + 1 := by rw [hw0, Deep.nblk_alloc]
  rw [hsz] at V1
  have VX := hide V1
  have hbo := from_abs hp ⟨S, K, T, V, X⟩
  rw [ho] at hbo
  have CS := hide (seek_any w1 Z (Z.f :: Z.l) 0 1 S K T V X (h.keep B1.out) hp (fun t ht => ht) (by omega) (by omega))
  have HP1 := hide (h.keep B1.out)
  obtain ⟨q, hq⟩ : ∃ q, be (Z.lt ⟨S, K, T, V, X⟩) (Z.lev 0) = q := ⟨_, rfl⟩
  rw [hq] at CS hbo
  have HBM := hide (fun b (hb : q = some b) => (lev_mem.1 (be_mem _ _ b (hq.trans hb)).1).1)
  obtain ⟨a, ha⟩ : ∃ a, ah (Z.lt ⟨S, K, T, V, X⟩) Z.f (Z.lev 0) = a := ⟨_, rfl⟩
  rw [ha] at CS
  have HBO := hide hbo
  obtain ⟨R, hR⟩ : ∃ R, R = w.heap.size + 1 := ⟨_, rfl⟩
  have HR := hide hR
  rw [← hR] at VX
  clear h hp ho B0 B01 V1 hsz hbo hq ha
  go_enter Try.func17, Try.ntmps17
  go_wp2_with fail
  rw [← hw0, ← hw1, ← hR]
  clear hw0 hw1 hR
  refine CS.out.mono ?_
  rintro e w2 ⟨rfl, b2⟩
  have B2 := hide (bmore B1.out b2)
  have VX2 := hide (VX.out.keep b2)
  have HP2 := hide (HP1.out.keep b2)
  clear b2 CS VX HP1
  cases q with
  | none =>
    have e0 := hide HBO.out
    have hpt : pt none = .pointer none := rfl
    rw [hpt]
    have gx := VX2.out
    unfold Vx Vi Vf at gx
    simp only [Nat.zero_add] at gx
    obtain ⟨⟨y0, y1, y2, y3, y4⟩, z0, z1, z2, z3, z4⟩ := gx
    go_wp2_with fail
    refine bodyPost_ret (from_results (VX2.out.put 0 0 0 0 0) _ rfl rfl) rfl ⟨by rw [e0.out]; rfl, ?_⟩
    exact B2.out.grown (gb_putI w2 R 0 0 0 0 0) B2.out.size (fun k hk => by cases hk; rw [HR.out]; omega)
  | some b =>
    have e0 := hide HBO.out
    have hpt : pt (some b) = .pointer (some ⟨b, 0, none⟩) := rfl
    rw [hpt]
    have CI := hide (item_any w2 Z (Z.f :: Z.l) b HP2.out (by simp [HBM.out b rfl]))
    obtain ⟨S1, K1, T1, V1, X1, ex⟩ : ∃ S1 K1 T1 V1 X1, Z.x b = ⟨S1, K1, T1, V1, X1⟩ := ⟨_, _, _, _, _, rfl⟩
    simp only [Option.map_some, ex] at e0
    rw [ex] at CI
    simp only at CI
    clear ex hpt
    go_wp2_with fail
    refine CI.out.mono ?_
    rintro e w3 ⟨rfl, b3⟩
    have B3 := hide (bmore B2.out b3)
    have VX3 := hide (VX2.out.keep b3)
    clear b3 CI VX2
    have gx := VX3.out
    unfold Vx Vi Vf at gx
    simp only [Nat.zero_add] at gx
    obtain ⟨⟨y0, y1, y2, y3, y4⟩, z0, z1, z2, z3, z4⟩ := gx
    go_wp2_with fail
    refine bodyPost_ret (from_results (VX3.out.put S1 K1 T1 V1 X1) _ rfl rfl) rfl ⟨by rw [e0.out]; rfl, ?_⟩
    exact B3.out.grown (gb_putI w3 R S1 K1 T1 V1 X1) B3.out.size (fun k hk => by cases hk; rw [HR.out]; omega)

set_option maxHeartbeats 1000000 in
theorem get_any (w : World) (Z : Sk) (S K T V X : Int) (h : Hp w Z (Z.f :: Z.l)) (hp : Pu Z) (o : Option It) (ho : getW ⟨S, K, T, V, X⟩ Z.abs = o) :
    Calls Try.prog 16 #[.pointer (some ⟨Z.L, 0, none⟩), .agg #[.int .i64 S, .int .i64 K, .int .u64 T, .int .u64 V, .int .i64 X]] w fun e w' =>
      e = .returned (.tuple #[.agg (itV (o.getD it0)), .bool o.isSome]) ∧ Below w.heap.size w w' := by
  obtain ⟨w0, hw0⟩ : ∃ w0, w0 = w.alloc (Obj.cells #[Value.int IntKind.i64 S, Value.int IntKind.i64 K, Value.int IntKind.u64 T, Value.int IntKind.u64 V, Value.int IntKind.i64 X] 29) := ⟨_, rfl⟩
  obtain ⟨w1, hw1⟩ : ∃ w1, w1 = w0.alloc (Obj.cells #[Value.int IntKind.i64 0, Value.int IntKind.i64 0, Value.int IntKind.u64 0, Value.int IntKind.u64 0, Value.int IntKind.i64 0] 29) := ⟨_, rfl⟩
  have B0 : Below w.heap.size w w0 := by rw [hw0]; exact (Below.refl _ _).alloc (Nat.le_refl _) _
  have B01 : Below w0.heap.size w0 w1 := by rw [hw1]; exact (Below.refl _ _).alloc (Nat.le_refl _) _
  have B1 := hide (bmore B0 B01)
  have V1 := vx_new w0 0 0 0 0 0
  rw [← hw1] at V1
  have hsz : w0.heap.size = w.heap.size + 1 := by rw [hw0, Deep.nblk_alloc]
  rw [hsz] at V1
  have VX := hide V1
  have hx := vi_new w S K T V X
  rw [← hw0] at hx
  have HX := hide (hx.keep B01)
  obtain ⟨q, hq⟩ : ∃ q, fromW ⟨S, K, T, V, X⟩ Z.abs = q := ⟨_, rfl⟩
  have CF := hide (from_any w1 Z S K T V X (h.keep B1.out) hp q hq)
  unfold getW at ho
  rw [hq] at ho
  have HO := hide ho
  obtain ⟨R0, hR0⟩ : ∃ R, R = w.heap.size := ⟨_, rfl⟩
  have HR0 := hide hR0
  rw [← hR0] at HX
  obtain ⟨R, hR⟩ : ∃ R, R = w.heap.size + 1 := ⟨_, rfl⟩
  have HR := hide hR
  rw [← hR] at VX
  clear h hp ho B0 B01 V1 hsz hx hq
  go_enter Try.func16, Try.ntmps16
  go_wp2_with fail
  rw [← hw0, ← hw1, ← hR, ← hR0]
  clear hw0 hw1 hR hR0
  refine CF.out.mono ?_
  rintro e w2 ⟨rfl, b2⟩
  have B2 := hide (bmore B1.out b2)
  have VX2 := hide (VX.out.keep b2)
  have HX2 := hide (HX.out.keep b2)
  clear b2 CF VX HX B1
  obtain ⟨S1, K1, T1, V1, X1, ex⟩ : ∃ S1 K1 T1 V1 X1, q.getD it0 = ⟨S1, K1, T1, V1, X1⟩ := ⟨_, _, _, _, _, rfl⟩
  have HEX := hide ex
  rw [ex]
  clear ex
  unfold itV
  simp only
  have A2 := (Below.refl w2.heap.size w2).alloc (Nat.le_refl _) (Obj.cells #[Value.int IntKind.i64 S1, Value.int IntKind.i64 K1, Value.int IntKind.u64 T1, Value.int IntKind.u64 V1, Value.int IntKind.i64 X1] 29)
  have B3 := hide (bmore B2.out A2)
  have VX3 := hide (VX2.out.keep A2)
  have HX3 := hide (HX2.out.keep A2)
  have HY3 := hide (vi_new w2 S1 K1 T1 V1 X1)
  clear A2
  cases q with
  | none =>
    have e0 := hide (show none = o from HO.out)
    have gx := VX3.out
    unfold Vx Vi Vf at gx
    simp only [Nat.zero_add] at gx
    obtain ⟨⟨y0, y1, y2, y3, y4⟩, z0, z1, z2, z3, z4⟩ := gx
    obtain ⟨w3, hw3⟩ : ∃ w3, w3 = w2.alloc (Obj.cells #[Value.int IntKind.i64 S1, Value.int IntKind.i64 K1, Value.int IntKind.u64 T1, Value.int IntKind.u64 V1, Value.int IntKind.i64 X1] 29) := ⟨_, rfl⟩
    simp only [Option.isSome_none]
    go_wp2_with fail
    refine bodyPost_ret (get_results (VX3.out.put 0 0 0 0 0) _ rfl rfl) rfl ⟨by rw [← e0.out]; rfl, ?_⟩
    exact B3.out.grown (gb_putI _ R 0 0 0 0 0) B3.out.size (fun k hk => by cases hk; rw [HR.out]; omega)
  | some y =>
    have hy : y = ⟨S1, K1, T1, V1, X1⟩ := HEX.out
    subst hy
    obtain ⟨d, hd⟩ : ∃ d, sameI S K T S1 K1 T1 = d := ⟨_, rfl⟩
    have e0 := hide (show (if d then some (It.mk S1 K1 T1 V1 X1) else none) = o by rw [← hd]; exact HO.out)
    have CSM := hide (same_any S K T V X S1 K1 T1 V1 X1)
    rw [hd] at CSM
    have qx := HX3.out
    have qy := HY3.out
    unfold Vi at qx qy
    simp only [Nat.zero_add] at qx qy
    obtain ⟨x0, x1, x2, x3, x4⟩ := qx
    obtain ⟨u0, u1, u2, u3, u4⟩ := qy
    obtain ⟨R1, hR1⟩ : ∃ R, R = w2.heap.size := ⟨_, rfl⟩
    rw [← hR1] at u0 u1 u2 u3 u4 HY3
    simp only [Option.isSome_some]
    clear hd HO
    go_wp2_with fail
    rw [← hR1]
    refine (CSM.out _).mono ?_
    rintro e w3 ⟨rfl, b3⟩
    have B4 := hide (bmore B3.out b3)
    have VX4 := hide (VX3.out.keep b3)
    have HY4 := hide (HY3.out.keep b3)
    clear b3 VX3 HX3 HY3 x0 x1 x2 x3 x4 u0 u1 u2 u3 u4 CSM hR1
    have gx := VX4.out
    unfold Vx Vi Vf at gx
    simp only [Nat.zero_add] at gx
    obtain ⟨⟨y0, y1, y2, y3, y4⟩, z0, z1, z2, z3, z4⟩ := gx
    have qy := HY4.out
    unfold Vi at qy
    simp only [Nat.zero_add] at qy
    obtain ⟨u0, u1, u2, u3, u4⟩ := qy
    cases d with
    | false =>
      go_wp2_with fail
      refine bodyPost_ret (get_results (VX4.out.put 0 0 0 0 0) _ rfl rfl) rfl ⟨by rw [← e0.out]; rfl, ?_⟩
      exact B4.out.grown (gb_putI _ R 0 0 0 0 0) B4.out.size (fun k hk => by cases hk; rw [HR.out]; omega)
    | true =>
      go_wp2_with fail
      refine bodyPost_ret (get_results (VX4.out.put S1 K1 T1 V1 X1) _ rfl rfl) rfl ⟨by rw [← e0.out]; rfl, ?_⟩
      exact B4.out.grown (gb_putI _ R S1 K1 T1 V1 X1) B4.out.size (fun k hk => by cases hk; rw [HR.out]; omega)

end Go.Proofs.Ytakpapgjdpnedaa.Clep
