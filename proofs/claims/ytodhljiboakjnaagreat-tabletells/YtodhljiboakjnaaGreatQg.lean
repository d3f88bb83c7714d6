/- What row, Len and May do when called. Conditions: the Table lies in memory as said. -/
import Derived.Test.YtodhljiboakjnaaGreatQd
import Derived.Test.YtodhljiboakjnaaGreatQc
import Derived.Deep.RegionWith
import Derived.Deep.RegionHeldLaw
namespace Go.Proofs.YtodhljiboakjnaaGreat.Clep
open Go.RowKit
set_option linter.unusedVariables false

theorem bls_more (l : List It) (j : Nat) : ∀ d, ∃ r, bls l (j + d) = bls l j ++ r
  | 0 => ⟨[], by simp⟩
  | d + 1 => by
    obtain ⟨r, h⟩ := bls_more l j d
    exact ⟨r ++ bkb (ck 20 l (j + d)), by rw [← Nat.add_assoc, bls, h]; simp⟩
theorem tA_rest {l : List It} {j : Nat} (h : j < nb l) : ∃ r, (tA l).drop (bls l j).length = bkb (ck 20 l j) ++ r ∧ (bls l j).length ≤ (tA l).length := by
  obtain ⟨r, hr⟩ := bls_more l (j + 1) (nb l - (j + 1))
  rw [show j + 1 + (nb l - (j + 1)) = nb l by omega] at hr
  refine ⟨r, ?_, ?_⟩
  · rw [show tA l = bls l j ++ (bkb (ck 20 l j) ++ r) from by rw [← List.append_assoc]; exact hr]
    exact drop_app _ _ _ rfl
  · rw [show tA l = bls l j ++ (bkb (ck 20 l j) ++ r) from by rw [← List.append_assoc]; exact hr, List.length_append]; omega
set_option maxRecDepth 100000 in
set_option maxHeartbeats 1000000 in
theorem trow_any (w : World) (M d : Nat) (B : Nat → Prop) (l : List It) (h : Tb w M B d l) (j : Nat) (hj : j < nb l) (S K T V X : Int) :
    Calls Tryz.prog 44 #[.pointer (some ⟨M, 0, none⟩), .agg #[.int .i64 ((bls l j).length : Nat), .int .i64 S, .int .i64 K, .int .u64 T, .int .u64 V, .int .i64 X]] w fun e w' => ∃ a c, e = .returned (.slice a (ck 20 l j).length c) ∧ Is w' a (ck 20 l j).length c (ck 20 l j) ∧ c ≤ 9223372036854775807 ∧ Below w.heap.size w w' ∧ ∀ x, a = some x → w.heap.size ≤ x.block := by
  obtain ⟨ok, bas, lt, a1, c1, F, D, bd, mk, k1, k2, k3, -⟩ := h
  obtain ⟨r, hr, hp⟩ := tA_rest hj
  obtain ⟨b1, b2, b3⟩ := isB_bkb (ck 20 l j) r (ok.wfs j) (ok.fit hj) (ok.allok j)
  have HWF := hide (ok.wfs j)
  obtain ⟨L, hL⟩ : ∃ L, (tA l).length = L := ⟨_, rfl⟩
  have mL : L ≤ 66200 := by rw [← hL]; exact tA_len ok
  rw [hL] at k1 k2 hp
  obtain ⟨p, hpp⟩ : ∃ p, (bls l j).length = p := ⟨_, rfl⟩
  rw [hpp] at hr hp ⊢
  obtain ⟨n, hn⟩ : ∃ n, (ck 20 l j).length = n := ⟨_, rfl⟩
  have hct := hide (fun W (hW : Below w.heap.size w W) => show Calls Tryz.prog 64 #[.slice a1 L c1, .int .i64 (p : Int)] W fun e w' => ∃ a2 c2 q, e = .returned (.tuple #[.slice a2 n c2, .int .i64 q, .int .i64 0]) ∧ Hid (Is w' a2 n c2 (ck 20 l j) ∧ c2 ≤ 9223372036854775807 ∧ Below w.heap.size w w' ∧ ∀ x, a2 = some x → w.heap.size ≤ x.block) from
    (btake_any a1 L c1 (tA l) p W (by omega) (k2.below hW (Nat.le_refl _)) hp _ hr.symm).mono fun e w' ⟨hb, hh⟩ => by
      rcases hh with ⟨hno, -⟩ | ⟨-, v2, rfl, ho2⟩
      · rw [b1] at hno; cases hno
      · rw [b2] at ho2
        obtain ⟨a2, c2, rfl, hc2, hI2, hnew⟩ := ownI_is ho2 HWF.out
        rw [hn] at hI2 ⊢
        exact ⟨a2, c2, _, rfl, hide ⟨hI2, hc2, hW.trans (hb.mono hW.size), fun x hx => Nat.le_trans hW.size (hnew x hx)⟩⟩)
  rw [hn]
  have A1 := (Below.refl _ w).alloc (Nat.le_refl _) (Obj.cells #[.int .i64 (p : Int), .int .i64 S, .int .i64 K, .int .u64 T, .int .u64 V, .int .i64 X] 92)
  have K1 := hpS w (Obj.cells #[.int .i64 (p : Int), .int .i64 S, .int .i64 K, .int .u64 T, .int .u64 V, .int .i64 X] 92) w.heap.size rfl
  obtain ⟨w1, hw1⟩ : ∃ w1, w1 = w.alloc (Obj.cells #[.int .i64 (p : Int), .int .i64 S, .int .i64 K, .int .u64 T, .int .u64 V, .int .i64 X] 92) := ⟨_, rfl⟩
  rw [← hw1] at A1 K1
  have g1 : w1.cell? ⟨M, 1, none⟩ = some (.slice a1 L c1) := (k1.keep A1).cell rfl
  have g2 : w1.cell? ⟨w.heap.size, 0, none⟩ = some (.int .i64 (p : Int)) := by simp [World.cell?, K1]
  have AA := hide A1
  clear k1 k2 k3 hr A1 K1 b1 b2 b3
  go_enter Tryz.func44, Tryz.ntmps44
  go_wp2_with fail
  rw [← hw1]
  clear hw1
  go_region_with (go_at_call 64; refine (hct.out w1.drew (bmore AA.out (Below.refl _ _).drew)).mono ?_; rintro e w2 ⟨a2, c2, q, rfl, hh⟩)
  all_goals
    go_wp2
    go_ret
    exact ⟨_, _, rfl, hh.out⟩
set_option maxRecDepth 100000 in
theorem tlen_any (w : World) (M d : Nat) (B : Nat → Prop) (l : List It) (h : Tb w M B d l) :
    Calls Tryz.prog 15 #[.pointer (some ⟨M, 0, none⟩)] w fun e w' => e = .returned (.int .i64 (l.length : Nat)) ∧ w' = w := by
  obtain ⟨ok, bas, lt, a1, c1, F, D, bd, mk, k1, -⟩ := h
  have g1 : w.cell? ⟨M, 0, none⟩ = some (.int .i64 (l.length : Nat)) := k1.cell rfl
  clear k1
  generalize l.length = n at *
  go_enter Tryz.func15, Tryz.ntmps15
  go_wp2
  go_ret
  exact ⟨rfl, rfl⟩
/-- May there be an item at x's place? -/
def mayT (l : List It) (x : It) : Bool := hask (fnv (kb x.S x.K x.T)) (tS l) 7 (fN (tS l) l)
set_option maxRecDepth 100000 in
set_option maxHeartbeats 1000000 in
theorem tmay_any (w : World) (M d : Nat) (B : Nat → Prop) (l : List It) (h : Tb w M B d l) (x : It) (hx : x.wf) :
    Calls Tryz.prog 22 #[.pointer (some ⟨M, 0, none⟩), .agg #[.int .i64 x.S, .int .i64 x.K, .int .u64 x.T, .int .u64 x.V, .int .i64 x.X]] w fun e w' => e = .returned (.bool (mayT l x)) ∧ Below w.heap.size w w' := by
  obtain ⟨ok, bas, lt, a1, c1, F, D, bd, mk, k1, k2, k3, k4, -⟩ := h
  have hs := tS_rng ok
  obtain ⟨S, K, T, V, X⟩ := x
  have A1 := (Below.refl _ w).alloc (Nat.le_refl _) (Obj.cells #[Value.int IntKind.i64 S, Value.int IntKind.i64 K, Value.int IntKind.u64 T, Value.int IntKind.u64 V, Value.int IntKind.i64 X] 25)
  have X1 := vi_new w S K T V X
  obtain ⟨R, hR⟩ : ∃ R, R = w.heap.size := ⟨_, rfl⟩
  obtain ⟨w3, hw3⟩ : ∃ w3, w3 = w.alloc (Obj.cells #[Value.int IntKind.i64 S, Value.int IntKind.i64 K, Value.int IntKind.u64 T, Value.int IntKind.u64 V, Value.int IntKind.i64 X] 25) := ⟨_, rfl⟩
  rw [← hw3] at A1 X1
  rw [← hR] at X1
  have KB := hide (k1.keep A1)
  have HL := hide (k4.keep A1)
  have AA := hide A1
  have HK : Hid (∀ W, Below w3.heap.size w3 W → (Below w3.heap.size w3 W ∧ W.cell? ⟨M, 7, none⟩ = some (.pointer (some ⟨F, 0, none⟩)) ∧ W.cell? ⟨R, 0, none⟩ = some (.int .i64 S) ∧ W.cell? ⟨R, 1, none⟩ = some (.int .i64 K) ∧ W.cell? ⟨R, 2, none⟩ = some (.int .u64 T) ∧ W.cell? ⟨R, 3, none⟩ = some (.int .u64 V) ∧ W.cell? ⟨R, 4, none⟩ = some (.int .i64 X))) := hide fun W hW => by
    have q := X1.keep hW
    unfold Vi at q
    simp only [Nat.zero_add] at q
    exact ⟨hW, (KB.out.keep hW).cell rfl, q.1, q.2.1, q.2.2.1, q.2.2.2.1, q.2.2.2.2⟩
  have cH : Hid (∀ W, Below w3.heap.size w3 W → Calls Tryz.prog 46 #[.agg #[.int .i64 S, .int .i64 K, .int .u64 T, .int .u64 V, .int .i64 X]] W fun e w' => ∃ a9 c9, e = .returned (.slice a9 10 c9) ∧ Below w3.heap.size w3 w' ∧ Hid (Bs w' a9 10 c9 (kb S K T))) := hide fun W hW =>
    (key_any S K T V X W hx.2.2.1).mono fun e w' ⟨v, h1, h2, h3⟩ => by
      obtain ⟨a9, c9, e9, _, hb9, hl9⟩ := own_at0 h2 (kb_range S K T)
      rw [show ([S % 256, K % 256] ++ e8 T 8).length = 10 from kb_len S K T] at e9 hb9 hl9
      exact ⟨a9, c9, by rw [h1, e9], hW.trans (h3.mono hW.size), hide hb9⟩
  have cP : Hid (∀ W a9 c9, Below w3.heap.size w3 W → Hid (Bs W a9 10 c9 (kb S K T)) → Calls Tryz.prog 45 #[.pointer (some ⟨F, 0, none⟩), .slice a9 10 c9] W fun e w' => e = .returned (.bool (mayT l ⟨S, K, T, V, X⟩)) ∧ Below w3.heap.size w3 w') := hide fun W a9 c9 hW hz9 =>
    (has_l W F D 7 (tS l) (fN (tS l) l) (HL.out.keep hW) (by omega) (by omega) a9 10 c9 (kb S K T) (by omega) hz9.out).mono fun e w' ⟨h1, h2⟩ => ⟨h1, hW.trans (h2.mono hW.size)⟩
  generalize mayT l ⟨S, K, T, V, X⟩ = o at *
  have hb0 : Below w3.heap.size w3 w3 := Below.refl _ _
  have hb1 : Below w3.heap.size w3 w3.drew := (Below.refl _ _).drew
  obtain ⟨-, gM, g0, g1, g2, g3, g4⟩ := HK.out _ hb0
  clear A1 X1 k1 k2 k3 k4 KB HL hs
  simp only
  go_enter Tryz.func22, Tryz.ntmps22
  go_wp2_with fail
  rw [← hw3, ← hR]
  clear hw3 hR
  go_region_held_law (fun W => Below w3.heap.size w3 W ∧ W.cell? ⟨M, 7, none⟩ = some (.pointer (some ⟨F, 0, none⟩)) ∧ W.cell? ⟨R, 0, none⟩ = some (.int .i64 S) ∧ W.cell? ⟨R, 1, none⟩ = some (.int .i64 K) ∧ W.cell? ⟨R, 2, none⟩ = some (.int .u64 T) ∧ W.cell? ⟨R, 3, none⟩ = some (.int .u64 V) ∧ W.cell? ⟨R, 4, none⟩ = some (.int .i64 X))
    (first | exact HK.out _ (by with_reducible assumption) | exact HK.out _ hb1 | exact HK.out _ hb0)
    (first
    | (go_at_call 46; refine (cH.out _ (And.left (by with_reducible assumption))).mono ?_; rintro e w' ⟨a9, c9, rfl, hb7, hz7⟩)
    | (go_at_call 45; refine (cP.out _ _ _ (by with_reducible assumption) (by with_reducible assumption)).mono ?_; rintro e w'' ⟨rfl, hc8⟩))
  all_goals
    go_wp2
    go_ret
    exact ⟨rfl, bmore AA.out hc8⟩

end Go.Proofs.YtodhljiboakjnaaGreat.Clep
