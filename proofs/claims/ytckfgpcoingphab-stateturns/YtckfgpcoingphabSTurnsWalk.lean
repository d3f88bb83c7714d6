/- StateTurns, walked: for any list, turned by any number. No conditions. -/
import Derived.Test.YtckfgpcoingphabSMath2
import Derived.Test.YtckfgpcoingphabSLaw
namespace Go.Proofs.Ytckfgpcoingphab.Clep
open Go.RowKit
set_option linter.unusedVariables false

theorem mem_snoc {m l : List It} {x : It} {j : Nat} (h : ∀ z ∈ m, z ∈ l) (hx : l[j]? = some x) : ∀ z ∈ m ++ [x], z ∈ l := by
  intro z hz
  rcases List.mem_append.1 hz with h1 | h1
  · exact h z h1
  · rw [List.mem_singleton.1 h1]; exact List.mem_of_getElem? hx

set_option maxRecDepth 4000 in
set_option maxHeartbeats 8000000 in
theorem turns_walk (a0 : Option Addr) (n cap0 : Nat) (l : List It) (turn : Int) (w : World) (h0 : Is w a0 n cap0 l) (hm0 : n ≤ 9223372036854775807) :
    Calls Try.prog 3 #[.slice a0 n cap0, .int .i64 turn] w fun e w' => e = .returned (.bool true) ∧ Below w.heap.size w w' := by
  have hl := h0.1
  have H0 := hide (fun W (hW : Below w.heap.size w W) => h0.below hW (Nat.le_refl _))
  have HW := hide h0.2.2.1
  clear h0
  obtain ⟨tt, htt⟩ : ∃ t, bits .and .i64 turn 255 = t := ⟨_, rfl⟩
  have htb := and8 turn
  rw [htt] at htb
  by_cases hlong : 40 < n
  · go_enter Try.func3, Try.ntmps3
    go_wp2_with fail
    refine (awake6_any _).mono ?_
    rintro e w1 ⟨rfl, b1⟩
    go_wp2
    go_ret
    exact ⟨rfl, b1⟩
  go_enter Try.func3, Try.ntmps3
  go_wp2_with fail
  go_loopw [6, 7] (fun s6 s7 wr => ∃ (i : Nat) (m : List It), i ≤ n ∧ s7 = .int .i64 i ∧ Hid (OwnI wr w.heap.size s6 m) ∧ Hid (∀ z ∈ m, z ∈ l) ∧ Hid (m.length ≤ 2 * i) ∧ Hid (Below w.heap.size w wr)) (fun _ s7 _ => n - (intOf s7).toNat)
  case atStart => exact ⟨0, [], by omega, rfl, hide (ownI_nil _ _), hide (by simp), hide (by simp), hide (Below.refl _ _)⟩
  case round =>
    obtain ⟨i, m, hi, rfl, hown, hmem, hmlen, hbel⟩ := hrel
    by_cases hlt : i < n
    · obtain ⟨b0, off, ea, hc⟩ := (H0.out _ hbel.out).2.2.2 (by omega)
      subst ea
      obtain ⟨J, hJn, hJ⟩ : ∃ J : Nat, J < n ∧ ((i : Int) + tt).tmod (n : Int) = (J : Int) := by
        have h1 := Int.tmod_nonneg (n : Int) (show 0 ≤ (i : Int) + tt by omega)
        have h2 := Int.tmod_lt_of_pos ((i : Int) + tt) (show (0 : Int) < (n : Int) by omega)
        exact ⟨(((i : Int) + tt).tmod (n : Int)).toNat, by omega, by omega⟩
      obtain ⟨r, hr3, hr⟩ : ∃ r : Nat, r < 3 ∧ (i : Int).tmod 3 = (r : Int) := by
        have h1 := Int.tmod_nonneg 3 (show 0 ≤ (i : Int) by omega)
        have h2 := Int.tmod_lt_of_pos (i : Int) (show (0 : Int) < 3 by omega)
        exact ⟨((i : Int).tmod 3).toNat, by omega, by omega⟩
      have hM : (n : Int) - 1 - (i : Int) = ((n - 1 - i : Nat) : Int) := by omega
      have hM2 : (n - 1 - i) < n := by omega
      obtain ⟨P, hP⟩ : ∃ P, n - 1 - i = P := ⟨_, rfl⟩
      rw [hP] at hM hM2
      clear hP
      obtain ⟨x, hx⟩ : ∃ x, l[J]? = some x := ⟨_, List.getElem?_eq_getElem (by rw [hl]; exact hJn)⟩
      obtain ⟨y, hy⟩ : ∃ y, l[P]? = some y := ⟨_, List.getElem?_eq_getElem (by rw [hl]; exact hM2)⟩
      have hv := hc J x hx
      have hvy := hide (hc P y hy)
      have hmem1 := hide (mem_snoc hmem.out hx)
      have hmem2 := hide (mem_snoc hmem1.out hy)
      have hxw := hide (HW.out x (List.mem_of_getElem? hx))
      have hyw := hide (HW.out y (List.mem_of_getElem? hy))
      obtain ⟨S, K, T, V, X⟩ := x
      obtain ⟨yS, yK, yT, yV, yX⟩ := y
      unfold Vt at hv hvy
      simp only at hv hvy
      unfold Vi at hv
      obtain ⟨v0, v1, v2, v3, v4⟩ := hv
      have O1 := hide (ownI_keep hown.out ((Below.refl _ _).alloc (Nat.le_refl _) (Obj.cells #[Value.int IntKind.i64 S, Value.int IntKind.i64 K, Value.int IntKind.u64 T, Value.int IntKind.u64 V, Value.int IntKind.i64 X] 26)))
      have B1 := hide (hbel.out.alloc hbel.out.size (Obj.cells #[Value.int IntKind.i64 S, Value.int IntKind.i64 K, Value.int IntKind.u64 T, Value.int IntKind.u64 V, Value.int IntKind.i64 X] 26))
      have IA := hide (is_one wr S K T V X hxw.out)
      have hln : Hid (m.length + 1 ≤ 1099511627776) := hide (by have := hmlen.out; omega)
      have hvy1 := hide (hvy.out.keep ((Below.refl _ _).alloc (Nat.le_refl _) (Obj.cells #[Value.int IntKind.i64 S, Value.int IntKind.i64 K, Value.int IntKind.u64 T, Value.int IntKind.u64 V, Value.int IntKind.i64 X] 26)))
      have hbw : Hid (b0 < w.heap.size) := hide (by
        obtain ⟨b1, o1, e1, hc1⟩ := (H0.out _ (Below.refl _ _)).2.2.2 (by omega)
        cases e1
        exact (hc1 J _ hx).lt)
      have hJ2 : (J : Int) < (n : Int) := by omega
      have hM3 : (P : Int) < (n : Int) := by omega
      clear hc hx hy hown hvy
      by_cases hr0 : r = 0
      · have hrb : ((r : Int) == 0) = true := by simp [hr0]
        clear hr0
        have hln2 : Hid ((m ++ [(⟨S, K, T, V, X⟩ : It)]).length + 1 ≤ 1099511627776) := hide (by have := hmlen.out; simp; omega)
        go_wp2_with (first
          | (at_builtin; refine wpList_append_items rfl _ _ rfl w.heap.size _ m rfl O1.out _ 1 1 [⟨S, K, T, V, X⟩] rfl IA.out hln.out B1.out.size ?_; intro nv w2 o2 g2 k2; have O2 := hide (ownI_keep o2 ((Below.refl _ _).alloc (Nat.le_refl _) (Obj.cells #[Value.int IntKind.i64 yS, Value.int IntKind.i64 yK, Value.int IntKind.u64 yT, Value.int IntKind.u64 yV, Value.int IntKind.i64 yX] 26))); have B2 := hide ((B1.out.grown g2 B1.out.size k2).alloc (B1.out.grown g2 B1.out.size k2).size (Obj.cells #[Value.int IntKind.i64 yS, Value.int IntKind.i64 yK, Value.int IntKind.u64 yT, Value.int IntKind.u64 yV, Value.int IntKind.i64 yX] 26)); have IB := hide (is_one w2 yS yK yT yV yX hyw.out); have yy := hvy1.out.grown g2 (fun e => by have := k2 _ e.symm; have := hbw.out; omega); unfold Vi at yy; obtain ⟨y0, y1, y2, y3, y4⟩ := yy; clear o2 g2 k2 v0 v1 v2 v3 v4 O1 B1 IA)
          | (at_builtin; refine wpList_append_items rfl _ _ rfl w.heap.size nv (m ++ [⟨S, K, T, V, X⟩]) rfl O2.out _ 1 1 [⟨yS, yK, yT, yV, yX⟩] rfl IB.out hln2.out B2.out.size ?_; intro nv3 w3 o3 g3 k3; have O3 := hide o3; have B3 := hide (B2.out.grown g3 B2.out.size k3); clear o3 g3 k3))
        go_roundw
        case rel => exact ⟨i + 1, _, by omega, by go_num, O3, hmem2, hide (by have := hmlen.out; simp; omega), B3⟩
        case measure => simp [intOf]; omega
      · have hrb : ((r : Int) == 0) = false := by simp; omega
        clear hr0
        go_wp2_with (at_builtin; refine wpList_append_items rfl _ _ rfl w.heap.size _ m rfl O1.out _ 1 1 [⟨S, K, T, V, X⟩] rfl IA.out hln.out B1.out.size ?_; intro v2 w2 o2 g2 k2; have O2 := hide o2; have B2 := hide (B1.out.grown g2 B1.out.size k2); clear o2 g2 k2)
        go_roundw
        case rel => exact ⟨i + 1, _, by omega, by go_num, O2, hmem1, hide (by have := hmlen.out; simp; omega), B2⟩
        case measure => simp [intOf]; omega
    · obtain rfl : i = n := by omega
      have hm80 : Hid (m.length ≤ 80) := hide (by have := hmlen.out; omega)
      clear hmlen
      go_wp2_with fail
      go_loopw [6, 8] (fun s6 s8 wr => ∃ (k : Nat) (m : List It), k ≤ i ∧ s8 = .int .i64 k ∧ Hid (OwnI wr w.heap.size s6 m) ∧ Hid (∀ z ∈ m, z ∈ l) ∧ Hid (∀ z ∈ l.take k, z ∈ m) ∧ Hid (m.length ≤ 80 + k) ∧ Hid (Below w.heap.size w wr)) (fun _ s8 _ => i - (intOf s8).toNat)
      case atStart => exact ⟨0, m, by omega, rfl, hown, hmem, hide (by simp), hide (by have := hm80.out; omega), hbel⟩
      case round =>
        obtain ⟨k, m2, hk, rfl, hown2, hmem2, hall, hlen2, hbel2⟩ := hrel
        by_cases hlk : k < i
        · obtain ⟨b0, off, ea, hc⟩ := (H0.out _ hbel2.out).2.2.2 (by omega)
          subst ea
          obtain ⟨x, hx⟩ : ∃ x, l[k]? = some x := ⟨_, List.getElem?_eq_getElem (by rw [hl]; exact hlk)⟩
          have hv := hc k x hx
          have hmem3 := hide (mem_snoc hmem2.out hx)
          have hxw := hide (HW.out x (List.mem_of_getElem? hx))
          have hall3 : Hid (∀ z ∈ l.take (k + 1), z ∈ m2 ++ [x]) := hide (by
            intro z hz
            rw [List.take_add_one, hx] at hz
            rcases List.mem_append.1 hz with h1 | h1
            · exact List.mem_append_left _ (hall.out z h1)
            · exact List.mem_append_right _ (by simpa using h1))
          obtain ⟨S, K, T, V, X⟩ := x
          unfold Vt Vi at hv
          simp only at hv
          obtain ⟨v0, v1, v2, v3, v4⟩ := hv
          have O1 := hide (ownI_keep hown2.out ((Below.refl _ _).alloc (Nat.le_refl _) (Obj.cells #[Value.int IntKind.i64 S, Value.int IntKind.i64 K, Value.int IntKind.u64 T, Value.int IntKind.u64 V, Value.int IntKind.i64 X] 26)))
          have B1 := hide (hbel2.out.alloc hbel2.out.size (Obj.cells #[Value.int IntKind.i64 S, Value.int IntKind.i64 K, Value.int IntKind.u64 T, Value.int IntKind.u64 V, Value.int IntKind.i64 X] 26))
          have IA := hide (is_one wr S K T V X hxw.out)
          have hln : Hid (m2.length + 1 ≤ 1099511627776) := hide (by have := hlen2.out; omega)
          clear hc hx hown2
          go_wp2_with (at_builtin; refine wpList_append_items rfl _ _ rfl w.heap.size _ m2 rfl O1.out _ 1 1 [⟨S, K, T, V, X⟩] rfl IA.out hln.out B1.out.size ?_; intro nv w2 o2 g2 k2; have O2 := hide o2; have B2 := hide (B1.out.grown g2 B1.out.size k2); clear o2 g2 k2)
          go_roundw
          case rel => exact ⟨k + 1, _, by omega, by go_num, O2, hmem3, hall3, hide (by have := hlen2.out; simp; omega), B2⟩
          case measure => simp [intOf]; omega
        · obtain rfl : k = i := by omega
          have hall4 : Hid (∀ z, z ∈ m2 ↔ z ∈ l) := hide fun z => ⟨hmem2.out z, fun h => hall.out z (by rwa [show l.take k = l from by rw [← hl]; exact List.take_length])⟩
          obtain ⟨am, cm, em, hcm, im, -⟩ := ownI_is hown2.out (fun x hx => HW.out x (hmem2.out x hx))
          obtain ⟨nm, hnm⟩ : ∃ n, m2.length = n := ⟨_, rfl⟩
          rw [hnm] at em im
          subst em
          have Nm : nm ≤ 200 := by have := hlen2.out; omega
          have I_m := hide im
          have I_l := hide (H0.out _ hbel2.out)
          have HB := hide hbel2.out
          clear im hnm hown2 hbel2
          go_wp2_with fail
          refine (of_any am nm cm m2 _ I_m.out (by omega)).mono ?_
          intro e w1 hans
          obtain ⟨a_p, n_p, c_p, rfl, i_p, b1⟩ := ans_n hans
          have N_p : n_p ≤ 200 := by have hq := i_p.1; have := ofL_len m2; have := hlen2.out; omega
          have I_p := hide i_p
          clear hans i_p
          replace I_m := hide (I_m.out.below b1 (Nat.le_refl _))
          replace I_l := hide (I_l.out.below b1 (Nat.le_refl _))
          replace HB := hide (bmore HB.out b1)
          clear b1
          go_wp2_with fail
          refine (of_any a0 k cap0 l _ I_l.out (by omega)).mono ?_
          intro e w2 hans
          obtain ⟨a_q, n_q, c_q, rfl, i_q, b2⟩ := ans_n hans
          have N_q : n_q ≤ 200 := by have hq := i_q.1; have := ofL_len l; have := hl; omega
          have I_q := hide i_q
          clear hans i_q
          replace I_m := hide (I_m.out.below b2 (Nat.le_refl _))
          replace I_l := hide (I_l.out.below b2 (Nat.le_refl _))
          replace I_p := hide (I_p.out.below b2 (Nat.le_refl _))
          replace HB := hide (bmore HB.out b2)
          clear b2
          go_wp2_with fail
          refine (refequal_any _ _ _ _ _ _ _ _ _ I_p.out I_q.out (by omega) (by omega)).mono ?_
          rintro e w3 ⟨o, rfl, ho, b3⟩
          obtain rfl : o = true := ho.2 (ofL_congr fun z _ => hall4.out z)
          clear ho
          replace I_m := hide (I_m.out.below b3 (Nat.le_refl _))
          replace I_l := hide (I_l.out.below b3 (Nat.le_refl _))
          replace I_p := hide (I_p.out.below b3 (Nat.le_refl _))
          replace I_q := hide (I_q.out.below b3 (Nat.le_refl _))
          replace HB := hide (bmore HB.out b3)
          clear b3
          go_wp2_with fail
          refine (awake6_any _).mono ?_
          rintro e w4 ⟨rfl, b4⟩
          replace I_m := hide (I_m.out.below b4 (Nat.le_refl _))
          replace I_l := hide (I_l.out.below b4 (Nat.le_refl _))
          replace I_p := hide (I_p.out.below b4 (Nat.le_refl _))
          replace I_q := hide (I_q.out.below b4 (Nat.le_refl _))
          replace HB := hide (bmore HB.out b4)
          clear b4
          go_wp2
          go_ret
          exact ⟨rfl, HB.out⟩

end Go.Proofs.Ytckfgpcoingphab.Clep
