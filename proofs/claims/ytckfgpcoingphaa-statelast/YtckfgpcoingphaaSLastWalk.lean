/- StateLast, walked: for any versions and values, turned by any number. No conditions. -/
import Derived.Test.YtckfgpcoingphaaSMath2
import Derived.Test.YtckfgpcoingphaaSLaw
import Derived.Test.YtckfgpcoingphaaSRefOf
import Derived.BigRegion
import Derived.Laws.StructEq
namespace Go.Proofs.Ytckfgpcoingphaa.Clep
open Go.RowKit
set_option linter.unusedVariables false

/-- The slice leads to numbers of kind k. -/
def Ur (k : IntKind) (w : World) (a : Option Addr) (len : Nat) (zs : List Int) : Prop :=
  0 < len → ∃ b off, a = some ⟨b, off, none⟩ ∧ ∀ i, i < len → w.cell? ⟨b, off + i, none⟩ = some (.int k (zs.getD i 0)) ∧ (Lit.int k (zs.getD i 0)).wf = true
theorem ur_of_row {k : IntKind} {w : World} {a : Option Addr} {len cap : Nat} {zs : List Int}
    (h : (a = none ∧ len = 0 ∧ cap = 0 ∧ zs = []) ∨ ∃ x, a = some x ∧ len ≤ cap ∧ cap ≤ maxLen ∧ zs.length = cap ∧ (∀ i, i < zs.length → w.cell? (x.add i) = some (.int k (zs.getD i 0))) ∧ ∀ n ∈ zs, (Lit.int k n).wf = true) :
    Ur k w a len zs ∧ len ≤ 9223372036854775807 := by
  rcases h with ⟨rfl, rfl, rfl, rfl⟩ | ⟨x, rfl, hl, hm, hz, hcell, hwz⟩
  · exact ⟨fun h => by omega, by omega⟩
  · unfold maxLen at hm
    refine ⟨fun h0 => ?_, by omega⟩
    obtain ⟨b, off, spot⟩ := x
    have hc := hcell 0 (by omega)
    have hspot : spot = none := by simpa [Addr.add] using World.cell?_spot hc
    subst hspot
    refine ⟨b, off, rfl, fun i hi => ?_⟩
    have h1 := hcell i (by omega)
    rw [add_plain] at h1
    refine ⟨h1, hwz _ ?_⟩
    have hi' : i < zs.length := by omega
    have e : zs.getD i 0 = zs[i] := by simp [List.getD, List.getElem?_eq_getElem hi']
    rw [e]; exact List.getElem_mem hi'
theorem Ur.below {k : IntKind} {w w' : World} {a : Option Addr} {len : Nat} {zs : List Int} (h : Ur k w a len zs) (hb : Below w.heap.size w w') : Ur k w' a len zs := fun h0 => by
  obtain ⟨b, off, ho, hc⟩ := h h0
  exact ⟨b, off, ho, fun i hi => ⟨(hb.cell (p := ⟨b, off + i, none⟩) (World.block_lt_of_cell? w _ (hc i hi).1)).trans (hc i hi).1, (hc i hi).2⟩⟩
/-- best is the greatest of m, which are all of one place. -/
def Bst (m : List It) (b : It) : Prop := (∀ z ∈ m, z.S = 7 ∧ z.K = 2 ∧ z.T = 9 ∧ z.ok = true ∧ z.wins b = false) ∧ (m ≠ [] → b ∈ m)
theorem bst_nil (b : It) : Bst [] b := ⟨by simp, fun h => absurd rfl h⟩
theorem bst_new {m : List It} {b x : It} (h : Bst m b) (hx : x.S = 7 ∧ x.K = 2 ∧ x.T = 9 ∧ x.ok = true) (hw : x.wins b = true ∨ m = []) : Bst (m ++ [x]) x := by
  refine ⟨fun z hz => ?_, fun _ => by simp⟩
  rcases List.mem_append.1 hz with h1 | h1
  · obtain ⟨a1, a2, a3, a4, a5⟩ := h.1 z h1
    refine ⟨a1, a2, a3, a4, ?_⟩
    rcases hw with hw | hw
    · rw [nwins_iff] at a5 ⊢; rw [wins_iff] at hw; omega
    · rw [hw] at h1; simp at h1
  · rw [List.mem_singleton.1 h1]
    exact ⟨hx.1, hx.2.1, hx.2.2.1, hx.2.2.2, by rw [nwins_iff]; omega⟩
theorem bst_old {m : List It} {b x : It} (h : Bst m b) (hx : x.S = 7 ∧ x.K = 2 ∧ x.T = 9 ∧ x.ok = true) (hw : x.wins b = false) (hm : m ≠ []) : Bst (m ++ [x]) b := by
  refine ⟨fun z hz => ?_, fun _ => List.mem_append_left _ (h.2 hm)⟩
  rcases List.mem_append.1 hz with h1 | h1
  · exact h.1 z h1
  · rw [List.mem_singleton.1 h1]; exact ⟨hx.1, hx.2.1, hx.2.2.1, hx.2.2.2, hw⟩
theorem bst_of {m : List It} {b : It} (h : Bst m b) (hm : m ≠ []) : ofL m = [b] := by
  have hb := h.1 b (h.2 hm)
  refine (ofL_uniq ⟨by simp, fun z hz => ?_, fun t ht z hz => ?_, fun z hz => ?_⟩).symm
  · rw [List.mem_singleton.1 hz]; exact ⟨h.2 hm, hb.2.2.2.1⟩
  · rw [List.mem_singleton.1 ht, List.mem_singleton.1 hz, nhides_iff]; omega
  · obtain ⟨a1, a2, a3, a4, a5⟩ := h.1 z hz.1
    exact ⟨b, by simp, .inl ⟨by rw [same_iff]; omega, a5⟩⟩

set_option maxHeartbeats 800000 in
theorem last_z0 (a0 a1 : Option Addr) (len0 cap0 len1 cap1 : Nat) (turn : Int) (w : World) (hz : len0 = 0) :
    Calls Try.prog 3 #[.slice a0 len0 cap0, .slice a1 len1 cap1, .int .i64 turn] w fun e w' => e = .returned (.bool true) ∧ Below w.heap.size w w' := by
  subst hz
  go_enter Try.func3, Try.ntmps3
  go_wp2_with fail
  refine (of_any none 0 0 [] _ (is_nil _) (by omega)).mono ?_
  intro e w1 hans
  obtain ⟨a_q, n_q, c_q, rfl, i_q, b1⟩ := ans_n hans
  obtain rfl : 0 = n_q := i_q.1
  clear hans i_q
  go_wp2_with fail
  refine (awake6_any _).mono ?_
  rintro e w2 ⟨rfl, b2⟩
  have HB := hide (bmore b1 b2)
  go_wp2
  go_ret
  exact ⟨rfl, HB.out⟩

set_option maxHeartbeats 800000 in
theorem last_z1 (a0 a1 : Option Addr) (len0 cap0 len1 cap1 : Nat) (turn : Int) (w : World) (hz : len1 = 0) (hA : 0 < len0) :
    Calls Try.prog 3 #[.slice a0 len0 cap0, .slice a1 len1 cap1, .int .i64 turn] w fun e w' => e = .returned (.bool true) ∧ Below w.heap.size w w' := by
  subst hz
  go_enter Try.func3, Try.ntmps3
  go_wp2_with fail
  refine (of_any none 0 0 [] _ (is_nil _) (by omega)).mono ?_
  intro e w1 hans
  obtain ⟨a_q, n_q, c_q, rfl, i_q, b1⟩ := ans_n hans
  obtain rfl : 0 = n_q := i_q.1
  clear hans i_q
  go_wp2_with fail
  refine (awake6_any _).mono ?_
  rintro e w2 ⟨rfl, b2⟩
  have HB := hide (bmore b1 b2)
  go_wp2
  go_ret
  exact ⟨rfl, HB.out⟩

set_option maxRecDepth 4000 in
set_option maxHeartbeats 8000000 in
theorem last_a (a0 a1 : Option Addr) (len0 cap0 len1 cap1 : Nat) (vs xs : List Int) (turn : Int) (w : World) (h0 : Ur .u64 w a0 len0 vs) (h1 : Ur .i64 w a1 len1 xs) (hm0 : len0 ≤ 9223372036854775807) (hm1 : len1 ≤ 9223372036854775807) (hA : len0 ≤ len1) (hB : len0 ≤ 30) (hn0 : len0 ≠ 0) :
    Calls Try.prog 3 #[.slice a0 len0 cap0, .slice a1 len1 cap1, .int .i64 turn] w fun e w' => e = .returned (.bool true) ∧ Below w.heap.size w w' := by
  have H0 := hide (fun W (hW : Below w.heap.size w W) => h0.below hW)
  have H1 := hide (fun W (hW : Below w.heap.size w W) => h1.below hW)
  clear h0 h1
  obtain ⟨tt, htt⟩ : ∃ t, bits .and .i64 turn 255 = t := ⟨_, rfl⟩
  have htb := and8 turn
  rw [htt] at htb
  have q1 : ¬ len1 < len0 := by omega
  have q2 : ((len0 : Int) == 0) = false := by simp; omega
  have B0 := hide ((Below.refl _ w).alloc (Nat.le_refl _) (Obj.cells #[Value.int IntKind.i64 0, Value.int IntKind.i64 0, Value.int IntKind.u64 0, Value.int IntKind.u64 0, Value.int IntKind.i64 0] 29))
  have X0 := hide (vx_new w 0 0 0 0 0)
  go_enter Try.func3, Try.ntmps3
  go_wp2_with fail

  obtain ⟨Rb, hRb⟩ : ∃ R, R = w.heap.size := ⟨_, rfl⟩
  rw [← hRb] at X0 ⊢
  have HRb := hide hRb
  clear hRb
  go_loopw [8, 10] (fun s8 s10 wr => ∃ (i : Nat) (m : List It) (bs : It), i ≤ len0 ∧ s10 = .int .i64 i ∧ Hid (OwnI wr (Rb + 1) s8 m) ∧ Hid (m.length = i) ∧ Hid (Bst m bs) ∧ Hid (∀ z ∈ m, z.wf) ∧ Hid (Vx wr Rb bs.S bs.K bs.T bs.V bs.X) ∧ Hid (Below w.heap.size w wr)) (fun _ s10 _ => len0 - (intOf s10).toNat)
  case atStart => exact ⟨0, [], it0, by omega, rfl, hide (ownI_nil _ _), hide rfl, hide (bst_nil _), hide (by simp), X0, B0⟩
  case round =>
    obtain ⟨i, m, bs, hi, rfl, hown, hml, hbst, hwfm, hvx, hbel⟩ := hrel
    by_cases hlt : i < len0
    · obtain ⟨J, hJn, hJ⟩ : ∃ J : Nat, J < len0 ∧ ((i : Int) + tt).tmod (len0 : Int) = (J : Int) := by
        have h1 := Int.tmod_nonneg (len0 : Int) (show 0 ≤ (i : Int) + tt by omega)
        have h2 := Int.tmod_lt_of_pos ((i : Int) + tt) (show (0 : Int) < (len0 : Int) by omega)
        exact ⟨(((i : Int) + tt).tmod (len0 : Int)).toNat, by omega, by omega⟩
      obtain ⟨b0, off0, ea, hc0⟩ := (H0.out _ hbel.out) (by omega)
      obtain ⟨b1, off1, eb, hc1⟩ := (H1.out _ hbel.out) (by omega)
      subst ea eb
      obtain ⟨hv0, hw0⟩ := hc0 J (by omega)
      obtain ⟨hv1, hw1⟩ := hc1 J (by omega)
      have hb0 := World.block_lt_of_cell? wr _ hv0
      have hb1 := World.block_lt_of_cell? wr _ hv1
      obtain ⟨V0, hV0⟩ : ∃ v, vs.getD J 0 = v := ⟨_, rfl⟩
      obtain ⟨X, hX⟩ : ∃ v, xs.getD J 0 = v := ⟨_, rfl⟩
      rw [hV0] at hv0 hw0
      rw [hX] at hv1 hw1
      have hXb := i64_bounds hw1
      obtain ⟨V1, hV1⟩ : ∃ v, bits .and .u64 V0 281474976710655 = v := ⟨_, rfl⟩
      have hVb := and48 V0
      rw [hV1] at hVb
      obtain ⟨V, hV⟩ : ∃ v, V1 + 1 = v := ⟨_, rfl⟩
      have hVw : (V1 + 1) % 18446744073709551616 = V := by omega
      have hVw2 : IntKind.u64.wrap (V1 + 1) = V := by simp [IntKind.wrap, IntKind.bits, IntKind.signed]; omega
      have hVr : 1 ≤ V ∧ V ≤ 281474976710656 := by omega
      have hok : Hid (It.ok ⟨7, 2, 9, V, X⟩ = true) := hide (by simp [It.ok, okI]; omega)
      have hxw : Hid (It.wf ⟨7, 2, 9, V, X⟩) := hide (by unfold It.wf; simp; omega)
      have c0 : ∀ o, (wr.alloc o).cell? ⟨b0, off0 + J, none⟩ = some (.int .u64 V0) := fun o => by rw [World.cell?_alloc_past _ _ _ hb0]; exact hv0
      have c1 : ∀ o, (wr.alloc o).cell? ⟨b1, off1 + J, none⟩ = some (.int .i64 X) := fun o => by rw [World.cell?_alloc_past _ _ _ hb1]; exact hv1
      have d0 : wr.drew.cell? ⟨b0, off0 + J, none⟩ = some (.int .u64 V0) := hv0
      have d1 : wr.drew.cell? ⟨b1, off1 + J, none⟩ = some (.int .i64 X) := hv1
      have hJ0 : (J : Int) < (len0 : Int) := by omega
      have hJ1 : (J : Int) < (len1 : Int) := by omega
      clear hc0 hc1 hw0 hw1 hV0 hX hV
      go_wp2_with fail
      go_region
      have D1 := hide (((Below.refl wr.heap.size wr).alloc (Nat.le_refl _) (Obj.cells #[Value.int IntKind.i64 7, Value.int IntKind.i64 2, Value.int IntKind.u64 9, Value.int IntKind.u64 V, Value.int IntKind.i64 X] 29)).drew)
      have V_x := hide ((vi_new wr 7 2 9 V X).keep ((Below.refl _ _).drew))
      have hRlt := hvx.out.lt
      have VB := hide (hvx.out.keep D1.out)
      have OW := hide (ownI_keep hown.out D1.out)
      have BB := hide (bmore hbel.out D1.out)
      have hln : Hid (m.length + 1 ≤ 1099511627776) := hide (by have := hml.out; omega)
      have hmi : Hid (m = [] ↔ i = 0) := hide (by rw [← hml.out]; exact List.length_eq_zero_iff.symm)
      obtain ⟨bS, bK, bT, bV, bX⟩ := bs
      have q1 := V_x.out
      have q2 := VB.out.1
      unfold Vi at q1 q2
      simp only [Nat.zero_add] at q1 q2
      obtain ⟨x0, x1, x2, x3, x4⟩ := q1
      obtain ⟨y0, y1, y2, y3, y4⟩ := q2
      clear hvx hown hbel c0 c1 d0 d1 hv0 hv1
      obtain ⟨ow, how⟩ : ∃ o, winsI V X bV bX = o := ⟨_, rfl⟩
      have HOW := hide how
      clear how
      go_wp2_with fail
      refine (refwins_any 7 2 9 V X bS bK bT bV bX _).mono ?_
      rw [HOW.out]
      rintro e w2 ⟨rfl, b2⟩
      replace V_x := hide (V_x.out.keep b2)
      replace VB := hide (VB.out.keep b2)
      replace OW := hide (ownI_keep OW.out b2)
      replace BB := hide (bmore BB.out b2)
      clear x0 x1 x2 x3 x4 y0 y1 y2 y3 y4 b2 D1
      have q1 := V_x.out
      unfold Vi at q1
      simp only [Nat.zero_add] at q1
      obtain ⟨x0, x1, x2, x3, x4⟩ := q1
      have q2 := VB.out
      unfold Vx Vi Vf at q2
      simp only [Nat.zero_add] at q2
      obtain ⟨⟨y0, y1, y2, y3, y4⟩, z0, z1, z2, z3, z4⟩ := q2
      cases ow with
      | true =>
        have xx := V_x.out.grown (gb_putI w2 Rb 7 2 9 V X) (by intro e; injection e with e; omega)
        unfold Vi putI at xx
        simp only [Nat.zero_add] at xx
        obtain ⟨r0, r1, r2, r3, r4⟩ := xx
        have OS := hide (ownI_grown OW.out (gb_putI w2 Rb 7 2 9 V X) (fun k hk => by cases hk; omega))
        have VS := hide (VB.out.put 7 2 9 V X)
        have BS := hide (BB.out.grown (gb_putI w2 Rb 7 2 9 V X) BB.out.size (fun k hk => by cases hk; rw [HRb.out]; exact Nat.le_refl _))
        have OA := hide (ownI_keep OS.out ((Below.refl _ _).alloc (Nat.le_refl _) (Obj.cells #[Value.int IntKind.i64 7, Value.int IntKind.i64 2, Value.int IntKind.u64 9, Value.int IntKind.u64 V, Value.int IntKind.i64 X] 29)))
        have BA := hide (BS.out.alloc BS.out.size (Obj.cells #[Value.int IntKind.i64 7, Value.int IntKind.i64 2, Value.int IntKind.u64 9, Value.int IntKind.u64 V, Value.int IntKind.i64 X] 29))
        have VA := hide (VS.out.keep ((Below.refl _ _).alloc (Nat.le_refl _) (Obj.cells #[Value.int IntKind.i64 7, Value.int IntKind.i64 2, Value.int IntKind.u64 9, Value.int IntKind.u64 V, Value.int IntKind.i64 X] 29)))
        have IA := hide (is_one (putI w2 Rb 7 2 9 V X) 7 2 9 V X hxw.out)
        have SA : Hid (Rb + 1 ≤ ((putI w2 Rb 7 2 9 V X).alloc (Obj.cells #[Value.int IntKind.i64 7, Value.int IntKind.i64 2, Value.int IntKind.u64 9, Value.int IntKind.u64 V, Value.int IntKind.i64 X] 29)).heap.size) := hide VA.out.lt
        rw [show (putI w2 Rb 7 2 9 V X).heap.size = w2.heap.size from by simp [putI, World.setCell]] at IA
        unfold putI at OA BA VA IA SA
        go_wp2_with (at_builtin; refine wpList_append_items rfl _ _ rfl (Rb + 1) _ m rfl OA.out _ 1 1 [⟨7, 2, 9, V, X⟩] rfl IA.out hln.out SA.out ?_; intro nv w6 o6 g6 k6; have O6 := hide o6; have B6 := hide (BA.out.grown g6 BA.out.size (fun k hk => by have := k6 k hk; have := HRb.out; omega)); have V6 := hide (VA.out.grown g6 (fun e => by have := k6 _ e.symm; omega)); clear o6 g6 k6)
        go_roundw
        case rel => exact ⟨i + 1, _, ⟨7, 2, 9, V, X⟩, by omega, by go_num, O6, hide (by have := hml.out; simp; omega), hide (bst_new hbst.out ⟨rfl, rfl, rfl, hok.out⟩ (.inl (by unfold It.wins; exact HOW.out))), hide (fun z hz => by
          rcases List.mem_append.1 hz with h1 | h1
          · exact hwfm.out z h1
          · rw [List.mem_singleton.1 h1]; exact hxw.out), V6, B6⟩
        case measure => simp [intOf]; omega
      | false =>
        by_cases hi0 : i = 0
        · have hib : ((i : Int) == 0) = true := by simp [hi0]
          have HI0 := hide hi0
          clear hi0
          have xx := V_x.out.grown (gb_putI w2 Rb 7 2 9 V X) (by intro e; injection e with e; omega)
          unfold Vi putI at xx
          simp only [Nat.zero_add] at xx
          obtain ⟨r0, r1, r2, r3, r4⟩ := xx
          have OS := hide (ownI_grown OW.out (gb_putI w2 Rb 7 2 9 V X) (fun k hk => by cases hk; omega))
          have VS := hide (VB.out.put 7 2 9 V X)
          have BS := hide (BB.out.grown (gb_putI w2 Rb 7 2 9 V X) BB.out.size (fun k hk => by cases hk; rw [HRb.out]; exact Nat.le_refl _))
          have OA := hide (ownI_keep OS.out ((Below.refl _ _).alloc (Nat.le_refl _) (Obj.cells #[Value.int IntKind.i64 7, Value.int IntKind.i64 2, Value.int IntKind.u64 9, Value.int IntKind.u64 V, Value.int IntKind.i64 X] 29)))
          have BA := hide (BS.out.alloc BS.out.size (Obj.cells #[Value.int IntKind.i64 7, Value.int IntKind.i64 2, Value.int IntKind.u64 9, Value.int IntKind.u64 V, Value.int IntKind.i64 X] 29))
          have VA := hide (VS.out.keep ((Below.refl _ _).alloc (Nat.le_refl _) (Obj.cells #[Value.int IntKind.i64 7, Value.int IntKind.i64 2, Value.int IntKind.u64 9, Value.int IntKind.u64 V, Value.int IntKind.i64 X] 29)))
          have IA := hide (is_one (putI w2 Rb 7 2 9 V X) 7 2 9 V X hxw.out)
          have SA : Hid (Rb + 1 ≤ ((putI w2 Rb 7 2 9 V X).alloc (Obj.cells #[Value.int IntKind.i64 7, Value.int IntKind.i64 2, Value.int IntKind.u64 9, Value.int IntKind.u64 V, Value.int IntKind.i64 X] 29)).heap.size) := hide VA.out.lt
          rw [show (putI w2 Rb 7 2 9 V X).heap.size = w2.heap.size from by simp [putI, World.setCell]] at IA
          unfold putI at OA BA VA IA SA
          go_wp2_with (at_builtin; refine wpList_append_items rfl _ _ rfl (Rb + 1) _ m rfl OA.out _ 1 1 [⟨7, 2, 9, V, X⟩] rfl IA.out hln.out SA.out ?_; intro nv w6 o6 g6 k6; have O6 := hide o6; have B6 := hide (BA.out.grown g6 BA.out.size (fun k hk => by have := k6 k hk; have := HRb.out; omega)); have V6 := hide (VA.out.grown g6 (fun e => by have := k6 _ e.symm; omega)); clear o6 g6 k6)
          go_roundw
          case rel => exact ⟨i + 1, _, ⟨7, 2, 9, V, X⟩, by omega, by go_num, O6, hide (by have := hml.out; simp; omega), hide (bst_new hbst.out ⟨rfl, rfl, rfl, hok.out⟩ (.inr (hmi.out.2 HI0.out))), hide (fun z hz => by
            rcases List.mem_append.1 hz with h1 | h1
            · exact hwfm.out z h1
            · rw [List.mem_singleton.1 h1]; exact hxw.out), V6, B6⟩
          case measure => simp [intOf]; omega
        · have hib : ((i : Int) == 0) = false := by simp [hi0]
          have HI0 := hide hi0
          clear hi0
          have OA := hide (ownI_keep OW.out ((Below.refl _ _).alloc (Nat.le_refl _) (Obj.cells #[Value.int IntKind.i64 7, Value.int IntKind.i64 2, Value.int IntKind.u64 9, Value.int IntKind.u64 V, Value.int IntKind.i64 X] 29)))
          have BA := hide (BB.out.alloc BB.out.size (Obj.cells #[Value.int IntKind.i64 7, Value.int IntKind.i64 2, Value.int IntKind.u64 9, Value.int IntKind.u64 V, Value.int IntKind.i64 X] 29))
          have VA := hide (VB.out.keep ((Below.refl _ _).alloc (Nat.le_refl _) (Obj.cells #[Value.int IntKind.i64 7, Value.int IntKind.i64 2, Value.int IntKind.u64 9, Value.int IntKind.u64 V, Value.int IntKind.i64 X] 29)))
          have IA := hide (is_one (w2) 7 2 9 V X hxw.out)
          have SA : Hid (Rb + 1 ≤ ((w2).alloc (Obj.cells #[Value.int IntKind.i64 7, Value.int IntKind.i64 2, Value.int IntKind.u64 9, Value.int IntKind.u64 V, Value.int IntKind.i64 X] 29)).heap.size) := hide VA.out.lt
          skip
          go_wp2_with (at_builtin; refine wpList_append_items rfl _ _ rfl (Rb + 1) _ m rfl OA.out _ 1 1 [⟨7, 2, 9, V, X⟩] rfl IA.out hln.out SA.out ?_; intro nv w6 o6 g6 k6; have O6 := hide o6; have B6 := hide (BA.out.grown g6 BA.out.size (fun k hk => by have := k6 k hk; have := HRb.out; omega)); have V6 := hide (VA.out.grown g6 (fun e => by have := k6 _ e.symm; omega)); clear o6 g6 k6)
          go_roundw
          case rel => exact ⟨i + 1, _, ⟨bS, bK, bT, bV, bX⟩, by omega, by go_num, O6, hide (by have := hml.out; simp; omega), hide (bst_old hbst.out ⟨rfl, rfl, rfl, hok.out⟩ (by unfold It.wins; exact HOW.out) (fun e => HI0.out (hmi.out.1 e))), hide (fun z hz => by
            rcases List.mem_append.1 hz with h1 | h1
            · exact hwfm.out z h1
            · rw [List.mem_singleton.1 h1]; exact hxw.out), V6, B6⟩
          case measure => simp [intOf]; omega
    · have hin : i = len0 := by omega
      have hmne : m ≠ [] := fun e => by have := hml.out; rw [e] at this; simp at this; omega
      have hbm := hbst.out.1 bs (hbst.out.2 hmne)
      have hof := hide (bst_of hbst.out hmne)
      have hbv : Hid (1 ≤ bs.V) := hide (by have := hbm.2.2.2.1; rw [ok_iff] at this; omega)
      obtain ⟨bS, bK, bT, bV, bX⟩ := bs
      obtain ⟨rfl, rfl, rfl, -, -⟩ := hbm
      have htp : Hid (topL [(⟨7, 2, 9, bV, bX⟩ : It)] = bV) := hide (by have := hbv.out; simp only at this; simp [topL]; omega)
      have hgt : Hid (getL [(⟨7, 2, 9, bV, bX⟩ : It)] 7 9 = some ⟨7, 2, 9, bV, bX⟩) := hide (by simp [getL, getP, sampP])
      obtain ⟨am, cm, em, hcm, im, -⟩ := ownI_is hown.out hwfm.out
      obtain ⟨nm, hnm⟩ : ∃ n, m.length = n := ⟨_, rfl⟩
      rw [hnm] at em im
      subst em
      have Nm : nm ≤ 30 := by have := hml.out; omega
      have I_m := hide im
      have HB := hide hbel.out
      have VB := hide hvx.out
      simp only at VB
      clear im hnm hown hmne hbst hvx hbel hml
      go_wp2_with fail
      refine (of_any am nm cm m _ I_m.out (by omega)).mono ?_
      intro e w1 hans
      obtain ⟨a_q, n_q, c_q, rfl, i_q, b1⟩ := ans_n hans
      rw [hof.out] at i_q
      obtain rfl : 1 = n_q := i_q.1
      have I_q := hide i_q
      replace VB := hide (VB.out.keep b1)
      replace HB := hide (bmore HB.out b1)
      clear hans i_q b1 I_m
      go_wp2_with fail
      refine (get_any a_q 1 c_q _ 7 9 _ I_q.out (by omega)).mono ?_
      rw [hgt.out]
      rintro e w2 ⟨rfl, b2⟩
      replace I_q := hide (I_q.out.below b2 (Nat.le_refl _))
      replace VB := hide (VB.out.keep b2)
      replace HB := hide (bmore HB.out b2)
      clear b2
      simp only [Option.getD_some, Option.isSome_some, cv]
      have D2 : Below w2.heap.size w2 (w2.alloc (Obj.cells #[Value.int IntKind.i64 7, Value.int IntKind.i64 2, Value.int IntKind.u64 9, Value.int IntKind.u64 bV, Value.int IntKind.i64 bX] 29)) := (Below.refl _ _).alloc (Nat.le_refl _) _
      have V_x := hide (vi_new w2 7 2 9 bV bX)
      replace I_q := hide (I_q.out.below D2 (Nat.le_refl _))
      replace VB := hide (VB.out.keep D2)
      replace HB := hide (bmore HB.out D2)
      clear D2
      obtain ⟨bq, offq, eq, hcq⟩ := I_q.out.2.2.2 (by omega)
      subst eq
      have hvq := hide (hcq 0 _ rfl)
      unfold Vt at hvq
      simp only [Nat.zero_mul, Nat.add_zero] at hvq
      clear hcq
      have d0 : ∀ p : Kp (w2.alloc (Obj.cells #[Value.int IntKind.i64 7, Value.int IntKind.i64 2, Value.int IntKind.u64 9, Value.int IntKind.u64 bV, Value.int IntKind.i64 bX] 29)), p.W.cell? ⟨Rb, 0, none⟩ = some (.int .i64 7) := fun p => (VB.out.1.keep p.h).1
      have d1 : ∀ p : Kp (w2.alloc (Obj.cells #[Value.int IntKind.i64 7, Value.int IntKind.i64 2, Value.int IntKind.u64 9, Value.int IntKind.u64 bV, Value.int IntKind.i64 bX] 29)), p.W.cell? ⟨Rb, 1, none⟩ = some (.int .i64 2) := fun p => (VB.out.1.keep p.h).2.1
      have d2 : ∀ p : Kp (w2.alloc (Obj.cells #[Value.int IntKind.i64 7, Value.int IntKind.i64 2, Value.int IntKind.u64 9, Value.int IntKind.u64 bV, Value.int IntKind.i64 bX] 29)), p.W.cell? ⟨Rb, 2, none⟩ = some (.int .u64 9) := fun p => (VB.out.1.keep p.h).2.2.1
      have d3 : ∀ p : Kp (w2.alloc (Obj.cells #[Value.int IntKind.i64 7, Value.int IntKind.i64 2, Value.int IntKind.u64 9, Value.int IntKind.u64 bV, Value.int IntKind.i64 bX] 29)), p.W.cell? ⟨Rb, 3, none⟩ = some (.int .u64 bV) := fun p => (VB.out.1.keep p.h).2.2.2.1
      have d4 : ∀ p : Kp (w2.alloc (Obj.cells #[Value.int IntKind.i64 7, Value.int IntKind.i64 2, Value.int IntKind.u64 9, Value.int IntKind.u64 bV, Value.int IntKind.i64 bX] 29)), p.W.cell? ⟨Rb, 4, none⟩ = some (.int .i64 bX) := fun p => (VB.out.1.keep p.h).2.2.2.2
      have f0 : ∀ p : Kp (w2.alloc (Obj.cells #[Value.int IntKind.i64 7, Value.int IntKind.i64 2, Value.int IntKind.u64 9, Value.int IntKind.u64 bV, Value.int IntKind.i64 bX] 29)), p.W.cell? ⟨w2.heap.size, 0, none⟩ = some (.int .i64 7) := fun p => (V_x.out.keep p.h).1
      have f1 : ∀ p : Kp (w2.alloc (Obj.cells #[Value.int IntKind.i64 7, Value.int IntKind.i64 2, Value.int IntKind.u64 9, Value.int IntKind.u64 bV, Value.int IntKind.i64 bX] 29)), p.W.cell? ⟨w2.heap.size, 1, none⟩ = some (.int .i64 2) := fun p => (V_x.out.keep p.h).2.1
      have f2 : ∀ p : Kp (w2.alloc (Obj.cells #[Value.int IntKind.i64 7, Value.int IntKind.i64 2, Value.int IntKind.u64 9, Value.int IntKind.u64 bV, Value.int IntKind.i64 bX] 29)), p.W.cell? ⟨w2.heap.size, 2, none⟩ = some (.int .u64 9) := fun p => (V_x.out.keep p.h).2.2.1
      have f3 : ∀ p : Kp (w2.alloc (Obj.cells #[Value.int IntKind.i64 7, Value.int IntKind.i64 2, Value.int IntKind.u64 9, Value.int IntKind.u64 bV, Value.int IntKind.i64 bX] 29)), p.W.cell? ⟨w2.heap.size, 3, none⟩ = some (.int .u64 bV) := fun p => (V_x.out.keep p.h).2.2.2.1
      have f4 : ∀ p : Kp (w2.alloc (Obj.cells #[Value.int IntKind.i64 7, Value.int IntKind.i64 2, Value.int IntKind.u64 9, Value.int IntKind.u64 bV, Value.int IntKind.i64 bX] 29)), p.W.cell? ⟨w2.heap.size, 4, none⟩ = some (.int .i64 bX) := fun p => (V_x.out.keep p.h).2.2.2.2
      have g0 : ∀ p : Kp (w2.alloc (Obj.cells #[Value.int IntKind.i64 7, Value.int IntKind.i64 2, Value.int IntKind.u64 9, Value.int IntKind.u64 bV, Value.int IntKind.i64 bX] 29)), p.W.cell? ⟨bq, offq, none⟩ = some (.int .i64 7) := fun p => (hvq.out.keep p.h).1
      have g1 : ∀ p : Kp (w2.alloc (Obj.cells #[Value.int IntKind.i64 7, Value.int IntKind.i64 2, Value.int IntKind.u64 9, Value.int IntKind.u64 bV, Value.int IntKind.i64 bX] 29)), p.W.cell? ⟨bq, offq + 1, none⟩ = some (.int .i64 2) := fun p => (hvq.out.keep p.h).2.1
      have g2 : ∀ p : Kp (w2.alloc (Obj.cells #[Value.int IntKind.i64 7, Value.int IntKind.i64 2, Value.int IntKind.u64 9, Value.int IntKind.u64 bV, Value.int IntKind.i64 bX] 29)), p.W.cell? ⟨bq, offq + 2, none⟩ = some (.int .u64 9) := fun p => (hvq.out.keep p.h).2.2.1
      have g3 : ∀ p : Kp (w2.alloc (Obj.cells #[Value.int IntKind.i64 7, Value.int IntKind.i64 2, Value.int IntKind.u64 9, Value.int IntKind.u64 bV, Value.int IntKind.i64 bX] 29)), p.W.cell? ⟨bq, offq + 3, none⟩ = some (.int .u64 bV) := fun p => (hvq.out.keep p.h).2.2.2.1
      have g4 : ∀ p : Kp (w2.alloc (Obj.cells #[Value.int IntKind.i64 7, Value.int IntKind.i64 2, Value.int IntKind.u64 9, Value.int IntKind.u64 bV, Value.int IntKind.i64 bX] 29)), p.W.cell? ⟨bq, offq + 4, none⟩ = some (.int .i64 bX) := fun p => (hvq.out.keep p.h).2.2.2.2
      have cT : Hid (∀ p : Kp (w2.alloc (Obj.cells #[Value.int IntKind.i64 7, Value.int IntKind.i64 2, Value.int IntKind.u64 9, Value.int IntKind.u64 bV, Value.int IntKind.i64 bX] 29)), Calls Try.prog 13 #[.slice (some ⟨bq, offq, none⟩) 1 c_q] p.W fun e w'' => e = .returned (.int .u64 bV) ∧ ∃ q : Kp (w2.alloc (Obj.cells #[Value.int IntKind.i64 7, Value.int IntKind.i64 2, Value.int IntKind.u64 9, Value.int IntKind.u64 bV, Value.int IntKind.i64 bX] 29)), w'' = q.W) := hide fun p => kp_call (by have := top_any (some ⟨bq, offq, none⟩) 1 c_q _ p.W (I_q.out.below p.h (Nat.le_refl _)) (by omega); rw [htp.out] at this; exact this)
      have cW : Hid (∀ p : Kp (w2.alloc (Obj.cells #[Value.int IntKind.i64 7, Value.int IntKind.i64 2, Value.int IntKind.u64 9, Value.int IntKind.u64 bV, Value.int IntKind.i64 bX] 29)), Calls Try.prog 10 #[] p.W fun e w'' => e = .returned (.bool true) ∧ ∃ q : Kp (w2.alloc (Obj.cells #[Value.int IntKind.i64 7, Value.int IntKind.i64 2, Value.int IntKind.u64 9, Value.int IntKind.u64 bV, Value.int IntKind.i64 bX] 29)), w'' = q.W) := hide fun p => kp_call (awake6_any _)
      have hne : Nonempty (Kp (w2.alloc (Obj.cells #[Value.int IntKind.i64 7, Value.int IntKind.i64 2, Value.int IntKind.u64 9, Value.int IntKind.u64 bV, Value.int IntKind.i64 bX] 29))) := ⟨⟨_, Below.refl _ _⟩⟩
      go_wp2_with fail
      refine wp_region_kept (by kernel_rfl) (by kernel_rfl) ?_
      repeat (first
        | go_big_quiet_step (first | (go_at_call 13; exact cT.out _) | (go_at_call 10; exact cW.out _))
        | fail)
      refine wpQuiet_nil ?_
      intro w99 hw'
      have b99 : Below (w2.alloc (Obj.cells #[Value.int IntKind.i64 7, Value.int IntKind.i64 2, Value.int IntKind.u64 9, Value.int IntKind.u64 bV, Value.int IntKind.i64 bX] 29)).heap.size (w2.alloc (Obj.cells #[Value.int IntKind.i64 7, Value.int IntKind.i64 2, Value.int IntKind.u64 9, Value.int IntKind.u64 bV, Value.int IntKind.i64 bX] 29)) w99 := by
        obtain ⟨⟨w3', hb3⟩, hw''⟩ := hw'
        rw [hw'']; exact hb3
      replace HB := hide (bmore HB.out b99)
      clear hw' hne b99 cT cW d0 d1 d2 d3 d4 f0 f1 f2 f3 f4 g0 g1 g2 g3 g4
      go_wp2
      go_ret
      exact ⟨rfl, HB.out⟩

set_option maxRecDepth 4000 in
set_option maxHeartbeats 8000000 in
theorem last_b (a0 a1 : Option Addr) (len0 cap0 len1 cap1 : Nat) (vs xs : List Int) (turn : Int) (w : World) (h0 : Ur .u64 w a0 len0 vs) (h1 : Ur .i64 w a1 len1 xs) (hm0 : len0 ≤ 9223372036854775807) (hm1 : len1 ≤ 9223372036854775807) (hA : len1 < len0) (hB : len1 ≤ 30) (hn0 : len1 ≠ 0) :
    Calls Try.prog 3 #[.slice a0 len0 cap0, .slice a1 len1 cap1, .int .i64 turn] w fun e w' => e = .returned (.bool true) ∧ Below w.heap.size w w' := by
  have H0 := hide (fun W (hW : Below w.heap.size w W) => h0.below hW)
  have H1 := hide (fun W (hW : Below w.heap.size w W) => h1.below hW)
  clear h0 h1
  obtain ⟨tt, htt⟩ : ∃ t, bits .and .i64 turn 255 = t := ⟨_, rfl⟩
  have htb := and8 turn
  rw [htt] at htb
  have q2 : ((len1 : Int) == 0) = false := by simp; omega
  have B0 := hide ((Below.refl _ w).alloc (Nat.le_refl _) (Obj.cells #[Value.int IntKind.i64 0, Value.int IntKind.i64 0, Value.int IntKind.u64 0, Value.int IntKind.u64 0, Value.int IntKind.i64 0] 29))
  have X0 := hide (vx_new w 0 0 0 0 0)
  go_enter Try.func3, Try.ntmps3
  go_wp2_with fail

  obtain ⟨Rb, hRb⟩ : ∃ R, R = w.heap.size := ⟨_, rfl⟩
  rw [← hRb] at X0 ⊢
  have HRb := hide hRb
  clear hRb
  go_loopw [8, 10] (fun s8 s10 wr => ∃ (i : Nat) (m : List It) (bs : It), i ≤ len1 ∧ s10 = .int .i64 i ∧ Hid (OwnI wr (Rb + 1) s8 m) ∧ Hid (m.length = i) ∧ Hid (Bst m bs) ∧ Hid (∀ z ∈ m, z.wf) ∧ Hid (Vx wr Rb bs.S bs.K bs.T bs.V bs.X) ∧ Hid (Below w.heap.size w wr)) (fun _ s10 _ => len1 - (intOf s10).toNat)
  case atStart => exact ⟨0, [], it0, by omega, rfl, hide (ownI_nil _ _), hide rfl, hide (bst_nil _), hide (by simp), X0, B0⟩
  case round =>
    obtain ⟨i, m, bs, hi, rfl, hown, hml, hbst, hwfm, hvx, hbel⟩ := hrel
    by_cases hlt : i < len1
    · obtain ⟨J, hJn, hJ⟩ : ∃ J : Nat, J < len1 ∧ ((i : Int) + tt).tmod (len1 : Int) = (J : Int) := by
        have h1 := Int.tmod_nonneg (len1 : Int) (show 0 ≤ (i : Int) + tt by omega)
        have h2 := Int.tmod_lt_of_pos ((i : Int) + tt) (show (0 : Int) < (len1 : Int) by omega)
        exact ⟨(((i : Int) + tt).tmod (len1 : Int)).toNat, by omega, by omega⟩
      obtain ⟨b0, off0, ea, hc0⟩ := (H0.out _ hbel.out) (by omega)
      obtain ⟨b1, off1, eb, hc1⟩ := (H1.out _ hbel.out) (by omega)
      subst ea eb
      obtain ⟨hv0, hw0⟩ := hc0 J (by omega)
      obtain ⟨hv1, hw1⟩ := hc1 J (by omega)
      have hb0 := World.block_lt_of_cell? wr _ hv0
      have hb1 := World.block_lt_of_cell? wr _ hv1
      obtain ⟨V0, hV0⟩ : ∃ v, vs.getD J 0 = v := ⟨_, rfl⟩
      obtain ⟨X, hX⟩ : ∃ v, xs.getD J 0 = v := ⟨_, rfl⟩
      rw [hV0] at hv0 hw0
      rw [hX] at hv1 hw1
      have hXb := i64_bounds hw1
      obtain ⟨V1, hV1⟩ : ∃ v, bits .and .u64 V0 281474976710655 = v := ⟨_, rfl⟩
      have hVb := and48 V0
      rw [hV1] at hVb
      obtain ⟨V, hV⟩ : ∃ v, V1 + 1 = v := ⟨_, rfl⟩
      have hVw : (V1 + 1) % 18446744073709551616 = V := by omega
      have hVw2 : IntKind.u64.wrap (V1 + 1) = V := by simp [IntKind.wrap, IntKind.bits, IntKind.signed]; omega
      have hVr : 1 ≤ V ∧ V ≤ 281474976710656 := by omega
      have hok : Hid (It.ok ⟨7, 2, 9, V, X⟩ = true) := hide (by simp [It.ok, okI]; omega)
      have hxw : Hid (It.wf ⟨7, 2, 9, V, X⟩) := hide (by unfold It.wf; simp; omega)
      have c0 : ∀ o, (wr.alloc o).cell? ⟨b0, off0 + J, none⟩ = some (.int .u64 V0) := fun o => by rw [World.cell?_alloc_past _ _ _ hb0]; exact hv0
      have c1 : ∀ o, (wr.alloc o).cell? ⟨b1, off1 + J, none⟩ = some (.int .i64 X) := fun o => by rw [World.cell?_alloc_past _ _ _ hb1]; exact hv1
      have d0 : wr.drew.cell? ⟨b0, off0 + J, none⟩ = some (.int .u64 V0) := hv0
      have d1 : wr.drew.cell? ⟨b1, off1 + J, none⟩ = some (.int .i64 X) := hv1
      have hJ0 : (J : Int) < (len0 : Int) := by omega
      have hJ1 : (J : Int) < (len1 : Int) := by omega
      clear hc0 hc1 hw0 hw1 hV0 hX hV
      go_wp2_with fail
      go_region
      have D1 := hide (((Below.refl wr.heap.size wr).alloc (Nat.le_refl _) (Obj.cells #[Value.int IntKind.i64 7, Value.int IntKind.i64 2, Value.int IntKind.u64 9, Value.int IntKind.u64 V, Value.int IntKind.i64 X] 29)).drew)
      have V_x := hide ((vi_new wr 7 2 9 V X).keep ((Below.refl _ _).drew))
      have hRlt := hvx.out.lt
      have VB := hide (hvx.out.keep D1.out)
      have OW := hide (ownI_keep hown.out D1.out)
      have BB := hide (bmore hbel.out D1.out)
      have hln : Hid (m.length + 1 ≤ 1099511627776) := hide (by have := hml.out; omega)
      have hmi : Hid (m = [] ↔ i = 0) := hide (by rw [← hml.out]; exact List.length_eq_zero_iff.symm)
      obtain ⟨bS, bK, bT, bV, bX⟩ := bs
      have q1 := V_x.out
      have q2 := VB.out.1
      unfold Vi at q1 q2
      simp only [Nat.zero_add] at q1 q2
      obtain ⟨x0, x1, x2, x3, x4⟩ := q1
      obtain ⟨y0, y1, y2, y3, y4⟩ := q2
      clear hvx hown hbel c0 c1 d0 d1 hv0 hv1
      obtain ⟨ow, how⟩ : ∃ o, winsI V X bV bX = o := ⟨_, rfl⟩
      have HOW := hide how
      clear how
      go_wp2_with fail
      refine (refwins_any 7 2 9 V X bS bK bT bV bX _).mono ?_
      rw [HOW.out]
      rintro e w2 ⟨rfl, b2⟩
      replace V_x := hide (V_x.out.keep b2)
      replace VB := hide (VB.out.keep b2)
      replace OW := hide (ownI_keep OW.out b2)
      replace BB := hide (bmore BB.out b2)
      clear x0 x1 x2 x3 x4 y0 y1 y2 y3 y4 b2 D1
      have q1 := V_x.out
      unfold Vi at q1
      simp only [Nat.zero_add] at q1
      obtain ⟨x0, x1, x2, x3, x4⟩ := q1
      have q2 := VB.out
      unfold Vx Vi Vf at q2
      simp only [Nat.zero_add] at q2
      obtain ⟨⟨y0, y1, y2, y3, y4⟩, z0, z1, z2, z3, z4⟩ := q2
      cases ow with
      | true =>
        have xx := V_x.out.grown (gb_putI w2 Rb 7 2 9 V X) (by intro e; injection e with e; omega)
        unfold Vi putI at xx
        simp only [Nat.zero_add] at xx
        obtain ⟨r0, r1, r2, r3, r4⟩ := xx
        have OS := hide (ownI_grown OW.out (gb_putI w2 Rb 7 2 9 V X) (fun k hk => by cases hk; omega))
        have VS := hide (VB.out.put 7 2 9 V X)
        have BS := hide (BB.out.grown (gb_putI w2 Rb 7 2 9 V X) BB.out.size (fun k hk => by cases hk; rw [HRb.out]; exact Nat.le_refl _))
        have OA := hide (ownI_keep OS.out ((Below.refl _ _).alloc (Nat.le_refl _) (Obj.cells #[Value.int IntKind.i64 7, Value.int IntKind.i64 2, Value.int IntKind.u64 9, Value.int IntKind.u64 V, Value.int IntKind.i64 X] 29)))
        have BA := hide (BS.out.alloc BS.out.size (Obj.cells #[Value.int IntKind.i64 7, Value.int IntKind.i64 2, Value.int IntKind.u64 9, Value.int IntKind.u64 V, Value.int IntKind.i64 X] 29))
        have VA := hide (VS.out.keep ((Below.refl _ _).alloc (Nat.le_refl _) (Obj.cells #[Value.int IntKind.i64 7, Value.int IntKind.i64 2, Value.int IntKind.u64 9, Value.int IntKind.u64 V, Value.int IntKind.i64 X] 29)))
        have IA := hide (is_one (putI w2 Rb 7 2 9 V X) 7 2 9 V X hxw.out)
        have SA : Hid (Rb + 1 ≤ ((putI w2 Rb 7 2 9 V X).alloc (Obj.cells #[Value.int IntKind.i64 7, Value.int IntKind.i64 2, Value.int IntKind.u64 9, Value.int IntKind.u64 V, Value.int IntKind.i64 X] 29)).heap.size) := hide VA.out.lt
        rw [show (putI w2 Rb 7 2 9 V X).heap.size = w2.heap.size from by simp [putI, World.setCell]] at IA
        unfold putI at OA BA VA IA SA
        go_wp2_with (at_builtin; refine wpList_append_items rfl _ _ rfl (Rb + 1) _ m rfl OA.out _ 1 1 [⟨7, 2, 9, V, X⟩] rfl IA.out hln.out SA.out ?_; intro nv w6 o6 g6 k6; have O6 := hide o6; have B6 := hide (BA.out.grown g6 BA.out.size (fun k hk => by have := k6 k hk; have := HRb.out; omega)); have V6 := hide (VA.out.grown g6 (fun e => by have := k6 _ e.symm; omega)); clear o6 g6 k6)
        go_roundw
        case rel => exact ⟨i + 1, _, ⟨7, 2, 9, V, X⟩, by omega, by go_num, O6, hide (by have := hml.out; simp; omega), hide (bst_new hbst.out ⟨rfl, rfl, rfl, hok.out⟩ (.inl (by unfold It.wins; exact HOW.out))), hide (fun z hz => by
          rcases List.mem_append.1 hz with h1 | h1
          · exact hwfm.out z h1
          · rw [List.mem_singleton.1 h1]; exact hxw.out), V6, B6⟩
        case measure => simp [intOf]; omega
      | false =>
        by_cases hi0 : i = 0
        · have hib : ((i : Int) == 0) = true := by simp [hi0]
          have HI0 := hide hi0
          clear hi0
          have xx := V_x.out.grown (gb_putI w2 Rb 7 2 9 V X) (by intro e; injection e with e; omega)
          unfold Vi putI at xx
          simp only [Nat.zero_add] at xx
          obtain ⟨r0, r1, r2, r3, r4⟩ := xx
          have OS := hide (ownI_grown OW.out (gb_putI w2 Rb 7 2 9 V X) (fun k hk => by cases hk; omega))
          have VS := hide (VB.out.put 7 2 9 V X)
          have BS := hide (BB.out.grown (gb_putI w2 Rb 7 2 9 V X) BB.out.size (fun k hk => by cases hk; rw [HRb.out]; exact Nat.le_refl _))
          have OA := hide (ownI_keep OS.out ((Below.refl _ _).alloc (Nat.le_refl _) (Obj.cells #[Value.int IntKind.i64 7, Value.int IntKind.i64 2, Value.int IntKind.u64 9, Value.int IntKind.u64 V, Value.int IntKind.i64 X] 29)))
          have BA := hide (BS.out.alloc BS.out.size (Obj.cells #[Value.int IntKind.i64 7, Value.int IntKind.i64 2, Value.int IntKind.u64 9, Value.int IntKind.u64 V, Value.int IntKind.i64 X] 29))
          have VA := hide (VS.out.keep ((Below.refl _ _).alloc (Nat.le_refl _) (Obj.cells #[Value.int IntKind.i64 7, Value.int IntKind.i64 2, Value.int IntKind.u64 9, Value.int IntKind.u64 V, Value.int IntKind.i64 X] 29)))
          have IA := hide (is_one (putI w2 Rb 7 2 9 V X) 7 2 9 V X hxw.out)
          have SA : Hid (Rb + 1 ≤ ((putI w2 Rb 7 2 9 V X).alloc (Obj.cells #[Value.int IntKind.i64 7, Value.int IntKind.i64 2, Value.int IntKind.u64 9, Value.int IntKind.u64 V, Value.int IntKind.i64 X] 29)).heap.size) := hide VA.out.lt
          rw [show (putI w2 Rb 7 2 9 V X).heap.size = w2.heap.size from by simp [putI, World.setCell]] at IA
          unfold putI at OA BA VA IA SA
          go_wp2_with (at_builtin; refine wpList_append_items rfl _ _ rfl (Rb + 1) _ m rfl OA.out _ 1 1 [⟨7, 2, 9, V, X⟩] rfl IA.out hln.out SA.out ?_; intro nv w6 o6 g6 k6; have O6 := hide o6; have B6 := hide (BA.out.grown g6 BA.out.size (fun k hk => by have := k6 k hk; have := HRb.out; omega)); have V6 := hide (VA.out.grown g6 (fun e => by have := k6 _ e.symm; omega)); clear o6 g6 k6)
          go_roundw
          case rel => exact ⟨i + 1, _, ⟨7, 2, 9, V, X⟩, by omega, by go_num, O6, hide (by have := hml.out; simp; omega), hide (bst_new hbst.out ⟨rfl, rfl, rfl, hok.out⟩ (.inr (hmi.out.2 HI0.out))), hide (fun z hz => by
            rcases List.mem_append.1 hz with h1 | h1
            · exact hwfm.out z h1
            · rw [List.mem_singleton.1 h1]; exact hxw.out), V6, B6⟩
          case measure => simp [intOf]; omega
        · have hib : ((i : Int) == 0) = false := by simp [hi0]
          have HI0 := hide hi0
          clear hi0
          have OA := hide (ownI_keep OW.out ((Below.refl _ _).alloc (Nat.le_refl _) (Obj.cells #[Value.int IntKind.i64 7, Value.int IntKind.i64 2, Value.int IntKind.u64 9, Value.int IntKind.u64 V, Value.int IntKind.i64 X] 29)))
          have BA := hide (BB.out.alloc BB.out.size (Obj.cells #[Value.int IntKind.i64 7, Value.int IntKind.i64 2, Value.int IntKind.u64 9, Value.int IntKind.u64 V, Value.int IntKind.i64 X] 29))
          have VA := hide (VB.out.keep ((Below.refl _ _).alloc (Nat.le_refl _) (Obj.cells #[Value.int IntKind.i64 7, Value.int IntKind.i64 2, Value.int IntKind.u64 9, Value.int IntKind.u64 V, Value.int IntKind.i64 X] 29)))
          have IA := hide (is_one (w2) 7 2 9 V X hxw.out)
          have SA : Hid (Rb + 1 ≤ ((w2).alloc (Obj.cells #[Value.int IntKind.i64 7, Value.int IntKind.i64 2, Value.int IntKind.u64 9, Value.int IntKind.u64 V, Value.int IntKind.i64 X] 29)).heap.size) := hide VA.out.lt
          skip
          go_wp2_with (at_builtin; refine wpList_append_items rfl _ _ rfl (Rb + 1) _ m rfl OA.out _ 1 1 [⟨7, 2, 9, V, X⟩] rfl IA.out hln.out SA.out ?_; intro nv w6 o6 g6 k6; have O6 := hide o6; have B6 := hide (BA.out.grown g6 BA.out.size (fun k hk => by have := k6 k hk; have := HRb.out; omega)); have V6 := hide (VA.out.grown g6 (fun e => by have := k6 _ e.symm; omega)); clear o6 g6 k6)
          go_roundw
          case rel => exact ⟨i + 1, _, ⟨bS, bK, bT, bV, bX⟩, by omega, by go_num, O6, hide (by have := hml.out; simp; omega), hide (bst_old hbst.out ⟨rfl, rfl, rfl, hok.out⟩ (by unfold It.wins; exact HOW.out) (fun e => HI0.out (hmi.out.1 e))), hide (fun z hz => by
            rcases List.mem_append.1 hz with h1 | h1
            · exact hwfm.out z h1
            · rw [List.mem_singleton.1 h1]; exact hxw.out), V6, B6⟩
          case measure => simp [intOf]; omega
    · have hin : i = len1 := by omega
      have hmne : m ≠ [] := fun e => by have := hml.out; rw [e] at this; simp at this; omega
      have hbm := hbst.out.1 bs (hbst.out.2 hmne)
      have hof := hide (bst_of hbst.out hmne)
      have hbv : Hid (1 ≤ bs.V) := hide (by have := hbm.2.2.2.1; rw [ok_iff] at this; omega)
      obtain ⟨bS, bK, bT, bV, bX⟩ := bs
      obtain ⟨rfl, rfl, rfl, -, -⟩ := hbm
      have htp : Hid (topL [(⟨7, 2, 9, bV, bX⟩ : It)] = bV) := hide (by have := hbv.out; simp only at this; simp [topL]; omega)
      have hgt : Hid (getL [(⟨7, 2, 9, bV, bX⟩ : It)] 7 9 = some ⟨7, 2, 9, bV, bX⟩) := hide (by simp [getL, getP, sampP])
      obtain ⟨am, cm, em, hcm, im, -⟩ := ownI_is hown.out hwfm.out
      obtain ⟨nm, hnm⟩ : ∃ n, m.length = n := ⟨_, rfl⟩
      rw [hnm] at em im
      subst em
      have Nm : nm ≤ 30 := by have := hml.out; omega
      have I_m := hide im
      have HB := hide hbel.out
      have VB := hide hvx.out
      simp only at VB
      clear im hnm hown hmne hbst hvx hbel hml
      go_wp2_with fail
      refine (of_any am nm cm m _ I_m.out (by omega)).mono ?_
      intro e w1 hans
      obtain ⟨a_q, n_q, c_q, rfl, i_q, b1⟩ := ans_n hans
      rw [hof.out] at i_q
      obtain rfl : 1 = n_q := i_q.1
      have I_q := hide i_q
      replace VB := hide (VB.out.keep b1)
      replace HB := hide (bmore HB.out b1)
      clear hans i_q b1 I_m
      go_wp2_with fail
      refine (get_any a_q 1 c_q _ 7 9 _ I_q.out (by omega)).mono ?_
      rw [hgt.out]
      rintro e w2 ⟨rfl, b2⟩
      replace I_q := hide (I_q.out.below b2 (Nat.le_refl _))
      replace VB := hide (VB.out.keep b2)
      replace HB := hide (bmore HB.out b2)
      clear b2
      simp only [Option.getD_some, Option.isSome_some, cv]
      have D2 : Below w2.heap.size w2 (w2.alloc (Obj.cells #[Value.int IntKind.i64 7, Value.int IntKind.i64 2, Value.int IntKind.u64 9, Value.int IntKind.u64 bV, Value.int IntKind.i64 bX] 29)) := (Below.refl _ _).alloc (Nat.le_refl _) _
      have V_x := hide (vi_new w2 7 2 9 bV bX)
      replace I_q := hide (I_q.out.below D2 (Nat.le_refl _))
      replace VB := hide (VB.out.keep D2)
      replace HB := hide (bmore HB.out D2)
      clear D2
      obtain ⟨bq, offq, eq, hcq⟩ := I_q.out.2.2.2 (by omega)
      subst eq
      have hvq := hide (hcq 0 _ rfl)
      unfold Vt at hvq
      simp only [Nat.zero_mul, Nat.add_zero] at hvq
      clear hcq
      have d0 : ∀ p : Kp (w2.alloc (Obj.cells #[Value.int IntKind.i64 7, Value.int IntKind.i64 2, Value.int IntKind.u64 9, Value.int IntKind.u64 bV, Value.int IntKind.i64 bX] 29)), p.W.cell? ⟨Rb, 0, none⟩ = some (.int .i64 7) := fun p => (VB.out.1.keep p.h).1
      have d1 : ∀ p : Kp (w2.alloc (Obj.cells #[Value.int IntKind.i64 7, Value.int IntKind.i64 2, Value.int IntKind.u64 9, Value.int IntKind.u64 bV, Value.int IntKind.i64 bX] 29)), p.W.cell? ⟨Rb, 1, none⟩ = some (.int .i64 2) := fun p => (VB.out.1.keep p.h).2.1
      have d2 : ∀ p : Kp (w2.alloc (Obj.cells #[Value.int IntKind.i64 7, Value.int IntKind.i64 2, Value.int IntKind.u64 9, Value.int IntKind.u64 bV, Value.int IntKind.i64 bX] 29)), p.W.cell? ⟨Rb, 2, none⟩ = some (.int .u64 9) := fun p => (VB.out.1.keep p.h).2.2.1
      have d3 : ∀ p : Kp (w2.alloc (Obj.cells #[Value.int IntKind.i64 7, Value.int IntKind.i64 2, Value.int IntKind.u64 9, Value.int IntKind.u64 bV, Value.int IntKind.i64 bX] 29)), p.W.cell? ⟨Rb, 3, none⟩ = some (.int .u64 bV) := fun p => (VB.out.1.keep p.h).2.2.2.1
      have d4 : ∀ p : Kp (w2.alloc (Obj.cells #[Value.int IntKind.i64 7, Value.int IntKind.i64 2, Value.int IntKind.u64 9, Value.int IntKind.u64 bV, Value.int IntKind.i64 bX] 29)), p.W.cell? ⟨Rb, 4, none⟩ = some (.int .i64 bX) := fun p => (VB.out.1.keep p.h).2.2.2.2
      have f0 : ∀ p : Kp (w2.alloc (Obj.cells #[Value.int IntKind.i64 7, Value.int IntKind.i64 2, Value.int IntKind.u64 9, Value.int IntKind.u64 bV, Value.int IntKind.i64 bX] 29)), p.W.cell? ⟨w2.heap.size, 0, none⟩ = some (.int .i64 7) := fun p => (V_x.out.keep p.h).1
      have f1 : ∀ p : Kp (w2.alloc (Obj.cells #[Value.int IntKind.i64 7, Value.int IntKind.i64 2, Value.int IntKind.u64 9, Value.int IntKind.u64 bV, Value.int IntKind.i64 bX] 29)), p.W.cell? ⟨w2.heap.size, 1, none⟩ = some (.int .i64 2) := fun p => (V_x.out.keep p.h).2.1
      have f2 : ∀ p : Kp (w2.alloc (Obj.cells #[Value.int IntKind.i64 7, Value.int IntKind.i64 2, Value.int IntKind.u64 9, Value.int IntKind.u64 bV, Value.int IntKind.i64 bX] 29)), p.W.cell? ⟨w2.heap.size, 2, none⟩ = some (.int .u64 9) := fun p => (V_x.out.keep p.h).2.2.1
      have f3 : ∀ p : Kp (w2.alloc (Obj.cells #[Value.int IntKind.i64 7, Value.int IntKind.i64 2, Value.int IntKind.u64 9, Value.int IntKind.u64 bV, Value.int IntKind.i64 bX] 29)), p.W.cell? ⟨w2.heap.size, 3, none⟩ = some (.int .u64 bV) := fun p => (V_x.out.keep p.h).2.2.2.1
      have f4 : ∀ p : Kp (w2.alloc (Obj.cells #[Value.int IntKind.i64 7, Value.int IntKind.i64 2, Value.int IntKind.u64 9, Value.int IntKind.u64 bV, Value.int IntKind.i64 bX] 29)), p.W.cell? ⟨w2.heap.size, 4, none⟩ = some (.int .i64 bX) := fun p => (V_x.out.keep p.h).2.2.2.2
      have g0 : ∀ p : Kp (w2.alloc (Obj.cells #[Value.int IntKind.i64 7, Value.int IntKind.i64 2, Value.int IntKind.u64 9, Value.int IntKind.u64 bV, Value.int IntKind.i64 bX] 29)), p.W.cell? ⟨bq, offq, none⟩ = some (.int .i64 7) := fun p => (hvq.out.keep p.h).1
      have g1 : ∀ p : Kp (w2.alloc (Obj.cells #[Value.int IntKind.i64 7, Value.int IntKind.i64 2, Value.int IntKind.u64 9, Value.int IntKind.u64 bV, Value.int IntKind.i64 bX] 29)), p.W.cell? ⟨bq, offq + 1, none⟩ = some (.int .i64 2) := fun p => (hvq.out.keep p.h).2.1
      have g2 : ∀ p : Kp (w2.alloc (Obj.cells #[Value.int IntKind.i64 7, Value.int IntKind.i64 2, Value.int IntKind.u64 9, Value.int IntKind.u64 bV, Value.int IntKind.i64 bX] 29)), p.W.cell? ⟨bq, offq + 2, none⟩ = some (.int .u64 9) := fun p => (hvq.out.keep p.h).2.2.1
      have g3 : ∀ p : Kp (w2.alloc (Obj.cells #[Value.int IntKind.i64 7, Value.int IntKind.i64 2, Value.int IntKind.u64 9, Value.int IntKind.u64 bV, Value.int IntKind.i64 bX] 29)), p.W.cell? ⟨bq, offq + 3, none⟩ = some (.int .u64 bV) := fun p => (hvq.out.keep p.h).2.2.2.1
      have g4 : ∀ p : Kp (w2.alloc (Obj.cells #[Value.int IntKind.i64 7, Value.int IntKind.i64 2, Value.int IntKind.u64 9, Value.int IntKind.u64 bV, Value.int IntKind.i64 bX] 29)), p.W.cell? ⟨bq, offq + 4, none⟩ = some (.int .i64 bX) := fun p => (hvq.out.keep p.h).2.2.2.2
      have cT : Hid (∀ p : Kp (w2.alloc (Obj.cells #[Value.int IntKind.i64 7, Value.int IntKind.i64 2, Value.int IntKind.u64 9, Value.int IntKind.u64 bV, Value.int IntKind.i64 bX] 29)), Calls Try.prog 13 #[.slice (some ⟨bq, offq, none⟩) 1 c_q] p.W fun e w'' => e = .returned (.int .u64 bV) ∧ ∃ q : Kp (w2.alloc (Obj.cells #[Value.int IntKind.i64 7, Value.int IntKind.i64 2, Value.int IntKind.u64 9, Value.int IntKind.u64 bV, Value.int IntKind.i64 bX] 29)), w'' = q.W) := hide fun p => kp_call (by have := top_any (some ⟨bq, offq, none⟩) 1 c_q _ p.W (I_q.out.below p.h (Nat.le_refl _)) (by omega); rw [htp.out] at this; exact this)
      have cW : Hid (∀ p : Kp (w2.alloc (Obj.cells #[Value.int IntKind.i64 7, Value.int IntKind.i64 2, Value.int IntKind.u64 9, Value.int IntKind.u64 bV, Value.int IntKind.i64 bX] 29)), Calls Try.prog 10 #[] p.W fun e w'' => e = .returned (.bool true) ∧ ∃ q : Kp (w2.alloc (Obj.cells #[Value.int IntKind.i64 7, Value.int IntKind.i64 2, Value.int IntKind.u64 9, Value.int IntKind.u64 bV, Value.int IntKind.i64 bX] 29)), w'' = q.W) := hide fun p => kp_call (awake6_any _)
      have hne : Nonempty (Kp (w2.alloc (Obj.cells #[Value.int IntKind.i64 7, Value.int IntKind.i64 2, Value.int IntKind.u64 9, Value.int IntKind.u64 bV, Value.int IntKind.i64 bX] 29))) := ⟨⟨_, Below.refl _ _⟩⟩
      go_wp2_with fail
      refine wp_region_kept (by kernel_rfl) (by kernel_rfl) ?_
      repeat (first
        | go_big_quiet_step (first | (go_at_call 13; exact cT.out _) | (go_at_call 10; exact cW.out _))
        | fail)
      refine wpQuiet_nil ?_
      intro w99 hw'
      have b99 : Below (w2.alloc (Obj.cells #[Value.int IntKind.i64 7, Value.int IntKind.i64 2, Value.int IntKind.u64 9, Value.int IntKind.u64 bV, Value.int IntKind.i64 bX] 29)).heap.size (w2.alloc (Obj.cells #[Value.int IntKind.i64 7, Value.int IntKind.i64 2, Value.int IntKind.u64 9, Value.int IntKind.u64 bV, Value.int IntKind.i64 bX] 29)) w99 := by
        obtain ⟨⟨w3', hb3⟩, hw''⟩ := hw'
        rw [hw'']; exact hb3
      replace HB := hide (bmore HB.out b99)
      clear hw' hne b99 cT cW d0 d1 d2 d3 d4 f0 f1 f2 f3 f4 g0 g1 g2 g3 g4
      go_wp2
      go_ret
      exact ⟨rfl, HB.out⟩

set_option maxRecDepth 4000 in
set_option maxHeartbeats 8000000 in
theorem last_c (a0 a1 : Option Addr) (len0 cap0 len1 cap1 : Nat) (vs xs : List Int) (turn : Int) (w : World) (h0 : Ur .u64 w a0 len0 vs) (h1 : Ur .i64 w a1 len1 xs) (hm0 : len0 ≤ 9223372036854775807) (hm1 : len1 ≤ 9223372036854775807) (hA : 30 < len0) (hB : 30 < len1) :
    Calls Try.prog 3 #[.slice a0 len0 cap0, .slice a1 len1 cap1, .int .i64 turn] w fun e w' => e = .returned (.bool true) ∧ Below w.heap.size w w' := by
  have H0 := hide (fun W (hW : Below w.heap.size w W) => h0.below hW)
  have H1 := hide (fun W (hW : Below w.heap.size w W) => h1.below hW)
  clear h0 h1
  obtain ⟨tt, htt⟩ : ∃ t, bits .and .i64 turn 255 = t := ⟨_, rfl⟩
  have htb := and8 turn
  rw [htt] at htb
  obtain ⟨n, hn1, hn2⟩ : ∃ n : Nat, n ≤ 30 ∧ 30 ≤ n := ⟨30, by omega, by omega⟩
  have B0 := hide ((Below.refl _ w).alloc (Nat.le_refl _) (Obj.cells #[Value.int IntKind.i64 0, Value.int IntKind.i64 0, Value.int IntKind.u64 0, Value.int IntKind.u64 0, Value.int IntKind.i64 0] 29))
  have X0 := hide (vx_new w 0 0 0 0 0)
  go_enter Try.func3, Try.ntmps3
  go_wp2_with fail
  rw [show (30 : Int) = ((n : Nat) : Int) from by omega]
  obtain ⟨Rb, hRb⟩ : ∃ R, R = w.heap.size := ⟨_, rfl⟩
  rw [← hRb] at X0 ⊢
  have HRb := hide hRb
  clear hRb
  go_loopw [8, 10] (fun s8 s10 wr => ∃ (i : Nat) (m : List It) (bs : It), i ≤ n ∧ s10 = .int .i64 i ∧ Hid (OwnI wr (Rb + 1) s8 m) ∧ Hid (m.length = i) ∧ Hid (Bst m bs) ∧ Hid (∀ z ∈ m, z.wf) ∧ Hid (Vx wr Rb bs.S bs.K bs.T bs.V bs.X) ∧ Hid (Below w.heap.size w wr)) (fun _ s10 _ => n - (intOf s10).toNat)
  case atStart => exact ⟨0, [], it0, by omega, rfl, hide (ownI_nil _ _), hide rfl, hide (bst_nil _), hide (by simp), X0, B0⟩
  case round =>
    obtain ⟨i, m, bs, hi, rfl, hown, hml, hbst, hwfm, hvx, hbel⟩ := hrel
    by_cases hlt : i < n
    · obtain ⟨J, hJn, hJ⟩ : ∃ J : Nat, J < n ∧ ((i : Int) + tt).tmod (n : Int) = (J : Int) := by
        have h1 := Int.tmod_nonneg (n : Int) (show 0 ≤ (i : Int) + tt by omega)
        have h2 := Int.tmod_lt_of_pos ((i : Int) + tt) (show (0 : Int) < (n : Int) by omega)
        exact ⟨(((i : Int) + tt).tmod (n : Int)).toNat, by omega, by omega⟩
      obtain ⟨b0, off0, ea, hc0⟩ := (H0.out _ hbel.out) (by omega)
      obtain ⟨b1, off1, eb, hc1⟩ := (H1.out _ hbel.out) (by omega)
      subst ea eb
      obtain ⟨hv0, hw0⟩ := hc0 J (by omega)
      obtain ⟨hv1, hw1⟩ := hc1 J (by omega)
      have hb0 := World.block_lt_of_cell? wr _ hv0
      have hb1 := World.block_lt_of_cell? wr _ hv1
      obtain ⟨V0, hV0⟩ : ∃ v, vs.getD J 0 = v := ⟨_, rfl⟩
      obtain ⟨X, hX⟩ : ∃ v, xs.getD J 0 = v := ⟨_, rfl⟩
      rw [hV0] at hv0 hw0
      rw [hX] at hv1 hw1
      have hXb := i64_bounds hw1
      obtain ⟨V1, hV1⟩ : ∃ v, bits .and .u64 V0 281474976710655 = v := ⟨_, rfl⟩
      have hVb := and48 V0
      rw [hV1] at hVb
      obtain ⟨V, hV⟩ : ∃ v, V1 + 1 = v := ⟨_, rfl⟩
      have hVw : (V1 + 1) % 18446744073709551616 = V := by omega
      have hVw2 : IntKind.u64.wrap (V1 + 1) = V := by simp [IntKind.wrap, IntKind.bits, IntKind.signed]; omega
      have hVr : 1 ≤ V ∧ V ≤ 281474976710656 := by omega
      have hok : Hid (It.ok ⟨7, 2, 9, V, X⟩ = true) := hide (by simp [It.ok, okI]; omega)
      have hxw : Hid (It.wf ⟨7, 2, 9, V, X⟩) := hide (by unfold It.wf; simp; omega)
      have c0 : ∀ o, (wr.alloc o).cell? ⟨b0, off0 + J, none⟩ = some (.int .u64 V0) := fun o => by rw [World.cell?_alloc_past _ _ _ hb0]; exact hv0
      have c1 : ∀ o, (wr.alloc o).cell? ⟨b1, off1 + J, none⟩ = some (.int .i64 X) := fun o => by rw [World.cell?_alloc_past _ _ _ hb1]; exact hv1
      have d0 : wr.drew.cell? ⟨b0, off0 + J, none⟩ = some (.int .u64 V0) := hv0
      have d1 : wr.drew.cell? ⟨b1, off1 + J, none⟩ = some (.int .i64 X) := hv1
      have hJ0 : (J : Int) < (len0 : Int) := by omega
      have hJ1 : (J : Int) < (len1 : Int) := by omega
      clear hc0 hc1 hw0 hw1 hV0 hX hV
      go_wp2_with fail
      go_region
      have D1 := hide (((Below.refl wr.heap.size wr).alloc (Nat.le_refl _) (Obj.cells #[Value.int IntKind.i64 7, Value.int IntKind.i64 2, Value.int IntKind.u64 9, Value.int IntKind.u64 V, Value.int IntKind.i64 X] 29)).drew)
      have V_x := hide ((vi_new wr 7 2 9 V X).keep ((Below.refl _ _).drew))
      have hRlt := hvx.out.lt
      have VB := hide (hvx.out.keep D1.out)
      have OW := hide (ownI_keep hown.out D1.out)
      have BB := hide (bmore hbel.out D1.out)
      have hln : Hid (m.length + 1 ≤ 1099511627776) := hide (by have := hml.out; omega)
      have hmi : Hid (m = [] ↔ i = 0) := hide (by rw [← hml.out]; exact List.length_eq_zero_iff.symm)
      obtain ⟨bS, bK, bT, bV, bX⟩ := bs
      have q1 := V_x.out
      have q2 := VB.out.1
      unfold Vi at q1 q2
      simp only [Nat.zero_add] at q1 q2
      obtain ⟨x0, x1, x2, x3, x4⟩ := q1
      obtain ⟨y0, y1, y2, y3, y4⟩ := q2
      clear hvx hown hbel c0 c1 d0 d1 hv0 hv1
      obtain ⟨ow, how⟩ : ∃ o, winsI V X bV bX = o := ⟨_, rfl⟩
      have HOW := hide how
      clear how
      go_wp2_with fail
      refine (refwins_any 7 2 9 V X bS bK bT bV bX _).mono ?_
      rw [HOW.out]
      rintro e w2 ⟨rfl, b2⟩
      replace V_x := hide (V_x.out.keep b2)
      replace VB := hide (VB.out.keep b2)
      replace OW := hide (ownI_keep OW.out b2)
      replace BB := hide (bmore BB.out b2)
      clear x0 x1 x2 x3 x4 y0 y1 y2 y3 y4 b2 D1
      have q1 := V_x.out
      unfold Vi at q1
      simp only [Nat.zero_add] at q1
      obtain ⟨x0, x1, x2, x3, x4⟩ := q1
      have q2 := VB.out
      unfold Vx Vi Vf at q2
      simp only [Nat.zero_add] at q2
      obtain ⟨⟨y0, y1, y2, y3, y4⟩, z0, z1, z2, z3, z4⟩ := q2
      cases ow with
      | true =>
        have xx := V_x.out.grown (gb_putI w2 Rb 7 2 9 V X) (by intro e; injection e with e; omega)
        unfold Vi putI at xx
        simp only [Nat.zero_add] at xx
        obtain ⟨r0, r1, r2, r3, r4⟩ := xx
        have OS := hide (ownI_grown OW.out (gb_putI w2 Rb 7 2 9 V X) (fun k hk => by cases hk; omega))
        have VS := hide (VB.out.put 7 2 9 V X)
        have BS := hide (BB.out.grown (gb_putI w2 Rb 7 2 9 V X) BB.out.size (fun k hk => by cases hk; rw [HRb.out]; exact Nat.le_refl _))
        have OA := hide (ownI_keep OS.out ((Below.refl _ _).alloc (Nat.le_refl _) (Obj.cells #[Value.int IntKind.i64 7, Value.int IntKind.i64 2, Value.int IntKind.u64 9, Value.int IntKind.u64 V, Value.int IntKind.i64 X] 29)))
        have BA := hide (BS.out.alloc BS.out.size (Obj.cells #[Value.int IntKind.i64 7, Value.int IntKind.i64 2, Value.int IntKind.u64 9, Value.int IntKind.u64 V, Value.int IntKind.i64 X] 29))
        have VA := hide (VS.out.keep ((Below.refl _ _).alloc (Nat.le_refl _) (Obj.cells #[Value.int IntKind.i64 7, Value.int IntKind.i64 2, Value.int IntKind.u64 9, Value.int IntKind.u64 V, Value.int IntKind.i64 X] 29)))
        have IA := hide (is_one (putI w2 Rb 7 2 9 V X) 7 2 9 V X hxw.out)
        have SA : Hid (Rb + 1 ≤ ((putI w2 Rb 7 2 9 V X).alloc (Obj.cells #[Value.int IntKind.i64 7, Value.int IntKind.i64 2, Value.int IntKind.u64 9, Value.int IntKind.u64 V, Value.int IntKind.i64 X] 29)).heap.size) := hide VA.out.lt
        rw [show (putI w2 Rb 7 2 9 V X).heap.size = w2.heap.size from by simp [putI, World.setCell]] at IA
        unfold putI at OA BA VA IA SA
        go_wp2_with (at_builtin; refine wpList_append_items rfl _ _ rfl (Rb + 1) _ m rfl OA.out _ 1 1 [⟨7, 2, 9, V, X⟩] rfl IA.out hln.out SA.out ?_; intro nv w6 o6 g6 k6; have O6 := hide o6; have B6 := hide (BA.out.grown g6 BA.out.size (fun k hk => by have := k6 k hk; have := HRb.out; omega)); have V6 := hide (VA.out.grown g6 (fun e => by have := k6 _ e.symm; omega)); clear o6 g6 k6)
        go_roundw
        case rel => exact ⟨i + 1, _, ⟨7, 2, 9, V, X⟩, by omega, by go_num, O6, hide (by have := hml.out; simp; omega), hide (bst_new hbst.out ⟨rfl, rfl, rfl, hok.out⟩ (.inl (by unfold It.wins; exact HOW.out))), hide (fun z hz => by
          rcases List.mem_append.1 hz with h1 | h1
          · exact hwfm.out z h1
          · rw [List.mem_singleton.1 h1]; exact hxw.out), V6, B6⟩
        case measure => simp [intOf]; omega
      | false =>
        by_cases hi0 : i = 0
        · have hib : ((i : Int) == 0) = true := by simp [hi0]
          have HI0 := hide hi0
          clear hi0
          have xx := V_x.out.grown (gb_putI w2 Rb 7 2 9 V X) (by intro e; injection e with e; omega)
          unfold Vi putI at xx
          simp only [Nat.zero_add] at xx
          obtain ⟨r0, r1, r2, r3, r4⟩ := xx
          have OS := hide (ownI_grown OW.out (gb_putI w2 Rb 7 2 9 V X) (fun k hk => by cases hk; omega))
          have VS := hide (VB.out.put 7 2 9 V X)
          have BS := hide (BB.out.grown (gb_putI w2 Rb 7 2 9 V X) BB.out.size (fun k hk => by cases hk; rw [HRb.out]; exact Nat.le_refl _))
          have OA := hide (ownI_keep OS.out ((Below.refl _ _).alloc (Nat.le_refl _) (Obj.cells #[Value.int IntKind.i64 7, Value.int IntKind.i64 2, Value.int IntKind.u64 9, Value.int IntKind.u64 V, Value.int IntKind.i64 X] 29)))
          have BA := hide (BS.out.alloc BS.out.size (Obj.cells #[Value.int IntKind.i64 7, Value.int IntKind.i64 2, Value.int IntKind.u64 9, Value.int IntKind.u64 V, Value.int IntKind.i64 X] 29))
          have VA := hide (VS.out.keep ((Below.refl _ _).alloc (Nat.le_refl _) (Obj.cells #[Value.int IntKind.i64 7, Value.int IntKind.i64 2, Value.int IntKind.u64 9, Value.int IntKind.u64 V, Value.int IntKind.i64 X] 29)))
          have IA := hide (is_one (putI w2 Rb 7 2 9 V X) 7 2 9 V X hxw.out)
          have SA : Hid (Rb + 1 ≤ ((putI w2 Rb 7 2 9 V X).alloc (Obj.cells #[Value.int IntKind.i64 7, Value.int IntKind.i64 2, Value.int IntKind.u64 9, Value.int IntKind.u64 V, Value.int IntKind.i64 X] 29)).heap.size) := hide VA.out.lt
          rw [show (putI w2 Rb 7 2 9 V X).heap.size = w2.heap.size from by simp [putI, World.setCell]] at IA
          unfold putI at OA BA VA IA SA
          go_wp2_with (at_builtin; refine wpList_append_items rfl _ _ rfl (Rb + 1) _ m rfl OA.out _ 1 1 [⟨7, 2, 9, V, X⟩] rfl IA.out hln.out SA.out ?_; intro nv w6 o6 g6 k6; have O6 := hide o6; have B6 := hide (BA.out.grown g6 BA.out.size (fun k hk => by have := k6 k hk; have := HRb.out; omega)); have V6 := hide (VA.out.grown g6 (fun e => by have := k6 _ e.symm; omega)); clear o6 g6 k6)
          go_roundw
          case rel => exact ⟨i + 1, _, ⟨7, 2, 9, V, X⟩, by omega, by go_num, O6, hide (by have := hml.out; simp; omega), hide (bst_new hbst.out ⟨rfl, rfl, rfl, hok.out⟩ (.inr (hmi.out.2 HI0.out))), hide (fun z hz => by
            rcases List.mem_append.1 hz with h1 | h1
            · exact hwfm.out z h1
            · rw [List.mem_singleton.1 h1]; exact hxw.out), V6, B6⟩
          case measure => simp [intOf]; omega
        · have hib : ((i : Int) == 0) = false := by simp [hi0]
          have HI0 := hide hi0
          clear hi0
          have OA := hide (ownI_keep OW.out ((Below.refl _ _).alloc (Nat.le_refl _) (Obj.cells #[Value.int IntKind.i64 7, Value.int IntKind.i64 2, Value.int IntKind.u64 9, Value.int IntKind.u64 V, Value.int IntKind.i64 X] 29)))
          have BA := hide (BB.out.alloc BB.out.size (Obj.cells #[Value.int IntKind.i64 7, Value.int IntKind.i64 2, Value.int IntKind.u64 9, Value.int IntKind.u64 V, Value.int IntKind.i64 X] 29))
          have VA := hide (VB.out.keep ((Below.refl _ _).alloc (Nat.le_refl _) (Obj.cells #[Value.int IntKind.i64 7, Value.int IntKind.i64 2, Value.int IntKind.u64 9, Value.int IntKind.u64 V, Value.int IntKind.i64 X] 29)))
          have IA := hide (is_one (w2) 7 2 9 V X hxw.out)
          have SA : Hid (Rb + 1 ≤ ((w2).alloc (Obj.cells #[Value.int IntKind.i64 7, Value.int IntKind.i64 2, Value.int IntKind.u64 9, Value.int IntKind.u64 V, Value.int IntKind.i64 X] 29)).heap.size) := hide VA.out.lt
          skip
          go_wp2_with (at_builtin; refine wpList_append_items rfl _ _ rfl (Rb + 1) _ m rfl OA.out _ 1 1 [⟨7, 2, 9, V, X⟩] rfl IA.out hln.out SA.out ?_; intro nv w6 o6 g6 k6; have O6 := hide o6; have B6 := hide (BA.out.grown g6 BA.out.size (fun k hk => by have := k6 k hk; have := HRb.out; omega)); have V6 := hide (VA.out.grown g6 (fun e => by have := k6 _ e.symm; omega)); clear o6 g6 k6)
          go_roundw
          case rel => exact ⟨i + 1, _, ⟨bS, bK, bT, bV, bX⟩, by omega, by go_num, O6, hide (by have := hml.out; simp; omega), hide (bst_old hbst.out ⟨rfl, rfl, rfl, hok.out⟩ (by unfold It.wins; exact HOW.out) (fun e => HI0.out (hmi.out.1 e))), hide (fun z hz => by
            rcases List.mem_append.1 hz with h1 | h1
            · exact hwfm.out z h1
            · rw [List.mem_singleton.1 h1]; exact hxw.out), V6, B6⟩
          case measure => simp [intOf]; omega
    · have hin : i = n := by omega
      have hmne : m ≠ [] := fun e => by have := hml.out; rw [e] at this; simp at this; omega
      have hbm := hbst.out.1 bs (hbst.out.2 hmne)
      have hof := hide (bst_of hbst.out hmne)
      have hbv : Hid (1 ≤ bs.V) := hide (by have := hbm.2.2.2.1; rw [ok_iff] at this; omega)
      obtain ⟨bS, bK, bT, bV, bX⟩ := bs
      obtain ⟨rfl, rfl, rfl, -, -⟩ := hbm
      have htp : Hid (topL [(⟨7, 2, 9, bV, bX⟩ : It)] = bV) := hide (by have := hbv.out; simp only at this; simp [topL]; omega)
      have hgt : Hid (getL [(⟨7, 2, 9, bV, bX⟩ : It)] 7 9 = some ⟨7, 2, 9, bV, bX⟩) := hide (by simp [getL, getP, sampP])
      obtain ⟨am, cm, em, hcm, im, -⟩ := ownI_is hown.out hwfm.out
      obtain ⟨nm, hnm⟩ : ∃ n, m.length = n := ⟨_, rfl⟩
      rw [hnm] at em im
      subst em
      have Nm : nm ≤ 30 := by have := hml.out; omega
      have I_m := hide im
      have HB := hide hbel.out
      have VB := hide hvx.out
      simp only at VB
      clear im hnm hown hmne hbst hvx hbel hml
      go_wp2_with fail
      refine (of_any am nm cm m _ I_m.out (by omega)).mono ?_
      intro e w1 hans
      obtain ⟨a_q, n_q, c_q, rfl, i_q, b1⟩ := ans_n hans
      rw [hof.out] at i_q
      obtain rfl : 1 = n_q := i_q.1
      have I_q := hide i_q
      replace VB := hide (VB.out.keep b1)
      replace HB := hide (bmore HB.out b1)
      clear hans i_q b1 I_m
      go_wp2_with fail
      refine (get_any a_q 1 c_q _ 7 9 _ I_q.out (by omega)).mono ?_
      rw [hgt.out]
      rintro e w2 ⟨rfl, b2⟩
      replace I_q := hide (I_q.out.below b2 (Nat.le_refl _))
      replace VB := hide (VB.out.keep b2)
      replace HB := hide (bmore HB.out b2)
      clear b2
      simp only [Option.getD_some, Option.isSome_some, cv]
      have D2 : Below w2.heap.size w2 (w2.alloc (Obj.cells #[Value.int IntKind.i64 7, Value.int IntKind.i64 2, Value.int IntKind.u64 9, Value.int IntKind.u64 bV, Value.int IntKind.i64 bX] 29)) := (Below.refl _ _).alloc (Nat.le_refl _) _
      have V_x := hide (vi_new w2 7 2 9 bV bX)
      replace I_q := hide (I_q.out.below D2 (Nat.le_refl _))
      replace VB := hide (VB.out.keep D2)
      replace HB := hide (bmore HB.out D2)
      clear D2
      obtain ⟨bq, offq, eq, hcq⟩ := I_q.out.2.2.2 (by omega)
      subst eq
      have hvq := hide (hcq 0 _ rfl)
      unfold Vt at hvq
      simp only [Nat.zero_mul, Nat.add_zero] at hvq
      clear hcq
      have d0 : ∀ p : Kp (w2.alloc (Obj.cells #[Value.int IntKind.i64 7, Value.int IntKind.i64 2, Value.int IntKind.u64 9, Value.int IntKind.u64 bV, Value.int IntKind.i64 bX] 29)), p.W.cell? ⟨Rb, 0, none⟩ = some (.int .i64 7) := fun p => (VB.out.1.keep p.h).1
      have d1 : ∀ p : Kp (w2.alloc (Obj.cells #[Value.int IntKind.i64 7, Value.int IntKind.i64 2, Value.int IntKind.u64 9, Value.int IntKind.u64 bV, Value.int IntKind.i64 bX] 29)), p.W.cell? ⟨Rb, 1, none⟩ = some (.int .i64 2) := fun p => (VB.out.1.keep p.h).2.1
      have d2 : ∀ p : Kp (w2.alloc (Obj.cells #[Value.int IntKind.i64 7, Value.int IntKind.i64 2, Value.int IntKind.u64 9, Value.int IntKind.u64 bV, Value.int IntKind.i64 bX] 29)), p.W.cell? ⟨Rb, 2, none⟩ = some (.int .u64 9) := fun p => (VB.out.1.keep p.h).2.2.1
      have d3 : ∀ p : Kp (w2.alloc (Obj.cells #[Value.int IntKind.i64 7, Value.int IntKind.i64 2, Value.int IntKind.u64 9, Value.int IntKind.u64 bV, Value.int IntKind.i64 bX] 29)), p.W.cell? ⟨Rb, 3, none⟩ = some (.int .u64 bV) := fun p => (VB.out.1.keep p.h).2.2.2.1
      have d4 : ∀ p : Kp (w2.alloc (Obj.cells #[Value.int IntKind.i64 7, Value.int IntKind.i64 2, Value.int IntKind.u64 9, Value.int IntKind.u64 bV, Value.int IntKind.i64 bX] 29)), p.W.cell? ⟨Rb, 4, none⟩ = some (.int .i64 bX) := fun p => (VB.out.1.keep p.h).2.2.2.2
      have f0 : ∀ p : Kp (w2.alloc (Obj.cells #[Value.int IntKind.i64 7, Value.int IntKind.i64 2, Value.int IntKind.u64 9, Value.int IntKind.u64 bV, Value.int IntKind.i64 bX] 29)), p.W.cell? ⟨w2.heap.size, 0, none⟩ = some (.int .i64 7) := fun p => (V_x.out.keep p.h).1
      have f1 : ∀ p : Kp (w2.alloc (Obj.cells #[Value.int IntKind.i64 7, Value.int IntKind.i64 2, Value.int IntKind.u64 9, Value.int IntKind.u64 bV, Value.int IntKind.i64 bX] 29)), p.W.cell? ⟨w2.heap.size, 1, none⟩ = some (.int .i64 2) := fun p => (V_x.out.keep p.h).2.1
      have f2 : ∀ p : Kp (w2.alloc (Obj.cells #[Value.int IntKind.i64 7, Value.int IntKind.i64 2, Value.int IntKind.u64 9, Value.int IntKind.u64 bV, Value.int IntKind.i64 bX] 29)), p.W.cell? ⟨w2.heap.size, 2, none⟩ = some (.int .u64 9) := fun p => (V_x.out.keep p.h).2.2.1
      have f3 : ∀ p : Kp (w2.alloc (Obj.cells #[Value.int IntKind.i64 7, Value.int IntKind.i64 2, Value.int IntKind.u64 9, Value.int IntKind.u64 bV, Value.int IntKind.i64 bX] 29)), p.W.cell? ⟨w2.heap.size, 3, none⟩ = some (.int .u64 bV) := fun p => (V_x.out.keep p.h).2.2.2.1
      have f4 : ∀ p : Kp (w2.alloc (Obj.cells #[Value.int IntKind.i64 7, Value.int IntKind.i64 2, Value.int IntKind.u64 9, Value.int IntKind.u64 bV, Value.int IntKind.i64 bX] 29)), p.W.cell? ⟨w2.heap.size, 4, none⟩ = some (.int .i64 bX) := fun p => (V_x.out.keep p.h).2.2.2.2
      have g0 : ∀ p : Kp (w2.alloc (Obj.cells #[Value.int IntKind.i64 7, Value.int IntKind.i64 2, Value.int IntKind.u64 9, Value.int IntKind.u64 bV, Value.int IntKind.i64 bX] 29)), p.W.cell? ⟨bq, offq, none⟩ = some (.int .i64 7) := fun p => (hvq.out.keep p.h).1
      have g1 : ∀ p : Kp (w2.alloc (Obj.cells #[Value.int IntKind.i64 7, Value.int IntKind.i64 2, Value.int IntKind.u64 9, Value.int IntKind.u64 bV, Value.int IntKind.i64 bX] 29)), p.W.cell? ⟨bq, offq + 1, none⟩ = some (.int .i64 2) := fun p => (hvq.out.keep p.h).2.1
      have g2 : ∀ p : Kp (w2.alloc (Obj.cells #[Value.int IntKind.i64 7, Value.int IntKind.i64 2, Value.int IntKind.u64 9, Value.int IntKind.u64 bV, Value.int IntKind.i64 bX] 29)), p.W.cell? ⟨bq, offq + 2, none⟩ = some (.int .u64 9) := fun p => (hvq.out.keep p.h).2.2.1
      have g3 : ∀ p : Kp (w2.alloc (Obj.cells #[Value.int IntKind.i64 7, Value.int IntKind.i64 2, Value.int IntKind.u64 9, Value.int IntKind.u64 bV, Value.int IntKind.i64 bX] 29)), p.W.cell? ⟨bq, offq + 3, none⟩ = some (.int .u64 bV) := fun p => (hvq.out.keep p.h).2.2.2.1
      have g4 : ∀ p : Kp (w2.alloc (Obj.cells #[Value.int IntKind.i64 7, Value.int IntKind.i64 2, Value.int IntKind.u64 9, Value.int IntKind.u64 bV, Value.int IntKind.i64 bX] 29)), p.W.cell? ⟨bq, offq + 4, none⟩ = some (.int .i64 bX) := fun p => (hvq.out.keep p.h).2.2.2.2
      have cT : Hid (∀ p : Kp (w2.alloc (Obj.cells #[Value.int IntKind.i64 7, Value.int IntKind.i64 2, Value.int IntKind.u64 9, Value.int IntKind.u64 bV, Value.int IntKind.i64 bX] 29)), Calls Try.prog 13 #[.slice (some ⟨bq, offq, none⟩) 1 c_q] p.W fun e w'' => e = .returned (.int .u64 bV) ∧ ∃ q : Kp (w2.alloc (Obj.cells #[Value.int IntKind.i64 7, Value.int IntKind.i64 2, Value.int IntKind.u64 9, Value.int IntKind.u64 bV, Value.int IntKind.i64 bX] 29)), w'' = q.W) := hide fun p => kp_call (by have := top_any (some ⟨bq, offq, none⟩) 1 c_q _ p.W (I_q.out.below p.h (Nat.le_refl _)) (by omega); rw [htp.out] at this; exact this)
      have cW : Hid (∀ p : Kp (w2.alloc (Obj.cells #[Value.int IntKind.i64 7, Value.int IntKind.i64 2, Value.int IntKind.u64 9, Value.int IntKind.u64 bV, Value.int IntKind.i64 bX] 29)), Calls Try.prog 10 #[] p.W fun e w'' => e = .returned (.bool true) ∧ ∃ q : Kp (w2.alloc (Obj.cells #[Value.int IntKind.i64 7, Value.int IntKind.i64 2, Value.int IntKind.u64 9, Value.int IntKind.u64 bV, Value.int IntKind.i64 bX] 29)), w'' = q.W) := hide fun p => kp_call (awake6_any _)
      have hne : Nonempty (Kp (w2.alloc (Obj.cells #[Value.int IntKind.i64 7, Value.int IntKind.i64 2, Value.int IntKind.u64 9, Value.int IntKind.u64 bV, Value.int IntKind.i64 bX] 29))) := ⟨⟨_, Below.refl _ _⟩⟩
      go_wp2_with fail
      refine wp_region_kept (by kernel_rfl) (by kernel_rfl) ?_
      repeat (first
        | go_big_quiet_step (first | (go_at_call 13; exact cT.out _) | (go_at_call 10; exact cW.out _))
        | fail)
      refine wpQuiet_nil ?_
      intro w99 hw'
      have b99 : Below (w2.alloc (Obj.cells #[Value.int IntKind.i64 7, Value.int IntKind.i64 2, Value.int IntKind.u64 9, Value.int IntKind.u64 bV, Value.int IntKind.i64 bX] 29)).heap.size (w2.alloc (Obj.cells #[Value.int IntKind.i64 7, Value.int IntKind.i64 2, Value.int IntKind.u64 9, Value.int IntKind.u64 bV, Value.int IntKind.i64 bX] 29)) w99 := by
        obtain ⟨⟨w3', hb3⟩, hw''⟩ := hw'
        rw [hw'']; exact hb3
      replace HB := hide (bmore HB.out b99)
      clear hw' hne b99 cT cW d0 d1 d2 d3 d4 f0 f1 f2 f3 f4 g0 g1 g2 g3 g4
      go_wp2
      go_ret
      exact ⟨rfl, HB.out⟩

theorem last_walk (a0 a1 : Option Addr) (len0 cap0 len1 cap1 : Nat) (vs xs : List Int) (turn : Int) (w : World) (h0 : Ur .u64 w a0 len0 vs ∧ len0 ≤ 9223372036854775807) (h1 : Ur .i64 w a1 len1 xs ∧ len1 ≤ 9223372036854775807) :
    Calls Try.prog 3 #[.slice a0 len0 cap0, .slice a1 len1 cap1, .int .i64 turn] w fun e w' => e = .returned (.bool true) ∧ Below w.heap.size w w' := by
  by_cases z0 : len0 = 0
  · exact last_z0 a0 a1 len0 cap0 len1 cap1 turn w z0
  by_cases z1 : len1 = 0
  · exact last_z1 a0 a1 len0 cap0 len1 cap1 turn w z1 (by omega)
  by_cases c : 30 < len0 ∧ 30 < len1
  · exact last_c a0 a1 len0 cap0 len1 cap1 vs xs turn w h0.1 h1.1 h0.2 h1.2 c.1 c.2
  by_cases d : len0 ≤ len1
  · exact last_a a0 a1 len0 cap0 len1 cap1 vs xs turn w h0.1 h1.1 h0.2 h1.2 d (by omega) z0
  · exact last_b a0 a1 len0 cap0 len1 cap1 vs xs turn w h0.1 h1.1 h0.2 h1.2 (by omega) (by omega) z1

end Go.Proofs.Ytckfgpcoingphaa.Clep
