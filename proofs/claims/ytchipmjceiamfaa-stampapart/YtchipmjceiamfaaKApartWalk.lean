/- What StampApart answers when called: true, in new memory alone. Conditions: none but the arguments' kinds. -/
import Derived.Test.YtchipmjceiamfaaKApart
namespace Go.Proofs.Ytchipmjceiamfaa.Clep
open Go.RowKit
set_option linter.unusedVariables false

def zs5 : Array Value := #[.pointer none, .pointer none, .pointer none, .pointer none, .pointer none]
def uv (vs : List Nat) : List Value := vs.map fun (x : Nat) => Value.int .u64 (x : Int)
theorem uv_snoc (vs : List Nat) (V : Nat) : uv (vs ++ [V]) = uv vs ++ [.int .u64 V] := by simp [uv]

theorem row_cells {w : World} {B k : Nat} {v : Value} {vs : List Nat} (h : w.ownsRow B 22 1 v k (uv vs)) (hk : vs.length = k) :
    ∃ so sc, v = .slice so k sc ∧ k ≤ sc ∧ (0 < k → ∃ g, so = some ⟨g, 0, none⟩ ∧ B ≤ g ∧ ∀ i, i < k → w.cell? ⟨g, i, none⟩ = some (.int .u64 ((vs.getD i 0 : Nat) : Int))) := by
  have h0 := h
  obtain ⟨h1, ⟨rfl, h3⟩ | ⟨g, cap, cur, rfl, hg, hh, hnc, hcm, hcs, hx⟩⟩ := h
  · exact ⟨none, 0, by rw [h3], by omega, fun h => by omega⟩
  · refine ⟨_, cap, rfl, hnc, fun _ => ⟨g, rfl, hg, fun i hi => ?_⟩⟩
    have hc := World.ownsRow.cells h0 (g := g) rfl i (.int .u64 ((vs.getD i 0 : Nat) : Int)) (by simp [uv, List.getElem?_eq_getElem (show i < vs.length by omega), List.getD])
    rwa [add_plain, Nat.zero_add] at hc

set_option maxRecDepth 100000 in
set_option maxHeartbeats 1600000 in
theorem apart_any (ao : Option Addr) (len cap : Nat) (zs : List Int) (w : World) (hlen : len ≤ 9223372036854775807) (hz : 0 < len → ∃ rb off, ao = some ⟨rb, off, none⟩ ∧ ∀ i, i < len → w.cell? ⟨rb, off + i, none⟩ = some (.int .i64 (zs.getD i 0))) :
    Calls Try.prog 5 #[.slice ao len cap] w fun e w' => e = .returned (.bool true) ∧ Below w.heap.size w w' := by
  have HZ := hide hz
  clear hz
  obtain ⟨i0, hi, hz0, hz1, hz2⟩ := infoU_parts
  go_enter Try.func5, Try.ntmps5
  go_wp2
  have B0 := hide ((Below.refl w.heap.size w).alloc (Nat.le_refl _) (Obj.cells #[.pointer none, .pointer none, .pointer none, .pointer none, .pointer none] 43))
  have C0 := hide (show ∀ t, t < 5 → ∃ x, (w.alloc (Obj.cells #[.pointer none, .pointer none, .pointer none, .pointer none, .pointer none] 43)).cell? ⟨w.heap.size, t, none⟩ = some x from fun t ht => by
    match t, ht with
    | 0, _ => exact ⟨_, by simp; rfl⟩
    | 1, _ => exact ⟨_, by simp; rfl⟩
    | 2, _ => exact ⟨_, by simp; rfl⟩
    | 3, _ => exact ⟨_, by simp; rfl⟩
    | 4, _ => exact ⟨_, by simp; rfl⟩)
  have Z0 := hide (show ∀ t, t < 5 → (w.alloc (Obj.cells #[.pointer none, .pointer none, .pointer none, .pointer none, .pointer none] 43)).frozen? ⟨w.heap.size, t, none⟩ = false from fun t ht => by simp)
  have S0 := hide (show w.heap.size < (w.alloc (Obj.cells #[.pointer none, .pointer none, .pointer none, .pointer none, .pointer none] 43)).heap.size by simp)
  generalize w.alloc (Obj.cells #[.pointer none, .pointer none, .pointer none, .pointer none, .pointer none] 43) = w0 at *
  obtain ⟨A, hA⟩ : ∃ A, w.heap.size = A := ⟨_, rfl⟩
  simp only [hA] at B0 C0 Z0 S0
  simp only [hA]
  have HA := hide hA
  clear hA
  go_loopw [4] (fun i wr => ∃ (j : Nat) (f : Nat → Nat), i = .int .i64 j ∧ j ≤ 5 ∧ Hid (Five wr A f (fun _ => 0) j wr.heap.size) ∧ Hid (∀ t, t < 5 → ∃ x, wr.cell? ⟨A, t, none⟩ = some x) ∧ Hid (∀ t, t < 5 → wr.frozen? ⟨A, t, none⟩ = false) ∧ Hid (A < wr.heap.size) ∧ Hid (Below A w wr)) (fun i _ => 5 - (intOf i).toNat)
  case atStart => exact ⟨0, id, rfl, by omega, hide (fun t ht => by omega), C0, Z0, S0, B0⟩
  case round =>
    obtain ⟨j, f, rfl, hj, F, C, Z, S, B⟩ := hrel
    clear B0 C0 Z0 S0
    by_cases hj5 : j < 5
    · go_wp2_with fail
      refine (New_ok j 0 wr (by omega) (by omega)).mono ?_
      rintro e w1 ⟨rfl, hk, hb⟩
      have K1 := hide hk
      have B1 := hide hb
      obtain ⟨g, hg⟩ : ∃ g, wr.heap.size = g := ⟨_, rfl⟩
      clear hk hb
      simp only [hg] at K1 B1 F S
      simp only [hg]
      have HG := hide hg
      clear hg
      go_wp2_with fail
      refine (Renew_any g j 0 0 1000 w1 K1.out).mono ?_
      rw [show rnv 0 1000 = (true, 1000) from by decide]
      rintro e w2 ⟨rfl, hk, hg⟩
      have K2 := hide hk
      have B2 := hide (Below.put B1.out hg (Nat.le_refl _) (by have := K1.out.lt; omega))
      clear hk hg
      have hAg : A < g := S.out
      obtain ⟨x, hx⟩ : ∃ x, w2.cell? ⟨A, j, none⟩ = some x := by
        obtain ⟨x, hx⟩ := C.out j hj5
        exact ⟨x, (B2.out.cell (p := ⟨A, j, none⟩) hAg).trans hx⟩
      have hzf : w2.frozen? ⟨A, j, none⟩ = false := (B2.out.frozen (p := ⟨A, j, none⟩) hAg).trans (Z.out j hj5)
      go_wp2
      go_roundw
      case rel =>
        have hgl := K2.out.lt
        refine ⟨j + 1, upd f j g, by go_num, by omega, hide ?_, hide ?_, hide ?_, hide ?_, hide ?_⟩
        · refine Five.more (F.out.below B2.out) hAg (by simpa using hgl) hx ?_
          exact K2.out
        · intro t ht
          obtain ⟨y, hy⟩ := C.out t ht
          by_cases htj : t = j
          · subst htj
            exact ⟨_, World.cell?_setCell_same _ _ _ hx⟩
          · refine ⟨y, ?_⟩
            rw [World.cell?_setCell_other (h := by intro e; simp only [Addr.mk.injEq] at e; omega)]
            exact (B2.out.cell (p := ⟨A, t, none⟩) hAg).trans hy
        · intro t ht
          rw [World.frozen?_setCell]
          exact (B2.out.frozen (p := ⟨A, t, none⟩) hAg).trans (Z.out t ht)
        · simpa using Nat.lt_trans hAg hgl
        · exact (B.out.trans (B2.out.mono (Nat.le_of_lt hAg))).setCell (Nat.le_refl _) _
      case measure => simp [intOf]; omega
    · have hje : j = 5 := by omega
      rw [hje] at F
      have hjn : ¬ ((j : Int) < 5) := by omega
      clear C Z hje hj hj5
      obtain ⟨D, hD⟩ : ∃ D, wr.heap.size = D := ⟨_, rfl⟩
      simp only [hD] at F S
      have HD := hide (Nat.le_of_eq hD.symm)
      have hAD := S.out
      clear S hD
      go_wp2
      go_loopw [7, 8] (fun v i wq => ∃ (k : Nat) (cs : Nat → Nat) (vs : List Nat), i = .int .i64 k ∧ k ≤ len ∧ k ≤ 100 ∧ Hid (vs.length = k) ∧ Hid (Five wq A f cs 5 D) ∧ Hid (wq.ownsRow D 22 1 v k (uv vs)) ∧ Hid (Told cs vs) ∧ Hid (∀ t, t < 5 → cs t ≤ k) ∧ Hid (D ≤ wq.heap.size) ∧ Hid (Below A w wq)) (fun _ i _ => 100 - (intOf i).toNat)
      case atStart => exact ⟨0, fun _ => 0, [], rfl, by omega, by omega, hide rfl, F, hide (World.ownsRow_nil _ _ _ _), hide (fun x hx => by simp at hx), hide (fun t ht => Nat.le_refl _), HD, B⟩
      case round =>
        obtain ⟨k, cs, vs, rfl, hk, hk100, L, F2, O, T, M, HD2, B2⟩ := hrel
        clear F B HD
        by_cases hkl : k < len
        · by_cases hk1 : k < 100
          · obtain ⟨rb, off, rfl, hcell⟩ := HZ.out (by omega)
            have g0 := hcell k hkl
            have hz2k : wr.cell? ⟨rb, off + k, none⟩ = some (.int .i64 (zs.getD k 0)) := (B2.out.cell (p := ⟨rb, off + k, none⟩) (by have := World.block_lt_of_cell? w _ g0; rw [HA.out] at this; exact this)).trans g0
            have hrbA : rb < A := by have := World.block_lt_of_cell? w _ g0; rw [HA.out] at this; exact this
            clear hcell g0
            generalize zs.getD k 0 = z at *
            obtain ⟨P, hPe, hP⟩ := place_of z 255 (by omega) 5 5 rfl (by omega)
            have hPe' : (bits .and .i64 z 255).tmod 5 = (P : Int) := hPe
            clear hPe
            obtain ⟨so, sc, rfl, hsc, hrow⟩ := row_cells O.out L.out
            have HR := hide hrow
            clear hrow
            have hcA := (F2.out P hP).1
            have hcK := hide (F2.out P hP).2.1
            have hPB := (F2.out P hP).2.2.1
            rcases Nat.eq_zero_or_pos k with hk0 | hk0
            · have hk0' : ¬ ((0 : Int) < (k : Int)) := by omega
              clear hk0 HR
              obtain ⟨q1, q2, q3, _⟩ := F2.out P hP
              obtain ⟨c, hcP⟩ : ∃ c, cs P = c := ⟨_, rfl⟩
              rw [hcP] at q2
              have hck : c ≤ k := by have := M.out P hP; omega
              have TN := hide (show ∀ x ∈ vs, x ≠ (c + 1) * 8 + P from T.out.new hP (by omega))
              have TS := hide (T.out.snoc (c := c) hP (by omega))
              have q2' := hide q2
              clear q2
              go_wp2_with fail
              refine (Next_any (f P) P c 1000 wr q2'.out (by omega) (by omega)).mono ?_
              rw [show nxv (P : Int) (c : Int) 1000 = ((((c + 1) * 8 + P : Nat) : Int), 0, ((c + 1 : Nat) : Int)) from by unfold nxv; rw [if_neg (by omega), if_neg (by omega)]; simp]
              rintro e w4 ⟨rfl, hk4, hg4⟩
              have F4 := hide (F2.out.put hP hg4 hk4)
              have O4 := hide (O.out.kept hg4 (.inr (fun e => by have := (O.out.lt _ e).1; omega)))
              have HD4 := hide (Nat.le_trans HD2.out hg4.size)
              have B4 := hide (Below.put B2.out hg4 (Nat.le_of_lt q3.1) (Nat.le_trans (Nat.le_of_lt hAD) HD2.out))
              have M4 := hide (upd_le (t := P) (fun s hs => Nat.le_trans (M.out s hs) (Nat.le_succ k)) (show c + 1 ≤ k + 1 by omega))
              have R4 := hide (show 0 < k → ∃ g, so = some ⟨g, 0, none⟩ ∧ D ≤ g ∧ ∀ i, i < k → w4.cell? ⟨g, i, none⟩ = some (.int .u64 ((vs.getD i 0 : Nat) : Int)) from by
                intro h0
                obtain ⟨so', sc', e1, _, h2⟩ := row_cells O4.out L.out
                cases e1
                exact h2 h0)
              obtain ⟨V, hV⟩ : ∃ V : Nat, V = (c + 1) * 8 + P := ⟨_, rfl⟩
              simp only [← hV] at TN TS
              rw [← hV]
              have hVs : ¬ ((V : Int) ≤ 0) := by omega
              have hVb : V ≤ 1000 := by omega
              have HV := hide hV
              clear hV hk4 hg4 q1
              go_wp2
              go_loopw [13] (fun u wq => ∃ j : Nat, u = .int .i64 j ∧ j ≤ k ∧ w4 = wq) (fun u _ => k - (intOf u).toNat)
              case atStart => exact ⟨0, rfl, by omega, rfl⟩
              case round =>
                obtain ⟨j, rfl, hj, rfl⟩ := hrel
                by_cases hjk : j < k
                · obtain ⟨g, rfl, hDg, hcl⟩ := R4.out (by omega)
                  have hx := hcl j hjk
                  have hne : vs.getD j 0 ≠ V := TN.out _ (by
                    have hl := L.out
                    rw [List.getD_eq_getElem?_getD, List.getElem?_eq_getElem (by omega)]
                    exact List.getElem_mem _)
                  generalize vs.getD j 0 = X at *
                  have hne' : ((X : Int) == (V : Int)) = false := by simp; omega
                  clear hne hcl
                  go_wp2
                  go_roundw
                  case rel => exact ⟨j + 1, by go_num, by omega, by first | rfl | trivial⟩
                  case measure => simp [intOf]; omega
                · obtain rfl : j = k := by omega
                  go_wp2_with (first
                    | (at_builtin; refine wpList_append_own _ rfl _ _ 44 rfl D 22 i0 (.int .u64 0) 1 8 Try.underlying44 hi hz0 hz1 hz2 rfl (by decide) _ _ _ rfl (O4.out.alloc _) ⟨w4.heap.size, 0, none⟩ 1 1 [.int .u64 V] rfl rfl ?ad1 ?ad2 ?ad3 ?ad4 ?ad5 ?_)
                    | fail)
                  case ad1 => exact cell_one_new _ _ _
                  case ad2 => first | rfl | (intro u hu; simp at hu; subst hu; rfl)
                  case ad3 => unfold maxLen; omega
                  case ad4 => omega
                  case ad5 => have := HD4.out; simp; omega
                  intro v6 w6 ho6 hg6 _
                  have O6 := hide ho6
                  have F6 := hide ((F4.out.keep (World.grownBy_alloc w4 (Obj.cells #[Value.int IntKind.u64 V] 22) none) (fun kk hk => by cases hk)).keep hg6 (fun g hg => (O4.out.lt g hg).1))
                  have bA := B4.out.alloc (Nat.le_trans (Nat.le_of_lt hAD) HD4.out) (Obj.cells #[Value.int IntKind.u64 V] 22)
                  have B6 := hide (bA.grown hg6 (by have := HD4.out; simp; omega) (fun g hg => Nat.le_trans (Nat.le_of_lt hAD) (O4.out.lt g hg).1))
                  have HD6 := hide (Nat.le_trans HD4.out (Nat.le_trans (by simp) hg6.size))
                  have L6 := hide (show (vs ++ [V]).length = j + 1 by rw [List.length_append, L.out]; rfl)
                  clear ho6 hg6 bA
                  go_wp2
                  go_roundw
                  case rel => exact ⟨j + 1, upd cs P (c + 1), vs ++ [V], by go_num, by omega, by omega, L6, F6, hide (by rw [uv_snoc]; exact O6.out), TS, M4, HD6, B6⟩
                  case measure => simp [intOf]; omega
            · by_cases hbit : (bits .and .i64 (z / 256) 1 == 1) = true
              · obtain ⟨P2, hP2e, hP2⟩ := place_of (z / 512) 255 (by omega) (k : Int) k rfl hk0
                have hP2e' : (bits .and .i64 (z / 512) 255).tmod (k : Int) = (P2 : Int) := hP2e
                clear hP2e
                obtain ⟨g, rfl, hDg, hcl⟩ := HR.out hk0
                have hsn := hcl P2 hP2
                have hmem : vs.getD P2 0 ∈ vs := by
                  have hl := L.out
                  rw [List.getD_eq_getElem?_getD, List.getElem?_eq_getElem (by omega)]
                  exact List.getElem_mem _
                obtain ⟨t1, t2⟩ := T.out _ hmem
                have t3 := M.out _ t1
                clear hmem hcl HR
                generalize vs.getD P2 0 = sn at *
                have hsb : sn / 8 ≤ k := Nat.le_trans t2 t3
                have HSB := hide hsb
                have hsk : sn ≤ 1000 := by omega
                clear t1 t2 t3 hsb
                go_wp2_with fail
                refine (See_any (f P) P (cs P) 1000 sn wr hcK.out (by omega)).mono ?_
                rw [seev_max _ _ (by have := HSB.out; omega)]
                rintro e w3 ⟨rfl, hk3, hg3⟩
                obtain ⟨c2, hc2⟩ : ∃ c2, max (cs P) (sn / 8) = c2 := ⟨_, rfl⟩
                rw [hc2] at hk3
                have hM2 : c2 ≤ k := by have := M.out P hP; have := HSB.out; omega
                have hs2 : sn / 8 ≤ c2 := by omega
                have F3 := hide (F2.out.put hP hg3 hk3)
                have O3 := hide (O.out.kept hg3 (.inr (fun e => by have := (O.out.lt _ e).1; omega)))
                have T3 := hide (T.out.up (t := P) (x := c2) (by omega))
                have M3 := hide (upd_le (t := P) M.out hM2)
                have HD3 := hide (Nat.le_trans HD2.out hg3.size)
                have B3 := hide (Below.put B2.out hg3 (Nat.le_of_lt hPB.1) (Nat.le_trans (Nat.le_of_lt hAD) HD2.out))
                have hcA' := (F3.out P hP).1
                have HS2 := hide hs2
                clear hk3 hg3 hc2 hcA hcK hsn F2 O T M HD2 B2 hz2k hM2
                obtain ⟨q1, q2, q3, _⟩ := F3.out P hP
                obtain ⟨c, hcP⟩ : ∃ c, (upd cs P c2) P = c := ⟨_, rfl⟩
                rw [hcP] at q2
                have hck : c ≤ k := by have := M3.out P hP; omega
                have TN := hide (show ∀ x ∈ vs, x ≠ (c + 1) * 8 + P from T3.out.new hP (by omega))
                have TS := hide (T3.out.snoc (c := c) hP (by omega))
                have q2' := hide q2
                clear q2
                go_wp2_with fail
                refine (Next_any (f P) P c 1000 w3 q2'.out (by omega) (by omega)).mono ?_
                rw [show nxv (P : Int) (c : Int) 1000 = ((((c + 1) * 8 + P : Nat) : Int), 0, ((c + 1 : Nat) : Int)) from by unfold nxv; rw [if_neg (by omega), if_neg (by omega)]; simp]
                rintro e w4 ⟨rfl, hk4, hg4⟩
                have F4 := hide (F3.out.put hP hg4 hk4)
                have O4 := hide (O3.out.kept hg4 (.inr (fun e => by have := (O3.out.lt _ e).1; omega)))
                have HD4 := hide (Nat.le_trans HD3.out hg4.size)
                have B4 := hide (Below.put B3.out hg4 (Nat.le_of_lt q3.1) (Nat.le_trans (Nat.le_of_lt hAD) HD3.out))
                have M4 := hide (upd_le (t := P) (fun s hs => Nat.le_trans (M3.out s hs) (Nat.le_succ k)) (show c + 1 ≤ k + 1 by omega))
                have R4 := hide (show 0 < k → ∃ g1, some (⟨g, 0, none⟩ : Addr) = some ⟨g1, 0, none⟩ ∧ D ≤ g1 ∧ ∀ i, i < k → w4.cell? ⟨g1, i, none⟩ = some (.int .u64 ((vs.getD i 0 : Nat) : Int)) from by
                  intro h0
                  obtain ⟨so', sc', e1, _, h2⟩ := row_cells O4.out L.out
                  cases e1
                  exact h2 h0)
                obtain ⟨V, hV⟩ : ∃ V : Nat, V = (c + 1) * 8 + P := ⟨_, rfl⟩
                simp only [← hV] at TN TS
                rw [← hV]
                have hVs : ¬ ((V : Int) ≤ (sn : Int)) := by
                  have e : upd cs P c2 P = c2 := by unfold upd; rw [if_pos rfl]
                  rw [e] at hcP
                  omega
                have hVb : V ≤ 1000 := by omega
                have HV := hide hV
                clear hV hk4 hg4 q1
                go_wp2
                go_loopw [13] (fun u wq => ∃ j : Nat, u = .int .i64 j ∧ j ≤ k ∧ w4 = wq) (fun u _ => k - (intOf u).toNat)
                case atStart => exact ⟨0, rfl, by omega, rfl⟩
                case round =>
                  obtain ⟨j, rfl, hj, rfl⟩ := hrel
                  by_cases hjk : j < k
                  · obtain ⟨g1, hgg, hDg1, hcl⟩ := R4.out (by omega)
                    cases hgg
                    have hx := hcl j hjk
                    have hne : vs.getD j 0 ≠ V := TN.out _ (by
                      have hl := L.out
                      rw [List.getD_eq_getElem?_getD, List.getElem?_eq_getElem (by omega)]
                      exact List.getElem_mem _)
                    generalize vs.getD j 0 = X at *
                    have hne' : ((X : Int) == (V : Int)) = false := by simp; omega
                    clear hne hcl
                    go_wp2
                    go_roundw
                    case rel => exact ⟨j + 1, by go_num, by omega, by first | rfl | trivial⟩
                    case measure => simp [intOf]; omega
                  · obtain rfl : j = k := by omega
                    go_wp2_with (first
                      | (at_builtin; refine wpList_append_own _ rfl _ _ 44 rfl D 22 i0 (.int .u64 0) 1 8 Try.underlying44 hi hz0 hz1 hz2 rfl (by decide) _ _ _ rfl (O4.out.alloc _) ⟨w4.heap.size, 0, none⟩ 1 1 [.int .u64 V] rfl rfl ?cd1 ?cd2 ?cd3 ?cd4 ?cd5 ?_)
                      | fail)
                    case cd1 => exact cell_one_new _ _ _
                    case cd2 => first | rfl | (intro u hu; simp at hu; subst hu; rfl)
                    case cd3 => unfold maxLen; omega
                    case cd4 => omega
                    case cd5 => have := HD4.out; simp; omega
                    intro v6 w6 ho6 hg6 _
                    have O6 := hide ho6
                    have F6 := hide ((F4.out.keep (World.grownBy_alloc w4 (Obj.cells #[Value.int IntKind.u64 V] 22) none) (fun kk hk => by cases hk)).keep hg6 (fun g hg => (O4.out.lt g hg).1))
                    have bA := B4.out.alloc (Nat.le_trans (Nat.le_of_lt hAD) HD4.out) (Obj.cells #[Value.int IntKind.u64 V] 22)
                    have B6 := hide (bA.grown hg6 (by have := HD4.out; simp; omega) (fun g hg => Nat.le_trans (Nat.le_of_lt hAD) (O4.out.lt g hg).1))
                    have HD6 := hide (Nat.le_trans HD4.out (Nat.le_trans (by simp) hg6.size))
                    have L6 := hide (show (vs ++ [V]).length = j + 1 by rw [List.length_append, L.out]; rfl)
                    clear ho6 hg6 bA
                    go_wp2
                    go_roundw
                    case rel => exact ⟨j + 1, upd (upd cs P c2) P (c + 1), vs ++ [V], by go_num, by omega, by omega, L6, F6, hide (by rw [uv_snoc]; exact O6.out), TS, M4, HD6, B6⟩
                    case measure => simp [intOf]; omega
              · clear HR
                have hbit' : (bits .and .i64 (z / 256) 1 == 1) = false := by simpa using hbit
                clear hbit
                obtain ⟨q1, q2, q3, _⟩ := F2.out P hP
                obtain ⟨c, hcP⟩ : ∃ c, cs P = c := ⟨_, rfl⟩
                rw [hcP] at q2
                have hck : c ≤ k := by have := M.out P hP; omega
                have TN := hide (show ∀ x ∈ vs, x ≠ (c + 1) * 8 + P from T.out.new hP (by omega))
                have TS := hide (T.out.snoc (c := c) hP (by omega))
                have q2' := hide q2
                clear q2
                go_wp2_with fail
                refine (Next_any (f P) P c 1000 wr q2'.out (by omega) (by omega)).mono ?_
                rw [show nxv (P : Int) (c : Int) 1000 = ((((c + 1) * 8 + P : Nat) : Int), 0, ((c + 1 : Nat) : Int)) from by unfold nxv; rw [if_neg (by omega), if_neg (by omega)]; simp]
                rintro e w4 ⟨rfl, hk4, hg4⟩
                have F4 := hide (F2.out.put hP hg4 hk4)
                have O4 := hide (O.out.kept hg4 (.inr (fun e => by have := (O.out.lt _ e).1; omega)))
                have HD4 := hide (Nat.le_trans HD2.out hg4.size)
                have B4 := hide (Below.put B2.out hg4 (Nat.le_of_lt q3.1) (Nat.le_trans (Nat.le_of_lt hAD) HD2.out))
                have M4 := hide (upd_le (t := P) (fun s hs => Nat.le_trans (M.out s hs) (Nat.le_succ k)) (show c + 1 ≤ k + 1 by omega))
                have R4 := hide (show 0 < k → ∃ g, so = some ⟨g, 0, none⟩ ∧ D ≤ g ∧ ∀ i, i < k → w4.cell? ⟨g, i, none⟩ = some (.int .u64 ((vs.getD i 0 : Nat) : Int)) from by
                  intro h0
                  obtain ⟨so', sc', e1, _, h2⟩ := row_cells O4.out L.out
                  cases e1
                  exact h2 h0)
                obtain ⟨V, hV⟩ : ∃ V : Nat, V = (c + 1) * 8 + P := ⟨_, rfl⟩
                simp only [← hV] at TN TS
                rw [← hV]
                have hVs : ¬ ((V : Int) ≤ 0) := by omega
                have hVb : V ≤ 1000 := by omega
                have HV := hide hV
                clear hV hk4 hg4 q1
                go_wp2
                go_loopw [13] (fun u wq => ∃ j : Nat, u = .int .i64 j ∧ j ≤ k ∧ w4 = wq) (fun u _ => k - (intOf u).toNat)
                case atStart => exact ⟨0, rfl, by omega, rfl⟩
                case round =>
                  obtain ⟨j, rfl, hj, rfl⟩ := hrel
                  by_cases hjk : j < k
                  · obtain ⟨g, rfl, hDg, hcl⟩ := R4.out (by omega)
                    have hx := hcl j hjk
                    have hne : vs.getD j 0 ≠ V := TN.out _ (by
                      have hl := L.out
                      rw [List.getD_eq_getElem?_getD, List.getElem?_eq_getElem (by omega)]
                      exact List.getElem_mem _)
                    generalize vs.getD j 0 = X at *
                    have hne' : ((X : Int) == (V : Int)) = false := by simp; omega
                    clear hne hcl
                    go_wp2
                    go_roundw
                    case rel => exact ⟨j + 1, by go_num, by omega, by first | rfl | trivial⟩
                    case measure => simp [intOf]; omega
                  · obtain rfl : j = k := by omega
                    go_wp2_with (first
                      | (at_builtin; refine wpList_append_own _ rfl _ _ 44 rfl D 22 i0 (.int .u64 0) 1 8 Try.underlying44 hi hz0 hz1 hz2 rfl (by decide) _ _ _ rfl (O4.out.alloc _) ⟨w4.heap.size, 0, none⟩ 1 1 [.int .u64 V] rfl rfl ?bd1 ?bd2 ?bd3 ?bd4 ?bd5 ?_)
                      | fail)
                    case bd1 => exact cell_one_new _ _ _
                    case bd2 => first | rfl | (intro u hu; simp at hu; subst hu; rfl)
                    case bd3 => unfold maxLen; omega
                    case bd4 => omega
                    case bd5 => have := HD4.out; simp; omega
                    intro v6 w6 ho6 hg6 _
                    have O6 := hide ho6
                    have F6 := hide ((F4.out.keep (World.grownBy_alloc w4 (Obj.cells #[Value.int IntKind.u64 V] 22) none) (fun kk hk => by cases hk)).keep hg6 (fun g hg => (O4.out.lt g hg).1))
                    have bA := B4.out.alloc (Nat.le_trans (Nat.le_of_lt hAD) HD4.out) (Obj.cells #[Value.int IntKind.u64 V] 22)
                    have B6 := hide (bA.grown hg6 (by have := HD4.out; simp; omega) (fun g hg => Nat.le_trans (Nat.le_of_lt hAD) (O4.out.lt g hg).1))
                    have HD6 := hide (Nat.le_trans HD4.out (Nat.le_trans (by simp) hg6.size))
                    have L6 := hide (show (vs ++ [V]).length = j + 1 by rw [List.length_append, L.out]; rfl)
                    clear ho6 hg6 bA
                    go_wp2
                    go_roundw
                    case rel => exact ⟨j + 1, upd cs P (c + 1), vs ++ [V], by go_num, by omega, by omega, L6, F6, hide (by rw [uv_snoc]; exact O6.out), TS, M4, HD6, B6⟩
                    case measure => simp [intOf]; omega
          · have hkn : ¬ ((k : Int) < 100) := by omega
            go_wp2_with fail
            refine (awake_any _).mono ?_
            rintro e w9 ⟨rfl, hb⟩
            have B9 := hide (B2.out.trans (hb.mono (Nat.le_trans (Nat.le_of_lt hAD) HD2.out)))
            clear hb
            go_wp2
            go_ret
            exact ⟨rfl, HA.out ▸ B9.out⟩
        · obtain rfl : k = len := by omega
          go_wp2_with fail
          refine (awake_any _).mono ?_
          rintro e w9 ⟨rfl, hb⟩
          have B9 := hide (B2.out.trans (hb.mono (Nat.le_trans (Nat.le_of_lt hAD) HD2.out)))
          clear hb
          go_wp2
          go_ret
          exact ⟨rfl, HA.out ▸ B9.out⟩

end Go.Proofs.Ytchipmjceiamfaa.Clep
