/- LevelOver, walked. No conditions. Written by wip/tools/gen17over.py. -/
import Derived.Test.YtcbphalhjajapaaHRw
namespace Go.Proofs.Ytcbphalhjajapaa.Clep
open Go.RowKit
set_option linter.unusedVariables false
set_option linter.unusedSimpArgs false

/-- What the statement holds while it makes its row. -/
structure Ov (w W : World) (m : Nat → Nat) (e : Int) (v : Value) (l : List He) (k i : Nat) : Prop where
  r : RwS (w.heap.size + 1) W v l
  L : l.map He.L = LL m k i
  M : ∀ x ∈ l, x.M = e
  b : Below w.heap.size w W
  n : Ek W w.heap.size #[.int .i64 (m 0 : Nat), .int .i64 (m 1 : Nat), .int .i64 (m 2 : Nat), .int .i64 (m 3 : Nat)] 3
theorem Ov.sz {w W : World} {m : Nat → Nat} {e : Int} {v : Value} {l : List He} {k i : Nat} (h : Ov w W m e v l k i) : w.heap.size + 1 ≤ W.heap.size := h.n.lt
theorem Ov.app {w W w' : World} {m : Nat → Nat} {e N b1 b2 : Int} {v v' : Value} {l : List He} {k i : Nat} (h : Ov w W m e v l k i) (h1 : 0 ≤ b1 ∧ b1 < 256) (h2 : 0 ≤ b2 ∧ b2 < 256) (hN : hi64 N) (hk : k < 4) (hM : hi64 e)
    (ho : OwnH w' (w.heap.size + 1) v' (l ++ [nextH W N k e b1 b2])) (hg : (nextW W N k e b1 b2).grownBy w' v.ownBlock) (ha : v'.ownBlock = v.ownBlock ∨ v'.ownBlock = some (nextW W N k e b1 b2).heap.size) : Ov w w' m e v' (l ++ [nextH W N k e b1 b2]) k (i + 1) := by
  have hv : ∀ q, v.ownBlock = some q → w.heap.size + 1 ≤ q := fun q hq => (World.ownsRow.lt h.r.o q hq).1
  have hb := nextW_below W N k e b1 b2
  refine ⟨h.r.more h1 h2 hN ⟨by omega, by omega⟩ hM ho hg ha, by rw [List.map_append, h.L, LL_more]; rfl, fun x hx => ?_, (h.b.trans (hb.mono h.b.size)).grown hg (Nat.le_trans h.b.size hb.size) (fun q hq => by have := hv q hq; omega), (h.n.below hb h.n.lt).gb hg (fun e => by have := hv _ e.symm; omega)⟩
  rcases List.mem_append.1 hx with hx | hx
  · exact h.M x hx
  · rw [List.mem_singleton.1 hx]; rfl
theorem n_at {w W : World} {m : Nat → Nat} {e : Int} {v : Value} {l : List He} {k i : Nat} (h : Ov w W m e v l k i) (q : Nat) (hq : q < 4) : W.cell? ⟨w.heap.size, q, none⟩ = some (.int .i64 (m q : Nat)) := by
  refine h.n.cell ?_
  rcases (show q = 0 ∨ q = 1 ∨ q = 2 ∨ q = 3 by omega) with rfl | rfl | rfl | rfl <;> rfl
/-- Which levels are over. -/
def wantZ (p0 p1 p2 : Bool) : List Int := (if p0 then [0] else []) ++ ((if p1 then [1] else []) ++ (if p2 then [2] else []))
theorem over_want {w W : World} {m : Nat → Nat} {e : Int} {v : Value} {l : List He} (h : Ov w W m e v l 4 0) (p0 p1 p2 : Bool) (h0 : decide (4 ≤ m 0) = p0) (h1 : decide (200 < (m 1 : Int) * e) = p1) (h2 : decide (2000 < (m 2 : Int) * e) = p2) :
    overE l = wantZ p0 p1 p2 ∧ (low l).isNone = (!p0 && (!p1 && !p2)) := by
  obtain ⟨c0, c1, c2⟩ := LL_cnt m
  have hc : ∀ k : Nat, (pos l k).length = (LL m 4 0).countP (fun z => z == (k : Int)) := fun k => by rw [pos_cnt, h.L]
  have o0 : ovr l 0 = p0 := by
    rw [← h0]
    unfold ovr
    rw [if_pos rfl, hc 0]
    show decide (4 ≤ (LL m 4 0).countP (fun z => z == (0 : Int))) = _
    rw [c0]
  have o1 : ovr l 1 = p1 := by
    rw [← h1]
    show decide (200 < sumM l 1) = _
    rw [sumM_all h.M 1, hc 1]
    show decide (200 < e * (((LL m 4 0).countP (fun z => z == (1 : Int)) : Nat) : Int)) = _
    rw [c1, Int.mul_comm]
  have o2 : ovr l 2 = p2 := by
    rw [← h2]
    show decide (2000 < sumM l 2) = _
    rw [sumM_all h.M 2, hc 2]
    show decide (2000 < e * (((LL m 4 0).countP (fun z => z == (2 : Int)) : Nat) : Int)) = _
    rw [c2, Int.mul_comm]
  have hr : List.range 4 = [0, 1, 2, 3] := rfl
  unfold overE low wantZ
  rw [hr]
  simp only [List.filter_cons, List.filter_nil, o0, o1, o2, ovr3]
  cases p0 <;> cases p1 <;> cases p2 <;> simp [zn]
set_option maxRecDepth 100000 in
set_option maxHeartbeats 8000000 in
theorem walk_over (a b c d e0 : Int) (w : World) : Calls Try.prog 4 #[.int .i64 a, .int .i64 b, .int .i64 c, .int .i64 d, .int .i64 e0] w fun e w' => e = .returned (.bool true) ∧ Below w.heap.size w w' := by
  have HAK := hide (fun W => awake_any W)
  have ra := and_mask a 7 (by decide)
  have rb := and_mask b 7 (by decide)
  have rc := and_mask c 7 (by decide)
  have rd := and_mask d 7 (by decide)
  have re := and_mask e0 1023 (by decide)
  obtain ⟨A, hA⟩ : ∃ A : Nat, bits .and .i64 a ((7 : Nat) : Int) = (A : Int) := Int.eq_ofNat_of_zero_le ra.1
  obtain ⟨B, hB⟩ : ∃ B : Nat, bits .and .i64 b ((7 : Nat) : Int) = (B : Int) := Int.eq_ofNat_of_zero_le rb.1
  obtain ⟨C, hC⟩ : ∃ C : Nat, bits .and .i64 c ((7 : Nat) : Int) = (C : Int) := Int.eq_ofNat_of_zero_le rc.1
  obtain ⟨D, hD⟩ : ∃ D : Nat, bits .and .i64 d ((7 : Nat) : Int) = (D : Int) := Int.eq_ofNat_of_zero_le rd.1
  obtain ⟨E, hE⟩ : ∃ E : Nat, bits .and .i64 e0 ((1023 : Nat) : Int) = (E : Int) := Int.eq_ofNat_of_zero_le re.1
  have mA : bits .and .i64 a 7 = (A : Int) := hA
  have mB : bits .and .i64 b 7 = (B : Int) := hB
  have mC : bits .and .i64 c 7 = (C : Int) := hC
  have mD : bits .and .i64 d 7 = (D : Int) := hD
  have mE : bits .and .i64 e0 1023 = (E : Int) := hE
  have hA7 : A ≤ 7 := by omega
  have hB7 : B ≤ 7 := by omega
  have hC7 : C ≤ 7 := by omega
  have hD7 : D ≤ 7 := by omega
  have hE7 : E ≤ 1023 := by omega
  clear ra rb rc rd re hA hB hC hD hE
  obtain ⟨m, hm⟩ : ∃ m : Nat → Nat, m 0 = A ∧ m 1 = B ∧ m 2 = C ∧ m 3 = D ∧ ∀ q, m q ≤ 7 := ⟨fun q => if q = 0 then A else if q = 1 then B else if q = 2 then C else D, rfl, rfl, rfl, rfl, fun q => by dsimp only; split; exact hA7; split; exact hB7; split; exact hC7; exact hD7⟩
  obtain ⟨rfl, rfl, rfl, rfl, hm7⟩ := hm
  have HM7 := hide hm7
  have H0 := hide (show Ov w (w.alloc (Obj.cells #[.int .i64 (m 0 : Nat), .int .i64 (m 1 : Nat), .int .i64 (m 2 : Nat), .int .i64 (m 3 : Nat)] 3)) m (E : Nat) (.slice none 0 0) [] 0 0 from ⟨rws_nil _ _, rfl, by simp, (Below.refl _ w).alloc (Nat.le_refl _) _, ek_new w _ _⟩)
  clear hm7
  go_enter Try.func4, Try.ntmps4
  go_wp2_with fail
  generalize w.alloc (Obj.cells #[.int .i64 (m 0 : Nat), .int .i64 (m 1 : Nat), .int .i64 (m 2 : Nat), .int .i64 (m 3 : Nat)] 3) = w1 at *
  go_loopw [12, 13] (fun v s wr => ∃ k : Nat, k ≤ 4 ∧ s = .int .i64 k ∧ Hid (∃ l, Ov w wr m (E : Nat) v l k 0)) (fun _ s _ => 4 - (intOf s).toNat)
  case atStart => exact ⟨0, by omega, rfl, hide ⟨_, H0.out⟩⟩
  case round =>
    obtain ⟨k, hk, rfl, hst⟩ := hrel
    obtain ⟨l, hov⟩ := hst.out
    have HO := hide hov
    clear hst hov H0
    by_cases hlt : k < 4
    · have hqk : (k : Int) < 4 := by omega
      go_wp2_with fail
      have HS := hide (show ∃ l, Ov w wr m (E : Nat) u12 l k 0 from ⟨l, HO.out⟩)
      clear HO
      go_loopw [12, 14] (fun v s wr2 => ∃ i : Nat, i ≤ m k ∧ s = .int .i64 i ∧ Hid (∃ l, Ov w wr2 m (E : Nat) v l k i)) (fun _ s _ => m k - (intOf s).toNat)
      case atStart => exact ⟨0, by omega, rfl, HS⟩
      case round =>
        obtain ⟨i, hi, rfl, hst⟩ := hrel
        obtain ⟨l2, hov⟩ := hst.out
        have HO := hide hov
        clear hst hov HS
        have c0 := n_at HO.out k hlt
        have hm7 := HM7.out k
        by_cases hlti : i < m k
        · have hqi : (i : Int) < (m k : Int) := by omega
          have HRO := hide ((HO.out.r.keep (nextW_below wr (10 * k + i + 1) k (E : Nat) i i)).o)
          have HEK := hide (nextW_ek wr (10 * k + i + 1) k (E : Nat) i i).2.2
          have HSZ := hide (show w.heap.size + 1 ≤ (nextW wr (10 * k + i + 1) k (E : Nat) i i).heap.size from Nat.le_trans HO.out.sz (nextW_below _ _ _ _ _ _).size)
          have HLE := hide (show l2.length ≤ 100000 from by
            have h1 : (l2.map He.L).length = (LL m k i).length := by rw [HO.out.L]
            have h2 := LL_len m HM7.out k i
            rw [List.length_map] at h1
            omega)
          have hu8 : IntKind.u8.wrap (i : Int) = (i : Int) := by simp [IntKind.wrap, IntKind.bits, IntKind.signed]; omega
          unfold nextW at HRO HEK HSZ
          go_wp2_with (at_builtin; refine wpList_append_h rfl _ _ rfl (w.heap.size + 1) _ l2 rfl HRO.out (wr.heap.size + 2) (nextH wr (10 * k + i + 1) k (E : Nat) i i) rfl HEK.out HLE.out HSZ.out ?_; intro v6 w6 ho6 hg6 hk6 ha6)
          have HN := hide (HO.out.app (i := i) (N := 10 * k + i + 1) (b1 := i) (b2 := i) ⟨by omega, by omega⟩ ⟨by omega, by omega⟩ ⟨by omega, by omega⟩ hlt ⟨by omega, by omega⟩ ho6 hg6 ha6)
          clear ho6 hg6 hk6 ha6
          go_roundw
          case rel => exact ⟨i + 1, by omega, by go_num, hide ⟨_, HN.out⟩⟩
          case measure => simp [intOf]; omega
        · obtain hie : i = m k := by omega
          have hqi : ¬ ((i : Int) < (m k : Int)) := by omega
          have HN := hide (show Ov w wr m (E : Nat) u12 l2 (k + 1) 0 from ⟨HO.out.r, by rw [HO.out.L, hie, LL_next], HO.out.M, HO.out.b, HO.out.n⟩)
          clear hie
          go_wp2
          go_roundw
          case rel => exact ⟨k + 1, by omega, by go_num, hide ⟨_, HN.out⟩⟩
          case measure => simp [intOf]; omega
    · obtain rfl : k = 4 := by omega
      have hqk : ¬ (((4 : Nat) : Int) < 4) := by omega
      obtain ⟨la, lc, hlv, hls⟩ := HO.out.r.hs
      have hmild : Mild l := ⟨by
        have h1 : (l.map He.L).length = (LL m 4 0).length := by rw [HO.out.L]
        have h2 := LL_len m HM7.out 4 0
        rw [List.length_map] at h1
        omega, fun x hx => by rw [HO.out.M x hx]; omega⟩
      have HOV := hide (fun W (hW : Below wr.heap.size wr W) => overs_any la l.length lc l W (hls.below hW (Nat.le_refl _)) hmild)
      have HDO := hide (fun W (hW : Below wr.heap.size wr W) => done_any la l.length lc l W (hls.below hW (Nat.le_refl _)) hmild)
      have c0 := n_at HO.out 0 (by omega)
      have c1 := n_at HO.out 1 (by omega)
      have c2 := n_at HO.out 2 (by omega)
      have HCS := hide (fun W (hW : Below wr.heap.size wr W) => (fun q hq => (hW.cell (p := ⟨w.heap.size, q, none⟩) HO.out.n.lt).trans (n_at HO.out q hq) : ∀ q, q < 4 → W.cell? ⟨w.heap.size, q, none⟩ = some (.int .i64 (m q : Nat))))
      obtain ⟨X1, hX1⟩ : ∃ X : Int, (m 1 : Int) * (E : Int) = X := ⟨_, rfl⟩
      obtain ⟨X2, hX2⟩ : ∃ X : Int, (m 2 : Int) * (E : Int) = X := ⟨_, rfl⟩
      have r1 : 0 ≤ X1 ∧ X1 ≤ 7161 := by
        rw [← hX1]
        have h1 := HM7.out 1
        exact ⟨Int.mul_nonneg (by omega) (by omega), by have := Int.mul_le_mul (show (m 1 : Int) ≤ 7 by omega) (show (E : Int) ≤ 1023 by omega) (by omega) (by omega); omega⟩
      have r2 : 0 ≤ X2 ∧ X2 ≤ 7161 := by
        rw [← hX2]
        have h1 := HM7.out 2
        exact ⟨Int.mul_nonneg (by omega) (by omega), by have := Int.mul_le_mul (show (m 2 : Int) ≤ 7 by omega) (show (E : Int) ≤ 1023 by omega) (by omega) (by omega); omega⟩
      have HWA := hide (over_want HO.out _ _ _ rfl rfl rfl)
      rw [hX1, hX2] at HWA
      have hM0 := HM7.out 0
      have HBW := hide HO.out.b
      have hX1' := hide hX1
      have hX2' := hide hX2
      clear HO hls hX1 hX2
      subst hlv
      generalize l.length = N at *
      rcases (show (m 0 < 4 ∧ X1 ≤ 200 ∧ X2 ≤ 2000) ∨ (m 0 < 4 ∧ X1 ≤ 200 ∧ 2000 < X2) ∨ (m 0 < 4 ∧ 200 < X1 ∧ X2 ≤ 2000) ∨ (m 0 < 4 ∧ 200 < X1 ∧ 2000 < X2) ∨ (4 ≤ m 0 ∧ X1 ≤ 200 ∧ X2 ≤ 2000) ∨ (4 ≤ m 0 ∧ X1 ≤ 200 ∧ 2000 < X2) ∨ (4 ≤ m 0 ∧ 200 < X1 ∧ X2 ≤ 2000) ∨ (4 ≤ m 0 ∧ 200 < X1 ∧ 2000 < X2) from by omega) with ⟨h0, h1, h2⟩ | ⟨h0, h1, h2⟩ | ⟨h0, h1, h2⟩ | ⟨h0, h1, h2⟩ | ⟨h0, h1, h2⟩ | ⟨h0, h1, h2⟩ | ⟨h0, h1, h2⟩ | ⟨h0, h1, h2⟩
      · have q0 : ¬ ((m 0 : Int) ≥ 4) := by omega
        have q1 : ¬ (X1 > 200) := by omega
        have q2 : ¬ (X2 > 2000) := by omega
        have hx1 := hX1'.out
        have hx2 := hX2'.out
        rw [show decide (4 ≤ m 0) = false from decide_eq_false (by omega), show decide (200 < X1) = false from decide_eq_false (by omega), show decide (2000 < X2) = false from decide_eq_false (by omega)] at HWA
        clear h0 h1 h2
        have O0 := (hide (ownZ_nil wr wr.heap.size) : Hid (OwnZ wr wr.heap.size (.slice none 0 0) []))
        have B0 := hide (Below.refl wr.heap.size wr)
        have hzz := zs_nil wr
        have HZ := hide (fun W (hW : Below wr.heap.size wr W) => hzz.below hW (Nat.le_refl _))
        have HOC := hide (HOV.out wr B0.out)
        clear hzz
        go_wp2_with fail
        refine HOC.out.mono ?_
        rintro e w20 ⟨v20, rfl, ho20, hb20⟩
        rw [HWA.out.1] at ho20
        obtain ⟨ya, yc, rfl, _, hyz, _⟩ := ownZ_zs ho20 (fun z hz => by simp [wantZ] at hz)
        have HSA := hide (same_any ya none (wantZ false false false).length yc 0 0 (wantZ false false false) [] w20 hyz (HZ.out w20 hb20) (by decide) (by decide))
        have HSB := hide (B0.out.trans (hb20.mono B0.out.size))
        rw [show decide (wantZ false false false = []) = true from by decide] at HSA
        clear ho20 hb20 hyz HOC
        go_wp2_with fail
        refine HSA.out.mono ?_
        rintro e w21 ⟨rfl, hb21⟩
        have HSB2 := hide (HSB.out.trans (hb21.mono HSB.out.size))
        have HDD := hide (HDO.out w21 HSB2.out)
        rw [HWA.out.2] at HDD
        clear hb21 HSA
        go_wp2_with fail
        refine HDD.out.mono ?_
        rintro e w22 ⟨rfl, hb22⟩
        have HSB3 := hide (HSB2.out.trans (hb22.mono HSB2.out.size))
        clear hb22 HDD
        go_wp2_with fail
        refine (HAK.out w22).mono ?_
        rintro e w23 ⟨rfl, hb23⟩
        have HSB4 := hide (HBW.out.trans ((HSB3.out.trans (hb23.mono HSB3.out.size)).mono HBW.out.size))
        clear hb23
        go_wp2
        go_ret
        exact ⟨rfl, HSB4.out⟩
      · have q0 : ¬ ((m 0 : Int) ≥ 4) := by omega
        have q1 : ¬ (X1 > 200) := by omega
        have q2 : (X2 > 2000) := by omega
        have hx1 := hX1'.out
        have hx2 := hX2'.out
        rw [show decide (4 ≤ m 0) = false from decide_eq_false (by omega), show decide (200 < X1) = false from decide_eq_false (by omega), show decide (2000 < X2) = true from decide_eq_true (by omega)] at HWA
        clear h0 h1 h2
        have O0 := (hide (ownZ_nil wr wr.heap.size) : Hid (OwnZ wr wr.heap.size (.slice none 0 0) []))
        have B0 := hide (Below.refl wr.heap.size wr)
        have A0 := (Below.refl _ wr).alloc (Nat.le_refl _) (Obj.cells #[.int .i64 2] 3)
        have E0 := hide (ek_new wr #[.int .i64 2] 3)
        have P0 := hide (xrow_keep O0.out A0)
        have S0 := hide (Nat.le_trans B0.out.size A0.size)
        have C0 := hide (B0.out.trans (A0.mono B0.out.size))
        clear A0
        go_wp2_with (first | (at_builtin; refine wpList_append_zz rfl _ _ rfl wr.heap.size _ [] rfl P0.out wr.heap.size 2 rfl E0.out (by decide) S0.out ?_; intro v10 w10 o10 g10 k10 _; have O1 : Hid (OwnZ w10 wr.heap.size v10 [2]) := hide o10; have B1 := hide (C0.out.grown g10 S0.out k10); have c0 := HCS.out w10 B1.out 0 (by omega); have c1 := HCS.out w10 B1.out 1 (by omega); have c2 := HCS.out w10 B1.out 2 (by omega); clear o10 g10 k10) | fail)
        obtain ⟨za, zc, hzv, hzcm, hzz, _⟩ := ownZ_zs O1.out (fun z hz => by simp at hz; omega)
        subst hzv
        have HZ := hide (fun W (hW : Below w10.heap.size w10 W) => hzz.below hW (Nat.le_refl _))
        have HOC := hide (HOV.out w10 B1.out)
        clear hzz
        refine HOC.out.mono ?_
        rintro e w20 ⟨v20, rfl, ho20, hb20⟩
        rw [HWA.out.1] at ho20
        obtain ⟨ya, yc, rfl, _, hyz, _⟩ := ownZ_zs ho20 (fun z hz => by simp [wantZ] at hz; omega)
        have HSA := hide (same_any ya za (wantZ false false true).length yc 1 zc (wantZ false false true) [2] w20 hyz (HZ.out w20 hb20) (by decide) (by decide))
        have HSB := hide (B1.out.trans (hb20.mono B1.out.size))
        rw [show decide (wantZ false false true = [2]) = true from by decide] at HSA
        clear ho20 hb20 hyz HOC
        go_wp2_with fail
        refine HSA.out.mono ?_
        rintro e w21 ⟨rfl, hb21⟩
        have HSB2 := hide (HSB.out.trans (hb21.mono HSB.out.size))
        have HDD := hide (HDO.out w21 HSB2.out)
        rw [HWA.out.2] at HDD
        clear hb21 HSA
        go_wp2_with fail
        refine HDD.out.mono ?_
        rintro e w22 ⟨rfl, hb22⟩
        have HSB3 := hide (HSB2.out.trans (hb22.mono HSB2.out.size))
        clear hb22 HDD
        go_wp2_with fail
        refine (HAK.out w22).mono ?_
        rintro e w23 ⟨rfl, hb23⟩
        have HSB4 := hide (HBW.out.trans ((HSB3.out.trans (hb23.mono HSB3.out.size)).mono HBW.out.size))
        clear hb23
        go_wp2
        go_ret
        exact ⟨rfl, HSB4.out⟩
      · have q0 : ¬ ((m 0 : Int) ≥ 4) := by omega
        have q1 : (X1 > 200) := by omega
        have q2 : ¬ (X2 > 2000) := by omega
        have hx1 := hX1'.out
        have hx2 := hX2'.out
        rw [show decide (4 ≤ m 0) = false from decide_eq_false (by omega), show decide (200 < X1) = true from decide_eq_true (by omega), show decide (2000 < X2) = false from decide_eq_false (by omega)] at HWA
        clear h0 h1 h2
        have O0 := (hide (ownZ_nil wr wr.heap.size) : Hid (OwnZ wr wr.heap.size (.slice none 0 0) []))
        have B0 := hide (Below.refl wr.heap.size wr)
        have A0 := (Below.refl _ wr).alloc (Nat.le_refl _) (Obj.cells #[.int .i64 1] 3)
        have E0 := hide (ek_new wr #[.int .i64 1] 3)
        have P0 := hide (xrow_keep O0.out A0)
        have S0 := hide (Nat.le_trans B0.out.size A0.size)
        have C0 := hide (B0.out.trans (A0.mono B0.out.size))
        clear A0
        go_wp2_with (first | (at_builtin; refine wpList_append_zz rfl _ _ rfl wr.heap.size _ [] rfl P0.out wr.heap.size 1 rfl E0.out (by decide) S0.out ?_; intro v10 w10 o10 g10 k10 _; have O1 : Hid (OwnZ w10 wr.heap.size v10 [1]) := hide o10; have B1 := hide (C0.out.grown g10 S0.out k10); have c0 := HCS.out w10 B1.out 0 (by omega); have c1 := HCS.out w10 B1.out 1 (by omega); have c2 := HCS.out w10 B1.out 2 (by omega); clear o10 g10 k10) | fail)
        obtain ⟨za, zc, hzv, hzcm, hzz, _⟩ := ownZ_zs O1.out (fun z hz => by simp at hz; omega)
        subst hzv
        have HZ := hide (fun W (hW : Below w10.heap.size w10 W) => hzz.below hW (Nat.le_refl _))
        have HOC := hide (HOV.out w10 B1.out)
        clear hzz
        refine HOC.out.mono ?_
        rintro e w20 ⟨v20, rfl, ho20, hb20⟩
        rw [HWA.out.1] at ho20
        obtain ⟨ya, yc, rfl, _, hyz, _⟩ := ownZ_zs ho20 (fun z hz => by simp [wantZ] at hz; omega)
        have HSA := hide (same_any ya za (wantZ false true false).length yc 1 zc (wantZ false true false) [1] w20 hyz (HZ.out w20 hb20) (by decide) (by decide))
        have HSB := hide (B1.out.trans (hb20.mono B1.out.size))
        rw [show decide (wantZ false true false = [1]) = true from by decide] at HSA
        clear ho20 hb20 hyz HOC
        go_wp2_with fail
        refine HSA.out.mono ?_
        rintro e w21 ⟨rfl, hb21⟩
        have HSB2 := hide (HSB.out.trans (hb21.mono HSB.out.size))
        have HDD := hide (HDO.out w21 HSB2.out)
        rw [HWA.out.2] at HDD
        clear hb21 HSA
        go_wp2_with fail
        refine HDD.out.mono ?_
        rintro e w22 ⟨rfl, hb22⟩
        have HSB3 := hide (HSB2.out.trans (hb22.mono HSB2.out.size))
        clear hb22 HDD
        go_wp2_with fail
        refine (HAK.out w22).mono ?_
        rintro e w23 ⟨rfl, hb23⟩
        have HSB4 := hide (HBW.out.trans ((HSB3.out.trans (hb23.mono HSB3.out.size)).mono HBW.out.size))
        clear hb23
        go_wp2
        go_ret
        exact ⟨rfl, HSB4.out⟩
      · have q0 : ¬ ((m 0 : Int) ≥ 4) := by omega
        have q1 : (X1 > 200) := by omega
        have q2 : (X2 > 2000) := by omega
        have hx1 := hX1'.out
        have hx2 := hX2'.out
        rw [show decide (4 ≤ m 0) = false from decide_eq_false (by omega), show decide (200 < X1) = true from decide_eq_true (by omega), show decide (2000 < X2) = true from decide_eq_true (by omega)] at HWA
        clear h0 h1 h2
        have O0 := (hide (ownZ_nil wr wr.heap.size) : Hid (OwnZ wr wr.heap.size (.slice none 0 0) []))
        have B0 := hide (Below.refl wr.heap.size wr)
        have A0 := (Below.refl _ wr).alloc (Nat.le_refl _) (Obj.cells #[.int .i64 1] 3)
        have E0 := hide (ek_new wr #[.int .i64 1] 3)
        have P0 := hide (xrow_keep O0.out A0)
        have S0 := hide (Nat.le_trans B0.out.size A0.size)
        have C0 := hide (B0.out.trans (A0.mono B0.out.size))
        clear A0
        go_wp2_with (first | (at_builtin; refine wpList_append_zz rfl _ _ rfl wr.heap.size _ [] rfl P0.out wr.heap.size 1 rfl E0.out (by decide) S0.out ?_; intro v10 w10 o10 g10 k10 _; have O1 : Hid (OwnZ w10 wr.heap.size v10 [1]) := hide o10; have B1 := hide (C0.out.grown g10 S0.out k10); have c0 := HCS.out w10 B1.out 0 (by omega); have c1 := HCS.out w10 B1.out 1 (by omega); have c2 := HCS.out w10 B1.out 2 (by omega); clear o10 g10 k10; have A1 := (Below.refl _ w10).alloc (Nat.le_refl _) (Obj.cells #[.int .i64 2] 3); have E1 := hide (ek_new w10 #[.int .i64 2] 3); have P1 := hide (xrow_keep O1.out A1); have S1 := hide (Nat.le_trans B1.out.size A1.size); have C1 := hide (B1.out.trans (A1.mono B1.out.size)); clear A1) | (at_builtin; refine wpList_append_zz rfl _ _ rfl wr.heap.size _ [1] rfl P1.out w10.heap.size 2 rfl E1.out (by decide) S1.out ?_; intro v11 w11 o11 g11 k11 _; have O2 : Hid (OwnZ w11 wr.heap.size v11 [1, 2]) := hide o11; have B2 := hide (C1.out.grown g11 S1.out k11); have c0 := HCS.out w11 B2.out 0 (by omega); have c1 := HCS.out w11 B2.out 1 (by omega); have c2 := HCS.out w11 B2.out 2 (by omega); clear o11 g11 k11) | fail)
        obtain ⟨za, zc, hzv, hzcm, hzz, _⟩ := ownZ_zs O2.out (fun z hz => by simp at hz; omega)
        subst hzv
        have HZ := hide (fun W (hW : Below w11.heap.size w11 W) => hzz.below hW (Nat.le_refl _))
        have HOC := hide (HOV.out w11 B2.out)
        clear hzz
        refine HOC.out.mono ?_
        rintro e w20 ⟨v20, rfl, ho20, hb20⟩
        rw [HWA.out.1] at ho20
        obtain ⟨ya, yc, rfl, _, hyz, _⟩ := ownZ_zs ho20 (fun z hz => by simp [wantZ] at hz; omega)
        have HSA := hide (same_any ya za (wantZ false true true).length yc 2 zc (wantZ false true true) [1, 2] w20 hyz (HZ.out w20 hb20) (by decide) (by decide))
        have HSB := hide (B2.out.trans (hb20.mono B2.out.size))
        rw [show decide (wantZ false true true = [1, 2]) = true from by decide] at HSA
        clear ho20 hb20 hyz HOC
        go_wp2_with fail
        refine HSA.out.mono ?_
        rintro e w21 ⟨rfl, hb21⟩
        have HSB2 := hide (HSB.out.trans (hb21.mono HSB.out.size))
        have HDD := hide (HDO.out w21 HSB2.out)
        rw [HWA.out.2] at HDD
        clear hb21 HSA
        go_wp2_with fail
        refine HDD.out.mono ?_
        rintro e w22 ⟨rfl, hb22⟩
        have HSB3 := hide (HSB2.out.trans (hb22.mono HSB2.out.size))
        clear hb22 HDD
        go_wp2_with fail
        refine (HAK.out w22).mono ?_
        rintro e w23 ⟨rfl, hb23⟩
        have HSB4 := hide (HBW.out.trans ((HSB3.out.trans (hb23.mono HSB3.out.size)).mono HBW.out.size))
        clear hb23
        go_wp2
        go_ret
        exact ⟨rfl, HSB4.out⟩
      · have q0 : ((m 0 : Int) ≥ 4) := by omega
        have q1 : ¬ (X1 > 200) := by omega
        have q2 : ¬ (X2 > 2000) := by omega
        have hx1 := hX1'.out
        have hx2 := hX2'.out
        rw [show decide (4 ≤ m 0) = true from decide_eq_true (by omega), show decide (200 < X1) = false from decide_eq_false (by omega), show decide (2000 < X2) = false from decide_eq_false (by omega)] at HWA
        clear h0 h1 h2
        have O0 := (hide (ownZ_nil wr wr.heap.size) : Hid (OwnZ wr wr.heap.size (.slice none 0 0) []))
        have B0 := hide (Below.refl wr.heap.size wr)
        have A0 := (Below.refl _ wr).alloc (Nat.le_refl _) (Obj.cells #[.int .i64 0] 3)
        have E0 := hide (ek_new wr #[.int .i64 0] 3)
        have P0 := hide (xrow_keep O0.out A0)
        have S0 := hide (Nat.le_trans B0.out.size A0.size)
        have C0 := hide (B0.out.trans (A0.mono B0.out.size))
        clear A0
        go_wp2_with (first | (at_builtin; refine wpList_append_zz rfl _ _ rfl wr.heap.size _ [] rfl P0.out wr.heap.size 0 rfl E0.out (by decide) S0.out ?_; intro v10 w10 o10 g10 k10 _; have O1 : Hid (OwnZ w10 wr.heap.size v10 [0]) := hide o10; have B1 := hide (C0.out.grown g10 S0.out k10); have c0 := HCS.out w10 B1.out 0 (by omega); have c1 := HCS.out w10 B1.out 1 (by omega); have c2 := HCS.out w10 B1.out 2 (by omega); clear o10 g10 k10) | fail)
        obtain ⟨za, zc, hzv, hzcm, hzz, _⟩ := ownZ_zs O1.out (fun z hz => by simp at hz; omega)
        subst hzv
        have HZ := hide (fun W (hW : Below w10.heap.size w10 W) => hzz.below hW (Nat.le_refl _))
        have HOC := hide (HOV.out w10 B1.out)
        clear hzz
        refine HOC.out.mono ?_
        rintro e w20 ⟨v20, rfl, ho20, hb20⟩
        rw [HWA.out.1] at ho20
        obtain ⟨ya, yc, rfl, _, hyz, _⟩ := ownZ_zs ho20 (fun z hz => by simp [wantZ] at hz; omega)
        have HSA := hide (same_any ya za (wantZ true false false).length yc 1 zc (wantZ true false false) [0] w20 hyz (HZ.out w20 hb20) (by decide) (by decide))
        have HSB := hide (B1.out.trans (hb20.mono B1.out.size))
        rw [show decide (wantZ true false false = [0]) = true from by decide] at HSA
        clear ho20 hb20 hyz HOC
        go_wp2_with fail
        refine HSA.out.mono ?_
        rintro e w21 ⟨rfl, hb21⟩
        have HSB2 := hide (HSB.out.trans (hb21.mono HSB.out.size))
        have HDD := hide (HDO.out w21 HSB2.out)
        rw [HWA.out.2] at HDD
        clear hb21 HSA
        go_wp2_with fail
        refine HDD.out.mono ?_
        rintro e w22 ⟨rfl, hb22⟩
        have HSB3 := hide (HSB2.out.trans (hb22.mono HSB2.out.size))
        clear hb22 HDD
        go_wp2_with fail
        refine (HAK.out w22).mono ?_
        rintro e w23 ⟨rfl, hb23⟩
        have HSB4 := hide (HBW.out.trans ((HSB3.out.trans (hb23.mono HSB3.out.size)).mono HBW.out.size))
        clear hb23
        go_wp2
        go_ret
        exact ⟨rfl, HSB4.out⟩
      · have q0 : ((m 0 : Int) ≥ 4) := by omega
        have q1 : ¬ (X1 > 200) := by omega
        have q2 : (X2 > 2000) := by omega
        have hx1 := hX1'.out
        have hx2 := hX2'.out
        rw [show decide (4 ≤ m 0) = true from decide_eq_true (by omega), show decide (200 < X1) = false from decide_eq_false (by omega), show decide (2000 < X2) = true from decide_eq_true (by omega)] at HWA
        clear h0 h1 h2
        have O0 := (hide (ownZ_nil wr wr.heap.size) : Hid (OwnZ wr wr.heap.size (.slice none 0 0) []))
        have B0 := hide (Below.refl wr.heap.size wr)
        have A0 := (Below.refl _ wr).alloc (Nat.le_refl _) (Obj.cells #[.int .i64 0] 3)
        have E0 := hide (ek_new wr #[.int .i64 0] 3)
        have P0 := hide (xrow_keep O0.out A0)
        have S0 := hide (Nat.le_trans B0.out.size A0.size)
        have C0 := hide (B0.out.trans (A0.mono B0.out.size))
        clear A0
        go_wp2_with (first | (at_builtin; refine wpList_append_zz rfl _ _ rfl wr.heap.size _ [] rfl P0.out wr.heap.size 0 rfl E0.out (by decide) S0.out ?_; intro v10 w10 o10 g10 k10 _; have O1 : Hid (OwnZ w10 wr.heap.size v10 [0]) := hide o10; have B1 := hide (C0.out.grown g10 S0.out k10); have c0 := HCS.out w10 B1.out 0 (by omega); have c1 := HCS.out w10 B1.out 1 (by omega); have c2 := HCS.out w10 B1.out 2 (by omega); clear o10 g10 k10; have A1 := (Below.refl _ w10).alloc (Nat.le_refl _) (Obj.cells #[.int .i64 2] 3); have E1 := hide (ek_new w10 #[.int .i64 2] 3); have P1 := hide (xrow_keep O1.out A1); have S1 := hide (Nat.le_trans B1.out.size A1.size); have C1 := hide (B1.out.trans (A1.mono B1.out.size)); clear A1) | (at_builtin; refine wpList_append_zz rfl _ _ rfl wr.heap.size _ [0] rfl P1.out w10.heap.size 2 rfl E1.out (by decide) S1.out ?_; intro v11 w11 o11 g11 k11 _; have O2 : Hid (OwnZ w11 wr.heap.size v11 [0, 2]) := hide o11; have B2 := hide (C1.out.grown g11 S1.out k11); have c0 := HCS.out w11 B2.out 0 (by omega); have c1 := HCS.out w11 B2.out 1 (by omega); have c2 := HCS.out w11 B2.out 2 (by omega); clear o11 g11 k11) | fail)
        obtain ⟨za, zc, hzv, hzcm, hzz, _⟩ := ownZ_zs O2.out (fun z hz => by simp at hz; omega)
        subst hzv
        have HZ := hide (fun W (hW : Below w11.heap.size w11 W) => hzz.below hW (Nat.le_refl _))
        have HOC := hide (HOV.out w11 B2.out)
        clear hzz
        refine HOC.out.mono ?_
        rintro e w20 ⟨v20, rfl, ho20, hb20⟩
        rw [HWA.out.1] at ho20
        obtain ⟨ya, yc, rfl, _, hyz, _⟩ := ownZ_zs ho20 (fun z hz => by simp [wantZ] at hz; omega)
        have HSA := hide (same_any ya za (wantZ true false true).length yc 2 zc (wantZ true false true) [0, 2] w20 hyz (HZ.out w20 hb20) (by decide) (by decide))
        have HSB := hide (B2.out.trans (hb20.mono B2.out.size))
        rw [show decide (wantZ true false true = [0, 2]) = true from by decide] at HSA
        clear ho20 hb20 hyz HOC
        go_wp2_with fail
        refine HSA.out.mono ?_
        rintro e w21 ⟨rfl, hb21⟩
        have HSB2 := hide (HSB.out.trans (hb21.mono HSB.out.size))
        have HDD := hide (HDO.out w21 HSB2.out)
        rw [HWA.out.2] at HDD
        clear hb21 HSA
        go_wp2_with fail
        refine HDD.out.mono ?_
        rintro e w22 ⟨rfl, hb22⟩
        have HSB3 := hide (HSB2.out.trans (hb22.mono HSB2.out.size))
        clear hb22 HDD
        go_wp2_with fail
        refine (HAK.out w22).mono ?_
        rintro e w23 ⟨rfl, hb23⟩
        have HSB4 := hide (HBW.out.trans ((HSB3.out.trans (hb23.mono HSB3.out.size)).mono HBW.out.size))
        clear hb23
        go_wp2
        go_ret
        exact ⟨rfl, HSB4.out⟩
      · have q0 : ((m 0 : Int) ≥ 4) := by omega
        have q1 : (X1 > 200) := by omega
        have q2 : ¬ (X2 > 2000) := by omega
        have hx1 := hX1'.out
        have hx2 := hX2'.out
        rw [show decide (4 ≤ m 0) = true from decide_eq_true (by omega), show decide (200 < X1) = true from decide_eq_true (by omega), show decide (2000 < X2) = false from decide_eq_false (by omega)] at HWA
        clear h0 h1 h2
        have O0 := (hide (ownZ_nil wr wr.heap.size) : Hid (OwnZ wr wr.heap.size (.slice none 0 0) []))
        have B0 := hide (Below.refl wr.heap.size wr)
        have A0 := (Below.refl _ wr).alloc (Nat.le_refl _) (Obj.cells #[.int .i64 0] 3)
        have E0 := hide (ek_new wr #[.int .i64 0] 3)
        have P0 := hide (xrow_keep O0.out A0)
        have S0 := hide (Nat.le_trans B0.out.size A0.size)
        have C0 := hide (B0.out.trans (A0.mono B0.out.size))
        clear A0
        go_wp2_with (first | (at_builtin; refine wpList_append_zz rfl _ _ rfl wr.heap.size _ [] rfl P0.out wr.heap.size 0 rfl E0.out (by decide) S0.out ?_; intro v10 w10 o10 g10 k10 _; have O1 : Hid (OwnZ w10 wr.heap.size v10 [0]) := hide o10; have B1 := hide (C0.out.grown g10 S0.out k10); have c0 := HCS.out w10 B1.out 0 (by omega); have c1 := HCS.out w10 B1.out 1 (by omega); have c2 := HCS.out w10 B1.out 2 (by omega); clear o10 g10 k10; have A1 := (Below.refl _ w10).alloc (Nat.le_refl _) (Obj.cells #[.int .i64 1] 3); have E1 := hide (ek_new w10 #[.int .i64 1] 3); have P1 := hide (xrow_keep O1.out A1); have S1 := hide (Nat.le_trans B1.out.size A1.size); have C1 := hide (B1.out.trans (A1.mono B1.out.size)); clear A1) | (at_builtin; refine wpList_append_zz rfl _ _ rfl wr.heap.size _ [0] rfl P1.out w10.heap.size 1 rfl E1.out (by decide) S1.out ?_; intro v11 w11 o11 g11 k11 _; have O2 : Hid (OwnZ w11 wr.heap.size v11 [0, 1]) := hide o11; have B2 := hide (C1.out.grown g11 S1.out k11); have c0 := HCS.out w11 B2.out 0 (by omega); have c1 := HCS.out w11 B2.out 1 (by omega); have c2 := HCS.out w11 B2.out 2 (by omega); clear o11 g11 k11) | fail)
        obtain ⟨za, zc, hzv, hzcm, hzz, _⟩ := ownZ_zs O2.out (fun z hz => by simp at hz; omega)
        subst hzv
        have HZ := hide (fun W (hW : Below w11.heap.size w11 W) => hzz.below hW (Nat.le_refl _))
        have HOC := hide (HOV.out w11 B2.out)
        clear hzz
        refine HOC.out.mono ?_
        rintro e w20 ⟨v20, rfl, ho20, hb20⟩
        rw [HWA.out.1] at ho20
        obtain ⟨ya, yc, rfl, _, hyz, _⟩ := ownZ_zs ho20 (fun z hz => by simp [wantZ] at hz; omega)
        have HSA := hide (same_any ya za (wantZ true true false).length yc 2 zc (wantZ true true false) [0, 1] w20 hyz (HZ.out w20 hb20) (by decide) (by decide))
        have HSB := hide (B2.out.trans (hb20.mono B2.out.size))
        rw [show decide (wantZ true true false = [0, 1]) = true from by decide] at HSA
        clear ho20 hb20 hyz HOC
        go_wp2_with fail
        refine HSA.out.mono ?_
        rintro e w21 ⟨rfl, hb21⟩
        have HSB2 := hide (HSB.out.trans (hb21.mono HSB.out.size))
        have HDD := hide (HDO.out w21 HSB2.out)
        rw [HWA.out.2] at HDD
        clear hb21 HSA
        go_wp2_with fail
        refine HDD.out.mono ?_
        rintro e w22 ⟨rfl, hb22⟩
        have HSB3 := hide (HSB2.out.trans (hb22.mono HSB2.out.size))
        clear hb22 HDD
        go_wp2_with fail
        refine (HAK.out w22).mono ?_
        rintro e w23 ⟨rfl, hb23⟩
        have HSB4 := hide (HBW.out.trans ((HSB3.out.trans (hb23.mono HSB3.out.size)).mono HBW.out.size))
        clear hb23
        go_wp2
        go_ret
        exact ⟨rfl, HSB4.out⟩
      · have q0 : ((m 0 : Int) ≥ 4) := by omega
        have q1 : (X1 > 200) := by omega
        have q2 : (X2 > 2000) := by omega
        have hx1 := hX1'.out
        have hx2 := hX2'.out
        rw [show decide (4 ≤ m 0) = true from decide_eq_true (by omega), show decide (200 < X1) = true from decide_eq_true (by omega), show decide (2000 < X2) = true from decide_eq_true (by omega)] at HWA
        clear h0 h1 h2
        have O0 := (hide (ownZ_nil wr wr.heap.size) : Hid (OwnZ wr wr.heap.size (.slice none 0 0) []))
        have B0 := hide (Below.refl wr.heap.size wr)
        have A0 := (Below.refl _ wr).alloc (Nat.le_refl _) (Obj.cells #[.int .i64 0] 3)
        have E0 := hide (ek_new wr #[.int .i64 0] 3)
        have P0 := hide (xrow_keep O0.out A0)
        have S0 := hide (Nat.le_trans B0.out.size A0.size)
        have C0 := hide (B0.out.trans (A0.mono B0.out.size))
        clear A0
        go_wp2_with (first | (at_builtin; refine wpList_append_zz rfl _ _ rfl wr.heap.size _ [] rfl P0.out wr.heap.size 0 rfl E0.out (by decide) S0.out ?_; intro v10 w10 o10 g10 k10 _; have O1 : Hid (OwnZ w10 wr.heap.size v10 [0]) := hide o10; have B1 := hide (C0.out.grown g10 S0.out k10); have c0 := HCS.out w10 B1.out 0 (by omega); have c1 := HCS.out w10 B1.out 1 (by omega); have c2 := HCS.out w10 B1.out 2 (by omega); clear o10 g10 k10; have A1 := (Below.refl _ w10).alloc (Nat.le_refl _) (Obj.cells #[.int .i64 1] 3); have E1 := hide (ek_new w10 #[.int .i64 1] 3); have P1 := hide (xrow_keep O1.out A1); have S1 := hide (Nat.le_trans B1.out.size A1.size); have C1 := hide (B1.out.trans (A1.mono B1.out.size)); clear A1) | (at_builtin; refine wpList_append_zz rfl _ _ rfl wr.heap.size _ [0] rfl P1.out w10.heap.size 1 rfl E1.out (by decide) S1.out ?_; intro v11 w11 o11 g11 k11 _; have O2 : Hid (OwnZ w11 wr.heap.size v11 [0, 1]) := hide o11; have B2 := hide (C1.out.grown g11 S1.out k11); have c0 := HCS.out w11 B2.out 0 (by omega); have c1 := HCS.out w11 B2.out 1 (by omega); have c2 := HCS.out w11 B2.out 2 (by omega); clear o11 g11 k11; have A2 := (Below.refl _ w11).alloc (Nat.le_refl _) (Obj.cells #[.int .i64 2] 3); have E2 := hide (ek_new w11 #[.int .i64 2] 3); have P2 := hide (xrow_keep O2.out A2); have S2 := hide (Nat.le_trans B2.out.size A2.size); have C2 := hide (B2.out.trans (A2.mono B2.out.size)); clear A2) | (at_builtin; refine wpList_append_zz rfl _ _ rfl wr.heap.size _ [0, 1] rfl P2.out w11.heap.size 2 rfl E2.out (by decide) S2.out ?_; intro v12 w12 o12 g12 k12 _; have O3 : Hid (OwnZ w12 wr.heap.size v12 [0, 1, 2]) := hide o12; have B3 := hide (C2.out.grown g12 S2.out k12); have c0 := HCS.out w12 B3.out 0 (by omega); have c1 := HCS.out w12 B3.out 1 (by omega); have c2 := HCS.out w12 B3.out 2 (by omega); clear o12 g12 k12) | fail)
        obtain ⟨za, zc, hzv, hzcm, hzz, _⟩ := ownZ_zs O3.out (fun z hz => by simp at hz; omega)
        subst hzv
        have HZ := hide (fun W (hW : Below w12.heap.size w12 W) => hzz.below hW (Nat.le_refl _))
        have HOC := hide (HOV.out w12 B3.out)
        clear hzz
        refine HOC.out.mono ?_
        rintro e w20 ⟨v20, rfl, ho20, hb20⟩
        rw [HWA.out.1] at ho20
        obtain ⟨ya, yc, rfl, _, hyz, _⟩ := ownZ_zs ho20 (fun z hz => by simp [wantZ] at hz; omega)
        have HSA := hide (same_any ya za (wantZ true true true).length yc 3 zc (wantZ true true true) [0, 1, 2] w20 hyz (HZ.out w20 hb20) (by decide) (by decide))
        have HSB := hide (B3.out.trans (hb20.mono B3.out.size))
        rw [show decide (wantZ true true true = [0, 1, 2]) = true from by decide] at HSA
        clear ho20 hb20 hyz HOC
        go_wp2_with fail
        refine HSA.out.mono ?_
        rintro e w21 ⟨rfl, hb21⟩
        have HSB2 := hide (HSB.out.trans (hb21.mono HSB.out.size))
        have HDD := hide (HDO.out w21 HSB2.out)
        rw [HWA.out.2] at HDD
        clear hb21 HSA
        go_wp2_with fail
        refine HDD.out.mono ?_
        rintro e w22 ⟨rfl, hb22⟩
        have HSB3 := hide (HSB2.out.trans (hb22.mono HSB2.out.size))
        clear hb22 HDD
        go_wp2_with fail
        refine (HAK.out w22).mono ?_
        rintro e w23 ⟨rfl, hb23⟩
        have HSB4 := hide (HBW.out.trans ((HSB3.out.trans (hb23.mono HSB3.out.size)).mono HBW.out.size))
        clear hb23
        go_wp2
        go_ret
        exact ⟨rfl, HSB4.out⟩

end Go.Proofs.Ytcbphalhjajapaa.Clep
