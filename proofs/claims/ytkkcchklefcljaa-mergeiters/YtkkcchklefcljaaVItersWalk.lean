/- MergeIters: a merged row is told item by item, and sought anywhere goes on from there, walked. No conditions. -/
import Derived.Test.YtkkcchklefcljaaVAwake
import Derived.Test.YtkkcchklefcljaaVSeekW
import Derived.Test.YtkkcchklefcljaaVNew
namespace Go.Proofs.Ytkkcchklefcljaa.Clep
open Go.RowKit
set_option linter.unusedVariables false

/-- The slice value (ao, len, cap) leads to the ints zs. -/
def Zs (w : World) (ao : Option Addr) (len : Nat) (zs : List Int) : Prop :=
  zs.length = len ∧ (0 < len → ∃ b off, ao = some ⟨b, off, none⟩ ∧ ∀ i, i < len → w.cell? ⟨b, off + i, none⟩ = some (.int .i64 (zs.getD i 0)))
theorem Zs.below {w w' : World} {ao : Option Addr} {len : Nat} {zs : List Int} (h : Zs w ao len zs) (hb : Below w.heap.size w w') : Zs w' ao len zs := by
  refine ⟨h.1, fun h0 => ?_⟩
  obtain ⟨b, off, e, hc⟩ := h.2 h0
  exact ⟨b, off, e, fun i hi => (hb.cell (p := ⟨b, off + i, none⟩) (World.block_lt_of_cell? w _ (hc i hi))).trans (hc i hi)⟩
theorem zs_of_row {w : World} {a : Option Addr} {len cap : Nat} {zs : List Int}
    (h : (a = none ∧ len = 0 ∧ cap = 0 ∧ zs = []) ∨ ∃ x, a = some x ∧ len ≤ cap ∧ cap ≤ maxLen ∧ zs.length = cap ∧ (∀ i, i < zs.length → w.cell? (x.add i) = some (.int .i64 (zs.getD i 0))) ∧ ∀ z ∈ zs, (Lit.int .i64 z).wf = true) :
    Zs w a len (zs.take len) ∧ len ≤ 9223372036854775807 := by
  rcases h with ⟨rfl, rfl, rfl, rfl⟩ | ⟨x, rfl, hl, hm, hz, hcell, hwz⟩
  · exact ⟨⟨rfl, fun h => by omega⟩, by omega⟩
  · unfold maxLen at hm
    refine ⟨⟨by rw [List.length_take]; omega, fun h0 => ?_⟩, by omega⟩
    obtain ⟨b, off, spot⟩ := x
    have hc := hcell 0 (by omega)
    have hspot : spot = none := by simpa [Addr.add] using World.cell?_spot hc
    subst hspot
    refine ⟨b, off, rfl, fun i hi => ?_⟩
    have := hcell i (by omega)
    rw [add_plain] at this
    rw [this]
    simp [List.getD, hi]
theorem mand6 (a : Int) : 0 ≤ bits .and .i64 a 63 ∧ bits .and .i64 a 63 ≤ 63 := by
  have e : bits .and .i64 a 63 = IntKind.i64.wrap ((BitVec.ofInt 64 a &&& BitVec.ofInt 64 63).toNat : Int) := rfl
  have hle : (BitVec.ofInt 64 a &&& BitVec.ofInt 64 63).toNat ≤ 63 := by
    rw [BitVec.toNat_and]; exact Nat.le_trans Nat.and_le_right (by decide)
  rw [e]
  generalize (BitVec.ofInt 64 a &&& BitVec.ofInt 64 63).toNat = k at *
  simp [IntKind.wrap, IntKind.bits, IntKind.signed]
  omega
/-- The Iter stands ahead of its at-th item; nothing of w1 has changed. -/
structure Itk (w1 wr : World) (M : Nat) (ls : List (List It)) (k n : Nat) : Prop where
  bel : Below w1.heap.size w1 wr
  itr : Itr wr M ls k
  lt : M < wr.heap.size
  le : k ≤ n
theorem Itk.ch {w1 wr w2 : World} {M : Nat} {ls : List (List It)} {k k' n : Nat} (h : Itk w1 wr M ls k n) (hc : Ch (fun b => b = M) wr w2) (hM : w1.heap.size ≤ M) (hi : Itr w2 M ls k') (hk : k' ≤ n) : Itk w1 w2 M ls k' n :=
  ⟨Below.ch h.bel hc h.bel.size (fun i hi => by omega), hi, Nat.lt_of_lt_of_le h.lt hc.size, hk⟩
theorem Itk.keep {w1 wr w2 : World} {M : Nat} {ls : List (List It)} {k n : Nat} (h : Itk w1 wr M ls k n) (hb : Below wr.heap.size wr w2) : Itk w1 w2 M ls k n :=
  ⟨bmore h.bel hb, h.itr.keep hb, Nat.lt_of_lt_of_le h.lt hb.size, h.le⟩
theorem neq_self (S K T V X : Int) (w : World) : (binOp .neq 36 (.agg #[.int .i64 S, .int .i64 K, .int .u64 T, .int .u64 V, .int .i64 X]) (.agg #[.int .i64 S, .int .i64 K, .int .u64 T, .int .u64 V, .int .i64 X])).run Try.prog w = .ok (.bool false) w := by
  go_simp
theorem fold_mg_len : ∀ (zs : List Sl) (o : List It), (zs.foldl (fun o z => mg o z.l) o).length ≤ o.length + sumL zs
  | [], o => by simp [sumL]
  | z :: zs, o => by
    have h1 := fold_mg_len zs (mg o z.l)
    have h2 := mg_len o z.l
    unfold sumL at *
    simp only [List.foldl_cons, List.map_cons, List.sum_cons]; omega
theorem rowsL_len (zs : List Sl) : (rowsL zs).length ≤ sumL zs := by
  have := fold_mg_len zs []
  unfold rowsL
  simpa using this
set_option maxRecDepth 100000 in
set_option maxHeartbeats 8000000 in
theorem iters_walk (a b d : Option Addr) (n c n1 c1 n2 c2 : Nat) (zs : List Sl) (sk : List It) (st : List Int) (w : World) (h : Rws w a n c zs) (hn : n ≤ 9223372036854775807) (h1 : Is w b n1 c1 sk) (hn1 : n1 ≤ 9223372036854775807) (h2 : Zs w d n2 st) (hn2 : n2 ≤ 9223372036854775807) :
    Calls Try.prog 4 #[.slice a n c, .slice b n1 c1, .slice d n2 c2] w fun e w' => e = .returned (.bool true) ∧ Below w.heap.size w w' := by
  have CR := hide (lrows_any a n c zs w h hn)
  have hR := hide (lawR_rise zs)
  have hLn := hide (lawR_len zs)
  have hS := lawR_size zs
  generalize lawR zs = ls at *
  have HSK := hide h1
  have HST := hide h2
  clear h h1 h2
  go_enter Try.func4, Try.ntmps4
  go_wp2_with fail
  refine CR.out.mono ?_
  rintro e wA ⟨aA, nA, cA, ys, rfl, hr, hcA, hym, hbA⟩
  have hflat : ls.flatten.length ≤ 320 := by
    have h1 : ∀ m : List (List It), (∀ l ∈ m, l.length ≤ 40) → m.flatten.length ≤ m.length * 40 := fun m => by
      induction m with
      | nil => intro _; simp
      | cons a m ih =>
        intro hm
        have := ih (fun l hl => hm l (by simp [hl]))
        have := hm a (by simp)
        simp only [List.flatten_cons, List.length_append, List.length_cons]; omega
    have h2 := h1 ls hLn.out
    omega
  have hsz : sumL ys ≤ 320 := by rw [← flat_len, hym]; exact hflat
  have hnA : nA ≤ 8 := by have := congrArg List.length hym; rw [List.length_map, hr.1] at this; omega
  have hRY : ∀ z ∈ ys, Rise z.l := fun z hz => hR.out z.l (by rw [← hym]; exact List.mem_map.2 ⟨z, hz, rfl⟩)
  have HRise := hide (rowsL_bst ys hRY).1
  have hLs : (rowsL ys).length ≤ 320 := Nat.le_trans (rowsL_len ys) hsz
  have HU : Hid (∀ L, Mrg ls L → L = rowsL ys) := hide fun L hm => by rw [← hym] at hm; exact mrg_rowsL hm hRY
  have CW := hide (refrows_any aA nA cA ys wA hr (by omega) (by omega))
  have HRA := hide hr
  have BA := hide hbA
  have HYM := hide hym
  obtain ⟨L, hLe⟩ : ∃ L, rowsL ys = L := ⟨_, rfl⟩
  rw [hLe] at HRise HU CW hLs
  clear CR hr hym hbA hRY hLe
  go_wp2_with fail
  refine CW.out.mono ?_
  rintro e w1 ⟨a8, c8, rfl, hI8, hc8, hb8, -⟩
  have CN := hide (new_any aA nA cA ys w1 (HRA.out.below hb8 (Nat.le_refl _)) (by omega) (by omega))
  rw [HYM.out] at CN
  have HI8 := hide hI8
  have B1 := hide (bmore BA.out hb8)
  generalize hL8 : L.length = n8 at *
  have HL8 := hide hL8
  clear CW hI8 hb8 hL8 BA HRA
  go_wp2_with fail
  refine CN.out.mono ?_
  rintro e wC ⟨M, rfl, hM1, hM2, hU, hbC⟩
  have K0 := hide (show Itk w1 wC M ls 0 n8 from ⟨hbC, .inl ⟨hU, rfl⟩, hM2, Nat.zero_le _⟩)
  have HM := hide hM1
  have heq : ∀ (w : World) (b : Addr), (binOp .eql 33 (.pointer (some b)) (.pointer none)).run Try.prog w = .ok (.bool false) w := fun w b => by kernel_rfl
  have CA := hide (vawake_any wC)
  clear CN hM1 hM2 hU hbC
  go_wp2_with fail
  refine CA.out.mono ?_
  rintro e wD ⟨rfl, hbD⟩
  have K1 := hide (K0.out.keep hbD)
  have HSK1 := hide (fun W (hW : Below w1.heap.size w1 W) => HSK.out.below (bmore B1.out hW) (Nat.le_refl _))
  have HST1 := hide (fun W (hW : Below w1.heap.size w1 W) => HST.out.below (bmore B1.out hW))
  have HI1 := hide (fun W (hW : Below w1.heap.size w1 W) => HI8.out.below hW (Nat.le_refl _))
  clear CA hbD K0 HSK HST HI8
  go_wp2_with fail
  go_loopw [10, 11] (fun s10 s11 wr => ∃ i k : Nat, i ≤ 20 ∧ i ≤ n1 + 1 ∧ s11 = .int .i64 i ∧ s10 = .int .i64 k ∧ Hid (Itk w1 wr M ls k n8)) (fun _ s11 _ => 21 - (intOf s11).toNat)
  case atStart => exact ⟨0, 0, by omega, by omega, rfl, rfl, K1⟩
  case round =>
    obtain ⟨i, k, hi20, hin, rfl, rfl, hK⟩ := hrel
    by_cases hgo : i ≤ n1 ∧ i < 20
    · obtain ⟨hgo1, hgo2⟩ := hgo
      have hg1 : (i : Int) ≤ (n1 : Int) := by omega
      have hg2 : (i : Int) < 20 := by omega
      obtain ⟨w0, rfl⟩ : ∃ w0, w0 = wr := ⟨_, rfl⟩
      go_upto_if 41 with fail
      go_cut [12] from 28 to 112 (fun s12 wx => ∃ N : Int, s12 = .int .i64 N ∧ (0 ≤ N ∧ N ≤ 63) ∧ w0 = wx)
      case first =>
        by_cases his : i < n2
        · obtain ⟨b2, off2, ea, hcell⟩ := (HST1.out _ hK.out.bel).2 (by omega)
          subst ea
          have hci := hcell i his
          have hii : (i : Int) < (n2 : Int) := by omega
          clear hcell
          go_wp2_with fail
          go_meet
          exact ⟨_, rfl, mand6 _, rfl⟩
        · go_wp2_with fail
          go_meet
          exact ⟨3, rfl, by omega, rfl⟩
      case rest =>
        obtain ⟨N, rfl, hN, rfl⟩ := hcut
        go_wp2_with fail
        go_loopw [10, 13] (fun s10 s13 wq => ∃ j k : Nat, (j : Int) ≤ N ∧ s13 = .int .i64 j ∧ s10 = .int .i64 k ∧ Hid (Itk w1 wq M ls k n8)) (fun _ s13 _ => (N - intOf s13).toNat)
        case atStart => exact ⟨0, k, by omega, rfl, rfl, hK⟩
        case round =>
          clear hK
          obtain ⟨j, k, hjN, rfl, rfl, hK⟩ := hrel
          by_cases hj : (j : Int) < N
          · have CX := hide (next_any wr M ls k hK.out.itr hK.out.lt (by omega))
            have hle := hK.out.le
            go_wp2_with fail
            refine CX.out.mono ?_
            rintro e w3 ⟨L3, hm3, hc3, h3⟩
            obtain rfl := HU.out L3 hm3
            rw [HL8.out] at h3
            rcases h3 with ⟨hk8, rfl, hI3⟩ | ⟨x, hx, rfl, hI3⟩
            · have K3 := hide (hK.out.ch hc3 HM.out hI3 hle)
              have A3 := (Below.refl _ w3).alloc (Nat.le_refl _) (Obj.cells #[.int .i64 0, .int .i64 0, .int .u64 0, .int .u64 0, .int .i64 0] 36)
              have V3 := vi_new w3 0 0 0 0 0
              obtain ⟨w4, hw4⟩ : ∃ w4, w4 = w3.alloc (Obj.cells #[.int .i64 0, .int .i64 0, .int .u64 0, .int .u64 0, .int .i64 0] 36) := ⟨_, rfl⟩
              rw [← hw4] at A3 V3
              have K4 := hide (K3.out.keep A3)
              have HV4 := hide V3
              have hk8b : ¬ k < n8 := by omega
              have hd0 : decide (k < n8) = false := by simp; omega
              have hd1 : decide ((k : Int) < (n8 : Int)) = false := by simp; omega
              have hne : Nonempty (Kp w4) := ⟨⟨_, Below.refl _ _⟩⟩
              have hsl := neq_self 0 0 0 0 0
              unfold ivL zI
              simp only
              clear CX hm3 hc3 hI3 hK A3 V3 K3
              go_upto_region 17 with fail
              rw [← hw4]
              clear hw4
              obtain ⟨R, hR⟩ : ∃ R, w3.heap.size = R := ⟨_, rfl⟩
              rw [hR] at HV4 ⊢
              clear hR
              have x0 : ∀ p : Kp w4, p.W.cell? ⟨R, 0, none⟩ = some (.int .i64 0) := fun p => by simpa using (HV4.out.keep p.h).1
              have x1 : ∀ p : Kp w4, p.W.cell? ⟨R, 1, none⟩ = some (.int .i64 0) := fun p => by simpa using (HV4.out.keep p.h).2.1
              have x2 : ∀ p : Kp w4, p.W.cell? ⟨R, 2, none⟩ = some (.int .u64 0) := fun p => by simpa using (HV4.out.keep p.h).2.2.1
              have x3 : ∀ p : Kp w4, p.W.cell? ⟨R, 3, none⟩ = some (.int .u64 0) := fun p => by simpa using (HV4.out.keep p.h).2.2.2.1
              have x4 : ∀ p : Kp w4, p.W.cell? ⟨R, 4, none⟩ = some (.int .i64 0) := fun p => by simpa using (HV4.out.keep p.h).2.2.2.2
              go_wp2_with fail
              refine wp_region_kept (by kernel_rfl) (by kernel_rfl) ?_
              repeat (first
                | go_big_quiet_step (fail)
                | fail)
              refine wpQuiet_nil ?_
              intro w5 hw'
              have hb5 : Hid (Below w4.heap.size w4 w5) := by
                obtain ⟨⟨w3', hb3⟩, hw''⟩ := hw'
                rw [hw'']; exact hide hb3
              clear hw'
              have K5 := hide (K4.out.keep hb5.out)
              clear hne x0 x1 x2 x3 x4 HV4 K4 hb5
              go_wp2_with fail
              go_roundw
              case rel => exact ⟨j + 1, k, by omega, by go_num, rfl, K5⟩
              case measure => simp [intOf]; omega
            · have hkn : k < n8 := by have := (List.getElem?_eq_some_iff.1 hx).1; have := HL8.out; omega
              have K3 := hide (hK.out.ch hc3 HM.out hI3 (by omega))
              have hIw := HI1.out _ K3.out.bel
              obtain ⟨b8, off8, ea, hcell⟩ := hIw.2.2.2 (by omega)
              subst ea
              have A3 := (Below.refl _ w3).alloc (Nat.le_refl _) (Obj.cells #[.int .i64 x.S, .int .i64 x.K, .int .u64 x.T, .int .u64 x.V, .int .i64 x.X] 36)
              have V3 := vi_new w3 x.S x.K x.T x.V x.X
              have hvx := hide (show Vi w3 b8 (off8 + k * 5) x.S x.K x.T x.V x.X from hcell k x hx)
              obtain ⟨w4, hw4⟩ : ∃ w4, w4 = w3.alloc (Obj.cells #[.int .i64 x.S, .int .i64 x.K, .int .u64 x.T, .int .u64 x.V, .int .i64 x.X] 36) := ⟨_, rfl⟩
              rw [← hw4] at A3 V3
              have K4 := hide (K3.out.keep A3)
              have HV4 := hide V3
              have HV5 := hide (hvx.out.keep A3)
              have hd0 : decide (k < n8) = true := by simp; omega
              have hd1 : (k : Int) < (n8 : Int) := by omega
              have hne : Nonempty (Kp w4) := ⟨⟨_, Below.refl _ _⟩⟩
              have hsl := neq_self x.S x.K x.T x.V x.X
              unfold ivL
              obtain ⟨S, K, T, V, X⟩ := x
              simp only at HV4 HV5 hsl hw4 ⊢
              clear CX hm3 hc3 hI3 hK A3 V3 K3 hIw hcell hvx hx
              go_upto_region 17 with fail
              rw [← hw4]
              clear hw4
              obtain ⟨R, hR⟩ : ∃ R, w3.heap.size = R := ⟨_, rfl⟩
              rw [hR] at HV4 ⊢
              clear hR
              have x0 : ∀ p : Kp w4, p.W.cell? ⟨R, 0, none⟩ = some (.int .i64 S) := fun p => by simpa using (HV4.out.keep p.h).1
              have x1 : ∀ p : Kp w4, p.W.cell? ⟨R, 1, none⟩ = some (.int .i64 K) := fun p => by simpa using (HV4.out.keep p.h).2.1
              have x2 : ∀ p : Kp w4, p.W.cell? ⟨R, 2, none⟩ = some (.int .u64 T) := fun p => by simpa using (HV4.out.keep p.h).2.2.1
              have x3 : ∀ p : Kp w4, p.W.cell? ⟨R, 3, none⟩ = some (.int .u64 V) := fun p => by simpa using (HV4.out.keep p.h).2.2.2.1
              have x4 : ∀ p : Kp w4, p.W.cell? ⟨R, 4, none⟩ = some (.int .i64 X) := fun p => by simpa using (HV4.out.keep p.h).2.2.2.2
              have y0 : ∀ p : Kp w4, p.W.cell? ⟨b8, off8 + k * 5, none⟩ = some (.int .i64 S) := fun p => (HV5.out.keep p.h).1
              have y1 : ∀ p : Kp w4, p.W.cell? ⟨b8, off8 + k * 5 + 1, none⟩ = some (.int .i64 K) := fun p => (HV5.out.keep p.h).2.1
              have y2 : ∀ p : Kp w4, p.W.cell? ⟨b8, off8 + k * 5 + 2, none⟩ = some (.int .u64 T) := fun p => (HV5.out.keep p.h).2.2.1
              have y3 : ∀ p : Kp w4, p.W.cell? ⟨b8, off8 + k * 5 + 3, none⟩ = some (.int .u64 V) := fun p => (HV5.out.keep p.h).2.2.2.1
              have y4 : ∀ p : Kp w4, p.W.cell? ⟨b8, off8 + k * 5 + 4, none⟩ = some (.int .i64 X) := fun p => (HV5.out.keep p.h).2.2.2.2
              go_wp2_with fail
              refine wp_region_kept (by kernel_rfl) (by kernel_rfl) ?_
              repeat (first
                | go_big_quiet_step (fail)
                | fail)
              refine wpQuiet_nil ?_
              intro w5 hw'
              have hb5 : Hid (Below w4.heap.size w4 w5) := by
                obtain ⟨⟨w3', hb3⟩, hw''⟩ := hw'
                rw [hw'']; exact hide hb3
              clear hw'
              have K5 := hide (K4.out.keep hb5.out)
              clear hne x0 x1 x2 x3 x4 y0 y1 y2 y3 y4 HV4 HV5 K4 hb5
              go_wp2_with fail
              go_roundw
              case rel => exact ⟨j + 1, k + 1, by omega, by go_num, by go_num, K5⟩
              case measure => simp [intOf]; omega
          · by_cases his : i < n1
            · have hIs := HSK1.out _ hK.out.bel
              obtain ⟨b6, off6, ea, hcell⟩ := hIs.2.2.2 (by omega)
              subst ea
              obtain ⟨x, hx⟩ : ∃ x, sk[i]? = some x := ⟨_, List.getElem?_eq_getElem (by rw [hIs.1]; exact his)⟩
              have CS := hide (seek_any wr M ls k x hK.out.itr hK.out.lt (by omega))
              have HX6 := hide (fun W (hW : Below w1.heap.size w1 W) => by
                obtain ⟨b7, off7, e7, hc7⟩ := (HSK1.out W hW).2.2.2 (by omega)
                cases e7
                exact (show Vi W b6 (off6 + i * 5) x.S x.K x.T x.V x.X from hc7 i x hx))
              obtain ⟨v0, v1, v2, v3, v4⟩ := HX6.out _ hK.out.bel
              have hisi : (i : Int) < (n1 : Int) := by omega
              clear hIs hcell hx
              go_wp2_with fail
              refine CS.out.mono ?_
              rintro e w3 ⟨rfl, L3, k3, hm3, hk3, hri, hI3, hc3⟩
              obtain rfl := HU.out L3 hm3
              rw [HL8.out] at hk3 hri
              have K3 := hide (hK.out.ch hc3 HM.out hI3 hk3)
              have HRI := hide (hri HRise.out)
              clear CS hm3 hri hI3 hc3 hK v0 v1 v2 v3 v4
              go_wp2_with fail
              go_loopw [10] (fun s10 wq => ∃ t : Nat, t ≤ k3 ∧ s10 = .int .i64 t ∧ Hid (Itk w1 wq M ls k3 n8)) (fun s10 _ => n8 - (intOf s10).toNat)
              case atStart => exact ⟨0, by omega, rfl, K3⟩
              case round =>
                clear K3
                obtain ⟨t, ht, rfl, hK⟩ := hrel
                have hne : Nonempty (Kp wr) := ⟨⟨_, Below.refl _ _⟩⟩
                by_cases htn : t < n8
                · obtain ⟨y, hy⟩ : ∃ y, L3[t]? = some y := ⟨_, List.getElem?_eq_getElem (by have := HL8.out; omega)⟩
                  have hIw := HI1.out _ hK.out.bel
                  obtain ⟨b8, off8, ea, hcell⟩ := hIw.2.2.2 (by omega)
                  subst ea
                  have hvy := hide (show Vi wr b8 (off8 + t * 5) y.S y.K y.T y.V y.X from hcell t y hy)
                  have hvx := hide (HX6.out _ hK.out.bel)
                  have hfq := fq_at (x := x) hy
                  obtain ⟨o, ho⟩ : ∃ o, y.less x = o := ⟨_, rfl⟩
                  rw [ho] at hfq
                  have hcase : (o = true → t < k3) ∧ (o = false → t = k3) := by
                    refine ⟨fun e => ?_, fun e => ?_⟩
                    · rcases Nat.lt_or_ge t k3 with h | h
                      · exact h
                      · have := HRI.out.2 t h (by have := HL8.out; omega)
                        rw [hfq, e] at this; cases this
                    · rcases Nat.lt_or_ge t k3 with h | h
                      · have := HRI.out.1 t h
                        rw [hfq, e] at this; cases this
                      · omega
                  have HCA := hide hcase
                  have HOL := hide ho
                  have hd0 : decide (t < n8) = true := by simp; omega
                  have hd1 : (t : Int) < (n8 : Int) := by omega
                  obtain ⟨S, K, T, V, X⟩ := x
                  obtain ⟨S1, K1, T1, V1, X1⟩ := y
                  simp only at hvy hvx
                  have x0 : ∀ p : Kp wr, p.W.cell? ⟨b6, off6 + i * 5, none⟩ = some (.int .i64 S) := fun p => (hvx.out.keep p.h).1
                  have x1 : ∀ p : Kp wr, p.W.cell? ⟨b6, off6 + i * 5 + 1, none⟩ = some (.int .i64 K) := fun p => (hvx.out.keep p.h).2.1
                  have x2 : ∀ p : Kp wr, p.W.cell? ⟨b6, off6 + i * 5 + 2, none⟩ = some (.int .u64 T) := fun p => (hvx.out.keep p.h).2.2.1
                  have x3 : ∀ p : Kp wr, p.W.cell? ⟨b6, off6 + i * 5 + 3, none⟩ = some (.int .u64 V) := fun p => (hvx.out.keep p.h).2.2.2.1
                  have x4 : ∀ p : Kp wr, p.W.cell? ⟨b6, off6 + i * 5 + 4, none⟩ = some (.int .i64 X) := fun p => (hvx.out.keep p.h).2.2.2.2
                  have y0 : ∀ p : Kp wr, p.W.cell? ⟨b8, off8 + t * 5, none⟩ = some (.int .i64 S1) := fun p => (hvy.out.keep p.h).1
                  have y1 : ∀ p : Kp wr, p.W.cell? ⟨b8, off8 + t * 5 + 1, none⟩ = some (.int .i64 K1) := fun p => (hvy.out.keep p.h).2.1
                  have y2 : ∀ p : Kp wr, p.W.cell? ⟨b8, off8 + t * 5 + 2, none⟩ = some (.int .u64 T1) := fun p => (hvy.out.keep p.h).2.2.1
                  have y3 : ∀ p : Kp wr, p.W.cell? ⟨b8, off8 + t * 5 + 3, none⟩ = some (.int .u64 V1) := fun p => (hvy.out.keep p.h).2.2.2.1
                  have y4 : ∀ p : Kp wr, p.W.cell? ⟨b8, off8 + t * 5 + 4, none⟩ = some (.int .i64 X1) := fun p => (hvy.out.keep p.h).2.2.2.2
                  have c1 : Hid (∀ p : Kp wr, Calls Try.prog 22 #[.agg #[.int .i64 S1, .int .i64 K1, .int .u64 T1, .int .u64 V1, .int .i64 X1], .agg #[.int .i64 S, .int .i64 K, .int .u64 T, .int .u64 V, .int .i64 X]] p.W fun e w'' => e = .returned (.bool o) ∧ ∃ q : Kp wr, w'' = q.W) := hide fun p => kp_call (by rw [← HOL.out]; exact refless_any S1 K1 T1 V1 X1 S K T V X _)
                  clear hIw hcell hy hfq ho hcase hvx hvy
                  cases o with
                  | true =>
                    go_wp2_with fail
                    refine wp_region_kept (by kernel_rfl) (by kernel_rfl) ?_
                    repeat (first
                      | go_big_quiet_step (first | (go_at_call 22; exact c1.out _))
                      | fail)
                    refine wpQuiet_nil ?_
                    intro w5 hw'
                    have hb5 : Hid (Below wr.heap.size wr w5) := by
                      obtain ⟨⟨w3', hb3⟩, hw''⟩ := hw'
                      rw [hw'']; exact hide hb3
                    clear hw'
                    have K5 := hide (hK.out.keep hb5.out)
                    have htk := HCA.out.1 (by first | trivial | rfl)
                    clear hne x0 x1 x2 x3 x4 y0 y1 y2 y3 y4 c1 hb5
                    go_wp2_with fail
                    go_roundw
                    case rel => exact ⟨t + 1, by omega, by go_num, K5⟩
                    case measure => simp [intOf]; omega
                  | false =>
                    go_wp2_with fail
                    refine wp_region_kept (by kernel_rfl) (by kernel_rfl) ?_
                    repeat (first
                      | go_big_quiet_step (first | (go_at_call 22; exact c1.out _))
                      | fail)
                    refine wpQuiet_nil ?_
                    intro w5 hw'
                    have hb5 : Hid (Below wr.heap.size wr w5) := by
                      obtain ⟨⟨w3', hb3⟩, hw''⟩ := hw'
                      rw [hw'']; exact hide hb3
                    clear hw'
                    have K5 := hide (hK.out.keep hb5.out)
                    obtain rfl := HCA.out.2 (by first | trivial | rfl)
                    clear hne x0 x1 x2 x3 x4 y0 y1 y2 y3 y4 c1 hb5
                    go_wp2_with fail
                    go_roundw
                    case rel => exact ⟨i + 1, t, by omega, by omega, by go_num, rfl, K5⟩
                    case measure => simp [intOf]; omega
                · obtain rfl : t = k3 := by omega
                  have hd0 : decide (t < n8) = false := by simp; omega
                  have hd1 : ¬ ((t : Int) < (n8 : Int)) := by omega
                  go_wp2_with fail
                  refine wp_region_kept (by kernel_rfl) (by kernel_rfl) ?_
                  repeat (first
                    | go_big_quiet_step (fail)
                    | fail)
                  refine wpQuiet_nil ?_
                  intro w5 hw'
                  have hb5 : Hid (Below wr.heap.size wr w5) := by
                    obtain ⟨⟨w3', hb3⟩, hw''⟩ := hw'
                    rw [hw'']; exact hide hb3
                  clear hw'
                  have K5 := hide (hK.out.keep hb5.out)
                  clear hne hb5
                  go_wp2_with fail
                  go_roundw
                  case rel => exact ⟨i + 1, t, by omega, by omega, by go_num, rfl, K5⟩
                  case measure => simp [intOf]; omega
            · have hisn : ¬ ((i : Int) < (n1 : Int)) := by omega
              go_wp2_with fail
              go_roundw
              case rel => exact ⟨i + 1, k, by omega, by omega, by go_num, rfl, hK⟩
              case measure => simp [intOf]; omega
    · have HB := hide (bmore B1.out hK.out.bel)
      by_cases hg : i ≤ n1
      · have hg1 : (i : Int) ≤ (n1 : Int) := by omega
        have hg2 : ¬ ((i : Int) < 20) := by omega
        go_wp2
        go_ret
        exact ⟨rfl, HB.out⟩
      · have hg1 : ¬ ((i : Int) ≤ (n1 : Int)) := by omega
        go_wp2
        go_ret
        exact ⟨rfl, HB.out⟩

end Go.Proofs.Ytkkcchklefcljaa.Clep
