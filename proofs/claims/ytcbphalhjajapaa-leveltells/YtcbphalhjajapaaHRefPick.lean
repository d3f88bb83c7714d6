/- What the document's Pick does when called (a walk over the translated program). Conditions: at most 1,000 files, each of 0 to 1,000,000 items. Its region's rows are written by wip/tools/gen17refpick.py. -/
import Derived.Test.YtcbphalhjajapaaHRefPk
import Derived.Test.YtcbphalhjajapaaHRefTouch
namespace Go.Proofs.Ytcbphalhjajapaa.Clep
open Go.RowKit
set_option linter.unusedVariables false
set_option linter.unusedSimpArgs false

-- defs<
/-- What the slots of the row hold that marks a file of the level below. -/
def rpT (ab off n c B db dof m dc i j p : Nat) (x y : He) : Nat → Value
  | 0 => .slice (some ⟨B, 0, none⟩) n n
  | 1 => .int .i64 (i : Int)
  | 2 => .slice (some ⟨B, 0, none⟩) n n
  | 3 => .int .i64 (i : Int)
  | 4 => .pointer (some ⟨B, i, none⟩)
  | 5 => .bool true
  | 6 => .bool true
  | 7 => undef
  | 8 => undef
  | 9 => undef
  | 10 => undef
  | 11 => undef
  | 12 => undef
  | 13 => undef
  | 14 => undef
  | 15 => undef
  | 16 => undef
  | 17 => undef
  | 18 => undef
  | 19 => .bool true
  | 20 => .pointer (some ⟨B, i, none⟩)
  | _ => undef
/-- What the slots of the row hold that marks a file of the level below. -/
def rpF (ab off n c B db dof m dc i j p : Nat) (x y : He) : Nat → Value
  | 0 => .slice (some ⟨B, 0, none⟩) n n
  | 1 => .int .i64 (i : Int)
  | 2 => .slice (some ⟨B, 0, none⟩) n n
  | 3 => .int .i64 (i : Int)
  | 4 => .pointer (some ⟨B, i, none⟩)
  | 5 => .bool false
  | 6 => .bool false
  | 7 => .slice (some ⟨ab, off, none⟩) n c
  | 8 => .slice (some ⟨db, dof, none⟩) m dc
  | 9 => .int .i64 (j : Int)
  | 10 => .pointer (some ⟨db, dof + j, none⟩)
  | 11 => .int .i64 (p : Int)
  | 12 => .pointer (some ⟨ab, off + p * 5, none⟩)
  | 13 => .agg #[.int .i64 y.N, .int .i64 y.L, .slice y.fa y.fz.length y.fc, .slice y.ga y.gz.length y.gc, .int .i64 y.M]
  | 14 => .slice (some ⟨ab, off, none⟩) n c
  | 15 => .int .i64 (i : Int)
  | 16 => .pointer (some ⟨ab, off + i * 5, none⟩)
  | 17 => .agg #[.int .i64 x.N, .int .i64 x.L, .slice x.fa x.fz.length x.fc, .slice x.ga x.gz.length x.gc, .int .i64 x.M]
  | 18 => .bool (tch y x)
  | 19 => .bool (tch y x)
  | 20 => .pointer (some ⟨B, i, none⟩)
  | _ => undef
-- >defs
theorem Zs.gb {w w' : World} {row : Option Nat} {ao : Option Addr} {len cap : Nat} {zs : List Int} (h : Zs w ao len cap zs) (hg : w.grownBy w' row) (hne : ∀ p, ao = some p → some p.block ≠ row) : Zs w' ao len cap zs := by
  refine ⟨h.1, h.2.1, h.2.2.1, fun h0 => ?_⟩
  obtain ⟨b, off, e, hc⟩ := h.2.2.2 h0
  refine ⟨b, off, e, fun i z hi => ?_⟩
  have hlt := World.block_lt_of_cell? w _ (hc i z hi)
  rw [World.cell?_of_block (a := ⟨b, off + i, none⟩) (hg.block b hlt (hne _ e))]
  exact hc i z hi
def rpE (l : List He) : List Int × Int := match low l with
  | none => ([], -1)
  | some k => ((pkL l k).map (nm l), (k : Int) + 1)
def RpR (l : List He) (w : World) (e : Ending) (w' : World) : Prop := ∃ v, e = .returned (.tuple #[v, .int .i64 (rpE l).2]) ∧ OwnZ w' w.heap.size v (rpE l).1 ∧ Below w.heap.size w w'
def smB (l : List He) (k i : Nat) : Bool := !(posN l k i).isEmpty
theorem smB_zero (l : List He) (k : Nat) : smB l k 0 = false := rfl
theorem smB_more {l : List He} {k i : Nat} : smB l k (i + 1) = (smB l k i || decide (lv l i = (k : Int))) := by
  unfold smB
  rw [posN_succ]
  by_cases h : lv l i = (k : Int)
  · rw [if_pos h, decide_eq_true h]; simp
  · rw [if_neg h, decide_eq_false h]; simp
theorem smB_false {l : List He} {k i : Nat} (h : smB l k i = false) : posN l k i = [] := by
  unfold smB at h
  simpa using h
theorem smB_true {l : List He} {k i : Nat} (h : smB l k i = true) : posN l k i ≠ [] := by
  unfold smB at h
  simpa using h
/-- The marks, beside what was there. -/
structure Tk (w W : World) (B : Nat) (f : Nat → Bool) (n : Nat) : Prop where
  e : Ek W B (tb f n) 4
  b : Below w.heap.size w W
  B : w.heap.size ≤ B
theorem Tk.keep {w W W' : World} {B n : Nat} {f : Nat → Bool} (h : Tk w W B f n) (hb : Below W.heap.size W W') : Tk w W' B f n := ⟨h.e.below hb h.e.lt, h.b.trans (hb.mono h.b.size), h.B⟩
theorem Tk.set {w W : World} {B n i : Nat} {f : Nat → Bool} (h : Tk w W B f n) (hi : i < n) (b : Bool) : Tk w (W.setCell ⟨B, i, none⟩ (.bool b)) B (setB f i b) n :=
  ⟨by have := h.e.set i (.bool b); rwa [tb_set b hi] at this, (bset h.b h.B h.b.size).1, h.B⟩
set_option maxRecDepth 100000 in
set_option maxHeartbeats 8000000 in
theorem refpick_any (a : Option Addr) (n c : Nat) (l : List He) (w : World) (h : Hs w a n c l) (hm : Mild l) : Calls Try.prog 16 #[.slice a n c] w (RpR l w) := by
  have HH := hide (fun W (hW : Below w.heap.size w W) => h.below hW (Nat.le_refl _))
  have HLN := hide h.1
  have hn1000 : n ≤ 1000 := by have := hm.1; have := h.1; omega
  have HOV := hide (refovers_any a n c l w h hm)
  have HOL := hide (over_low l)
  clear h hm
  cases hlo : low l with
  | none =>
    have HE := hide (HOL.out.1 hlo)
    have HR := hide (show ∀ W, Below w.heap.size w W → RpR l w (.returned (.tuple #[.slice none 0 0, .int .i64 (-1)])) W from fun W hW => ⟨_, by unfold rpE; rw [hlo], by unfold rpE; rw [hlo]; exact ownZ_nil _ _, hW⟩)
    generalize RpR l w = Q at *
    clear hlo HOL
    go_enter Try.func16, Try.ntmps16
    go_wp2_with fail
    refine HOV.out.mono ?_
    rintro e w1 ⟨v, rfl, ho, hb⟩
    rw [HE.out] at ho
    obtain ⟨va, vc, rfl⟩ := ownZ_slice ho
    rw [List.length_nil]
    have HB := hide hb
    clear hb ho HOV
    go_wp2
    exact HR.out _ HB.out
  | some k =>
    obtain ⟨r, hr⟩ := HOL.out.2 k hlo
    have HE := hide hr
    have hk3 := (low_lt hlo).1
    have HR := hide (show ∀ v W, OwnZ W w.heap.size v ((pkL l k).map (nm l)) → Below w.heap.size w W → RpR l w (.returned (.tuple #[v, .int .i64 ((k : Int) + 1)])) W from fun v W ho hW => ⟨v, by unfold rpE; rw [hlo], by unfold rpE; rw [hlo]; exact ho, hW⟩)
    generalize RpR l w = Q at *
    clear hlo HOL hr
    go_enter Try.func16, Try.ntmps16
    go_wp2_with fail
    refine HOV.out.mono ?_
    rintro e w1 ⟨v, rfl, ho, hb⟩
    have hzr : ∀ z ∈ overE l, -9223372036854775808 ≤ z ∧ z ≤ 9223372036854775807 := by
      intro z hz
      unfold overE zn at hz
      obtain ⟨q, hq, rfl⟩ := List.mem_map.1 hz
      have := List.mem_range.1 (List.mem_filter.1 hq).1
      omega
    obtain ⟨va, vc, rfl, _, hzs, _⟩ := ownZ_zs ho hzr
    rw [HE.out] at hzs ⊢
    obtain ⟨z, zb, zo, hz, rfl, hzc, _, _⟩ := zs_at hzs 0 (by simp)
    simp at hz
    subst hz
    have hvl : ((k : Int) :: r).length = r.length + 1 := rfl
    rw [hvl]
    have HB1 := hide hb
    obtain ⟨R, hR⟩ : ∃ R, r.length = R := ⟨_, rfl⟩
    have hR4 : R ≤ 4 := by
      have h1 : (overE l).length ≤ 4 := by
        unfold overE
        rw [zn_len]
        exact List.length_filter_le (ovr l) (List.range 4)
      rw [HE.out, hvl] at h1
      omega
    rw [hR]
    rw [Nat.add_zero] at hzc
    clear hb ho HOV hzs hzr hvl hR
    have hmk := makeT w1 n (by omega)
    have hR0 : ¬ ((R : Int) + 1 = 0) := by omega
    have HT0 := hide (show Tk w (w1.alloc (.cells (tb (fun _ => false) n) 4)) w1.heap.size (t1 l k 0) n from ⟨by rw [t1_zero]; exact ek_new _ _ _, HB1.out.trans (((Below.refl _ w1).alloc (Nat.le_refl _) _).mono HB1.out.size), HB1.out.size⟩)
    obtain ⟨B, hB⟩ : ∃ B, w1.heap.size = B := ⟨_, rfl⟩
    rw [hB] at hmk HT0
    go_wp2_with fail
    generalize w1.alloc (.cells (tb (fun _ => false) n) 4) = w2 at *
    clear hmk hzc hR0 hR4 hB HB1
    go_loopw [7, 8] (fun s t wr => ∃ i : Nat, i ≤ n ∧ t = .int .i64 i ∧ s = .bool (smB l k i) ∧ Hid (Tk w wr B (t1 l k i) n)) (fun _ t _ => n - (intOf t).toNat)
    case atStart => exact ⟨0, by omega, rfl, rfl, HT0⟩
    case round =>
      obtain ⟨i, hi, rfl, rfl, hst⟩ := hrel
      by_cases hlt : i < n
      · obtain ⟨x, ab, off, hx, rfl, hok, x0, x1, x2, x3, x4⟩ := hs_at (HH.out _ hst.out.b) i hlt
        have hqi : (i : Int) < (n : Int) := by omega
        have hil : i < l.length := by rw [HLN.out]; exact hlt
        have HIL := hide hil
        have HSM := hide (smB_more (l := l) (k := k) (i := i))
        have HLV := hide (lv_of hx)
        clear hx hok
        obtain ⟨xL, hxL⟩ : ∃ z, x.L = z := ⟨_, rfl⟩
        rw [hxL] at x1 HLV
        clear hxL
        by_cases hl : xL = (k : Int)
        · cases hsm : smB l k i with
          | false =>
            have HT1 := hide (t1_some hil (i := i) (k := k) ⟨by rw [HLV.out]; exact hl, .inr (smB_false hsm)⟩)
            have HS2 := hide (show smB l k (i + 1) = true from by rw [HSM.out, HLV.out, decide_eq_true hl, Bool.or_true])
            have HTS := hide (hst.out.set hlt true)
            have c9 := hst.out.e.cell (tb_get (f := t1 l k i) hlt)
            have f9 := hst.out.e.free i
            clear hst hsm hil
            subst hl
            by_cases hk0 : k = 0
            · have qk : ((k : Int) == 0) = true := by simp; omega
              clear hk0
              go_wp2
              go_roundw
              case rel => exact ⟨i + 1, by omega, by go_num, by rw [HS2.out], hide (by rw [HT1.out]; exact HTS.out)⟩
              case measure => simp [intOf]; omega
            · have qk : ((k : Int) == 0) = false := by simp; omega
              clear hk0
              go_wp2
              go_roundw
              case rel => exact ⟨i + 1, by omega, by go_num, by rw [HS2.out], hide (by rw [HT1.out]; exact HTS.out)⟩
              case measure => simp [intOf]; omega
          | true =>
            have HS2 := hide (show smB l k (i + 1) = true from by rw [HSM.out, hsm, Bool.true_or])
            by_cases hk0 : k = 0
            · have HT1 := hide (t1_some hil (i := i) (k := k) ⟨by rw [HLV.out]; exact hl, .inl hk0⟩)
              have HTS := hide (hst.out.set hlt true)
              have c9 := hst.out.e.cell (tb_get (f := t1 l k i) hlt)
              have f9 := hst.out.e.free i
              have qk : ((k : Int) == 0) = true := by simp; omega
              clear hst hsm hil hk0
              subst hl
              go_wp2
              go_roundw
              case rel => exact ⟨i + 1, by omega, by go_num, by rw [HS2.out], hide (by rw [HT1.out]; exact HTS.out)⟩
              case measure => simp [intOf]; omega
            · have HT1 := hide (t1_none hil (i := i) (k := k) (fun h => by
                rcases h.2 with h2 | h2
                · exact hk0 h2
                · exact smB_true hsm h2))
              have qk : ((k : Int) == 0) = false := by simp; omega
              have HST := hide hst.out
              clear hst hsm hil hk0
              subst hl
              go_wp2
              go_roundw
              case rel => exact ⟨i + 1, by omega, by go_num, by rw [HS2.out], hide (by rw [HT1.out]; exact HST.out)⟩
              case measure => simp [intOf]; omega
        · have ql : (xL == (k : Int)) = false := by simpa using hl
          have HT1 := hide (t1_none hil (i := i) (k := k) (fun h => hl (by rw [← HLV.out]; exact h.1)))
          have HS2 := hide (show smB l k (i + 1) = smB l k i from by rw [HSM.out, HLV.out, decide_eq_false hl, Bool.or_false])
          have HST := hide hst.out
          clear hst hl hil
          go_wp2
          go_roundw
          case rel => exact ⟨i + 1, by omega, by go_num, by rw [HS2.out], hide (by rw [HT1.out]; exact HST.out)⟩
          case measure => simp [intOf]; omega
      · obtain rfl : n = i := by omega
        have hqi : ¬ ((n : Int) < (n : Int)) := by omega
        generalize smB l k n = sm
        go_wp2_with fail
        generalize hw3 : wr = w3 at *
        clear hw3
        go_loopw [9, 10] (fun v t wr => ∃ i : Nat, i ≤ n ∧ t = .int .i64 i ∧ Hid (OwnZ wr w3.heap.size v (zn ((List.range i).filter (t1 l k n))) ∧ Below w3.heap.size w3 wr)) (fun _ t _ => n - (intOf t).toNat)
        case atStart => exact ⟨0, by omega, rfl, hide ⟨ownZ_nil _ _, Below.refl _ _⟩⟩
        case round =>
          obtain ⟨i, hi2, rfl, hst2⟩ := hrel
          have HT2 := hide (hst.out.keep hst2.out.2)
          by_cases hlt : i < n
          · have hqi2 : (i : Int) < (n : Int) := by omega
            have c9 := HT2.out.e.cell (tb_get (f := t1 l k n) hlt)
            have HFS := hide (filt_succ (t1 l k n) i)
            cases hb : t1 l k n i with
            | false =>
              have HN := hide (show OwnZ wr w3.heap.size u9 (zn ((List.range (i + 1)).filter (t1 l k n))) ∧ Below w3.heap.size w3 wr from ⟨by rw [HFS.out, hb, if_neg (by simp), List.append_nil]; exact hst2.out.1, hst2.out.2⟩)
              rw [hb] at c9
              clear hst2 hb
              go_wp2
              go_roundw
              case rel => exact ⟨i + 1, by omega, by go_num, HN⟩
              case measure => simp [intOf]; omega
            | true =>
              have A3 := (Below.refl _ wr).alloc (Nat.le_refl _) (Obj.cells #[.int .i64 (i : Int)] 3)
              have HE1 := hide (ek_new wr #[.int .i64 (i : Int)] 3)
              have HO1 := hide (xrow_keep hst2.out.1 A3)
              have HB := hide (hst2.out.2.trans (A3.mono hst2.out.2.size))
              have HS := hide (Nat.le_trans hst2.out.2.size A3.size)
              have HLE := hide (show (zn ((List.range i).filter (t1 l k n))).length ≤ 100000 from by rw [zn_len]; have := List.length_filter_le (t1 l k n) (List.range i); rw [List.length_range] at this; omega)
              have HFT := hide (show zn ((List.range (i + 1)).filter (t1 l k n)) = zn ((List.range i).filter (t1 l k n)) ++ [(i : Int)] from by rw [HFS.out, hb, if_pos rfl, zn_app]; rfl)
              rw [hb] at c9
              clear hst2 hb A3
              go_wp2_with (at_builtin; refine wpList_append_zz rfl _ _ rfl w3.heap.size _ _ rfl HO1.out wr.heap.size (i : Int) rfl HE1.out HLE.out HS.out ?_; intro v3 w4 ho3 hg3 hk3 _)
              go_roundw
              case rel => exact ⟨i + 1, by omega, by go_num, hide ⟨by rw [HFT.out]; exact ho3, HB.out.grown hg3 HS.out (fun q hq => hk3 q hq)⟩⟩
              case measure => simp [intOf]; omega
          · obtain rfl : n = i := by omega
            have hqi2 : ¬ ((n : Int) < (n : Int)) := by omega
            have hfl : (List.range n).filter (t1 l k n) = downP l k := by have := t1_all l k; rwa [HLN.out] at this
            rw [hfl] at hst2
            have HDL := hide (show ∀ q ∈ downP l k, q < n from fun q hq => by have := downP_lt hq; have := HLN.out; omega)
            have HT9 := hide (show Tk w wr B (t3 l k 0 0) n from by rw [t3_zero, HLN.out]; exact HT2.out)
            obtain ⟨da, dc, rfl, _, hds, hdb⟩ := ownZ_zs hst2.out.1 (z_range HDL.out (by omega))
            obtain ⟨m, hm⟩ : ∃ m, (zn (downP l k)).length = m := ⟨_, rfl⟩
            rw [hm] at hds ⊢
            have hml : (downP l k).length = m := by rw [← hm, zn_len]
            have hmn : m ≤ n := by
              have h1 := List.length_filter_le (t1 l k n) (List.range n)
              rw [hfl, List.length_range, hml] at h1
              exact h1
            have HML := hide hml
            have HNE := hide (show ∀ q, da = some q → some q.block ≠ some B from fun q e e2 => by
              have h1 := hdb q e
              have h2 := hst.out.e.lt
              have := Option.some.inj e2
              omega)
            have HDS := hide hds
            clear hst hst2 HT2 hfl hds hdb hm hml hqi2
            go_wp2_with fail
            go_loopw [11] (fun s wr => ∃ i : Nat, i ≤ n ∧ s = .int .i64 i ∧ Hid (Tk w wr B (t3 l k i 0) n ∧ Zs wr da m dc (zn (downP l k)))) (fun s _ => n - (intOf s).toNat)
            case atStart => exact ⟨0, by omega, rfl, hide ⟨HT9.out, HDS.out⟩⟩
            case round =>
              obtain ⟨i, hi3, rfl, hst⟩ := hrel
              by_cases hlt : i < n
              · have hqi2 : (i : Int) < (n : Int) := by omega
                have HIL := hide (show i < l.length from by rw [HLN.out]; exact hlt)
                go_wp2_with fail
                go_loopw [12] (fun s wr => ∃ j : Nat, j ≤ m ∧ s = .int .i64 j ∧ Hid (Tk w wr B (t3 l k i j) n ∧ Zs wr da m dc (zn (downP l k)))) (fun s _ => m - (intOf s).toNat)
                case atStart => exact ⟨0, by omega, rfl, hst⟩
                case round =>
                  obtain ⟨j, hj, rfl, hst2⟩ := hrel
                  obtain ⟨x, ab, off, hx, rfl, hok, x0, x1, x2, x3, x4⟩ := hs_at (HH.out _ hst2.out.1.b) i hlt
                  by_cases hltj : j < m
                  · have hqj : (j : Int) < (m : Int) := by omega
                    by_cases hv : x.L = (k : Int) + 1
                    · obtain ⟨z, db, dof, hz, rfl, hdc, _, _⟩ := zs_at hst2.out.2 j hltj
                      obtain ⟨p, hp, hzp⟩ : ∃ p, (downP l k)[j]? = some p ∧ z = (p : Int) := by
                        unfold zn at hz
                        rw [List.getElem?_map] at hz
                        cases hq : (downP l k)[j]? with
                        | none => rw [hq] at hz; cases hz
                        | some p => rw [hq] at hz; exact ⟨p, rfl, (Option.some.inj hz).symm⟩
                      subst hzp
                      have hpn := HDL.out p (List.mem_of_getElem? hp)
                      have hqp : (p : Int) < (n : Int) := by omega
                      obtain ⟨y, ab2, off2, hy, e9, hyok, y0, y1, y2, y3, y4⟩ := hs_at (HH.out _ hst2.out.1.b) p hpn
                      injection e9 with e9
                      injection e9 with e9 e8
                      subst e9 e8
                      have HTM := hide (show t3 l k i (j + 1) = setB (t3 l k i j) i (t3 l k i j i || tch y x) from by rw [t3_more (by rw [lv_of hx]; exact hv) hp, tchAt_of hy hx])
                      have HTC := hide (show ∀ W, Below wr.heap.size wr W → Calls Try.prog 18 #[.agg #[.int .i64 y.N, .int .i64 y.L, .slice y.fa y.fz.length y.fc, .slice y.ga y.gz.length y.gc, .int .i64 y.M], .agg #[.int .i64 x.N, .int .i64 x.L, .slice x.fa x.fz.length x.fc, .slice x.ga x.gz.length x.gc, .int .i64 x.M]] W fun e w' => e = .returned (.bool (tch y x)) ∧ Below W.heap.size W w' from fun W hW => reftouch_any y x W (hyok.below hW (Nat.le_refl _)) (hok.below hW (Nat.le_refl _)))
                      have HTK := hide hst2.out.1.e
                      have HST := hide hst2.out
                      have hv2 := hv
                      clear hx hy hok hyok hz hp hst2 hst hv2
                      cases hb : t3 l k i j i with
                      | true =>
                        have HC9 := hide (show ∀ W, Below wr.heap.size wr W → W.cell? ⟨B, i, none⟩ = some (.bool true) from fun W hW => by
                          have := (HTK.out.below hW HTK.out.lt).cell (tb_get (f := t3 l k i j) hlt)
                          rwa [hb] at this)
                        have HTM2 := hide (show t3 l k i (j + 1) = setB (t3 l k i j) i true from by rw [HTM.out, hb]; rfl)
                        clear hb HTM
                        have x1' := x1
                        rw [hv] at x1'
                        go_wp2_with fail
                        -- rpT<
                        refine region_st (rpT ab off n c B db dof m dc i j p x y) ⟨B, i, none⟩ (.bool true) 21 (by kernel_rfl) (by kernel_rfl) (by kernel_rfl) ?step ?fin
                        case step =>
                          intro L a W i0 hap hI hi hLi hw
                          have hi2 : i0 < 22 := hi
                          rcases (show i0 = 0 ∨ i0 = 1 ∨ i0 = 2 ∨ i0 = 3 ∨ i0 = 4 ∨ i0 = 5 ∨ i0 = 6 ∨ i0 = 7 ∨ i0 = 8 ∨ i0 = 9 ∨ i0 = 10 ∨ i0 = 11 ∨ i0 = 12 ∨ i0 = 13 ∨ i0 = 14 ∨ i0 = 15 ∨ i0 = 16 ∨ i0 = 17 ∨ i0 = 18 ∨ i0 = 19 ∨ i0 = 20 ∨ i0 = 21 by omega) with rfl | rfl | rfl | rfl | rfl | rfl | rfl | rfl | rfl | rfl | rfl | rfl | rfl | rfl | rfl | rfl | rfl | rfl | rfl | rfl | rfl | rfl
                          · obtain ⟨hW, hn⟩ := stb_off hI.g hLi (by omega)
                            have e6 := hI.kept 6 _ (by decide +kernel) rfl
                            refine hI.pure hap (by decide +kernel) (i := 0) (d := 86) rfl rfl rfl (v := .slice (some ⟨B, 0, none⟩) n n) rfl (fun _ _ _ _ h => h) (stb_new hn (by omega) hW) ?_
                            intro K hKK
                            go_simp
                            exact hKK
                          · obtain ⟨hW, hn⟩ := stb_off hI.g hLi (by omega)
                            have e11 := hI.kept 11 _ (by decide +kernel) rfl
                            refine hI.pure hap (by decide +kernel) (i := 1) (d := 87) rfl rfl rfl (v := .int .i64 (i : Int)) rfl (fun _ _ _ _ h => h) (stb_new hn (by omega) hW) ?_
                            intro K hKK
                            go_simp
                            exact hKK
                          · obtain ⟨hW, hn⟩ := stb_off hI.g hLi (by omega)
                            have e6 := hI.kept 6 _ (by decide +kernel) rfl
                            refine hI.pure hap (by decide +kernel) (i := 2) (d := 88) rfl rfl rfl (v := .slice (some ⟨B, 0, none⟩) n n) rfl (fun _ _ _ _ h => h) (stb_new hn (by omega) hW) ?_
                            intro K hKK
                            go_simp
                            exact hKK
                          · obtain ⟨hW, hn⟩ := stb_off hI.g hLi (by omega)
                            have e11 := hI.kept 11 _ (by decide +kernel) rfl
                            refine hI.pure hap (by decide +kernel) (i := 3) (d := 89) rfl rfl rfl (v := .int .i64 (i : Int)) rfl (fun _ _ _ _ h => h) (stb_new hn (by omega) hW) ?_
                            intro K hKK
                            go_simp
                            exact hKK
                          · obtain ⟨hW, hn⟩ := stb_off hI.g hLi (by omega)
                            have e88 : a.tmps[88]? = some (.slice (some ⟨B, 0, none⟩) n n) := hI.tv 2 88 (by decide +kernel) (hw 2 (by kernel_rfl)) (by kernel_rfl)
                            have e89 : a.tmps[89]? = some (.int .i64 (i : Int)) := hI.tv 3 89 (by decide +kernel) (hw 3 (by kernel_rfl)) (by kernel_rfl)
                            refine hI.pure hap (by decide +kernel) (i := 4) (d := 90) rfl rfl rfl (v := .pointer (some ⟨B, i, none⟩)) rfl (fun _ _ _ _ h => h) (stb_new hn (by omega) hW) ?_
                            intro K hKK
                            go_simp
                            exact hKK
                          · obtain ⟨hW, hn⟩ := stb_off hI.g hLi (by omega)
                            have e90 : a.tmps[90]? = some (.pointer (some ⟨B, i, none⟩)) := hI.tv 4 90 (by decide +kernel) (hw 4 (by kernel_rfl)) (by kernel_rfl)
                            have k9 := HC9.out W hW
                            refine hI.pure hap (by decide +kernel) (i := 5) (d := 91) rfl rfl rfl (v := .bool true) rfl (fun _ _ _ _ h => h) (stb_new hn (by omega) hW) ?_
                            intro K hKK
                            go_simp
                            exact hKK
                          · obtain ⟨hW, hn⟩ := stb_off hI.g hLi (by omega)
                            have e91 : a.tmps[91]? = some (.bool true) := hI.tv 5 91 (by decide +kernel) (hw 5 (by kernel_rfl)) (by kernel_rfl)
                            refine hI.pure hap (by decide +kernel) (i := 6) (d := 92) rfl rfl rfl (v := .bool true) rfl (fun _ _ _ _ h => h) (stb_new hn (by omega) hW) ?_
                            intro K hKK
                            go_simp
                            exact hKK
                          · obtain ⟨hW, hn⟩ := stb_off hI.g hLi (by omega)
                            have eg : a.tmps[92]? = some (.bool true) := hI.tv 6 92 (by decide +kernel) (hw 6 (by kernel_rfl)) (by kernel_rfl)
                            exact hI.gskip hap (by decide +kernel) (i := 7) (d := 93) rfl rfl (j := 6) (dj := 92) rfl (by kernel_rfl) eg rfl rfl (fun _ _ _ _ h => h) (stb_new hn (by omega) hW)
                          · obtain ⟨hW, hn⟩ := stb_off hI.g hLi (by omega)
                            have eg : a.tmps[92]? = some (.bool true) := hI.tv 6 92 (by decide +kernel) (hw 6 (by kernel_rfl)) (by kernel_rfl)
                            exact hI.gskip hap (by decide +kernel) (i := 8) (d := 94) rfl rfl (j := 6) (dj := 92) rfl (by kernel_rfl) eg rfl rfl (fun _ _ _ _ h => h) (stb_new hn (by omega) hW)
                          · obtain ⟨hW, hn⟩ := stb_off hI.g hLi (by omega)
                            have eg : a.tmps[92]? = some (.bool true) := hI.tv 6 92 (by decide +kernel) (hw 6 (by kernel_rfl)) (by kernel_rfl)
                            exact hI.gskip hap (by decide +kernel) (i := 9) (d := 95) rfl rfl (j := 6) (dj := 92) rfl (by kernel_rfl) eg rfl rfl (fun _ _ _ _ h => h) (stb_new hn (by omega) hW)
                          · obtain ⟨hW, hn⟩ := stb_off hI.g hLi (by omega)
                            have eg : a.tmps[92]? = some (.bool true) := hI.tv 6 92 (by decide +kernel) (hw 6 (by kernel_rfl)) (by kernel_rfl)
                            exact hI.gskip hap (by decide +kernel) (i := 10) (d := 96) rfl rfl (j := 6) (dj := 92) rfl (by kernel_rfl) eg rfl rfl (fun _ _ _ _ h => h) (stb_new hn (by omega) hW)
                          · obtain ⟨hW, hn⟩ := stb_off hI.g hLi (by omega)
                            have eg : a.tmps[92]? = some (.bool true) := hI.tv 6 92 (by decide +kernel) (hw 6 (by kernel_rfl)) (by kernel_rfl)
                            exact hI.gskip hap (by decide +kernel) (i := 11) (d := 97) rfl rfl (j := 6) (dj := 92) rfl (by kernel_rfl) eg rfl rfl (fun _ _ _ _ h => h) (stb_new hn (by omega) hW)
                          · obtain ⟨hW, hn⟩ := stb_off hI.g hLi (by omega)
                            have eg : a.tmps[92]? = some (.bool true) := hI.tv 6 92 (by decide +kernel) (hw 6 (by kernel_rfl)) (by kernel_rfl)
                            exact hI.gskip hap (by decide +kernel) (i := 12) (d := 98) rfl rfl (j := 6) (dj := 92) rfl (by kernel_rfl) eg rfl rfl (fun _ _ _ _ h => h) (stb_new hn (by omega) hW)
                          · obtain ⟨hW, hn⟩ := stb_off hI.g hLi (by omega)
                            have eg : a.tmps[92]? = some (.bool true) := hI.tv 6 92 (by decide +kernel) (hw 6 (by kernel_rfl)) (by kernel_rfl)
                            exact hI.gskip hap (by decide +kernel) (i := 13) (d := 99) rfl rfl (j := 6) (dj := 92) rfl (by kernel_rfl) eg rfl rfl (fun _ _ _ _ h => h) (stb_new hn (by omega) hW)
                          · obtain ⟨hW, hn⟩ := stb_off hI.g hLi (by omega)
                            have eg : a.tmps[92]? = some (.bool true) := hI.tv 6 92 (by decide +kernel) (hw 6 (by kernel_rfl)) (by kernel_rfl)
                            exact hI.gskip hap (by decide +kernel) (i := 14) (d := 100) rfl rfl (j := 6) (dj := 92) rfl (by kernel_rfl) eg rfl rfl (fun _ _ _ _ h => h) (stb_new hn (by omega) hW)
                          · obtain ⟨hW, hn⟩ := stb_off hI.g hLi (by omega)
                            have eg : a.tmps[92]? = some (.bool true) := hI.tv 6 92 (by decide +kernel) (hw 6 (by kernel_rfl)) (by kernel_rfl)
                            exact hI.gskip hap (by decide +kernel) (i := 15) (d := 101) rfl rfl (j := 6) (dj := 92) rfl (by kernel_rfl) eg rfl rfl (fun _ _ _ _ h => h) (stb_new hn (by omega) hW)
                          · obtain ⟨hW, hn⟩ := stb_off hI.g hLi (by omega)
                            have eg : a.tmps[92]? = some (.bool true) := hI.tv 6 92 (by decide +kernel) (hw 6 (by kernel_rfl)) (by kernel_rfl)
                            exact hI.gskip hap (by decide +kernel) (i := 16) (d := 102) rfl rfl (j := 6) (dj := 92) rfl (by kernel_rfl) eg rfl rfl (fun _ _ _ _ h => h) (stb_new hn (by omega) hW)
                          · obtain ⟨hW, hn⟩ := stb_off hI.g hLi (by omega)
                            have eg : a.tmps[92]? = some (.bool true) := hI.tv 6 92 (by decide +kernel) (hw 6 (by kernel_rfl)) (by kernel_rfl)
                            exact hI.gskip hap (by decide +kernel) (i := 17) (d := 103) rfl rfl (j := 6) (dj := 92) rfl (by kernel_rfl) eg rfl rfl (fun _ _ _ _ h => h) (stb_new hn (by omega) hW)
                          · obtain ⟨hW, hn⟩ := stb_off hI.g hLi (by omega)
                            have eg : a.tmps[92]? = some (.bool true) := hI.tv 6 92 (by decide +kernel) (hw 6 (by kernel_rfl)) (by kernel_rfl)
                            exact hI.gskip hap (by decide +kernel) (i := 18) (d := 104) rfl rfl (j := 6) (dj := 92) rfl (by kernel_rfl) eg rfl rfl (fun _ _ _ _ h => h) (stb_new hn (by omega) hW)
                          · obtain ⟨hW, hn⟩ := stb_off hI.g hLi (by omega)
                            have e92 : a.tmps[92]? = some (.bool true) := hI.tv 6 92 (by decide +kernel) (hw 6 (by kernel_rfl)) (by kernel_rfl)
                            have e104 : a.tmps[104]? = some (undef) := hI.tv 18 104 (by decide +kernel) (hw 18 (by kernel_rfl)) (by kernel_rfl)
                            refine hI.pure hap (by decide +kernel) (i := 19) (d := 105) rfl rfl rfl (v := .bool true) rfl (fun _ _ _ _ h => h) (stb_new hn (by omega) hW) ?_
                            intro K hKK
                            go_simp
                            exact hKK
                          · obtain ⟨hW, hn⟩ := stb_off hI.g hLi (by omega)
                            have e86 : a.tmps[86]? = some (.slice (some ⟨B, 0, none⟩) n n) := hI.tv 0 86 (by decide +kernel) (hw 0 (by kernel_rfl)) (by kernel_rfl)
                            have e87 : a.tmps[87]? = some (.int .i64 (i : Int)) := hI.tv 1 87 (by decide +kernel) (hw 1 (by kernel_rfl)) (by kernel_rfl)
                            refine hI.pure hap (by decide +kernel) (i := 20) (d := 106) rfl rfl rfl (v := .pointer (some ⟨B, i, none⟩)) rfl (fun _ _ _ _ h => h) (stb_new hn (by omega) hW) ?_
                            intro K hKK
                            go_simp
                            exact hKK
                          · have hW := hI.g.1 hLi
                            have e106 : a.tmps[106]? = some (.pointer (some ⟨B, i, none⟩)) := hI.tv 20 106 (by decide +kernel) (hw 20 (by kernel_rfl)) (by kernel_rfl)
                            have e105 : a.tmps[105]? = some (.bool true) := hI.tv 19 105 (by decide +kernel) (hw 19 (by kernel_rfl)) (by kernel_rfl)
                            have k9 := HC9.out W hW
                            have f9 := (HTK.out.below hW HTK.out.lt).free i
                            refine hI.store (i := 21) (by decide +kernel) rfl rfl rfl ?_
                            intro K hKK
                            go_simp
                            exact hKK _ (fun _ _ _ _ _ _ _ h => h) ⟨fun e => (by rw [upd_same] at e; exact Bool.noConfusion e), fun _ => ⟨fun q hq => upd_more (hw q (waits_all (n := 21) (by kernel_rfl) q hq)), W, hW, rfl⟩⟩
                        case fin =>
                          intro L a W hI hall
                          have s0 : a.tmps[86]? = some (.slice (some ⟨B, 0, none⟩) n n) := hI.tv 0 86 (by decide +kernel) (hall 0 (by decide +kernel)) (by kernel_rfl)
                          have s1 : a.tmps[87]? = some (.int .i64 (i : Int)) := hI.tv 1 87 (by decide +kernel) (hall 1 (by decide +kernel)) (by kernel_rfl)
                          have s2 : a.tmps[88]? = some (.slice (some ⟨B, 0, none⟩) n n) := hI.tv 2 88 (by decide +kernel) (hall 2 (by decide +kernel)) (by kernel_rfl)
                          have s3 : a.tmps[89]? = some (.int .i64 (i : Int)) := hI.tv 3 89 (by decide +kernel) (hall 3 (by decide +kernel)) (by kernel_rfl)
                          have s4 : a.tmps[90]? = some (.pointer (some ⟨B, i, none⟩)) := hI.tv 4 90 (by decide +kernel) (hall 4 (by decide +kernel)) (by kernel_rfl)
                          have s5 : a.tmps[91]? = some (.bool true) := hI.tv 5 91 (by decide +kernel) (hall 5 (by decide +kernel)) (by kernel_rfl)
                          have s6 : a.tmps[92]? = some (.bool true) := hI.tv 6 92 (by decide +kernel) (hall 6 (by decide +kernel)) (by kernel_rfl)
                          have s7 : a.tmps[93]? = some (undef) := hI.tv 7 93 (by decide +kernel) (hall 7 (by decide +kernel)) (by kernel_rfl)
                          have s8 : a.tmps[94]? = some (undef) := hI.tv 8 94 (by decide +kernel) (hall 8 (by decide +kernel)) (by kernel_rfl)
                          have s9 : a.tmps[95]? = some (undef) := hI.tv 9 95 (by decide +kernel) (hall 9 (by decide +kernel)) (by kernel_rfl)
                          have s10 : a.tmps[96]? = some (undef) := hI.tv 10 96 (by decide +kernel) (hall 10 (by decide +kernel)) (by kernel_rfl)
                          have s11 : a.tmps[97]? = some (undef) := hI.tv 11 97 (by decide +kernel) (hall 11 (by decide +kernel)) (by kernel_rfl)
                          have s12 : a.tmps[98]? = some (undef) := hI.tv 12 98 (by decide +kernel) (hall 12 (by decide +kernel)) (by kernel_rfl)
                          have s13 : a.tmps[99]? = some (undef) := hI.tv 13 99 (by decide +kernel) (hall 13 (by decide +kernel)) (by kernel_rfl)
                          have s14 : a.tmps[100]? = some (undef) := hI.tv 14 100 (by decide +kernel) (hall 14 (by decide +kernel)) (by kernel_rfl)
                          have s15 : a.tmps[101]? = some (undef) := hI.tv 15 101 (by decide +kernel) (hall 15 (by decide +kernel)) (by kernel_rfl)
                          have s16 : a.tmps[102]? = some (undef) := hI.tv 16 102 (by decide +kernel) (hall 16 (by decide +kernel)) (by kernel_rfl)
                          have s17 : a.tmps[103]? = some (undef) := hI.tv 17 103 (by decide +kernel) (hall 17 (by decide +kernel)) (by kernel_rfl)
                          have s18 : a.tmps[104]? = some (undef) := hI.tv 18 104 (by decide +kernel) (hall 18 (by decide +kernel)) (by kernel_rfl)
                          have s19 : a.tmps[105]? = some (.bool true) := hI.tv 19 105 (by decide +kernel) (hall 19 (by decide +kernel)) (by kernel_rfl)
                          have s20 : a.tmps[106]? = some (.pointer (some ⟨B, i, none⟩)) := hI.tv 20 106 (by decide +kernel) (hall 20 (by decide +kernel)) (by kernel_rfl)
                          have hfr := si_frame hI [(86, .slice (some ⟨B, 0, none⟩) n n), (87, .int .i64 (i : Int)), (88, .slice (some ⟨B, 0, none⟩) n n), (89, .int .i64 (i : Int)), (90, .pointer (some ⟨B, i, none⟩)), (91, .bool true), (92, .bool true), (93, undef), (94, undef), (95, undef), (96, undef), (97, undef), (98, undef), (99, undef), (100, undef), (101, undef), (102, undef), (103, undef), (104, undef), (105, .bool true), (106, .pointer (some ⟨B, i, none⟩))] (by kernel_rfl) (List.forall_mem_cons.2 ⟨s0, List.forall_mem_cons.2 ⟨s1, List.forall_mem_cons.2 ⟨s2, List.forall_mem_cons.2 ⟨s3, List.forall_mem_cons.2 ⟨s4, List.forall_mem_cons.2 ⟨s5, List.forall_mem_cons.2 ⟨s6, List.forall_mem_cons.2 ⟨s7, List.forall_mem_cons.2 ⟨s8, List.forall_mem_cons.2 ⟨s9, List.forall_mem_cons.2 ⟨s10, List.forall_mem_cons.2 ⟨s11, List.forall_mem_cons.2 ⟨s12, List.forall_mem_cons.2 ⟨s13, List.forall_mem_cons.2 ⟨s14, List.forall_mem_cons.2 ⟨s15, List.forall_mem_cons.2 ⟨s16, List.forall_mem_cons.2 ⟨s17, List.forall_mem_cons.2 ⟨s18, List.forall_mem_cons.2 ⟨s19, List.forall_mem_cons.2 ⟨s20, List.forall_mem_nil _⟩⟩⟩⟩⟩⟩⟩⟩⟩⟩⟩⟩⟩⟩⟩⟩⟩⟩⟩⟩⟩)
                          have HBR := hide (hI.g.2 (hall 21 (by decide +kernel))).2
                          rw [hfr]
                          clear hfr hI hall s0 s1 s2 s3 s4 s5 s6 s7 s8 s9 s10 s11 s12 s13 s14 s15 s16 s17 s18 s19 s20
                          simp only [List.foldl, List.setIfInBounds_toArray, List.set_cons_zero, List.set_cons_succ]
                        -- >rpT
                          obtain ⟨W0, hb0, rfl⟩ := HBR.out
                          have HN := hide (show Tk w (W0.setCell ⟨B, i, none⟩ (.bool true)) B (t3 l k i (j + 1)) n ∧ Zs (W0.setCell ⟨B, i, none⟩ (.bool true)) (some ⟨db, dof, none⟩) m dc (zn (downP l k)) from ⟨by rw [HTM2.out]; exact (HST.out.1.keep hb0).set hlt true, (HST.out.2.below hb0 (Nat.le_refl _)).gb (fgb_set W0 ⟨B, i, none⟩ (.bool true)) HNE.out⟩)
                          clear HBR hb0
                          go_wp2
                          go_roundw
                          case rel => exact ⟨j + 1, by omega, by go_num, HN⟩
                          case measure => simp [intOf]; omega
                      | false =>
                        have HC9 := hide (show ∀ W, Below wr.heap.size wr W → W.cell? ⟨B, i, none⟩ = some (.bool false) from fun W hW => by
                          have := (HTK.out.below hW HTK.out.lt).cell (tb_get (f := t3 l k i j) hlt)
                          rwa [hb] at this)
                        have HTM2 := hide (show t3 l k i (j + 1) = setB (t3 l k i j) i (tch y x) from by rw [HTM.out, hb]; rfl)
                        clear hb HTM
                        go_wp2_with fail
                        clear hv
                        -- rpF<
                        refine region_st (rpF ab off n c B db dof m dc i j p x y) ⟨B, i, none⟩ (.bool (tch y x)) 21 (by kernel_rfl) (by kernel_rfl) (by kernel_rfl) ?step ?fin
                        case step =>
                          intro L a W i0 hap hI hi hLi hw
                          have hi2 : i0 < 22 := hi
                          rcases (show i0 = 0 ∨ i0 = 1 ∨ i0 = 2 ∨ i0 = 3 ∨ i0 = 4 ∨ i0 = 5 ∨ i0 = 6 ∨ i0 = 7 ∨ i0 = 8 ∨ i0 = 9 ∨ i0 = 10 ∨ i0 = 11 ∨ i0 = 12 ∨ i0 = 13 ∨ i0 = 14 ∨ i0 = 15 ∨ i0 = 16 ∨ i0 = 17 ∨ i0 = 18 ∨ i0 = 19 ∨ i0 = 20 ∨ i0 = 21 by omega) with rfl | rfl | rfl | rfl | rfl | rfl | rfl | rfl | rfl | rfl | rfl | rfl | rfl | rfl | rfl | rfl | rfl | rfl | rfl | rfl | rfl | rfl
                          · obtain ⟨hW, hn⟩ := stb_off hI.g hLi (by omega)
                            have e6 := hI.kept 6 _ (by decide +kernel) rfl
                            refine hI.pure hap (by decide +kernel) (i := 0) (d := 86) rfl rfl rfl (v := .slice (some ⟨B, 0, none⟩) n n) rfl (fun _ _ _ _ h => h) (stb_new hn (by omega) hW) ?_
                            intro K hKK
                            go_simp
                            exact hKK
                          · obtain ⟨hW, hn⟩ := stb_off hI.g hLi (by omega)
                            have e11 := hI.kept 11 _ (by decide +kernel) rfl
                            refine hI.pure hap (by decide +kernel) (i := 1) (d := 87) rfl rfl rfl (v := .int .i64 (i : Int)) rfl (fun _ _ _ _ h => h) (stb_new hn (by omega) hW) ?_
                            intro K hKK
                            go_simp
                            exact hKK
                          · obtain ⟨hW, hn⟩ := stb_off hI.g hLi (by omega)
                            have e6 := hI.kept 6 _ (by decide +kernel) rfl
                            refine hI.pure hap (by decide +kernel) (i := 2) (d := 88) rfl rfl rfl (v := .slice (some ⟨B, 0, none⟩) n n) rfl (fun _ _ _ _ h => h) (stb_new hn (by omega) hW) ?_
                            intro K hKK
                            go_simp
                            exact hKK
                          · obtain ⟨hW, hn⟩ := stb_off hI.g hLi (by omega)
                            have e11 := hI.kept 11 _ (by decide +kernel) rfl
                            refine hI.pure hap (by decide +kernel) (i := 3) (d := 89) rfl rfl rfl (v := .int .i64 (i : Int)) rfl (fun _ _ _ _ h => h) (stb_new hn (by omega) hW) ?_
                            intro K hKK
                            go_simp
                            exact hKK
                          · obtain ⟨hW, hn⟩ := stb_off hI.g hLi (by omega)
                            have e88 : a.tmps[88]? = some (.slice (some ⟨B, 0, none⟩) n n) := hI.tv 2 88 (by decide +kernel) (hw 2 (by kernel_rfl)) (by kernel_rfl)
                            have e89 : a.tmps[89]? = some (.int .i64 (i : Int)) := hI.tv 3 89 (by decide +kernel) (hw 3 (by kernel_rfl)) (by kernel_rfl)
                            refine hI.pure hap (by decide +kernel) (i := 4) (d := 90) rfl rfl rfl (v := .pointer (some ⟨B, i, none⟩)) rfl (fun _ _ _ _ h => h) (stb_new hn (by omega) hW) ?_
                            intro K hKK
                            go_simp
                            exact hKK
                          · obtain ⟨hW, hn⟩ := stb_off hI.g hLi (by omega)
                            have e90 : a.tmps[90]? = some (.pointer (some ⟨B, i, none⟩)) := hI.tv 4 90 (by decide +kernel) (hw 4 (by kernel_rfl)) (by kernel_rfl)
                            have k9 := HC9.out W hW
                            refine hI.pure hap (by decide +kernel) (i := 5) (d := 91) rfl rfl rfl (v := .bool false) rfl (fun _ _ _ _ h => h) (stb_new hn (by omega) hW) ?_
                            intro K hKK
                            go_simp
                            exact hKK
                          · obtain ⟨hW, hn⟩ := stb_off hI.g hLi (by omega)
                            have e91 : a.tmps[91]? = some (.bool false) := hI.tv 5 91 (by decide +kernel) (hw 5 (by kernel_rfl)) (by kernel_rfl)
                            refine hI.pure hap (by decide +kernel) (i := 6) (d := 92) rfl rfl rfl (v := .bool false) rfl (fun _ _ _ _ h => h) (stb_new hn (by omega) hW) ?_
                            intro K hKK
                            go_simp
                            exact hKK
                          · obtain ⟨hW, hn⟩ := stb_off hI.g hLi (by omega)
                            have e0 := hI.kept 0 _ (by decide +kernel) rfl
                            have eg : a.tmps[92]? = some (.bool false) := hI.tv 6 92 (by decide +kernel) (hw 6 (by kernel_rfl)) (by kernel_rfl)
                            refine hI.gpure hap (by decide +kernel) (i := 7) (d := 93) rfl rfl  (j := 6) (dj := 92) rfl (by kernel_rfl) eg (v := .slice (some ⟨ab, off, none⟩) n c) rfl (fun _ _ _ _ h => h) (stb_new hn (by omega) hW) ?_
                            intro K hKK
                            go_simp
                            exact hKK
                          · obtain ⟨hW, hn⟩ := stb_off hI.g hLi (by omega)
                            have e9 := hI.kept 9 _ (by decide +kernel) rfl
                            have eg : a.tmps[92]? = some (.bool false) := hI.tv 6 92 (by decide +kernel) (hw 6 (by kernel_rfl)) (by kernel_rfl)
                            refine hI.gpure hap (by decide +kernel) (i := 8) (d := 94) rfl rfl  (j := 6) (dj := 92) rfl (by kernel_rfl) eg (v := .slice (some ⟨db, dof, none⟩) m dc) rfl (fun _ _ _ _ h => h) (stb_new hn (by omega) hW) ?_
                            intro K hKK
                            go_simp
                            exact hKK
                          · obtain ⟨hW, hn⟩ := stb_off hI.g hLi (by omega)
                            have e12 := hI.kept 12 _ (by decide +kernel) rfl
                            have eg : a.tmps[92]? = some (.bool false) := hI.tv 6 92 (by decide +kernel) (hw 6 (by kernel_rfl)) (by kernel_rfl)
                            refine hI.gpure hap (by decide +kernel) (i := 9) (d := 95) rfl rfl  (j := 6) (dj := 92) rfl (by kernel_rfl) eg (v := .int .i64 (j : Int)) rfl (fun _ _ _ _ h => h) (stb_new hn (by omega) hW) ?_
                            intro K hKK
                            go_simp
                            exact hKK
                          · obtain ⟨hW, hn⟩ := stb_off hI.g hLi (by omega)
                            have e94 : a.tmps[94]? = some (.slice (some ⟨db, dof, none⟩) m dc) := hI.tv 8 94 (by decide +kernel) (hw 8 (by kernel_rfl)) (by kernel_rfl)
                            have e95 : a.tmps[95]? = some (.int .i64 (j : Int)) := hI.tv 9 95 (by decide +kernel) (hw 9 (by kernel_rfl)) (by kernel_rfl)
                            have eg : a.tmps[92]? = some (.bool false) := hI.tv 6 92 (by decide +kernel) (hw 6 (by kernel_rfl)) (by kernel_rfl)
                            refine hI.gpure hap (by decide +kernel) (i := 10) (d := 96) rfl rfl  (j := 6) (dj := 92) rfl (by kernel_rfl) eg (v := .pointer (some ⟨db, dof + j, none⟩)) rfl (fun _ _ _ _ h => h) (stb_new hn (by omega) hW) ?_
                            intro K hKK
                            go_simp
                            exact hKK
                          · obtain ⟨hW, hn⟩ := stb_off hI.g hLi (by omega)
                            have e96 : a.tmps[96]? = some (.pointer (some ⟨db, dof + j, none⟩)) := hI.tv 10 96 (by decide +kernel) (hw 10 (by kernel_rfl)) (by kernel_rfl)
                            have eg : a.tmps[92]? = some (.bool false) := hI.tv 6 92 (by decide +kernel) (hw 6 (by kernel_rfl)) (by kernel_rfl)
                            have khdc := (Below.cell hW (World.block_lt_of_cell? _ _ hdc)).trans hdc
                            refine hI.gpure hap (by decide +kernel) (i := 11) (d := 97) rfl rfl  (j := 6) (dj := 92) rfl (by kernel_rfl) eg (v := .int .i64 (p : Int)) rfl (fun _ _ _ _ h => h) (stb_new hn (by omega) hW) ?_
                            intro K hKK
                            go_simp
                            exact hKK
                          · obtain ⟨hW, hn⟩ := stb_off hI.g hLi (by omega)
                            have e93 : a.tmps[93]? = some (.slice (some ⟨ab, off, none⟩) n c) := hI.tv 7 93 (by decide +kernel) (hw 7 (by kernel_rfl)) (by kernel_rfl)
                            have e97 : a.tmps[97]? = some (.int .i64 (p : Int)) := hI.tv 11 97 (by decide +kernel) (hw 11 (by kernel_rfl)) (by kernel_rfl)
                            have eg : a.tmps[92]? = some (.bool false) := hI.tv 6 92 (by decide +kernel) (hw 6 (by kernel_rfl)) (by kernel_rfl)
                            refine hI.gpure hap (by decide +kernel) (i := 12) (d := 98) rfl rfl  (j := 6) (dj := 92) rfl (by kernel_rfl) eg (v := .pointer (some ⟨ab, off + p * 5, none⟩)) rfl (fun _ _ _ _ h => h) (stb_new hn (by omega) hW) ?_
                            intro K hKK
                            go_simp
                            exact hKK
                          · obtain ⟨hW, hn⟩ := stb_off hI.g hLi (by omega)
                            have e98 : a.tmps[98]? = some (.pointer (some ⟨ab, off + p * 5, none⟩)) := hI.tv 12 98 (by decide +kernel) (hw 12 (by kernel_rfl)) (by kernel_rfl)
                            have eg : a.tmps[92]? = some (.bool false) := hI.tv 6 92 (by decide +kernel) (hw 6 (by kernel_rfl)) (by kernel_rfl)
                            have ky0 := (Below.cell hW (World.block_lt_of_cell? _ _ y0)).trans y0
                            have ky1 := (Below.cell hW (World.block_lt_of_cell? _ _ y1)).trans y1
                            have ky2 := (Below.cell hW (World.block_lt_of_cell? _ _ y2)).trans y2
                            have ky3 := (Below.cell hW (World.block_lt_of_cell? _ _ y3)).trans y3
                            have ky4 := (Below.cell hW (World.block_lt_of_cell? _ _ y4)).trans y4
                            refine hI.gpure hap (by decide +kernel) (i := 13) (d := 99) rfl rfl  (j := 6) (dj := 92) rfl (by kernel_rfl) eg (v := .agg #[.int .i64 y.N, .int .i64 y.L, .slice y.fa y.fz.length y.fc, .slice y.ga y.gz.length y.gc, .int .i64 y.M]) rfl (fun _ _ _ _ h => h) (stb_new hn (by omega) hW) ?_
                            intro K hKK
                            go_simp
                            exact hKK
                          · obtain ⟨hW, hn⟩ := stb_off hI.g hLi (by omega)
                            have e0 := hI.kept 0 _ (by decide +kernel) rfl
                            have eg : a.tmps[92]? = some (.bool false) := hI.tv 6 92 (by decide +kernel) (hw 6 (by kernel_rfl)) (by kernel_rfl)
                            refine hI.gpure hap (by decide +kernel) (i := 14) (d := 100) rfl rfl  (j := 6) (dj := 92) rfl (by kernel_rfl) eg (v := .slice (some ⟨ab, off, none⟩) n c) rfl (fun _ _ _ _ h => h) (stb_new hn (by omega) hW) ?_
                            intro K hKK
                            go_simp
                            exact hKK
                          · obtain ⟨hW, hn⟩ := stb_off hI.g hLi (by omega)
                            have e11 := hI.kept 11 _ (by decide +kernel) rfl
                            have eg : a.tmps[92]? = some (.bool false) := hI.tv 6 92 (by decide +kernel) (hw 6 (by kernel_rfl)) (by kernel_rfl)
                            refine hI.gpure hap (by decide +kernel) (i := 15) (d := 101) rfl rfl  (j := 6) (dj := 92) rfl (by kernel_rfl) eg (v := .int .i64 (i : Int)) rfl (fun _ _ _ _ h => h) (stb_new hn (by omega) hW) ?_
                            intro K hKK
                            go_simp
                            exact hKK
                          · obtain ⟨hW, hn⟩ := stb_off hI.g hLi (by omega)
                            have e100 : a.tmps[100]? = some (.slice (some ⟨ab, off, none⟩) n c) := hI.tv 14 100 (by decide +kernel) (hw 14 (by kernel_rfl)) (by kernel_rfl)
                            have e101 : a.tmps[101]? = some (.int .i64 (i : Int)) := hI.tv 15 101 (by decide +kernel) (hw 15 (by kernel_rfl)) (by kernel_rfl)
                            have eg : a.tmps[92]? = some (.bool false) := hI.tv 6 92 (by decide +kernel) (hw 6 (by kernel_rfl)) (by kernel_rfl)
                            refine hI.gpure hap (by decide +kernel) (i := 16) (d := 102) rfl rfl  (j := 6) (dj := 92) rfl (by kernel_rfl) eg (v := .pointer (some ⟨ab, off + i * 5, none⟩)) rfl (fun _ _ _ _ h => h) (stb_new hn (by omega) hW) ?_
                            intro K hKK
                            go_simp
                            exact hKK
                          · obtain ⟨hW, hn⟩ := stb_off hI.g hLi (by omega)
                            have e102 : a.tmps[102]? = some (.pointer (some ⟨ab, off + i * 5, none⟩)) := hI.tv 16 102 (by decide +kernel) (hw 16 (by kernel_rfl)) (by kernel_rfl)
                            have eg : a.tmps[92]? = some (.bool false) := hI.tv 6 92 (by decide +kernel) (hw 6 (by kernel_rfl)) (by kernel_rfl)
                            have kx0 := (Below.cell hW (World.block_lt_of_cell? _ _ x0)).trans x0
                            have kx1 := (Below.cell hW (World.block_lt_of_cell? _ _ x1)).trans x1
                            have kx2 := (Below.cell hW (World.block_lt_of_cell? _ _ x2)).trans x2
                            have kx3 := (Below.cell hW (World.block_lt_of_cell? _ _ x3)).trans x3
                            have kx4 := (Below.cell hW (World.block_lt_of_cell? _ _ x4)).trans x4
                            refine hI.gpure hap (by decide +kernel) (i := 17) (d := 103) rfl rfl  (j := 6) (dj := 92) rfl (by kernel_rfl) eg (v := .agg #[.int .i64 x.N, .int .i64 x.L, .slice x.fa x.fz.length x.fc, .slice x.ga x.gz.length x.gc, .int .i64 x.M]) rfl (fun _ _ _ _ h => h) (stb_new hn (by omega) hW) ?_
                            intro K hKK
                            go_simp
                            exact hKK
                          · obtain ⟨hW, hn⟩ := stb_off hI.g hLi (by omega)
                            have e99 : a.tmps[99]? = some (.agg #[.int .i64 y.N, .int .i64 y.L, .slice y.fa y.fz.length y.fc, .slice y.ga y.gz.length y.gc, .int .i64 y.M]) := hI.tv 13 99 (by decide +kernel) (hw 13 (by kernel_rfl)) (by kernel_rfl)
                            have e103 : a.tmps[103]? = some (.agg #[.int .i64 x.N, .int .i64 x.L, .slice x.fa x.fz.length x.fc, .slice x.ga x.gz.length x.gc, .int .i64 x.M]) := hI.tv 17 103 (by decide +kernel) (hw 17 (by kernel_rfl)) (by kernel_rfl)
                            have eg : a.tmps[92]? = some (.bool false) := hI.tv 6 92 (by decide +kernel) (hw 6 (by kernel_rfl)) (by kernel_rfl)
                            refine hI.gmore hap (by decide +kernel) (i := 18) (d := 104) rfl rfl  (j := 6) (dj := 92) rfl (by kernel_rfl) eg ?_
                            intro K hKK
                            go_simp
                            refine (HTC.out W hW).mono ?_
                            rintro e W' ⟨rfl, hb'⟩
                            exact hKK _ W' rfl (fun _ _ _ _ h => h) (stb_new hn (by omega) (Below.trans hW (hb'.mono hW.size)))
                          · obtain ⟨hW, hn⟩ := stb_off hI.g hLi (by omega)
                            have e92 : a.tmps[92]? = some (.bool false) := hI.tv 6 92 (by decide +kernel) (hw 6 (by kernel_rfl)) (by kernel_rfl)
                            have e104 : a.tmps[104]? = some (.bool (tch y x)) := hI.tv 18 104 (by decide +kernel) (hw 18 (by kernel_rfl)) (by kernel_rfl)
                            refine hI.pure hap (by decide +kernel) (i := 19) (d := 105) rfl rfl rfl (v := .bool (tch y x)) rfl (fun _ _ _ _ h => h) (stb_new hn (by omega) hW) ?_
                            intro K hKK
                            go_simp
                            exact hKK
                          · obtain ⟨hW, hn⟩ := stb_off hI.g hLi (by omega)
                            have e86 : a.tmps[86]? = some (.slice (some ⟨B, 0, none⟩) n n) := hI.tv 0 86 (by decide +kernel) (hw 0 (by kernel_rfl)) (by kernel_rfl)
                            have e87 : a.tmps[87]? = some (.int .i64 (i : Int)) := hI.tv 1 87 (by decide +kernel) (hw 1 (by kernel_rfl)) (by kernel_rfl)
                            refine hI.pure hap (by decide +kernel) (i := 20) (d := 106) rfl rfl rfl (v := .pointer (some ⟨B, i, none⟩)) rfl (fun _ _ _ _ h => h) (stb_new hn (by omega) hW) ?_
                            intro K hKK
                            go_simp
                            exact hKK
                          · have hW := hI.g.1 hLi
                            have e106 : a.tmps[106]? = some (.pointer (some ⟨B, i, none⟩)) := hI.tv 20 106 (by decide +kernel) (hw 20 (by kernel_rfl)) (by kernel_rfl)
                            have e105 : a.tmps[105]? = some (.bool (tch y x)) := hI.tv 19 105 (by decide +kernel) (hw 19 (by kernel_rfl)) (by kernel_rfl)
                            have k9 := HC9.out W hW
                            have f9 := (HTK.out.below hW HTK.out.lt).free i
                            refine hI.store (i := 21) (by decide +kernel) rfl rfl rfl ?_
                            intro K hKK
                            go_simp
                            exact hKK _ (fun _ _ _ _ _ _ _ h => h) ⟨fun e => (by rw [upd_same] at e; exact Bool.noConfusion e), fun _ => ⟨fun q hq => upd_more (hw q (waits_all (n := 21) (by kernel_rfl) q hq)), W, hW, rfl⟩⟩
                        case fin =>
                          intro L a W hI hall
                          have s0 : a.tmps[86]? = some (.slice (some ⟨B, 0, none⟩) n n) := hI.tv 0 86 (by decide +kernel) (hall 0 (by decide +kernel)) (by kernel_rfl)
                          have s1 : a.tmps[87]? = some (.int .i64 (i : Int)) := hI.tv 1 87 (by decide +kernel) (hall 1 (by decide +kernel)) (by kernel_rfl)
                          have s2 : a.tmps[88]? = some (.slice (some ⟨B, 0, none⟩) n n) := hI.tv 2 88 (by decide +kernel) (hall 2 (by decide +kernel)) (by kernel_rfl)
                          have s3 : a.tmps[89]? = some (.int .i64 (i : Int)) := hI.tv 3 89 (by decide +kernel) (hall 3 (by decide +kernel)) (by kernel_rfl)
                          have s4 : a.tmps[90]? = some (.pointer (some ⟨B, i, none⟩)) := hI.tv 4 90 (by decide +kernel) (hall 4 (by decide +kernel)) (by kernel_rfl)
                          have s5 : a.tmps[91]? = some (.bool false) := hI.tv 5 91 (by decide +kernel) (hall 5 (by decide +kernel)) (by kernel_rfl)
                          have s6 : a.tmps[92]? = some (.bool false) := hI.tv 6 92 (by decide +kernel) (hall 6 (by decide +kernel)) (by kernel_rfl)
                          have s7 : a.tmps[93]? = some (.slice (some ⟨ab, off, none⟩) n c) := hI.tv 7 93 (by decide +kernel) (hall 7 (by decide +kernel)) (by kernel_rfl)
                          have s8 : a.tmps[94]? = some (.slice (some ⟨db, dof, none⟩) m dc) := hI.tv 8 94 (by decide +kernel) (hall 8 (by decide +kernel)) (by kernel_rfl)
                          have s9 : a.tmps[95]? = some (.int .i64 (j : Int)) := hI.tv 9 95 (by decide +kernel) (hall 9 (by decide +kernel)) (by kernel_rfl)
                          have s10 : a.tmps[96]? = some (.pointer (some ⟨db, dof + j, none⟩)) := hI.tv 10 96 (by decide +kernel) (hall 10 (by decide +kernel)) (by kernel_rfl)
                          have s11 : a.tmps[97]? = some (.int .i64 (p : Int)) := hI.tv 11 97 (by decide +kernel) (hall 11 (by decide +kernel)) (by kernel_rfl)
                          have s12 : a.tmps[98]? = some (.pointer (some ⟨ab, off + p * 5, none⟩)) := hI.tv 12 98 (by decide +kernel) (hall 12 (by decide +kernel)) (by kernel_rfl)
                          have s13 : a.tmps[99]? = some (.agg #[.int .i64 y.N, .int .i64 y.L, .slice y.fa y.fz.length y.fc, .slice y.ga y.gz.length y.gc, .int .i64 y.M]) := hI.tv 13 99 (by decide +kernel) (hall 13 (by decide +kernel)) (by kernel_rfl)
                          have s14 : a.tmps[100]? = some (.slice (some ⟨ab, off, none⟩) n c) := hI.tv 14 100 (by decide +kernel) (hall 14 (by decide +kernel)) (by kernel_rfl)
                          have s15 : a.tmps[101]? = some (.int .i64 (i : Int)) := hI.tv 15 101 (by decide +kernel) (hall 15 (by decide +kernel)) (by kernel_rfl)
                          have s16 : a.tmps[102]? = some (.pointer (some ⟨ab, off + i * 5, none⟩)) := hI.tv 16 102 (by decide +kernel) (hall 16 (by decide +kernel)) (by kernel_rfl)
                          have s17 : a.tmps[103]? = some (.agg #[.int .i64 x.N, .int .i64 x.L, .slice x.fa x.fz.length x.fc, .slice x.ga x.gz.length x.gc, .int .i64 x.M]) := hI.tv 17 103 (by decide +kernel) (hall 17 (by decide +kernel)) (by kernel_rfl)
                          have s18 : a.tmps[104]? = some (.bool (tch y x)) := hI.tv 18 104 (by decide +kernel) (hall 18 (by decide +kernel)) (by kernel_rfl)
                          have s19 : a.tmps[105]? = some (.bool (tch y x)) := hI.tv 19 105 (by decide +kernel) (hall 19 (by decide +kernel)) (by kernel_rfl)
                          have s20 : a.tmps[106]? = some (.pointer (some ⟨B, i, none⟩)) := hI.tv 20 106 (by decide +kernel) (hall 20 (by decide +kernel)) (by kernel_rfl)
                          have hfr := si_frame hI [(86, .slice (some ⟨B, 0, none⟩) n n), (87, .int .i64 (i : Int)), (88, .slice (some ⟨B, 0, none⟩) n n), (89, .int .i64 (i : Int)), (90, .pointer (some ⟨B, i, none⟩)), (91, .bool false), (92, .bool false), (93, .slice (some ⟨ab, off, none⟩) n c), (94, .slice (some ⟨db, dof, none⟩) m dc), (95, .int .i64 (j : Int)), (96, .pointer (some ⟨db, dof + j, none⟩)), (97, .int .i64 (p : Int)), (98, .pointer (some ⟨ab, off + p * 5, none⟩)), (99, .agg #[.int .i64 y.N, .int .i64 y.L, .slice y.fa y.fz.length y.fc, .slice y.ga y.gz.length y.gc, .int .i64 y.M]), (100, .slice (some ⟨ab, off, none⟩) n c), (101, .int .i64 (i : Int)), (102, .pointer (some ⟨ab, off + i * 5, none⟩)), (103, .agg #[.int .i64 x.N, .int .i64 x.L, .slice x.fa x.fz.length x.fc, .slice x.ga x.gz.length x.gc, .int .i64 x.M]), (104, .bool (tch y x)), (105, .bool (tch y x)), (106, .pointer (some ⟨B, i, none⟩))] (by kernel_rfl) (List.forall_mem_cons.2 ⟨s0, List.forall_mem_cons.2 ⟨s1, List.forall_mem_cons.2 ⟨s2, List.forall_mem_cons.2 ⟨s3, List.forall_mem_cons.2 ⟨s4, List.forall_mem_cons.2 ⟨s5, List.forall_mem_cons.2 ⟨s6, List.forall_mem_cons.2 ⟨s7, List.forall_mem_cons.2 ⟨s8, List.forall_mem_cons.2 ⟨s9, List.forall_mem_cons.2 ⟨s10, List.forall_mem_cons.2 ⟨s11, List.forall_mem_cons.2 ⟨s12, List.forall_mem_cons.2 ⟨s13, List.forall_mem_cons.2 ⟨s14, List.forall_mem_cons.2 ⟨s15, List.forall_mem_cons.2 ⟨s16, List.forall_mem_cons.2 ⟨s17, List.forall_mem_cons.2 ⟨s18, List.forall_mem_cons.2 ⟨s19, List.forall_mem_cons.2 ⟨s20, List.forall_mem_nil _⟩⟩⟩⟩⟩⟩⟩⟩⟩⟩⟩⟩⟩⟩⟩⟩⟩⟩⟩⟩⟩)
                          have HBR := hide (hI.g.2 (hall 21 (by decide +kernel))).2
                          rw [hfr]
                          clear hfr hI hall s0 s1 s2 s3 s4 s5 s6 s7 s8 s9 s10 s11 s12 s13 s14 s15 s16 s17 s18 s19 s20
                          simp only [List.foldl, List.setIfInBounds_toArray, List.set_cons_zero, List.set_cons_succ]
                        -- >rpF
                          obtain ⟨W0, hb0, rfl⟩ := HBR.out
                          have HN := hide (show Tk w (W0.setCell ⟨B, i, none⟩ (.bool (tch y x))) B (t3 l k i (j + 1)) n ∧ Zs (W0.setCell ⟨B, i, none⟩ (.bool (tch y x))) (some ⟨db, dof, none⟩) m dc (zn (downP l k)) from ⟨by rw [HTM2.out]; exact (HST.out.1.keep hb0).set hlt _, (HST.out.2.below hb0 (Nat.le_refl _)).gb (fgb_set W0 ⟨B, i, none⟩ _) HNE.out⟩)
                          clear HBR hb0
                          go_wp2
                          go_roundw
                          case rel => exact ⟨j + 1, by omega, by go_num, HN⟩
                          case measure => simp [intOf]; omega
                    · have ql : (x.L == (k : Int) + 1) = false := by simpa using hv
                      have HN := hide (show Tk w wr B (t3 l k (i + 1) 0) n ∧ Zs wr da m dc (zn (downP l k)) from ⟨by rw [t3_next HIL.out j (fun h => absurd (by rw [← lv_of hx]; exact h) hv)]; exact hst2.out.1, hst2.out.2⟩)
                      clear hx hok hst2 hst hv
                      generalize x.L = xL at *
                      go_wp2
                      go_roundw
                      case rel => exact ⟨i + 1, by omega, by go_num, HN⟩
                      case measure => simp [intOf]; omega
                  · obtain rfl : m = j := by omega
                    have hqj : ¬ ((m : Int) < (m : Int)) := by omega
                    have HN := hide (show Tk w wr B (t3 l k (i + 1) 0) n ∧ Zs wr da m dc (zn (downP l k)) from ⟨by rw [t3_next HIL.out m (fun h => by rw [HML.out]; exact Nat.le_refl _)]; exact hst2.out.1, hst2.out.2⟩)
                    clear hx hok hst2 hst x0 x1 x2 x3 x4
                    go_wp2
                    go_roundw
                    case rel => exact ⟨i + 1, by omega, by go_num, HN⟩
                    case measure => simp [intOf]; omega
              · obtain rfl : n = i := by omega
                have hqi2 : ¬ ((n : Int) < (n : Int)) := by omega
                have HT5 := hide hst.out.1
                have hfl : (List.range n).filter (t3 l k n 0) = pkL l k := by have := t3_all (l := l) (k := k); rwa [HLN.out] at this
                have HFL := hide hfl
                clear hst hfl HDS HT9
                go_wp2_with fail
                generalize hw5 : wr = w5 at *
                clear hw5
                go_loopw [13, 14] (fun v t wr => ∃ i : Nat, i ≤ n ∧ t = .int .i64 i ∧ Hid (OwnZ wr w5.heap.size v (((List.range i).filter (t3 l k n 0)).map (nm l)) ∧ Below w5.heap.size w5 wr)) (fun _ t _ => n - (intOf t).toNat)
                case atStart => exact ⟨0, by omega, rfl, hide ⟨ownZ_nil _ _, Below.refl _ _⟩⟩
                case round =>
                  obtain ⟨i, hi4, rfl, hst⟩ := hrel
                  have HT6 := hide (HT5.out.keep hst.out.2)
                  by_cases hlt : i < n
                  · have hqi3 : (i : Int) < (n : Int) := by omega
                    have c9 := HT6.out.e.cell (tb_get (f := t3 l k n 0) hlt)
                    have HFS := hide (filt_succ (t3 l k n 0) i)
                    cases hb : t3 l k n 0 i with
                    | false =>
                      have HN := hide (show OwnZ wr w5.heap.size u13 (((List.range (i + 1)).filter (t3 l k n 0)).map (nm l)) ∧ Below w5.heap.size w5 wr from ⟨by rw [HFS.out, hb, if_neg (by simp), List.append_nil]; exact hst.out.1, hst.out.2⟩)
                      rw [hb] at c9
                      clear hst hb
                      go_wp2
                      go_roundw
                      case rel => exact ⟨i + 1, by omega, by go_num, HN⟩
                      case measure => simp [intOf]; omega
                    | true =>
                      obtain ⟨x, ab, off, hx, rfl, hok, x0, x1, x2, x3, x4⟩ := hs_at (HH.out _ HT6.out.b) i hlt
                      have A3 := (Below.refl _ wr).alloc (Nat.le_refl _) (Obj.cells #[.int .i64 x.N] 3)
                      have HE1 := hide (ek_new wr #[.int .i64 x.N] 3)
                      have HO1 := hide (xrow_keep hst.out.1 A3)
                      have HB := hide (hst.out.2.trans (A3.mono hst.out.2.size))
                      have HS := hide (Nat.le_trans hst.out.2.size A3.size)
                      have HLE := hide (show (((List.range i).filter (t3 l k n 0)).map (nm l)).length ≤ 100000 from by rw [List.length_map]; have := List.length_filter_le (t3 l k n 0) (List.range i); rw [List.length_range] at this; omega)
                      have HFT := hide (show ((List.range (i + 1)).filter (t3 l k n 0)).map (nm l) = ((List.range i).filter (t3 l k n 0)).map (nm l) ++ [x.N] from by rw [HFS.out, hb, if_pos rfl, List.map_append, List.map_singleton, nm_of hx])
                      rw [hb] at c9
                      clear hst hb A3 hx hok
                      go_wp2_with (at_builtin; refine wpList_append_zz rfl _ _ rfl w5.heap.size _ _ rfl HO1.out wr.heap.size x.N rfl HE1.out HLE.out HS.out ?_; intro v3 w4 ho3 hg3 hk3 _)
                      go_roundw
                      case rel => exact ⟨i + 1, by omega, by go_num, hide ⟨by rw [HFT.out]; exact ho3, HB.out.grown hg3 HS.out (fun q hq => hk3 q hq)⟩⟩
                      case measure => simp [intOf]; omega
                  · obtain rfl : n = i := by omega
                    have hqi3 : ¬ ((n : Int) < (n : Int)) := by omega
                    have HQ := hide (HR.out u13 wr (zrow_base (by have := hst.out.1; rw [HFL.out] at this; exact this) HT5.out.b.size) (HT5.out.b.trans (hst.out.2.mono HT5.out.b.size)))
                    clear hst HT6 HR
                    go_wp2
                    all_goals first | exact HQ.out | (go_ret2; exact HQ.out)

end Go.Proofs.Ytcbphalhjajapaa.Clep
