/- What look.down and level.Pick do when called (walks over the translated program). Conditions: at most 1,000 files, each of 0 to 1,000,000 items. -/
import Derived.Test.YtcbphalhjajapaaHTou
import Derived.Test.YtcbphalhjajapaaHConc
namespace Go.Proofs.Ytcbphalhjajapaa.Clep
open Go.RowKit
set_option linter.unusedVariables false
set_option linter.unusedSimpArgs false

theorem Zs.take {w : World} {b off n c : Nat} {l : List Int} (h : Zs w (some ⟨b, off, none⟩) n c l) (k : Nat) (hk : k ≤ n) : Zs w (some ⟨b, off, none⟩) k c (l.take k) := by
  refine ⟨by rw [List.length_take, h.1]; omega, ⟨Nat.le_trans hk h.2.1.1, fun e => by cases e⟩, fun x hx => h.2.2.1 x (List.mem_of_mem_take hx), fun h0 => ?_⟩
  obtain ⟨b', off', e, hc⟩ := h.2.2.2 (by omega)
  cases e
  refine ⟨b, off, rfl, fun i z hz => hc i z ?_⟩
  have hi : i < k := by have := (List.getElem?_eq_some_iff.1 hz).1; rw [List.length_take] at this; omega
  rwa [List.getElem?_take_of_lt hi] at hz
theorem zn_take (ps : List Nat) (k : Nat) : zn (ps.take k) = (zn ps).take k := by simp [zn, List.map_take]
set_option maxRecDepth 100000 in
theorem down_any (b : Nat) (F : Value) (l : List He) (ps : Nat → Value) (k : Nat) (w : World) (hk : k < 4) (h : Lk w b F l ps) (hne : 0 < k → pos l k ≠ []) :
    Calls Try.prog 21 #[.pointer (some ⟨b, 0, none⟩), .int .i64 (k : Int)] w fun e w' => ∃ da dn dc, e = .returned (.slice da dn dc) ∧ Zs w' da dn dc (zn (downP l k)) ∧ dn ≤ l.length ∧ Below w.heap.size w w' := by
  obtain ⟨ao, cap, hps, hcap, hzs⟩ := h.z k hk
  have H := hide (on_done b F l ps k w hk h)
  rw [hps] at H
  have HP := hide (show (pos l k).length ≤ l.length from posN_len l k l.length)
  by_cases hk0 : 0 < k
  · have hN0 : 0 < (pos l k).length := List.length_pos_iff.2 (hne hk0)
    obtain ⟨zb, zo, rfl, _⟩ := hzs.2.2.2 hN0
    have HD := hide (show downP l k = (pos l k).take 1 from if_pos hk0)
    have HZ := hide (show ∀ W, Below w.heap.size w W → Zs W (some ⟨zb, zo, none⟩) 1 cap (zn ((pos l k).take 1)) from fun W hW => by rw [zn_take]; exact (hzs.below hW (Nat.le_refl _)).take 1 (by omega))
    have hc1 : 1 ≤ cap := by have := hzs.2.1.1; omega
    have hq : (k : Int) > 0 := by omega
    generalize (pos l k).length = N at *
    clear h hzs hne hps
    go_enter Try.func21, Try.ntmps21
    go_wp2_with fail
    refine H.out.mono ?_
    rintro e w1 ⟨rfl, hb⟩
    have HB := hide hb
    have HN0 := hide hN0
    clear hb H
    go_wp2
    go_ret
    exact ⟨_, _, _, rfl, by rw [HD.out]; exact HZ.out _ HB.out, by have := HN0.out; have := HP.out; omega, HB.out⟩
  · obtain rfl : k = 0 := by omega
    have HD := hide (show downP l 0 = pos l 0 from rfl)
    have HZ := hide (fun W (hW : Below w.heap.size w W) => hzs.below hW (Nat.le_refl _))
    generalize (pos l 0).length = N at *
    clear h hzs hne hps hk0
    go_enter Try.func21, Try.ntmps21
    go_wp2_with fail
    refine H.out.mono ?_
    rintro e w1 ⟨rfl, hb⟩
    have HB := hide hb
    clear hb H
    go_wp2
    go_ret
    exact ⟨_, _, _, rfl, by rw [HD.out]; exact HZ.out _ HB.out, HP.out, HB.out⟩
theorem low_lt {l : List He} {k : Nat} (h : low l = some k) : k < 3 ∧ ovr l k = true := by
  unfold low at h
  split at h
  · cases h; exact ⟨by omega, by assumption⟩
  · split at h
    · cases h; exact ⟨by omega, by assumption⟩
    · split at h
      · cases h; exact ⟨by omega, by assumption⟩
      · cases h
theorem ovr_ne {l : List He} {k : Nat} (h : ovr l k = true) (h3 : k < 3) : pos l k ≠ [] := by
  intro e
  rcases (show k = 0 ∨ k = 1 ∨ k = 2 by omega) with rfl | rfl | rfl
  · unfold ovr at h; rw [if_pos rfl, e] at h; simp at h
  · have : decide (200 < sumM l 1) = true := h
    unfold sumM at this; rw [e] at this; simp [sumP] at this
  · have : decide (2000 < sumM l 2) = true := h
    unfold sumM at this; rw [e] at this; simp [sumP] at this
theorem downP_lt {l : List He} {k i : Nat} (h : i ∈ downP l k) : i < l.length := by
  unfold downP at h
  split at h
  · exact pos_lt (List.mem_of_mem_take h)
  · exact pos_lt h
theorem touP_mem {l : List He} {t ps : List Nat} {i : Nat} (h : i ∈ touP l t ps) : i ∈ ps := (List.mem_filter.1 h).1
theorem plZ_range {l : List He} {k : Nat} {z : Int} (h : z ∈ plZ l k) : ∃ p : Nat, z = (p : Int) ∧ p < l.length := by
  unfold plZ at h
  rw [List.mem_mergeSort, List.mem_append] at h
  rcases h with h | h
  · obtain ⟨p, hp, rfl⟩ := List.mem_map.1 h
    exact ⟨p, rfl, downP_lt hp⟩
  · obtain ⟨p, hp, rfl⟩ := List.mem_map.1 h
    exact ⟨p, rfl, pos_lt (touP_mem hp)⟩
theorem numZ_more (l : List He) (zs : List Int) (i : Nat) (hi : i < zs.length) : numZ l (zs.take (i + 1)) = numZ l (zs.take i) ++ [nm l zs[i].toNat] := by
  unfold numZ
  rw [List.take_add_one, List.getElem?_eq_getElem hi, List.map_append]
  rfl
/-- What Pick answers. -/
def PkR (l : List He) (w : World) (e : Ending) (w' : World) : Prop := ∃ v, e = .returned (.tuple #[v, .int .i64 (pickE l).2.1, .bool (pickE l).2.2]) ∧ OwnZ w' w.heap.size v (pickE l).1 ∧ Below w.heap.size w w'
set_option maxRecDepth 100000 in
set_option maxHeartbeats 2000000 in
theorem pick_any (a : Option Addr) (n c : Nat) (l : List He) (w : World) (h : Hs w a n c l) (hm : Mild l) : Calls Try.prog 11 #[.slice a n c] w (PkR l w) := by
  have A1 := (Below.refl w.heap.size w).alloc (Nat.le_refl _) (Obj.cells #[.slice a n c, .int .u32 0, .int .i32 0, .int .u32 0, .slice none 0 0, .slice none 0 0, .slice none 0 0, .slice none 0 0] 56)
  have HF := hs_far h
  have HLO := hide (lowest_any w.heap.size w.heap.size a n c l _ (Nat.le_refl _) A1.size h.1 hm (new_look w (.slice a n c)) (hide (fun W hW => HF.out W (A1.trans hW))))
  have HA := hide A1
  have HL := hide h.1
  have hnM : n ≤ 1000 := by have := hm.1; have := h.1; omega
  cases hlow : low l with
  | none =>
    have HV : lowV l = .tuple #[.int .i64 0, .bool false] := by unfold lowV; rw [hlow]
    have HPE : pickE l = ([], 0, false) := by unfold pickE; rw [hlow]
    have HR := hide (show ∀ W, Below w.heap.size w W → PkR l w (.returned (.tuple #[.slice none 0 0, .int .i64 0, .bool false])) W from fun W hW => ⟨_, by rw [HPE], by rw [HPE]; exact ownZ_nil _ _, hW⟩)
    rw [HV] at HLO
    generalize PkR l w = Q at *
    clear A1 HV HPE hlow hm h HF
    go_enter Try.func11, Try.ntmps11
    go_wp2_with fail
    refine HLO.out.mono ?_
    rintro e w1 ⟨rfl, ps, hlk, hg⟩
    have HB := hide (HA.out.grown hg HA.out.size (fun q hq => by cases hq; exact Nat.le_refl _))
    clear HLO HA hlk hg
    go_wp2
    go_ret3
    exact HR.out _ HB.out
  | some k =>
    obtain ⟨hk3, hov⟩ := low_lt hlow
    have HV : lowV l = .tuple #[.int .i64 (k : Int), .bool true] := by unfold lowV; rw [hlow]
    have HPE : pickE l = (numZ l (plZ l k), (k : Int) + 1, true) := by unfold pickE; rw [hlow]
    have HR := hide (show ∀ v W, OwnZ W w.heap.size v (numZ l (plZ l k)) → Below w.heap.size w W → PkR l w (.returned (.tuple #[v, .int .i64 ((k : Int) + 1), .bool true])) W from fun v W ho hW => ⟨v, by rw [HPE], by rw [HPE]; exact ho, hW⟩)
    have HNE := hide (ovr_ne hov hk3)
    have HPZ := hide (show plZ l k = (zn (downP l k) ++ zn (touP l (downP l k) (pos l (k + 1)))).mergeSort (fun x y => decide (x ≤ y)) from rfl)
    have HPR := hide (fun z (hz : z ∈ plZ l k) => plZ_range hz)
    have HNM := hide (show ∀ (p : Nat) (x : He), l[p]? = some x → nm l p = x.N from fun p x hx => nm_of hx)
    rw [HV] at HLO
    generalize PkR l w = Q at *
    clear A1 HV HPE hlow hm h hov
    go_enter Try.func11, Try.ntmps11
    go_wp2_with fail
    refine HLO.out.mono ?_
    rintro e w1 ⟨rfl, ps, hlk, hg⟩
    have HB := hide (HA.out.grown hg HA.out.size (fun q hq => by cases hq; exact Nat.le_refl _))
    have HK := hide hlk
    have HDW := hide (down_any _ _ l ps k w1 (by omega) hlk (fun _ => HNE.out))
    clear HLO HA hlk hg
    go_wp2_with fail
    refine HDW.out.mono ?_
    rintro e w2 ⟨da, dn, dc, rfl, hdz, hdn, hb2⟩
    have hHL := HL.out
    have HB2 := hide (HB.out.trans (hb2.mono HB.out.size))
    have HTO := hide (tou_any w.heap.size 0 a n c l ps (k + 1) da dn dc (downP l k) w2 (by omega) (HK.out.keep hb2) (HF.out _ HB2.out) hnM hdz (fun j hj => by have := downP_lt hj; omega) (by omega))
    rw [show ((k + 1 : Nat) : Int) = (k : Int) + 1 from by omega] at HTO
    have HDZ := hide hdz
    have HDN := hide (show dn ≤ 1000 from by omega)
    clear hb2 hdz hdn hHL HDW HB HK
    go_wp2_with fail
    refine HTO.out.mono ?_
    rintro e w3 ⟨v3, rfl, ho3, hb3⟩
    obtain ⟨ta, tc, rfl, _, htz, _⟩ := ownZ_zs ho3 (z_range (n := n) (fun i hi => by have := pos_lt (touP_mem hi); have := HL.out; omega) (by omega))
    have HTN := hide (show (zn (touP l (downP l k) (pos l (k + 1)))).length ≤ 1000 from by rw [zn_len]; have := touP_len l (downP l k) (pos l (k + 1)); have := posN_len l (k + 1) l.length; have := HL.out; unfold pos at *; omega)
    have HB3 := hide (HB2.out.trans (hb3.mono HB2.out.size))
    have hdz3 := HDZ.out.below hb3 (Nat.le_refl _)
    obtain ⟨tn, htn⟩ : ∃ tn, (zn (touP l (downP l k) (pos l (k + 1)))).length = tn := ⟨_, rfl⟩
    rw [htn] at HTN htz ⊢
    have A4 := (Below.refl _ w3).alloc (Nat.le_refl _) (Obj.cells #[.slice da dn dc, .slice ta tn tc] 28)
    have HCO := hide (concat_any w3.heap.size da ta dn dc tn tc _ _ _ (ek_new w3 #[.slice da dn dc, .slice ta tn tc] 28) (hdz3.below A4 (Nat.le_refl _)) (htz.below A4 (Nat.le_refl _)) HDN.out HTN.out)
    have HB4 := hide (HB3.out.trans (A4.mono HB3.out.size))
    have HLC := hide (show (zn (downP l k) ++ zn (touP l (downP l k) (pos l (k + 1)))).length ≤ 2000 from by rw [List.length_append, htn, HDZ.out.1]; have := HDN.out; have := HTN.out; omega)
    clear ho3 hb3 htz HTO HDZ HB2 hdz3 A4 htn
    go_wp2_with fail
    generalize w3.alloc (Obj.cells #[.slice da dn dc, .slice ta tn tc] 28) = wa at *
    refine HCO.out.mono ?_
    rintro e w5 ⟨v5, rfl, ho5, hb5⟩
    have HSO := hide (sort_any wa.heap.size v5 _ w5 ho5 hb5.size (by have := HLC.out; omega))
    rw [← HPZ.out] at HSO
    have HB5 := hide (HB4.out.trans (hb5.mono HB4.out.size))
    have HWA := hide HB4.out.size
    have HW5 := hide hb5.size
    clear ho5 hb5 HCO HB4 HB3
    go_wp2_with fail
    refine HSO.out.mono ?_
    rintro e w6 ⟨rfl, ho6, hb6⟩
    have HB6 := hide (HB5.out.trans (hb6.mono HWA.out))
    obtain ⟨pa, pc, rfl, _, hpz, _⟩ := ownZ_zs ho6 (fun z hz => by obtain ⟨p, rfl, hp⟩ := HPR.out z hz; have := HL.out; omega)
    obtain ⟨zs, hzs⟩ : ∃ zs, plZ l k = zs := ⟨_, rfl⟩
    rw [hzs] at hpz HPR HR ⊢
    have HZL := hide (show zs.length ≤ 2000 from by
      have h1 : (plZ l k).length = (zn (downP l k) ++ zn (touP l (downP l k) (pos l (k + 1)))).length := by rw [HPZ.out]; exact List.length_mergeSort ..
      rw [hzs] at h1
      have := HLC.out
      omega)
    obtain ⟨N, hN⟩ : ∃ N, zs.length = N := ⟨_, rfl⟩
    rw [hN] at hpz HZL ⊢
    have HZ := hide (fun W (hW : Below w6.heap.size w6 W) => hpz.below hW (Nat.le_refl _))
    have HN := hide hN
    have hNle := HZL.out
    clear ho6 hb6 HSO HB5 HWA HW5 hpz hzs hN HPZ HLC HZL
    go_wp2_with fail
    go_loopw [2, 10, 33] (fun v _ t wr => ∃ i : Nat, i ≤ N ∧ t = .int .i64 i ∧ Hid (OwnZ wr w6.heap.size v (numZ l (zs.take i)) ∧ Below w6.heap.size w6 wr)) (fun _ _ t _ => N - (intOf t).toNat)
    case atStart => exact ⟨0, by omega, rfl, hide ⟨ownZ_nil _ _, Below.refl _ _⟩⟩
    case round =>
      obtain ⟨i, hi, rfl, hst⟩ := hrel
      have HBW := hide (HB6.out.trans (hst.out.2.mono HB6.out.size))
      by_cases hlt : i < N
      · obtain ⟨z, zb, zo, hz, rfl, hzc, _, _⟩ := zs_at (HZ.out _ hst.out.2) i hlt
        have hil : i < zs.length := by rw [HN.out]; exact hlt
        have hzi : zs[i] = z := by rw [List.getElem?_eq_getElem hil] at hz; exact Option.some.inj hz
        obtain ⟨p, rfl, hp⟩ := HPR.out z (List.mem_of_getElem? hz)
        have hpn : p < n := by have := HL.out; omega
        obtain ⟨x, ab, off, hx, rfl, hok, x0, _, _, _, _⟩ := hs_at (HF.out _ HBW.out) p hpn
        have HX := hide (HNM.out p x hx)
        have HMO := hide (show numZ l (zs.take (i + 1)) = numZ l (zs.take i) ++ [x.N] from by rw [numZ_more l zs i hil, hzi, show ((p : Int)).toNat = p from by omega, HX.out])
        generalize x.N = xN at *
        have hqi : (i : Int) < (N : Int) := by omega
        have hqp : (p : Int) < (n : Int) := by omega
        have A7 := (Below.refl _ wr).alloc (Nat.le_refl _) (Obj.cells #[.int .i64 xN] 3)
        have HE := hide (ek_new wr #[.int .i64 xN] 3)
        have HO := hide (xrow_keep hst.out.1 A7)
        have HB7 := hide (hst.out.2.trans (A7.mono hst.out.2.size))
        have HS7 := hide (Nat.le_trans hst.out.2.size A7.size)
        have HLE := hide (show (numZ l (zs.take i)).length ≤ 100000 from by unfold numZ; rw [List.length_map, List.length_take]; omega)
        clear hst hz hzi hx hok A7 HX HBW
        go_wp2_with (at_builtin; refine wpList_append_zz rfl _ _ rfl w6.heap.size _ _ rfl HO.out wr.heap.size xN rfl HE.out HLE.out HS7.out ?_; intro v8 w8 ho8 hg8 hk8 _)
        go_roundw
        case rel => exact ⟨i + 1, by omega, by go_num, hide ⟨by rw [HMO.out]; exact ho8, HB7.out.grown hg8 HS7.out hk8⟩⟩
        case measure => simp [intOf]; omega
      · obtain rfl : i = N := by omega
        have hqi : ¬ ((i : Int) < (i : Int)) := by omega
        have hfull : zs.take i = zs := List.take_of_length_le (by rw [HN.out]; exact Nat.le_refl _)
        have HQ := hide (HR.out u2 wr (zrow_base (by have := hst.out.1; rw [hfull] at this; exact this) HB6.out.size) HBW.out)
        clear hst HR hfull HBW
        go_wp2
        go_ret3
        exact HQ.out

end Go.Proofs.Ytcbphalhjajapaa.Clep
