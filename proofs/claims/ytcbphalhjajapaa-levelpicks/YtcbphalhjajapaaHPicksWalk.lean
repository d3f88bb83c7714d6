/- LevelPicks, walked. No conditions. -/
import Derived.Test.YtcbphalhjajapaaHPl
import Derived.Test.YtcbphalhjajapaaHFew
import Derived.Test.YtcbphalhjajapaaHEd
import Derived.Test.YtcbphalhjajapaaKept
namespace Go.Proofs.Ytcbphalhjajapaa.Clep
open Go.RowKit
set_option linter.unusedVariables false
set_option linter.unusedSimpArgs false

theorem nm_inj {l : List He} (h : (l.map He.N).Pairwise (· ≠ ·)) {i j : Nat} (hi : i < l.length) (hj : j < l.length) : (nm l i == nm l j) = decide (i = j) := by
  have e1 : nm l i = (l.map He.N)[i]'(by rw [List.length_map]; exact hi) := by rw [nm_of (List.getElem?_eq_getElem hi)]; simp
  have e2 : nm l j = (l.map He.N)[j]'(by rw [List.length_map]; exact hj) := by rw [nm_of (List.getElem?_eq_getElem hj)]; simp
  by_cases e : i = j
  · subst e; simp
  · rw [decide_eq_false e, e1, e2]
    rw [List.pairwise_iff_getElem] at h
    rcases Nat.lt_or_gt_of_ne e with h3 | h3
    · exact beq_false_of_ne (h i j (by rw [List.length_map]; exact hi) (by rw [List.length_map]; exact hj) h3)
    · exact beq_false_of_ne (fun e2 => h j i (by rw [List.length_map]; exact hj) (by rw [List.length_map]; exact hi) h3 e2.symm)
def gh (l : List He) (i : Nat) : He := l.getD i (e4 0)
theorem gh_of {l : List He} {i : Nat} {x : He} (h : l[i]? = some x) : gh l i = x := by simp [gh, List.getD, h]
/-- Of the first kk that are taken those of the level itself. -/
def dwn (l : List He) (k : Nat) (ps : List Nat) : List Nat := ps.filter (fun i => lv l i == (k : Int))
theorem dwn_more {l : List He} {k : Nat} {P : List Nat} {kk p : Nat} (hp : P[kk]? = some p) : dwn l k (P.take (kk + 1)) = dwn l k (P.take kk) ++ (if lv l p = (k : Int) then [p] else []) := by
  unfold dwn
  rw [List.take_add_one, hp, Option.toList, List.filter_append]
  congr 1
  by_cases e : lv l p = (k : Int)
  · rw [if_pos e, List.filter_cons_of_pos (by simpa using e)]; rfl
  · rw [if_neg e, List.filter_cons_of_neg (by simpa using e)]; rfl
/-- What the statement holds of its row of files while it looks at the pick. -/
structure Pf (w W : World) (v : Value) (l : List He) (ps : List Nat) : Prop where
  o : OwnH W w.heap.size v (ps.map (gh l))
  b : Below w.heap.size w W
theorem cont_mr {ns : List Int} {j : Nat} {z N : Int} (hz : ns[j]? = some z) : (ns.take (j + 1)).contains N = ((ns.take j).contains N || (z == N)) := by
  rw [List.take_add_one, hz, Option.toList, List.contains_append]
  congr 1
  by_cases e : z = N
  · subst e; simp
  · have e2 : (z == N) = false := by simpa using e
    rw [e2]
    simpa using fun h => e h.symm
theorem any_mr {D : List Nat} {j q : Nat} {f : Nat → Bool} (hq : D[j]? = some q) : (D.take (j + 1)).any f = ((D.take j).any f || f q) := by
  rw [List.take_add_one, hq, Option.toList, List.any_append]
  simp
theorem Pf.keep {w W W' : World} {v : Value} {l : List He} {ps : List Nat} (h : Pf w W v l ps) (hb : Below W.heap.size W W') : Pf w W' v l ps := ⟨xrow_keep h.o hb, h.b.trans (hb.mono h.b.size)⟩
set_option maxRecDepth 100000 in
set_option maxHeartbeats 16000000 in
theorem walk_picks (a : Option Addr) (n c : Nat) (l : List He) (w : World) (h : Hs w a n c l) (hn : n ≤ 9223372036854775807) :
    Calls Try.prog 3 #[.slice a n c] w fun e w' => e = .returned (.bool true) ∧ Below w.heap.size w w' := by
  have HAK := hide (fun W => awake_any W)
  have HF1 := hide (few_any a n c l w h hn)
  have HH := hide (fun W (hW : Below w.heap.size w W) => h.below hW (Nat.le_refl _))
  have HLN := hide h.1
  clear h
  go_enter Try.func3, Try.ntmps3
  go_wp2_with fail
  refine HF1.out.mono ?_
  rintro e w1 ⟨b1, rfl, hb1, hB1⟩
  have HB1 := hide hB1
  clear hB1
  cases b1 with
  | false =>
    go_wp2_with fail
    refine (HAK.out _).mono ?_
    rintro e w2 ⟨rfl, hb2⟩
    have HB2 := hide (HB1.out.trans (hb2.mono HB1.out.size))
    clear hb2 hb1
    go_wp2
    go_ret
    exact ⟨rfl, HB2.out⟩
  | true =>
    have hn50 := hb1 rfl
    clear hb1 HF1
    go_wp2_with fail
    go_loopw [3] (fun s wr => ∃ i : Nat, i ≤ n ∧ s = .int .i64 i ∧ Hid ((∀ x ∈ l.take i, 0 ≤ x.M ∧ x.M ≤ 1000000) ∧ ((l.take i).map He.N).Pairwise (· ≠ ·) ∧ Below w.heap.size w wr)) (fun s _ => n - (intOf s).toNat)
    case atStart => exact ⟨0, by omega, rfl, hide ⟨by simp, by simp, HB1.out⟩⟩
    case round =>
      obtain ⟨i, hi, rfl, hst⟩ := hrel
      by_cases hlt : i < n
      · obtain ⟨x, ab, off, hx, rfl, hok, x0, x1, x2, x3, x4⟩ := hs_at (HH.out _ hst.out.2.2) i hlt
        have hqi : (i : Int) < (n : Int) := by omega
        have HX := hide hx
        have HBW := hide hst.out.2.2
        obtain ⟨xM, hxM⟩ : ∃ z, x.M = z := ⟨_, rfl⟩
        have HXM := hide hxM
        rw [hxM] at x4
        clear hx hok hxM
        rcases (show xM < 0 ∨ (¬ xM < 0 ∧ xM > 1000000) ∨ (¬ xM < 0 ∧ ¬ xM > 1000000) by omega) with q1 | ⟨q1, q2⟩ | ⟨q1, q2⟩
        · clear hst
          go_wp2_with fail
          refine (HAK.out _).mono ?_
          rintro e w2 ⟨rfl, hb2⟩
          have HB2 := hide (HBW.out.trans (hb2.mono HBW.out.size))
          clear hb2
          go_wp2
          go_ret
          exact ⟨rfl, HB2.out⟩
        · clear hst
          go_wp2_with fail
          refine (HAK.out _).mono ?_
          rintro e w2 ⟨rfl, hb2⟩
          have HB2 := hide (HBW.out.trans (hb2.mono HBW.out.size))
          clear hb2
          go_wp2
          go_ret
          exact ⟨rfl, HB2.out⟩
        · have HQ := hide (And.intro q1 q2)
          have HXC := hide x0
          clear x0 x1 x2 x3
          go_wp2_with fail
          generalize hwq : wr = wq at *
          clear hwq
          go_loopw [4] (fun s wr => ∃ j : Nat, j ≤ i ∧ s = .int .i64 j ∧ Hid ((∀ y ∈ l.take j, y.N ≠ x.N) ∧ Below wq.heap.size wq wr)) (fun s _ => i - (intOf s).toNat)
          case atStart => exact ⟨0, by omega, rfl, hide ⟨by simp, Below.refl _ _⟩⟩
          case round =>
            obtain ⟨j, hj, rfl, hst2⟩ := hrel
            have HBJ := hide hst2.out.2
            have HBJ2 := hide (HBW.out.trans (HBJ.out.mono HBW.out.size))
            by_cases hltj : j < i
            · obtain ⟨y, yb, yo, hy, e9, hyok, y0, _, _, _, _⟩ := hs_at (HH.out _ HBJ2.out) j (by omega)
              injection e9 with e9
              injection e9 with e9 e8
              subst e9 e8
              have x0 := (HBJ.out.cell (p := ⟨ab, off + i * 5, none⟩) (World.block_lt_of_cell? wq _ HXC.out)).trans HXC.out
              have hqj : (j : Int) < (i : Int) := by omega
              have hqjn : (j : Int) < (n : Int) := by omega
              by_cases hyx : y.N = x.N
              · have qn : (y.N == x.N) = true := by simpa using hyx
                clear hst2 hy hyok hyx hst
                generalize y.N = yN at *
                generalize x.N = xN at *
                go_wp2_with fail
                go_region
                go_wp2_with fail
                refine (HAK.out _).mono ?_
                rintro e w2 ⟨rfl, hb2⟩
                have HB2 := hide (HBJ2.out.drew.trans (hb2.mono HBJ2.out.drew.size))
                clear hb2
                go_wp2
                go_ret
                exact ⟨rfl, HB2.out⟩
              · have qn : (y.N == x.N) = false := by simpa using hyx
                have HNX := hide (show (∀ z ∈ l.take (j + 1), z.N ≠ x.N) ∧ Below wq.heap.size wq wr.drew from ⟨by
                  rw [List.take_add_one, hy]
                  intro z hz
                  rcases List.mem_append.1 hz with hz | hz
                  · exact hst2.out.1 z hz
                  · rw [List.mem_singleton.1 hz]; exact hyx, HBJ.out.drew⟩)
                clear hst2 hy hyok hyx
                generalize y.N = yN at *
                go_wp2_with fail
                go_region
                go_wp2
                go_roundw
                case rel => exact ⟨j + 1, by omega, by go_num, HNX⟩
                case measure => simp [intOf]; omega
            · obtain rfl : j = i := by omega
              have hqj : ¬ ((j : Int) < (j : Int)) := by omega
              have HNX := hide (show (∀ x ∈ l.take (j + 1), 0 ≤ x.M ∧ x.M ≤ 1000000) ∧ ((l.take (j + 1)).map He.N).Pairwise (· ≠ ·) ∧ Below w.heap.size w wr from by
                obtain ⟨k1, k2, k3⟩ := hst.out
                rw [List.take_add_one, HX.out]
                refine ⟨fun z hz => ?_, ?_, HBJ2.out⟩
                · rcases List.mem_append.1 hz with hz | hz
                  · exact k1 z hz
                  · rw [List.mem_singleton.1 hz, HXM.out]; have := HQ.out; omega
                · rw [List.map_append, List.pairwise_append]
                  refine ⟨k2, by simp, fun p hp q hq => ?_⟩
                  obtain ⟨z, hz, rfl⟩ := List.mem_map.1 hp
                  have : q = x.N := by simpa using hq
                  rw [this]
                  exact hst2.out.1 z hz)
              clear hst hst2
              go_wp2
              go_roundw
              case rel => exact ⟨j + 1, by omega, by go_num, HNX⟩
              case measure => simp [intOf]; omega
      · obtain rfl : n = i := by omega
        have hqi : ¬ ((n : Int) < (n : Int)) := by omega
        have hfull : l.take n = l := List.take_of_length_le (by rw [HLN.out]; exact Nat.le_refl _)
        obtain ⟨k1, k2, k3⟩ := hst.out
        rw [hfull] at k1 k2
        have HMI := hide (show Mild l from ⟨by have := HLN.out; omega, k1⟩)
        have HNP := hide k2
        have HBW := hide k3
        clear hst k1 k2 k3 hfull HB1
        have HPK := hide (pick_any a n c l wr (HH.out _ HBW.out) HMI.out)
        cases hlo : low l with
        | none =>
          have hpe : pickE l = ([], 0, false) := by unfold pickE; rw [hlo]
          have HDN := hide (fun W (hW : Below wr.heap.size wr W) => done_any a n c l W ((HH.out _ HBW.out).below hW (Nat.le_refl _)) HMI.out)
          rw [hlo] at HDN
          go_wp2_with fail
          refine HPK.out.mono ?_
          rintro e w2 ⟨v, rfl, ho, hb2⟩
          rw [hpe] at ho ⊢
          obtain ⟨va, vc, rfl⟩ := ownZ_slice ho
          have HB2 := hide hb2
          have HDD := hide (HDN.out w2 hb2)
          clear ho hb2 HPK hpe
          go_wp2_with fail
          refine HDD.out.mono ?_
          rintro e w3 ⟨rfl, hb3⟩
          have HB3 := hide (HB2.out.trans (hb3.mono HB2.out.size))
          clear hb3 HDD
          go_wp2_with fail
          refine (HAK.out w3).mono ?_
          rintro e w4 ⟨rfl, hb4⟩
          have HB4 := hide (HBW.out.trans ((HB3.out.trans (hb4.mono HB3.out.size)).mono HBW.out.size))
          clear hb4
          go_wp2
          go_ret
          exact ⟨rfl, HB4.out⟩
        | some k =>
          have hk3 := (low_lt hlo).1
          have hpe : pickE l = ((pkL l k).map (nm l), (k : Int) + 1, true) := by unfold pickE; rw [hlo]; show (numZ l (plZ l k), (k : Int) + 1, true) = _; rw [numZ_pk]
          have HDL := hide (downP_len hlo)
          clear hlo
          go_wp2_with fail
          refine HPK.out.mono ?_
          rintro e w2 ⟨v, rfl, ho, hb2⟩
          rw [hpe] at ho ⊢
          obtain ⟨va, vc, rfl, _, hzs, _⟩ := ownZ_zs ho (by
            intro z hz
            obtain ⟨p, hp, rfl⟩ := List.mem_map.1 hz
            have hpl := pkL_lt hp
            rw [nm_of (List.getElem?_eq_getElem hpl)]
            exact ((HH.out w (Below.refl _ _)).2.2.1 _ (List.getElem_mem hpl)).2.2.1)
          have HBW2 := hide (HBW.out.trans (hb2.mono HBW.out.size))
          have HPN := hide (show (pkL l k).length = ((pkL l k).map (nm l)).length by rw [List.length_map])
          have HPU := hide (show (pkL l k).length ≤ n from by rw [← HLN.out]; have := List.length_filter_le (pk l k) (List.range l.length); rw [List.length_range] at this; exact this)
          have HPL := hide (show ∀ p ∈ pkL l k, p < n from fun p hp => by have := pkL_lt hp; have := HLN.out; omega)
          have HPD := hide (pkL_nodup l k)
          have HPV := hide (show ∀ p ∈ pkL l k, lv l p = (k : Int) ∨ lv l p = (k : Int) + 1 from fun p hp => by have := pkL_lv hp; omega)
          have HPW := hide (show dwn l k (pkL l k) = downP l k from pkL_down l k)
          have HDN := hide (show ∀ q ∈ downP l k, q < n from fun p hp => by have := downP_lt hp; have := HLN.out; omega)
          have HPB := hide (show ∀ i, i < n → lv l i = (k : Int) + 1 → ((pkL l k).map (nm l)).contains (nm l i) = (downP l k).any (fun j => tchAt l j i) from fun i hi hv => by
            have hil : i < l.length := by rw [HLN.out]; exact hi
            rw [← pk_below hil (by rw [hv]; simp), Bool.eq_iff_iff, List.contains_iff_mem, List.mem_map]
            constructor
            · rintro ⟨q, hq, e⟩
              have h1 := nm_inj HNP.out (pkL_lt hq) hil
              rw [e, beq_self_eq_true] at h1
              have h2 : q = i := of_decide_eq_true h1.symm
              subst h2
              exact (List.mem_filter.1 hq).2
            · intro h
              exact ⟨i, List.mem_filter.2 ⟨List.mem_range.2 hil, h⟩, rfl⟩)
          have HNI := hide (show ∀ i p, i < n → p < n → (nm l i == nm l p) = decide (i = p) from fun i p hi hp => nm_inj HNP.out (by rw [HLN.out]; exact hi) (by rw [HLN.out]; exact hp))
          generalize pkL l k = P at *
          generalize downP l k = D at *
          obtain ⟨ns, hns⟩ : ∃ ns, P.map (nm l) = ns := ⟨_, rfl⟩
          rw [hns] at hzs HPN HPB ⊢
          have HNS := hide hns
          have HI := hide (fun W (hW : Below w2.heap.size w2 W) => hzs.below hW (Nat.le_refl _))
          have HH2 := hide (fun W (hW : Below w2.heap.size w2 W) => HH.out W (HBW2.out.trans (hW.mono HBW2.out.size)))
          obtain ⟨m, hm⟩ : ∃ m, ns.length = m := ⟨_, rfl⟩
          rw [hm] at HI HPN ⊢
          have HM := hide hm
          have hmn : m ≤ n := by have := HPU.out; have := HPN.out; omega
          clear ho hb2 hzs hpe hns hm HPK HBW
          go_wp2_with fail
          go_loopw [8, 9, 10] (fun u f s wr => ∃ kk : Nat, kk ≤ m ∧ s = .int .i64 kk ∧ u = .int .i64 ((dwn l k (P.take kk)).length : Nat) ∧ Hid (Pf w2 wr f l (dwn l k (P.take kk)))) (fun _ _ s _ => m - (intOf s).toNat)
          case atStart => exact ⟨0, by omega, rfl, rfl, hide ⟨ownH_nil _ _, Below.refl _ _⟩⟩
          case round =>
            obtain ⟨kk, hkk, rfl, rfl, hst⟩ := hrel
            by_cases hltk : kk < m
            · obtain ⟨p, hp⟩ : ∃ p, P[kk]? = some p := ⟨_, List.getElem?_eq_getElem (by rw [HPN.out]; exact hltk)⟩
              have hz : ns[kk]? = some (nm l p) := by rw [← HNS.out, List.getElem?_map, hp]; rfl
              obtain ⟨z, hzp⟩ : ∃ z, nm l p = z := ⟨_, rfl⟩
              rw [hzp] at hz
              obtain ⟨z', zb, zo, hz', rfl, hzc', _, _⟩ := zs_at (HI.out _ hst.out.b) kk hltk
              have HZC := hide (fun W (hW : Below w2.heap.size w2 W) => show W.cell? ⟨zb, zo + kk, none⟩ = some (.int .i64 z) from by
                obtain ⟨b, off, e, hc⟩ := (HI.out W hW).2.2.2 (by omega)
                cases e
                exact hc kk z hz)
              have hpm := List.mem_of_getElem? hp
              have hpn := HPL.out p hpm
              have HPv := hide (HPV.out p hpm)
              have HDM := hide (dwn_more (l := l) (k := k) hp)
              have HNZ := hide (show ∀ i, i < n → (nm l i == z) = decide (i = p) from fun i hi => by rw [← hzp]; exact HNI.out i p hi hpn)
              have HNJ := hide (show ∀ j zj, j < kk → ns[j]? = some zj → (zj == z) = false from fun j zj hj h => by
                rw [← HNS.out, List.getElem?_map] at h
                cases hq : P[j]? with
                | none => rw [hq] at h; cases h
                | some q =>
                  rw [hq] at h
                  have e : nm l q = zj := Option.some.inj h
                  rw [← e, HNZ.out q (HPL.out q (List.mem_of_getElem? hq))]
                  refine decide_eq_false (fun e2 => ?_)
                  subst e2
                  have := (List.getElem?_inj (by have := (List.getElem?_eq_some_iff.1 hq).1; omega) HPD.out).1 (hq.trans hp.symm)
                  omega)
              obtain ⟨D0, hD0⟩ : ∃ D0, dwn l k (P.take kk) = D0 := ⟨_, rfl⟩
              rw [hD0] at hst HDM ⊢
              have HD0 := hide (show D0.length ≤ 50 from by
                rw [← hD0]
                have h1 := List.length_filter_le (fun i => lv l i == (k : Int)) (P.take kk)
                have h2 : (P.take kk).length ≤ n := by
                  rw [List.length_take]
                  have := HPU.out
                  omega
                unfold dwn
                omega)
              have HST := hide hst.out
              clear hz hz' hp hzp hpm hst hzc' hD0
              have hqk : (kk : Int) < (m : Int) := by omega
              go_wp2_with fail
              generalize hwq : wr = wq at *
              clear hwq
              go_loopw [11] (fun s wr => ∃ j : Nat, j ≤ kk ∧ s = .int .i64 j ∧ Hid (Below wq.heap.size wq wr)) (fun s _ => kk - (intOf s).toNat)
              case atStart => exact ⟨0, by omega, rfl, hide (Below.refl _ _)⟩
              case round =>
                obtain ⟨j, hj, rfl, hst2⟩ := hrel
                have HS2 := hide (HST.out.keep hst2.out)
                by_cases hltj : j < kk
                · obtain ⟨y, yb, yo, hy, e9, hyc, _, _⟩ := zs_at (HI.out _ HS2.out.b) j (by omega)
                  injection e9 with e9
                  injection e9 with e9 e8
                  subst e9 e8
                  have zc := HZC.out wr HS2.out.b
                  have qn := HNJ.out j y hltj hy
                  have hqj : (j : Int) < (kk : Int) := by omega
                  have HB := hide hst2.out.drew
                  clear hst2 hy
                  go_wp2_with fail
                  go_region
                  go_wp2
                  go_roundw
                  case rel => exact ⟨j + 1, by omega, by go_num, HB⟩
                  case measure => simp [intOf]; omega
                · obtain rfl : j = kk := by omega
                  have hqj : ¬ ((j : Int) < (j : Int)) := by omega
                  clear hst2 HST HNJ
                  obtain ⟨D1, hD1⟩ : ∃ D1, dwn l k (P.take (j + 1)) = D1 := ⟨_, rfl⟩
                  rw [hD1] at HDM
                  have HD1 := hide hD1
                  clear hD1
                  go_wp2_with fail
                  go_loopw [8, 9, 12] (fun u f s wr => ∃ i : Nat, i ≤ n ∧ s = .int .i64 i ∧ u = .int .i64 ((if p < i then D1 else D0).length : Nat) ∧ Hid (Pf w2 wr f l (if p < i then D1 else D0))) (fun _ _ s _ => n - (intOf s).toNat)
                  case atStart => exact ⟨0, by omega, rfl, rfl, HS2⟩
                  case round =>
                    obtain ⟨i, hi2, rfl, rfl, hst3⟩ := hrel
                    by_cases hlti : i < n
                    · obtain ⟨x, xb, xo, hx, rfl, hok, x0, x1, x2, x3, x4⟩ := hs_at (HH2.out _ hst3.out.b) i hlti
                      have zc := HZC.out wr hst3.out.b
                      have hqi : (i : Int) < (n : Int) := by omega
                      have hnz := HNZ.out i hlti
                      rw [nm_of hx] at hnz
                      by_cases hip : i = p
                      · subst hip
                        rw [decide_eq_true rfl] at hnz
                        rw [if_neg (Nat.lt_irrefl i)] at hst3 ⊢
                        have HPv2 := HPv.out
                        rw [lv_of hx] at HPv2
                        have HDM2 := HDM.out
                        rw [lv_of hx] at HDM2
                        have HGH := hide (gh_of hx)
                        have HS3 := hide (hst3.out.keep (Below.refl _ _).drew)
                        clear hst3 hx HPv
                        rcases x with ⟨xN, xL, xfa, xfc, xfz, xga, xgc, xgz, xM⟩
                        dsimp only at x0 x1 x2 x3 x4 hnz HPv2 HDM2
                        rcases HPv2 with rfl | rfl
                        · rw [if_pos rfl] at HDM2
                          have HSA := hide (HS3.out.keep ((Below.refl _ _).alloc (Nat.le_refl _) (Obj.cells (He.cs ⟨xN, (k : Int), xfa, xfc, xfz, xga, xgc, xgz, xM⟩).toArray 27)))
                          have HEA := hide (ek_new wr.drew (He.cs ⟨xN, (k : Int), xfa, xfc, xfz, xga, xgc, xgz, xM⟩).toArray 27)
                          have HON := hide HSA.out.o
                          have HSZ := hide HSA.out.b.size
                          have HLE := hide (show (D0.map (gh l)).length ≤ 100000 from by rw [List.length_map]; have := HD0.out; omega)
                          have HDL1 := hide (show D1.length = D0.length + 1 from by rw [HDM2]; simp)
                          have HDG := hide (show D1.map (gh l) = D0.map (gh l) ++ [⟨xN, (k : Int), xfa, xfc, xfz, xga, xgc, xgz, xM⟩] from by rw [HDM2, List.map_append, List.map_singleton, HGH.out])
                          have hd0 := HD0.out
                          clear HDM2
                          obtain ⟨K0, hK0⟩ : ∃ K0, D0.length = K0 := ⟨_, rfl⟩
                          have HK0 := hide hK0
                          rw [hK0] at hd0 ⊢
                          clear hK0
                          go_wp2_with fail
                          go_region
                          have qs : IntKind.i64.wrap ((k : Int) + 1 - 1) = (k : Int) := by simp [IntKind.wrap, IntKind.bits, IntKind.signed]; omega
                          go_wp2_with (at_builtin; refine wpList_append_h rfl _ _ rfl w2.heap.size _ (D0.map (gh l)) rfl HON.out wr.heap.size ⟨xN, (k : Int), xfa, xfc, xfz, xga, xgc, xgz, xM⟩ rfl HEA.out HLE.out HSZ.out ?_; intro v6 w6 ho6 hg6 hk6 ha6)
                          have HS6 := hide (show Pf w2 w6 v6 l D1 from ⟨by rw [HDG.out]; exact ho6, HSA.out.b.grown hg6 HSZ.out hk6⟩)
                          clear ho6 hg6 hk6 ha6
                          go_roundw
                          case rel => exact ⟨i + 1, by omega, by go_num, by rw [if_pos (by omega), HDL1.out, HK0.out]; go_num, hide (by rw [if_pos (by omega)]; exact HS6.out)⟩
                          case measure => simp [intOf]; omega
                        · rw [if_neg (by omega), List.append_nil] at HDM2
                          have HE := hide HDM2
                          clear HDM2
                          go_wp2_with fail
                          go_region
                          have qs : IntKind.i64.wrap ((k : Int) + 1 - 1) = (k : Int) := by simp [IntKind.wrap, IntKind.bits, IntKind.signed]; omega
                          have qs2 : ¬ ((k : Int) + 1 = (k : Int)) := by omega
                          go_wp2
                          go_roundw
                          case rel => exact ⟨i + 1, by omega, by go_num, by rw [if_pos (by omega), HE.out], hide (by rw [if_pos (by omega), HE.out]; exact HS3.out)⟩
                          case measure => simp [intOf]; omega
                      · rw [decide_eq_false hip] at hnz
                        have hE : (if p < i + 1 then D1 else D0) = (if p < i then D1 else D0) := by
                          by_cases h : p < i
                          · rw [if_pos h, if_pos (by omega)]
                          · rw [if_neg h, if_neg (by omega)]
                        obtain ⟨Dx, hDx⟩ : ∃ Dx, (if p < i then D1 else D0) = Dx := ⟨_, rfl⟩
                        rw [hDx] at hE hst3 ⊢
                        have HSN := hide (hst3.out.keep (Below.refl _ _).drew)
                        have HE := hide hE
                        clear hst3 hE hDx hx hok
                        generalize x.N = xN at *
                        go_wp2_with fail
                        go_region
                        go_wp2
                        go_roundw
                        case rel => exact ⟨i + 1, by omega, by go_num, by rw [HE.out], hide (by rw [HE.out]; exact HSN.out)⟩
                        case measure => simp [intOf]; omega
                    · obtain rfl : i = n := by omega
                      have hqi : ¬ ((i : Int) < (i : Int)) := by omega
                      rw [if_pos hpn] at hst3 ⊢
                      clear HS2
                      go_wp2
                      go_roundw
                      case rel => exact ⟨j + 1, by omega, by go_num, by rw [HD1.out], hide (by rw [HD1.out]; exact hst3.out)⟩
                      case measure => simp [intOf]; omega
            · obtain rfl : m = kk := by omega
              have hqk : ¬ ((m : Int) < (m : Int)) := by omega
              have hfull : P.take m = P := List.take_of_length_le (by rw [HPN.out]; exact Nat.le_refl _)
              rw [hfull, HPW.out] at hst ⊢
              obtain ⟨fa, fc, rfl, _, hfs, _⟩ := ownH_hs hst.out.o (fun y hy => by
                obtain ⟨q, hq, rfl⟩ := List.mem_map.1 hy
                have hqn := HDN.out q hq
                have hql : q < l.length := by rw [HLN.out]; exact hqn
                rw [gh_of (List.getElem?_eq_getElem hql)]
                exact (HH2.out wr hst.out.b).2.2.1 _ (List.getElem_mem hql))
              have HB2 := hide hst.out.b
              have HFS := hide (fun W (hW : Below wr.heap.size wr W) => hfs.below hW (Nat.le_refl _))
              rw [List.length_map] at HFS ⊢
              obtain ⟨U, hU⟩ : ∃ U, D.length = U := ⟨_, rfl⟩
              rw [hU] at HDL HFS ⊢
              have HUL := hide hU
              have HIW := hide (fun W (hW : Below wr.heap.size wr W) => HI.out W (HB2.out.trans (hW.mono HB2.out.size)))
              have HHW := hide (fun W (hW : Below wr.heap.size wr W) => HH2.out W (HB2.out.trans (hW.mono HB2.out.size)))
              have HBW3 := hide (HBW2.out.trans (HB2.out.mono HBW2.out.size))
              have hU50 : U ≤ n := by
                have h1 := List.length_filter_le (fun i => lv l i == (k : Int)) P
                have h2 : (P.filter (fun i => lv l i == (k : Int))).length = U := by rw [← hU, ← HPW.out]; rfl
                have := HPN.out
                omega
              clear hst hfs hU hfull HI HH2 HB2 HBW2 HPV HNI HPD HPL HPW
              obtain ⟨T, hT⟩ : ∃ T : Int, (k : Int) + 1 = T := ⟨_, rfl⟩
              rw [hT] at HPB ⊢
              have hTT : T = 1 ∧ 4 ≤ U ∨ 1 < T ∧ U = 1 := by have := HDL.out; omega
              have hT3 : 1 ≤ T ∧ T ≤ 3 := by omega
              clear hT HDL
              have HDN2 := hide (show ∀ i x, i < n → l[i]? = some x → x.L = T → ns.contains x.N = D.any (fun j => tchAt l j i) from fun i x hi hx hv => by
                have := HPB.out i hi (by rw [lv_of hx]; exact hv)
                rwa [nm_of hx] at this)
              have HDX := hide (show ∀ j, j < U → ∃ q y, D[j]? = some q ∧ l[q]? = some y ∧ (D.map (gh l))[j]? = some y from fun j hj => by
                obtain ⟨q, hq⟩ : ∃ q, D[j]? = some q := ⟨_, List.getElem?_eq_getElem (by rw [HUL.out]; exact hj)⟩
                have hqn := HDN.out q (List.mem_of_getElem? hq)
                have hql : q < l.length := by rw [HLN.out]; exact hqn
                have hy := List.getElem?_eq_getElem hql
                exact ⟨q, _, hq, hy, by rw [List.getElem?_map, hq]; exact congrArg some (gh_of hy)⟩)
              clear HPB HDN
              rcases hTT with ⟨hT1, hU4⟩ | ⟨hT1, hU1⟩
              · have qu : ¬ ((U : Int) < 4) := by omega
                have qt : (T == 1) = true := by simpa using hT1
                have qt2 : ¬ (T > 1) := by omega
                go_wp2_with fail
                generalize hwq : wr = wq at *
                clear hwq
                go_loopw [13] (fun s wr => ∃ i : Nat, i ≤ n ∧ s = .int .i64 i ∧ Hid (Below wq.heap.size wq wr)) (fun s _ => n - (intOf s).toNat)
                case atStart => exact ⟨0, by omega, rfl, hide (Below.refl _ _)⟩
                case round =>
                  obtain ⟨i, hi, rfl, hst⟩ := hrel
                  have HB3 := hide hst.out
                  clear hst
                  by_cases hlt : i < n
                  · obtain ⟨x, ab, off, hx, rfl, hok, x0, x1, x2, x3, x4⟩ := hs_at (HHW.out _ HB3.out) i hlt
                    have hqi : (i : Int) < (n : Int) := by omega
                    by_cases hxl : x.L = T
                    · have HX := hide hx
                      have HD2 := hide (HDN2.out i x hlt hx hxl)
                      have HXC := hide (And.intro x0 (And.intro x1 (And.intro x2 (And.intro x3 x4))))
                      have HOKX := hide hok
                      clear hx hok
                      rw [hxl] at x1
                      go_wp2_with fail
                      generalize hwp : wr = wp at *
                      clear hwp x0 x1 x2 x3 x4 hxl hT1 qt qt2 hT3
                      go_loopw [14, 16] (fun g s wr => ∃ j : Nat, j ≤ U ∧ s = .int .i64 j ∧ g = .bool ((D.take j).any (fun q => tchAt l q i)) ∧ Hid (Below wp.heap.size wp wr)) (fun _ s _ => U - (intOf s).toNat)
                      case atStart => exact ⟨0, by omega, rfl, by simp, hide (Below.refl _ _)⟩
                      case round =>
                        obtain ⟨j, hj, rfl, rfl, hst2⟩ := hrel
                        have HB4 := hide (HB3.out.trans (hst2.out.mono HB3.out.size))
                        by_cases hltj : j < U
                        · obtain ⟨q, y', hq, hyq, hym⟩ := HDX.out j hltj
                          obtain ⟨y, yb, yo, hy, rfl, hyok, y0, y1, y2, y3, y4⟩ := hs_at (HFS.out _ HB4.out) j hltj
                          rw [hym] at hy
                          obtain rfl := Option.some.inj hy
                          have HAM := hide (show (D.take (j + 1)).any (fun q => tchAt l q i) = ((D.take j).any (fun q => tchAt l q i) || tch y' x) from by rw [any_mr hq, tchAt_of hyq HX.out])
                          have hqj : (j : Int) < (U : Int) := by omega
                          have hbt := hst2.out
                          have cx : ∀ {o : Nat} {u : Value}, wp.cell? ⟨ab, o, none⟩ = some u → wr.cell? ⟨ab, o, none⟩ = some u := fun {o u} h => (hbt.cell (p := ⟨ab, o, none⟩) (World.block_lt_of_cell? wp _ h)).trans h
                          have x0 := cx HXC.out.1
                          have x1 := cx HXC.out.2.1
                          have x2 := cx HXC.out.2.2.1
                          have x3 := cx HXC.out.2.2.2.1
                          have x4 := cx HXC.out.2.2.2.2
                          have HBT := hide hbt
                          clear hbt cx hst2 hq hyq hym hy
                          cases hg : (D.take j).any (fun q => tchAt l q i) with
                          | true =>
                            have HC2 := hide (show (D.take (j + 1)).any (fun q => tchAt l q i) = true from by rw [HAM.out, hg]; rfl)
                            clear hg HAM hyok
                            go_wp2_with fail
                            go_region
                            go_wp2
                            go_roundw
                            case rel => exact ⟨j + 1, by omega, by go_num, by rw [HC2.out], hide HBT.out.drew⟩
                            case measure => simp [intOf]; omega
                          | false =>
                            have HC2 := hide (show (D.take (j + 1)).any (fun q => tchAt l q i) = tch y' x from by rw [HAM.out, hg]; rfl)
                            have ct : Hid (∀ p : Kp wr, Calls Try.prog 13 #[.agg #[.int .i64 y'.N, .int .i64 y'.L, .slice y'.fa y'.fz.length y'.fc, .slice y'.ga y'.gz.length y'.gc, .int .i64 y'.M], .agg #[.int .i64 x.N, .int .i64 x.L, .slice x.fa x.fz.length x.fc, .slice x.ga x.gz.length x.gc, .int .i64 x.M]] p.W fun e w'' => e = .returned (.bool (tch y' x)) ∧ ∃ q : Kp wr, w'' = q.W) := hide fun p => kp_call (touch_any y' x p.W (hyok.below p.h (Nat.le_refl _)) (HOKX.out.below (HBT.out.trans (p.h.mono HBT.out.size)) (Nat.le_refl _)))
                            have hne : Nonempty (Kp wr) := ⟨⟨_, Below.refl _ _⟩⟩
                            have kx : ∀ {b o : Nat} {u : Value}, wr.cell? ⟨b, o, none⟩ = some u → ∀ p : Kp wr, p.W.cell? ⟨b, o, none⟩ = some u := fun {b o u} h p => (p.h.cell (p := ⟨b, o, none⟩) (World.block_lt_of_cell? wr _ h)).trans h
                            have x0 := kx x0
                            have x1 := kx x1
                            have x2 := kx x2
                            have x3 := kx x3
                            have x4 := kx x4
                            have y0 := kx y0
                            have y1 := kx y1
                            have y2 := kx y2
                            have y3 := kx y3
                            have y4 := kx y4
                            clear hg HAM hyok kx
                            go_wp2_with fail
                            refine wp_region_kept (by kernel_rfl) (by kernel_rfl) ?_
                            repeat (first
                              | go_big_quiet_step (first | (go_at_call 13; exact ct.out _))
                              | fail)
                            refine wpQuiet_nil ?_
                            intro w10 hw'
                            have hb10 : Below wr.heap.size wr w10 := by
                              obtain ⟨p, hp⟩ := hw'
                              rw [hp]; exact p.h
                            have HB10 := hide (HBT.out.trans (hb10.mono HBT.out.size))
                            clear hw' hne ct hb10 x0 x1 x2 x3 x4 y0 y1 y2 y3 y4
                            go_wp2
                            go_roundw
                            case rel => exact ⟨j + 1, by omega, by go_num, by rw [HC2.out], HB10⟩
                            case measure => simp [intOf]; omega
                        · obtain rfl : U = j := by omega
                          have hqj : ¬ ((U : Int) < (U : Int)) := by omega
                          have hfull : D.take U = D := List.take_of_length_le (by rw [HUL.out]; exact Nat.le_refl _)
                          rw [hfull, ← HD2.out]
                          have HBT := hide hst2.out
                          clear hst2 hfull HD2
                          obtain ⟨xN, hxN⟩ : ∃ z, x.N = z := ⟨_, rfl⟩
                          have HX0 := hide HXC.out.1
                          rw [hxN] at HX0 ⊢
                          obtain ⟨C, hC⟩ : ∃ C, ns.contains xN = C := ⟨_, rfl⟩
                          have HC := hide hC
                          rw [hC]
                          clear hC
                          clear HXC HX HOKX hxN
                          go_wp2_with fail
                          generalize hwo : wr = wo at *
                          clear hwo
                          go_loopw [15, 17] (fun g s wr => ∃ j : Nat, j ≤ m ∧ s = .int .i64 j ∧ g = .bool ((ns.take j).contains xN) ∧ Hid (Below wo.heap.size wo wr)) (fun _ s _ => m - (intOf s).toNat)
                          case atStart => exact ⟨0, by omega, rfl, by simp, hide (Below.refl _ _)⟩
                          case round =>
                            obtain ⟨j, hj2, rfl, rfl, hst2⟩ := hrel
                            have HB5 := hide (HBT.out.trans (hst2.out.mono HBT.out.size))
                            have HB6 := hide (HB3.out.trans (HB5.out.mono HB3.out.size))
                            by_cases hltj : j < m
                            · obtain ⟨z, zb, zo, hz, rfl, hzc, _, _⟩ := zs_at (HIW.out _ HB6.out) j hltj
                              have HCM := hide (cont_mr (N := xN) hz)
                              have hqj2 : (j : Int) < (m : Int) := by omega
                              have x0 := (HB5.out.cell (p := ⟨ab, off + i * 5, none⟩) (World.block_lt_of_cell? wp _ HX0.out)).trans HX0.out
                              have HB7 := hide hst2.out.drew
                              clear hz hst2
                              cases hg : (ns.take j).contains xN with
                              | true =>
                                have HC2 := hide (show (ns.take (j + 1)).contains xN = true from by rw [HCM.out, hg]; rfl)
                                clear hg HCM
                                go_wp2_with fail
                                go_region
                                go_wp2
                                go_roundw
                                case rel => exact ⟨j + 1, by omega, by go_num, by rw [HC2.out], HB7⟩
                                case measure => simp [intOf]; omega
                              | false =>
                                have HC2 := hide (show (ns.take (j + 1)).contains xN = (z == xN) from by rw [HCM.out, hg]; rfl)
                                clear hg HCM
                                go_wp2_with fail
                                go_region
                                go_wp2
                                go_roundw
                                case rel => exact ⟨j + 1, by omega, by go_num, by rw [HC2.out], HB7⟩
                                case measure => simp [intOf]; omega
                            · obtain rfl : m = j := by omega
                              have hqj2 : ¬ ((m : Int) < (m : Int)) := by omega
                              have hfull : ns.take m = ns := List.take_of_length_le (by rw [HM.out]; exact Nat.le_refl _)
                              rw [hfull, HC.out]
                              clear hst2 hfull HC
                              cases C with
                              | true =>
                                go_wp2
                                go_roundw
                                case rel => exact ⟨i + 1, by omega, by go_num, HB6⟩
                                case measure => simp [intOf]; omega
                              | false =>
                                go_wp2
                                go_roundw
                                case rel => exact ⟨i + 1, by omega, by go_num, HB6⟩
                                case measure => simp [intOf]; omega
                    · have qx : (x.L == T) = false := by simpa using hxl
                      clear hx hok
                      generalize x.L = xL at *
                      go_wp2
                      go_roundw
                      case rel => exact ⟨i + 1, by omega, by go_num, HB3⟩
                      case measure => simp [intOf]; omega
                  · obtain rfl : n = i := by omega
                    have hqi : ¬ ((n : Int) < (n : Int)) := by omega
                    go_wp2_with fail
                    refine (HAK.out _).mono ?_
                    rintro e w9 ⟨rfl, hb9⟩
                    have HB9 := hide (HBW3.out.trans ((HB3.out.trans (hb9.mono HB3.out.size)).mono HBW3.out.size))
                    clear hb9
                    go_wp2
                    go_ret
                    exact ⟨rfl, HB9.out⟩
              · have qt : (T == 1) = false := by simp; omega
                have qt2 : T > 1 := by omega
                have qu2 : ((U : Int) == 1) = true := by simp; omega
                go_wp2_with fail
                generalize hwq : wr = wq at *
                clear hwq
                go_loopw [13] (fun s wr => ∃ i : Nat, i ≤ n ∧ s = .int .i64 i ∧ Hid (Below wq.heap.size wq wr)) (fun s _ => n - (intOf s).toNat)
                case atStart => exact ⟨0, by omega, rfl, hide (Below.refl _ _)⟩
                case round =>
                  obtain ⟨i, hi, rfl, hst⟩ := hrel
                  have HB3 := hide hst.out
                  clear hst
                  by_cases hlt : i < n
                  · obtain ⟨x, ab, off, hx, rfl, hok, x0, x1, x2, x3, x4⟩ := hs_at (HHW.out _ HB3.out) i hlt
                    have hqi : (i : Int) < (n : Int) := by omega
                    by_cases hxl : x.L = T
                    · have HX := hide hx
                      have HD2 := hide (HDN2.out i x hlt hx hxl)
                      have HXC := hide (And.intro x0 (And.intro x1 (And.intro x2 (And.intro x3 x4))))
                      have HOKX := hide hok
                      clear hx hok
                      rw [hxl] at x1
                      go_wp2_with fail
                      generalize hwp : wr = wp at *
                      clear hwp x0 x1 x2 x3 x4 hxl hT1 qt qt2 hT3
                      go_loopw [14, 16] (fun g s wr => ∃ j : Nat, j ≤ U ∧ s = .int .i64 j ∧ g = .bool ((D.take j).any (fun q => tchAt l q i)) ∧ Hid (Below wp.heap.size wp wr)) (fun _ s _ => U - (intOf s).toNat)
                      case atStart => exact ⟨0, by omega, rfl, by simp, hide (Below.refl _ _)⟩
                      case round =>
                        obtain ⟨j, hj, rfl, rfl, hst2⟩ := hrel
                        have HB4 := hide (HB3.out.trans (hst2.out.mono HB3.out.size))
                        by_cases hltj : j < U
                        · obtain ⟨q, y', hq, hyq, hym⟩ := HDX.out j hltj
                          obtain ⟨y, yb, yo, hy, rfl, hyok, y0, y1, y2, y3, y4⟩ := hs_at (HFS.out _ HB4.out) j hltj
                          rw [hym] at hy
                          obtain rfl := Option.some.inj hy
                          have HAM := hide (show (D.take (j + 1)).any (fun q => tchAt l q i) = ((D.take j).any (fun q => tchAt l q i) || tch y' x) from by rw [any_mr hq, tchAt_of hyq HX.out])
                          have hqj : (j : Int) < (U : Int) := by omega
                          have hbt := hst2.out
                          have cx : ∀ {o : Nat} {u : Value}, wp.cell? ⟨ab, o, none⟩ = some u → wr.cell? ⟨ab, o, none⟩ = some u := fun {o u} h => (hbt.cell (p := ⟨ab, o, none⟩) (World.block_lt_of_cell? wp _ h)).trans h
                          have x0 := cx HXC.out.1
                          have x1 := cx HXC.out.2.1
                          have x2 := cx HXC.out.2.2.1
                          have x3 := cx HXC.out.2.2.2.1
                          have x4 := cx HXC.out.2.2.2.2
                          have HBT := hide hbt
                          clear hbt cx hst2 hq hyq hym hy
                          cases hg : (D.take j).any (fun q => tchAt l q i) with
                          | true =>
                            have HC2 := hide (show (D.take (j + 1)).any (fun q => tchAt l q i) = true from by rw [HAM.out, hg]; rfl)
                            clear hg HAM hyok
                            go_wp2_with fail
                            go_region
                            go_wp2
                            go_roundw
                            case rel => exact ⟨j + 1, by omega, by go_num, by rw [HC2.out], hide HBT.out.drew⟩
                            case measure => simp [intOf]; omega
                          | false =>
                            have HC2 := hide (show (D.take (j + 1)).any (fun q => tchAt l q i) = tch y' x from by rw [HAM.out, hg]; rfl)
                            have ct : Hid (∀ p : Kp wr, Calls Try.prog 13 #[.agg #[.int .i64 y'.N, .int .i64 y'.L, .slice y'.fa y'.fz.length y'.fc, .slice y'.ga y'.gz.length y'.gc, .int .i64 y'.M], .agg #[.int .i64 x.N, .int .i64 x.L, .slice x.fa x.fz.length x.fc, .slice x.ga x.gz.length x.gc, .int .i64 x.M]] p.W fun e w'' => e = .returned (.bool (tch y' x)) ∧ ∃ q : Kp wr, w'' = q.W) := hide fun p => kp_call (touch_any y' x p.W (hyok.below p.h (Nat.le_refl _)) (HOKX.out.below (HBT.out.trans (p.h.mono HBT.out.size)) (Nat.le_refl _)))
                            have hne : Nonempty (Kp wr) := ⟨⟨_, Below.refl _ _⟩⟩
                            have kx : ∀ {b o : Nat} {u : Value}, wr.cell? ⟨b, o, none⟩ = some u → ∀ p : Kp wr, p.W.cell? ⟨b, o, none⟩ = some u := fun {b o u} h p => (p.h.cell (p := ⟨b, o, none⟩) (World.block_lt_of_cell? wr _ h)).trans h
                            have x0 := kx x0
                            have x1 := kx x1
                            have x2 := kx x2
                            have x3 := kx x3
                            have x4 := kx x4
                            have y0 := kx y0
                            have y1 := kx y1
                            have y2 := kx y2
                            have y3 := kx y3
                            have y4 := kx y4
                            clear hg HAM hyok kx
                            go_wp2_with fail
                            refine wp_region_kept (by kernel_rfl) (by kernel_rfl) ?_
                            repeat (first
                              | go_big_quiet_step (first | (go_at_call 13; exact ct.out _))
                              | fail)
                            refine wpQuiet_nil ?_
                            intro w10 hw'
                            have hb10 : Below wr.heap.size wr w10 := by
                              obtain ⟨p, hp⟩ := hw'
                              rw [hp]; exact p.h
                            have HB10 := hide (HBT.out.trans (hb10.mono HBT.out.size))
                            clear hw' hne ct hb10 x0 x1 x2 x3 x4 y0 y1 y2 y3 y4
                            go_wp2
                            go_roundw
                            case rel => exact ⟨j + 1, by omega, by go_num, by rw [HC2.out], HB10⟩
                            case measure => simp [intOf]; omega
                        · obtain rfl : U = j := by omega
                          have hqj : ¬ ((U : Int) < (U : Int)) := by omega
                          have hfull : D.take U = D := List.take_of_length_le (by rw [HUL.out]; exact Nat.le_refl _)
                          rw [hfull, ← HD2.out]
                          have HBT := hide hst2.out
                          clear hst2 hfull HD2
                          obtain ⟨xN, hxN⟩ : ∃ z, x.N = z := ⟨_, rfl⟩
                          have HX0 := hide HXC.out.1
                          rw [hxN] at HX0 ⊢
                          obtain ⟨C, hC⟩ : ∃ C, ns.contains xN = C := ⟨_, rfl⟩
                          have HC := hide hC
                          rw [hC]
                          clear hC
                          clear HXC HX HOKX hxN
                          go_wp2_with fail
                          generalize hwo : wr = wo at *
                          clear hwo
                          go_loopw [15, 17] (fun g s wr => ∃ j : Nat, j ≤ m ∧ s = .int .i64 j ∧ g = .bool ((ns.take j).contains xN) ∧ Hid (Below wo.heap.size wo wr)) (fun _ s _ => m - (intOf s).toNat)
                          case atStart => exact ⟨0, by omega, rfl, by simp, hide (Below.refl _ _)⟩
                          case round =>
                            obtain ⟨j, hj2, rfl, rfl, hst2⟩ := hrel
                            have HB5 := hide (HBT.out.trans (hst2.out.mono HBT.out.size))
                            have HB6 := hide (HB3.out.trans (HB5.out.mono HB3.out.size))
                            by_cases hltj : j < m
                            · obtain ⟨z, zb, zo, hz, rfl, hzc, _, _⟩ := zs_at (HIW.out _ HB6.out) j hltj
                              have HCM := hide (cont_mr (N := xN) hz)
                              have hqj2 : (j : Int) < (m : Int) := by omega
                              have x0 := (HB5.out.cell (p := ⟨ab, off + i * 5, none⟩) (World.block_lt_of_cell? wp _ HX0.out)).trans HX0.out
                              have HB7 := hide hst2.out.drew
                              clear hz hst2
                              cases hg : (ns.take j).contains xN with
                              | true =>
                                have HC2 := hide (show (ns.take (j + 1)).contains xN = true from by rw [HCM.out, hg]; rfl)
                                clear hg HCM
                                go_wp2_with fail
                                go_region
                                go_wp2
                                go_roundw
                                case rel => exact ⟨j + 1, by omega, by go_num, by rw [HC2.out], HB7⟩
                                case measure => simp [intOf]; omega
                              | false =>
                                have HC2 := hide (show (ns.take (j + 1)).contains xN = (z == xN) from by rw [HCM.out, hg]; rfl)
                                clear hg HCM
                                go_wp2_with fail
                                go_region
                                go_wp2
                                go_roundw
                                case rel => exact ⟨j + 1, by omega, by go_num, by rw [HC2.out], HB7⟩
                                case measure => simp [intOf]; omega
                            · obtain rfl : m = j := by omega
                              have hqj2 : ¬ ((m : Int) < (m : Int)) := by omega
                              have hfull : ns.take m = ns := List.take_of_length_le (by rw [HM.out]; exact Nat.le_refl _)
                              rw [hfull, HC.out]
                              clear hst2 hfull HC
                              cases C with
                              | true =>
                                go_wp2
                                go_roundw
                                case rel => exact ⟨i + 1, by omega, by go_num, HB6⟩
                                case measure => simp [intOf]; omega
                              | false =>
                                go_wp2
                                go_roundw
                                case rel => exact ⟨i + 1, by omega, by go_num, HB6⟩
                                case measure => simp [intOf]; omega
                    · have qx : (x.L == T) = false := by simpa using hxl
                      clear hx hok
                      generalize x.L = xL at *
                      go_wp2
                      go_roundw
                      case rel => exact ⟨i + 1, by omega, by go_num, HB3⟩
                      case measure => simp [intOf]; omega
                  · obtain rfl : n = i := by omega
                    have hqi : ¬ ((n : Int) < (n : Int)) := by omega
                    go_wp2_with fail
                    refine (HAK.out _).mono ?_
                    rintro e w9 ⟨rfl, hb9⟩
                    have HB9 := hide (HBW3.out.trans ((HB3.out.trans (hb9.mono HB3.out.size)).mono HBW3.out.size))
                    clear hb9
                    go_wp2
                    go_ret
                    exact ⟨rfl, HB9.out⟩

end Go.Proofs.Ytcbphalhjajapaa.Clep
