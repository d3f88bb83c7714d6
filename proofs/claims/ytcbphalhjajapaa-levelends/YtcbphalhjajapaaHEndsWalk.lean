/- LevelEnds, walked. No conditions. -/
import Derived.Test.YtcbphalhjajapaaHEnds
import Derived.Test.YtcbphalhjajapaaHArg
import Derived.Deep.CutRange
namespace Go.Proofs.Ytcbphalhjajapaa.Clep
open Go.RowKit
set_option linter.unusedVariables false
set_option linter.unusedSimpArgs false

/-- What the statement holds while it makes its files. -/
structure E0 (w W : World) (v : Value) (l : List He) (k : Nat) (T : Int) : Prop where
  r : RwS w.heap.size W v l
  N : l.map He.N = (List.range k).map (fun i : Nat => (i : Int) + 1)
  L : ∀ x ∈ l, x.L = 0
  M : ∀ x ∈ l, 0 ≤ x.M ∧ x.M ≤ 64
  T : totS l l.length = T
  s : ∀ x ∈ l, x.sm
  n : l.length = k
  b : Below w.heap.size w W
theorem E0.app {w W w' : World} {v v' : Value} {l : List He} {k : Nat} {T M b1 b2 : Int} (h : E0 w W v l k T) (h1 : 0 ≤ b1 ∧ b1 < 256) (h2 : 0 ≤ b2 ∧ b2 < 256) (hk : k < 100) (hM : 0 ≤ M ∧ M ≤ 64)
    (ho : OwnH w' w.heap.size v' (l ++ [nextH W ((k : Int) + 1) 0 M b1 b2])) (hg : (nextW W ((k : Int) + 1) 0 M b1 b2).grownBy w' v.ownBlock) (ha : v'.ownBlock = v.ownBlock ∨ v'.ownBlock = some (nextW W ((k : Int) + 1) 0 M b1 b2).heap.size) : E0 w w' v' (l ++ [nextH W ((k : Int) + 1) 0 M b1 b2]) (k + 1) (T + M) := by
  have hv : ∀ q, v.ownBlock = some q → w.heap.size ≤ q := fun q hq => (World.ownsRow.lt h.r.o q hq).1
  have hb := nextW_below W ((k : Int) + 1) 0 M b1 b2
  have hall : ∀ {p : He → Prop}, (∀ x ∈ l, p x) → p (nextH W ((k : Int) + 1) 0 M b1 b2) → ∀ x ∈ l ++ [nextH W ((k : Int) + 1) 0 M b1 b2], p x := fun {p} q1 q2 x hx => by
    rcases List.mem_append.1 hx with hx | hx
    · exact q1 x hx
    · rw [List.mem_singleton.1 hx]; exact q2
  refine ⟨h.r.more h1 h2 ⟨by omega, by omega⟩ ⟨by omega, by omega⟩ ⟨by omega, by omega⟩ ho hg ha, by rw [List.map_append, h.N, List.range_succ, List.map_append]; rfl, hall h.L rfl, hall h.M hM, ?_, hall h.s ⟨(show 1 ≤ 140737488355328 by decide), (show 1 ≤ 140737488355328 by decide)⟩, by rw [List.length_append, h.n]; rfl, (h.b.trans (hb.mono h.b.size)).grown hg (Nat.le_trans h.b.size hb.size) (fun q hq => hv q hq)⟩
  rw [List.length_append]
  show totS _ (l.length + 1) = _
  rw [totS_snoc, h.T]
  rfl
theorem E0.en {w W : World} {v : Value} {l : List He} {k : Nat} {T : Int} (h : E0 w W v l k T) (hk : k ≤ 30) : ∃ la lc, v = .slice la l.length lc ∧ En W la lc l 0 T := by
  obtain ⟨la, lc, h1, h2⟩ := h.r.hs
  refine ⟨la, lc, h1, h2, h.s, h.L, ?_, fun x hx => by have := h.M x hx; omega, h.T, by rw [h.n]; exact hk, fun h => by omega⟩
  rw [h.N, List.pairwise_map]
  exact List.pairwise_lt_range.imp (fun {a b} h => by omega)
/-- The file that is made, between the rounds of a merge. -/
structure Mg (wC W : World) (m : He) (nn T : Int) : Prop where
  N : m.N = nn
  L : m.L = 0
  M : m.M = T
  ok : m.ok wC
  s : m.sm
  e : Ek W wC.heap.size m.cs.toArray 27
  b : Below wC.heap.size wC W
theorem Mg.drew {wC W : World} {m : He} {nn T : Int} (h : Mg wC W m nn T) : Mg wC W.drew m nn T := ⟨h.N, h.L, h.M, h.ok, h.s, h.e.drew, h.b.drew⟩
theorem Mg.set {wC W : World} {m m' : He} {nn T T' : Int} {o : Nat} {u : Value} (h : Mg wC W m nn T) (hs : m.cs.toArray.setIfInBounds o u = m'.cs.toArray) (hN : m'.N = nn) (hL : m'.L = 0) (hM : m'.M = T') (hok : m'.ok wC) (hsm : m'.sm) : Mg wC (W.setCell ⟨wC.heap.size, o, none⟩ u) m' nn T' :=
  ⟨hN, hL, hM, hok, hsm, hs ▸ h.e.set o u, h.b.grown (fgb_set W ⟨wC.heap.size, o, none⟩ u) h.b.size (fun q hq => by cases hq; exact Nat.le_refl _)⟩
theorem Mg.setM {wC W : World} {m : He} {nn T T' : Int} (h : Mg wC W m nn T) (hT : hi64 T') : Mg wC (W.setCell ⟨wC.heap.size, 4, none⟩ (.int .i64 T')) ⟨m.N, m.L, m.fa, m.fc, m.fz, m.ga, m.gc, m.gz, T'⟩ nn T' :=
  h.set rfl h.N h.L rfl ⟨h.ok.1, h.ok.2.1, h.ok.2.2.1, h.ok.2.2.2.1, hT⟩ h.s
theorem Mg.setF {wC W : World} {m x : He} {nn T : Int} (h : Mg wC W m nn T) (hx : x.ok wC) (hs : x.sm) : Mg wC (W.setCell ⟨wC.heap.size, 2, none⟩ (.slice x.fa x.fz.length x.fc)) ⟨m.N, m.L, x.fa, x.fc, x.fz, m.ga, m.gc, m.gz, m.M⟩ nn T :=
  h.set rfl h.N h.L h.M ⟨hx.1, h.ok.2.1, h.ok.2.2⟩ ⟨hs.1, h.s.2⟩
theorem Mg.setG {wC W : World} {m x : He} {nn T : Int} (h : Mg wC W m nn T) (hx : x.ok wC) (hs : x.sm) : Mg wC (W.setCell ⟨wC.heap.size, 3, none⟩ (.slice x.ga x.gz.length x.gc)) ⟨m.N, m.L, m.fa, m.fc, m.fz, x.ga, x.gc, x.gz, m.M⟩ nn T :=
  h.set rfl h.N h.L h.M ⟨h.ok.1, hx.2.1, h.ok.2.2⟩ ⟨h.s.1, hs.2⟩
theorem merged {W : World} {v : Value} {l l' : List He} {m : He} {q : Nat} {T nn : Int} {w0 : World} (ho : OwnH W w0.heap.size v l') (hok : ∀ x ∈ l', x.ok W) (ha : l'.map He.a = stayA l (l.map He.N) ++ madeA [m] ((q : Int) + 1)) (hN : m.N = nn) (hM : m.M = T) (hs : m.sm) (hT : 0 ≤ T ∧ T ≤ 2000) :
    ∃ la lc l2, v = .slice la l2.length lc ∧ En W la lc l2 (q + 1) T := by
  rw [stay_none] at ha
  have hl : l'.length = 1 := by have := congrArg List.length ha; simpa [madeA] using this
  obtain ⟨y, rfl⟩ : ∃ y, l' = [y] := by
    match l', hl with
    | [y], _ => exact ⟨y, rfl⟩
  have hy : y.a = (m.N, (q : Int) + 1, m.fz, m.gz, m.M) := by simpa [madeA] using ha
  have y0 : y.N = m.N := congrArg (·.1) hy
  have y1 : y.L = (q : Int) + 1 := congrArg (·.2.1) hy
  have y2 : y.fz = m.fz := congrArg (·.2.2.1) hy
  have y3 : y.gz = m.gz := congrArg (·.2.2.2.1) hy
  have y4 : y.M = m.M := congrArg (·.2.2.2.2) hy
  obtain ⟨la, lc, h1, _, h2, _⟩ := ownH_hs ho hok
  refine ⟨la, lc, [y], h1, h2, ?_, ?_, by simp, ?_, ?_, by simp, fun _ => rfl⟩
  · intro x hx; rw [List.mem_singleton.1 hx]; unfold He.sm; rw [y2, y3]; exact hs
  · intro x hx; rw [List.mem_singleton.1 hx, y1]; omega
  · intro x hx; rw [List.mem_singleton.1 hx, y4, hM]; exact hT
  · simp [totS, y4, hM]
set_option maxRecDepth 100000 in
set_option maxHeartbeats 16000000 in
theorem walk_ends (a : Option Addr) (n c : Nat) (zs : List Int) (w : World) (h : Zs w a n c zs) (hn : n ≤ 9223372036854775807) :
    Calls Try.prog 7 #[.slice a n c] w fun e w' => e = .returned (.bool true) ∧ Below w.heap.size w w' := by
  have HAK := hide (fun W => awake_any W)
  have HZ := hide (fun W (hW : Below w.heap.size w W) => h.below hW (Nat.le_refl _))
  have H0 := hide (show E0 w w (.slice none 0 0) [] 0 0 from ⟨rws_nil _ _, rfl, by simp, by simp, rfl, by simp, rfl, Below.refl _ _⟩)
  clear h
  go_enter Try.func7, Try.ntmps7
  go_wp2_with fail
  go_loopw [3, 4, 5] (fun v t s wr => ∃ (k : Nat) (T : Int), k ≤ n ∧ k ≤ 30 ∧ s = .int .i64 k ∧ t = .int .i64 T ∧ Hid (∃ l, E0 w wr v l k T)) (fun _ _ s _ => 30 - (intOf s).toNat)
  case atStart => exact ⟨0, 0, by omega, by omega, rfl, rfl, hide ⟨_, H0.out⟩⟩
  case round =>
    obtain ⟨k, T, hk, hk2, rfl, rfl, hst⟩ := hrel
    obtain ⟨l, hl0⟩ := hst.out
    have HE := hide hl0
    clear hst hl0 H0
    have hTr : 0 ≤ T ∧ T ≤ 2000 * k := by
      have := totS_range (l := l) (fun x hx => by have := HE.out.M x hx; omega) l.length
      rw [HE.out.T, HE.out.n] at this
      exact this
    obtain ⟨wr', hwr⟩ : ∃ x, x = wr := ⟨_, rfl⟩
    subst hwr
    go_upto_region 4 with fail
    go_cut [25] from 18 to 26 (fun s25 wx => s25 = .bool (decide (k < n ∧ k < 30)) ∧ wr' = wx)
    case first =>
      clear HE HZ HAK
      by_cases hlt : k < n
      · have q1 : (k : Int) < (n : Int) := by omega
        by_cases hl2 : k < 30
        · have q2 : (k : Int) < 30 := by omega
          go_wp2_with fail
          go_meet
          case rel => exact ⟨by simp [hlt, hl2], rfl⟩
        · have q2 : ¬ (k : Int) < 30 := by omega
          go_wp2_with fail
          go_meet
          case rel => exact ⟨by simp [hl2], rfl⟩
      · have q1 : ¬ ((k : Int) < (n : Int)) := by omega
        go_wp2_with fail
        go_meet
        case rel => exact ⟨by simp [hlt], rfl⟩
    case rest =>
    obtain ⟨rfl, hwc⟩ := hcut
    obtain ⟨wr, hwr⟩ : ∃ x, x = wr' := ⟨_, rfl⟩
    subst hwr
    subst hwc
    by_cases hkk : k < n ∧ k < 30
    · rw [decide_eq_true hkk]
      obtain ⟨hlt, hlt2⟩ := hkk
      obtain ⟨z, zb, zo, hz, rfl, hzc, hz1, hz2⟩ := zs_at (HZ.out _ HE.out.b) k hlt
      have q1 : (k : Int) < (n : Int) := by omega
      have q2 : (k : Int) < 30 := by omega
      have hzb : zb < wr.heap.size := World.block_lt_of_cell? wr _ hzc
      have m1 := and_mask z 63 (by decide)
      have m2 := and_mask (z / 64) 3 (by decide)
      obtain ⟨p, hp⟩ : ∃ p, bits .and .i64 z 63 = p := ⟨_, rfl⟩
      obtain ⟨q, hq⟩ : ∃ q, bits .and .i64 (z / 64) 3 = q := ⟨_, rfl⟩
      have r1 : 0 ≤ p ∧ p ≤ 63 := by rw [← hp]; exact m1
      have r2 : 0 ≤ q ∧ q ≤ 3 := by rw [← hq]; exact m2
      clear m1 m2 hz
      have u1 : IntKind.u8.wrap (k : Int) = (k : Int) := by simp [IntKind.wrap, IntKind.bits, IntKind.signed]; omega
      have u2 : IntKind.u8.wrap ((k : Int) + q) = (k : Int) + q := by simp [IntKind.wrap, IntKind.bits, IntKind.signed]; omega
      have HRO := hide ((HE.out.r.keep (nextW_below wr ((k : Int) + 1) 0 (p + 1) k (k + q))).o)
      have HEK := hide (nextW_ek wr ((k : Int) + 1) 0 (p + 1) k (k + q)).2.2
      have HSZ := hide (show w.heap.size ≤ (nextW wr ((k : Int) + 1) 0 (p + 1) k (k + q)).heap.size from Nat.le_trans HE.out.b.size (nextW_below _ _ _ _ _ _).size)
      have HLE := hide (show l.length ≤ 100000 from by have := HE.out.n; omega)
      unfold nextW at HRO HEK HSZ
      go_wp2_with (at_builtin; refine wpList_append_h rfl _ _ rfl w.heap.size _ l rfl HRO.out (wr.heap.size + 2) (nextH wr ((k : Int) + 1) 0 (p + 1) k (k + q)) rfl HEK.out HLE.out HSZ.out ?_; intro v6 w6 ho6 hg6 hk6 ha6)
      have HN := hide (HE.out.app (M := p + 1) (b1 := k) (b2 := k + q) ⟨by omega, by omega⟩ ⟨by omega, by omega⟩ (by omega) ⟨by omega, by omega⟩ ho6 hg6 ha6)
      clear ho6 hg6 hk6 ha6
      go_roundw
      case rel => exact ⟨k + 1, T + (p + 1), by omega, by omega, by go_num, by go_num, hide ⟨_, HN.out⟩⟩
      case measure => simp [intOf]; omega
    · have HEX := hide (show 0 ≤ T ∧ T ≤ 1920 ∧ k ≤ 30 from by
        have : ∀ i, totS l i ≤ 64 * i := by
          intro i
          induction i with
          | zero => simp [totS]
          | succ i ih =>
            cases hx : l[i]? with
            | none =>
              have e : totS l (i + 1) = totS l i := by unfold totS; rw [List.take_add_one, List.getElem?_map, hx]; simp
              rw [e]; omega
            | some x => rw [totS_more hx]; have := HE.out.M x (List.mem_of_getElem? hx); omega
        have h1 := this l.length
        rw [HE.out.T, HE.out.n] at h1
        exact ⟨hTr.1, by omega, hk2⟩)
      obtain ⟨la, lc, rfl, hen⟩ := HE.out.en hk2
      have hB1 : Hid (Below w.heap.size w wr) := hide HE.out.b
      have hl30 := hen.n
      have HS := hide (show ∃ (la' : Option Addr) (lc' : Nat) (l2 : List He), (.slice la l.length lc : Value) = .slice la' l2.length lc' ∧ En wr la' lc' l2 0 T ∧ Below w.heap.size w wr from ⟨la, lc, l, rfl, hen, HE.out.b⟩)
      obtain ⟨n0, hn0⟩ : ∃ n0, l.length = n0 := ⟨_, rfl⟩
      rw [hn0] at hl30 HS ⊢
      have HT := hide HEX.out
      clear hen HE HZ hTr hn0 HEX
      rw [decide_eq_false hkk]
      clear hkk hB1
      go_wp2_with fail
      go_loopw [3, 7, 8] (fun v u s wr => ∃ (q : Nat) (nn : Int), q ≤ 2 ∧ s = .int .i64 q ∧ u = .int .i64 nn ∧ Hid (0 ≤ nn ∧ nn ≤ 30 + q) ∧ Hid (∃ (la : Option Addr) (lc : Nat) (l : List He), v = .slice la l.length lc ∧ En wr la lc l q T ∧ Below w.heap.size w wr)) (fun _ _ s _ => 100 - (intOf s).toNat)
      case atStart => exact ⟨0, n0, by omega, rfl, rfl, hide ⟨by omega, by omega⟩, HS⟩
      case round =>
        obtain ⟨q, nn, hq2, rfl, rfl, hnn, hst⟩ := hrel
        obtain ⟨la1, lc1, l1, rfl, hen, hbw⟩ := hst.out
        have HEN := hide hen
        have HBW := hide hbw
        have hnr := hnn.out
        have hqq : (q : Int) < 100 := by omega
        have HPK := hide (pick_any la1 l1.length lc1 l1 wr hen.h hen.mild)
        have HLOW := hide (uni_low hen.L hq2)
        clear hst hen hbw hnn HS
        obtain ⟨Ln, hLn⟩ : ∃ Ln, l1.length = Ln := ⟨_, rfl⟩
        have HLN := hide hLn
        have hLn30 : Ln ≤ 30 := by have := HEN.out.n; omega
        rw [hLn] at HPK ⊢
        clear hLn
        cases hov : ovr l1 q with
        | false =>
          have hlo : low l1 = none := by rw [HLOW.out, hov]; rfl
          have hpe : pickE l1 = ([], 0, false) := by unfold pickE; rw [hlo]
          have HDN := hide (fun W (hW : Below wr.heap.size wr W) => done_any la1 Ln lc1 l1 W (by have := HEN.out.h.below hW (Nat.le_refl _); rwa [HLN.out] at this) HEN.out.mild)
          rw [hlo] at HDN
          have HZR := hide (show q = 0 → Ln < 4 from fun e => by
            subst e
            have h1 : ovr l1 0 = decide (4 ≤ (pos l1 0).length) := rfl
            rw [h1, (uni_pos HEN.out.L).1, List.length_range, HLN.out] at hov
            have := of_decide_eq_false hov
            omega)
          clear hov hlo HLOW
          go_wp2_with fail
          refine HPK.out.mono ?_
          rintro e w2 ⟨v, rfl, ho, hb2⟩
          rw [hpe]
          obtain ⟨va, vc, rfl⟩ : ∃ a c, v = .slice a 0 c := by
            rw [hpe] at ho
            obtain ⟨a, c, e⟩ := ownZ_slice ho
            exact ⟨a, c, e⟩
          have HB2 := hide hb2
          have HE2 := hide (HEN.out.keep hb2)
          clear ho hb2 HPK hpe
          go_wp2_with fail
          go_loopw [12, 13, 14] (fun u v s wx => w2 = wx ∧ ∃ i : Nat, i ≤ Ln ∧ s = .int .i64 i ∧ u = .int .i64 (totS l1 i) ∧ v = .int .i64 ((if q = 0 then i else 0 : Nat) : Int)) (fun _ _ s _ => Ln - (intOf s).toNat)
          case atStart => exact ⟨rfl, 0, by omega, rfl, rfl, by split <;> rfl⟩
          case round =>
            obtain ⟨rfl, i, hi, rfl, rfl, rfl⟩ := hrel
            by_cases hlt : i < Ln
            · have hh := HE2.out.h
              rw [HLN.out] at hh
              obtain ⟨x, ab, off, hx, rfl, hxok, x0, x1, x2, x3, x4⟩ := hs_at hh i hlt
              have HTM := hide (totS_more hx)
              have hxM := HE2.out.M x (List.mem_of_getElem? hx)
              have hxL := HE2.out.L x (List.mem_of_getElem? hx)
              have htr := totS_range HE2.out.M i
              have hqi : (i : Int) < (Ln : Int) := by omega
              rw [hxL] at x1
              generalize totS l1 i = S at *
              generalize x.M = xM at *
              clear hh hx hxok hxL
              rcases (show q = 0 ∨ q = 1 ∨ q = 2 by omega) with rfl | rfl | rfl
              all_goals
                go_wp2
                go_roundw
                case rel => exact ⟨by first | rfl | trivial, i + 1, by omega, by go_num, by rw [HTM.out], by first | rfl | go_num⟩
                case measure => simp [intOf]; omega
            · obtain rfl : i = Ln := by omega
              have hqi : ¬ ((i : Int) < (i : Int)) := by omega
              have htt : totS l1 i = T := by have := HE2.out.T; rwa [HLN.out] at this
              rw [htt]
              have qt : (T == T) = true := by simp
              have q4 : ((if q = 0 then i else 0 : Nat) : Int) < 4 := by
                by_cases e : q = 0
                · rw [if_pos e]; have := HZR.out e; omega
                · rw [if_neg e]; omega
              generalize ((if q = 0 then i else 0 : Nat) : Int) = Z at *
              have HDD := hide (HDN.out w2 HB2.out)
              clear HE2 htt
              go_wp2_with fail
              refine HDD.out.mono ?_
              rintro e w3 ⟨rfl, hb3⟩
              have HB3 := hide (HB2.out.trans (hb3.mono HB2.out.size))
              clear hb3 HDD
              go_wp2_with fail
              refine (HAK.out w3).mono ?_
              rintro e w4 ⟨rfl, hb4⟩
              have HB4 := hide (HBW.out.trans ((HB3.out.trans (hb4.mono HB3.out.size)).mono HBW.out.size))
              clear hb4
              go_wp2
              go_ret
              exact ⟨rfl, HB4.out⟩
        | true =>
          have hq1 : q ≤ 1 := by
            rcases (show q ≤ 1 ∨ q = 2 by omega) with h | rfl
            · exact h
            · have h1 : ovr l1 2 = decide (2000 < sumM l1 2) := rfl
              rw [h1, (uni_sum HEN.out.L).1, HEN.out.T] at hov
              have := of_decide_eq_true hov
              have := HT.out
              omega
          have hlo : low l1 = some q := by rw [HLOW.out, hov]; rfl
          have hpe := uni_pick HEN.out.L HEN.out.q1 hlo
          have HNE := hide (show 0 < Ln from by
            rcases Nat.eq_zero_or_pos Ln with h | h
            · exfalso
              have h0 : l1 = [] := List.eq_nil_of_length_eq_zero (by rw [HLN.out]; exact h)
              rw [h0] at hlo
              simp [low, ovr, pos, posN, sumM, sumP] at hlo
            · exact h)
          clear hov hlo HLOW
          go_wp2_with fail
          refine HPK.out.mono ?_
          rintro e w2 ⟨v, rfl, ho, hb2⟩
          rw [hpe] at ho ⊢
          obtain ⟨pa, pc, rfl, _, hpz, _⟩ := ownZ_zs ho (fun z hz => by
            obtain ⟨x, hx, rfl⟩ := List.mem_map.1 hz
            exact (HEN.out.h.2.2.1 x hx).2.2.1)
          rw [List.length_map, HLN.out] at hpz ⊢
          have HB2 := hide hb2
          have HE2 := hide (HEN.out.keep hb2)
          have HPZ := hide hpz
          have hne := HNE.out
          have qa : ((Ln : Int) == 0) = false := by simpa using (show ¬ ((Ln : Int) = 0) by omega)
          have qb : ¬ ((q : Int) + 1 < 1) := by omega
          have qc : ¬ ((q : Int) + 1 > 3) := by omega
          clear ho hb2 HPK hpe hpz
          go_wp2_with fail
          have s1 : ∀ (x : World) (o : Obj), (x.alloc o).heap.size = x.heap.size + 1 := fun x o => by simp
          obtain ⟨wC, hwC⟩ : ∃ wC, wC = w2.alloc (Obj.cells #[.int .u8 255] 5) := ⟨_, rfl⟩
          have hCs : wC.heap.size = w2.heap.size + 1 := by rw [hwC]; exact s1 _ _
          have bC : Below w2.heap.size w2 wC := by rw [hwC]; exact (Below.refl _ _).alloc (Nat.le_refl _) _
          have eC : Ek wC w2.heap.size #[.int .u8 255] 5 := by rw [hwC]; exact ek_new _ _ _
          have M0 := hide (show Mg wC (wC.alloc (Obj.cells #[.int .i64 (nn + 1), .int .i64 0, .slice (some ⟨w2.heap.size, 0, none⟩) 1 1, .slice none 0 0, .int .i64 0] 27)) ⟨nn + 1, 0, some ⟨w2.heap.size, 0, none⟩, 1, [255], none, 0, [], 0⟩ (nn + 1) (totS l1 0) from
            ⟨rfl, rfl, rfl, ⟨⟨bs_oneb eC (by decide) (by decide), (show 1 ≤ 9223372036854775807 by decide)⟩, ⟨bs_nil _, (show 0 ≤ 9223372036854775807 by decide)⟩, ⟨by show -9223372036854775808 ≤ nn + 1; omega, by show nn + 1 ≤ 9223372036854775807; omega⟩, (show hi64 0 from ⟨by decide, by decide⟩), (show hi64 0 from ⟨by decide, by decide⟩)⟩, ⟨(show 1 ≤ 140737488355328 by decide), (show 0 ≤ 140737488355328 by decide)⟩, ek_new _ _ _, (Below.refl _ _).alloc (Nat.le_refl _) _⟩)
          have HEC := hide (HE2.out.keep bC)
          have HPC := hide (HPZ.out.below bC (Nat.le_refl _))
          have HBC := hide (HB2.out.trans (bC.mono HB2.out.size))
          have HCS := hide hCs
          rw [← hwC]
          clear eC bC HE2 HPZ HB2 s1
          have hmb : w2.heap.size + 1 = wC.heap.size := hCs.symm
          rw [hmb]
          clear hmb hCs hwC
          generalize wC.alloc (Obj.cells #[.int .i64 (nn + 1), .int .i64 0, .slice (some ⟨w2.heap.size, 0, none⟩) 1 1, .slice none 0 0, .int .i64 0] 27) = wD at *
          generalize w2.heap.size = fb at *
          have M1 := hide (show ∃ m : He, Mg wC wD m (nn + 1) (totS l1 0) from ⟨_, M0.out⟩)
          clear M0
          go_loopw [16] (fun s wr => ∃ i : Nat, i ≤ Ln ∧ s = .int .i64 i ∧ Hid (∃ m : He, Mg wC wr m (nn + 1) (totS l1 i))) (fun s _ => Ln - (intOf s).toNat)
          case atStart => exact ⟨0, by omega, rfl, M1⟩
          case round =>
            obtain ⟨i, hi, rfl, hst⟩ := hrel
            by_cases hlt : i < Ln
            · have hqi : (i : Int) < (Ln : Int) := by omega
              have hh := HEC.out.h
              rw [HLN.out] at hh
              obtain ⟨x, ab, off, hx, rfl, hxok, x0, x1, x2, x3, x4⟩ := hs_at hh i hlt
              have HX := hide (And.intro hx (And.intro hxok (And.intro x0 (And.intro x2 (And.intro x3 x4)))))
              have HTM := hide (totS_more hx)
              have hxM := HEC.out.M x (List.mem_of_getElem? hx)
              have hxs := hide (HEC.out.s x (List.mem_of_getElem? hx))
              have htr := totS_range HEC.out.M i
              have HM0 := hide (show ∃ m : He, Mg wC wr m (nn + 1) (totS l1 i + if i < 0 then x.M else 0) from by
                obtain ⟨m, hm⟩ := hst.out
                exact ⟨m, by rw [if_neg (by omega), Int.add_zero]; exact hm⟩)
              clear hh hx hxok x0 x1 x2 x3 x4 hst M1
              go_wp2_with fail
              go_loopw [17] (fun s wr => ∃ k : Nat, k ≤ Ln ∧ s = .int .i64 k ∧ Hid (∃ m : He, Mg wC wr m (nn + 1) (totS l1 i + if i < k then x.M else 0))) (fun s _ => Ln - (intOf s).toNat)
              case atStart => exact ⟨0, by omega, rfl, HM0⟩
              case round =>
                obtain ⟨k, hk, rfl, hst2⟩ := hrel
                obtain ⟨m, hm⟩ := hst2.out
                have HM := hide hm
                clear hst2 hm HM0
                by_cases hltk : k < Ln
                · have hqk : (k : Int) < (Ln : Int) := by omega
                  obtain ⟨z, zb, zo, hz, rfl, hzc0, _, _⟩ := zs_at HPC.out k hltk
                  have HNS := hide (num_same HEC.out.N HX.out.1 hz)
                  have cc : ∀ {b o : Nat} {u : Value}, wC.cell? ⟨b, o, none⟩ = some u → wr.cell? ⟨b, o, none⟩ = some u := fun {b o u} h => (HM.out.b.cell (p := ⟨b, o, none⟩) (World.block_lt_of_cell? wC _ h)).trans h
                  have hzc := cc hzc0
                  have x0 := cc HX.out.2.2.1
                  have x2 := cc HX.out.2.2.2.1
                  have x3 := cc HX.out.2.2.2.2.1
                  have x4 := cc HX.out.2.2.2.2.2
                  clear cc hz hzc0
                  by_cases hki : k = i
                  · have qn : (z == x.N) = true := by rw [HNS.out]; exact decide_eq_true hki
                    have HTS := hide (show (totS l1 i + if i < k then x.M else 0) = totS l1 i from by rw [if_neg (by omega), Int.add_zero])
                    have HTE := hide (show (totS l1 i + if i < k + 1 then x.M else 0) = totS l1 i + x.M from by rw [if_pos (by omega)])
                    have hM0 := HM.out
                    rw [HTS.out] at hM0
                    have HM1 := hide hM0
                    have d2 : wr.cell? ⟨wC.heap.size, 2, none⟩ = some (.slice m.fa m.fz.length m.fc) := HM1.out.e.cell (o := 2) rfl
                    have d3 : wr.cell? ⟨wC.heap.size, 3, none⟩ = some (.slice m.ga m.gz.length m.gc) := HM1.out.e.cell (o := 3) rfl
                    have d4 : wr.cell? ⟨wC.heap.size, 4, none⟩ = some (.int .i64 (totS l1 i)) := by rw [← HM1.out.M]; exact HM1.out.e.cell (o := 4) rfl
                    have g4 := HM1.out.e.free 4
                    have hMX := hide (show hi64 (totS l1 i + x.M) from ⟨by omega, by omega⟩)
                    generalize totS l1 i = S at *
                    obtain ⟨mb, hmb⟩ : ∃ mb, wC.heap.size = mb := ⟨_, rfl⟩
                    rw [hmb] at d2 d3 d4 g4 ⊢
                    have HKI := hide hki
                    clear hM0 HM HNS hki
                    go_wp2_with fail
                    go_region
                    go_wp2_with fail
                    go_region
                    have HMM := hide (show Mg wC (wr.setCell ⟨mb, 4, none⟩ (.int .i64 (S + x.M))).drew.drew _ (nn + 1) (S + x.M) from by rw [← hmb]; exact (HM1.out.setM hMX.out).drew.drew)
                    clear hzc x0 x2 x3 x4 d2 d3 d4 g4 HM1
                    have hmbE := hide hmb
                    generalize (wr.setCell ⟨mb, 4, none⟩ (.int .i64 (S + x.M))).drew.drew = W1 at *
                    have cc : ∀ {b o : Nat} {u : Value}, wC.cell? ⟨b, o, none⟩ = some u → W1.cell? ⟨b, o, none⟩ = some u := fun {b o u} h => (HMM.out.b.cell (p := ⟨b, o, none⟩) (World.block_lt_of_cell? wC _ h)).trans h
                    have x2 := cc HX.out.2.2.2.1
                    have d2 : W1.cell? ⟨mb, 2, none⟩ = some (.slice m.fa m.fz.length m.fc) := by rw [← hmb]; exact HMM.out.e.cell (o := 2) rfl
                    have g2 : W1.frozen? ⟨mb, 2, none⟩ = false := by rw [← hmb]; exact HMM.out.e.free 2
                    have n1 := conv_bs (HX.out.2.1.below HMM.out.b.drew (Nat.le_refl _)).1.1
                    have n2 := conv_bs (HMM.out.ok.below HMM.out.b.drew (Nat.le_refl _)).1.1
                    simp only at n2
                    obtain ⟨S1, hS1⟩ : ∃ S, strOfNums x.fz = S := ⟨_, rfl⟩
                    obtain ⟨S2, hS2⟩ : ∃ S, strOfNums m.fz = S := ⟨_, rfl⟩
                    rw [hS1] at n1
                    rw [hS2] at n2
                    obtain ⟨B1, hB1⟩ : ∃ B, Op.bytesLess S1.toList S2.toList = B := ⟨_, rfl⟩
                    have HSF := hide (show Mg wC (W1.setCell ⟨mb, 2, none⟩ (.slice x.fa x.fz.length x.fc)).drew _ (nn + 1) (S + x.M) from by rw [← hmb]; exact (HMM.out.setF HX.out.2.1 hxs.out).drew)
                    clear cc hS1 hS2 hmb
                    go_wp2_with fail
                    go_region
                    go_upto_if 162 with fail
                    go_cut [17] from 163 to 168 (fun s17 wx => s17 = .int .i64 k ∧ Hid (∃ m2 : He, Mg wC wx m2 (nn + 1) (S + x.M)))
                    case first =>
                      have HMD := hide HMM.out.drew
                      clear HMM HAK HEC HPC HX HTM
                      cases B1 with
                      | true =>
                        go_wp2_with fail
                        go_meet
                        case rel => exact ⟨rfl, hide ⟨_, HSF.out⟩⟩
                      | false =>
                        go_wp2_with fail
                        go_meet
                        case rel => exact ⟨rfl, hide ⟨_, HMD.out⟩⟩
                    case rest =>
                      obtain ⟨rfl, hm2⟩ := hcut
                      obtain ⟨m2, hm3⟩ := hm2.out
                      have HM2 := hide hm3
                      have hmb := hmbE.out
                      clear hm2 hm3 HMM HSF x2 d2 g2 n1 n2 hB1
                      have cc : ∀ {b o : Nat} {u : Value}, wC.cell? ⟨b, o, none⟩ = some u → wc.cell? ⟨b, o, none⟩ = some u := fun {b o u} h => (HM2.out.b.cell (p := ⟨b, o, none⟩) (World.block_lt_of_cell? wC _ h)).trans h
                      have x3 := cc HX.out.2.2.2.2.1
                      have d3 : wc.cell? ⟨mb, 3, none⟩ = some (.slice m2.ga m2.gz.length m2.gc) := by rw [← hmb]; exact HM2.out.e.cell (o := 3) rfl
                      have g3 : wc.frozen? ⟨mb, 3, none⟩ = false := by rw [← hmb]; exact HM2.out.e.free 3
                      have n1 := conv_bs (HX.out.2.1.below HM2.out.b.drew (Nat.le_refl _)).2.1.1
                      have n2 := conv_bs (HM2.out.ok.below HM2.out.b.drew (Nat.le_refl _)).2.1.1
                      obtain ⟨S3, hS3⟩ : ∃ S, strOfNums x.gz = S := ⟨_, rfl⟩
                      obtain ⟨S4, hS4⟩ : ∃ S, strOfNums m2.gz = S := ⟨_, rfl⟩
                      rw [hS3] at n1
                      rw [hS4] at n2
                      obtain ⟨B2, hB2⟩ : ∃ B, Op.bytesLess S3.toList S4.toList = B := ⟨_, rfl⟩
                      obtain ⟨B3, hB3⟩ : ∃ B, (S3.toList == S4.toList) = B := ⟨_, rfl⟩
                      have HSF := hide (show ∃ m3 : He, Mg wC (wc.setCell ⟨mb, 3, none⟩ (.slice x.ga x.gz.length x.gc)).drew m3 (nn + 1) (S + if i < k + 1 then x.M else 0) from ⟨_, by rw [HTE.out, ← hmb]; exact (HM2.out.setG HX.out.2.1 hxs.out).drew⟩)
                      have HMD := hide (show ∃ m3 : He, Mg wC wc.drew m3 (nn + 1) (S + if i < k + 1 then x.M else 0) from ⟨_, by rw [HTE.out]; exact HM2.out.drew⟩)
                      clear cc hS3 hS4 hmb HM2 HTE HTS
                      cases B2 with
                      | true =>
                        go_wp2_with fail
                        go_region
                        go_wp2
                        go_roundw
                        case rel => exact ⟨k + 1, by omega, by go_num, HMD⟩
                        case measure => simp [intOf]; omega
                      | false =>
                        cases B3 with
                        | true =>
                          go_wp2_with fail
                          go_region
                          go_wp2
                          go_roundw
                          case rel => exact ⟨k + 1, by omega, by go_num, HMD⟩
                          case measure => simp [intOf]; omega
                        | false =>
                          go_wp2_with fail
                          go_region
                          go_wp2
                          go_roundw
                          case rel => exact ⟨k + 1, by omega, by go_num, HSF⟩
                          case measure => simp [intOf]; omega
                  · have qn : (z == x.N) = false := by rw [HNS.out]; exact decide_eq_false hki
                    have HNX := hide (show ∃ m : He, Mg wC wr.drew m (nn + 1) (totS l1 i + if i < k + 1 then x.M else 0) from ⟨m, by
                      have : (if i < k + 1 then x.M else 0) = (if i < k then x.M else 0) := by
                        by_cases h : i < k
                        · rw [if_pos h, if_pos (by omega)]
                        · rw [if_neg h, if_neg (by omega)]
                      rw [this]; exact HM.out.drew⟩)
                    generalize x.N = xN at *
                    clear HNS HM x2 x3 x4
                    go_wp2_with fail
                    go_region
                    go_wp2
                    go_roundw
                    case rel => exact ⟨k + 1, by omega, by go_num, HNX⟩
                    case measure => simp [intOf]; omega
                · obtain hkL : Ln = k := by omega
                  subst hkL
                  have hqk : ¬ ((Ln : Int) < (Ln : Int)) := by omega
                  have HNX := hide (show ∃ m : He, Mg wC wr m (nn + 1) (totS l1 (i + 1)) from ⟨m, by have := HM.out; rw [if_pos hlt] at this; rw [HTM.out]; exact this⟩)
                  clear HM
                  go_wp2
                  go_roundw
                  case rel => exact ⟨i + 1, by omega, by go_num, HNX⟩
                  case measure => simp [intOf]; omega
            · obtain hiL : Ln = i := by omega
              subst hiL
              have hqi : ¬ ((Ln : Int) < (Ln : Int)) := by omega
              obtain ⟨m, hm⟩ := hst.out
              have htt : totS l1 Ln = T := by have := HEC.out.T; rwa [HLN.out] at this
              rw [htt] at hm
              have HM := hide hm
              have d0 : wr.cell? ⟨wC.heap.size, 0, none⟩ = some (.int .i64 m.N) := hm.e.cell (o := 0) rfl
              have d1 : wr.cell? ⟨wC.heap.size, 1, none⟩ = some (.int .i64 m.L) := hm.e.cell (o := 1) rfl
              have d2 : wr.cell? ⟨wC.heap.size, 2, none⟩ = some (.slice m.fa m.fz.length m.fc) := hm.e.cell (o := 2) rfl
              have d3 : wr.cell? ⟨wC.heap.size, 3, none⟩ = some (.slice m.ga m.gz.length m.gc) := hm.e.cell (o := 3) rfl
              have d4 : wr.cell? ⟨wC.heap.size, 4, none⟩ = some (.int .i64 m.M) := hm.e.cell (o := 4) rfl
              have A5 := (Below.refl _ wr).alloc (Nat.le_refl _) (Obj.cells m.cs.toArray 27)
              have b5 := hm.b.trans (A5.mono hm.b.size)
              have e5 := ek_new wr m.cs.toArray 27
              have hh5 := HEC.out.h.below b5 (Nat.le_refl _)
              rw [HLN.out] at hh5
              have HAF := hide (after_any la1 Ln lc1 l1 pa Ln pc (l1.map He.N) ((q : Int) + 1) (some ⟨wr.heap.size, 0, none⟩) 1 1 [m] _ hh5 (HPC.out.below b5 (Nat.le_refl _)) ⟨by omega, by omega⟩ (hs_of_ek (l := [m]) (by simpa [hcs] using e5) (by intro x hx; rw [List.mem_singleton.1 hx]; exact hm.ok.below b5 (Nat.le_refl _)) 1 (Nat.le_refl _)) (by omega) (by omega) (by omega) HEC.out.s (by intro x hx; rw [List.mem_singleton.1 hx]; exact hm.s))
              have HB5 := hide (HBW.out.trans ((HBC.out.trans (b5.mono HBC.out.size)).mono HBW.out.size))
              clear hst hm A5 b5 e5 hh5 M1 htt
              go_wp2_with fail
              refine HAF.out.mono ?_
              rintro e w6 ⟨v6, l6, rfl, ho6, hok6, ha6, hb6⟩
              obtain ⟨lx, lcx, l7, rfl, hen7⟩ := merged ho6 hok6 ha6 HM.out.N HM.out.M HM.out.s (by have := HT.out; omega)
              have HN7 := hide (show ∃ (la' : Option Addr) (lc' : Nat) (l' : List He), (.slice lx l7.length lcx : Value) = .slice la' l'.length lc' ∧ En w6 la' lc' l' (q + 1) T ∧ Below w.heap.size w w6 from ⟨lx, lcx, l7, rfl, hen7, HB5.out.trans (hb6.mono HB5.out.size)⟩)
              clear ho6 hok6 ha6 hen7 hb6 HAF d0 d1 d2 d3 d4
              go_wp2
              go_roundw
              case rel => exact ⟨q + 1, nn + 1, by omega, by go_num, rfl, hide ⟨by omega, by omega⟩, HN7⟩
              case measure => simp [intOf]; omega

end Go.Proofs.Ytcbphalhjajapaa.Clep
