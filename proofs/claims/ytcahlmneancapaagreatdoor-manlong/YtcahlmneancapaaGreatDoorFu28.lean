/- The statement ManLong: it answers true (a walk over the translated program). No conditions. -/
import Derived.Test.YtcahlmneancapaaGreatDoorFu26
import Derived.Test.YtcahlmneancapaaGreatDoorFu27
import Derived.BigRegion
import Derived.Deep.CutRange
import Derived.Deep.RegionWith
namespace Go.Proofs.YtcahlmneancapaaGreatDoor.Clep
open Go.RowKit Go.Maps Go.Sort
set_option linter.unusedVariables false
set_option maxRecDepth 10000

/-- Between two rounds of ManLong: the Disk at R, the manifest at M, the View of the statement's own at B. -/
structure LgL (w wr : World) (M R B i : Nat) (n c T : Nat) (S : St) (l : List Ed) : Prop where
  km : Km (fun k => k < w.heap.size ∨ k = B) wr M R n c (flV i) false S
  mp : Mp S T n l (el l).length (flV i)
  len : l.length = c
  calm : Calm S
  q : S.q = 1048576
  tot : tot S ≤ 3000 + 1312 * i + 1334 * T
  pot : 30 * T + c ≤ i + 31
  calls : S.calls ≤ 1000 + 200 * i
  few : ∀ t, lk S.names t ≠ 0 → t = nCur ∨ t = mnm n
  cell : Ek wr B #[.int .i64 1, .slice none 0 0, .int .u64 i, .int .u64 0, .int .u64 0, .int .u64 0] 31
  new : w.heap.size ≤ B
  bel : Below w.heap.size w wr
theorem flV_zero : flV 0 = oneV := rfl
theorem flE_appl0 {x y : Int} (h0 : 1 ≤ x) (h1 : x ≤ 1000) : appl (flV y) (flE x) = some (flV x) := flE_appl h0 (by omega)
/-- A Save on a Disk where nothing fails. -/
theorem mp_save_calm {S : St} {T n : Nat} {l : List Ed} {V U : Vw} {E : Ed} (h : Mp S T n l (el l).length V) (hc : Calm S) (hE : Eg E) (ha : appl V E = some U) (hq : tot S + 1312 ≤ 250000) (hq2 : tot S + 1312 ≤ S.q) :
    ∃ S', saveS S (mnm n) (fr 6 (ebd E)) = (0, 2, S') ∧ Calm S' ∧ S'.calls ≤ S.calls + 2 ∧ tot S' ≤ tot S + 1312 ∧ S'.q = S.q ∧ lk S'.names = lk S.names ∧ Mp S' T n (l ++ [E]) (el (l ++ [E])).length U := by
  obtain ⟨E1, ph, S', e⟩ : ∃ E1 ph S', saveS S (mnm n) (fr 6 (ebd E)) = (E1, ph, S') := ⟨_, _, _, rfl⟩
  obtain ⟨m, c, t, q, nm, r⟩ := mp_save h hE ha hq hq2 e
  obtain ⟨z, k⟩ := m.calm hc
  subst z
  rcases r with ⟨-, r, -⟩ | ⟨-, r, -⟩ | ⟨rfl, -, P⟩
  · exact absurd rfl r
  · exact absurd rfl r
  · exact ⟨S', e, k, c, t, q, nm, P⟩
theorem mp_renew_calm {S : St} {T n : Nat} {l : List Ed} {L : Nat} {V : Vw} (h : Mp S T n l L V) (hc : Calm S) (h6 : T + 1 ≤ 60) (hq : tot S + 1334 ≤ 250000) (hq2 : tot S + 1334 ≤ S.q) :
    ∃ S', renewS S (nextS S) (whB V) (leB (nextS S)) = (0, 2, S') ∧ nextS S = T + 1 ∧ Calm S' ∧ S'.calls ≤ S.calls + 100 ∧ tot S' ≤ tot S + 1334 ∧ S'.q = S.q ∧ Mp S' (T + 1) (T + 1) [wholeE V] (el [wholeE V]).length V ∧ (∀ t, lk S'.names t ≠ 0 → t = nCur ∨ t = mnm (T + 1)) := by
  obtain ⟨E1, ph, S', e⟩ : ∃ E1 ph S', renewS S (nextS S) (whB V) (leB (nextS S)) = (E1, ph, S') := ⟨_, _, _, rfl⟩
  obtain ⟨hn, m, c, t, q, r⟩ := mp_renew h hc.2.2 h6 hq hq2 e
  obtain ⟨z, k⟩ := m.calm hc
  subst z
  rcases r with ⟨-, r, -⟩ | ⟨-, r, -⟩ | ⟨rfl, -, P, f⟩
  · exact absurd rfl r
  · exact absurd rfl r
  · exact ⟨S', e, hn, k, c, t, q, P, f hc.1 hc.2.1⟩
/-- Open where nothing fails and all lasts. -/
theorem kd_open_calm {K : Nat → Prop} {w : World} {R n T : Nat} {S : St} {l : List Ed} {V : Vw} (h : Kd K w R S) (P : Mp S T n l (el l).length V) (hc : Calm S) (h6 : T + 1 ≤ 60) (hq : tot S + 1334 ≤ 250000) (hq2 : tot S + 1334 ≤ S.q) (hm : S.calls < 68719476736) :
    Calls Tryz.prog 12 #[.pointer (some ⟨R, 0, none⟩)] w fun e w' => ∃ M S' n' T' l', e = .returned (.tuple #[.pointer (some ⟨M, 0, none⟩), .int .i64 0]) ∧ Km K w' M R n' l'.length V false S' ∧ Same K w w' ∧ w.heap.size ≤ M ∧
      Mp S' T' n' l' (el l').length V ∧ Calm S' ∧ S'.q = S.q ∧ S'.calls ≤ S.calls + 100 ∧ l'.length ≤ 30 ∧
      ((l.length ≤ 30 ∧ S' = S ∧ T' = T ∧ n' = n ∧ l' = l) ∨ (30 < l.length ∧ T' = T + 1 ∧ n' = T + 1 ∧ l'.length = 1 ∧ tot S' ≤ tot S + 1334 ∧ ∀ t, lk S'.names t ≠ 0 → t = nCur ∨ t = mnm (T + 1))) := by
  obtain ⟨rp, sp⟩ := rpE_el P.eg P.ap P.pos
  refine (kd_open_go h P.dk P.top hc.2.2 P.solo rp P.nn h6 hq hq2 hm).mono ?_
  rintro e w' ⟨hs, q1, q2⟩
  by_cases h30 : l.length ≤ 30
  · obtain ⟨M, rfl, k, hb, hM⟩ := q1 ⟨rfl, by omega⟩
    rw [sp] at k
    exact ⟨M, S, n, T, l, rfl, k, hs, hM, P, hc, rfl, by omega, h30, .inl ⟨h30, rfl, rfl, rfl, rfl⟩⟩
  · obtain ⟨E, ph, S', e1, -, -, q3⟩ := q2 (fun h => by omega)
    obtain ⟨S2, e2, hn, hk, hcl, ht, hq', P2, hf⟩ := mp_renew_calm P hc h6 hq hq2
    rw [e2] at e1
    injection e1 with a1 a2
    injection a2 with a2 a3
    subst a1 a2 a3
    obtain ⟨M, rfl, k, hM⟩ := q3 rfl
    rw [if_neg (by decide), if_neg (by decide), hn] at k
    exact ⟨M, S2, T + 1, T + 1, [wholeE V], rfl, k, hs, hM, P2, hk, hq', by omega, by simp, .inr ⟨by omega, rfl, rfl, rfl, ht, hf⟩⟩
theorem keys_in {D : DataW Unit} {N : List ByteArray} (h : HL D) (hs : ∀ s, lk D s ≠ 0 → s ∈ N) : Maps.size D ≤ N.length := by
  have hnd : ((entries D).map (·.1)).Nodup := by
    obtain ⟨es, rfl, hT⟩ := h.tidy
    exact List.pairwise_map.2 hT
  have hk : ∃ l : List ByteArray, (entries D).map (·.1) = l.map key ∧ ∀ s ∈ l, s ∈ N := by
    have : ∀ es : List (Lit × DataW Unit), (∀ p ∈ es, p ∈ entries D) → ∃ l : List ByteArray, es.map (·.1) = l.map key ∧ ∀ s ∈ l, s ∈ N := by
      intro es
      induction es with
      | nil => intro _; exact ⟨[], rfl, by simp⟩
      | cons p r ih =>
        intro hp
        obtain ⟨l, h1, h2⟩ := ih (fun q hq => hp q (List.mem_cons_of_mem _ hq))
        obtain ⟨s, es⟩ := h.keys p (hp p List.mem_cons_self)
        refine ⟨s :: l, by simp [h1, es], fun t ht => ?_⟩
        rcases List.mem_cons.1 ht with rfl | ht
        · exact hs _ (entry_lk h (hp p List.mem_cons_self) es).2
        · exact h2 t ht
    exact this _ (fun _ h => h)
  obtain ⟨l, e, hl⟩ := hk
  have hsz : Maps.size D = l.length := by
    have h1 : (entries D).length = l.length := by have := congrArg List.length e; simpa using this
    obtain ⟨es, rfl, _⟩ := h.tidy
    exact h1
  have hnl : l.Nodup := by
    rw [e] at hnd
    exact (List.pairwise_map.1 hnd).imp (fun {a b} h e => h (by rw [e]))
  have := len_sub l N hnl hl
  omega
theorem few_list {S : St} {T n : Nat} (D : Dk S T) (hd : S.dead = false) (hf : ∀ t, lk S.names t ≠ 0 → t = nCur ∨ t = mnm n) : (listS S).length ≤ 3 := by
  have h := keys_in (N := [nCur, mnm n]) D.hn (fun s hs => by rcases hf s hs with e | e <;> simp [e])
  have e : (namesL S).length = Maps.size S.names := by
    unfold namesL
    rw [List.length_mergeSort]
    obtain ⟨es, he, _⟩ := D.hn.tidy
    rw [he]
    exact List.length_map _
  unfold listS
  rw [hd]
  simp at h
  simp
  omega
set_option maxHeartbeats 8000000 in
theorem manlong_any (n when : Int) (w : World) :
    Calls Tryz.prog 3 #[.int .i64 n, .int .i64 when] w fun e w' => e = .returned (.bool true) ∧ Below w.heap.size w w' := by
  obtain ⟨S1, N1⟩ := newOk_one 1048576 (by decide)
  have P1 := mp_new N1 vok_one one_nn
  have ND := hide (kd_new 1048576 w (by decide) 1048576 rfl)
  have HN1 := hide N1
  have HP1 := hide P1
  clear N1 P1
  go_enter Tryz.func3, Tryz.ntmps3
  go_wp2_with fail
  refine ND.out.mono ?_
  rintro e w1 ⟨R, rfl, D1, s1⟩
  have NM := hide (km_new none 0 0 oneV D1 (fs_nil w1) (by decide) vok_one one_nn HN1.out)
  have HS1 := hide s1
  unfold vwV oneV at NM
  clear ND D1 s1
  go_wp2_with fail
  refine NM.out.mono ?_
  rintro e w2 ⟨M, rfl, K2, s2, -⟩
  have HK2 := hide K2
  have HS2 := hide s2
  clear NM K2 s2
  go_wp2_with fail
  generalize hB : w2.heap.size = B
  generalize hwa : w2.alloc (Obj.cells #[.int .i64 1, .slice none 0 0, .int .u64 0, .int .u64 0, .int .u64 0, .int .u64 0] 31) = wa
  have S0 := hide (show LgL w wa M R B 0 1 1 1 S1 [wholeE oneV] from by
    subst hB hwa
    have hb : Below w2.heap.size w2 (w2.alloc (Obj.cells #[.int .i64 1, .slice none 0 0, .int .u64 0, .int .u64 0, .int .u64 0, .int .u64 0] 31)) := (Below.refl _ w2).alloc (Nat.le_refl _) _
    have h1 := one_len
    have h2 := leB_len 1
    have ht := HN1.out.tot
    have hcl := HN1.out.calls
    have hsz := HS1.out.size
    have hsz2 := HS2.out.size
    have hbel : Below w.heap.size w w2 := (HS1.out.below (fun i hi => hi)).trans ((HS2.out.below (fun i hi => hi)))
    exact ⟨HK2.out.more _, HP1.out, rfl, HN1.out.calm, HN1.out.q, by omega, by omega, by omega, HN1.out.few, ek_new w2 _ _, by omega, hbel.trans (hb.mono (by omega))⟩)
  clear hB hwa HN1 HP1 HS1 HS2 HK2
  go_loopw [6, 9] (fun s6 s9 wr => ∃ i M n c T S l, i ≤ 100 ∧ s6 = .pointer (some ⟨M, 0, none⟩) ∧ s9 = .int .i64 (i : Nat) ∧ Hid (LgL w wr M R B i n c T S l)) (fun _ t _ => 100 - (intOf t).toNat)
  case atStart => exact ⟨0, M, 1, 1, 1, S1, _, by omega, rfl, rfl, S0⟩
  case round =>
    obtain ⟨i, M, n', c, T, S, l, hi, rfl, rfl, hst⟩ := hrel
    clear S0
    obtain ⟨wr', hwr⟩ : ∃ x, x = wr := ⟨_, rfl⟩
    subst hwr
    go_upto_region 7 with fail
    go_cut [37] from 30 to 78 (fun s37 wx => ∃ b, s37 = .bool b ∧ (b = true → i < 100) ∧ wr' = wx)
    case first =>
      clear hst
      by_cases q1 : (i : Int) < bits .and .i64 n 127
      · by_cases q2 : (i : Int) < 100
        · go_wp2_with fail
          go_meet
          case rel => exact ⟨_, rfl, fun _ => by omega, rfl⟩
        · go_wp2_with fail
          go_meet
          case rel => exact ⟨false, rfl, (fun h => by cases h), rfl⟩
      · go_wp2_with fail
        go_meet
        case rel => exact ⟨false, rfl, (fun h => by cases h), rfl⟩
    case rest =>
      obtain ⟨b, rfl, hb100, hwc⟩ := hcut
      obtain ⟨wr, hwr⟩ : ∃ x, x = wr' := ⟨_, rfl⟩
      subst hwr
      subst hwc
      cases b with
      | true =>
        have hi1 : i < 100 := hb100 rfl
        clear hb100
        have hBlt := hst.out.cell.lt
        have hBne : B ≠ wr.heap.size := by omega
        have cB := hst.out.cell.cell (o := 2) rfl
        have fB := hst.out.cell.free 2
        have hk0 := hst.out.cell.set 2 (.int .u64 ((i : Int) + 1))
        have hm0 := hst.out.km.set0 rfl ⟨B, 2, none⟩ (.int .u64 ((i : Int) + 1)) (Or.inr rfl)
        have hb0 : Below w.heap.size w (wr.setCell ⟨B, 2, none⟩ (.int .u64 ((i : Int) + 1))) := hst.out.bel.trans ((Ch.set (P := (· = B)) _ ⟨B, 2, none⟩ _ rfl).below hst.out.bel.size (fun j hj => by subst hj; exact hst.out.new))
        have hb := (Below.refl _ (wr.setCell ⟨B, 2, none⟩ (.int .u64 ((i : Int) + 1)))).alloc (Nat.le_refl _) (Obj.cells #[.slice none 0 0, .slice none 0 0, .int .i64 0, .int .u64 ((i : Int) + 1), .int .u64 0, .int .u64 0, .int .u64 0] 34)
        have hkS := hk0.keep hb
        have hkm := hm0.below hb
        have hbelS := hb0.trans (hb.mono hb0.size)
        have hEg := flE_good (x := (i : Int) + 1) (by omega) (by omega)
        have hAp : appl (flV i) (flE ((i : Int) + 1)) = some (flV ((i : Int) + 1)) := flE_appl0 (by omega) (by omega)
        have hpot := hst.out.pot
        have htot := hst.out.tot
        have hclS := hst.out.calls
        have hn100 := hst.out.mp.n100
        have hT1 := hst.out.mp.low
        obtain ⟨S', sv, hcalm, hcl, htt, hqq, hnm, hmp⟩ := mp_save_calm hst.out.mp hst.out.calm hEg hAp (by omega) (by have := hst.out.q; omega)
        have hqS : S'.q = 1048576 := hqq.trans hst.out.q
        have hfewS : ∀ t, lk S'.names t ≠ 0 → t = nCur ∨ t = mnm n' := fun t ht => hst.out.few t (by rw [← hnm]; exact ht)
        have hlenS : (l ++ [flE ((i : Int) + 1)]).length = c + 1 := by rw [List.length_append, hst.out.len]; rfl
        have SV := hide (km_save hkm none none 0 0 0 0 (flE ((i : Int) + 1)) (zs_nil _) (fs_nil _) (by decide) (by decide) hEg.2 hst.out.mp.vok hn100.1 hn100.2 (by omega) (by omega))
        have HEG := hide hEg
        have HAP := hide hAp
        have HSV := hide sv
        have HCM := hide hcalm
        have HMP := hide hmp
        have HFW := hide hfewS
        have HKS := hide hkS
        have HNB := hide hst.out.new
        have HBS := hide hbelS
        have HLS := hide hlenS
        unfold edV flE at SV
        clear hst hb hb0 hm0 hk0 hkS hkm hbelS hEg hAp sv hcalm hmp hfewS hnm hlenS
        go_wp2_with fail
        refine SV.out.mono ?_
        rintro e w5 ⟨s5, -, q5⟩
        obtain ⟨E1, ph, S2, r1, rfl, k5⟩ := q5 (flV ((i : Int) + 1)) HEG.out.1 HAP.out
        have r2 := HSV.out
        unfold flE at r2
        rw [r2] at r1
        injection r1 with a1 a2
        injection a2 with a2 a3
        subst a1 a2 a3
        have h5 : LgL w w5 M R B (i + 1) n' (c + 1) T S' (l ++ [flE ((i : Int) + 1)]) := ⟨by simpa using k5, HMP.out, HLS.out, HCM.out, hqS, by omega, by omega, by omega, HFW.out, HKS.out.same s5 (.inr rfl), HNB.out, HBS.out.trans (s5.below fun j hj => .inl hj)⟩
        have HST := hide h5
        clear SV q5 k5 r2 HEG HAP HSV HCM HMP HFW HKS HBS HLS h5 s5 cB fB
        go_upto_region 13 with fail
        have a1 : (0 : Int) ≤ bits .and .i64 (i : Int) 15 := (andi (i : Int) 15 (by decide)).1
        have a2 : bits .and .i64 (i : Int) 15 ≤ 15 := (andi (i : Int) 15 (by decide)).2
        cases q1 : (bits .and .i64 (when / 2 ^ (bits .and .i64 (i : Int) 15).toNat) 1 == 1)
        case' true =>
          have OP := hide (kd_open_calm HST.out.km.kd (by have h := HST.out.mp; exact h) HST.out.calm (by omega) (by omega) (by omega) (by omega))
          go_wp2_with fail
          refine OP.out.mono ?_
          rintro e w6a ⟨M6, S6, n6, T6, l6, rfl, k6, s6, -, P6, c6, q6, cl6, h30, hr⟩
          have h6 : LgL w w6a M6 R B (i + 1) n6 l6.length T6 S6 l6 := by
            have hl := HST.out.len
            refine ⟨k6, P6, rfl, c6, q6.trans hqS, ?_, ?_, by omega, ?_, HST.out.cell.same s6 (.inr rfl), HNB.out, HST.out.bel.trans (s6.below fun j hj => .inl hj)⟩
            · rcases hr with ⟨_, rfl, rfl, _, _⟩ | ⟨_, rfl, _, _, h, _⟩ <;> omega
            · rcases hr with ⟨_, rfl, rfl, _, rfl⟩ | ⟨_, rfl, _, h, _, _⟩ <;> omega
            · rcases hr with ⟨_, rfl, rfl, rfl, _⟩ | ⟨_, rfl, rfl, _, _, h⟩
              · exact HST.out.few
              · exact h
          have HST6 := hide h6
          have h31 : ¬ (30 : Int) < (l6.length : Int) := by omega
          have CT := hide (km_count k6)
          clear HST k6 s6 P6 c6 hr h6 OP
          go_wp2_with fail
          refine CT.out.mono ?_
          rintro e w6 ⟨rfl, rfl⟩
          clear CT
          go_upto_region 18 with fail
        case' false =>
          obtain ⟨w6, hw6⟩ : ∃ x, x = w5 := ⟨_, rfl⟩
          subst hw6
          have HST6 := HST
          clear HST
          go_upto_region 18 with fail
        all_goals
          have VW := hide (fun W (hW : Below w6.heap.size w6 W) => km_view (HST6.out.km.below hW) (Nat.zero_le _))
          unfold vwV flV at VW
          simp only [List.length_nil] at VW
          have SM := hide (fun (a : Option Addr) (c' : Nat) (W7 W : World) (hW : Below W7.heap.size W7 W) (f7 : Fs W7 a 0 c' []) => sameview_any a none 0 c' 0 0 (flV ((i : Int) + 1)) (flV ((i : Int) + 1)) W (f7.below hW (Nat.le_refl _)) (fs_nil W) (by decide) (by decide))
          unfold vwV flV at SM
          simp only at SM
          have hk6 := HST6.out.cell
          have d0 := hk6.cell (o := 0) rfl
          have d1 := hk6.cell (o := 1) rfl
          have d2 := hk6.cell (o := 2) rfl
          have d3 := hk6.cell (o := 3) rfl
          have d4 := hk6.cell (o := 4) rfl
          have d5 := hk6.cell (o := 5) rfl
          have HK6 := hide hk6
          have hb0 : Below w6.heap.size w6 w6 := Below.refl _ _
          have hb1 : Below w6.heap.size w6 w6.drew := (Below.refl _ _).drew
          clear hk6
          go_region_with (first
            | (go_at_call 15; refine (VW.out _ (by with_reducible assumption)).mono ?_; rintro e w7 ⟨a, c', rfl, -, f7, -, hb7⟩; have hb7 : Below w6.heap.size w6 w7 := bmore (by with_reducible assumption) hb7; have HB7 := hide hb7; have hk7 := HK6.out.keep hb7; have F7 := hide f7; have e0 := hk7.cell (o := 0) rfl; have e1 := hk7.cell (o := 1) rfl; have e2 := hk7.cell (o := 2) rfl; have e3 := hk7.cell (o := 3) rfl; have e4 := hk7.cell (o := 4) rfl; have e5 := hk7.cell (o := 5) rfl; have hc0 : Below w7.heap.size w7 w7 := Below.refl _ _; have hc1 : Below w7.heap.size w7 w7.drew := (Below.refl _ _).drew; clear hk7 f7 hb7)
            | (go_at_call 14; refine (SM.out _ _ w7 _ (by with_reducible assumption) F7.out).mono ?_; rintro e w8 ⟨o, rfl, ho, hb8⟩; obtain rfl : o = true := ho.2 (by first | rfl | trivial); have hb68 := hide (bmore HB7.out (bmore (by with_reducible assumption) hb8)); clear ho hb8))
          all_goals
            have H8 := HST6.out
            have HST8 := hide (show LgL w w8 _ R B (i + 1) _ _ _ _ _ from ⟨H8.km.below hb68.out, H8.mp, H8.len, H8.calm, H8.q, H8.tot, H8.pot, H8.calls, H8.few, H8.cell.keep hb68.out, H8.new, H8.bel.trans (hb68.out.mono H8.bel.size)⟩)
            clear SM HB7 HK6 H8 HST6 hb68 e0 e1 e2 e3 e4 e5
            go_wp2_with fail
            refine ⟨⟨i + 1, _, _, _, _, _, _, by omega, rfl, by go_num, HST8⟩, by simp [intOf]; omega⟩
      | false =>
        have OP := hide (kd_open_calm hst.out.km.kd hst.out.mp hst.out.calm (by have := hst.out.pot; omega) (by have := hst.out.tot; have := hst.out.pot; omega) (by have := hst.out.tot; have := hst.out.pot; have := hst.out.q; omega) (by have := hst.out.calls; omega))
        go_wp2_with fail
        refine OP.out.mono ?_
        rintro e w5 ⟨M5, S5, n5, T5, l5, rfl, k5, s5, hM5, P5, c5, q5, cl5, h30, hr⟩
        have HK5 := hide k5
        have HP5 := hide P5
        have HS5 := hide s5
        have LS := hide (fun W (hW : Below w5.heap.size w5 W) => kd_list (k5.kd.below hW) P5.dk (by have := hst.out.calls; omega))
        have HF5 := hide (show (listS S5).length ≤ 3 from few_list P5.dk c5.2.2 (by
          rcases hr with ⟨_, rfl, rfl, rfl, _⟩ | ⟨_, rfl, rfl, _, _, h⟩
          · exact hst.out.few
          · exact h))
        clear OP k5 P5 s5 c5
        go_wp2_with fail
        refine (LS.out _ (Below.refl _ _)).mono ?_
        rintro e w6 ⟨so, sc, rfl, hl62, hb6⟩
        clear LS
        go_wp2_with fail
        have VW := hide (fun W (hW : Below w6.heap.size w6 W) => km_view ((HK5.out.below hb6).below hW) (Nat.zero_le _))
        unfold vwV flV at VW
        simp only [List.length_nil] at VW
        have SM := hide (fun (a : Option Addr) (c' : Nat) (W7 W : World) (hW : Below W7.heap.size W7 W) (f7 : Fs W7 a 0 c' []) => sameview_any a none 0 c' 0 0 (flV (i : Int)) (flV (i : Int)) W (f7.below hW (Nat.le_refl _)) (fs_nil W) (by decide) (by decide))
        unfold vwV flV at SM
        simp only at SM
        have AW := hide (fun W => mawake_any W)
        have hk6 := (hst.out.cell.same HS5.out (.inr rfl)).keep hb6
        have hbel6 := hst.out.bel.trans ((HS5.out.below (fun j hj => Or.inl hj)).trans (hb6.mono (Nat.le_trans hst.out.bel.size HS5.out.size)))
        have d0 := hk6.cell (o := 0) rfl
        have d1 := hk6.cell (o := 1) rfl
        have d2 := hk6.cell (o := 2) rfl
        have d3 := hk6.cell (o := 3) rfl
        have d4 := hk6.cell (o := 4) rfl
        have d5 := hk6.cell (o := 5) rfl
        have HK6 := hide hk6
        have HB6 := hide hbel6
        have hl3 : ((listS S5).length : Int) ≤ 3 := by have := HF5.out; omega
        have hb0 : Below w6.heap.size w6 w6 := Below.refl _ _
        have hb1 : Below w6.heap.size w6 w6.drew := (Below.refl _ _).drew
        clear hk6 hbel6 HK5 HP5 HS5 hst hb6
        go_region_with (first
          | (go_at_call 15; refine (VW.out _ (by with_reducible assumption)).mono ?_; rintro e w7 ⟨a, c', rfl, -, f7, -, hb7⟩; have hb7 : Below w6.heap.size w6 w7 := bmore (by with_reducible assumption) hb7; have HB7 := hide hb7; have hk7 := HK6.out.keep hb7; have F7 := hide f7; have e0 := hk7.cell (o := 0) rfl; have e1 := hk7.cell (o := 1) rfl; have e2 := hk7.cell (o := 2) rfl; have e3 := hk7.cell (o := 3) rfl; have e4 := hk7.cell (o := 4) rfl; have e5 := hk7.cell (o := 5) rfl; have hc0 : Below w7.heap.size w7 w7 := Below.refl _ _; have hc1 : Below w7.heap.size w7 w7.drew := (Below.refl _ _).drew; clear hk7 f7 hb7)
          | (go_at_call 14; refine (SM.out _ _ w7 _ (by with_reducible assumption) F7.out).mono ?_; rintro e w8 ⟨o, rfl, ho, hb8⟩; obtain rfl : o = true := ho.2 (by first | rfl | trivial); have hb68 := hide (bmore HB7.out (bmore (by with_reducible assumption) hb8)); have he0 : Below w8.heap.size w8 w8 := Below.refl _ _; have he1 : Below w8.heap.size w8 w8.drew := (Below.refl _ _).drew; clear ho hb8)
          | (go_at_call 17; refine (AW.out _).mono ?_; rintro e w9 ⟨rfl, hb9⟩; have hb69 := hide (bmore hb68.out (bmore (by with_reducible assumption) hb9)); clear hb9))
        all_goals
          have HB9 := hide (HB6.out.trans (hb69.out.mono HB6.out.size))
          clear AW SM hb69
          go_wp2
          go_ret
          exact ⟨rfl, HB9.out⟩

end Go.Proofs.YtcahlmneancapaaGreatDoor.Clep
