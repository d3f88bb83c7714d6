/- What log.Replay does when called (a walk over the translated program): for any bytes of at most a million. -/
import Derived.Test.YtdldpdllhnpdaaaGreatLa
import Derived.Test.YtdldpdllhnpdaaaGreatZp
namespace Go.Proofs.YtdldpdllhnpdaaaGreat.Clep
open Go.RowKit
set_option linter.unusedVariables false
set_option maxRecDepth 10000

theorem rd_wf (zs : List Int) (h : ∀ z ∈ zs, 0 ≤ z ∧ z < 256) : ∀ x ∈ (rd zs).1, x.wf := by
  have hr : ∀ (c : Nat) (s : List Int × Int) (acc : List It), (∀ z ∈ s.1, 0 ≤ z ∧ z < 256) → (∀ x ∈ acc, x.wf) → ∀ x ∈ (rds c s acc).1, x.wf := by
    intro c
    induction c with
    | zero => intro s acc _ ha x hx; exact ha x hx
    | succ c ih =>
      intro s acc hs ha x hx
      unfold rds at hx
      split at hx
      · simp at hx
      · refine ih _ _ ?_ ?_ x hx
        · unfold item1
          exact num1_rng _ (num1_rng _ (num1_rng _ (one1_rng _ (one1_rng s hs).1).1))
        · intro y hy
          rcases List.mem_append.1 hy with e | e
          · exact ha y e
          · rw [List.mem_singleton.1 e]; exact item1_wf s hs
  intro x hx
  unfold rd at hx
  split at hx
  · simp at hx
  · split at hx
    · simp at hx
    · simp only at hx
      split at hx
      · simp at hx
      · split at hx
        · exact hr _ _ _ (num1_rng _ h) (by simp) x hx
        · simp at hx
theorem ownS_base {w : World} {B C : Nat} {v : Value} {l : List Sl} (h : OwnS w B v l) (hc : C ≤ B) : OwnS w C v l := by
  obtain ⟨hl, h | ⟨g, cap, cur, hv, hg, r⟩⟩ := h
  · exact ⟨hl, .inl h⟩
  · exact ⟨hl, .inr ⟨g, cap, cur, hv, Nat.le_trans hc hg, r⟩⟩
theorem Ors.base {w : World} {B C : Nat} {v : Value} {ys : List Sl} (h : Ors w B v ys) (hc : C ≤ B) : Ors w C v ys := ⟨ownS_base h.own hc, h.is, h.apart⟩
/-- Rows that lie in memory from block B on. -/
def Nw (B : Nat) (ys : List Sl) : Prop := ∀ z ∈ ys, 0 < z.n → ∀ x, z.a = some x → B ≤ x.block
theorem nw_nil (B : Nat) : Nw B [] := fun z hz => by cases hz
theorem Nw.snoc {B : Nat} {ys : List Sl} {z : Sl} (h : Nw B ys) (hz : 0 < z.n → ∀ x, z.a = some x → B ≤ x.block) : Nw B (ys ++ [z]) := fun y hy => by
  rcases List.mem_append.1 hy with e | e
  · exact h y e
  · rw [List.mem_singleton.1 e]; exact hz
/-- Replay's answer is v, in memory that the call made. -/
def AnsP (X : List Int) (w : World) (e : Ending) (w' : World) : Prop := ∃ v ys, e = .returned (.tuple #[v, .int .i64 ((rp X).2.1 : Nat), .int .i64 (rp X).2.2]) ∧ Ors w' w.heap.size v ys ∧ ys.map Sl.l = (rp X).1 ∧ Below w.heap.size w w' ∧ Nw w.heap.size ys
theorem rp_split (X : List Int) (h1 : (SP X).2.2 = 0 ∨ (SP X).2.2 = 4) (h2 : (SP X).1.all gb = true) : rp X = ((SP X).1.map gi, (SP X).2.1, 0) := by unfold rp; rw [if_pos ⟨h1, h2⟩]
theorem rp_bad1 (X : List Int) (h1 : ¬ ((SP X).2.2 = 0 ∨ (SP X).2.2 = 4)) : rp X = ([], 0, 9) := by unfold rp; rw [if_neg (fun h => h1 h.1)]
theorem rp_bad2 (X : List Int) (j : Nat) (hj : j < (SP X).1.length) (h : gb ((SP X).1.getD j (0, [])) = false) : rp X = ([], 0, 9) := by
  unfold rp
  rw [if_neg]
  rintro ⟨_, h2⟩
  rw [List.all_eq_true] at h2
  have := h2 _ (List.getElem_mem hj)
  rw [List.getD, List.getElem?_eq_getElem hj, Option.getD_some] at h
  rw [h] at this
  cases this
theorem take_gi (F : List (Int × List Int)) (j : Nat) (hj : j < F.length) : (F.take (j + 1)).map gi = (F.take j).map gi ++ [gi (F.getD j (0, []))] := by
  rw [List.take_add_one, List.getElem?_eq_getElem hj, List.map_append, List.getD, List.getElem?_eq_getElem hj]
  rfl
theorem take_gb (F : List (Int × List Int)) (j : Nat) (hj : j < F.length) (h : (F.take j).all gb = true) (h1 : gb (F.getD j (0, [])) = true) : (F.take (j + 1)).all gb = true := by
  rw [List.take_add_one, List.getElem?_eq_getElem hj, List.all_append, h]
  rw [List.getD, List.getElem?_eq_getElem hj] at h1
  simpa using h1
theorem ansP_bad {X : List Int} {w w' : World} (h : rp X = ([], 0, 9)) (hb : Below w.heap.size w w') : AnsP X w (.returned (.tuple #[.slice none 0 0, .int .i64 0, .int .i64 9])) w' := ⟨_, [], by rw [h]; rfl, ors_nil _ _, by rw [h]; rfl, hb, nw_nil _⟩

set_option maxHeartbeats 1000000 in
theorem replay_any (ao : Option Addr) (len cap : Nat) (zs : List Int) (w : World) (hm : len ≤ 1000000) (h : Bs w ao len cap zs) :
    Calls Tryz.prog 20 #[.slice ao len cap] w (AnsP zs w) := by
  obtain ⟨n, hn⟩ : ∃ n, (SP zs).1.length = n := ⟨_, rfl⟩
  have hnl : n ≤ len := by rw [← hn, ← h.1]; exact SP_len zs
  have C := hide (fsplit_more ao len cap zs w hm h n hn)
  have HB1 := hide (rp_bad1 zs)
  have HB2 := hide (rp_bad2 zs)
  have HSP := hide (rp_split zs)
  have HN := hide hn
  have hE1 := hide (show (SP zs).2.1 ≤ 9223372036854775807 → True from fun _ => trivial)
  clear h hn hE1
  generalize hF : (SP zs).1 = F at *
  generalize hE1 : (SP zs).2.1 = E1 at *
  generalize hE2 : (SP zs).2.2 = E2 at *
  clear hF hE1 hE2
  go_enter Tryz.func20, Tryz.ntmps20
  go_wp2_with fail
  refine C.out.mono ?_
  rintro e w1 ⟨Kb, Gb, rfl, hK, hG, hb⟩
  have HK := hide (fun W (hW : Below w1.heap.size w1 W) j (hj : j < n) => (hW.cell (p := ⟨Kb, j, none⟩) (World.block_lt_of_cell? w1 _ (hK j hj))).trans (hK j hj))
  have HG := hide (fun W (hW : Below w1.heap.size w1 W) => hG.below hW)
  have HB := hide hb
  clear hK hG hb C
  by_cases hE : E2 = 0 ∨ E2 = 4
  · have HS2 := hide (HSP.out hE)
    clear HB1 HSP
    have hE3 : E2 = 0 ∨ (¬ (E2 = 0) ∧ E2 = 4) := by omega
    clear hE
    rcases hE3 with rfl | ⟨hE4, rfl⟩
    all_goals
      go_wp2_with fail
      go_loopw [2, 3, 26] (fun v d i wr => ∃ j : Nat, j ≤ n ∧ i = .int .i64 j ∧ d = .int .i64 (E1 : Nat) ∧ Hid (Below w1.heap.size w1 wr) ∧ Hid ((F.take j).all gb = true) ∧ Hid (∃ ys : List Sl, Ors wr w1.heap.size v ys ∧ ys.map Sl.l = (F.take j).map gi ∧ Nw w.heap.size ys)) (fun _ _ i _ => n - (intOf i).toNat)
      case atStart => exact ⟨0, by omega, rfl, rfl, hide (Below.refl _ _), hide (by simp), hide ⟨[], ors_nil _ _, by simp, nw_nil _⟩⟩
      case round =>
        obtain ⟨j, hj, rfl, rfl, hbel, hall, hys⟩ := hrel
        by_cases hlt : j < n
        · have hlF : j < F.length := by rw [HN.out]; exact hlt
          have hk := HK.out wr hbel.out j hlt
          obtain ⟨vs, hrow, hvs⟩ := HG.out wr hbel.out
          obtain ⟨a, l, c, hv, hcm, hB, _⟩ := hvs j hlt
          have hcell : wr.cell? ⟨Gb, j, none⟩ = some (.slice a l c) := by rw [hrow.cellAt j (by omega)]; exact hv
          have U := hide (unbatch_any (F.getD j (0, [])).1 a l c (F.getD j (0, [])).2 wr hcm hB)
          have hT1 := hide (take_gi F j hlF)
          have hT2 := hide (take_gb F j hlF hall.out)
          have hB2 := hide (HB2.out j hlF)
          generalize F.getD j (0, []) = x at *
          obtain ⟨k, body⟩ := x
          simp only at U hk hT1 hT2 hB2
          obtain ⟨o, ho⟩ : ∃ o, gb (k, body) = o := ⟨_, rfl⟩
          rw [ho] at U hT2 hB2
          have HBR := hide (bs_range hB)
          clear hrow hvs hv hcm hB ho
          go_wp2_with fail
          refine U.out.mono ?_
          rintro e w2 ⟨v2, rfl, ho2, hb2⟩
          have HO2 := hide ho2
          have HB2' := hide hb2
          clear U ho2 hb2
          cases o with
          | false =>
            have HR := hide (ansP_bad (w := w) (w' := w2) (hB2.out (by first | rfl | trivial)) (bmore HB.out (bmore hbel.out HB2'.out)))
            go_wp2
            refine bodyPost_ret (by simp [results, Tryz.results20, go_sem]) rfl HR.out
          | true =>
            have hoI := HO2.out rfl
            obtain ⟨ys, hor, hym, hnw⟩ := hys.out
            have hyl : ys.length = j := by
              have := congrArg List.length hym
              rw [List.length_map, List.length_map, List.length_take] at this
              omega
            have hiw : ∀ x ∈ gi (k, body), x.wf := by
              intro x hx
              exact rd_wf body HBR.out x hx
            obtain ⟨a2, c2, rfl, hc2, hi2, hab⟩ := ownI_is hoI hiw
            generalize hL2 : (gi (k, body)).length = L2 at *
            have HI2 := hide hi2
            have hL2m : L2 ≤ 9223372036854775807 := Nat.le_trans hi2.2.1.1 hc2
            have HAP := hide (show 0 < L2 → ∀ x, a2 = some x → u2.ownBlock ≠ some x.block from fun h0 x hx e => by
              have h1 := (World.ownsRow.lt hor.own _ e).2
              have h2 := hab x hx
              omega)
            have HNW := hide (hnw.snoc (z := ⟨a2, L2, c2, gi (k, body)⟩) (fun h0 x hx => by have h2 := hab x hx; have := hbel.out.size; have := HB.out.size; omega))
            have HOR := hide (hor.keep HB2'.out)
            have HYM := hide hym
            have BW := hide (bmore hbel.out HB2'.out)
            clear hor hym hnw hi2 hab hoI HO2 hys hiw hL2 hc2
            go_wp2_with (first
              | (at_builtin; refine wpList_append_row rfl (.tmp 42) (.tmp 44) rfl w1.heap.size u2 ys rfl HOR.out ⟨a2, L2, c2, gi (k, body)⟩ rfl rfl HI2.out hL2m HAP.out (by omega) BW.out.size ?_)
              | fail)
            intro v' w' ho' _ hb' _
            have HR := hide (show ∃ ys : List Sl, Ors w' w1.heap.size v' ys ∧ ys.map Sl.l = (F.take (j + 1)).map gi ∧ Nw w.heap.size ys from ⟨_, ho', by rw [List.map_append, HYM.out, hT1.out]; rfl, HNW.out⟩)
            have HBW := hide (BW.out.trans hb')
            have HT := hide (hT2.out (by first | rfl | trivial))
            clear ho' hb'
            go_wp2
            go_roundw
            case rel => exact ⟨j + 1, by omega, by go_num, rfl, HBW, HT, HR⟩
            case measure => simp [intOf]; omega
        · have hjn : j = n := by omega
          subst hjn
          have hFj : F.take j = F := List.take_of_length_le (by rw [HN.out]; exact Nat.le_refl _)
          rw [hFj] at hall hys
          have hR := HS2.out hall.out
          have HRR := hide (show AnsP zs w (.returned (.tuple #[u2, .int .i64 (E1 : Nat), .int .i64 0])) wr from by
            obtain ⟨ys, hor, hym, hnw⟩ := hys.out
            exact ⟨u2, ys, by rw [hR], hor.base HB.out.size, by rw [hym, hR], bmore HB.out hbel.out, hnw⟩)
          clear hR hFj
          go_wp2
          refine bodyPost_ret (by simp [results, Tryz.results20, go_sem]) rfl HRR.out
  · have HR := hide (ansP_bad (w := w) (w' := w1) (HB1.out hE) HB.out)
    have h0 : ¬ (E2 = 0) := by omega
    have h4 : ¬ (E2 = 4) := by omega
    have g0 : (E2 != 0) = true := by simpa using h0
    have g4 : (E2 != 4) = true := by simpa using h4
    clear hE HB1 HB2 HSP
    go_wp2
    refine bodyPost_ret (by simp [results, Tryz.results20, go_sem]) rfl HR.out

end Go.Proofs.YtdldpdllhnpdaaaGreat.Clep
