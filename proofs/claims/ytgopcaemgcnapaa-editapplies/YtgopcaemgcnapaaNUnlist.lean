/- What num.Unlist does when called (a walk over the translated program): for any bytes up to 2^40, any bound. -/
import Derived.Test.YtgopcaemgcnapaaNNum
import Derived.Test.YtgopcaemgcnapaaNLists
namespace Go.Proofs.Ytgopcaemgcnapaa.Clep
open Go.RowKit
set_option linter.unusedVariables false
set_option maxRecDepth 10000

/-- c numbers from place P of zs on, behind acc: the numbers, the place behind them, the error. -/
def uls : Nat → List Int → Nat → List Int → List Int × Int × Int
  | 0, _, P, acc => (acc, (P : Int), 0)
  | c + 1, zs, P, acc => if (tk (zs.drop P) 0 0).2.2 = 0 then uls c zs (P + (tk (zs.drop P) 0 0).2.1.toNat) (acc ++ [(tk (zs.drop P) 0 0).1]) else ([], 0, (tk (zs.drop P) 0 0).2.2)
/-- What Unlist answers. -/
def ul (zs : List Int) (most : Int) : List Int × Int × Int :=
  if (tk zs 0 0).2.2 = 0 then (if max most 0 < (tk zs 0 0).1 then ([], 0, 2) else uls (tk zs 0 0).1.toNat zs (tk zs 0 0).2.1.toNat []) else ([], 0, (tk zs 0 0).2.2)

def uv (ns : List Int) : List Value := ns.map (Value.int .u64)
def OwnU (w : World) (B : Nat) (v : Value) (ns : List Int) : Prop := w.ownsRow B 24 1 v ns.length (uv ns)
theorem info25 : (Try.prog.info? 24).map (fun i => (i.zero, i.size, i.bytes)) = some (some (.int .u64 0), 1, 8) := by kernel_rfl

theorem ownU_below {w w' : World} {B : Nat} {v : Value} {ns : List Int} (h : OwnU w B v ns) (hb : Below w.heap.size w w') : OwnU w' B v ns := by
  obtain ⟨h1, h2⟩ := h
  refine ⟨h1, ?_⟩
  rcases h2 with h2 | ⟨g, cap, cur, hv, hg, hh, r⟩
  · exact .inl h2
  · exact .inr ⟨g, cap, cur, hv, hg, by rw [hb.block g (Array.getElem?_eq_some_iff.1 hh).1]; exact hh, r⟩
theorem ownU_snoc {w : World} {B : Nat} {v : Value} {ys : List Int} {z : Int} (h : w.ownsRow B 24 1 v (ys.length + 1) (uv ys ++ [.int .u64 z])) : OwnU w B v (ys ++ [z]) := by
  unfold OwnU uv; simpa [uv] using h

theorem ownU_mono {w : World} {B B' : Nat} {v : Value} {ns : List Int} (h : OwnU w B v ns) (hB : B' ≤ B) : OwnU w B' v ns := by
  obtain ⟨h1, h2⟩ := h
  refine ⟨h1, ?_⟩
  rcases h2 with h2 | ⟨g, cap, cur, hv, hg, r⟩
  · exact .inl h2
  · exact .inr ⟨g, cap, cur, hv, by omega, r⟩

/-- A reader's call, at whatever place. -/
theorem rtake_any (R P len cap : Nat) (ao : Option Addr) (zs : List Int) (w : World) (h : Bs w ao len cap zs) (hP : P ≤ len) (hm : len ≤ 4611686018427387904) (hcm : cap ≤ 9223372036854775807)
    (h0 : w.cell? ⟨R, 0, none⟩ = some (.slice ao len cap)) (h1 : w.cell? ⟨R, 1, none⟩ = some (.int .i64 P)) (f1 : w.frozen? ⟨R, 1, none⟩ = false) :
    Calls Try.prog 62 #[.pointer (some ⟨R, 0, none⟩)] w fun en w' => en = .returned (tup2 ((tk (zs.drop P) 0 0).1, (tk (zs.drop P) 0 0).2.2)) ∧ ∃ w1, Below w.heap.size w w1 ∧ w' = w1.setCell ⟨R, 1, none⟩ (.int .i64 ((P + (tk (zs.drop P) 0 0).2.1.toNat : Nat) : Int)) := by
  have hsz := tk_size (zs.drop P) 0 0 (by omega)
  by_cases hlt : P < len
  · obtain ⟨b, off, rfl, _⟩ := h.2.2.2 (by omega)
    have := rtake_in R P len cap b off zs w _ _ _ (hide (rfl : tk (zs.drop P) 0 0 = ((tk (zs.drop P) 0 0).1, (tk (zs.drop P) 0 0).2.1, (tk (zs.drop P) 0 0).2.2))) ⟨hsz.1, hsz.2.1⟩ h hlt hm h.2.1.1 hcm h0 h1 f1
    rw [show ((P + (tk (zs.drop P) 0 0).2.1.toNat : Nat) : Int) = (P : Int) + (tk (zs.drop P) 0 0).2.1 from by omega]
    exact this
  · have e : zs.drop P = [] := List.drop_eq_nil_of_le (by have := h.1; omega)
    rw [e]
    exact rtake_end R P len cap ao w (by omega) hm h.2.1.1 hcm h0 h1 f1

/-- The reader's own block in W, at place P; all that was there in w is kept. -/
def Rd (w W : World) (ao : Option Addr) (len cap P : Nat) : Prop :=
  W.cell? ⟨w.heap.size, 0, none⟩ = some (.slice ao len cap) ∧ W.cell? ⟨w.heap.size, 1, none⟩ = some (.int .i64 P) ∧ W.frozen? ⟨w.heap.size, 1, none⟩ = false ∧ Below w.heap.size w W ∧ w.heap.size < W.heap.size
theorem rd_new (w : World) (ao : Option Addr) (len cap : Nat) (t : TypeId) : Rd w (w.alloc (.cells #[.slice ao len cap, .int .i64 0] t)) ao len cap 0 :=
  ⟨by simp, by simp, by simp, (Below.refl _ _).alloc (Nat.le_refl _) _, by simp⟩
theorem rd_below {w W W' : World} {ao : Option Addr} {len cap P : Nat} (h : Rd w W ao len cap P) (hb : Below (w.heap.size + 1) W W') : Rd w W' ao len cap P := by
  obtain ⟨h1, h2, h3, h4, h5⟩ := h
  refine ⟨?_, ?_, ?_, h4.trans (hb.mono (by omega)), Nat.lt_of_lt_of_le h5 hb.size⟩
  · rw [hb.cell (p := ⟨w.heap.size, 0, none⟩) (by simp)]; exact h1
  · rw [hb.cell (p := ⟨w.heap.size, 1, none⟩) (by simp)]; exact h2
  · rw [hb.frozen (p := ⟨w.heap.size, 1, none⟩) (by simp)]; exact h3
theorem rd_set {w W : World} {ao : Option Addr} {len cap P : Nat} (h : Rd w W ao len cap P) (Q : Nat) : Rd w (W.setCell ⟨w.heap.size, 1, none⟩ (.int .i64 Q)) ao len cap Q := by
  obtain ⟨h1, h2, h3, h4, h5⟩ := h
  refine ⟨?_, ?_, ?_, h4.setCell (Nat.le_refl _) _, by simpa using h5⟩
  · rw [World.cell?_setCell_other _ _ _ _ (by simp)]; exact h1
  · exact World.cell?_setCell_same _ _ _ h2
  · simpa using h3
theorem uls_yes (c : Nat) (zs : List Int) (P : Nat) (acc : List Int) (x s e : Int) (hr : tk (zs.drop P) 0 0 = (x, s, e)) (he : e = 0) : uls (c + 1) zs P acc = uls c zs (P + s.toNat) (acc ++ [x]) := by
  rw [uls, hr, if_pos he]
theorem uls_no (c : Nat) (zs : List Int) (P : Nat) (acc : List Int) (x s e : Int) (hr : tk (zs.drop P) 0 0 = (x, s, e)) (he : ¬ e = 0) : uls (c + 1) zs P acc = ([], 0, e) := by
  rw [uls, hr, if_neg he]

/-- A reader's call, in the words of its own block. -/
theorem rtake_rd (P len cap : Nat) (ao : Option Addr) (zs : List Int) (w W : World) (h : Bs w ao len cap zs) (hP : P ≤ len) (hm : len ≤ 1099511627776) (hcm : cap ≤ 9223372036854775807) (hR : Rd w W ao len cap P)
    (x s e : Int) (hT : tk (zs.drop P) 0 0 = (x, s, e)) (Q : Nat) (hQ : Q = P + s.toNat) :
    Calls Try.prog 62 #[.pointer (some ⟨w.heap.size, 0, none⟩)] W fun en W' => en = .returned (.tuple #[.int .u64 x, .int .i64 e]) ∧ Rd w W' ao len cap Q ∧ ∀ v ns, OwnU W (w.heap.size + 1) v ns → OwnU W' (w.heap.size + 1) v ns := by
  refine (rtake_any w.heap.size P len cap ao zs W (h.below hR.2.2.2.1 (Nat.le_refl _)) hP (by omega) hcm hR.1 hR.2.1 hR.2.2.1).mono ?_
  rw [hT]
  rintro en W' ⟨rfl, w0, hb0, rfl⟩
  refine ⟨rfl, ?_, fun v ns ho => ?_⟩
  · rw [hQ]; exact rd_set (rd_below hR (hb0.mono (by have := hR.2.2.2.2; omega))) _
  · exact ownsRow_setCell_below (ownU_below ho hb0) (by simp) _

set_option maxHeartbeats 2000000 in
theorem unlist_any (ao : Option Addr) (len cap : Nat) (zs : List Int) (most : Int) (w : World) (hm : len ≤ 1099511627776) (hcm : cap ≤ 9223372036854775807) (h : Bs w ao len cap zs) (hmo : most ≤ 9223372036854775807) (hmo2 : -9223372036854775808 ≤ most) (r : List Int × Int × Int) (hr : Hid (ul zs most = r)) :
    Calls Try.prog 40 #[.slice ao len cap, .int .i64 most] w fun e w' => ∃ v, e = .returned (.tuple #[v, .int .i64 r.2.1, .int .i64 r.2.2]) ∧ OwnU w' w.heap.size v r.1 ∧ Below w.heap.size w w' := by
  obtain ⟨i0, hi, hz0, hz1, hz2⟩ := info_parts info25
  have H := hide h
  have hzr := hide (bs_range h)
  have hzl := hide h.1
  clear h
  go_enter Try.func40, Try.ntmps40
  go_wp2_with fail
  have hf := tk_facts zs 0 0 (by omega) hzr.out (by omega) (by simp)
  have hsz := tk_size zs 0 0 (by omega)
  obtain ⟨C, S0, E, hT⟩ : ∃ C S0 E, tk zs 0 0 = (C, S0, E) := ⟨_, _, _, rfl⟩
  rw [hT] at hf hsz
  have HT := hide hT
  clear hT
  simp only at hf hsz
  obtain ⟨P0, hP0⟩ : ∃ P0, P0 = 0 + S0.toNat := ⟨_, rfl⟩
  refine (rtake_rd 0 len cap ao zs w _ H.out (Nat.zero_le _) hm hcm (rd_new w ao len cap 119) C S0 E (by rw [List.drop_zero]; exact HT.out) P0 hP0).mono ?_
  rintro e w1 ⟨rfl, hrd, _⟩
  have HR := hide hrd
  have hP0l : P0 ≤ len := by have := hzl.out; omega
  have HP0 := hide hP0
  clear hrd hP0
  by_cases hE : E = 0
  · have hEb : (E != 0) = false := by simp [hE]
    have HE := hide hE
    clear hE
    obtain ⟨M, hM, hMc⟩ : ∃ M : Int, M = max most 0 ∧ ((most < 0 ∧ M = 0) ∨ (0 ≤ most ∧ M = most)) := ⟨max most 0, rfl, by omega⟩
    have HM := hide hM
    clear hM
    by_cases hC : M < C
    · have HRR : Hid (r = ([], 0, 2)) := hide (by rw [← hr.out]; unfold ul; rw [HT.out]; simp only; rw [if_pos HE.out, if_pos (by rw [← HM.out]; exact hC)])
      rcases hMc with ⟨hq, hM0⟩ | ⟨hq, hM0⟩
      all_goals
        rw [hM0] at hC
        clear hM0
        go_wp2
        go_ret3
        rw [HRR.out]
        exact ⟨_, rfl, World.ownsRow_nil _ _ _ _, HR.out.2.2.2.1⟩
    · have HRR : Hid (uls C.toNat zs P0 [] = r) := hide (by rw [← hr.out]; unfold ul; rw [HT.out]; simp only; rw [if_pos HE.out, if_neg (by rw [← HM.out]; exact hC), HP0.out, Nat.zero_add])
      have hC0 := hf.1
      have hC1 := hf.2.1
      rcases hMc with ⟨hq, hM0⟩ | ⟨hq, hM0⟩
      · rw [hM0] at hC
        clear hM0 hf hsz HP0
        go_wp2_with fail
        go_loopw [10, 28] (fun u i wr => ∃ (k P : Nat) (acc : List Int), i = .int .u64 k ∧ (k : Int) ≤ C ∧ acc.length ≤ P ∧ P ≤ len ∧ Hid (uls (C.toNat - k) zs P acc = r) ∧ Hid (OwnU wr (w.heap.size + 1) u acc) ∧ Hid (Rd w wr ao len cap P)) (fun _ i _ => (C - intOf i).toNat)
        case atStart => exact ⟨0, P0, [], rfl, hC0, by simp, hP0l, HRR, hide (World.ownsRow_nil _ _ _ _), HR⟩
        case round =>
          obtain ⟨k, P, acc, rfl, hk, hacc, hP, hu, hown, hR⟩ := hrel
          by_cases hlt : (k : Int) < C
          · exact absurd hlt (by omega)
          · have HRR2 : Hid (r = (acc, (P : Int), 0)) := hide (by rw [← hu.out, show C.toNat - k = 0 from by omega]; rfl)
            go_wp2_with (go_at_call 63; refine (place_any _ P _ hR.out.2.1 ?_ ?_).mono ?_; rotate_left 2; rintro en w2 ⟨rfl, rfl⟩; rotate_right 2; omega; omega)
            go_ret3
            rw [HRR2.out]
            exact ⟨_, rfl, ownU_mono hown.out (by omega), hR.out.2.2.2.1⟩
      · rw [hM0] at hC
        clear hM0 hf hsz HP0
        go_wp2_with fail
        go_loopw [10, 28] (fun u i wr => ∃ (k P : Nat) (acc : List Int), i = .int .u64 k ∧ (k : Int) ≤ C ∧ acc.length ≤ P ∧ P ≤ len ∧ Hid (uls (C.toNat - k) zs P acc = r) ∧ Hid (OwnU wr (w.heap.size + 1) u acc) ∧ Hid (Rd w wr ao len cap P)) (fun _ i _ => (C - intOf i).toNat)
        case atStart => exact ⟨0, P0, [], rfl, hC0, by simp, hP0l, HRR, hide (World.ownsRow_nil _ _ _ _), HR⟩
        case round =>
          obtain ⟨k, P, acc, rfl, hk, hacc, hP, hu, hown, hR⟩ := hrel
          by_cases hlt : (k : Int) < C
          · have hf := tk_facts (zs.drop P) 0 0 (by omega) (fun z hz => hzr.out z (List.mem_of_mem_drop hz)) (by omega) (by simp)
            have hsz := tk_size (zs.drop P) 0 0 (by omega)
            obtain ⟨x, s, e, hT⟩ : ∃ x s e, tk (zs.drop P) 0 0 = (x, s, e) := ⟨_, _, _, rfl⟩
            rw [hT] at hf hsz
            have HT2 := hide hT
            clear hT
            simp only at hf hsz
            rw [List.length_drop] at hsz
            obtain ⟨Q, hQ⟩ : ∃ Q, Q = P + s.toNat := ⟨_, rfl⟩
            go_wp2_with fail
            refine (rtake_rd P len cap ao zs w wr H.out hP hm hcm hR.out x s e HT2.out Q hQ).mono ?_
            rintro en w2 ⟨rfl, hrd, hkeep⟩
            have HR2 := hide hrd
            have HO2 := hide (hkeep _ _ hown.out)
            have hQl : Q ≤ len := by have := hzl.out; omega
            have HQ := hide hQ
            have HF := hide hf
            have hx := hf.1
            have hx1 := hf.2.1
            clear hrd hkeep hQ hsz hf
            by_cases he : e = 0
            · have heb : (e != 0) = false := by simp [he]
              have hQP : P + 1 ≤ Q := by have := HF.out.2.2 he; have := HQ.out; omega
              have HU2 : Hid (uls (C.toNat - (k + 1)) zs Q (acc ++ [x]) = r) := hide (by rw [← hu.out, show C.toNat - k = (C.toNat - (k + 1)) + 1 from by omega, uls_yes _ zs P acc x s e HT2.out he, HQ.out])
              clear he
              have hszw := hide HR2.out.2.2.2.2
              go_wp2_with (first
                | (at_builtin; refine wpList_append_own _ rfl _ _ 81 rfl (w.heap.size + 1) 24 i0 (.int .u64 0) 1 8 Try.underlying81 hi hz0 hz1 hz2 rfl (by decide) _ _ _ rfl (HO2.out.alloc _) ⟨w2.heap.size, 0, none⟩ 1 1 [.int .u64 x] rfl rfl ?d1 ?d2 ?d3 ?d4 ?d5 ?_)
                | fail)
              case d1 => exact cell_one_new _ _ _
              case d2 => intro u hu; simp at hu; subst hu; rfl
              case d3 => unfold maxLen; omega
              case d4 => omega
              case d5 => have := hszw.out; simp; omega
              intro v' w3 hown' hgrow _
              have HW := hide (ownU_snoc hown')
              have HR3 : Hid (Rd w w3 ao len cap Q) := hide (rd_below HR2.out (((Below.refl _ _).alloc (by have := hszw.out; omega) _).grown hgrow (by have := hszw.out; simp; omega) (fun j hj => (World.ownsRow.lt HO2.out j hj).1)))
              clear hown' hgrow
              go_wp2
              go_roundw
              case rel => exact ⟨k + 1, Q, acc ++ [x], by go_num, by omega, by simp; omega, hQl, HU2, HW, HR3⟩
              case measure => simp [intOf]; omega
            · have heb : (e != 0) = true := by simp [he]
              have HRR2 : Hid (r = ([], 0, e)) := hide (by rw [← hu.out, show C.toNat - k = (C.toNat - (k + 1)) + 1 from by omega, uls_no _ zs P acc x s e HT2.out he])
              clear he
              go_wp2
              go_ret3
              rw [HRR2.out]
              exact ⟨_, rfl, World.ownsRow_nil _ _ _ _, HR2.out.2.2.2.1⟩
          · have HRR2 : Hid (r = (acc, (P : Int), 0)) := hide (by rw [← hu.out, show C.toNat - k = 0 from by omega]; rfl)
            go_wp2_with (go_at_call 63; refine (place_any _ P _ hR.out.2.1 ?_ ?_).mono ?_; rotate_left 2; rintro en w2 ⟨rfl, rfl⟩; rotate_right 2; omega; omega)
            go_ret3
            rw [HRR2.out]
            exact ⟨_, rfl, ownU_mono hown.out (by omega), hR.out.2.2.2.1⟩
  · have hEb : (E != 0) = true := by simp [hE]
    have HRR : Hid (r = ([], 0, E)) := hide (by rw [← hr.out]; unfold ul; rw [HT.out]; simp only; rw [if_neg hE])
    clear hE
    go_wp2
    go_ret3
    rw [HRR.out]
    exact ⟨_, rfl, World.ownsRow_nil _ _ _ _, HR.out.2.2.2.1⟩

end Go.Proofs.Ytgopcaemgcnapaa.Clep
