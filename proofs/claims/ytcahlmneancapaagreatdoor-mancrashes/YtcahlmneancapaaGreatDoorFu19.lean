/- What num.Unlist does when called (a walk over the translated program): for any bytes up to 2^40, any bound. -/
import Derived.Test.YtcahlmneancapaaGreatDoorFu16
import Derived.Test.YtcahlmneancapaaGreatDoorFu18
import Derived.Test.YtcahlmneancapaaGreatDoorFu17
namespace Go.Proofs.YtcahlmneancapaaGreatDoor.Clep
open Go.RowKit
set_option linter.unusedVariables false
set_option maxRecDepth 10000

/-- c numbers from place P of zs on, behind acc: the numbers, the place behind them, the error. -/
def uls : Nat → List Int → Nat → List Int → List Int × Int × Int
  | 0, _, P, acc => (acc, (P : Int), 0)
  | c + 1, zs, P, acc => if (tk (zs.drop P) 0 0).2.2 = 0 then uls c zs (P + (tk (zs.drop P) 0 0).2.1.toNat) (acc ++ [(tk (zs.drop P) 0 0).1]) else ([], 0, (tk (zs.drop P) 0 0).2.2)
/-- What Unlist answers. -/
def ul (zs : List Int) (most : Int) : List Int × Int × Int :=
  if (tk zs 0 0).2.2 = 0 then (if max most 0 < (tk zs 0 0).1 then ([], 0, 2) else uls (tk zs 0 0).1.toNat zs (tk zs 0 0).2.1.toNat []) else ([], 0, (tk zs 0 0).2.2)

def uv (ns : List Int) : List Value := ns.map (Value.int .u64)
def OwnU (w : World) (B : Nat) (v : Value) (ns : List Int) : Prop := w.ownsRow B 29 1 v ns.length (uv ns)
theorem info25 : (Tryz.prog.info? 29).map (fun i => (i.zero, i.size, i.bytes)) = some (some (.int .u64 0), 1, 8) := by kernel_rfl

theorem ownU_below {w w' : World} {B : Nat} {v : Value} {ns : List Int} (h : OwnU w B v ns) (hb : Below w.heap.size w w') : OwnU w' B v ns := by
  obtain ⟨h1, h2⟩ := h
  refine ⟨h1, ?_⟩
  rcases h2 with h2 | ⟨g, cap, cur, hv, hg, hh, r⟩
  · exact .inl h2
  · exact .inr ⟨g, cap, cur, hv, hg, by rw [hb.block g (Array.getElem?_eq_some_iff.1 hh).1]; exact hh, r⟩
theorem ownU_snoc {w : World} {B : Nat} {v : Value} {ys : List Int} {z : Int} (h : w.ownsRow B 29 1 v (ys.length + 1) (uv ys ++ [.int .u64 z])) : OwnU w B v (ys ++ [z]) := by
  unfold OwnU uv; simpa [uv] using h

theorem ownU_mono {w : World} {B B' : Nat} {v : Value} {ns : List Int} (h : OwnU w B v ns) (hB : B' ≤ B) : OwnU w B' v ns := by
  obtain ⟨h1, h2⟩ := h
  refine ⟨h1, ?_⟩
  rcases h2 with h2 | ⟨g, cap, cur, hv, hg, r⟩
  · exact .inl h2
  · exact .inr ⟨g, cap, cur, hv, by omega, r⟩

/-- A reader's call, at whatever place. -/
theorem rtake_any (R P len cap : Nat) (ao : Option Addr) (zs : List Int) (w : World) (h : Bs w ao len cap zs) (hP : P ≤ len) (hm : len ≤ 4611686018427387904) (hcm : cap ≤ 9223372036854775807)
    (h0 : w.cell? ⟨R, 0, none⟩ = some (.slice ao len cap)) (h1 : w.cell? ⟨R, 1, none⟩ = some (.int .i64 P)) (f1 : w.frozen? ⟨R, 1, none⟩ = false) :
    Calls Tryz.prog 203 #[.pointer (some ⟨R, 0, none⟩)] w fun en w' => en = .returned (tup2 ((tk (zs.drop P) 0 0).1, (tk (zs.drop P) 0 0).2.2)) ∧ ∃ w1, Below w.heap.size w w1 ∧ w' = w1.setCell ⟨R, 1, none⟩ (.int .i64 ((P + (tk (zs.drop P) 0 0).2.1.toNat : Nat) : Int)) := by
  have hsz := tk_size (zs.drop P) 0 0 (by omega)
  by_cases hlt : P < len
  · obtain ⟨b, off, rfl, _⟩ := h.2.2.2 (by omega)
    have := rtake_in R P len cap b off zs w _ _ _ (hide (rfl : tk (zs.drop P) 0 0 = ((tk (zs.drop P) 0 0).1, (tk (zs.drop P) 0 0).2.1, (tk (zs.drop P) 0 0).2.2))) ⟨hsz.1, hsz.2.1⟩ h hlt hm h.2.1.1 hcm h0 h1 f1
    rw [show ((P + (tk (zs.drop P) 0 0).2.1.toNat : Nat) : Int) = (P : Int) + (tk (zs.drop P) 0 0).2.1 from by omega]
    exact this
  · have e : zs.drop P = [] := List.drop_eq_nil_of_le (by have := h.1; omega)
    rw [e]
    exact rtake_end R P len cap ao w (by omega) hm h.2.1.1 hcm h0 h1 f1

/-- The reader's own block in W, at place P; all that was there in w is kept. -/
def Rd (w W : World) (ao : Option Addr) (len cap P : Nat) : Prop :=
  W.cell? ⟨w.heap.size, 0, none⟩ = some (.slice ao len cap) ∧ W.cell? ⟨w.heap.size, 1, none⟩ = some (.int .i64 P) ∧ W.frozen? ⟨w.heap.size, 1, none⟩ = false ∧ Below w.heap.size w W ∧ w.heap.size < W.heap.size
theorem rd_new (w : World) (ao : Option Addr) (len cap : Nat) (t : TypeId) : Rd w (w.alloc (.cells #[.slice ao len cap, .int .i64 0] t)) ao len cap 0 :=
  ⟨by simp, by simp, by simp, (Below.refl _ _).alloc (Nat.le_refl _) _, by simp⟩
theorem rd_below {w W W' : World} {ao : Option Addr} {len cap P : Nat} (h : Rd w W ao len cap P) (hb : Below (w.heap.size + 1) W W') : Rd w W' ao len cap P := by
  obtain ⟨h1, h2, h3, h4, h5⟩ := h
  refine ⟨?_, ?_, ?_, h4.trans (hb.mono (by omega)), Nat.lt_of_lt_of_le h5 hb.size⟩
  · rw [hb.cell (p := ⟨w.heap.size, 0, none⟩) (by simp)]; exact h1
  · rw [hb.cell (p := ⟨w.heap.size, 1, none⟩) (by simp)]; exact h2
  · rw [hb.frozen (p := ⟨w.heap.size, 1, none⟩) (by simp)]; exact h3
theorem rd_set {w W : World} {ao : Option Addr} {len cap P : Nat} (h : Rd w W ao len cap P) (Q : Nat) : Rd w (W.setCell ⟨w.heap.size, 1, none⟩ (.int .i64 Q)) ao len cap Q := by
  obtain ⟨h1, h2, h3, h4, h5⟩ := h
  refine ⟨?_, ?_, ?_, h4.setCell (Nat.le_refl _) _, by simpa using h5⟩
  · rw [World.cell?_setCell_other _ _ _ _ (by simp)]; exact h1
  · exact World.cell?_setCell_same _ _ _ h2
  · simpa using h3
theorem uls_yes (c : Nat) (zs : List Int) (P : Nat) (acc : List Int) (x s e : Int) (hr : tk (zs.drop P) 0 0 = (x, s, e)) (he : e = 0) : uls (c + 1) zs P acc = uls c zs (P + s.toNat) (acc ++ [x]) := by
  rw [uls, hr, if_pos he]
theorem uls_no (c : Nat) (zs : List Int) (P : Nat) (acc : List Int) (x s e : Int) (hr : tk (zs.drop P) 0 0 = (x, s, e)) (he : ¬ e = 0) : uls (c + 1) zs P acc = ([], 0, e) := by
  rw [uls, hr, if_neg he]

/-- A reader's call, in the words of its own block. -/
theorem rtake_rd (P len cap : Nat) (ao : Option Addr) (zs : List Int) (w W : World) (h : Bs w ao len cap zs) (hP : P ≤ len) (hm : len ≤ 1099511627776) (hcm : cap ≤ 9223372036854775807) (hR : Rd w W ao len cap P)
    (x s e : Int) (hT : tk (zs.drop P) 0 0 = (x, s, e)) (Q : Nat) (hQ : Q = P + s.toNat) :
    Calls Tryz.prog 203 #[.pointer (some ⟨w.heap.size, 0, none⟩)] W fun en W' => en = .returned (.tuple #[.int .u64 x, .int .i64 e]) ∧ Rd w W' ao len cap Q ∧ ∀ v ns, OwnU W (w.heap.size + 1) v ns → OwnU W' (w.heap.size + 1) v ns := by
  refine (rtake_any w.heap.size P len cap ao zs W (h.below hR.2.2.2.1 (Nat.le_refl _)) hP (by omega) hcm hR.1 hR.2.1 hR.2.2.1).mono ?_
  rw [hT]
  rintro en W' ⟨rfl, w0, hb0, rfl⟩
  refine ⟨rfl, ?_, fun v ns ho => ?_⟩
  · rw [hQ]; exact rd_set (rd_below hR (hb0.mono (by have := hR.2.2.2.2; omega))) _
  · exact ownsRow_setCell_below (ownU_below ho hb0) (by simp) _

set_option maxHeartbeats 2000000 in
theorem unlist_any (ao : Option Addr) (len cap : Nat) (zs : List Int) (most : Int) (w : World) (hm : len ≤ 1099511627776) (hcm : cap ≤ 9223372036854775807) (h : Bs w ao len cap zs) (hmo : most ≤ 9223372036854775807) (hmo2 : -9223372036854775808 ≤ most) (r : List Int × Int × Int) (hr : Hid (ul zs most = r)) :
    Calls Tryz.prog 174 #[.slice ao len cap, .int .i64 most] w fun e w' => ∃ v, e = .returned (.tuple #[v, .int .i64 r.2.1, .int .i64 r.2.2]) ∧ OwnU w' w.heap.size v r.1 ∧ Below w.heap.size w w' := by
  obtain ⟨i0, hi, hz0, hz1, hz2⟩ := info_parts info25
  have H := hide h
  have hzr := hide (bs_range h)
  have hzl := hide h.1
  clear h
  go_enter Tryz.func174, Tryz.ntmps174
  go_wp2_with fail
  have hf := tk_facts zs 0 0 (by omega) hzr.out (by omega) (by simp)
  have hsz := tk_size zs 0 0 (by omega)
  obtain ⟨C, S0, E, hT⟩ : ∃ C S0 E, tk zs 0 0 = (C, S0, E) := ⟨_, _, _, rfl⟩
  rw [hT] at hf hsz
  have HT := hide hT
  clear hT
  simp only at hf hsz
  obtain ⟨P0, hP0⟩ : ∃ P0, P0 = 0 + S0.toNat := ⟨_, rfl⟩
  refine (rtake_rd 0 len cap ao zs w _ H.out (Nat.zero_le _) hm hcm (rd_new w ao len cap 263) C S0 E (by rw [List.drop_zero]; exact HT.out) P0 hP0).mono ?_
  rintro e w1 ⟨rfl, hrd, _⟩
  have HR := hide hrd
  have hP0l : P0 ≤ len := by have := hzl.out; omega
  have HP0 := hide hP0
  clear hrd hP0
  by_cases hE : E = 0
  · have hEb : (E != 0) = false := by simp [hE]
    have HE := hide hE
    clear hE
    obtain ⟨M, hM, hMc⟩ : ∃ M : Int, M = max most 0 ∧ ((most < 0 ∧ M = 0) ∨ (0 ≤ most ∧ M = most)) := ⟨max most 0, rfl, by omega⟩
    have HM := hide hM
    clear hM
    by_cases hC : M < C
    · have HRR : Hid (r = ([], 0, 2)) := hide (by rw [← hr.out]; unfold ul; rw [HT.out]; simp only; rw [if_pos HE.out, if_pos (by rw [← HM.out]; exact hC)])
      rcases hMc with ⟨hq, hM0⟩ | ⟨hq, hM0⟩
      all_goals
        rw [hM0] at hC
        clear hM0
        go_wp2
        go_ret3
        rw [HRR.out]
        exact ⟨_, rfl, World.ownsRow_nil _ _ _ _, HR.out.2.2.2.1⟩
    · have HRR : Hid (uls C.toNat zs P0 [] = r) := hide (by rw [← hr.out]; unfold ul; rw [HT.out]; simp only; rw [if_pos HE.out, if_neg (by rw [← HM.out]; exact hC), HP0.out, Nat.zero_add])
      have hC0 := hf.1
      have hC1 := hf.2.1
      rcases hMc with ⟨hq, hM0⟩ | ⟨hq, hM0⟩
      · rw [hM0] at hC
        clear hM0 hf hsz HP0
        go_wp2_with fail
        go_loopw [10, 28] (fun u i wr => ∃ (k P : Nat) (acc : List Int), i = .int .u64 k ∧ (k : Int) ≤ C ∧ acc.length ≤ P ∧ P ≤ len ∧ Hid (uls (C.toNat - k) zs P acc = r) ∧ Hid (OwnU wr (w.heap.size + 1) u acc) ∧ Hid (Rd w wr ao len cap P)) (fun _ i _ => (C - intOf i).toNat)
        case atStart => exact ⟨0, P0, [], rfl, hC0, by simp, hP0l, HRR, hide (World.ownsRow_nil _ _ _ _), HR⟩
        case round =>
          obtain ⟨k, P, acc, rfl, hk, hacc, hP, hu, hown, hR⟩ := hrel
          by_cases hlt : (k : Int) < C
          · exact absurd hlt (by omega)
          · have HRR2 : Hid (r = (acc, (P : Int), 0)) := hide (by rw [← hu.out, show C.toNat - k = 0 from by omega]; rfl)
            go_wp2_with (go_at_call 204; refine (place_any _ P _ hR.out.2.1 ?_ ?_).mono ?_; rotate_left 2; rintro en w2 ⟨rfl, rfl⟩; rotate_right 2; omega; omega)
            go_ret3
            rw [HRR2.out]
            exact ⟨_, rfl, ownU_mono hown.out (by omega), hR.out.2.2.2.1⟩
      · rw [hM0] at hC
        clear hM0 hf hsz HP0
        go_wp2_with fail
        go_loopw [10, 28] (fun u i wr => ∃ (k P : Nat) (acc : List Int), i = .int .u64 k ∧ (k : Int) ≤ C ∧ acc.length ≤ P ∧ P ≤ len ∧ Hid (uls (C.toNat - k) zs P acc = r) ∧ Hid (OwnU wr (w.heap.size + 1) u acc) ∧ Hid (Rd w wr ao len cap P)) (fun _ i _ => (C - intOf i).toNat)
        case atStart => exact ⟨0, P0, [], rfl, hC0, by simp, hP0l, HRR, hide (World.ownsRow_nil _ _ _ _), HR⟩
        case round =>
          obtain ⟨k, P, acc, rfl, hk, hacc, hP, hu, hown, hR⟩ := hrel
          by_cases hlt : (k : Int) < C
          · have hf := tk_facts (zs.drop P) 0 0 (by omega) (fun z hz => hzr.out z (List.mem_of_mem_drop hz)) (by omega) (by simp)
            have hsz := tk_size (zs.drop P) 0 0 (by omega)
            obtain ⟨x, s, e, hT⟩ : ∃ x s e, tk (zs.drop P) 0 0 = (x, s, e) := ⟨_, _, _, rfl⟩
            rw [hT] at hf hsz
            have HT2 := hide hT
            clear hT
            simp only at hf hsz
            rw [List.length_drop] at hsz
            obtain ⟨Q, hQ⟩ : ∃ Q, Q = P + s.toNat := ⟨_, rfl⟩
            go_wp2_with fail
            refine (rtake_rd P len cap ao zs w wr H.out hP hm hcm hR.out x s e HT2.out Q hQ).mono ?_
            rintro en w2 ⟨rfl, hrd, hkeep⟩
            have HR2 := hide hrd
            have HO2 := hide (hkeep _ _ hown.out)
            have hQl : Q ≤ len := by have := hzl.out; omega
            have HQ := hide hQ
            have HF := hide hf
            have hx := hf.1
            have hx1 := hf.2.1
            clear hrd hkeep hQ hsz hf
            by_cases he : e = 0
            · have heb : (e != 0) = false := by simp [he]
              have hQP : P + 1 ≤ Q := by have := HF.out.2.2 he; have := HQ.out; omega
              have HU2 : Hid (uls (C.toNat - (k + 1)) zs Q (acc ++ [x]) = r) := hide (by rw [← hu.out, show C.toNat - k = (C.toNat - (k + 1)) + 1 from by omega, uls_yes _ zs P acc x s e HT2.out he, HQ.out])
              clear he
              have hszw := hide HR2.out.2.2.2.2
              go_wp2_with (first
                | (at_builtin; refine wpList_append_own _ rfl _ _ 160 rfl (w.heap.size + 1) 29 i0 (.int .u64 0) 1 8 Tryz.underlying160 hi hz0 hz1 hz2 rfl (by decide) _ _ _ rfl (HO2.out.alloc _) ⟨w2.heap.size, 0, none⟩ 1 1 [.int .u64 x] rfl rfl ?d1 ?d2 ?d3 ?d4 ?d5 ?_)
                | fail)
              case d1 => exact cell_one_new _ _ _
              case d2 => intro u hu; simp at hu; subst hu; rfl
              case d3 => unfold maxLen; omega
              case d4 => omega
              case d5 => have := hszw.out; simp; omega
              intro v' w3 hown' hgrow _
              have HW := hide (ownU_snoc hown')
              have HR3 : Hid (Rd w w3 ao len cap Q) := hide (rd_below HR2.out (((Below.refl _ _).alloc (by have := hszw.out; omega) _).grown hgrow (by have := hszw.out; simp; omega) (fun j hj => (World.ownsRow.lt HO2.out j hj).1)))
              clear hown' hgrow
              go_wp2
              go_roundw
              case rel => exact ⟨k + 1, Q, acc ++ [x], by go_num, by omega, by simp; omega, hQl, HU2, HW, HR3⟩
              case measure => simp [intOf]; omega
            · have heb : (e != 0) = true := by simp [he]
              have HRR2 : Hid (r = ([], 0, e)) := hide (by rw [← hu.out, show C.toNat - k = (C.toNat - (k + 1)) + 1 from by omega, uls_no _ zs P acc x s e HT2.out he])
              clear he
              go_wp2
              go_ret3
              rw [HRR2.out]
              exact ⟨_, rfl, World.ownsRow_nil _ _ _ _, HR2.out.2.2.2.1⟩
          · have HRR2 : Hid (r = (acc, (P : Int), 0)) := hide (by rw [← hu.out, show C.toNat - k = 0 from by omega]; rfl)
            go_wp2_with (go_at_call 204; refine (place_any _ P _ hR.out.2.1 ?_ ?_).mono ?_; rotate_left 2; rintro en w2 ⟨rfl, rfl⟩; rotate_right 2; omega; omega)
            go_ret3
            rw [HRR2.out]
            exact ⟨_, rfl, ownU_mono hown.out (by omega), hR.out.2.2.2.1⟩
  · have hEb : (E != 0) = true := by simp [hE]
    have HRR : Hid (r = ([], 0, E)) := hide (by rw [← hr.out]; unfold ul; rw [HT.out]; simp only; rw [if_neg hE])
    clear hE
    go_wp2
    go_ret3
    rw [HRR.out]
    exact ⟨_, rfl, World.ownsRow_nil _ _ _ _, HR.out.2.2.2.1⟩

end Go.Proofs.YtcahlmneancapaaGreatDoor.Clep

/- Plain mathematics of lists of numbers as bytes: what is put is taken again; what is cut is torn. No conditions. -/
namespace Go.Proofs.YtcahlmneancapaaGreatDoor.Clep
open Go.RowKit
set_option linter.unusedVariables false
set_option maxRecDepth 10000

theorem tk_take (n : Int) (r : List Int) (K : Nat) (h0 : 0 ≤ n) (h1 : n ≤ 18446744073709551615) : tk ((pu n ++ r).take K) 0 0 = if K < (pu n).length then (0, 0, 4) else (n, ((pu n).length : Int), 0) := by
  split
  · rename_i hK
    rw [List.take_append_of_le_length (by omega)]
    obtain ⟨hi, last, e, hh, _, _, hl⟩ := enc_split 9 n h0 (u64_fuel n h1)
    have e' : pu n = hi ++ [last] := e
    rw [e'] at hK ⊢
    simp only [List.length_append, List.length_cons, List.length_nil] at hK
    rw [List.take_append_of_le_length (by omega)]
    obtain ⟨n', e2⟩ := tk_highs (hi.take K) [] 0 0 (fun z hz => (hh z (List.mem_of_mem_take hz)).1) (by rw [List.length_take]; omega)
    rw [List.append_nil] at e2
    rw [e2]; rfl
  · rename_i hK
    rw [show (pu n ++ r).take K = pu n ++ r.take (K - (pu n).length) from by rw [List.take_append]; congr 1; exact List.take_of_length_le (by omega)]
    exact tk_pu n _ h0 h1

theorem rest_len (ns : List Int) (j : Nat) (h : j < ns.length) : (rest ns j).length = (pu (ns.getD j 0)).length + (rest ns (j + 1)).length := by
  rw [rest_at ns j h, List.length_append]

/-- A list that is whole from place P on. -/
theorem uls_whole (ns : List Int) (hz : ∀ i, 0 ≤ ns.getD i 0 ∧ ns.getD i 0 ≤ 18446744073709551615) (zs tail : List Int) : ∀ (c j P : Nat) (acc : List Int), j + c = ns.length → zs.drop P = rest ns j ++ tail →
    uls c zs P acc = (acc ++ ns.drop j, ((P + (rest ns j).length : Nat) : Int), 0)
  | 0, j, P, acc, hj, _ => by
    rw [uls, rest_end ns j (by omega), List.drop_eq_nil_of_le (by omega)]; simp
  | c + 1, j, P, acc, hj, hd => by
    have hlt : j < ns.length := by omega
    have ht : tk (zs.drop P) 0 0 = (ns.getD j 0, ((pu (ns.getD j 0)).length : Int), 0) := by
      rw [hd, rest_at ns j hlt, List.append_assoc]; exact tk_pu _ _ (hz j).1 (hz j).2
    rw [uls_yes c zs P acc _ _ _ ht rfl, uls_whole ns hz zs tail c (j + 1) _ _ (by omega)]
    · rw [rest_len ns j hlt, drop_get ns j hlt]
      simp
      omega
    · rw [Int.toNat_natCast, ← List.drop_drop, hd, rest_at ns j hlt, List.append_assoc, List.drop_left]

/-- A list that is cut ends torn. -/
theorem uls_cut (ns : List Int) (hz : ∀ i, 0 ≤ ns.getD i 0 ∧ ns.getD i 0 ≤ 18446744073709551615) (zs : List Int) (K : Nat) : ∀ (c j P : Nat) (acc : List Int), j + c = ns.length → zs.drop P = (rest ns j).take (K - P) → P ≤ K → K < P + (rest ns j).length →
    uls c zs P acc = ([], 0, 4)
  | 0, j, P, acc, hj, _, h1, h2 => by
    rw [rest_end ns j (by omega)] at h2
    simp at h2
    omega
  | c + 1, j, P, acc, hj, hd, h1, h2 => by
    have hlt : j < ns.length := by omega
    have ht := tk_take (ns.getD j 0) (rest ns (j + 1)) (K - P) (hz j).1 (hz j).2
    rw [← rest_at ns j hlt, ← hd] at ht
    rw [rest_len ns j hlt] at h2
    by_cases hK : K - P < (pu (ns.getD j 0)).length
    · rw [if_pos hK] at ht
      exact uls_no c zs P acc _ _ _ ht (by omega)
    · rw [if_neg hK] at ht
      rw [uls_yes c zs P acc _ _ _ ht rfl]
      rw [Int.toNat_natCast]
      refine uls_cut ns hz zs K c (j + 1) _ _ (by omega) ?_ (by omega) (by omega)
      rw [← List.drop_drop, hd, rest_at ns j hlt, List.take_append, List.drop_append]
      rw [List.drop_eq_nil_of_le (by rw [List.length_take]; omega), List.nil_append]
      rw [show K - P - (pu (ns.getD j 0)).length = K - (P + (pu (ns.getD j 0)).length) from by omega]
      rw [List.length_take, Nat.min_eq_right (by omega), Nat.sub_self, List.drop_zero]

theorem li_tk (ns tail : List Int) (hl : ns.length ≤ 100000) : tk (li ns ++ tail) 0 0 = ((ns.length : Int), ((pu (ns.length : Int)).length : Int), 0) := by
  unfold li; rw [List.append_assoc]; exact tk_pu _ _ (by omega) (by omega)
theorem ul_whole (ns tail : List Int) (hz : ∀ i, 0 ≤ ns.getD i 0 ∧ ns.getD i 0 ≤ 18446744073709551615) (hl : ns.length ≤ 100000) (most : Int) (hm : (ns.length : Int) ≤ most) : ul (li ns ++ tail) most = (ns, ((li ns).length : Int), 0) := by
  unfold ul
  rw [li_tk ns tail hl]
  simp only
  rw [if_pos trivial, if_neg (by omega), Int.toNat_natCast, Int.toNat_natCast, uls_whole ns hz _ tail ns.length 0 _ [] (by omega) (by unfold li; rw [List.append_assoc, List.drop_left])]
  simp [li]
theorem ul_short (ns : List Int) (hz : ∀ i, 0 ≤ ns.getD i 0 ∧ ns.getD i 0 ≤ 18446744073709551615) (hl : ns.length ≤ 100000) (h0 : 0 < ns.length) : ul (li ns) ((ns.length : Int) - 1) = ([], 0, 2) := by
  have := li_tk ns [] hl
  rw [List.append_nil] at this
  unfold ul
  rw [this]
  simp only
  rw [if_pos trivial, if_pos (by omega)]
theorem ul_cut (ns : List Int) (hz : ∀ i, 0 ≤ ns.getD i 0 ∧ ns.getD i 0 ≤ 18446744073709551615) (hl : ns.length ≤ 100000) (most : Int) (hm : (ns.length : Int) ≤ most) (K : Nat) (hK : K < (li ns).length) : ul ((li ns).take K) most = ([], 0, 4) := by
  have ht := tk_take (ns.length : Int) (rest ns 0) K (by omega) (by omega)
  have hll : (li ns).length = (pu (ns.length : Int)).length + (rest ns 0).length := by unfold li; rw [List.length_append]
  change tk ((li ns).take K) 0 0 = _ at ht
  unfold ul
  by_cases h : K < (pu (ns.length : Int)).length
  · rw [if_pos h] at ht
    rw [ht]
    simp only
    rw [if_neg (by omega)]
  · rw [if_neg h] at ht
    rw [ht]
    simp only
    rw [if_pos trivial, if_neg (by omega), Int.toNat_natCast, Int.toNat_natCast]
    refine uls_cut ns hz _ K ns.length 0 _ [] (by omega) ?_ (by omega) (by omega)
    rw [List.drop_take]
    unfold li; rw [List.drop_left]
theorem li_len (ns : List Int) (h : ns.length ≤ 100000) : 1 ≤ (li ns).length ∧ (li ns).length ≤ 10 + 10 * ns.length := by
  have h1 := pu_len (ns.length : Int)
  have h2 := rows_len ns ns.length (Nat.le_refl _)
  rw [rows_all ns _ (Nat.le_refl _)] at h2
  unfold li; rw [List.length_append]; omega
theorem li_range (ns : List Int) (hz : ∀ i, 0 ≤ ns.getD i 0 ∧ ns.getD i 0 ≤ 18446744073709551615) (hl : ns.length ≤ 100000) : ∀ z ∈ li ns, 0 ≤ z ∧ z < 256 := by
  unfold li
  refine cat_range (pu_range _ (by omega) (by omega)) ?_
  rw [← rows_all ns ns.length (Nat.le_refl _)]; exact rows_range ns hz _

end Go.Proofs.YtcahlmneancapaaGreatDoor.Clep

/- What the document's own List and Unlist (package clepsydraref1), and the statements' own Same, do when called: for rows up to 100000 numbers, any text up to 2^40. -/
namespace Go.Proofs.YtcahlmneancapaaGreatDoor.Clep
open Go.RowKit
set_option linter.unusedVariables false
set_option maxRecDepth 10000

theorem ownU_us {w : World} {B : Nat} {v : Value} {ns : List Int} (h : OwnU w B v ns) (hz : ∀ z ∈ ns, 0 ≤ z ∧ z ≤ 18446744073709551615) :
    ∃ ao cap, v = .slice ao ns.length cap ∧ Us w ao ns.length cap ns := by
  obtain ⟨hl, ⟨rfl, hn⟩ | ⟨g, cap, cur, rfl, hg, hh, hnc, hcm, hcs, hx⟩⟩ := h
  · exact ⟨none, 0, by rw [hn], ⟨rfl, ⟨by omega, fun _ => ⟨hn, rfl⟩⟩, urange_of hz, fun h => by omega⟩⟩
  · refine ⟨some ⟨g, 0, none⟩, cap, rfl, ⟨rfl, ⟨hnc, fun h => by cases h⟩, urange_of hz, fun _ => ⟨g, 0, rfl, fun i hi => ?_⟩⟩⟩
    have hc := World.ownsRow.cells (w := w) (base := B) (e := 29) (size := 1) (v := .slice (some ⟨g, 0, none⟩) ns.length cap) (n := ns.length) (xs := uv ns)
      ⟨hl, .inr ⟨g, cap, cur, rfl, hg, hh, hnc, hcm, hcs, hx⟩⟩ (g := g) rfl i (.int .u64 (ns.getD i 0)) (by simp [uv, List.getD, List.getElem?_eq_getElem hi])
    rwa [add_plain] at hc

end Go.Proofs.YtcahlmneancapaaGreatDoor.Clep

/- What edit.bodyOf does when called (a walk over the translated program): for any Edit that may be. The bytes of an Edit. -/
namespace Go.Proofs.YtcahlmneancapaaGreatDoor.Clep
open Go.RowKit
set_option linter.unusedVariables false
set_option maxRecDepth 10000

theorem wpList_append_u {w : World} {ops : Array Oper} {rest : List Oper} {o : Oper} {a : Act} {Q : Exit → Act → World → Prop} (hgd : o.guard = none) (s x : Operand)
    (ho : o.op = .call { callee := .builtin .append, args := #[s, x], argTypes := #[160, 160] })
    (base : Nat) (v : Value) (ns : List Int) (hs : a.eval s = v) (hown : OwnU w base v ns) (p : Nat) (z : Int) (hx : a.eval x = .slice (some ⟨p, 0, none⟩) 1 1) (hp : Ek w p #[.int .u64 z] 29)
    (hlen : ns.length ≤ 100000) (hbase : base ≤ w.heap.size)
    (h : ∀ v' w', OwnU w' base v' (ns ++ [z]) → w.grownBy w' v.ownBlock → (∀ k, v.ownBlock = some k → base ≤ k) → wpList Tryz.prog ops Q rest (a.put o.dst v') w') : wpList Tryz.prog ops Q (o :: rest) a w := by
  obtain ⟨i0, hi, hz0, hz1, hz2⟩ := info_parts info25
  refine wpList_append_own _ hgd s x 160 ho base 29 i0 (.int .u64 0) 1 8 Tryz.underlying160 hi hz0 hz1 hz2 rfl (by decide) v ns.length (uv ns) hs hown ⟨p, 0, none⟩ 1 1 [.int .u64 z] hx rfl ?_ ?_ (by unfold maxLen; omega) (by omega) hbase ?_
  · intro j u hu
    match j, hu with
    | 0, hu =>
      simp at hu
      subst hu
      exact hp.cell rfl
    | k + 1, hu => simp at hu
  · intro u hu
    simp at hu
    subst hu
    rfl
  · intro v' w' h1 h2 _
    exact h v' w' (ownU_snoc h1) h2 (fun k hk => (World.ownsRow.lt hown k hk).1)
def iv9 (ns : List Int) : List Value := ns.map (Value.int .i64)
/-- The slice value v owns the whole numbers ns. -/
def OwnZ (w : World) (B : Nat) (v : Value) (ns : List Int) : Prop := w.ownsRow B 3 1 v ns.length (iv9 ns)
theorem info_int : (Tryz.prog.info? 3).map (fun i => (i.zero, i.size, i.bytes)) = some (some (.int .i64 0), 1, 8) := by kernel_rfl
theorem ownZ_nil (w : World) (B : Nat) : OwnZ w B (.slice none 0 0) [] := World.ownsRow_nil _ _ _ _
theorem ownU_nil (w : World) (B : Nat) : OwnU w B (.slice none 0 0) [] := World.ownsRow_nil _ _ _ _
theorem wpList_append_z {w : World} {ops : Array Oper} {rest : List Oper} {o : Oper} {a : Act} {Q : Exit → Act → World → Prop} (hgd : o.guard = none) (s x : Operand)
    (ho : o.op = .call { callee := .builtin .append, args := #[s, x], argTypes := #[32, 32] })
    (base : Nat) (v : Value) (ns : List Int) (hs : a.eval s = v) (hown : OwnZ w base v ns) (p : Nat) (z : Int) (hx : a.eval x = .slice (some ⟨p, 0, none⟩) 1 1) (hp : Ek w p #[.int .i64 z] 3)
    (hlen : ns.length ≤ 100000) (hbase : base ≤ w.heap.size)
    (h : ∀ v' w', OwnZ w' base v' (ns ++ [z]) → w.grownBy w' v.ownBlock → (∀ k, v.ownBlock = some k → base ≤ k) → wpList Tryz.prog ops Q rest (a.put o.dst v') w') : wpList Tryz.prog ops Q (o :: rest) a w := by
  obtain ⟨i0, hi, hz0, hz1, hz2⟩ := info_parts info_int
  refine wpList_append_own _ hgd s x 32 ho base 3 i0 (.int .i64 0) 1 8 Tryz.underlying32 hi hz0 hz1 hz2 rfl (by decide) v ns.length (iv9 ns) hs hown ⟨p, 0, none⟩ 1 1 [.int .i64 z] hx rfl ?_ ?_ (by unfold maxLen; omega) (by omega) hbase ?_
  · intro j u hu
    match j, hu with
    | 0, hu =>
      simp at hu
      subst hu
      exact hp.cell rfl
    | k + 1, hu => simp at hu
  · intro u hu
    simp at hu
    subst hu
    rfl
  · intro v' w' h1 h2 _
    refine h v' w' ?_ h2 (fun k hk => (World.ownsRow.lt hown k hk).1)
    unfold OwnZ iv9
    simpa [iv9] using h1
theorem ownZ_zs {w : World} {B : Nat} {v : Value} {ns : List Int} (h : OwnZ w B v ns) (hz : ∀ z ∈ ns, -9223372036854775808 ≤ z ∧ z ≤ 9223372036854775807) :
    ∃ ao cap, v = .slice ao ns.length cap ∧ cap ≤ 9223372036854775807 ∧ Zs w ao ns.length cap ns ∧ ∀ a, ao = some a → B ≤ a.block := by
  obtain ⟨hl, ⟨rfl, hn⟩ | ⟨g, cap, cur, rfl, hg, hh, hnc, hcm, hcs, hx⟩⟩ := h
  · exact ⟨none, 0, by rw [hn], by omega, ⟨rfl, ⟨by omega, fun _ => ⟨hn, rfl⟩⟩, hz, fun h => by omega⟩, fun a h => by cases h⟩
  · refine ⟨some ⟨g, 0, none⟩, cap, rfl, by unfold maxLen at hcm; omega, ⟨rfl, ⟨hnc, fun h => by cases h⟩, hz, fun _ => ⟨g, 0, rfl, fun i z hi => ?_⟩⟩, fun a h => by cases h; exact hg⟩
    have hc := World.ownsRow.cells (w := w) (base := B) (e := 3) (size := 1) (v := .slice (some ⟨g, 0, none⟩) ns.length cap) (n := ns.length) (xs := iv9 ns)
      ⟨hl, .inr ⟨g, cap, cur, rfl, hg, hh, hnc, hcm, hcs, hx⟩⟩ (g := g) rfl i (.int .i64 z) (by simp [iv9, hi])
    rwa [add_plain] at hc
/-- The files as bytes. -/
def fbs (l : List Fi) : List Int := l.flatMap (fun f => pu f.L ++ pu f.N)
/-- An Edit's body. -/
def ebd (E : Ed) : List Int := li E.d ++ (pu (E.a.length : Int) ++ (fbs E.a ++ rest [E.lg, E.fl, E.ct, E.at9, E.ls] 0))
theorem emay_parts {E : Ed} (h : emay E = 0) : (E.d.length ≤ 40 ∧ E.a.length ≤ 40) ∧ (∀ z ∈ E.d, 1 ≤ z ∧ z ≤ 1073741824) ∧ (∀ f ∈ E.a, (0 ≤ f.L ∧ f.L ≤ 3) ∧ 1 ≤ f.N ∧ f.N ≤ 1073741824) ∧ (0 ≤ E.lg ∧ E.lg ≤ 1073741824) ∧ E.fl ≤ 281474976710656 ∧ E.ct ≤ 281474976710656 ∧ E.at9 ≤ 281474976710656 ∧ E.ls ≤ 281474976710656 := by
  unfold emay at h
  split at h
  · rename_i hh
    rw [Bool.and_eq_true, Bool.and_eq_true] at hh
    obtain ⟨h1, h2, h3⟩ := hh
    unfold edH at h1
    have h1 := of_decide_eq_true h1
    refine ⟨⟨h1.1, h1.2.1⟩, fun z hz => ?_, fun f hf => ?_, ⟨h1.2.2.1, h1.2.2.2.1⟩, h1.2.2.2.2⟩
    · have := List.all_eq_true.1 h2 z hz
      exact of_decide_eq_true this
    · have := List.all_eq_true.1 h3 f hf
      have := of_decide_eq_true this
      omega
  · cases h
theorem fbs_take {l : List Fi} {k : Nat} {f : Fi} (h : l[k]? = some f) : fbs (l.take (k + 1)) = fbs (l.take k) ++ (pu f.L ++ pu f.N) := by
  unfold fbs
  rw [List.take_add_one, h, List.flatMap_append]
  simp
theorem fbs_len : ∀ (l : List Fi), (fbs l).length ≤ 20 * l.length
  | [] => by simp [fbs]
  | f :: r => by
    have := fbs_len r
    have h1 := (pu_len f.L).2
    have h2 := (pu_len f.N).2
    unfold fbs at this ⊢
    simp only [List.flatMap_cons, List.length_append, List.length_cons]
    omega
theorem rest5_len (ns : List Int) (h : ns.length = 5) : (rest ns 0).length ≤ 50 := by
  have := rows_len ns 5 (by omega)
  rw [rows_all ns 5 (by omega)] at this
  omega
theorem fbs_range (l : List Fi) (h : ∀ f ∈ l, (0 ≤ f.L ∧ f.L ≤ 3) ∧ 1 ≤ f.N ∧ f.N ≤ 1073741824) : ByteL (fbs l) := by
  intro z hz
  obtain ⟨f, hf, hz⟩ := List.mem_flatMap.1 hz
  have := h f hf
  rcases List.mem_append.1 hz with e | e
  · exact pu_range f.L (by omega) (by omega) z e
  · exact pu_range f.N (by omega) (by omega) z e
def five (E : Ed) : List Int := [E.lg, E.fl, E.ct, E.at9, E.ls]
theorem ebd_len {E : Ed} (h : emay E = 0) : (ebd E).length ≤ 1300 := by
  have hp := emay_parts h
  have h1 := (li_len E.d (by omega)).2
  have h2 := (pu_len (E.a.length : Int)).2
  have h3 := fbs_len E.a
  have h4 := rest5_len [E.lg, E.fl, E.ct, E.at9, E.ls] rfl
  unfold ebd
  simp only [List.length_append]
  omega

end Go.Proofs.YtcahlmneancapaaGreatDoor.Clep

/- Reading an Edit: number by number, as Lean's own functions. No conditions. -/
namespace Go.Proofs.YtcahlmneancapaaGreatDoor.Clep
open Go.RowKit
set_option linter.unusedVariables false
set_option maxRecDepth 10000

/-- One number more: what is left, and whether one was refused. -/
def rt (s : List Int × Bool) : Int × (List Int × Bool) := if (tk s.1 0 0).2.2 = 0 then ((tk s.1 0 0).1, (s.1.drop (tk s.1 0 0).2.1.toNat, s.2)) else (0, (s.1, true))
def stN (s : List Int × Bool) : Nat → List Int × Bool
  | 0 => s
  | j + 1 => (rt (stN s j)).2
def nr (s : List Int × Bool) (j : Nat) : Int := (rt (stN s j)).1
theorem rt_range (s : List Int × Bool) (h : ByteL s.1) : (0 ≤ (rt s).1 ∧ (rt s).1 ≤ 18446744073709551615) ∧ ByteL (rt s).2.1 := by
  unfold rt
  split
  · have := tk_facts s.1 0 0 (by omega) h (by omega) (by simp)
    exact ⟨⟨this.1, this.2.1⟩, fun z hz => h z (List.mem_of_mem_drop hz)⟩
  · exact ⟨by simp, h⟩
theorem stN_byte (s : List Int × Bool) (h : ByteL s.1) : ∀ j, ByteL (stN s j).1
  | 0 => h
  | j + 1 => (rt_range _ (stN_byte s h j)).2
theorem nr_range (s : List Int × Bool) (h : ByteL s.1) (j : Nat) : 0 ≤ nr s j ∧ nr s j ≤ 18446744073709551615 := (rt_range _ (stN_byte s h j)).1
theorem rt_bad (s : List Int × Bool) (h : s.2 = true) : (rt s).2.2 = true := by unfold rt; split <;> simp [h]
theorem stN_bad (s : List Int × Bool) : ∀ (j k : Nat), (stN s j).2 = true → (stN s (j + k)).2 = true
  | j, 0, h => h
  | j, k + 1, h => rt_bad _ (stN_bad s j k h)
theorem rt_len (s : List Int × Bool) : (rt s).2.1.length ≤ s.1.length := by
  unfold rt
  split
  · simp
  · exact Nat.le_refl _
theorem stN_len (s : List Int × Bool) : ∀ j, (stN s j).1.length ≤ s.1.length
  | 0 => Nat.le_refl _
  | j + 1 => Nat.le_trans (rt_len _) (stN_len s j)
def sm (n : Int) : Int := if n > 1073741824 then -1 else n
/-- Behind the numbers of Drop. -/
def s0X (X : List Int) : List Int × Bool := (X.drop (ul X 40).2.1.toNat, false)
def cX (X : List Int) : Int := (rt (s0X X)).1
def s1X (X : List Int) : List Int × Bool := (rt (s0X X)).2
def fX (X : List Int) (n : Nat) : List Fi := (List.range n).map (fun i => ⟨nr (s1X X) (2 * i), nr (s1X X) (2 * i + 1)⟩)
/-- The Edit that the bytes would be. -/
def rawE (X : List Int) : Ed := ⟨(ul X 40).1, fX X (cX X).toNat, nr (s1X X) (2 * (cX X).toNat), nr (s1X X) (2 * (cX X).toNat + 1), nr (s1X X) (2 * (cX X).toNat + 2), nr (s1X X) (2 * (cX X).toNat + 3), nr (s1X X) (2 * (cX X).toNat + 4)⟩
def okR (X : List Int) : Bool := decide ((ul X 40).2.2 = 0) && (decide (cX X ≤ 40) && (!(stN (s1X X) (2 * (cX X).toNat + 5)).2 && decide ((stN (s1X X) (2 * (cX X).toNat + 5)).1.length = 0)))
/-- What Read answers. -/
def red (X : List Int) : Option Ed := if (okR X && mayB (rawE X)) = true then some (rawE X) else none
def smF (f : Fi) : Fi := ⟨sm f.L, sm f.N⟩
/-- The Edit with each number that is too great as -1. -/
def smE (E : Ed) : Ed := ⟨E.d.map sm, E.a.map smF, sm E.lg, E.fl, E.ct, E.at9, E.ls⟩
theorem sm_id {n : Int} (h : n ≤ 1073741824) : sm n = n := by unfold sm; rw [if_neg (by omega)]
theorem sm_pos {n : Int} (h : 0 ≤ sm n) : sm n = n := by
  unfold sm at h ⊢
  split at h
  · omega
  · rename_i hh; rw [if_neg hh]
theorem map_id_of {α : Type} {f : α → α} : ∀ {l : List α}, (∀ x ∈ l, f x = x) → l.map f = l
  | [], _ => rfl
  | x :: r, h => by rw [List.map_cons, h x (List.mem_cons_self ..), map_id_of (fun y hy => h y (List.mem_cons_of_mem _ hy))]
theorem smE_may {E : Ed} (h : mayB E = true) : smE E = E := by
  have hp := emay_parts ((mayB_iff E).1 h)
  obtain ⟨d, a, lg, fl, ct, at9, ls⟩ := E
  unfold smE
  simp only at hp ⊢
  rw [map_id_of (fun z hz => sm_id (hp.2.1 z hz).2), map_id_of (fun f hf => ?_), sm_id hp.2.2.2.1.2]
  have := hp.2.2.1 f hf
  unfold smF
  rw [sm_id (by omega), sm_id (by omega)]
theorem may_smE {E : Ed} (h : mayB (smE E) = true) : smE E = E := by
  have hp := emay_parts ((mayB_iff _).1 h)
  obtain ⟨d, a, lg, fl, ct, at9, ls⟩ := E
  unfold smE at hp ⊢
  simp only at hp ⊢
  rw [map_id_of (fun z hz => sm_pos (by have := (hp.2.1 (sm z) (List.mem_map.2 ⟨z, hz, rfl⟩)).1; omega)), map_id_of (fun f hf => ?_), sm_pos hp.2.2.2.1.1]
  have := hp.2.2.1 (smF f) (List.mem_map.2 ⟨f, hf, rfl⟩)
  unfold smF at this ⊢
  simp only at this
  rw [sm_pos (by omega), sm_pos (by omega)]
theorem mayB_smE (E : Ed) : mayB (smE E) = mayB E := by
  cases h1 : mayB E with
  | true => rw [smE_may h1, h1]
  | false =>
    cases h2 : mayB (smE E) with
    | false => rfl
    | true => rw [may_smE h2] at h2; rw [h2] at h1; cases h1
theorem red_form (X : List Int) : red X = if (okR X && mayB (smE (rawE X))) = true then some (smE (rawE X)) else none := by
  rw [mayB_smE]
  unfold red
  split
  · rename_i h
    rw [Bool.and_eq_true] at h
    rw [smE_may h.2]
  · rfl
theorem red_may {X : List Int} {E : Ed} (h : red X = some E) : emay E = 0 := by
  unfold red at h
  split at h
  · rename_i hh
    rw [Bool.and_eq_true] at hh
    injection h with h
    rw [← h]
    exact (mayB_iff _).1 hh.2
  · cases h
theorem fX_next (X : List Int) (n : Nat) : fX X (n + 1) = fX X n ++ [⟨nr (s1X X) (2 * n), nr (s1X X) (2 * n + 1)⟩] := by
  unfold fX
  rw [List.range_succ, List.map_append]
  rfl
theorem fX_len (X : List Int) (n : Nat) : (fX X n).length = n := by unfold fX; simp

end Go.Proofs.YtcahlmneancapaaGreatDoor.Clep
