/- What item.Read does when called: for any bytes of at most 2^62. No conditions. -/
import Derived.Test.YtfmofkkjnepbcaaIOwn
import Derived.BigRegion
namespace Go.Proofs.Ytfmofkkjnepbcaa.Clep
open Go.RowKit
set_option linter.unusedVariables false

theorem one1_rng (s : List Int × Int) (h : ∀ z ∈ s.1, 0 ≤ z ∧ z < 256) : (∀ z ∈ (one1 s).2.1, 0 ≤ z ∧ z < 256) ∧ 0 ≤ (one1 s).1 ∧ (one1 s).1 < 256 := by
  obtain ⟨l, e⟩ := s
  unfold one1
  split
  · exact ⟨h, by simp⟩
  · cases l with
    | nil => simp
    | cons c r => exact ⟨fun z hz => h z (by simp [hz]), h c (by simp)⟩
theorem num1_rng (s : List Int × Int) (h : ∀ z ∈ s.1, 0 ≤ z ∧ z < 256) : ∀ z ∈ (num1 s).2.1, 0 ≤ z ∧ z < 256 := by
  obtain ⟨l, e⟩ := s
  unfold num1
  split
  · exact h
  · exact fun z hz => h z (List.mem_of_mem_drop hz)
theorem item1_wf (s : List Int × Int) (h : ∀ z ∈ s.1, 0 ≤ z ∧ z < 256) : (item1 s).1.wf := by
  have h1 := one1_rng s h
  have h2 := one1_rng (one1 s).2 h1.1
  have h3 := num1_rng (one1 (one1 s).2).2 h2.1
  have h4 := num1_rng (num1 (one1 (one1 s).2).2).2 h3
  have r3 := num1_range (one1 (one1 s).2).2 h2.1
  have r4 := num1_range (num1 (one1 (one1 s).2).2).2 h3
  have r5 := num1_range (num1 (num1 (one1 (one1 s).2).2).2).2 h4
  have r6 := usgn_range _ r5.1 r5.2
  exact ⟨by show _ ≤ (one1 s).1 ∧ (one1 s).1 ≤ _; omega, by show _ ≤ (one1 (one1 s).2).1 ∧ (one1 (one1 s).2).1 ≤ _; omega, r3, r4, r6⟩

/-- c items of s behind acc: the items, what is left, the error. -/
def rds : Nat → List Int × Int → List It → List It × List Int × Int
  | 0, s, acc => (acc, s)
  | c + 1, s, acc => if (item1 s).2.2 ≠ 0 then ([], (item1 s).2) else rds c (item1 s).2 (acc ++ [(item1 s).1])
/-- What Read answers. -/
def rd (zs : List Int) : List It × Int :=
  if (num1 (zs, 0)).2.2 ≠ 0 then ([], (num1 (zs, 0)).2.2) else if 2000 < (num1 (zs, 0)).1 then ([], 2) else
    let r := rds (num1 (zs, 0)).1.toNat (num1 (zs, 0)).2 []
    if r.2.2 ≠ 0 then ([], r.2.2) else if r.1.all It.ok = true ∧ r.2.1 = [] then (r.1, 0) else ([], 3)

theorem okc_snoc (acc : List It) (k : Nat) (x : It) (h : acc.length = k) : okc (acc ++ [x]) (k + 1) = okc acc k + if x.ok then 1 else 0 := by
  rw [okc_succ (acc ++ [x]) k x (by rw [List.getElem?_append_right (by omega), h]; simp)]
  unfold okc
  rw [List.take_append_of_le_length (by omega)]
/-- In the round: the reader, the tally, the items so far. -/
def Rr (w wr : World) (R Q : Nat) (k : Nat) (v : Value) (s : List Int) (e : Int) (acc : List It) : Prop :=
  Re wr w.heap.size R s e ∧ Ta wr Q k (okc acc k) ∧ OwnI wr (Q + 1) v acc ∧ acc.length = k ∧ (∀ x ∈ acc, x.wf) ∧ Below w.heap.size w wr ∧ R < Q ∧ w.heap.size ≤ R ∧ Q + 1 ≤ wr.heap.size

set_option maxHeartbeats 1000000 in
theorem read_core (ao : Option Addr) (len cap : Nat) (zs : List Int) (w : World) (hc : cap ≤ 9223372036854775807) (h : Bs w ao len cap zs) (n : Int) (s1 : List Int) (e1 : Int) (hp : Hid (num1 (zs, 0) = (n, s1, e1))) (RR : List It × Int) (hrr : Hid (rd zs = RR)) :
    Calls Try.prog 25 #[.slice ao len cap] w fun e w' => ∃ v, e = .returned (.tuple #[v, .int .i64 RR.2]) ∧ OwnI w' w.heap.size v RR.1 ∧ Below w.heap.size w w' := by
  have hn := num1_range (zs, 0) (bs_range h)
  rw [hp.out] at hn
  simp only at hn
  have R0 : Re (w.alloc (Obj.cells #[Value.slice ao len cap, Value.int IntKind.i64 0] 63)) w.heap.size w.heap.size zs 0 :=
    ⟨⟨ao, len, cap, by simp, h.below ((Below.refl _ w).alloc (Nat.le_refl _) _) (Nat.le_refl _), hc, fun h0 a ea => by obtain ⟨b, off, e, hcc⟩ := h.2.2.2 h0; rw [e] at ea; cases ea; exact World.block_lt_of_cell? w _ (hcc 0 h0)⟩, by simp, by simp, by simp, Nat.le_refl _⟩
  have HR0 := hide R0
  have B0 := hide ((Below.refl _ w).alloc (Nat.le_refl _) (Obj.cells #[Value.slice ao len cap, Value.int IntKind.i64 0] 63))
  clear h R0
  go_enter Try.func25, Try.ntmps25
  go_wp2_with fail
  refine (number_any w.heap.size w.heap.size zs 0 _ HR0.out).mono ?_
  rw [hp.out]
  rintro e w1 ⟨rfl, r1, g1⟩
  have R1 := hide r1
  have B1 := hide (B0.out.grown g1 (by simp) (fun k hk => by cases hk; exact Nat.le_refl _))
  clear r1 g1 HR0 B0
  obtain ⟨-, q1, -, -, -⟩ := R1.out
  by_cases he : e1 = 0
  · subst he
    clear q1
    by_cases hl : 2000 < n
    · have hRR := hide (show RR = ([], 2) by rw [← hrr.out]; unfold rd; rw [hp.out]; simp [hl])
      obtain ⟨-, q1, -, -, -⟩ := R1.out
      go_wp2
      go_ret2
      rw [hRR.out]
      exact ⟨_, rfl, ownI_nil _ _, B1.out⟩
    · have hRR := hide (show RR = (if (rds n.toNat (s1, 0) []).2.2 ≠ 0 then ([], (rds n.toNat (s1, 0) []).2.2) else if (rds n.toNat (s1, 0) []).1.all It.ok = true ∧ (rds n.toNat (s1, 0) []).2.1 = [] then ((rds n.toNat (s1, 0) []).1, 0) else ([], 3)) by
        rw [← hrr.out]; unfold rd; rw [hp.out]; simp [hl])
      clear hrr
      have hsz : w.heap.size < w1.heap.size := R1.out.lt
      have Q1 := hide (show Rr w (w1.alloc (Obj.cells #[Value.int IntKind.i64 0, Value.int IntKind.i64 0] 58)) w.heap.size w1.heap.size 0 (.slice none 0 0) s1 0 [] from
        ⟨R1.out.keep ((Below.refl _ _).alloc (Nat.le_refl _) _), by rw [okc_zero]; exact ta_new w1, ownI_nil _ _, rfl, by simp, B1.out.alloc B1.out.size _, hsz, Nat.le_refl _, by simp⟩)
      obtain ⟨N, rfl⟩ := Int.eq_ofNat_of_zero_le hn.1
      have hN : N ≤ 2000 := by omega
      obtain ⟨-, q1, -, -, -⟩ := R1.out
      rw [show ((N : Int)).toNat = N from rfl] at hRR
      obtain ⟨T0, hT0⟩ : ∃ T0, rds N (s1, 0) [] = T0 := ⟨_, rfl⟩
      rw [hT0] at hRR
      have hRR2 := hide hT0
      clear hT0
      clear q1
      obtain ⟨-, q1, -, -, -⟩ := R1.out
      go_wp2_with fail
      clear q1
      generalize w1.heap.size = Q at *
      go_loopw [6] (fun u wr => ∃ (k : Nat) (s : List Int) (acc : List It), k ≤ N ∧ Hid (Rr w wr w.heap.size Q k u s 0 acc) ∧ Hid (rds (N - k) (s, 0) acc = T0)) (fun u _ => N - lenOf u)
      case atStart => exact ⟨0, s1, [], by omega, Q1, hRR2⟩
      case round =>
        obtain ⟨k, s, acc, hk, hr, ht⟩ := hrel
        have Hl := hide (ownI_len hr.out.2.2.1)
        have Ha := hide hr.out.2.2.2.1
        by_cases hlt : k < N
        · have hstep := hide (show (if (item1 (s, 0)).2.2 ≠ 0 then ([], (item1 (s, 0)).2) else rds (N - (k + 1)) (item1 (s, 0)).2 (acc ++ [(item1 (s, 0)).1])) = T0 by
            rw [← ht.out, show N - k = N - (k + 1) + 1 from by omega, rds])
          have hxw := hide (item1_wf (s, 0) (re_range hr.out.1))
          have hit := hide (ritem_any w.heap.size w.heap.size s 0 wr hr.out.1 hr.out.2.2.2.2.2.1.size)
          generalize item1 (s, 0) = I at *
          obtain ⟨x, s', e'⟩ := I
          obtain ⟨S, K, T, V, X⟩ := x
          simp only at hstep hit
          clear ht
          go_wp2_with fail
          refine (tsum_any Q k (okc acc k) wr hr.out.2.1).mono ?_
          rintro e wr' ⟨rfl, hw⟩
          rw [hw]
          clear hw
          go_wp2_with fail
          refine hit.out.mono ?_
          rintro e w2 ⟨rfl, r2, g2⟩
          have hQ := hr.out.2.2.2.2.2.2.1
          have Re2 := hide r2
          have Ta2 := hide (hr.out.2.1.grown g2 (by simp; omega))
          have Ow2 := hide (ownI_grown hr.out.2.2.1 g2 (by simp; omega))
          have Be2 := hide (hr.out.2.2.2.2.2.1.grown g2 hr.out.2.2.2.2.2.1.size (fun j hj => by cases hj; exact Nat.le_refl _))
          have Wf2 := hide hr.out.2.2.2.2.1
          have Sz2 := hide (Nat.le_trans hr.out.2.2.2.2.2.2.2.2 g2.size)
          have Vx2 := hide (vi_new w2 S K T V X)
          have Re3 := hide (Re2.out.keep ((Below.refl _ _).alloc (Nat.le_refl _) (Obj.cells #[Value.int IntKind.i64 S, Value.int IntKind.i64 K, Value.int IntKind.u64 T, Value.int IntKind.u64 V, Value.int IntKind.i64 X] 24)))
          clear r2 g2 hr hit
          by_cases he : e' = 0
          · subst he
            have hst := hide (show rds (N - (k + 1)) (s', 0) (acc ++ [⟨S, K, T, V, X⟩]) = T0 by simpa using hstep.out)
            clear hstep
            have hav := hide (show some w2.heap.size ≠ Value.ownBlock u6 from fun e => by have := (World.ownsRow.lt Ow2.out _ e.symm).2; omega)
            have D2 : Below w2.heap.size w2 ((w2.alloc (Obj.cells #[Value.int IntKind.i64 S, Value.int IntKind.i64 K, Value.int IntKind.u64 T, Value.int IntKind.u64 V, Value.int IntKind.i64 X] 24)).alloc (Obj.cells #[Value.int IntKind.i64 S, Value.int IntKind.i64 K, Value.int IntKind.u64 T, Value.int IntKind.u64 V, Value.int IntKind.i64 X] 24)) := ((Below.refl _ _).alloc (Nat.le_refl _) _).alloc (by simp) _
            have Re4 := hide (Re2.out.keep D2)
            have Ta4 := hide (Ta2.out.keep D2)
            have Ow4 := hide (ownI_keep Ow2.out D2)
            have Be4 := hide (Be2.out.trans (D2.mono Be2.out.size))
            have Vx4 := hide (Vx2.out.keep ((Below.refl _ _).alloc (Nat.le_refl _) (Obj.cells #[Value.int IntKind.i64 S, Value.int IntKind.i64 K, Value.int IntKind.u64 T, Value.int IntKind.u64 V, Value.int IntKind.i64 X] 24)))
            have I4 := is_one (w2.alloc (Obj.cells #[Value.int IntKind.i64 S, Value.int IntKind.i64 K, Value.int IntKind.u64 T, Value.int IntKind.u64 V, Value.int IntKind.i64 X] 24)) S K T V X hxw.out
            rw [show (w2.alloc (Obj.cells #[Value.int IntKind.i64 S, Value.int IntKind.i64 K, Value.int IntKind.u64 T, Value.int IntKind.u64 V, Value.int IntKind.i64 X] 24)).heap.size = w2.heap.size + 1 from by simp] at I4
            have IS4 := hide I4
            have hs4 := hide (show Q + 1 ≤ ((w2.alloc (Obj.cells #[Value.int IntKind.i64 S, Value.int IntKind.i64 K, Value.int IntKind.u64 T, Value.int IntKind.u64 V, Value.int IntKind.i64 X] 24)).alloc (Obj.cells #[Value.int IntKind.i64 S, Value.int IntKind.i64 K, Value.int IntKind.u64 T, Value.int IntKind.u64 V, Value.int IntKind.i64 X] 24)).heap.size by have := Sz2.out; simp; omega)
            have hq2 : Q + 1 ≤ w2.heap.size := Sz2.out
            obtain ⟨-, q1, -, -, -⟩ := Re3.out
            have hal := hide (show acc.length + 1 ≤ 1099511627776 by have := Ha.out; omega)
            clear D2 I4 Re2 Ta2 Ow2 Be2 Vx2
            go_wp2_with (first
              | (at_builtin; refine wpList_append_items rfl _ _ rfl (Q + 1) _ acc rfl Ow4.out _ 1 1 _ rfl IS4.out hal.out hs4.out ?_)
              | fail)
            intro v5 w5 o5 g5 b5
            have Re5 := hide (Re4.out.grown g5 (fun e => by have := b5 _ e.symm; omega) (fun j hj => by have := b5 j hj; omega))
            have Ta5 := hide (Ta4.out.grown g5 (fun e => by have := b5 _ e.symm; omega))
            have Ow5 := hide o5
            have Vx5 := hide (Vx4.out.grown g5 hav.out)
            have Be5 := hide (Be4.out.grown g5 Be4.out.size (fun j hj => by have := b5 j hj; omega))
            have hs5 := hide (Nat.le_trans hs4.out g5.size)
            clear o5 g5 b5 Re4 Ta4 Ow4 Be4 Vx4 IS4 hs4 hav q1 Re3
            have hkc := okc_le acc k
            have q := Vx5.out
            unfold Vi at q
            simp only [Nat.zero_add] at q
            obtain ⟨v0, v1, v2, v3, v4⟩ := q
            go_wp2_with fail
            refine (count_any Q k (okc acc k) S K T V X _ Ta5.out (by omega) (by omega)).mono ?_
            rintro e w6 ⟨rfl, t6, g6⟩
            have HO : Hid (okc (acc ++ [⟨S, K, T, V, X⟩]) (k + 1) = okc acc k + if okI S K T V X then 1 else 0) := hide (okc_snoc acc k ⟨S, K, T, V, X⟩ Ha.out)
            have hR6 := hide (show Rr w w6 w.heap.size Q (k + 1) v5 s' 0 (acc ++ [⟨S, K, T, V, X⟩]) from
              ⟨Re5.out.grown g6 (by simp; omega) (by simp; omega), by rw [HO.out]; exact t6, ownI_grown Ow5.out g6 (by simp), by rw [List.length_append, Ha.out]; rfl, fun x hx => by
                  rcases List.mem_append.1 hx with h | h
                  · exact Wf2.out x h
                  · rw [List.mem_singleton.1 h]; exact hxw.out, Be5.out.grown g6 Be5.out.size (fun j hj => by cases hj; omega), hQ, Nat.le_refl _, Nat.le_trans hs5.out g6.size⟩)
            have hl6 := hide (ownI_len (ownI_grown Ow5.out g6 (by simp)))
            clear t6 g6 HO Re5 Ta5 Ow5 Vx5 Be5 hs5 v0 v1 v2 v3 v4
            go_wp2
            go_roundw
            case rel => exact ⟨k + 1, s', _, by omega, hR6, hst⟩
            case measure =>
              have h1 := hl6.out
              have h2 := Hl.out
              have h3 := Ha.out
              rw [List.length_append] at h1
              simp only [List.length_cons, List.length_nil] at h1
              omega
          · have hT := hide (show T0 = ([], s', e') by rw [← hstep.out, if_pos he])
            have hRE := hide (show RR = ([], e') by rw [hRR.out, hT.out]; simp [he])
            have heb : (e' != 0) = true := by simp; omega
            obtain ⟨-, q1, -, -, -⟩ := Re3.out
            have BE := hide (Be2.out.trans (((Below.refl _ w2).alloc (Nat.le_refl _) (Obj.cells #[Value.int IntKind.i64 S, Value.int IntKind.i64 K, Value.int IntKind.u64 T, Value.int IntKind.u64 V, Value.int IntKind.i64 X] 24)).mono Be2.out.size))
            clear hstep hT Re3 Ta2 Ow2 Be2 Vx2
            go_wp2_with fail
            go_region
            go_wp2
            go_ret2
            rw [hRE.out]
            exact ⟨_, rfl, ownI_nil _ _, BE.out.drew⟩
        · obtain rfl : k = N := by omega
          have hT := hide (show T0 = (acc, s, 0) by rw [← ht.out, Nat.sub_self, rds])
          have hall := hide (show (okc acc k == (k : Int)) = acc.all It.ok by rw [← okc_all, Ha.out])
          obtain ⟨⟨aS, lS, cS, qS, bS, -, -⟩, -, -, -, -⟩ := hr.out.1
          have hlS := hide bS.1
          clear bS
          go_wp2_with fail
          refine (tsum_any Q k (okc acc k) wr hr.out.2.1).mono ?_
          rintro e wr' ⟨rfl, hw⟩
          rw [hw]
          clear hw
          go_wp2_with fail
          refine (allfine_any Q k (okc acc k) wr hr.out.2.1).mono ?_
          rw [hall.out]
          rintro e w2 ⟨rfl, b2⟩
          have Be2 := hide (bmore hr.out.2.2.2.2.2.1 b2)
          have Ow2 := hide (ownI_base (ownI_keep hr.out.2.2.1 b2) (show w.heap.size ≤ Q + 1 by have := hr.out.2.2.2.2.2.2.1; omega))
          have q0 := gb_cell (gb_below b2 none) _ qS (by simp)
          clear b2 hr qS hall ht
          cases ha : acc.all It.ok with
          | false =>
            have hRE := hide (show RR = ([], 3) by rw [hRR.out, hT.out]; simp [ha])
            clear hRR hT ha
            go_wp2
            go_ret2
            rw [hRE.out]
            exact ⟨_, rfl, ownI_nil _ _, Be2.out⟩
          | true =>
            cases s with
            | nil =>
              have hRE := hide (show RR = (acc, 0) by rw [hRR.out, hT.out]; simp [ha])
              have h0 : lS = 0 := by have := hlS.out; simpa using this.symm
              subst h0
              clear hRR hT ha hlS
              go_wp2
              go_ret2
              rw [hRE.out]
              exact ⟨_, rfl, Ow2.out, Be2.out⟩
            | cons c r =>
              have hRE := hide (show RR = ([], 3) by rw [hRR.out, hT.out]; simp)
              have h0 : 0 < lS := by have := hlS.out; simp at this; omega
              clear hRR hT ha hlS
              go_wp2
              go_ret2
              rw [hRE.out]
              exact ⟨_, rfl, ownI_nil _ _, Be2.out⟩
  · have hRE := hide (show RR = ([], e1) by rw [← hrr.out]; unfold rd; rw [hp.out]; simp [he])
    have heb : (e1 != 0) = true := by simp; omega
    clear hrr
    go_wp2_with fail
    go_region
    go_wp2
    go_ret2
    rw [hRE.out]
    exact ⟨_, rfl, ownI_nil _ _, B1.out.drew⟩

theorem read_any (ao : Option Addr) (len cap : Nat) (zs : List Int) (w : World) (hc : cap ≤ 9223372036854775807) (h : Bs w ao len cap zs) :
    Calls Try.prog 25 #[.slice ao len cap] w fun e w' => ∃ v, e = .returned (.tuple #[v, .int .i64 (rd zs).2]) ∧ OwnI w' w.heap.size v (rd zs).1 ∧ Below w.heap.size w w' :=
  read_core ao len cap zs w hc h _ _ _ (hide rfl) _ (hide rfl)

end Go.Proofs.Ytfmofkkjnepbcaa.Clep
