/- What Level and All of a List do when called. Conditions: at most 2^40 items. -/
import Derived.Test.YtjpoahnecbefaaaDoorTAsk
import Derived.Test.YtjpoahnecbefaaaDoorTWalk
namespace Go.Proofs.YtjpoahnecbefaaaDoor.Clep
open Go.RowKit
set_option linter.unusedVariables false

theorem lev_abs {S : Sk} (j : Nat) (hj : j < 6) : levW ((j + 1 : Nat) : Int) S.abs = (S.lev j).map S.x := by
  unfold levW Sk.abs Sk.lev
  rw [if_pos (by omega)]
  generalize S.l = l
  induction l with
  | nil => rfl
  | cons b r ih =>
    rw [List.map_cons, List.filter_cons, List.filter_cons]
    by_cases h : j < S.g b
    · rw [if_pos (by simp; omega), if_pos (by simp [h]), List.map_cons, List.map_cons, ih]
    · rw [if_neg (by simp; omega), if_neg (by simp [h]), ih]

set_option maxHeartbeats 1000000 in
theorem level_no (w : World) (L : Nat) (n : Int) (hn : ¬ (1 ≤ n ∧ n ≤ 6)) :
    Calls Tryd.prog 47 #[.pointer (some ⟨L, 0, none⟩), .int .i64 n] w fun e w' => e = .returned (.slice none 0 0) ∧ w' = w := by
  have HH := hide (isHeight_any n)
  rw [show decide (1 ≤ n ∧ n ≤ 6) = false from by simp; omega] at HH
  go_enter Tryd.func47, Tryd.ntmps47
  go_wp2_with fail
  refine (HH.out _).mono ?_
  rintro e w1 ⟨rfl, rfl⟩
  go_wp2
  go_ret
  exact ⟨rfl, rfl⟩

set_option maxHeartbeats 1600000 in
theorem level_core (w : World) (Z : Sk) (j : Nat) (hj : j < 6) (h : Hp w Z (Z.f :: Z.l)) (hp : Pu Z) (hn : Z.n < 1099511627776) :
    Calls Tryd.prog 47 #[.pointer (some ⟨Z.L, 0, none⟩), .int .i64 (j + 1 : Nat)] w (AnsW ((Z.lev j).map Z.x) w) := by
  have HH := hide (isHeight_any ((j + 1 : Nat) : Int))
  rw [show decide (1 ≤ ((j + 1 : Nat) : Int) ∧ ((j + 1 : Nat) : Int) ≤ 6) = true from by simp; omega] at HH
  have c0 : w.cell? ⟨Z.L, 0, none⟩ = some (pt (some Z.f)) := h.head.cell rfl
  have hpt : pt (some Z.f) = .pointer (some ⟨Z.f, 0, none⟩) := rfl
  rw [hpt] at c0
  have hin : ∀ t ∈ Z.lev j, t ∈ Z.f :: Z.l ∧ j < Z.m t ∧ (Z.x t).wf := fun t ht => by
    have := lev_mem.1 ht
    have hg := hp.g t this.1
    exact ⟨by simp [this.1], by omega, hp.wf t this.1⟩
  have N0 := hide (next_any w Z (Z.f :: Z.l) Z.f j ((j + 1 : Nat) : Int) h (by simp) (by rw [hp.mf]; exact hj) (by omega))
  have HN := hide (fun W b (hW : Below w.heap.size w W) (hb : b ∈ Z.lev j) => next_any W Z (Z.f :: Z.l) b j ((j + 1 : Nat) : Int) (h.keep hW) (hin b hb).1 (hin b hb).2.1 (by omega))
  have HI := hide (fun W b (hW : Below w.heap.size w W) (hb : b ∈ Z.lev j) => item_any W Z (Z.f :: Z.l) b (h.keep hW) (hin b hb).1)
  have HIN := hide hin
  have HC := hide (hp.chain j hj)
  have HND := hide (List.nodup_cons.1 (hp.lnodup j)).2
  have hle : (Z.lev j).length ≤ Z.l.length := List.length_filter_le _ _
  have HLE := hide (show (Z.lev j).length < 1099511627776 by have := hp.len; omega)
  obtain ⟨l, hl⟩ : ∃ l, Z.lev j = l := ⟨_, rfl⟩
  rw [hl] at HN HI HIN HC HND HLE ⊢
  obtain ⟨A, hA⟩ : ∃ A : Int, ((j + 1 : Nat) : Int) = A := ⟨_, rfl⟩
  rw [hA] at HH N0 HN ⊢
  have hA6 : 1 ≤ A ∧ A ≤ 6 := by omega
  clear h hp hpt hin hle hl hA
  go_enter Tryd.func47, Tryd.ntmps47
  go_wp2_with fail
  refine (HH.out _).mono ?_
  rintro e w1 ⟨rfl, hw1⟩
  rw [hw1]
  clear hw1
  go_wp2_with fail
  refine N0.out.mono ?_
  rintro e w1 ⟨rfl, hw1⟩
  rw [hw1]
  clear hw1
  obtain ⟨v6, hv6⟩ : ∃ v6, v6 = pt (Z.nx Z.f j) := ⟨_, rfl⟩
  have HV6 := hide (show v6 = pt l.head? by
    rw [hv6]
    cases l with
    | nil => rw [show Z.nx Z.f j = none from HC.out]; rfl
    | cons b r => rw [HC.out.1]; rfl)
  rw [← hv6]
  clear hv6 c0 N0 HH
  go_wp2_with fail
  go_loopw [5, 6] (fun s5 s6 wr => ∃ (p q : List Nat), s6 = pt q.head? ∧ Hid (l = p ++ q) ∧ Hid (∀ c, p.getLast? = some c → Chain Z.nx j c q) ∧ Hid (p = [] ∨ p ≠ []) ∧ Hid (OwnI wr w.heap.size s5 (p.map Z.x)) ∧ Hid (Below w.heap.size w wr)) (fun _ s6 _ => ql l s6)
  case atStart => exact ⟨[], l, HV6.out, hide rfl, hide (by simp), hide (.inl rfl), hide (ownI_nil _ _), hide (Below.refl _ _)⟩
  case round =>
    obtain ⟨p, q, rfl, hpq, hch, -, hown, hbel⟩ := hrel
    cases q with
    | nil =>
      have hpl : l = p := by rw [hpq.out]; simp
      have hpt : pt ([] : List Nat).head? = .pointer none := rfl
      rw [hpt]
      have hw : ∀ x ∈ p.map Z.x, x.wf := fun x hx => by
        obtain ⟨t, ht, rfl⟩ := List.mem_map.1 hx
        exact (HIN.out t (by rw [hpl]; exact ht)).2.2
      obtain ⟨ao, cap, ev, hcap, his, _⟩ := ownI_is hown.out hw
      have HPL := hide hpl
      have HIS := hide his
      have HCAP := hide hcap
      subst ev
      clear hpl hpt hw his hcap
      go_wp2
      go_ret
      refine ⟨ao, cap, ?_⟩
      rw [HPL.out]
      exact ⟨rfl, HIS.out, HCAP.out, hbel.out⟩
    | cons b r =>
      have hbl : b ∈ l := by rw [hpq.out]; simp
      have hpt : pt (b :: r).head? = .pointer (some ⟨b, 0, none⟩) := rfl
      rw [hpt]
      have Hq := hide (ql_eq p (b :: r) (hpq.out ▸ HND.out))
      rw [hpt, ← hpq.out] at Hq
      have Hpq := hide (show l = (p ++ [b]) ++ r by rw [hpq.out]; simp)
      have Hq2 := hide (ql_eq (p ++ [b]) r (by rw [← Hpq.out]; exact HND.out))
      rw [← Hpq.out] at Hq2
      have CI := hide (HI.out wr b hbel.out hbl)
      have hwf := (HIN.out b hbl).2.2
      have hcb : Hid (Chain Z.nx j b r) := by
        cases hgl : p.getLast? with
        | none =>
          have hp0 : p = [] := List.getLast?_eq_none_iff.1 hgl
          have := HC.out
          rw [hpq.out, hp0] at this
          exact hide this.2
        | some c => exact hide (hch.out c hgl).2
      have hlen : p.length + 1 ≤ 1099511627776 := by
        have := HLE.out
        rw [hpq.out] at this
        simp at this
        omega
      have HLN := hide (show (p.map Z.x).length + 1 ≤ 1099511627776 by simpa using hlen)
      have HMP := hide (show (p ++ [b]).map Z.x = p.map Z.x ++ [Z.x b] by simp)
      obtain ⟨S1, K1, T1, V1, X1, ex⟩ : ∃ S1 K1 T1 V1 X1, Z.x b = ⟨S1, K1, T1, V1, X1⟩ := ⟨_, _, _, _, _, rfl⟩
      rw [ex] at CI hwf HMP
      simp only at CI
      have HWF := hide hwf
      have HBL := hide hbl
      have hhd := hide (show Z.nx b j = r.head? by
        have := hcb.out
        cases r with
        | nil => exact this
        | cons d s => exact this.1)
      clear hbl hpt hwf hlen ex
      go_wp2_with fail
      refine CI.out.mono ?_
      rintro e w2 ⟨rfl, b2⟩
      have A2 := (Below.refl w2.heap.size w2).alloc (Nat.le_refl _) (Obj.cells #[Value.int IntKind.i64 S1, Value.int IntKind.i64 K1, Value.int IntKind.u64 T1, Value.int IntKind.u64 V1, Value.int IntKind.i64 X1] 32)
      have B3 := hide (bmore (bmore hbel.out b2) A2)
      have O3 := hide (ownI_keep (ownI_keep hown.out b2) A2)
      have IA := hide (is_one w2 S1 K1 T1 V1 X1 HWF.out)
      have hs := hide B3.out.size
      clear A2 b2
      go_wp2_with (at_builtin; refine wpList_append_items rfl _ _ rfl w.heap.size _ (p.map Z.x) rfl O3.out _ 1 1 [(⟨S1, K1, T1, V1, X1⟩ : It)] rfl IA.out HLN.out hs.out ?_; intro v5 w5 o5 g5 k5)
      have B5 := hide (B3.out.grown g5 hs.out k5)
      have O5 := hide o5
      rw [← HMP.out] at O5
      have N5 := hide (HN.out _ b B5.out HBL.out)
      rw [hhd.out] at N5
      clear o5 g5 k5
      refine N5.out.mono ?_
      rintro e w6 ⟨rfl, rfl⟩
      obtain ⟨v8, hv8⟩ : ∃ v8, v8 = pt r.head? := ⟨_, rfl⟩
      have HV8 := hide hv8
      rw [← hv8] at Hq2 ⊢
      clear hv8 N5
      go_wp2_with fail
      go_roundw
      case rel => exact ⟨p ++ [b], r, HV8.out, Hpq, hide (fun c hc => by simp at hc; subst hc; exact hcb.out), hide (.inr (by simp)), O5, B5⟩
      case measure => rw [Hq.out, Hq2.out]; simp

set_option maxHeartbeats 400000 in
theorem all_core (w : World) (Z : Sk) (h : Hp w Z (Z.f :: Z.l)) (hp : Pu Z) (hn : Z.n < 1099511627776) :
    Calls Tryd.prog 26 #[.pointer (some ⟨Z.L, 0, none⟩)] w (AnsW ((Z.lev 0).map Z.x) w) := by
  have C := hide (level_core w Z 0 (by omega) h hp hn)
  generalize (Z.lev 0).map Z.x = l at *
  go_enter Tryd.func26, Tryd.ntmps26
  go_wp2_with fail
  refine C.out.mono ?_
  rintro e w1 ⟨a, c, rfl, hi, hc, hb⟩
  have HI := hide hi
  have HB := hide hb
  have HC := hide hc
  clear hi hb hc
  go_wp2
  go_ret
  exact ⟨a, c, rfl, HI.out, HC.out, HB.out⟩

end Go.Proofs.YtjpoahnecbefaaaDoor.Clep
