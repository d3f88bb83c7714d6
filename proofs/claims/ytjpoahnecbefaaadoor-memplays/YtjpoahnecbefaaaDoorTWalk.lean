/- What tower.walk and List.seek do when called: the last tower of a level that stands ahead of an item, and the first one that does not. No conditions but that the List lies in memory. -/
import Derived.Test.YtjpoahnecbefaaaDoorTHeap
namespace Go.Proofs.YtjpoahnecbefaaaDoor.Clep
open Go.RowKit
set_option linter.unusedVariables false

def ql (l : List Nat) : Value → Nat
  | .pointer (some ad) => (l.dropWhile (fun t => t != ad.block)).length
  | _ => 0
theorem ql_eq : ∀ (p q : List Nat), (p ++ q).Nodup → ql (p ++ q) (pt q.head?) = q.length
  | [], [], _ => rfl
  | [], b :: r, _ => by simp [pt, ql]
  | a :: p, [], h => by simp [pt, ql]
  | a :: p, b :: r, h => by
    have h' := List.nodup_cons.1 (show (a :: (p ++ b :: r)).Nodup from h)
    have hab : a ≠ b := fun e => h'.1 (by simp [e])
    have ih := ql_eq p (b :: r) h'.2
    simp only [pt, ql, List.head?_cons, Option.map] at ih ⊢
    show ((a :: (p ++ b :: r)).dropWhile _).length = _
    rw [List.dropWhile_cons, if_pos (by simp [hab])]
    exact ih

set_option maxHeartbeats 1000000 in
theorem walk_any (w : World) (Z : Sk) (ts l : List Nat) (a j : Nat) (A S K T V X : Int) (h : Hp w Z ts) (ha : a ∈ ts ∧ j < Z.m a) (hl : ∀ t ∈ l, t ∈ ts ∧ j < Z.m t) (hn : l.Nodup) (hc : Chain Z.nx j a l) (hA : A = j + 1) :
    Calls Tryd.prog 71 #[.pointer (some ⟨a, 0, none⟩), .agg #[.int .i64 S, .int .i64 K, .int .u64 T, .int .u64 V, .int .i64 X], .int .i64 A] w fun e w' =>
      e = .returned (.tuple #[.pointer (some ⟨ah (Z.lt ⟨S, K, T, V, X⟩) a l, 0, none⟩), pt (be (Z.lt ⟨S, K, T, V, X⟩) l)]) ∧ Below w.heap.size w w' := by
  obtain ⟨w0, hw0⟩ : ∃ w0, w0 = w.alloc (Obj.cells #[Value.int IntKind.i64 S, Value.int IntKind.i64 K, Value.int IntKind.u64 T, Value.int IntKind.u64 V, Value.int IntKind.i64 X] 32) := ⟨_, rfl⟩
  have B0 : Below w.heap.size w w0 := by rw [hw0]; exact (Below.refl _ _).alloc (Nat.le_refl _) _
  have hx := vi_new w S K T V X
  rw [← hw0] at hx
  have HX := hide hx
  have H0 := hide (h.keep B0)
  have HB0 := hide B0
  have N0 := hide (next_any w0 Z ts a j A H0.out ha.1 ha.2 hA)
  obtain ⟨lt, hlt⟩ : ∃ lt, lt = Z.lt ⟨S, K, T, V, X⟩ := ⟨_, rfl⟩
  have HLT := hide hlt
  rw [← hlt]
  clear hlt
  have HW0 := hide hw0
  have HC := hide hc
  have HL := hide hl
  have HA := hide ha
  have HN := hide hn
  have HAA := hide hA
  obtain ⟨R, hR⟩ : ∃ R, R = w.heap.size := ⟨_, rfl⟩
  have HR := hide hR
  rw [← hR] at HX
  clear h B0 hx hc hl ha hn hA
  go_enter Tryd.func71, Tryd.ntmps71
  go_wp2_with fail
  rw [← hw0, ← hR]
  clear hw0 hR
  refine N0.out.mono ?_
  rintro e w1 ⟨rfl, rfl⟩
  obtain ⟨v7, hv7⟩ : ∃ v7, v7 = pt (Z.nx a j) := ⟨_, rfl⟩
  rw [← hv7]
  have HV7 := hide hv7
  clear hv7
  go_wp2_with fail
  go_loopw [6, 7] (fun s6 s7 wr => ∃ (c : Nat) (p q : List Nat), s6 = .pointer (some ⟨c, 0, none⟩) ∧ s7 = pt q.head? ∧ Hid (l = p ++ q) ∧ Hid (c ∈ ts ∧ j < Z.m c) ∧ Hid (Chain Z.nx j c q) ∧ Hid (ah lt a l = ah lt c q ∧ be lt l = be lt q) ∧ Hid (Below w1.heap.size w1 wr)) (fun _ s7 _ => ql l s7)
  case atStart =>
    refine ⟨a, [], l, rfl, ?_, hide rfl, HA, HC, hide ⟨rfl, rfl⟩, hide (Below.refl _ _)⟩
    rw [HV7.out]
    cases l with
    | nil => rw [show Z.nx a j = none from HC.out]; rfl
    | cons b r => rw [HC.out.1]; rfl
  case round =>
    obtain ⟨c, p, q, rfl, rfl, hpq, hcm, hch, hah, hbel⟩ := hrel
    cases q with
    | nil =>
      have e1 := hide (show ah lt a l = c from hah.out.1)
      have e2 := hide (show be lt l = none from hah.out.2)
      have hne : Nonempty (Kp wr) := ⟨⟨_, Below.refl _ _⟩⟩
      have hpt : pt ([] : List Nat).head? = .pointer none := rfl
      rw [hpt]
      clear hpt
      go_wp2_with fail
      refine wp_region_kept (by kernel_rfl) (by kernel_rfl) ?_
      repeat (first
        | go_big_quiet_step (fail)
        | fail)
      refine wpQuiet_nil ?_
      intro w2 hw'
      have HB : Hid (Below w.heap.size w w2) := by
        obtain ⟨⟨w3', hb3⟩, hw''⟩ := hw'
        rw [hw'']; exact bmore (bmore HB0.out hbel.out) hb3
      clear hw' hne
      go_wp2
      go_ret2
      exact ⟨by rw [e1.out, e2.out]; rfl, HB.out⟩
    | cons b r =>
      have hbm := HL.out b (by rw [hpq.out]; simp)
      have hpt : pt (b :: r).head? = .pointer (some ⟨b, 0, none⟩) := rfl
      rw [hpt]
      have Hq := hide (ql_eq p (b :: r) (hpq.out ▸ HN.out))
      rw [hpt] at Hq
      have Hq2 := hide (ql_eq (p ++ [b]) r (by rw [List.append_assoc]; exact hpq.out ▸ HN.out))
      clear hpt
      have HBM := hide hbm
      have hI := hide (fun W (hW : Below wr.heap.size wr W) => item_any W Z ts b ((H0.out.keep hbel.out).keep hW) hbm.1)
      have hv := HX.out.keep hbel.out
      unfold Vi at hv
      have HV := hide hv
      have d0 : ∀ p : Kp wr, p.W.cell? ⟨R, 0, none⟩ = some (.int .i64 S) := fun p => (Vi.keep HV.out p.h).1
      have d1 : ∀ p : Kp wr, p.W.cell? ⟨R, 1, none⟩ = some (.int .i64 K) := fun p => (Vi.keep HV.out p.h).2.1
      have d2 : ∀ p : Kp wr, p.W.cell? ⟨R, 2, none⟩ = some (.int .u64 T) := fun p => (Vi.keep HV.out p.h).2.2.1
      have d3 : ∀ p : Kp wr, p.W.cell? ⟨R, 3, none⟩ = some (.int .u64 V) := fun p => (Vi.keep HV.out p.h).2.2.2.1
      have d4 : ∀ p : Kp wr, p.W.cell? ⟨R, 4, none⟩ = some (.int .i64 X) := fun p => (Vi.keep HV.out p.h).2.2.2.2
      have hltb := hide (show lt b = lessI (Z.x b).S (Z.x b).K (Z.x b).T S K T by rw [HLT.out]; rfl)
      obtain ⟨S1, K1, T1, V1, X1, ex⟩ : ∃ S1 K1 T1 V1 X1, Z.x b = ⟨S1, K1, T1, V1, X1⟩ := ⟨_, _, _, _, _, rfl⟩
      rw [ex] at hI hltb
      simp only at hI hltb
      have c0 : Hid (∀ p : Kp wr, Calls Tryd.prog 56 #[.pointer (some ⟨b, 0, none⟩)] p.W fun e w'' => e = .returned (.agg #[.int .i64 S1, .int .i64 K1, .int .u64 T1, .int .u64 V1, .int .i64 X1]) ∧ ∃ q : Kp wr, w'' = q.W) := hide fun p => kp_call (hI.out _ p.h)
      have c1 : Hid (∀ p : Kp wr, Calls Tryd.prog 72 #[.agg #[.int .i64 S1, .int .i64 K1, .int .u64 T1, .int .u64 V1, .int .i64 X1], .agg #[.int .i64 S, .int .i64 K, .int .u64 T, .int .u64 V, .int .i64 X]] p.W fun e w'' => e = .returned (.bool (lessI S1 K1 T1 S K T)) ∧ ∃ q : Kp wr, w'' = q.W) := hide fun p => kp_call (less_any S1 K1 T1 V1 X1 S K T V X _)
      have hne : Nonempty (Kp wr) := ⟨⟨_, Below.refl _ _⟩⟩
      have N1 := hide (fun W (hW : Below wr.heap.size wr W) => next_any W Z ts b j A ((H0.out.keep hbel.out).keep hW) hbm.1 hbm.2 HAA.out)
      generalize lessI S1 K1 T1 S K T = o at *
      clear hv HV hbm ex hI
      go_wp2_with fail
      refine wp_region_kept (by kernel_rfl) (by kernel_rfl) ?_
      repeat (first
        | go_big_quiet_step (first | (go_at_call 56; exact c0.out _) | (go_at_call 72; exact c1.out _))
        | fail)
      refine wpQuiet_nil ?_
      intro w2 hw'
      have HB2 : Hid (Below wr.heap.size wr w2) := by
        obtain ⟨⟨w3', hb3⟩, hw''⟩ := hw'
        rw [hw'']; exact hide hb3
      clear hw' hne d0 d1 d2 d3 d4 c0 c1
      cases o with
      | false =>
        have e1 := hide (show ah lt a l = c by
          rw [hah.out.1]
          show (if lt b then ah lt b r else c) = c
          rw [hltb.out]; rfl)
        have e2 := hide (show be lt l = some b by
          rw [hah.out.2]
          show (if lt b then be lt r else some b) = some b
          rw [hltb.out]; rfl)
        have HB := hide (bmore (bmore HB0.out hbel.out) HB2.out)
        go_wp2
        go_ret2
        exact ⟨by rw [e1.out, e2.out]; rfl, HB.out⟩
      | true =>
        have e1 := hide (show ah lt a l = ah lt b r by
          rw [hah.out.1]
          show (if lt b then ah lt b r else c) = _
          rw [hltb.out]; rfl)
        have e2 := hide (show be lt l = be lt r by
          rw [hah.out.2]
          show (if lt b then be lt r else some b) = _
          rw [hltb.out]; rfl)
        have hhd := hide (show Z.nx b j = r.head? by
          have := hch.out.2
          cases r with
          | nil => exact this
          | cons d s => exact this.1)
        have N2 := hide (N1.out _ HB2.out)
        rw [hhd.out] at N2
        have HB3 := hide (bmore hbel.out HB2.out)
        have HC3 := hide hch.out.2
        have Hpq := hide (show l = (p ++ [b]) ++ r by rw [hpq.out]; simp)
        rw [← Hpq.out] at Hq2
        rw [← hpq.out] at Hq
        go_wp2_with fail
        refine N2.out.mono ?_
        rintro e w3 ⟨rfl, rfl⟩
        obtain ⟨v8, hv8⟩ : ∃ v8, v8 = pt r.head? := ⟨_, rfl⟩
        have HV8 := hide hv8
        rw [← hv8] at Hq2 ⊢
        clear hv8 N2
        go_wp2_with fail
        go_roundw
        case rel => exact ⟨b, p ++ [b], r, rfl, HV8.out, Hpq, HBM, HC3, hide ⟨e1.out, e2.out⟩, HB3⟩
        case measure => rw [Hq.out, Hq2.out]; simp

theorem seek_from {Z : Sk} (hp : Pu Z) (x : It) (i c : Nat) (hi : i < 6) (hc : c = Z.f ∨ c = ah (Z.lt x) Z.f (Z.lev (i + 1))) :
    ∃ q, (∀ t ∈ q, t ∈ Z.lev i) ∧ q.Nodup ∧ Chain Z.nx i c q ∧ ah (Z.lt x) Z.f (Z.lev i) = ah (Z.lt x) c q ∧ be (Z.lt x) (Z.lev i) = be (Z.lt x) q ∧ (c = Z.f ∨ c ∈ Z.lev i) := by
  have hf : c = Z.f ∨ (c ∈ Z.lev i ∧ Z.lt x c = true) := by
    rcases hc with h | h
    · exact .inl h
    · rcases ah_mem (Z.lt x) (Z.lev (i + 1)) Z.f with e | ⟨e1, e2⟩
      · exact .inl (h.trans e)
      · rw [← h] at e1 e2
        exact .inr ⟨lev_up e1, e2⟩
  rcases hf with rfl | ⟨h1, h2⟩
  · exact ⟨Z.lev i, fun t ht => ht, (List.nodup_cons.1 (hp.lnodup i)).2, hp.chain i hi, rfl, rfl, .inl rfl⟩
  · obtain ⟨q, q1, q2, q3, q4, q5⟩ := seek_step (Z.lt x) (Z.lev i) c (hp.mono x i) h1 h2
    exact ⟨q, q1, q5 (List.nodup_cons.1 (hp.lnodup i)).2, q2 _ _ _ (hp.chain i hi), q3 _, q4, .inr h1⟩

set_option maxHeartbeats 1000000 in
theorem seek_any (w : World) (Z : Sk) (ts : List Nat) (j : Nat) (A S K T V X : Int) (h : Hp w Z ts) (hp : Pu Z) (hts : ∀ t ∈ Z.f :: Z.l, t ∈ ts) (hj : j < 6) (hA : A = j + 1) :
    Calls Tryd.prog 57 #[.pointer (some ⟨Z.L, 0, none⟩), .agg #[.int .i64 S, .int .i64 K, .int .u64 T, .int .u64 V, .int .i64 X], .int .i64 A] w fun e w' =>
      e = .returned (.tuple #[.pointer (some ⟨ah (Z.lt ⟨S, K, T, V, X⟩) Z.f (Z.lev j), 0, none⟩), pt (be (Z.lt ⟨S, K, T, V, X⟩) (Z.lev j))]) ∧ Below w.heap.size w w' := by
  obtain ⟨w0, hw0⟩ : ∃ w0, w0 = w.alloc (Obj.cells #[Value.int IntKind.i64 S, Value.int IntKind.i64 K, Value.int IntKind.u64 T, Value.int IntKind.u64 V, Value.int IntKind.i64 X] 32) := ⟨_, rfl⟩
  have B0 : Below w.heap.size w w0 := by rw [hw0]; exact (Below.refl _ _).alloc (Nat.le_refl _) _
  have hx := vi_new w S K T V X
  rw [← hw0] at hx
  have HX := hide hx
  have H0 := hide (h.keep B0)
  have HB0 := hide B0
  have hhd : w.cell? ⟨Z.L, 0, none⟩ = some (pt (some Z.f)) := h.head.cell rfl
  have hW : ∀ (i c : Nat) (W : World), i < 6 → (c = Z.f ∨ c = ah (Z.lt ⟨S, K, T, V, X⟩) Z.f (Z.lev (i + 1))) → Below w0.heap.size w0 W → Calls Tryd.prog 71 #[.pointer (some ⟨c, 0, none⟩), .agg #[.int .i64 S, .int .i64 K, .int .u64 T, .int .u64 V, .int .i64 X], .int .i64 (i + 1 : Nat)] W fun e w' =>
      e = .returned (.tuple #[.pointer (some ⟨ah (Z.lt ⟨S, K, T, V, X⟩) Z.f (Z.lev i), 0, none⟩), pt (be (Z.lt ⟨S, K, T, V, X⟩) (Z.lev i))]) ∧ Below W.heap.size W w' := by
    intro i c W hi hc hb
    obtain ⟨q, q1, q2, q3, q4, q5, q6⟩ := seek_from hp ⟨S, K, T, V, X⟩ i c hi hc
    have hin : ∀ t ∈ Z.lev i, t ∈ ts ∧ i < Z.m t := fun t ht => by
      have := lev_mem.1 ht
      have hg := hp.g t this.1
      exact ⟨hts t (by simp [this.1]), by omega⟩
    rw [q4, q5]
    refine walk_any W Z ts q c i _ S K T V X (H0.out.keep hb) ?_ (fun t ht => hin t (q1 t ht)) q2 q3 (by omega)
    rcases q6 with rfl | e
    · exact ⟨hts _ (by simp), by rw [hp.mf]; exact hi⟩
    · exact hin c e
  have HW := hide hW
  obtain ⟨R, hR⟩ : ∃ R, R = w.heap.size := ⟨_, rfl⟩
  have HR := hide hR
  rw [← hR] at HX
  generalize Z.lt ⟨S, K, T, V, X⟩ = lt at *
  obtain ⟨La, hLa⟩ : ∃ La, La = Z.L := ⟨_, rfl⟩
  rw [← hLa] at hhd ⊢
  clear hLa
  unfold pt at hhd
  simp only [Option.map] at hhd
  have c00 : w0.cell? ⟨La, 0, none⟩ = some (.pointer (some ⟨Z.f, 0, none⟩)) := (B0.cell (p := ⟨La, 0, none⟩) (World.block_lt_of_cell? w _ hhd)).trans hhd
  rw [hw0] at c00
  have HAE := hide hA
  clear h hp hts B0 hx hW hA
  go_enter Tryd.func57, Tryd.ntmps57
  go_wp2_with fail
  rw [← hw0, ← hR]
  clear hw0 hR hhd c00
  go_loopw [6, 7, 8] (fun s6 s7 s8 wr => ∃ (i c : Nat), s6 = .pointer (some ⟨c, 0, none⟩) ∧ s8 = .int .i64 i ∧ j ≤ i ∧ i ≤ 6 ∧ Hid (c = Z.f ∨ c = ah lt Z.f (Z.lev i)) ∧ Hid (i ≠ 6 → c = ah lt Z.f (Z.lev i) ∧ s7 = pt (be lt (Z.lev i))) ∧ (∃ o, s7 = .pointer o) ∧ Hid (Below w0.heap.size w0 wr)) (fun _ _ s8 _ => (intOf s8).toNat)
  case atStart => exact ⟨6, Z.f, rfl, rfl, by omega, by omega, hide (.inl rfl), hide (fun h => absurd rfl h), ⟨_, rfl⟩, hide (Below.refl _ _)⟩
  case round =>
    obtain ⟨i, c, rfl, rfl, hji, hi6, hc, hr, ⟨o, rfl⟩, hbel⟩ := hrel
    by_cases hlt : j < i
    · obtain ⟨k, rfl⟩ : ∃ k, i = k + 1 := ⟨i - 1, by omega⟩
      have hv := HX.out.keep hbel.out
      unfold Vi at hv
      simp only [Nat.zero_add] at hv
      obtain ⟨v0, v1, v2, v3, v4⟩ := hv
      have hg : A ≤ ((k + 1 : Nat) : Int) := by have := HAE.out; omega
      have hk6 : k < 6 := by omega
      have C1 := hide (HW.out k c wr hk6 hc.out hbel.out)
      go_wp2_with fail
      refine C1.out.mono ?_
      rintro e w2 ⟨rfl, b2⟩
      have HB := hide (bmore hbel.out b2)
      obtain ⟨c2, hc2⟩ : ∃ c2, c2 = ah lt Z.f (Z.lev k) := ⟨_, rfl⟩
      obtain ⟨o2, ho2⟩ : ∃ o2, pt (be lt (Z.lev k)) = .pointer o2 := ⟨_, rfl⟩
      have HC2 := hide hc2
      have HO2 := hide ho2
      rw [← hc2, ho2]
      clear hc2 ho2 b2 C1
      go_wp2_with fail
      go_roundw
      case rel => first | exact ⟨k, c2, rfl, by go_num, by omega, by omega, hide (.inr HC2.out), hide (fun _ => ⟨HC2.out, HO2.out.symm⟩), ⟨o2, rfl⟩, HB⟩ | ((repeat apply Exists.intro); exact ⟨⟨k, c2, rfl, by go_num, by omega, by omega, hide (.inr HC2.out), hide (fun _ => ⟨HC2.out, HO2.out.symm⟩), ⟨o2, rfl⟩, HB⟩, rfl⟩)
      case measure => first | (simp [intOf]; omega) | simp [intOf]
    · obtain rfl : i = j := by omega
      have e1 := hide (hr.out (by omega))
      have HB := hide (bmore HB0.out hbel.out)
      have hg : ¬ (A ≤ (i : Int)) := by have := HAE.out; omega
      go_wp2
      go_ret2
      exact ⟨by rw [← e1.out.1, ← e1.out.2]; rfl, HB.out⟩

end Go.Proofs.YtjpoahnecbefaaaDoor.Clep
