/- The methods of a List as the statements use them: what each answers, what it makes of the items, and which blocks it may change; the statements' own function awake. Conditions: fewer than 2^40 items, each of whose fields is in its kind's range. -/
import Derived.Test.YtjpoahnecbefaaaDoorTPutW
import Derived.Test.YtjpoahnecbefaaaDoorTLevel
namespace Go.Proofs.YtjpoahnecbefaaaDoor.Clep
open Go.RowKit
set_option linter.unusedVariables false

/-- What Put answers, and what it makes of the items. -/
def putA (x : It) (n : Int) (ws : List (It × Nat)) : (Bool × Int) × List (It × Nat) :=
  if x.ok = true ∧ 1 ≤ n ∧ n ≤ 6 then (((putW x n.toNat ws).1, 0), (putW x n.toNat ws).2) else ((false, 1), ws)
theorem Held.lt {w : World} {L : Nat} {B : Nat → Prop} {ws : List (It × Nat)} (h : Held w L B ws) : ∀ b, B b → b < w.heap.size := h.1
theorem Held.base {w : World} {L : Nat} {B : Nat → Prop} {ws : List (It × Nat)} (h : Held w L B ws) : B L := by
  obtain ⟨_, S, hL, _, _, _, hB⟩ := h
  exact hB L (.inl hL.symm)
theorem Held.keep {w w' : World} {L : Nat} {B : Nat → Prop} {ws : List (It × Nat)} (h : Held w L B ws) (hb : Below w.heap.size w w') : Held w' L B ws := by
  obtain ⟨h1, S, hL, hh, hp, ha, hB⟩ := h
  exact ⟨fun b hb' => Nat.lt_of_lt_of_le (h1 b hb') hb.size, S, hL, hh.keep hb, hp, ha, hB⟩
theorem Hp.ch {P : Nat → Prop} {w w' : World} {S : Sk} {ts : List Nat} (h : Hp w S ts) (hc : Ch P w w') (h0 : ¬ P S.L) (hn : ∀ t ∈ ts, ¬ P t ∧ ¬ P (S.k t) ∧ ¬ P (S.i t)) : Hp w' S ts :=
  ⟨h.head.ch hc h0, fun t ht => ⟨(h.tw t ht).tow.ch hc (hn t ht).1, (h.tw t ht).lnk.ch hc (hn t ht).2.1, (h.tw t ht).itm.ch hc (hn t ht).2.2, (h.tw t ht).hm⟩, h.kk, h.tgt⟩
/-- Another's change leaves it as it is. -/
theorem Held.ch {P : Nat → Prop} {w w' : World} {L : Nat} {B : Nat → Prop} {ws : List (It × Nat)} (h : Held w L B ws) (hc : Ch P w w') (hd : ∀ b, B b → ¬ P b) : Held w' L B ws := by
  obtain ⟨h1, S, hL, hh, hp, ha, hB⟩ := h
  exact ⟨fun b hb' => Nat.lt_of_lt_of_le (h1 b hb') hc.size, S, hL, hh.ch hc (hd _ (hB _ (.inl rfl))) (fun t ht => ⟨hd _ (hB _ (.inr ⟨t, ht, .inl rfl⟩)), hd _ (hB _ (.inr ⟨t, ht, .inr (.inl rfl)⟩)), hd _ (hB _ (.inr ⟨t, ht, .inr (.inr rfl)⟩))⟩), hp, ha, hB⟩
theorem abs_len {S : Sk} (hp : Pu S) : S.abs.length = S.n := by rw [hp.len]; simp [Sk.abs]

theorem new_h (w : World) : Calls Tryd.prog 20 #[] w fun e w' => ∃ L, e = .returned (.pointer (some ⟨L, 0, none⟩)) ∧ Held w' L (fun b => w.heap.size ≤ b ∧ b < w'.heap.size) [] ∧ Below w.heap.size w w' := by
  refine (new_any w).mono ?_
  rintro e w' ⟨rfl, hh, hb, hs⟩
  refine ⟨_, rfl, ⟨fun b hb' => hb'.2, Sk.new w.heap.size, rfl, hh, pu_new _, rfl, fun b hb' => ?_⟩, hb⟩
  rcases hb' with e | ⟨t, ht, e⟩
  · change b = w.heap.size + 3 at e
    omega
  · change t ∈ [w.heap.size + 2] at ht
    change b = t ∨ b = w.heap.size + 1 ∨ b = w.heap.size at e
    have := List.mem_singleton.1 ht
    omega
theorem put_h (w : World) (L : Nat) (B : Nat → Prop) (ws : List (It × Nat)) (S K T V X n : Int) (h : Held w L B ws) (hw : It.wf ⟨S, K, T, V, X⟩) (hl : ws.length < 1099511627776) :
    Calls Tryd.prog 22 #[.pointer (some ⟨L, 0, none⟩), .agg #[.int .i64 S, .int .i64 K, .int .u64 T, .int .u64 V, .int .i64 X], .int .i64 n] w fun e w' =>
      e = .returned (.tuple #[.bool (putA ⟨S, K, T, V, X⟩ n ws).1.1, .int .i64 (putA ⟨S, K, T, V, X⟩ n ws).1.2]) ∧ Held w' L (fun b => B b ∨ (w.heap.size ≤ b ∧ b < w'.heap.size)) (putA ⟨S, K, T, V, X⟩ n ws).2 ∧ Ch B w w' := by
  unfold putA
  by_cases hg : (It.mk S K T V X).ok = true ∧ 1 ≤ n ∧ n ≤ 6
  · rw [if_pos hg]
    obtain ⟨h1, Z, rfl, hh, hp, rfl, hB⟩ := h
    obtain ⟨m, rfl⟩ : ∃ m : Nat, n = m := ⟨n.toNat, by omega⟩
    have hZn : Z.n < 1099511627776 := by rw [← abs_len hp]; exact hl
    refine (put_good w Z S K T V X m (by omega) hg.1 hw hh hp hZn).mono ?_
    rintro e w' ⟨rfl, S', hL, hh', hp', ha, hb', hc⟩
    refine ⟨rfl, ⟨fun b hb => ?_, S', hL, hh', hp', ha, fun b hb => ?_⟩, hc.mono fun i _ hi => hB i hi⟩
    · rcases hb with e | e
      · exact Nat.lt_of_lt_of_le (h1 b e) hc.size
      · exact e.2
    · rcases hb' b hb with e | e
      · exact .inl (hB b e)
      · exact .inr e
  · rw [if_neg hg]
    refine (put_bad w L S K T V X n ?_).mono ?_
    · cases ho : okI S K T V X with
      | false => exact .inl rfl
      | true => exact .inr fun hh => hg ⟨ho, hh⟩
    · rintro e w' ⟨rfl, hb⟩
      obtain ⟨q1, Z, q2, q3, q4, q5, q6⟩ := h.keep hb
      refine ⟨rfl, ⟨fun b hb' => ?_, Z, q2, q3, q4, q5, fun b hb' => .inl (q6 b hb')⟩, Ch.of hb⟩
      rcases hb' with e | e
      · exact q1 b e
      · exact e.2
theorem len_h (w : World) (L : Nat) (B : Nat → Prop) (ws : List (It × Nat)) (h : Held w L B ws) : Calls Tryd.prog 24 #[.pointer (some ⟨L, 0, none⟩)] w fun e w' => e = .returned (.int .i64 ws.length) ∧ w' = w := by
  obtain ⟨h1, Z, rfl, hh, hp, rfl, hB⟩ := h
  have := len_any w Z (Z.f :: Z.l) hh
  rw [abs_len hp]
  exact this
theorem level_h (w : World) (L : Nat) (B : Nat → Prop) (ws : List (It × Nat)) (n : Int) (h : Held w L B ws) (hl : ws.length < 1099511627776) :
    Calls Tryd.prog 47 #[.pointer (some ⟨L, 0, none⟩), .int .i64 n] w (AnsW (levW n ws) w) := by
  by_cases hn : 1 ≤ n ∧ n ≤ 6
  · obtain ⟨h1, Z, rfl, hh, hp, rfl, hB⟩ := h
    obtain ⟨j, rfl⟩ : ∃ j : Nat, n = (j + 1 : Nat) := ⟨(n - 1).toNat, by omega⟩
    rw [lev_abs j (by omega)]
    exact level_core w Z j (by omega) hh hp (by rw [← abs_len hp]; exact hl)
  · refine (level_no w L n hn).mono ?_
    rintro e w' ⟨rfl, rfl⟩
    unfold levW
    rw [if_neg hn]
    exact ⟨none, 0, rfl, is_nil _, by omega, Below.refl _ _⟩
theorem all_h (w : World) (L : Nat) (B : Nat → Prop) (ws : List (It × Nat)) (h : Held w L B ws) (hl : ws.length < 1099511627776) :
    Calls Tryd.prog 26 #[.pointer (some ⟨L, 0, none⟩)] w (AnsW (ws.map Prod.fst) w) := by
  obtain ⟨h1, Z, rfl, hh, hp, rfl, hB⟩ := h
  have e : Z.abs.map Prod.fst = (Z.lev 0).map Z.x := by
    rw [lev0 hp]
    unfold Sk.abs
    simp
  rw [e]
  exact all_core w Z hh hp (by rw [← abs_len hp]; exact hl)
theorem it_wf (a b c d e : Int) (h : (-9223372036854775808 ≤ a ∧ a ≤ 9223372036854775807) ∧ (-9223372036854775808 ≤ b ∧ b ≤ 9223372036854775807) ∧ (0 ≤ c ∧ c ≤ 18446744073709551615) ∧ (0 ≤ d ∧ d ≤ 18446744073709551615) ∧ (-9223372036854775808 ≤ e ∧ e ≤ 9223372036854775807)) : It.wf ⟨a, b, c, d, e⟩ := h

theorem Vi.ch {P : Nat → Prop} {w w' : World} {R o : Nat} {S K T V X : Int} (h : Vi w R o S K T V X) (hc : Ch P w w') (hn : ¬ P R) : Vi w' R o S K T V X := by
  have e := hc.block R h.lt hn
  obtain ⟨h0, h1, h2, h3, h4⟩ := h
  exact ⟨(World.cell?_of_block (a := ⟨R, o, none⟩) e).trans h0, (World.cell?_of_block (a := ⟨R, o + 1, none⟩) e).trans h1, (World.cell?_of_block (a := ⟨R, o + 2, none⟩) e).trans h2, (World.cell?_of_block (a := ⟨R, o + 3, none⟩) e).trans h3, (World.cell?_of_block (a := ⟨R, o + 4, none⟩) e).trans h4⟩
theorem Vx.ch {P : Nat → Prop} {w w' : World} {R : Nat} {S K T V X : Int} (h : Vx w R S K T V X) (hc : Ch P w w') (hn : ¬ P R) : Vx w' R S K T V X := by
  have e := hc.block R h.lt hn
  refine ⟨h.1.ch hc hn, ?_⟩
  obtain ⟨h0, h1, h2, h3, h4⟩ := h.2
  exact ⟨(World.frozen?_of_block (a := ⟨R, 0, none⟩) e).trans h0, (World.frozen?_of_block (a := ⟨R, 0 + 1, none⟩) e).trans h1, (World.frozen?_of_block (a := ⟨R, 0 + 2, none⟩) e).trans h2, (World.frozen?_of_block (a := ⟨R, 0 + 3, none⟩) e).trans h3, (World.frozen?_of_block (a := ⟨R, 0 + 4, none⟩) e).trans h4⟩
theorem Below.ch {B : Nat} {P : Nat → Prop} {w w1 w2 : World} (h : Below B w w1) (hc : Ch P w1 w2) (hB : B ≤ w1.heap.size) (hP : ∀ i, P i → B ≤ i) : Below B w w2 := h.trans (hc.below hB hP)

end Go.Proofs.YtjpoahnecbefaaaDoor.Clep
