/- The methods of a List as the statements use them: what each answers, what it makes of the items, and which blocks it may change; the statements' own function awake. Conditions: fewer than 2^40 items, each of whose fields is in its kind's range. -/
import Derived.Test.YtakpapgjdpnedaaTPutW
import Derived.Test.YtakpapgjdpnedaaTLevel
namespace Go.Proofs.Ytakpapgjdpnedaa.Clep
open Go.RowKit
set_option linter.unusedVariables false

/-- What Put answers, and what it makes of the items. -/
def putA (x : It) (n : Int) (ws : List (It × Nat)) : (Bool × Int) × List (It × Nat) :=
  if x.ok = true ∧ 1 ≤ n ∧ n ≤ 6 then (((putW x n.toNat ws).1, 0), (putW x n.toNat ws).2) else ((false, 1), ws)
theorem Held.lt {w : World} {L : Nat} {B : Nat → Prop} {ws : List (It × Nat)} (h : Held w L B ws) : ∀ b, B b → b < w.heap.size := h.1
theorem Held.base {w : World} {L : Nat} {B : Nat → Prop} {ws : List (It × Nat)} (h : Held w L B ws) : B L := by
  obtain ⟨_, S, hL, _, _, _, hB⟩ := h
  exact hB L (.inl hL.symm)
theorem Held.keep {w w' : World} {L : Nat} {B : Nat → Prop} {ws : List (It × Nat)} (h : Held w L B ws) (hb : Below w.heap.size w w') : Held w' L B ws := by
  obtain ⟨h1, S, hL, hh, hp, ha, hB⟩ := h
  exact ⟨fun b hb' => Nat.lt_of_lt_of_le (h1 b hb') hb.size, S, hL, hh.keep hb, hp, ha, hB⟩
theorem Hp.ch {P : Nat → Prop} {w w' : World} {S : Sk} {ts : List Nat} (h : Hp w S ts) (hc : Ch P w w') (h0 : ¬ P S.L) (hn : ∀ t ∈ ts, ¬ P t ∧ ¬ P (S.k t) ∧ ¬ P (S.i t)) : Hp w' S ts :=
  ⟨h.head.ch hc h0, fun t ht => ⟨(h.tw t ht).tow.ch hc (hn t ht).1, (h.tw t ht).lnk.ch hc (hn t ht).2.1, (h.tw t ht).itm.ch hc (hn t ht).2.2, (h.tw t ht).hm⟩, h.kk, h.tgt⟩
/-- Another's change leaves it as it is. -/
theorem Held.ch {P : Nat → Prop} {w w' : World} {L : Nat} {B : Nat → Prop} {ws : List (It × Nat)} (h : Held w L B ws) (hc : Ch P w w') (hd : ∀ b, B b → ¬ P b) : Held w' L B ws := by
  obtain ⟨h1, S, hL, hh, hp, ha, hB⟩ := h
  exact ⟨fun b hb' => Nat.lt_of_lt_of_le (h1 b hb') hc.size, S, hL, hh.ch hc (hd _ (hB _ (.inl rfl))) (fun t ht => ⟨hd _ (hB _ (.inr ⟨t, ht, .inl rfl⟩)), hd _ (hB _ (.inr ⟨t, ht, .inr (.inl rfl)⟩)), hd _ (hB _ (.inr ⟨t, ht, .inr (.inr rfl)⟩))⟩), hp, ha, hB⟩
theorem abs_len {S : Sk} (hp : Pu S) : S.abs.length = S.n := by rw [hp.len]; simp [Sk.abs]

theorem new_h (w : World) : Calls Try.prog 6 #[] w fun e w' => ∃ L, e = .returned (.pointer (some ⟨L, 0, none⟩)) ∧ Held w' L (fun b => w.heap.size ≤ b ∧ b < w'.heap.size) [] ∧ Below w.heap.size w w' := by
  refine (new_any w).mono ?_
  rintro e w' ⟨rfl, hh, hb, hs⟩
  refine ⟨_, rfl, ⟨fun b hb' => hb'.2, Sk.new w.heap.size, rfl, hh, pu_new _, rfl, fun b hb' => ?_⟩, hb⟩
  rcases hb' with e | ⟨t, ht, e⟩
  · change b = w.heap.size + 3 at e
    omega
  · change t ∈ [w.heap.size + 2] at ht
    change b = t ∨ b = w.heap.size + 1 ∨ b = w.heap.size at e
    have := List.mem_singleton.1 ht
    omega
theorem put_h (w : World) (L : Nat) (B : Nat → Prop) (ws : List (It × Nat)) (S K T V X n : Int) (h : Held w L B ws) (hw : It.wf ⟨S, K, T, V, X⟩) (hl : ws.length < 1099511627776) :
    Calls Try.prog 8 #[.pointer (some ⟨L, 0, none⟩), .agg #[.int .i64 S, .int .i64 K, .int .u64 T, .int .u64 V, .int .i64 X], .int .i64 n] w fun e w' =>
      e = .returned (.tuple #[.bool (putA ⟨S, K, T, V, X⟩ n ws).1.1, .int .i64 (putA ⟨S, K, T, V, X⟩ n ws).1.2]) ∧ Held w' L (fun b => B b ∨ (w.heap.size ≤ b ∧ b < w'.heap.size)) (putA ⟨S, K, T, V, X⟩ n ws).2 ∧ Ch B w w' := by
  unfold putA
  by_cases hg : (It.mk S K T V X).ok = true ∧ 1 ≤ n ∧ n ≤ 6
  · rw [if_pos hg]
    obtain ⟨h1, Z, rfl, hh, hp, rfl, hB⟩ := h
    obtain ⟨m, rfl⟩ : ∃ m : Nat, n = m := ⟨n.toNat, by omega⟩
    have hZn : Z.n < 1099511627776 := by rw [← abs_len hp]; exact hl
    refine (put_good w Z S K T V X m (by omega) hg.1 hw hh hp hZn).mono ?_
    rintro e w' ⟨rfl, S', hL, hh', hp', ha, hb', hc⟩
    refine ⟨rfl, ⟨fun b hb => ?_, S', hL, hh', hp', ha, fun b hb => ?_⟩, hc.mono fun i _ hi => hB i hi⟩
    · rcases hb with e | e
      · exact Nat.lt_of_lt_of_le (h1 b e) hc.size
      · exact e.2
    · rcases hb' b hb with e | e
      · exact .inl (hB b e)
      · exact .inr e
  · rw [if_neg hg]
    refine (put_bad w L S K T V X n ?_).mono ?_
    · cases ho : okI S K T V X with
      | false => exact .inl rfl
      | true => exact .inr fun hh => hg ⟨ho, hh⟩
    · rintro e w' ⟨rfl, hb⟩
      obtain ⟨q1, Z, q2, q3, q4, q5, q6⟩ := h.keep hb
      refine ⟨rfl, ⟨fun b hb' => ?_, Z, q2, q3, q4, q5, fun b hb' => .inl (q6 b hb')⟩, Ch.of hb⟩
      rcases hb' with e | e
      · exact q1 b e
      · exact e.2
theorem len_h (w : World) (L : Nat) (B : Nat → Prop) (ws : List (It × Nat)) (h : Held w L B ws) : Calls Try.prog 14 #[.pointer (some ⟨L, 0, none⟩)] w fun e w' => e = .returned (.int .i64 ws.length) ∧ w' = w := by
  obtain ⟨h1, Z, rfl, hh, hp, rfl, hB⟩ := h
  have := len_any w Z (Z.f :: Z.l) hh
  rw [abs_len hp]
  exact this
theorem from_h (w : World) (L : Nat) (B : Nat → Prop) (ws : List (It × Nat)) (S K T V X : Int) (h : Held w L B ws) (o : Option It) (ho : fromW ⟨S, K, T, V, X⟩ ws = o) :
    Calls Try.prog 17 #[.pointer (some ⟨L, 0, none⟩), .agg #[.int .i64 S, .int .i64 K, .int .u64 T, .int .u64 V, .int .i64 X]] w fun e w' =>
      e = .returned (.tuple #[.agg (itV (o.getD it0)), .bool o.isSome]) ∧ Below w.heap.size w w' := by
  obtain ⟨h1, Z, rfl, hh, hp, rfl, hB⟩ := h
  exact from_any w Z S K T V X hh hp o ho
theorem get_h (w : World) (L : Nat) (B : Nat → Prop) (ws : List (It × Nat)) (S K T V X : Int) (h : Held w L B ws) (o : Option It) (ho : getW ⟨S, K, T, V, X⟩ ws = o) :
    Calls Try.prog 16 #[.pointer (some ⟨L, 0, none⟩), .agg #[.int .i64 S, .int .i64 K, .int .u64 T, .int .u64 V, .int .i64 X]] w fun e w' =>
      e = .returned (.tuple #[.agg (itV (o.getD it0)), .bool o.isSome]) ∧ Below w.heap.size w w' := by
  obtain ⟨h1, Z, rfl, hh, hp, rfl, hB⟩ := h
  exact get_any w Z S K T V X hh hp o ho
theorem level_h (w : World) (L : Nat) (B : Nat → Prop) (ws : List (It × Nat)) (n : Int) (h : Held w L B ws) (hl : ws.length < 1099511627776) :
    Calls Try.prog 15 #[.pointer (some ⟨L, 0, none⟩), .int .i64 n] w (AnsW (levW n ws) w) := by
  by_cases hn : 1 ≤ n ∧ n ≤ 6
  · obtain ⟨h1, Z, rfl, hh, hp, rfl, hB⟩ := h
    obtain ⟨j, rfl⟩ : ∃ j : Nat, n = (j + 1 : Nat) := ⟨(n - 1).toNat, by omega⟩
    rw [lev_abs j (by omega)]
    exact level_core w Z j (by omega) hh hp (by rw [← abs_len hp]; exact hl)
  · refine (level_no w L n hn).mono ?_
    rintro e w' ⟨rfl, rfl⟩
    unfold levW
    rw [if_neg hn]
    exact ⟨none, 0, rfl, is_nil _, by omega, Below.refl _ _⟩
theorem all_h (w : World) (L : Nat) (B : Nat → Prop) (ws : List (It × Nat)) (h : Held w L B ws) (hl : ws.length < 1099511627776) :
    Calls Try.prog 13 #[.pointer (some ⟨L, 0, none⟩)] w (AnsW (ws.map Prod.fst) w) := by
  obtain ⟨h1, Z, rfl, hh, hp, rfl, hB⟩ := h
  have e : Z.abs.map Prod.fst = (Z.lev 0).map Z.x := by
    rw [lev0 hp]
    unfold Sk.abs
    simp
  rw [e]
  exact all_core w Z hh hp (by rw [← abs_len hp]; exact hl)
theorem it_wf (a b c d e : Int) (h : (-9223372036854775808 ≤ a ∧ a ≤ 9223372036854775807) ∧ (-9223372036854775808 ≤ b ∧ b ≤ 9223372036854775807) ∧ (0 ≤ c ∧ c ≤ 18446744073709551615) ∧ (0 ≤ d ∧ d ≤ 18446744073709551615) ∧ (-9223372036854775808 ≤ e ∧ e ≤ 9223372036854775807)) : It.wf ⟨a, b, c, d, e⟩ := h

theorem Vi.ch {P : Nat → Prop} {w w' : World} {R o : Nat} {S K T V X : Int} (h : Vi w R o S K T V X) (hc : Ch P w w') (hn : ¬ P R) : Vi w' R o S K T V X := by
  have e := hc.block R h.lt hn
  obtain ⟨h0, h1, h2, h3, h4⟩ := h
  exact ⟨(World.cell?_of_block (a := ⟨R, o, none⟩) e).trans h0, (World.cell?_of_block (a := ⟨R, o + 1, none⟩) e).trans h1, (World.cell?_of_block (a := ⟨R, o + 2, none⟩) e).trans h2, (World.cell?_of_block (a := ⟨R, o + 3, none⟩) e).trans h3, (World.cell?_of_block (a := ⟨R, o + 4, none⟩) e).trans h4⟩
theorem Vx.ch {P : Nat → Prop} {w w' : World} {R : Nat} {S K T V X : Int} (h : Vx w R S K T V X) (hc : Ch P w w') (hn : ¬ P R) : Vx w' R S K T V X := by
  have e := hc.block R h.lt hn
  refine ⟨h.1.ch hc hn, ?_⟩
  obtain ⟨h0, h1, h2, h3, h4⟩ := h.2
  exact ⟨(World.frozen?_of_block (a := ⟨R, 0, none⟩) e).trans h0, (World.frozen?_of_block (a := ⟨R, 0 + 1, none⟩) e).trans h1, (World.frozen?_of_block (a := ⟨R, 0 + 2, none⟩) e).trans h2, (World.frozen?_of_block (a := ⟨R, 0 + 3, none⟩) e).trans h3, (World.frozen?_of_block (a := ⟨R, 0 + 4, none⟩) e).trans h4⟩
theorem Below.ch {B : Nat} {P : Nat → Prop} {w w1 w2 : World} (h : Below B w w1) (hc : Ch P w1 w2) (hB : B ≤ w1.heap.size) (hP : ∀ i, P i → B ≤ i) : Below B w w2 := h.trans (hc.below hB hP)

set_option maxRecDepth 100000 in
set_option maxHeartbeats 800000 in
theorem awake_any (w : World) : Calls Try.prog 7 #[] w fun e w' => e = .returned (.bool true) ∧ Below w.heap.size w w' := by
  go_enter Try.func7, Try.ntmps7
  go_wp2_with fail
  refine (new_h w).mono ?_
  rintro e w1 ⟨L, rfl, hh, hb⟩
  obtain ⟨w2, hw2⟩ : ∃ w2, w2 = w1.alloc (Obj.cells #[Value.int IntKind.i64 3, Value.int IntKind.i64 2, Value.int IntKind.u64 0, Value.int IntKind.u64 4, Value.int IntKind.i64 0] 29) := ⟨_, rfl⟩
  have A2 : Below w1.heap.size w1 w2 := by rw [hw2]; exact (Below.refl _ _).alloc (Nat.le_refl _) _
  have B2 := hide (bmore hb A2)
  have VX := vx_new w1 3 2 0 4 0
  obtain ⟨R, hR⟩ : ∃ R, R = w1.heap.size := ⟨_, rfl⟩
  rw [← hw2, ← hR] at VX
  have V2 := hide VX
  have H2 := hide (hh.keep A2)
  have HR := hide (show ¬ ((w.heap.size ≤ R ∧ R < w1.heap.size)) by omega)
  have HR2 := hide (show w.heap.size ≤ R by have := hb.size; omega)
  have C1 := hide (put_h w2 L _ [] 3 2 0 4 0 2 H2.out (it_wf _ _ _ _ _ (by decide)) (by decide))
  rw [show putA ⟨3, 2, 0, 4, 0⟩ 2 [] = ((true, 0), [(⟨3, 2, 0, 4, 0⟩, 2)]) from by unfold putA; rw [if_pos (by decide)]; rfl] at C1
  have HRB := hide (fun b => show (w.heap.size ≤ b ∧ b < w1.heap.size) → w.heap.size ≤ b from fun h => h.1)
  clear hh hb A2 VX
  go_wp2_with fail
  rw [← hw2, ← hR]
  clear hw2 hR
  refine C1.out.mono ?_
  rintro e w3 ⟨rfl, hh, hc⟩
  have H3 := hide hh
  have V3 := hide (V2.out.ch hc HR.out)
  have B3 := hide (Below.ch B2.out hc B2.out.size HRB.out)
  obtain ⟨P3, hP3⟩ : ∃ P : Nat → Prop, P = fun b => (w.heap.size ≤ b ∧ b < w1.heap.size) ∨ w2.heap.size ≤ b ∧ b < w3.heap.size := ⟨_, rfl⟩
  rw [← hP3] at H3
  have HRB3 : Hid (∀ b, P3 b → w.heap.size ≤ b) := hide fun b hb => by
    rw [hP3] at hb
    rcases hb with e | e
    · exact e.1
    · have := B2.out.size; omega
  have HPR : Hid (¬ P3 R) := hide fun hb => by
    rw [hP3] at hb
    have := V2.out.lt
    rcases hb with e | e
    · exact HR.out e
    · omega
  clear hh hc hP3 V2 H2 C1 B2 HR HRB
  have gx := V3.out
  unfold Vx Vi Vf at gx
  simp only [Nat.zero_add] at gx
  obtain ⟨⟨y0, y1, y2, y3, y4⟩, z0, z1, z2, z3, z4⟩ := gx
  have V4 := hide (V3.out.set3 3)
  have HS := hide (gb_set w3 ⟨R, 3, none⟩ (.int .u64 3))
  have H4 := hide (H3.out.ch (P := fun b => b = R) (Ch.set w3 ⟨R, 3, none⟩ (.int .u64 3) rfl) (fun b hb e => HPR.out (e ▸ hb)))
  have B4 := hide (Below.ch (P := fun b => b = R) B3.out (Ch.set w3 ⟨R, 3, none⟩ (.int .u64 3) rfl) B3.out.size (fun i hi => by rw [hi]; exact HR2.out))
  obtain ⟨w4, hw4⟩ : ∃ w4, w4 = w3.setCell ⟨R, 3, none⟩ (.int .u64 3) := ⟨_, rfl⟩
  rw [← hw4] at H4 B4 V4
  have C2 := hide (put_h w4 L P3 [(⟨3, 2, 0, 4, 0⟩, 2)] 3 2 0 3 0 1 H4.out (it_wf _ _ _ _ _ (by decide)) (by decide))
  rw [show putA ⟨3, 2, 0, 3, 0⟩ 1 [(⟨3, 2, 0, 4, 0⟩, 2)] = ((false, 0), [(⟨3, 2, 0, 4, 0⟩, 2)]) from by unfold putA; rw [if_pos (by decide)]; rfl] at C2
  have gx := V4.out
  unfold Vx Vi Vf at gx
  simp only [Nat.zero_add] at gx
  obtain ⟨⟨u0, u1, u2, u3, u4⟩, -⟩ := gx
  clear HS V3
  go_wp2_with fail
  rw [← hw4]
  clear hw4 y0 y1 y2 y3 y4 z0 z1 z2 z3 z4
  refine C2.out.mono ?_
  rintro e w5 ⟨rfl, hh, hc⟩
  have B5 := hide (Below.ch B4.out hc B4.out.size HRB3.out)
  have CL := hide (len_h w5 L _ _ hh)
  clear hh hc u0 u1 u2 u3 u4 C2
  go_wp2_with fail
  refine CL.out.mono ?_
  rintro e w6 ⟨rfl, rfl⟩
  go_wp2
  go_ret
  exact ⟨rfl, B5.out⟩

end Go.Proofs.Ytakpapgjdpnedaa.Clep
