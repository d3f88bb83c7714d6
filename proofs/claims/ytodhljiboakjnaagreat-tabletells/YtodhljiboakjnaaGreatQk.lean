/- What Range does when called. Conditions: the Table lies in memory as said. -/
import Derived.Test.YtodhljiboakjnaaGreatQi
import Derived.Deep.RegionHeldLaw
import Derived.Deep.RegionWith
namespace Go.Proofs.YtodhljiboakjnaaGreat.Clep
open Go.RowKit
set_option linter.unusedVariables false

theorem sizeof_mark (w : World) : (sizeOf (Tryz.prog.elem 85)).run Tryz.prog w = .ok 6 w := by
  go_simp
theorem under_marks : Tryz.prog.underlying 85 = some (.slice (Tryz.prog.elem 85)) := by kernel_rfl
def mcut (a : Option Addr) (cap l : Nat) : Option Addr := if cap = l then a else a.map (·.add (l * 6))
theorem mcut_eq (a : Option Addr) (l h cap : Nat) : sliced a l h cap 6 = .slice (mcut a cap l) (h - l) (cap - l) := by
  unfold sliced mcut
  rfl
theorem mcut_l (w : World) (a : Option Addr) (len cap : Nat) (k : IntKind) (l : Int) (h0 : 0 ≤ l) (h1 : l ≤ len) :
    (Instr.sliceAt 85 (.slice a len cap) (some (.int k l)) none none).run Tryz.prog w = .ok (.slice (mcut a cap l.toNat) (len - l.toNat) (cap - l.toNat)) w := by
  rw [run_sliceAt_slice _ _ _ _ _ _ under_marks, run_slice_l _ _ _ _ _ under_marks k l h0 h1, sizeof_mark]
  simp only [Result.andThen, mcut_eq]
theorem Ms.cut {w : World} {a : Option Addr} {len cap : Nat} {m : List (Nat × It)} (hb : Ms w a len cap m) (l : Nat) (h1 : l ≤ len) : Ms w (mcut a cap l) (len - l) (cap - l) (m.drop l) := by
  have hl : (m.drop l).length = len - l := by rw [List.length_drop, hb.1]
  have hc := hb.2.1.1
  refine ⟨hl, ⟨by omega, fun hn => ?_⟩, fun h0 => ?_⟩
  · have : a = none := by
      cases a with
      | none => rfl
      | some x => unfold mcut at hn; split at hn <;> cases hn
    have := hb.2.1.2 this
    omega
  · obtain ⟨b, off, rfl, hcell⟩ := hb.2.2 (by omega)
    refine ⟨b, off + l * 6, ?_, fun i x hi => ?_⟩
    · unfold mcut
      rw [if_neg (by omega)]
      simp [add_plain]
    · have hx : m[l + i]? = some x := by rw [List.getElem?_drop] at hi; exact hi
      have := hcell (l + i) x hx
      rwa [show off + (l + i) * 6 = off + l * 6 + i * 6 by omega] at this
/-- An append of one item to a row of the call's own, beside a block R that is not the row's. -/
theorem wpList_append_item_beside {w : World} {ops : Array Oper} {rest : List Oper} {o : Oper} {a : Act} {Q : Exit → Act → World → Prop} (hgd : o.guard = none) (s x : Operand)
    (ho : o.op = .call { callee := .builtin .append, args := #[s, x], argTypes := #[22, 22] })
    (base : Nat) (v : Value) (l : List It) (hs : a.eval s = v) (hown : OwnI w base v l) (ad : Addr) (len cap : Nat) (m : List It) (hx : a.eval x = .slice (some ad) len cap) (hb : Is w (some ad) len cap m)
    (hlen : l.length + len ≤ 3518437208883) (hbase : base ≤ w.heap.size) (R : Nat) (hR : R < w.heap.size) (hav : some R ≠ v.ownBlock)
    (h : ∀ v' w', OwnI w' base v' (l ++ m) → w.grownBy w' v.ownBlock → (∀ k, v.ownBlock = some k → base ≤ k) → some R ≠ v'.ownBlock → wpList Tryz.prog ops Q rest (a.put o.dst v') w') : wpList Tryz.prog ops Q (o :: rest) a w := by
  obtain ⟨i0, hi, hz0, hz1, hz2⟩ := info_parts infoI
  have hbk : ∀ k, v.ownBlock = some k → base ≤ k := fun k hk => (World.ownsRow.lt hown k hk).1
  refine wpList_append_own_at _ hgd s x 22 ho base 25 i0 _ 5 40 Tryz.underlying22 hi hz0 hz1 hz2 rfl (by decide) v l.length (cvs l) hs hown ad len cap (cvs m) hx (by rw [cvs_len, hb.1]) (is_cells hb ad rfl) (cvs_one m)
    (by unfold maxLen; omega) (by omega) hbase ?_
  intro v' w' h1 h2 _ h5
  refine h v' w' ?_ h2 hbk ?_
  · unfold OwnI
    rw [List.length_append, hb.1, show cvs (l ++ m) = cvs l ++ cvs m from by simp [cvs]]
    exact h1
  · rcases h5 with h5 | h5
    · rw [h5]; exact hav
    · rw [h5]; intro e; cases e; omega
/-- The marks that open answered, and the Table behind. -/
def Mt (w : World) (w1 : World) (B : Nat → Prop) (M : Nat) (l : List It) (am : Option Addr) (cm : Nat) : Prop := Mk w (Mo w1 w B) M l am cm ∧ Tb w M (Mo w1 w B) 1 l
attribute [local go_sem ↓] max_int mcut_l
set_option maxRecDepth 100000 in
set_option maxHeartbeats 4000000 in
theorem trange_any (w : World) (M d : Nat) (B : Nat → Prop) (l : List It) (h : Tb w M B d l) (f t : It) :
    Calls Tryz.prog 24 #[.pointer (some ⟨M, 0, none⟩), .agg #[.int .i64 f.S, .int .i64 f.K, .int .u64 f.T, .int .u64 f.V, .int .i64 f.X], .agg #[.int .i64 t.S, .int .i64 t.K, .int .u64 t.T, .int .u64 t.V, .int .i64 t.X]] w fun e w' => ∃ a n c, e = .returned (.slice a n c) ∧ Is w' a n c (rg f t l) ∧ c ≤ 9223372036854775807 ∧ (∃ d, Tb w' M (Mo w w' B) d l) ∧ Ch (fun b => b = M) w w' := by
  obtain ⟨S, K, T, V, X⟩ := f
  obtain ⟨S', K', T', V', X'⟩ := t
  simp only
  have A0 := (Below.refl _ w).alloc (Nat.le_refl _) (Obj.cells #[Value.int IntKind.i64 S, Value.int IntKind.i64 K, Value.int IntKind.u64 T, Value.int IntKind.u64 V, Value.int IntKind.i64 X] 25)
  have X0 := vi_new w S K T V X
  obtain ⟨w0, hw0⟩ : ∃ w0, w0 = w.alloc (Obj.cells #[Value.int IntKind.i64 S, Value.int IntKind.i64 K, Value.int IntKind.u64 T, Value.int IntKind.u64 V, Value.int IntKind.i64 X] 25) := ⟨_, rfl⟩
  have hs0 : w0.heap.size = w.heap.size + 1 := by rw [hw0]; simp
  rw [← hw0] at A0 X0
  have A1 := (Below.refl _ w0).alloc (Nat.le_refl _) (Obj.cells #[Value.int IntKind.i64 S', Value.int IntKind.i64 K', Value.int IntKind.u64 T', Value.int IntKind.u64 V', Value.int IntKind.i64 X'] 25)
  have X1 := vi_new w0 S' K' T' V' X'
  obtain ⟨w1, hw1⟩ : ∃ w1, w1 = w0.alloc (Obj.cells #[Value.int IntKind.i64 S', Value.int IntKind.i64 K', Value.int IntKind.u64 T', Value.int IntKind.u64 V', Value.int IntKind.i64 X'] 25) := ⟨_, rfl⟩
  have hs1 : w1.heap.size = w.heap.size + 1 + 1 := by rw [hw1]; simp [hs0]
  rw [← hw1] at A1 X1
  rw [hs0] at X1
  have AA := hide (bmore A0 A1)
  have HX := hide (X0.keep A1)
  have HY := hide X1
  have HB := hide h.lt
  have HOK := hide h.ok
  have HS1 := hide hs1
  have HM : Hid (M < w.heap.size) := hide (h.lt M h.base)
  have HT1 := hide (h.keep (bmore A0 A1))
  obtain ⟨N, hN⟩ : ∃ N, nb l = N := ⟨_, rfl⟩
  have HN := hide hN
  have hN100 : N ≤ 100 := by rw [← hN]; exact nb_le h.ok.len
  clear h A0 A1 X0 X1 hs0 hs1 hN
  go_enter Tryz.func24, Tryz.ntmps24
  go_wp2_with fail
  rw [← hw0, ← hw1]
  clear hw0 hw1
  obtain ⟨R, hR⟩ : ∃ R, R = w.heap.size := ⟨_, rfl⟩
  have HR := hide hR
  rw [← hR] at HX HY ⊢
  clear hR
  have HK : Hid (∀ W, Ch (fun b => b = M) w1 W → (Ch (fun b => b = M) w1 W ∧ W.cell? ⟨R, 0, none⟩ = some (.int .i64 S) ∧ W.cell? ⟨R, 1, none⟩ = some (.int .i64 K) ∧ W.cell? ⟨R, 2, none⟩ = some (.int .u64 T) ∧ W.cell? ⟨R, 3, none⟩ = some (.int .u64 V) ∧ W.cell? ⟨R, 4, none⟩ = some (.int .i64 X))) := hide fun W hW => by
    have q := HX.out.ch hW (by have := HR.out; have := HM.out; omega)
    unfold Vi at q
    simp only [Nat.zero_add] at q
    exact ⟨hW, q.1, q.2.1, q.2.2.1, q.2.2.2.1, q.2.2.2.2⟩
  have cO : Hid (∀ W, Below w1.heap.size w1 W → Calls Tryz.prog 43 #[.pointer (some ⟨M, 2, none⟩)] W fun e w' => ∃ am cm, e = .returned (.slice am N cm) ∧ Ch (fun b => b = M) w1 w' ∧ Hid (Mt w' w1 B M l am cm)) := hide fun W hW =>
    (open_any W M d B l (HT1.out.keep hW)).mono fun e w' ⟨am, cm, h1, h2, h3, h4⟩ => ⟨am, cm, by rw [h1, HN.out], (Ch.of hW).trans h4, hide ⟨⟨h2.1, h2.2.1, fun x hx => ⟨(h2.2.2 x hx).1.elim .inl (fun e => .inr ⟨Nat.le_trans hW.size e.1, e.2⟩), (h2.2.2 x hx).2⟩⟩, h3.mo hW.size (Nat.le_refl _) (fun b hb => Nat.lt_of_lt_of_le (HB.out b hb) (Nat.le_trans AA.out.size (Nat.le_trans hW.size h4.size)))⟩⟩
  have cU : Hid (∀ W am cm, Ch (fun b => b = M) w1 W → Hid (Mt W w1 B M l am cm) → Calls Tryz.prog 47 #[.pointer (some ⟨M, 2, none⟩), .agg #[.int .i64 S, .int .i64 K, .int .u64 T, .int .u64 V, .int .i64 X]] W fun e w' => ∃ k s : Nat, e = .returned (.int .i64 k) ∧ IntKind.i64.wrap ((k : Int) - 1) = (k : Int) - 1 ∧ max ((k : Int) - 1) 0 = (s : Int) ∧ (s : Int) ≤ (N : Int) ∧ (s : Int).toNat = s ∧ 0 ≤ (s : Int) ∧ Ch (fun b => b = M) w1 w' ∧ Hid (Up l ⟨S, K, T, V, X⟩ k ∧ s = k - 1 ∧ Mt w' w1 B M l am cm)) := hide fun W am cm hW hmt =>
    (upto_any W M 1 _ l hmt.out.2 ⟨S, K, T, V, X⟩).mono fun e w' ⟨k, h1, h2, h3, h4⟩ => by
      have hkn := h2.1
      rw [HN.out] at hkn
      refine ⟨k, k - 1, h1, by simp [IntKind.wrap, IntKind.bits, IntKind.signed]; omega, by omega, by omega, by omega, by omega, hW.trans h4, hide ⟨h2, rfl, ⟨hmt.out.1.1, hmt.out.1.2.1.ch h4 (fun x hx => (hmt.out.1.2.2 x hx).2), fun x hx => ⟨(hmt.out.1.2.2 x hx).1.elim .inl (fun e => .inr ⟨e.1, Nat.lt_of_lt_of_le e.2 h4.size⟩), (hmt.out.1.2.2 x hx).2⟩⟩, ?_⟩⟩
      refine h3.wide (fun b hb => ?_) (fun b hb => hb.elim (fun e => Nat.lt_of_lt_of_le (HB.out b e) (Nat.le_trans AA.out.size (hW.trans h4).size)) (fun e => e.2))
      rcases hb with (hb | hb) | hb
      · exact .inl hb
      · exact .inr ⟨hb.1, Nat.lt_of_lt_of_le hb.2 h4.size⟩
      · exact .inr ⟨Nat.le_trans hW.size hb.1, hb.2⟩
  have hk0 : Ch (fun b => b = M) w1 w1 := Ch.of (Below.refl _ _)
  have hk1 : Ch (fun b => b = M) w1 w1.drew := Ch.of (Below.refl _ _).drew
  have hb0 : Below w1.heap.size w1 w1 := Below.refl _ _
  have hb1 : Below w1.heap.size w1 w1.drew := (Below.refl _ _).drew
  obtain ⟨-, g0, g1, g2, g3, g4⟩ := HK.out _ hk0
  go_region_held_law (fun W => Ch (fun b => b = M) w1 W ∧ W.cell? ⟨R, 0, none⟩ = some (.int .i64 S) ∧ W.cell? ⟨R, 1, none⟩ = some (.int .i64 K) ∧ W.cell? ⟨R, 2, none⟩ = some (.int .u64 T) ∧ W.cell? ⟨R, 3, none⟩ = some (.int .u64 V) ∧ W.cell? ⟨R, 4, none⟩ = some (.int .i64 X))
    (first | exact HK.out _ (by with_reducible assumption) | exact HK.out _ hk1 | exact HK.out _ hk0)
    (first
    | (go_at_call 43; refine (cO.out _ (by with_reducible assumption)).mono ?_; rintro e w2 ⟨am, cm, rfl, hc2, hm2⟩)
    | (go_at_call 47; refine (cU.out _ _ _ (And.left (by with_reducible assumption)) (by with_reducible assumption)).mono ?_; rintro e w4 ⟨k, s, rfl, hs1, hs2, hs3, hs4, hs5, hc4, hu4⟩))
  rename_i hX
  clear hX g0 g1 g2 g3 g4 hk0 hk1 hb0 hb1 cO cU HK hc2 hm2 hs1 hs2
  obtain ⟨hup, hsk, hmt⟩ := hu4.out
  have hsN : s ≤ N := by omega
  have HUP := hide hup
  have HSK := hide hsk
  have hMs0 := hmt.1.2.1
  rw [HN.out] at hMs0
  have HMs : Hid (∀ W, Below w4.heap.size w4 W → Ms W (mcut am cm s) (N - s) (cm - s) ((mks l N).drop s)) := hide (fun W hW => (hMs0.cut s hsN).ch (P := fun _ => False) (Ch.of hW) (fun _ _ h => h))
  have HTw : Hid (∀ W, Below w4.heap.size w4 W → Tb W M (Mo w1 w4 B) 1 l) := hide (fun W hW => hmt.2.keep hW)
  have HXc : Hid (∀ W, Below w4.heap.size w4 W → Vi W R 0 S K T V X) := hide (fun W hW => (HX.out.ch hc4 (by have := HR.out; have := HM.out; omega)).keep hW)
  have HYc : Hid (∀ W, Below w4.heap.size w4 W → Vi W (R + 1) 0 S' K' T' V' X') := hide (fun W hW => (HY.out.ch hc4 (by have := HR.out; have := HM.out; omega)).keep hW)
  have C4 := hide hc4
  have HFin : Hid (∀ W v L, Below w4.heap.size w4 W → OwnI W w4.heap.size v L → L = rg ⟨S, K, T, V, X⟩ ⟨S', K', T', V', X'⟩ l → ∃ a n c, v = .slice a n c ∧ Is W a n c (rg ⟨S, K, T, V, X⟩ ⟨S', K', T', V', X'⟩ l) ∧ c ≤ 9223372036854775807 ∧ (∃ d, Tb W M (Mo w W B) d l) ∧ Ch (fun b => b = M) w W) := hide (fun W v L hW hO hL => by
    subst hL
    obtain ⟨a, c, e, hc, hI, -⟩ := ownI_is hO (fun x hx => HOK.out.wf x (List.mem_filter.1 hx).1)
    have hch := ((Ch.of (P := fun b => b = M) AA.out).trans C4.out).trans (Ch.of hW)
    exact ⟨a, _, c, e, hI, hc, ⟨1, (HTw.out W hW).mo AA.out.size hW.size (fun b hb => Nat.lt_of_lt_of_le (HB.out b hb) hch.size)⟩, hch⟩)
  obtain ⟨a2, ha2⟩ : ∃ a2, mcut am cm s = a2 := ⟨_, rfl⟩
  obtain ⟨n2, hn2⟩ : ∃ n2, N - s = n2 := ⟨_, rfl⟩
  obtain ⟨c2, hc2⟩ : ∃ c2, cm - s = c2 := ⟨_, rfl⟩
  rw [ha2, hn2, hc2] at HMs ⊢
  have HN2 := hide hn2
  have hsn : s + n2 = N := by omega
  have HA0 : Hid (rg ⟨S, K, T, V, X⟩ ⟨S', K', T', V', X'⟩ (l.take ((s + 0) * 20)) = []) := hide (by rw [Nat.add_zero, hsk]; exact rg_ahead HOK.out.rise hup)
  clear hu4 hmt hup hsk hMs0 hc4 ha2 hn2 hc2 HT1 HX HY hs3 hs4 hs5
  have hn100 : n2 ≤ 100 := by omega
  clear hsN
  go_wp2_with fail
  go_loopw [7, 25] (fun v i wr => ∃ j : Nat, j ≤ n2 ∧ i = .int .i64 j ∧ Hid (OwnI wr w4.heap.size v (rg ⟨S, K, T, V, X⟩ ⟨S', K', T', V', X'⟩ (l.take ((s + j) * 20)))) ∧ Hid (Below w4.heap.size w4 wr)) (fun _ i _ => n2 - (intOf i).toNat)
  case atStart => exact ⟨0, by omega, rfl, hide (by rw [HA0.out]; exact ownI_nil _ _), hide (Below.refl _ _)⟩
  case round =>
    obtain ⟨j, hj, rfl, hown, hbl⟩ := hrel
    by_cases hlt : j < n2
    · obtain ⟨b, off, ea, hcell⟩ := (HMs.out _ hbl.out).2.2 (by omega)
      subst ea
      have hjn : s + j < nb l := by rw [HN.out]; omega
      have hv := hcell j ((bls l (s + j)).length, fi l (s + j)) (by rw [List.getElem?_drop]; exact mks_get (by omega))
      obtain ⟨v5, hv⟩ := hv
      obtain ⟨W5, hW5⟩ : ∃ W5, W5 = wr := ⟨_, rfl⟩
      subst hW5
      obtain ⟨p, hp⟩ : ∃ p, (bls l (s + j)).length = p := ⟨_, rfl⟩
      have hrow := hide (fun W (hW : Below w4.heap.size w4 W) S K T V X => trow_any W M 1 _ l (HTw.out W hW) (s + j) hjn S K T V X)
      rw [hp] at v5 hrow
      obtain ⟨o, ho⟩ : ∃ o, It.less ⟨S', K', T', V', X'⟩ (fi l (s + j)) = o := ⟨_, rfl⟩
      have HSt := hide (fun e : It.less ⟨S', K', T', V', X'⟩ (fi l (s + j)) = true => rg_stop (f := ⟨S, K, T, V, X⟩) HOK.out.rise hjn e)
      have HO := hide ho
      rw [HO.out] at HSt
      have cL := hide (fun W => less_any S' K' T' V' X' (fi l (s + j)).S (fi l (s + j)).K (fi l (s + j)).T (fi l (s + j)).V (fi l (s + j)).X W)
      rw [show lessI S' K' T' (fi l (s + j)).S (fi l (s + j)).K (fi l (s + j)).T = o from ho] at cL
      generalize fi l (s + j) = fx at *
      obtain ⟨S2, K2, T2, V2, X2⟩ := fx
      simp only at hv v5 cL
      obtain ⟨m0, m1, m2, m3, m4⟩ := hv
      have A6 := (Below.refl _ W5).alloc (Nat.le_refl _) (Obj.cells #[.int .i64 (p : Int), .int .i64 S2, .int .i64 K2, .int .u64 T2, .int .u64 V2, .int .i64 X2] 92)
      have K6 := hpS W5 (Obj.cells #[.int .i64 (p : Int), .int .i64 S2, .int .i64 K2, .int .u64 T2, .int .u64 V2, .int .i64 X2] 92) W5.heap.size rfl
      obtain ⟨w6, hw6⟩ : ∃ w6, w6 = W5.alloc (Obj.cells #[.int .i64 (p : Int), .int .i64 S2, .int .i64 K2, .int .u64 T2, .int .u64 V2, .int .i64 X2] 92) := ⟨_, rfl⟩
      rw [← hw6] at A6 K6
      have KB : Hid (Blk w6 W5.heap.size #[.int .i64 (p : Int), .int .i64 S2, .int .i64 K2, .int .u64 T2, .int .u64 V2, .int .i64 X2] 92) := hide K6
      have B6 := hide (hbl.out.trans (A6.mono hbl.out.size))
      have HA6 := hide A6
      have y := HYc.out _ hbl.out
      unfold Vi at y
      simp only [Nat.zero_add] at y
      obtain ⟨y0, y1, y2, y3, y4⟩ := y
      clear hcell A6 K6 ho hp
      have hRlt : R + 1 < W5.heap.size := World.block_lt_of_cell? W5 _ y0
      have hRne : R + 1 ≠ W5.heap.size := by omega
      obtain ⟨Rm, hRm⟩ : ∃ Rm, Rm = W5.heap.size := ⟨_, rfl⟩
      rw [← hRm] at KB
      go_wp2_with fail
      rw [← hw6, ← hRm]
      clear hw6 hRm v5 m0 m1 m2 m3 m4
      refine (cL.out _).mono ?_
      rintro e w7 ⟨rfl, hb7⟩
      have B7 := hide (B6.out.trans (hb7.mono B6.out.size))
      have KB7 := hide (KB.out.keep hb7)
      have k0 : w7.cell? ⟨Rm, 0, none⟩ = some (.int .i64 (p : Int)) := KB7.out.cell rfl
      have k1 : w7.cell? ⟨Rm, 1, none⟩ = some (.int .i64 S2) := KB7.out.cell rfl
      have k2 : w7.cell? ⟨Rm, 2, none⟩ = some (.int .i64 K2) := KB7.out.cell rfl
      have k3 : w7.cell? ⟨Rm, 3, none⟩ = some (.int .u64 T2) := KB7.out.cell rfl
      have k4 : w7.cell? ⟨Rm, 4, none⟩ = some (.int .u64 V2) := KB7.out.cell rfl
      have k5 : w7.cell? ⟨Rm, 5, none⟩ = some (.int .i64 X2) := KB7.out.cell rfl
      have O7 := hide (ownI_keep (ownI_keep hown.out HA6.out) hb7)
      clear cL hb7 y0 y1 y2 y3 y4
      cases o with
      | true =>
        have hr := hide (HSt.out rfl)
        go_wp2
        go_ret
        obtain ⟨a9, n9, c9, e9, hh⟩ := HFin.out _ _ _ B7.out O7.out hr.out
        exact ⟨a9, n9, c9, by rw [← e9]; rfl, hh⟩
      | false =>
        obtain ⟨nz, hnz⟩ : ∃ nz, (ck 20 l (s + j)).length = nz := ⟨_, rfl⟩
        have hnz1 : 1 ≤ nz ∧ nz ≤ 20 := by rw [← hnz, ck_len]; have := nb_lt.1 hjn; omega
        rw [hnz] at hrow
        have HST := hide (take_ck l (s + j))
        have HRA := hide (rg_app ⟨S, K, T, V, X⟩ ⟨S', K', T', V', X'⟩ (l.take ((s + j) * 20)) (ck 20 l (s + j)))
        have HLM := hide (show (rg ⟨S, K, T, V, X⟩ ⟨S', K', T', V', X'⟩ (l.take ((s + j) * 20))).length ≤ 2000 from Nat.le_trans (rg_len _ _ _) (by rw [List.length_take]; have := HOK.out.len; omega))
        generalize rg ⟨S, K, T, V, X⟩ ⟨S', K', T', V', X'⟩ (l.take ((s + j) * 20)) = L0 at *
        generalize ck 20 l (s + j) = C at *
        have HC := hide hnz
        clear hnz HSt
        go_wp2_with fail
        refine (hrow.out _ B7.out _ _ _ _ _).mono ?_
        rintro e w8 ⟨a8, c8, rfl, hI8, hc8, hb8, hnew8⟩
        obtain ⟨b8, o8, e8, -⟩ := hI8.2.2.2 (by omega)
        subst e8
        have HI8 := hide hI8
        have hnw := hnew8 _ rfl
        simp only at hnw
        have HNE : Hid (some b8 ≠ u7.ownBlock) := hide (fun e => by have := (World.ownsRow.lt O7.out _ e.symm).2; omega)
        have O8 := hide (ownI_keep O7.out hb8)
        have B8 := hide (B7.out.trans (hb8.mono B7.out.size))
        clear hrow hI8 hb8 hnew8 hnw k0 k1 k2 k3 k4 k5 O7
        go_wp2_with fail
        go_loopw [7, 37] (fun v i wr => ∃ q : Nat, q ≤ nz ∧ i = .int .i64 q ∧ Hid (OwnI wr w4.heap.size v (L0 ++ rg ⟨S, K, T, V, X⟩ ⟨S', K', T', V', X'⟩ (C.take q))) ∧ Hid (some b8 ≠ v.ownBlock) ∧ Hid (Is wr (some ⟨b8, o8, none⟩) nz c8 C) ∧ Hid (Below w4.heap.size w4 wr)) (fun _ i _ => nz - (intOf i).toNat)
        case atStart => exact ⟨0, by omega, rfl, hide (by simpa [rg] using O8.out), HNE, HI8, B8⟩
        case round =>
          obtain ⟨q, hq, rfl, hOq, hNq, hIq, hBq⟩ := hrel
          by_cases hqlt : q < nz
          · obtain ⟨b9, o9, e9, hcell⟩ := hIq.out.2.2.2 (by omega)
            cases e9
            obtain ⟨z, hz⟩ : ∃ z, C[q]? = some z := ⟨_, List.getElem?_eq_getElem (by rw [HC.out]; exact hqlt)⟩
            have hv := hcell q z hz
            have hwz := hide (hIq.out.2.2.1 z (List.mem_of_getElem? hz))
            have HSTEP := hide (rg_step ⟨S, K, T, V, X⟩ ⟨S', K', T', V', X'⟩ C q z hz)
            obtain ⟨S3, K3, T3, V3, X3⟩ := z
            unfold Vt Vi at hv
            simp only at hv
            obtain ⟨m0, m1, m2, m3, m4⟩ := hv
            obtain ⟨W9, hW9⟩ : ∃ W9, W9 = wr := ⟨_, rfl⟩
            subst hW9
            have x' := HXc.out _ hBq.out
            have y' := HYc.out _ hBq.out
            unfold Vi at x' y'
            simp only [Nat.zero_add] at x' y'
            obtain ⟨x0, x1, x2, x3, x4⟩ := x'
            obtain ⟨y0, y1, y2, y3, y4⟩ := y'
            have hR1 : R < W9.heap.size := World.block_lt_of_cell? W9 _ x0
            have hR2 : R + 1 < W9.heap.size := World.block_lt_of_cell? W9 _ y0
            have hR3 : R ≠ W9.heap.size := by omega
            have hR4 : R + 1 ≠ W9.heap.size := by omega
            obtain ⟨o1, ho1⟩ : ∃ o1, lessI S3 K3 T3 S K T = o1 := ⟨_, rfl⟩
            obtain ⟨o2, ho2⟩ : ∃ o2, lessI S' K' T' S3 K3 T3 = o2 := ⟨_, rfl⟩
            have c1 := hide (fun W => less_any S3 K3 T3 V3 X3 S K T V X W)
            have c3 := hide (fun W => less_any S' K' T' V' X' S3 K3 T3 V3 X3 W)
            rw [ho1] at c1
            rw [ho2] at c3
            have HRB : Hid (rgB ⟨S, K, T, V, X⟩ ⟨S', K', T', V', X'⟩ ⟨S3, K3, T3, V3, X3⟩ = (!o1 && !o2)) := hide (by
              unfold rgB It.less
              simp only
              rw [ho1, ho2])
            have A9 := (Below.refl _ W9).alloc (Nat.le_refl _) (Obj.cells #[Value.int IntKind.i64 S3, Value.int IntKind.i64 K3, Value.int IntKind.u64 T3, Value.int IntKind.u64 V3, Value.int IntKind.i64 X3] 25)
            have X9 := vi_new W9 S3 K3 T3 V3 X3
            obtain ⟨wa, hwa⟩ : ∃ wa, wa = W9.alloc (Obj.cells #[Value.int IntKind.i64 S3, Value.int IntKind.i64 K3, Value.int IntKind.u64 T3, Value.int IntKind.u64 V3, Value.int IntKind.i64 X3] 25) := ⟨_, rfl⟩
            obtain ⟨Rx, hRx⟩ : ∃ Rx, Rx = W9.heap.size := ⟨_, rfl⟩
            rw [← hwa] at A9 X9
            rw [← hRx] at X9
            have HA9 := hide A9
            have HX9 := hide X9
            have hYa := hide (HYc.out _ (hBq.out.trans (A9.mono hBq.out.size)))
            clear hcell hz ho1 ho2 A9 X9
            go_wp2_with fail
            rw [← hwa, ← hRx]
            clear hwa hRx m0 m1 m2 m3 m4 x0 x1 x2 x3 x4 y0 y1 y2 y3 y4 hR1 hR2 hR3 hR4
            refine (c1.out _).mono ?_
            rintro e wb ⟨rfl, hbb⟩
            have HAB := hide (bmore HA9.out hbb)
            have HXb := hide (HX9.out.keep hbb)
            have hYb := hide (hYa.out.keep hbb)
            clear hbb c1
            cases o1 with
            | true =>
              go_wp2
              go_roundw
              case rel => exact ⟨q + 1, by omega, by go_num, hide (by rw [HSTEP.out, HRB.out]; simpa using ownI_keep hOq.out HAB.out), hNq, hide (hIq.out.below HAB.out (Nat.le_refl _)), hide (hBq.out.trans (HAB.out.mono hBq.out.size))⟩
              case measure => simp [intOf]; omega
            | false =>
              have x' := HXb.out
              have y' := hYb.out
              unfold Vi at x' y'
              simp only [Nat.zero_add] at x' y'
              obtain ⟨x0, x1, x2, x3, x4⟩ := x'
              obtain ⟨y0, y1, y2, y3, y4⟩ := y'
              go_wp2_with fail
              refine (c3.out _).mono ?_
              rintro e wc ⟨rfl, hbc⟩
              have HAC := hide (bmore HAB.out hbc)
              have HXd := hide (HXb.out.keep hbc)
              clear hbc c3 x0 x1 x2 x3 x4 y0 y1 y2 y3 y4
              cases o2 with
              | true =>
                go_wp2
                go_roundw
                case rel => exact ⟨q + 1, by omega, by go_num, hide (by rw [HSTEP.out, HRB.out]; simpa using ownI_keep hOq.out HAC.out), hNq, hide (hIq.out.below HAC.out (Nat.le_refl _)), hide (hBq.out.trans (HAC.out.mono hBq.out.size))⟩
                case measure => simp [intOf]; omega
              | false =>
                have x' := HXd.out
                unfold Vi at x'
                simp only [Nat.zero_add] at x'
                obtain ⟨x0, x1, x2, x3, x4⟩ := x'
                have Ow := hide (ownI_keep (ownI_keep hOq.out HAC.out) ((Below.refl _ wc).alloc (Nat.le_refl _) (Obj.cells #[Value.int IntKind.i64 S3, Value.int IntKind.i64 K3, Value.int IntKind.u64 T3, Value.int IntKind.u64 V3, Value.int IntKind.i64 X3] 25)))
                have IS := hide (is_one wc S3 K3 T3 V3 X3 hwz.out)
                have HLen : Hid ((L0 ++ rg ⟨S, K, T, V, X⟩ ⟨S', K', T', V', X'⟩ (C.take q)).length + 1 ≤ 3518437208883) := hide (by
                  rw [List.length_append]
                  have h1 := rg_len ⟨S, K, T, V, X⟩ ⟨S', K', T', V', X'⟩ (C.take q)
                  rw [List.length_take] at h1
                  have := HLM.out; omega)
                have hsw : Hid (w4.heap.size ≤ (wc.alloc (Obj.cells #[Value.int IntKind.i64 S3, Value.int IntKind.i64 K3, Value.int IntKind.u64 T3, Value.int IntKind.u64 V3, Value.int IntKind.i64 X3] 25)).heap.size) := hide (by have := hBq.out.size; have := HAC.out.size; simp; omega)
                have hb8 : Hid (b8 < (wc.alloc (Obj.cells #[Value.int IntKind.i64 S3, Value.int IntKind.i64 K3, Value.int IntKind.u64 T3, Value.int IntKind.u64 V3, Value.int IntKind.i64 X3] 25)).heap.size) := hide (by have h1 : b8 < _ := hIq.out.lt (by omega) _ rfl; have := HAC.out.size; simp; omega)
                go_wp2_with (first
                  | (at_builtin; refine wpList_append_item_beside rfl _ _ rfl w4.heap.size _ _ rfl Ow.out ⟨wc.heap.size, 0, none⟩ 1 1 [⟨S3, K3, T3, V3, X3⟩] rfl IS.out HLen.out hsw.out b8 hb8.out hNq.out ?_)
                  | fail)
                intro v' wd ho' hg' hbk' hne'
                have Od := hide ho'
                have Nd := hide hne'
                have hAa := hide ((Below.refl _ wc).alloc (Nat.le_refl _) (Obj.cells #[Value.int IntKind.i64 S3, Value.int IntKind.i64 K3, Value.int IntKind.u64 T3, Value.int IntKind.u64 V3, Value.int IntKind.i64 X3] 25))
                have Bd : Hid (Below w4.heap.size w4 wd) := hide (((hBq.out.trans (HAC.out.mono hBq.out.size)).trans (hAa.out.mono (Nat.le_trans hBq.out.size HAC.out.size))).grown hg' hsw.out hbk')
                have Id : Hid (Is wd (some ⟨b8, o8, none⟩) nz c8 C) := hide (((hIq.out.below HAC.out (Nat.le_refl _)).below hAa.out (Nat.le_refl _)).grown hg' hNq.out)
                clear ho' hg' hbk' hne' x0 x1 x2 x3 x4
                go_wp2
                go_roundw
                case rel => exact ⟨q + 1, by omega, by go_num, hide (by rw [HSTEP.out, HRB.out, ← List.append_assoc]; simpa using Od.out), Nd, Id, Bd⟩
                case measure => simp [intOf]; omega
          · obtain rfl : q = nz := by omega
            have hO9 := hOq.out
            rw [show C.take q = C from by rw [← HC.out]; exact List.take_length, ← HRA.out, HST.out] at hO9
            have O9 := hide hO9
            clear hO9
            go_wp2
            go_roundw
            case rel => exact ⟨j + 1, by omega, by go_num, hide (by rw [← Nat.add_assoc]; exact O9.out), hBq⟩
            case measure => simp [intOf]; omega
    · obtain rfl : j = n2 := by omega
      have hr : Hid (rg ⟨S, K, T, V, X⟩ ⟨S', K', T', V', X'⟩ (l.take ((s + j) * 20)) = rg ⟨S, K, T, V, X⟩ ⟨S', K', T', V', X'⟩ l) := hide (by
        have := mt (nb_lt (l := l) (j := s + j)).2 (by rw [HN.out]; omega)
        rw [List.take_of_length_le (by omega)])
      go_wp2
      go_ret
      obtain ⟨a9, n9, c9, e9, hh⟩ := HFin.out _ _ _ hbl.out hown.out hr.out
      exact ⟨a9, n9, c9, by rw [← e9]; rfl, hh⟩
end Go.Proofs.YtodhljiboakjnaaGreat.Clep
