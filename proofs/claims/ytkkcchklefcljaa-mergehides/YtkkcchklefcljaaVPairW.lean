/- What merge.pair does when called: for any two rows of items, they are laid together. Conditions: at most a million items. -/
import Derived.Test.YtkkcchklefcljaaVPair
namespace Go.Proofs.Ytkkcchklefcljaa.Clep
open Go.RowKit
set_option linter.unusedVariables false

theorem it_eta (x : It) : (⟨x.S, x.K, x.T, x.V, x.X⟩ : It) = x := rfl
theorem icut_one (a : Option Addr) (n c : Nat) (hn : 1 ≤ n) (w : World) : (Instr.sliceAt 25 (.slice a n c) (some (.int .i64 1)) none none).run Try.prog w = .ok (.slice (icut a c 1) (n - 1) (c - 1)) w := icut_l w a n c .i64 1 (by omega) (by omega)
theorem is_tail {w : World} {a : Option Addr} {n c : Nat} {x : It} {l : List It} (h : Is w a n c (x :: l)) : Is w (icut a c 1) (n - 1) (c - 1) l := by
  have hl := h.1
  simp only [List.length_cons] at hl
  have := h.cut 1 n (by omega) (Nat.le_refl _)
  rwa [List.take_of_length_le (by simp; omega), List.drop_one, List.tail_cons] at this
theorem mg_l {x y : It} {L R : List It} (h : x.less y = true) : mg (x :: L) (y :: R) = x :: mg L (y :: R) := by
  rw [mg_cons]
  have : x.same y = false := by rw [nsame_iff]; rw [less_iff] at h; omega
  rw [this, if_neg Bool.false_ne_true, h, if_pos rfl]
theorem mg_r {x y : It} {L R : List It} (h0 : x.less y = false) (h : y.less x = true) : mg (x :: L) (y :: R) = y :: mg (x :: L) R := by
  rw [mg_cons]
  have : x.same y = false := by rw [nsame_iff]; rw [less_iff] at h; omega
  rw [this, if_neg Bool.false_ne_true, h0, if_neg Bool.false_ne_true]
theorem mg_b {x y : It} {L R : List It} (h0 : x.less y = false) (h : y.less x = false) : mg (x :: L) (y :: R) = wnr x y :: mg L R := by
  rw [mg_cons]
  have : x.same y = true := by rw [same_iff]; rw [nless_iff] at *; omega
  rw [this, if_pos rfl]
  rfl
theorem wnr_wf {x y : It} (hx : x.wf) (hy : y.wf) : (wnr x y).wf := by
  unfold wnr
  split
  · exact hy
  · exact hx
/-- An append of any items to a row of the call's own, at a step, where it goes given. -/
theorem step_append_at {w : World} {ops : Array Oper} {o : Oper} {a : Act} {K : Act → World → Prop} {Q : Exit → Act → World → Prop} {E : Prop} (d : Option Nat) (hd : o.dst = d) (hgd : o.guard = none) (s x : Operand)
    (ho : o.op = .call { callee := .builtin .append, args := #[s, x], argTypes := #[25, 25] })
    (base : Nat) (v : Value) (l : List It) (hs : a.eval s = v) (hown : OwnI w base v l) (ao : Option Addr) (len cap : Nat) (m : List It) (hx : a.eval x = .slice ao len cap) (hb : Is w ao len cap m)
    (hlen : l.length + len ≤ 3518437208883) (hbase : base ≤ w.heap.size)
    (h : ∀ v' w', OwnI w' base v' (l ++ m) → w.grownBy w' v.ownBlock → (∀ k, v.ownBlock = some k → base ≤ k) → K (a.put d v') w') :
    if Region.wanted o (yielded ops a.tmps) = true then Oper.wp Try.prog o a w K Q else E := by
  subst hd
  exact step_append_items hgd s x ho base v l hs hown ao len cap m hx hb hlen hbase h
/-- What the round keeps: what is left of both rows, and what is made of those ahead. -/
def Prw (w wr : World) (l k : List It) (N : Nat) (s0 s1 s5 : Value) : Prop :=
  ∃ (p q : Nat) (a' b' : Option Addr) (c' d' : Nat) (L R acc : List It), s0 = .slice a' p c' ∧ s1 = .slice b' q d' ∧ c' ≤ 9223372036854775807 ∧ d' ≤ 9223372036854775807 ∧ Is w a' p c' L ∧ Is w b' q d' R ∧ acc ++ mg L R = mg l k ∧ acc.length + p + q ≤ N ∧ OwnI wr w.heap.size s5 acc ∧ Below w.heap.size w wr
theorem two_new (w : World) (S K T V X S1 K1 T1 V1 X1 : Int) : Below w.heap.size w (((w.alloc (Obj.cells #[Value.int IntKind.i64 S, Value.int IntKind.i64 K, Value.int IntKind.u64 T, Value.int IntKind.u64 V, Value.int IntKind.i64 X] 36)).alloc (Obj.cells #[Value.int IntKind.i64 S1, Value.int IntKind.i64 K1, Value.int IntKind.u64 T1, Value.int IntKind.u64 V1, Value.int IntKind.i64 X1] 36)).drew) ∧
    Vi (((w.alloc (Obj.cells #[Value.int IntKind.i64 S, Value.int IntKind.i64 K, Value.int IntKind.u64 T, Value.int IntKind.u64 V, Value.int IntKind.i64 X] 36)).alloc (Obj.cells #[Value.int IntKind.i64 S1, Value.int IntKind.i64 K1, Value.int IntKind.u64 T1, Value.int IntKind.u64 V1, Value.int IntKind.i64 X1] 36)).drew) w.heap.size 0 S K T V X ∧
    Vi (((w.alloc (Obj.cells #[Value.int IntKind.i64 S, Value.int IntKind.i64 K, Value.int IntKind.u64 T, Value.int IntKind.u64 V, Value.int IntKind.i64 X] 36)).alloc (Obj.cells #[Value.int IntKind.i64 S1, Value.int IntKind.i64 K1, Value.int IntKind.u64 T1, Value.int IntKind.u64 V1, Value.int IntKind.i64 X1] 36)).drew) (w.heap.size + 1) 0 S1 K1 T1 V1 X1 := by
  have A0 := (Below.refl _ w).alloc (Nat.le_refl _) (Obj.cells #[Value.int IntKind.i64 S, Value.int IntKind.i64 K, Value.int IntKind.u64 T, Value.int IntKind.u64 V, Value.int IntKind.i64 X] 36)
  have V0 := vi_new w S K T V X
  have hs : (w.alloc (Obj.cells #[Value.int IntKind.i64 S, Value.int IntKind.i64 K, Value.int IntKind.u64 T, Value.int IntKind.u64 V, Value.int IntKind.i64 X] 36)).heap.size = w.heap.size + 1 := by simp
  generalize w.alloc (Obj.cells #[Value.int IntKind.i64 S, Value.int IntKind.i64 K, Value.int IntKind.u64 T, Value.int IntKind.u64 V, Value.int IntKind.i64 X] 36) = w1 at *
  have A1 := (Below.refl _ w1).alloc (Nat.le_refl _) (Obj.cells #[Value.int IntKind.i64 S1, Value.int IntKind.i64 K1, Value.int IntKind.u64 T1, Value.int IntKind.u64 V1, Value.int IntKind.i64 X1] 36)
  have V1 := vi_new w1 S1 K1 T1 V1 X1
  rw [hs] at V1
  exact ⟨(bmore A0 A1).drew, (V0.keep A1).keep (Below.refl _ _).drew, V1.keep (Below.refl _ _).drew⟩
set_option maxRecDepth 100000 in
set_option maxHeartbeats 4000000 in
theorem pair_any (a b : Option Addr) (n c m d : Nat) (l k : List It) (w : World) (h : Is w a n c l) (h' : Is w b m d k) (hn : n ≤ 1000000) (hm : m ≤ 1000000) (hc : c ≤ 9223372036854775807) (hd : d ≤ 9223372036854775807) :
    Calls Try.prog 26 #[.slice a n c, .slice b m d] w fun e w' => ∃ v, e = .returned v ∧ OwnI w' w.heap.size v (mg l k) ∧ Below w.heap.size w w' := by
  obtain ⟨iS, hiS, hzS0, hzS1, hzS2⟩ := info_parts infoI
  obtain ⟨w1, hmk, ho1, hg1⟩ := run_make_own (P := Try.prog) w w.heap.size 25 36 iS _ 5 Try.underlying25 hiS hzS0 hzS1 .i64 .i64 (n + m) (by rw [hzS2]; omega) (by unfold maxLen; omega) (Nat.le_refl _)
  have hb1 : Below w.heap.size w w1 := (Below.refl _ w).grown hg1 (Nat.le_refl _) (by simp)
  have HO1 := hide (show OwnI w1 w.heap.size (.slice (some ⟨w.heap.size, 0, none⟩) 0 (n + m)) [] from ho1)
  have HB1 := hide hb1
  have H := hide h
  have H' := hide h'
  rw [show (((n + m : Nat)) : Int) = (n : Int) + (m : Int) by omega] at hmk
  clear h h' ho1 hg1 hb1
  go_enter Try.func26, Try.ntmps26
  go_wp2_with fail
  clear hmk
  go_loopw [0, 1, 5] (fun s0 s1 s5 wr => Hid (Prw w wr l k (n + m) s0 s1 s5)) (fun s0 s1 _ _ => lenOf s0 + lenOf s1)
  case atStart => exact hide ⟨n, m, a, b, c, d, l, k, [], rfl, rfl, hc, hd, H.out, H'.out, rfl, by simp, HO1.out, HB1.out⟩
  case round =>
    obtain ⟨p, q, a', b', c', d', L, R, acc, rfl, rfl, hc', hd', hL, hR, hE, hZ, hO, hB⟩ := hrel.out
    replace hL := hide hL
    replace hR := hide hR
    replace hE := hide hE
    replace hZ := hide hZ
    replace hO := hide hO
    replace hB := hide hB
    clear hrel
    by_cases hp : 0 < p
    · by_cases hq : 0 < q
      · obtain ⟨x, L', rfl⟩ : ∃ x L', L = x :: L' := by
          cases L with
          | nil => have := hL.out.1; simp at this; omega
          | cons x L' => exact ⟨x, L', rfl⟩
        obtain ⟨y, R', rfl⟩ : ∃ y R', R = y :: R' := by
          cases R with
          | nil => have := hR.out.1; simp at this; omega
          | cons y R' => exact ⟨y, R', rfl⟩
        have hxw := hide (hL.out.2.2.1 x (by simp))
        have hyw := hide (hR.out.2.2.1 y (by simp))
        obtain ⟨b0, off0, ea, hca⟩ := (hL.out.below hB.out (Nat.le_refl _)).2.2.2 hp
        obtain ⟨b1, off1, eb, hcb⟩ := (hR.out.below hB.out (Nat.le_refl _)).2.2.2 hq
        have hvx := hca 0 x rfl
        have hvy := hcb 0 y rfl
        have tL := hide (is_tail hL.out)
        have tR := hide (is_tail hR.out)
        subst ea eb
        rw [Nat.zero_mul, Nat.add_zero] at hvx hvy
        unfold Vt at hvx hvy
        have slA := icut_one (some ⟨b0, off0, none⟩) p c' hp
        have slB := icut_one (some ⟨b1, off1, none⟩) q d' hq
        obtain ⟨zA, hzA⟩ : ∃ z, icut (some ⟨b0, off0, none⟩) c' 1 = z := ⟨_, rfl⟩
        obtain ⟨zB, hzB⟩ : ∃ z, icut (some ⟨b1, off1, none⟩) d' 1 = z := ⟨_, rfl⟩
        rw [hzA] at slA tL
        rw [hzB] at slB tR
        have HVX := hide hvx
        have HVY := hide hvy
        obtain ⟨S, K, T, V, X⟩ := x
        obtain ⟨S1, K1, T1, V1, X1⟩ := y
        simp only at HVX HVY
        clear hvx hvy hca hcb hzA hzB
        obtain ⟨u0, u1, u2, u3, u4⟩ := HVX.out
        obtain ⟨v0, v1, v2, v3, v4⟩ := HVY.out
        obtain ⟨w0, rfl⟩ : ∃ w0, w0 = wr := ⟨_, rfl⟩
        go_upto_region 3 with fail
        go_cut [6, 7] from 14 to 57 (fun s6 s7 wx => ∃ P Q : Nat, s6 = .pointer (some ⟨P, 0, none⟩) ∧ s7 = .pointer (some ⟨Q, 0, none⟩) ∧ Hid (Below w0.heap.size w0 wx) ∧ Hid (Vi wx P 0 S K T V X) ∧ Hid (Vi wx Q 0 S1 K1 T1 V1 X1) ∧ Hid (w0.heap.size ≤ P ∧ w0.heap.size ≤ Q))
        case first =>
          have n0 := World.new_ne w0 _ u0
          have n1 := World.new_ne w0 _ u1
          have n2 := World.new_ne w0 _ u2
          have n3 := World.new_ne w0 _ u3
          have n4 := World.new_ne w0 _ u4
          have m0 := World.new_ne w0 _ v0
          have m1 := World.new_ne w0 _ v1
          have m2 := World.new_ne w0 _ v2
          have m3 := World.new_ne w0 _ v3
          have m4 := World.new_ne w0 _ v4
          go_region_held_law (fun W => W.cell? ⟨b0, off0, none⟩ = some (.int .i64 S) ∧ W.cell? ⟨b0, off0 + 1, none⟩ = some (.int .i64 K) ∧ W.cell? ⟨b0, off0 + 2, none⟩ = some (.int .u64 T) ∧ W.cell? ⟨b0, off0 + 3, none⟩ = some (.int .u64 V) ∧ W.cell? ⟨b0, off0 + 4, none⟩ = some (.int .i64 X) ∧ W.cell? ⟨b1, off1, none⟩ = some (.int .i64 S1) ∧ W.cell? ⟨b1, off1 + 1, none⟩ = some (.int .i64 K1) ∧ W.cell? ⟨b1, off1 + 2, none⟩ = some (.int .u64 T1) ∧ W.cell? ⟨b1, off1 + 3, none⟩ = some (.int .u64 V1) ∧ W.cell? ⟨b1, off1 + 4, none⟩ = some (.int .i64 X1)) (go_keep) (fail)
          all_goals (go_wp2_with fail; go_meet)
          case rel => exact ⟨w0.heap.size, w0.heap.size + 1, rfl, rfl, hide (two_new w0 S K T V X S1 K1 T1 V1 X1).1, hide (two_new w0 S K T V X S1 K1 T1 V1 X1).2.1, hide (two_new w0 S K T V X S1 K1 T1 V1 X1).2.2, hide ⟨by omega, by omega⟩⟩
          case rel => exact ⟨w0.heap.size + 1, w0.heap.size, rfl, rfl, hide (two_new w0 S1 K1 T1 V1 X1 S K T V X).1, hide (two_new w0 S1 K1 T1 V1 X1 S K T V X).2.2, hide (two_new w0 S1 K1 T1 V1 X1 S K T V X).2.1, hide ⟨by omega, by omega⟩⟩
        case rest =>
          obtain ⟨P, Q, rfl, rfl, hBx, hVP, hVQ, hPQ⟩ := hcut
          clear u0 u1 u2 u3 u4 v0 v1 v2 v3 v4 HVX HVY
          obtain ⟨w2, rfl⟩ : ∃ w2, w2 = wc := ⟨_, rfl⟩
          have gP := hVP.out
          have gQ := hVQ.out
          unfold Vi at gP gQ
          simp only [Nat.zero_add] at gP gQ
          obtain ⟨e0, e1, e2, e3, e4⟩ := gP
          obtain ⟨f0, f1, f2, f3, f4⟩ := gQ
          obtain ⟨o, ho⟩ : ∃ o, lessI S K T S1 K1 T1 = o := ⟨_, rfl⟩
          have C1 := hide (less_any S K T V X S1 K1 T1 V1 X1 w2)
          rw [ho] at C1
          have HLO := hide (show It.less ⟨S, K, T, V, X⟩ ⟨S1, K1, T1, V1, X1⟩ = o from ho)
          clear ho
          go_wp2_with fail
          refine C1.out.mono ?_
          rintro e w3 ⟨rfl, hb3⟩
          have VP3 := hide (hVP.out.keep hb3)
          have VQ3 := hide (hVQ.out.keep hb3)
          have B3 := hide (bmore hBx.out hb3)
          clear e0 e1 e2 e3 e4 f0 f1 f2 f3 f4 C1 hVP hVQ hBx hb3
          cases o with
          | true =>
            have HOA : Hid (∀ o, OwnI (w3.drew.alloc o) w.heap.size u5 acc) := hide fun o => ownI_keep hO.out (bmore B3.out ((Below.refl _ _).drew.alloc (Nat.le_refl _) o))
            have HKA : Hid (∀ (W : World) (o : Obj), (W.cell? ⟨P, 0, none⟩ = some (.int .i64 S) ∧ W.cell? ⟨P, 1, none⟩ = some (.int .i64 K) ∧ W.cell? ⟨P, 2, none⟩ = some (.int .u64 T) ∧ W.cell? ⟨P, 3, none⟩ = some (.int .u64 V) ∧ W.cell? ⟨P, 4, none⟩ = some (.int .i64 X)) → ((W.alloc o).cell? ⟨P, 0, none⟩ = some (.int .i64 S) ∧ (W.alloc o).cell? ⟨P, 1, none⟩ = some (.int .i64 K) ∧ (W.alloc o).cell? ⟨P, 2, none⟩ = some (.int .u64 T) ∧ (W.alloc o).cell? ⟨P, 3, none⟩ = some (.int .u64 V) ∧ (W.alloc o).cell? ⟨P, 4, none⟩ = some (.int .i64 X))) := hide fun W o h => (show Vi W P 0 S K T V X from h).keep ((Below.refl _ _).alloc (Nat.le_refl _) o)
            have hne : Hid (some P ≠ u5.ownBlock) := hide fun e => by have := (World.ownsRow.lt hO.out P e.symm).2; have := hPQ.out; omega
            have HKG : Hid (∀ (W W' : World), (W.cell? ⟨P, 0, none⟩ = some (.int .i64 S) ∧ W.cell? ⟨P, 1, none⟩ = some (.int .i64 K) ∧ W.cell? ⟨P, 2, none⟩ = some (.int .u64 T) ∧ W.cell? ⟨P, 3, none⟩ = some (.int .u64 V) ∧ W.cell? ⟨P, 4, none⟩ = some (.int .i64 X)) → W.grownBy W' u5.ownBlock → (W'.cell? ⟨P, 0, none⟩ = some (.int .i64 S) ∧ W'.cell? ⟨P, 1, none⟩ = some (.int .i64 K) ∧ W'.cell? ⟨P, 2, none⟩ = some (.int .u64 T) ∧ W'.cell? ⟨P, 3, none⟩ = some (.int .u64 V) ∧ W'.cell? ⟨P, 4, none⟩ = some (.int .i64 X))) := hide fun W W' h g => (show Vi W P 0 S K T V X from h).grown g hne.out
            have hbs : Hid (∀ o, w.heap.size ≤ (w3.drew.alloc o).heap.size) := hide fun o => by have := hB.out.size; have := B3.out.size; simp; omega
            have hzl : acc.length + 1 ≤ 3518437208883 := by have := hZ.out; omega
            have hgP := VP3.out
            unfold Vi at hgP
            simp only [Nat.zero_add] at hgP
            have HS0 := hide hgP
            obtain ⟨e0, e1, e2, e3, e4⟩ := hgP
            go_wp2_with fail
            go_region_held_law (fun W => W.cell? ⟨P, 0, none⟩ = some (.int .i64 S) ∧ W.cell? ⟨P, 1, none⟩ = some (.int .i64 K) ∧ W.cell? ⟨P, 2, none⟩ = some (.int .u64 T) ∧ W.cell? ⟨P, 3, none⟩ = some (.int .u64 V) ∧ W.cell? ⟨P, 4, none⟩ = some (.int .i64 X))
              (first
              | exact HS0.out
              | exact HKA.out _ _ (by assumption)
              | exact HKG.out _ _ (by assumption) (by assumption)
              | exact HKG.out _ _ (HKA.out _ _ (by assumption)) (by assumption)
              | assumption)
              (first
              | (refine step_append_at (some 45) rfl rfl _ _ rfl w.heap.size u5 acc rfl (HOA.out _) _ 1 1 [⟨S, K, T, V, X⟩] rfl (is_block hxw.out (hpS _ _ _ (by first | rfl | simp))) hzl (hbs.out _) ?_; intro v4 w4 o4 g4 k4; have HO4 := hide o4; have HG4 := hide g4))
            clear HOA HKA HKG hbs hne HS0 e0 e1 e2 e3 e4
            go_wp2
            go_roundw
            case rel =>
              have hb4 : Below w.heap.size w w4 := by
                refine Below.grown (bmore hB.out (bmore B3.out ((Below.refl _ w3).drew.alloc (Nat.le_refl _) _))) HG4.out ?_ (fun j hj => (World.ownsRow.lt hO.out j hj).1)
                have := hB.out.size
                have := B3.out.size
                simp; omega
              have hP := hide (show Prw w w4 l k (n + m) (.slice (zA) (p - 1) (c' - 1)) (.slice (some ⟨b1, off1, none⟩) (q) (d')) v4 from ⟨p - 1, q, zA, some ⟨b1, off1, none⟩, c' - 1, d', L', ⟨S1, K1, T1, V1, X1⟩ :: R', acc ++ [⟨S, K, T, V, X⟩], rfl, rfl, by omega, by omega, tL.out, hR.out, by rw [← hE.out, mg_l HLO.out]; simp, by have := hZ.out; simp; omega, HO4.out, hb4⟩)
              exact hP
            case measure => simp [lenOf]; omega
          | false =>
            have gP := VP3.out
            have gQ := VQ3.out
            unfold Vi at gP gQ
            simp only [Nat.zero_add] at gP gQ
            obtain ⟨e0, e1, e2, e3, e4⟩ := gP
            obtain ⟨f0, f1, f2, f3, f4⟩ := gQ
            obtain ⟨o, ho⟩ : ∃ o, lessI S1 K1 T1 S K T = o := ⟨_, rfl⟩
            have C1 := hide (less_any S1 K1 T1 V1 X1 S K T V X w3)
            rw [ho] at C1
            have HLO2 := hide (show It.less ⟨S1, K1, T1, V1, X1⟩ ⟨S, K, T, V, X⟩ = o from ho)
            clear ho
            go_wp2_with fail
            refine C1.out.mono ?_
            rintro e w5 ⟨rfl, hb5⟩
            have VP5 := hide (VP3.out.keep hb5)
            have VQ5 := hide (VQ3.out.keep hb5)
            have B5 := hide (bmore B3.out hb5)
            clear e0 e1 e2 e3 e4 f0 f1 f2 f3 f4 C1 VP3 VQ3 B3 hb5
            cases o with
            | true =>
              have HOA : Hid (∀ o, OwnI (w5.drew.alloc o) w.heap.size u5 acc) := hide fun o => ownI_keep hO.out (bmore B5.out ((Below.refl _ _).drew.alloc (Nat.le_refl _) o))
              have HKA : Hid (∀ (W : World) (o : Obj), (W.cell? ⟨Q, 0, none⟩ = some (.int .i64 S1) ∧ W.cell? ⟨Q, 1, none⟩ = some (.int .i64 K1) ∧ W.cell? ⟨Q, 2, none⟩ = some (.int .u64 T1) ∧ W.cell? ⟨Q, 3, none⟩ = some (.int .u64 V1) ∧ W.cell? ⟨Q, 4, none⟩ = some (.int .i64 X1)) → ((W.alloc o).cell? ⟨Q, 0, none⟩ = some (.int .i64 S1) ∧ (W.alloc o).cell? ⟨Q, 1, none⟩ = some (.int .i64 K1) ∧ (W.alloc o).cell? ⟨Q, 2, none⟩ = some (.int .u64 T1) ∧ (W.alloc o).cell? ⟨Q, 3, none⟩ = some (.int .u64 V1) ∧ (W.alloc o).cell? ⟨Q, 4, none⟩ = some (.int .i64 X1))) := hide fun W o h => (show Vi W Q 0 S1 K1 T1 V1 X1 from h).keep ((Below.refl _ _).alloc (Nat.le_refl _) o)
              have hne : Hid (some Q ≠ u5.ownBlock) := hide fun e => by have := (World.ownsRow.lt hO.out Q e.symm).2; have := hPQ.out; omega
              have HKG : Hid (∀ (W W' : World), (W.cell? ⟨Q, 0, none⟩ = some (.int .i64 S1) ∧ W.cell? ⟨Q, 1, none⟩ = some (.int .i64 K1) ∧ W.cell? ⟨Q, 2, none⟩ = some (.int .u64 T1) ∧ W.cell? ⟨Q, 3, none⟩ = some (.int .u64 V1) ∧ W.cell? ⟨Q, 4, none⟩ = some (.int .i64 X1)) → W.grownBy W' u5.ownBlock → (W'.cell? ⟨Q, 0, none⟩ = some (.int .i64 S1) ∧ W'.cell? ⟨Q, 1, none⟩ = some (.int .i64 K1) ∧ W'.cell? ⟨Q, 2, none⟩ = some (.int .u64 T1) ∧ W'.cell? ⟨Q, 3, none⟩ = some (.int .u64 V1) ∧ W'.cell? ⟨Q, 4, none⟩ = some (.int .i64 X1))) := hide fun W W' h g => (show Vi W Q 0 S1 K1 T1 V1 X1 from h).grown g hne.out
              have hbs : Hid (∀ o, w.heap.size ≤ (w5.drew.alloc o).heap.size) := hide fun o => by have := hB.out.size; have := B5.out.size; simp; omega
              have hzl : acc.length + 1 ≤ 3518437208883 := by have := hZ.out; omega
              have hgP := VQ5.out
              unfold Vi at hgP
              simp only [Nat.zero_add] at hgP
              have HS0 := hide hgP
              obtain ⟨e0, e1, e2, e3, e4⟩ := hgP
              go_wp2_with fail
              go_region_held_law (fun W => W.cell? ⟨Q, 0, none⟩ = some (.int .i64 S1) ∧ W.cell? ⟨Q, 1, none⟩ = some (.int .i64 K1) ∧ W.cell? ⟨Q, 2, none⟩ = some (.int .u64 T1) ∧ W.cell? ⟨Q, 3, none⟩ = some (.int .u64 V1) ∧ W.cell? ⟨Q, 4, none⟩ = some (.int .i64 X1))
                (first
                | exact HS0.out
                | exact HKA.out _ _ (by assumption)
                | exact HKG.out _ _ (by assumption) (by assumption)
                | exact HKG.out _ _ (HKA.out _ _ (by assumption)) (by assumption)
                | assumption)
                (first
                | (refine step_append_at (some 55) rfl rfl _ _ rfl w.heap.size u5 acc rfl (HOA.out _) _ 1 1 [⟨S1, K1, T1, V1, X1⟩] rfl (is_block hyw.out (hpS _ _ _ (by first | rfl | simp))) hzl (hbs.out _) ?_; intro v4 w4 o4 g4 k4; have HO4 := hide o4; have HG4 := hide g4))
              clear HOA HKA HKG hbs hne HS0 e0 e1 e2 e3 e4
              go_wp2
              go_roundw
              case rel =>
                have hb4 : Below w.heap.size w w4 := by
                  refine Below.grown (bmore hB.out (bmore B5.out ((Below.refl _ w5).drew.alloc (Nat.le_refl _) _))) HG4.out ?_ (fun j hj => (World.ownsRow.lt hO.out j hj).1)
                  have := hB.out.size
                  have := B5.out.size
                  simp; omega
                have hP := hide (show Prw w w4 l k (n + m) (.slice (some ⟨b0, off0, none⟩) (p) (c')) (.slice (zB) (q - 1) (d' - 1)) v4 from ⟨p, q - 1, some ⟨b0, off0, none⟩, zB, c', d' - 1, ⟨S, K, T, V, X⟩ :: L', R', acc ++ [⟨S1, K1, T1, V1, X1⟩], rfl, rfl, by omega, by omega, hL.out, tR.out, by rw [← hE.out, mg_r HLO.out HLO2.out]; simp, by have := hZ.out; simp; omega, HO4.out, hb4⟩)
                exact hP
              case measure => simp [lenOf]; omega
            | false =>
              have gP := VP5.out
              have gQ := VQ5.out
              unfold Vi at gP gQ
              simp only [Nat.zero_add] at gP gQ
              obtain ⟨z, hz⟩ : ∃ z, wnr ⟨S, K, T, V, X⟩ ⟨S1, K1, T1, V1, X1⟩ = z := ⟨_, rfl⟩
              have hzw : z.wf := by rw [← hz]; exact wnr_wf hxw.out hyw.out
              have CW : Hid (∀ W, Calls Try.prog 40 #[.agg #[.int .i64 S, .int .i64 K, .int .u64 T, .int .u64 V, .int .i64 X], .agg #[.int .i64 S1, .int .i64 K1, .int .u64 T1, .int .u64 V1, .int .i64 X1]] W fun e w' => e = .returned (ivL z) ∧ Below W.heap.size W w') := hide fun W => by rw [← hz]; exact winner_any _ _ W
              have HZ0 := hide hz
              obtain ⟨Sz, Kz, Tz, Vz, Xz⟩ := z
              have HZW := hide hzw
              unfold ivL at CW
              simp only at CW
              clear hz hzw
              have HS0 : Hid (w5.drew.cell? ⟨P, 0, none⟩ = some (.int .i64 S) ∧ w5.drew.cell? ⟨P, 1, none⟩ = some (.int .i64 K) ∧ w5.drew.cell? ⟨P, 2, none⟩ = some (.int .u64 T) ∧ w5.drew.cell? ⟨P, 3, none⟩ = some (.int .u64 V) ∧ w5.drew.cell? ⟨P, 4, none⟩ = some (.int .i64 X) ∧ w5.drew.cell? ⟨Q, 0, none⟩ = some (.int .i64 S1) ∧ w5.drew.cell? ⟨Q, 1, none⟩ = some (.int .i64 K1) ∧ w5.drew.cell? ⟨Q, 2, none⟩ = some (.int .u64 T1) ∧ w5.drew.cell? ⟨Q, 3, none⟩ = some (.int .u64 V1) ∧ w5.drew.cell? ⟨Q, 4, none⟩ = some (.int .i64 X1)) := hide (by simp only [World.cell?_drew]; exact ⟨gP.1, gP.2.1, gP.2.2.1, gP.2.2.2.1, gP.2.2.2.2, gQ⟩)
              have HKA : Hid (∀ (W W' : World), (W.cell? ⟨P, 0, none⟩ = some (.int .i64 S) ∧ W.cell? ⟨P, 1, none⟩ = some (.int .i64 K) ∧ W.cell? ⟨P, 2, none⟩ = some (.int .u64 T) ∧ W.cell? ⟨P, 3, none⟩ = some (.int .u64 V) ∧ W.cell? ⟨P, 4, none⟩ = some (.int .i64 X) ∧ W.cell? ⟨Q, 0, none⟩ = some (.int .i64 S1) ∧ W.cell? ⟨Q, 1, none⟩ = some (.int .i64 K1) ∧ W.cell? ⟨Q, 2, none⟩ = some (.int .u64 T1) ∧ W.cell? ⟨Q, 3, none⟩ = some (.int .u64 V1) ∧ W.cell? ⟨Q, 4, none⟩ = some (.int .i64 X1)) → Below W.heap.size W W' → (W'.cell? ⟨P, 0, none⟩ = some (.int .i64 S) ∧ W'.cell? ⟨P, 1, none⟩ = some (.int .i64 K) ∧ W'.cell? ⟨P, 2, none⟩ = some (.int .u64 T) ∧ W'.cell? ⟨P, 3, none⟩ = some (.int .u64 V) ∧ W'.cell? ⟨P, 4, none⟩ = some (.int .i64 X) ∧ W'.cell? ⟨Q, 0, none⟩ = some (.int .i64 S1) ∧ W'.cell? ⟨Q, 1, none⟩ = some (.int .i64 K1) ∧ W'.cell? ⟨Q, 2, none⟩ = some (.int .u64 T1) ∧ W'.cell? ⟨Q, 3, none⟩ = some (.int .u64 V1) ∧ W'.cell? ⟨Q, 4, none⟩ = some (.int .i64 X1))) := hide fun W W' h g => by
                obtain ⟨h0, h1, h2, h3, h4, h5⟩ := h
                have k1 := (show Vi W P 0 S K T V X from ⟨h0, h1, h2, h3, h4⟩).keep g
                have k2 := (show Vi W Q 0 S1 K1 T1 V1 X1 from h5).keep g
                exact ⟨k1.1, k1.2.1, k1.2.2.1, k1.2.2.2.1, k1.2.2.2.2, k2⟩
              have HKO : Hid (∀ (W : World) (o : Obj), (W.cell? ⟨P, 0, none⟩ = some (.int .i64 S) ∧ W.cell? ⟨P, 1, none⟩ = some (.int .i64 K) ∧ W.cell? ⟨P, 2, none⟩ = some (.int .u64 T) ∧ W.cell? ⟨P, 3, none⟩ = some (.int .u64 V) ∧ W.cell? ⟨P, 4, none⟩ = some (.int .i64 X) ∧ W.cell? ⟨Q, 0, none⟩ = some (.int .i64 S1) ∧ W.cell? ⟨Q, 1, none⟩ = some (.int .i64 K1) ∧ W.cell? ⟨Q, 2, none⟩ = some (.int .u64 T1) ∧ W.cell? ⟨Q, 3, none⟩ = some (.int .u64 V1) ∧ W.cell? ⟨Q, 4, none⟩ = some (.int .i64 X1)) → ((W.alloc o).cell? ⟨P, 0, none⟩ = some (.int .i64 S) ∧ (W.alloc o).cell? ⟨P, 1, none⟩ = some (.int .i64 K) ∧ (W.alloc o).cell? ⟨P, 2, none⟩ = some (.int .u64 T) ∧ (W.alloc o).cell? ⟨P, 3, none⟩ = some (.int .u64 V) ∧ (W.alloc o).cell? ⟨P, 4, none⟩ = some (.int .i64 X) ∧ (W.alloc o).cell? ⟨Q, 0, none⟩ = some (.int .i64 S1) ∧ (W.alloc o).cell? ⟨Q, 1, none⟩ = some (.int .i64 K1) ∧ (W.alloc o).cell? ⟨Q, 2, none⟩ = some (.int .u64 T1) ∧ (W.alloc o).cell? ⟨Q, 3, none⟩ = some (.int .u64 V1) ∧ (W.alloc o).cell? ⟨Q, 4, none⟩ = some (.int .i64 X1))) := hide fun W o h => HKA.out W _ h ((Below.refl _ _).alloc (Nat.le_refl _) o)
              have hneP : Hid (some P ≠ u5.ownBlock) := hide fun e => by have := (World.ownsRow.lt hO.out P e.symm).2; have := hPQ.out; omega
              have hneQ : Hid (some Q ≠ u5.ownBlock) := hide fun e => by have := (World.ownsRow.lt hO.out Q e.symm).2; have := hPQ.out; omega
              have HKG : Hid (∀ (W W' : World), (W.cell? ⟨P, 0, none⟩ = some (.int .i64 S) ∧ W.cell? ⟨P, 1, none⟩ = some (.int .i64 K) ∧ W.cell? ⟨P, 2, none⟩ = some (.int .u64 T) ∧ W.cell? ⟨P, 3, none⟩ = some (.int .u64 V) ∧ W.cell? ⟨P, 4, none⟩ = some (.int .i64 X) ∧ W.cell? ⟨Q, 0, none⟩ = some (.int .i64 S1) ∧ W.cell? ⟨Q, 1, none⟩ = some (.int .i64 K1) ∧ W.cell? ⟨Q, 2, none⟩ = some (.int .u64 T1) ∧ W.cell? ⟨Q, 3, none⟩ = some (.int .u64 V1) ∧ W.cell? ⟨Q, 4, none⟩ = some (.int .i64 X1)) → W.grownBy W' u5.ownBlock → (W'.cell? ⟨P, 0, none⟩ = some (.int .i64 S) ∧ W'.cell? ⟨P, 1, none⟩ = some (.int .i64 K) ∧ W'.cell? ⟨P, 2, none⟩ = some (.int .u64 T) ∧ W'.cell? ⟨P, 3, none⟩ = some (.int .u64 V) ∧ W'.cell? ⟨P, 4, none⟩ = some (.int .i64 X) ∧ W'.cell? ⟨Q, 0, none⟩ = some (.int .i64 S1) ∧ W'.cell? ⟨Q, 1, none⟩ = some (.int .i64 K1) ∧ W'.cell? ⟨Q, 2, none⟩ = some (.int .u64 T1) ∧ W'.cell? ⟨Q, 3, none⟩ = some (.int .u64 V1) ∧ W'.cell? ⟨Q, 4, none⟩ = some (.int .i64 X1))) := hide fun W W' h g => by
                obtain ⟨h0, h1, h2, h3, h4, h5⟩ := h
                have k1 := (show Vi W P 0 S K T V X from ⟨h0, h1, h2, h3, h4⟩).grown g hneP.out
                have k2 := (show Vi W Q 0 S1 K1 T1 V1 X1 from h5).grown g hneQ.out
                exact ⟨k1.1, k1.2.1, k1.2.2.1, k1.2.2.2.1, k1.2.2.2.2, k2⟩
              have HOW : Hid (∀ W o, Below w5.drew.heap.size w5.drew W → OwnI (W.alloc o) w.heap.size u5 acc) := hide fun W o hW => ownI_keep hO.out (bmore B5.out (bmore (Below.refl _ w5).drew (bmore hW ((Below.refl _ _).alloc (Nat.le_refl _) o))))
              have hbs : Hid (∀ W o, Below w5.drew.heap.size w5.drew W → w.heap.size ≤ (W.alloc o).heap.size) := hide fun W o hW => by have := hB.out.size; have := B5.out.size; have := hW.size; simp at *; omega
              have hzl : acc.length + 1 ≤ 3518437208883 := by have := hZ.out; omega
              obtain ⟨e0, e1, e2, e3, e4⟩ := gP
              obtain ⟨f0, f1, f2, f3, f4⟩ := gQ
              go_wp2_with fail
              go_region_held_law (fun W => W.cell? ⟨P, 0, none⟩ = some (.int .i64 S) ∧ W.cell? ⟨P, 1, none⟩ = some (.int .i64 K) ∧ W.cell? ⟨P, 2, none⟩ = some (.int .u64 T) ∧ W.cell? ⟨P, 3, none⟩ = some (.int .u64 V) ∧ W.cell? ⟨P, 4, none⟩ = some (.int .i64 X) ∧ W.cell? ⟨Q, 0, none⟩ = some (.int .i64 S1) ∧ W.cell? ⟨Q, 1, none⟩ = some (.int .i64 K1) ∧ W.cell? ⟨Q, 2, none⟩ = some (.int .u64 T1) ∧ W.cell? ⟨Q, 3, none⟩ = some (.int .u64 V1) ∧ W.cell? ⟨Q, 4, none⟩ = some (.int .i64 X1))
                (first
                | exact HS0.out
                | exact HKA.out _ _ (by assumption) (by assumption)
                | exact HKO.out _ _ (by assumption)
                | exact HKG.out _ _ (by assumption) (by assumption)
                | exact HKG.out _ _ (HKO.out _ _ (by assumption)) (by assumption)
                | assumption)
                (first
                | (go_at_call 40; refine (CW.out _).mono ?_; rintro e w6 ⟨rfl, hb6⟩)
                | (refine step_append_at (some 33) rfl rfl _ _ rfl w.heap.size u5 acc rfl (HOW.out _ _ (by assumption)) _ 1 1 [⟨Sz, Kz, Tz, Vz, Xz⟩] rfl (is_block HZW.out (hpS _ _ _ (by first | rfl | simp))) hzl (hbs.out _ _ (by assumption)) ?_; intro v4 w4 o4 g4 k4; have HO4 := hide o4; have HG4 := hide g4))
              clear HKA HKG HKO hneP hneQ hbs HOW HS0 CW e0 e1 e2 e3 e4 f0 f1 f2 f3 f4
              have HB6 := hide hb6
              go_wp2
              go_roundw
              case rel =>
                have hb4 : Below w.heap.size w w4 := by
                  refine Below.grown (bmore hB.out (bmore B5.out (bmore (Below.refl _ w5).drew (bmore HB6.out ((Below.refl _ _).alloc (Nat.le_refl _) _))))) HG4.out ?_ (fun j hj => (World.ownsRow.lt hO.out j hj).1)
                  have := hB.out.size
                  have := B5.out.size
                  have := HB6.out.size
                  simp at *; omega
                have hP := hide (show Prw w w4 l k (n + m) (.slice zA (p - 1) (c' - 1)) (.slice zB (q - 1) (d' - 1)) v4 from ⟨p - 1, q - 1, zA, zB, c' - 1, d' - 1, L', R', acc ++ [⟨Sz, Kz, Tz, Vz, Xz⟩], rfl, rfl, by omega, by omega, tL.out, tR.out, by rw [← hE.out, mg_b HLO.out HLO2.out, HZ0.out]; simp, by have := hZ.out; simp; omega, HO4.out, hb4⟩)
                exact hP
              case measure => simp [lenOf]; omega
      · have hIa := hide (hL.out.below hB.out (Nat.le_refl _))
        have hbw := hide hB.out.size
        have hz1 : acc.length + p ≤ 3518437208883 := by have := hZ.out; omega
        go_wp2_with (first
          | (at_builtin; refine wpList_append_items rfl _ _ rfl w.heap.size u5 acc rfl hO.out _ p c' L rfl hIa.out hz1 hbw.out ?_)
          | fail)
        intro v4 w4 o4 g4 k4
        have hb4 : Below w.heap.size w w4 := hB.out.grown g4 hB.out.size k4
        have hIb := hide (hR.out.below hb4 (Nat.le_refl _))
        have hLn := hL.out.1
        have hz2 : (acc ++ L).length + q ≤ 3518437208883 := by have := hZ.out; simp; omega
        have HO4 := hide o4
        have HB4 := hide hb4
        have hbw4 := hide hb4.size
        clear o4 g4 k4 hb4 hIa hO hB hbw
        go_wp2_with (first
          | (at_builtin; refine wpList_append_items rfl _ _ rfl w.heap.size v4 (acc ++ L) rfl HO4.out _ q d' R rfl hIb.out hz2 hbw4.out ?_)
          | fail)
        intro v5 w6 o5 g5 k5
        have hb5 : Below w.heap.size w w6 := HB4.out.grown g5 HB4.out.size k5
        have HO5 := hide o5
        have HB5 := hide hb5
        clear o5 g5 k5 hb5
        go_wp2
        go_ret
        refine ⟨_, rfl, ?_, HB5.out⟩
        have := HO5.out
        have hR0 : R = [] := List.eq_nil_of_length_eq_zero (by have := hR.out.1; omega)
        rw [hR0, List.append_nil] at this
        rw [← hE.out, hR0, mg_nil]; exact this
    · have hIa := hide (hL.out.below hB.out (Nat.le_refl _))
      have hbw := hide hB.out.size
      have hz1 : acc.length + p ≤ 3518437208883 := by have := hZ.out; omega
      go_wp2_with (first
        | (at_builtin; refine wpList_append_items rfl _ _ rfl w.heap.size u5 acc rfl hO.out _ p c' L rfl hIa.out hz1 hbw.out ?_)
        | fail)
      intro v4 w4 o4 g4 k4
      have hb4 : Below w.heap.size w w4 := hB.out.grown g4 hB.out.size k4
      have hIb := hide (hR.out.below hb4 (Nat.le_refl _))
      have hLn := hL.out.1
      have hz2 : (acc ++ L).length + q ≤ 3518437208883 := by have := hZ.out; simp; omega
      have HO4 := hide o4
      have HB4 := hide hb4
      have hbw4 := hide hb4.size
      clear o4 g4 k4 hb4 hIa hO hB hbw
      go_wp2_with (first
        | (at_builtin; refine wpList_append_items rfl _ _ rfl w.heap.size v4 (acc ++ L) rfl HO4.out _ q d' R rfl hIb.out hz2 hbw4.out ?_)
        | fail)
      intro v5 w6 o5 g5 k5
      have hb5 : Below w.heap.size w w6 := HB4.out.grown g5 HB4.out.size k5
      have HO5 := hide o5
      have HB5 := hide hb5
      clear o5 g5 k5 hb5
      go_wp2
      go_ret
      refine ⟨_, rfl, ?_, HB5.out⟩
      have := HO5.out
      have hL0 : L = [] := List.eq_nil_of_length_eq_zero (by have := hL.out.1; omega)
      simp only [hL0, List.nil_append] at this
      have hq := hE.out
      rw [hL0] at hq
      rw [← hq]; exact this

end Go.Proofs.Ytkkcchklefcljaa.Clep
