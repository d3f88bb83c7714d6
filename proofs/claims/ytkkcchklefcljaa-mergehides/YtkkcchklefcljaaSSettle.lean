/- What state.settle does when called: the state of all items of the lists. Conditions: at most 2^40 items. -/
import Derived.Test.YtkkcchklefcljaaSPick
import Derived.Test.YtkkcchklefcljaaSScan
import Derived.Test.YtkkcchklefcljaaSVx
namespace Go.Proofs.Ytkkcchklefcljaa.Clep
open Go.RowKit
set_option linter.unusedVariables false

/-- The answer is a slice that leads to the items l; what was there is as it was. -/
def Ans (l : List It) (w : World) (e : Ending) (w' : World) : Prop := ∃ a c, e = .returned (.slice a l.length c) ∧ Is w' a l.length c l ∧ c ≤ 9223372036854775807 ∧ Below w.heap.size w w'
theorem Lss.wf {w : World} {ao : Option Addr} {len : Nat} {ls : List (List It)} (h : Lss w ao len ls) : ∀ x ∈ ls.flatten, x.wf := by
  obtain ⟨h1, b, off, rfl, h2⟩ := h
  intro x hx
  obtain ⟨l, hl, hx'⟩ := List.mem_flatten.1 hx
  obtain ⟨i, hi, rfl⟩ := List.getElem_of_mem hl
  obtain ⟨a, n, c, _, _, h5⟩ := h2 i _ (List.getElem?_eq_getElem hi)
  exact h5.2.2.1 x hx'
theorem wn_ok (w : World) : Wn w (.func (.func 44) #[] #[]) It.ok :=
  ⟨44, #[], rfl, enters_of Try.func44 (by kernel_rfl) rfl, fun W _ x => ok_any x.S x.K x.T x.V x.X W⟩
theorem ownI_aside {w w' : World} {B g n cap G : Nat} {m : List It} (h : OwnI w B (.slice (some ⟨g, 0, none⟩) n cap) m) (hg : w.grownBy w' (some G)) (hne : g ≠ G) : OwnI w' B (.slice (some ⟨g, 0, none⟩) n cap) m :=
  World.ownsRow.kept h hg (.inr (by simpa [Value.ownBlock] using hne))

/-- In the round: the row, what is kept at its beginning, what is to come, the last delete. -/
structure Stl (w wr : World) (g G n cap : Nat) (d : List It) (i j : Nat) (m kept : List It) (gn : It) : Prop where
  own : OwnI wr w.heap.size (.slice (some ⟨g, 0, none⟩) n cap) m
  len : m.length = n
  jl : kept.length = j
  kp : m.take j = kept
  rest : m.drop i = d.drop i
  gone : Vx wr G gn.S gn.K gn.T gn.V gn.X
  bel : Below w.heap.size w wr
  gG : g < G
  gw : w.heap.size ≤ g
  wf : ∀ x ∈ m, x.wf
  st : scanS (d.take i) = (kept, gn)
theorem Stl.keep {w wr w' : World} {g G n cap : Nat} {d : List It} {i j : Nat} {m kept : List It} {gn : It} (h : Stl w wr g G n cap d i j m kept gn) (hb : Below wr.heap.size wr w') : Stl w w' g G n cap d i j m kept gn :=
  ⟨ownI_keep h.own hb, h.len, h.jl, h.kp, h.rest, h.gone.keep hb, bmore h.bel hb, h.gG, h.gw, h.wf, h.st⟩
theorem Stl.le {w wr : World} {g G n cap : Nat} {d : List It} {i j : Nat} {m kept : List It} {gn : It} (h : Stl w wr g G n cap d i j m kept gn) : j ≤ i := by
  have := scan_len (d.take i)
  rw [h.st] at this
  have h2 := h.jl
  rw [List.length_take] at this
  simp only at this
  omega
theorem Stl.is {w wr : World} {g G n cap : Nat} {d : List It} {i j : Nat} {m kept : List It} {gn : It} (h : Stl w wr g G n cap d i j m kept gn) : Is wr (some ⟨g, 0, none⟩) n cap m := by
  obtain ⟨ao, cap', e, _, hi, _⟩ := ownI_is h.own h.wf
  cases e
  exact hi
theorem is_take {w : World} {a : Addr} {n cap j : Nat} {m : List It} (h : Is w (some a) n cap m) (hj : j ≤ n) : Is w (some a) j cap (m.take j) := by
  refine ⟨by rw [List.length_take, h.1]; omega, ⟨by have := h.2.1.1; omega, fun e => by cases e⟩, fun x hx => h.2.2.1 x (List.mem_of_mem_take hx), fun h0 => ?_⟩
  obtain ⟨b, off, e, hc⟩ := h.2.2.2 (by omega)
  refine ⟨b, off, e, fun i x hi => hc i x ?_⟩
  rw [List.getElem?_take] at hi
  split at hi
  · exact hi
  · cases hi
theorem drop_cons {m d : List It} {i : Nat} {x : It} (h : m.drop i = d.drop i) (hx : m[i]? = some x) : d[i]? = some x ∧ m.drop (i + 1) = d.drop (i + 1) ∧ d.take (i + 1) = d.take i ++ [x] := by
  have h1 : (m.drop i)[0]? = some x := by simpa using hx
  rw [h] at h1
  have h2 : d[i]? = some x := by simpa using h1
  refine ⟨h2, ?_, ?_⟩
  · have := congrArg (List.drop 1) h
    simpa [List.drop_drop, Nat.add_comm] using this
  · rw [List.take_add_one, h2]; rfl

set_option maxRecDepth 100000 in
set_option maxHeartbeats 4000000 in
theorem settle_any (ao : Option Addr) (len cap0 : Nat) (ls : List (List It)) (w : World) (h : Lss w ao len ls) (ht : ls.flatten.length ≤ 1099511627776) (hl : len ≤ 1000) :
    Calls Try.prog 35 #[.slice ao len cap0] w (Ans (ofL ls.flatten) w) := by
  have hpick := hide (pick_any (.func (.func 44) #[] #[]) ao len cap0 ls It.ok w (wn_ok w) h ht hl)
  have hwf : Hid (∀ x ∈ ls.flatten.filter It.ok, x.wf) := hide fun x hx => h.wf x (List.mem_filter.1 hx).1
  have hfl : Hid ((ls.flatten.filter It.ok).length ≤ 1099511627776) := hide (Nat.le_trans (List.length_filter_le _ _) ht)
  clear h
  go_enter Try.func35, Try.ntmps35
  go_wp2_with fail
  refine hpick.out.mono ?_
  rintro e w1 ⟨v, rfl, o1, b1⟩
  have hsort := hide (sort_any v w.heap.size _ w1 o1 hfl.out)
  have O1 := hide o1
  have B1 := hide b1
  obtain ⟨av, nv, cv', rfl⟩ := ownI_slice o1
  clear o1 b1 hpick
  go_wp2_with fail
  refine hsort.out.mono ?_
  rintro e w2 ⟨rfl, d, hp, hs, hdl, o2, g2⟩
  have HS := hide (scan_of hp hs)
  have hdw : Hid (∀ x ∈ d, x.wf) := hide fun x hx => hwf.out x (hp.mem_iff.1 hx)
  have hdn : Hid (d.length ≤ 1099511627776) := hide (by rw [hdl]; exact hfl.out)
  have B2 := hide (B1.out.grown g2 B1.out.size (fun k hk => (World.ownsRow.lt O1.out k hk).1))
  have O2 := hide o2
  clear hp hs hdl g2 o2 hsort O1 hwf hfl B1
  by_cases hd0 : d = []
  · subst hd0
    have HE : Hid (ofL ls.flatten = []) := hide (by rw [← HS.out]; rfl)
    have B3 := hide (B2.out.alloc B2.out.size (Obj.cells #[Value.int IntKind.i64 0, Value.int IntKind.i64 0, Value.int IntKind.u64 0, Value.int IntKind.u64 0, Value.int IntKind.i64 0] 36))
    have hsh : nv = 0 ∧ (av = none ∧ cv' = 0 ∨ ∃ g, av = some ⟨g, 0, none⟩ ∧ cv' ≤ 9223372036854775807) := by
      obtain ⟨_, ⟨e, _⟩ | ⟨g, cap, cur, e, _, _, _, hcm, _⟩⟩ := O2.out
      · cases e; exact ⟨rfl, .inl ⟨rfl, rfl⟩⟩
      · cases e; exact ⟨rfl, .inr ⟨g, rfl, by unfold maxLen at hcm; exact hcm⟩⟩
    obtain ⟨rfl, ⟨rfl, rfl⟩ | ⟨g, rfl, hcv⟩⟩ := hsh
    · clear O2 HS hdw hdn
      go_wp2_with fail
      go_loop [5, 16] (fun s5 i => s5 = .slice none 0 0 ∧ i = .int .i64 0) (fun _ _ => 0)
      case atStart => exact ⟨rfl, rfl⟩
      case round =>
        obtain ⟨rfl, rfl⟩ := hrel
        go_wp2_with fail
        refine (clip_any none 0 0 _ (by omega) (fun _ => ⟨rfl, rfl⟩) (by omega)).mono ?_
        rintro e w3 ⟨rfl, hw3⟩
        rw [hw3]
        go_wp2
        go_ret
        unfold Ans
        rw [HE.out]
        exact ⟨none, 0, rfl, is_nil _, by omega, B3.out⟩
    · clear O2 HS hdw hdn
      go_wp2_with fail
      go_loop [5, 16] (fun s5 i => s5 = (.slice (some ⟨g, 0, none⟩) 0 cv' : Value) ∧ i = .int .i64 0) (fun _ _ => 0)
      case atStart => exact ⟨rfl, rfl⟩
      case round =>
        obtain ⟨rfl, rfl⟩ := hrel
        go_wp2_with fail
        refine (clip_any (some ⟨g, 0, none⟩) 0 cv' _ (by omega) (fun h => by cases h) hcv).mono ?_
        rintro e w3 ⟨rfl, hw3⟩
        rw [hw3]
        go_wp2
        go_ret
        unfold Ans
        rw [HE.out]
        exact ⟨_, 0, rfl, ⟨rfl, ⟨Nat.le_refl _, fun h => by cases h⟩, by simp, fun h => absurd h (by simp)⟩, by omega, B3.out⟩
  · have hd1 : 0 < d.length := List.length_pos_iff.2 hd0
    obtain ⟨g, hav, hnv, hgw, hg2, hcv⟩ : ∃ g, av = some ⟨g, 0, none⟩ ∧ nv = d.length ∧ w.heap.size ≤ g ∧ g < w2.heap.size ∧ (cv' ≤ 9223372036854775807 ∧ d.length ≤ cv') := by
      obtain ⟨_, ⟨e, h0⟩ | ⟨g, cap, cur, e, hg, hh, hnc, hcm, _⟩⟩ := O2.out
      · omega
      · cases e; exact ⟨g, rfl, rfl, hg, (Array.getElem?_eq_some_iff.1 hh).1, by unfold maxLen at hcm; exact ⟨hcm, hnc⟩⟩
    subst hav hnv
    obtain ⟨n, hn⟩ : ∃ n, d.length = n := ⟨_, rfl⟩
    rw [hn] at O2 hd1 hcv
    have SL0 : Hid (Stl w (w2.alloc (Obj.cells #[Value.int IntKind.i64 0, Value.int IntKind.i64 0, Value.int IntKind.u64 0, Value.int IntKind.u64 0, Value.int IntKind.i64 0] 36)) g w2.heap.size n cv' d 0 0 d [] it0) := hide ⟨ownI_keep O2.out ((Below.refl _ _).alloc (Nat.le_refl _) _), hn, rfl, rfl, rfl, vx_new w2 0 0 0 0 0, B2.out.alloc B2.out.size _, hg2, hgw, hdw.out, rfl⟩
    have hnb : n ≤ 1099511627776 := by have := hdn.out; omega
    rw [hn]
    have HN := hide hn
    clear O2 hn hdn hdw B2 hd0
    go_wp2_with fail
    generalize w2.heap.size = G at *
    go_loopw [5, 16] (fun s5 s16 wr => ∃ (i j : Nat) (m kept : List It) (gn : It), i ≤ n ∧ s16 = .int .i64 i ∧ s5 = .slice (some ⟨g, 0, none⟩) j cv' ∧ Hid (Stl w wr g G n cv' d i j m kept gn)) (fun _ s16 _ => n - (intOf s16).toNat)
    case atStart => exact ⟨0, 0, d, [], it0, by omega, rfl, rfl, SL0⟩
    case round =>
      obtain ⟨i, j, m, kept, gn, hi, rfl, rfl, hsl⟩ := hrel
      by_cases hlt : i < n
      · obtain ⟨x, hx⟩ : ∃ x, m[i]? = some x := ⟨_, List.getElem?_eq_getElem (by rw [hsl.out.len]; exact hlt)⟩
        obtain ⟨b', off', e', hc⟩ := hsl.out.is.2.2.2 (by omega)
        cases e'
        have hv := hc i x hx
        have hxw := hide (hsl.out.wf x (List.mem_of_getElem? hx))
        have hdc := hide (drop_cons hsl.out.rest hx)
        have hji := hsl.out.le
        have hGr := hsl.out.gone.lt
        have hgG := hsl.out.gG
        have hst : Hid (scanS (d.take (i + 1)) = scan1 (kept, gn) x) := hide (by rw [hdc.out.2.2, scanS_snoc, hsl.out.st])
        obtain ⟨S, K, T, V, X⟩ := x
        obtain ⟨gS, gK, gT, gV, gX⟩ := gn
        unfold Vt Vi at hv
        simp only [Nat.zero_add] at hv
        obtain ⟨v0, v1, v2, v3, v4⟩ := hv
        have hs1 := hide (hsl.out.keep ((Below.refl _ _).alloc (Nat.le_refl _) (Obj.cells #[Value.int IntKind.i64 S, Value.int IntKind.i64 K, Value.int IntKind.u64 T, Value.int IntKind.u64 V, Value.int IntKind.i64 X] 36)))
        have X1 := hide (vi_new wr S K T V X)
        have GN := hs1.out.gone.1
        unfold Vi at GN
        simp only [Nat.zero_add] at GN
        obtain ⟨u0, u1, u2, u3, u4⟩ := GN
        clear hc hx
        go_wp2_with fail
        refine (hides_any gS gK gT gV gX S K T V X _).mono ?_
        obtain ⟨o1, ho1⟩ : ∃ o, hidesI gS gK gV S K V = o := ⟨_, rfl⟩
        rw [ho1]
        have HO1 := hide ho1
        clear ho1
        rintro e w3 ⟨rfl, b3⟩
        have hs3 := hide (hs1.out.keep b3)
        have X3 := hide (X1.out.keep b3)
        clear u0 u1 u2 u3 u4 v0 v1 v2 v3 v4 hs1 X1 b3 hsl
        have q := X3.out
        unfold Vi at q
        simp only [Nat.zero_add] at q
        obtain ⟨v0, v1, v2, v3, v4⟩ := q
        cases o1 with
        | true =>
          go_wp2
          go_roundw
          case rel => exact ⟨i + 1, j, m, kept, ⟨gS, gK, gT, gV, gX⟩, by omega, by go_num, rfl, hide ⟨hs3.out.own, hs3.out.len, hs3.out.jl, hs3.out.kp, hdc.out.2.1, hs3.out.gone, hs3.out.bel, hs3.out.gG, hs3.out.gw, hs3.out.wf, by
            rw [hst.out]; unfold scan1
            rw [if_pos]
            show (It.hides ⟨gS, gK, gT, gV, gX⟩ ⟨S, K, T, V, X⟩ || _) = true
            unfold It.hides; rw [HO1.out]; rfl⟩⟩
          case measure => simp [intOf]; omega
        | false =>
          go_wp2_with fail
          refine (isthere_any (some ⟨g, 0, none⟩) j cv' kept S K T V X _ (by have := is_take hs3.out.is (j := j) (by omega); rw [hs3.out.kp] at this; exact this) (by omega)).mono ?_
          obtain ⟨o2, ho2⟩ : ∃ o, isTh kept ⟨S, K, T, V, X⟩ = o := ⟨_, rfl⟩
          rw [ho2]
          have HO2 := hide ho2
          clear ho2
          rintro e w4 ⟨rfl, b4⟩
          have hs4 := hide (hs3.out.keep b4)
          have X4 := hide (X3.out.keep b4)
          clear v0 v1 v2 v3 v4 hs3 X3 b4
          have q := X4.out
          unfold Vi at q
          simp only [Nat.zero_add] at q
          obtain ⟨v0, v1, v2, v3, v4⟩ := q
          cases o2 with
          | true =>
            go_wp2
            go_roundw
            case rel => exact ⟨i + 1, j, m, kept, ⟨gS, gK, gT, gV, gX⟩, by omega, by go_num, rfl, hide ⟨hs4.out.own, hs4.out.len, hs4.out.jl, hs4.out.kp, hdc.out.2.1, hs4.out.gone, hs4.out.bel, hs4.out.gG, hs4.out.gw, hs4.out.wf, by
              rw [hst.out]; unfold scan1
              rw [if_pos]
              show (_ || isTh kept ⟨S, K, T, V, X⟩) = true
              rw [HO2.out]; simp⟩⟩
            case measure => simp [intOf]; omega
          | false =>
            have hs5 := hide (hs4.out.keep ((Below.refl _ _).alloc (Nat.le_refl _) (Obj.cells #[Value.int IntKind.i64 S, Value.int IntKind.i64 K, Value.int IntKind.u64 T, Value.int IntKind.u64 V, Value.int IntKind.i64 X] 36)))
            have X5 := hide (X4.out.keep ((Below.refl _ _).alloc (Nat.le_refl _) (Obj.cells #[Value.int IntKind.i64 S, Value.int IntKind.i64 K, Value.int IntKind.u64 T, Value.int IntKind.u64 V, Value.int IntKind.i64 X] 36)))
            have I5 := hide (is_one w4 S K T V X hxw.out)
            have hsc : Hid (scanS (d.take (i + 1)) = (kept ++ [⟨S, K, T, V, X⟩], if K = 1 then ⟨S, K, T, V, X⟩ else ⟨gS, gK, gT, gV, gX⟩)) := hide (by
              rw [hst.out]; unfold scan1
              rw [if_neg]
              show ¬ (It.hides ⟨gS, gK, gT, gV, gX⟩ ⟨S, K, T, V, X⟩ || isTh kept ⟨S, K, T, V, X⟩) = true
              rw [HO2.out]; unfold It.hides; rw [HO1.out]; simp)
            clear hs4 X4 HO1 HO2 hst
            have hng : Hid (some wr.heap.size ≠ some g) := hide (by intro e; injection e with e; omega)
            have hnG : Hid (some G ≠ some g) := hide (by intro e; injection e with e; have := hs5.out.gG; omega)
            have hset : Hid ((m.set j (⟨S, K, T, V, X⟩ : It)).length = n ∧ (kept ++ [(⟨S, K, T, V, X⟩ : It)]).length = j + 1 ∧ (m.set j (⟨S, K, T, V, X⟩ : It)).take (j + 1) = kept ++ [(⟨S, K, T, V, X⟩ : It)] ∧ (m.set j (⟨S, K, T, V, X⟩ : It)).drop (i + 1) = d.drop (i + 1) ∧ ∀ x ∈ m.set j (⟨S, K, T, V, X⟩ : It), x.wf) := hide (by
              have hml := hs5.out.len
              refine ⟨by rw [List.length_set]; exact hml, by simp [hs5.out.jl], ?_, ?_, fun x hx => ?_⟩
              · rw [List.take_add_one, List.take_set_of_le (by omega), hs5.out.kp, List.getElem?_set_self (by omega)]; rfl
              · rw [List.drop_set_of_lt (by omega)]; exact hdc.out.2.1
              · rcases List.mem_or_eq_of_mem_set hx with h | h
                · exact hs5.out.wf x h
                · rw [h]; exact hxw.out)
            by_cases hK : K = 1
            · have hKb : (K == 1) = true := by simp [hK]
              have HKK := hide hK
              clear hK
              go_wp2_with (at_builtin; refine wpList_append_row rfl _ _ rfl w.heap.size g n cv' j m rfl hs5.out.own (by omega) _ 1 ⟨S, K, T, V, X⟩ rfl I5.out ?_; intro w6 o6 g6; have X6 := X5.out.grown g6 hng.out; unfold Vi at X6; simp only [Nat.zero_add] at X6; obtain ⟨x0, x1, x2, x3, x4⟩ := X6; have G6 := hs5.out.gone.grown g6 hnG.out; have HG6 := hide G6; unfold Vx Vi Vf at G6; simp only [Nat.zero_add] at G6; obtain ⟨⟨y0, y1, y2, y3, y4⟩, z0, z1, z2, z3, z4⟩ := G6; have O6 := hide o6; have HH6 := hide g6; clear o6 g6)
              go_roundw
              case rel => exact ⟨i + 1, j + 1, _, _, ⟨S, K, T, V, X⟩, by omega, by go_num, rfl, hide ⟨ownI_aside O6.out (gb_putI w6 G S K T V X) (by have := hs5.out.gG; omega), hset.out.1, hset.out.2.1, hset.out.2.2.1, hset.out.2.2.2.1, HG6.out.put S K T V X, (hs5.out.bel.grown HH6.out hs5.out.bel.size (fun k hk => by cases hk; exact hs5.out.gw)).grown (gb_putI w6 G S K T V X) (Nat.le_trans hs5.out.bel.size HH6.out.size) (fun k hk => by cases hk; have := hs5.out.gG; have := hs5.out.gw; omega), hs5.out.gG, hs5.out.gw, hset.out.2.2.2.2, by rw [hsc.out, if_pos HKK.out]⟩⟩
              case measure => simp [intOf]; omega
            · have hKb : (K == 1) = false := by simp; omega
              go_wp2_with (at_builtin; refine wpList_append_row rfl _ _ rfl w.heap.size g n cv' j m rfl hs5.out.own (by omega) _ 1 ⟨S, K, T, V, X⟩ rfl I5.out ?_; intro w6 o6 g6; have X6 := X5.out.grown g6 hng.out; unfold Vi at X6; simp only [Nat.zero_add] at X6; obtain ⟨x0, x1, x2, x3, x4⟩ := X6; have G6 := hs5.out.gone.grown g6 hnG.out; have HG6 := hide G6; unfold Vx Vi Vf at G6; simp only [Nat.zero_add] at G6; obtain ⟨⟨y0, y1, y2, y3, y4⟩, z0, z1, z2, z3, z4⟩ := G6; have O6 := hide o6; have HH6 := hide g6; clear o6 g6)
              go_roundw
              case rel => exact ⟨i + 1, j + 1, _, _, ⟨gS, gK, gT, gV, gX⟩, by omega, by go_num, rfl, hide ⟨O6.out, hset.out.1, hset.out.2.1, hset.out.2.2.1, hset.out.2.2.2.1, HG6.out, hs5.out.bel.grown HH6.out hs5.out.bel.size (fun k hk => by cases hk; exact hs5.out.gw), hs5.out.gG, hs5.out.gw, hset.out.2.2.2.2, by rw [hsc.out, if_neg hK]⟩⟩
              case measure => simp [intOf]; omega
      · obtain rfl : i = n := by omega
        have hj2 := hsl.out.le
        have HK : Hid (kept = ofL ls.flatten) := hide (by
          rw [← HS.out, ← List.take_length (l := d), HN.out, hsl.out.st])
        have HI := hide (show Is wr (some ⟨g, 0, none⟩) j cv' kept by have := is_take hsl.out.is (j := j) (by omega); rw [hsl.out.kp] at this; exact this)
        have HB := hide hsl.out.bel
        have HJ := hide hsl.out.jl
        go_wp2_with fail
        refine (clip_any (some ⟨g, 0, none⟩) j cv' _ (by omega) (fun h => by cases h) hcv.1).mono ?_
        rintro e w3 ⟨rfl, hw3⟩
        rw [hw3]
        go_wp2
        go_ret
        unfold Ans
        rw [← HK.out, HJ.out]
        exact ⟨_, j, rfl, ⟨HI.out.1, ⟨Nat.le_refl _, fun h => by cases h⟩, HI.out.2.2.1, HI.out.2.2.2⟩, by omega, HB.out⟩

end Go.Proofs.Ytkkcchklefcljaa.Clep
