/- The document's own Disk: Rename (a walk over the translated program). For any such Disk and any names. -/
import Derived.Test.YtfogfpanfhmijaaGreatYq
namespace Go.Proofs.YtfogfpanfhmijaaGreat.Clep
open Go.RowKit Go.Maps
set_option linter.unusedVariables false

def rnB (b : Int × RSt) (s t : ByteArray) : Int × RSt := if b.1 ≠ 0 then b else match nmT b.2 s with
  | none => (11, b.2)
  | some j => if s = t then (0, b.2) else (0, { b.2 with now := woF (withF b.2.now t (j : Int)) s, ops := b.2.ops ++ [⟨1, 0, s, t⟩] })
def rnT (T : RSt) (s t : ByteArray) : Int × RSt := if okName s && okName t then rnB (callT T) s t else (10, T)
theorem rn_ok1 {T : RSt} {s t : ByteArray} {j : Nat} (h : ROk T) (r : Room T) (hj : j < T.files.length) : ROk { T with now := woF (withF T.now t (j : Int)) s } :=
  now_ok h (by have := withF_len T.now t (j : Int); have := woF_len (withF T.now t (j : Int)) s; have := r.nnw; omega) (fun x hx => by
    rcases withF_mem (woF_mem hx) with rfl | hx
    · simp
      omega
    · exact h.fnw x hx)
theorem rn_ok2 {T : RSt} {s t : ByteArray} {j : Nat} (h : ROk T) (r : Room T) (hj : j < T.files.length) : ROk { T with now := woF (withF T.now t (j : Int)) s, ops := T.ops ++ [⟨1, 0, s, t⟩] } := by
  have k := rn_ok1 (s := s) (t := t) h r hj
  refine ⟨k.cal, k.nfl, by have := r.nls; simp; omega, k.nnw, by have := r.nls; simp; omega, k.fnw, k.fls, fun o ho => ?_, k.siz, k.lft, k.fai, k.quo⟩
  rcases List.mem_append.1 ho with ho | ho
  · exact k.fop o ho
  · simp only [List.mem_singleton] at ho
    subst ho
    exact ⟨by show 1 ≤ 2; omega, Nat.succ_pos _, fun e => by cases e⟩

set_option maxHeartbeats 4000000 in
set_option maxRecDepth 8000 in
theorem rnT_any (Q : Nat) (T : RSt) (P : Nat → Prop) (fv nv lv ov : Value) (s t : ByteArray) (w : World) (h : RefIs w Q T P fv nv lv ov) (hs : s.size ≤ 100) (ht : t.size ≤ 100) (hc : T.calls < 1000) (hP : ∀ i, w.heap.size ≤ i → P i) :
    Calls Tryz.prog 24 #[.pointer (some ⟨Q, 0, none⟩), .string s, .string t] w fun e w' => e = .returned (.int .i64 (rnT T s t).1) ∧ RIs w' Q (rnT T s t).2 P ∧ Chg P w w' := by
  have O := hide (refok_any s w hs)
  have O' := hide (refok_any t w ht)
  cases ho : okName s with
  | false =>
    have E := hide (show rnT T s t = (10, T) by unfold rnT; rw [ho]; rfl)
    rw [ho] at O
    have H := hide h
    clear h
    go_enter Tryz.func24, Tryz.ntmps24
    go_wp2_with fail
    refine O.out.mono ?_
    rintro e w1 ⟨rfl, e2⟩
    subst e2
    go_wp2
    go_ret
    rw [E.out]
    exact ⟨rfl, ⟨_, _, _, _, H.out⟩, Chg.refl _ _⟩
  | true =>
    rw [ho] at O
    cases hot : okName t with
    | false =>
      have E := hide (show rnT T s t = (10, T) by unfold rnT; rw [ho, hot]; rfl)
      rw [hot] at O'
      have H := hide h
      clear h
      go_enter Tryz.func24, Tryz.ntmps24
      go_wp2_with fail
      refine O.out.mono ?_
      rintro e w1 ⟨rfl, e2⟩
      subst e2
      go_wp2_with fail
      refine O'.out.mono ?_
      rintro e w1 ⟨rfl, e2⟩
      subst e2
      go_wp2
      go_ret
      rw [E.out]
      exact ⟨rfl, ⟨_, _, _, _, H.out⟩, Chg.refl _ _⟩
    | true =>
      have E := hide (show rnT T s t = rnB (callT T) s t by unfold rnT; rw [ho, hot]; rfl)
      rw [hot] at O'
      have C := hide (callT_any Q T P fv nv lv ov w h hc)
      have RM := hide (callT_room h.ok)
      have pQ := hide h.pQ
      have HP := hide hP
      clear h hP
      generalize callT T = b at *
      obtain ⟨er, T1⟩ := b
      by_cases he : er = 0
      · subst he
        go_enter Tryz.func24, Tryz.ntmps24
        go_wp2_with fail
        refine O.out.mono ?_
        rintro e w1 ⟨rfl, e2⟩
        subst e2
        go_wp2_with fail
        refine O'.out.mono ?_
        rintro e w1 ⟨rfl, e2⟩
        subst e2
        go_wp2_with fail
        refine C.out.mono ?_
        rintro e w1' ⟨rfl, h1, ho1⟩
        have H := hide h1
        have HO1 := hide (Chg.of_only ho1 pQ.out)
        have HP1 := hide (show ∀ i, w1'.heap.size ≤ i → P i from fun i hi => HP.out i (by rw [← ho1.size]; exact hi))
        obtain ⟨c0, c1, c2, c3, c4, c8, fr⟩ := h1.cells
        have hlen : T1.now.length ≤ 1000 := by have := h1.ok.nnw; have := h1.ok.cal; omega
        have hole : T1.ops.length ≤ 1000 := by have := h1.ok.nop; have := h1.ok.cal; omega
        obtain ⟨an, cn, e1, n1, n2, n3⟩ := own_nm h1.nw
        have A := hide (at_any nv T1.now s w1' (own_nm h1.nw))
        subst e1
        clear n3 ho1 C O O' c0 c1 c3 c8
        rcases atF_cases s T1.now 0 with hA | ⟨k, hk, hA⟩
        · have hN := nmT_none hA
          rw [hA] at A
          have E2 := hide (show rnB (0, T1) s t = (11, T1) by unfold rnB; simp [hN])
          clear h1 c4
          go_wp2_with fail
          refine A.out.mono ?_
          rintro e w2 ⟨rfl, e2⟩
          subst e2
          go_wp2
          go_ret
          rw [E.out, E2.out]
          exact ⟨rfl, ⟨_, _, _, _, H.out⟩, HO1.out⟩
        · rw [Nat.zero_add] at hA
          obtain ⟨gn, cn', gf, cf, j, d, l, e1, e2, b1, b2, b3, b4, hj, hx, hjl, d1, d2, d3, d4, d5, d6, d7⟩ := H.out.look hk
          cases e1
          have E2 := hide (show rnB (0, T1) s t = (if s = t then (0, T1) else (0, { T1 with now := woF (withF T1.now t (j : Int)) s, ops := T1.ops ++ [⟨1, 0, s, t⟩] })) by unfold rnB; simp [nmT_some hA hk hj])
          rw [hA] at A
          clear hA hj hx d2 d3 d4 d5 d6 d7 e2 h1
          by_cases hst : s = t
          · subst hst
            rw [if_pos rfl] at E2
            go_wp2_with fail
            refine A.out.mono ?_
            rintro e w2 ⟨rfl, e2⟩
            subst e2
            go_wp2
            go_ret
            rw [E.out, E2.out]
            exact ⟨rfl, ⟨_, _, _, _, H.out⟩, HO1.out⟩
          · rw [if_neg hst] at E2
            have hne := text_ne hst
            have hQ2 := H.out.lt
            go_wp2_with fail
            refine A.out.mono ?_
            rintro e w2 ⟨rfl, e2⟩
            subst e2
            have WT := hide (with_any _ T1.now t j w2.drew (World.ownsRow.drew H.out.nw) hlen)
            have KQ := hide (show ∀ w7, Below w2.drew.heap.size w2.drew w7 → w7.cell? ⟨Q, 2, none⟩ = some (.slice (some ⟨gn, 0, none⟩) T1.now.length cn) ∧ w7.frozen? ⟨Q, 2, none⟩ = false from fun w7 hb =>
              ⟨(hb.cell (p := ⟨Q, 2, none⟩) hQ2).trans c2, (hb.frozen (p := ⟨Q, 2, none⟩) hQ2).trans (fr 2)⟩)
            have hwl := withF_len T1.now t (j : Int)
            have WL := hide (show (withF T1.now t (j : Int)).length ≤ 2000 by omega)
            clear hwl
            go_wp2_with fail
            go_region_with (first
              | (go_at_call 53; refine WT.out.mono ?_; rintro e w6 ⟨v6, rfl, o6, b6⟩)
              | (go_at_call 55; refine (without_any w2.drew.heap.size v6 _ s w6 o6 b6.size WL.out).mono ?_; rintro e w7 ⟨v7, rfl, o7, b7'⟩; have b7 := b6.trans (b7'.mono b6.size); obtain ⟨so7, sc7, e7, _⟩ := row_slice o7; subst e7; obtain ⟨y1, y2⟩ := KQ.out w7 b7))
            all_goals
              have HP6 : ∀ i, w2.heap.size ≤ i → P i := HP1.out
              have R7 := H.out.keep (w' := w7) (P' := P) (fun i _ hi => b7.block i hi) (fun i hp _ => hp)
              have far := H.out.far HP6 o7
              have S7 := R7.setNow (ownN_base o7 (Nat.zero_le _)) far (rn_ok1 H.out.ok RM.out hjl)
              have S8 := hide S7.1
              have hsz8 : (w7.setCell ⟨Q, 2, none⟩ (.slice so7 (woF (withF T1.now t ↑j) s).length sc7)).heap.size = w7.heap.size := by simp
              have HP8 := hide (show ∀ i, (w7.setCell ⟨Q, 2, none⟩ (.slice so7 (woF (withF T1.now t ↑j) s).length sc7)).heap.size ≤ i → P i from fun i hi => HP6 i (Nat.le_trans b7.size (by rw [hsz8] at hi; exact hi)))
              have HX7 := hide (show Chg P w1 (w7.setCell ⟨Q, 2, none⟩ (.slice so7 (woF (withF T1.now t ↑j) s).length sc7)) from HO1.out.trans ((Chg.of_below (P := P) (Below.refl w2.heap.size w2).drew).trans ((Chg.of_below (P := P) b7).trans S7.2)))
              clear R7 far S7 HP6 o7 b7 b7' b6 o6 y1 y2 WT KQ hsz8 c2 c4 fr d1
              generalize w7.setCell ⟨Q, 2, none⟩ (.slice so7 (woF (withF T1.now t ↑j) s).length sc7) = w8 at *
              obtain ⟨p0, p1, p2, p3, p4, p8, pr⟩ := S8.out.cells
              obtain ⟨ooA, ocA, eo, _⟩ := row_slice S8.out.os
              subst eo
              obtain ⟨i0, hi, hz0, hz1, hz2⟩ := info_parts infoO
              have OK3 := hide (rn_ok2 (s := s) (t := t) H.out.ok RM.out hjl)
              have GO := hide (fun (w9 : World) (v9 : Value) => S8.out.growO (w5 := w9) (v5 := v9) (o := ⟨1, 0, s, t⟩) HP8.out (.cells #[.int .i64 1, .int .i64 0, .string s, .string t] 98))
              have HOO := hide ((S8.out.os).alloc (.cells #[.int .i64 1, .int .i64 0, .string s, .string t] 98))
              have HNN := hide (four_new w8 (.int .i64 1) (.int .i64 0) (.string s) (.string t) 98)
              clear p0 p1 p2 p3 p8
              go_wp2_with (first
                | (at_builtin; refine wpList_append_own_at _ rfl _ _ 54 rfl 0 98 i0 _ 4 48 Tryz.underlying54 hi hz0 hz1 hz2 rfl (by decide) _ T1.ops.length _ rfl HOO.out ⟨w8.heap.size, 0, none⟩ 1 1 [.int .i64 1, .int .i64 0, .string s, .string t] rfl rfl HNN.out (by simp [Value.oneCell']) (by unfold maxLen; omega) (by omega) (Nat.zero_le _) ?_; intro v5 w5 o5 g5 _ l5
                   obtain ⟨⟨z1, z2⟩, z3, z4⟩ := GO.out w5 v5 g5 o5 l5 OK3.out
                   obtain ⟨so5, sc5, e5, _⟩ := row_slice o5
                   subst e5
                   have Z3 := hide z3
                   have Z4 := hide z4
                   clear z3 z4 o5 g5 l5)
                | fail)
              go_ret
              rw [E.out, E2.out]
              exact ⟨rfl, ⟨_, _, _, _, Z3.out⟩, HX7.out.trans Z4.out⟩
      · have he' : (er == 0) = false := by simp [he]
        have E2 := hide (show rnB (er, T1) s t = (er, T1) by unfold rnB; simp [he])
        go_enter Tryz.func24, Tryz.ntmps24
        go_wp2_with fail
        refine O.out.mono ?_
        rintro e w1 ⟨rfl, e2⟩
        subst e2
        go_wp2_with fail
        refine O'.out.mono ?_
        rintro e w1 ⟨rfl, e2⟩
        subst e2
        go_wp2_with fail
        refine C.out.mono ?_
        rintro e w1 ⟨rfl, h1, ho1⟩
        have H := hide h1
        have HO1 := hide (Chg.of_only ho1 pQ.out)
        clear h1 ho1
        go_wp2
        go_ret
        rw [E.out, E2.out]
        exact ⟨rfl, ⟨_, _, _, _, H.out⟩, HO1.out⟩

end Go.Proofs.YtfogfpanfhmijaaGreat.Clep
