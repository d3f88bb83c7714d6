/- The document's own Disk: Create (a walk over the translated program). For any such Disk and any name. -/
import Derived.Test.YtfogfpanfhmijaaGreatYq
import Derived.Deep.AppendLies
namespace Go.Proofs.YtfogfpanfhmijaaGreat.Clep
open Go.RowKit Go.Maps
set_option linter.unusedVariables false

def crB (b : Int × RSt) (s : ByteArray) : Int × RSt := if b.1 ≠ 0 then b else if (nmT b.2 s).isSome then (12, b.2) else if 64 ≤ b.2.now.length then (65, b.2) else
  (0, { b.2 with files := b.2.files ++ [(⟨#[]⟩, 0)], now := withF b.2.now s b.2.files.length, ops := b.2.ops ++ [⟨0, b.2.files.length, s, ⟨#[]⟩⟩] })
def crT (T : RSt) (s : ByteArray) : Int × RSt := if okName s then crB (callT T) s else (10, T)
theorem cr_ok1 {T : RSt} (h : ROk T) (r : Room T) : ROk { T with files := T.files ++ [(⟨#[]⟩, 0)] } :=
  ⟨h.cal, by have := r.nfl; simp; omega, h.nop, h.nnw, h.nls, fun x hx => by have := h.fnw x hx; simp; omega, fun x hx => by have := h.fls x hx; simp; omega, fun o ho => ⟨(h.fop o ho).1, by have := (h.fop o ho).2.1; simp; omega, fun e => by have := (h.fop o ho).2.2 e; simp; omega⟩, fun x hx => by
    rcases List.mem_append.1 hx with hx | hx
    · exact h.siz x hx
    · simp only [List.mem_singleton] at hx
      subst hx
      exact ⟨Nat.zero_le _, Nat.le_refl _⟩, h.lft, h.fai, h.quo⟩
theorem cr_ok2 {T : RSt} {s : ByteArray} (h : ROk T) (r : Room T) : ROk { T with files := T.files ++ [(⟨#[]⟩, 0)], now := withF T.now s T.files.length } :=
  now_ok (cr_ok1 h r) (by have := withF_len T.now s T.files.length; have := r.nnw; show _ ≤ T.calls; omega) (fun x hx => by
    rcases withF_mem hx with rfl | hx
    · simp
      omega
    · have := h.fnw x hx
      simp
      omega)
theorem cr_ok3 {T : RSt} {s : ByteArray} (h : ROk T) (r : Room T) : ROk { T with files := T.files ++ [(⟨#[]⟩, 0)], now := withF T.now s T.files.length, ops := T.ops ++ [⟨0, T.files.length, s, ⟨#[]⟩⟩] } := by
  have k := cr_ok2 (s := s) h r
  refine ⟨k.cal, k.nfl, by have := r.nls; simp; omega, k.nnw, by have := r.nls; simp; omega, k.fnw, k.fls, fun o ho => ?_, k.siz, k.lft, k.fai, k.quo⟩
  rcases List.mem_append.1 ho with ho | ho
  · exact k.fop o ho
  · simp only [List.mem_singleton] at ho
    subst ho
    exact ⟨Nat.zero_le _, by simp; omega, fun _ => by simp⟩
theorem grown_undrew {w w' : World} {row : Option Nat} (h : w.drew.grownBy w' row) : w.grownBy w' row := ⟨h.os, h.tape, h.output, h.size, h.block⟩

set_option maxHeartbeats 4000000 in
set_option maxRecDepth 8000 in
theorem crT_any (Q : Nat) (T : RSt) (P : Nat → Prop) (fv nv lv ov : Value) (s : ByteArray) (w : World) (h : RefIs w Q T P fv nv lv ov) (hs : s.size ≤ 100) (hc : T.calls < 1000) (hP : ∀ i, w.heap.size ≤ i → P i) :
    Calls Tryz.prog 18 #[.pointer (some ⟨Q, 0, none⟩), .string s] w fun e w' => e = .returned (.int .i64 (crT T s).1) ∧ RIs w' Q (crT T s).2 P ∧ Chg P w w' := by
  have O := hide (refok_any s w hs)
  cases ho : okName s with
  | false =>
    have E := hide (show crT T s = (10, T) by unfold crT; rw [ho]; rfl)
    rw [ho] at O
    have H := hide h
    clear h
    go_enter Tryz.func18, Tryz.ntmps18
    go_wp2_with fail
    refine O.out.mono ?_
    rintro e w1 ⟨rfl, e2⟩
    subst e2
    go_wp2
    go_ret
    rw [E.out]
    exact ⟨rfl, ⟨_, _, _, _, H.out⟩, Chg.refl _ _⟩
  | true =>
    have E := hide (show crT T s = crB (callT T) s by unfold crT; rw [ho]; rfl)
    rw [ho] at O
    have C := hide (callT_any Q T P fv nv lv ov w h hc)
    have RM := hide (callT_room h.ok)
    have pQ := hide h.pQ
    have HP := hide hP
    clear h hP
    generalize callT T = b at *
    obtain ⟨er, T1⟩ := b
    by_cases he : er = 0
    · subst he
      go_enter Tryz.func18, Tryz.ntmps18
      go_wp2_with fail
      refine O.out.mono ?_
      rintro e w1 ⟨rfl, e2⟩
      subst e2
      go_wp2_with fail
      refine C.out.mono ?_
      rintro e w1' ⟨rfl, h1, ho1⟩
      have H := hide h1
      have HO1 := hide (Chg.of_only ho1 pQ.out)
      have HP1 := hide (show ∀ i, w1'.heap.size ≤ i → P i from fun i hi => HP.out i (by rw [← ho1.size]; exact hi))
      obtain ⟨c0, c1, c2, c3, c4, c8, fr⟩ := h1.cells
      have hlen : T1.now.length ≤ 1000 := by have := h1.ok.nnw; have := h1.ok.cal; omega
      have hole : T1.ops.length ≤ 1000 := by have := h1.ok.nop; have := h1.ok.cal; omega
      have hfle : T1.files.length ≤ 1000 := by have := h1.ok.nfl; have := h1.ok.cal; omega
      obtain ⟨an, cn, e1, n1, n2, n3⟩ := own_nm h1.nw
      have A := hide (at_any nv T1.now s w1' (own_nm h1.nw))
      subst e1
      clear n3 ho1 C O c0 c3 c8
      rcases atF_cases s T1.now 0 with hA | ⟨k, hk, hA⟩
      · have hN := nmT_none hA
        rw [hA] at A
        by_cases h64 : 64 ≤ T1.now.length
        · have E2 := hide (show crB (0, T1) s = (65, T1) by unfold crB; simp [hN, h64])
          have h64' : (64 : Int) ≤ (T1.now.length : Int) := by omega
          clear h1 c1 c4
          go_wp2_with fail
          refine A.out.mono ?_
          rintro e w2 ⟨rfl, e2⟩
          subst e2
          go_wp2
          go_ret
          rw [E.out, E2.out]
          exact ⟨rfl, ⟨_, _, _, _, H.out⟩, HO1.out⟩
        · have E2 := hide (show crB (0, T1) s = (0, { T1 with files := T1.files ++ [(⟨#[]⟩, 0)], now := withF T1.now s T1.files.length, ops := T1.ops ++ [⟨0, T1.files.length, s, ⟨#[]⟩⟩] }) by unfold crB; simp [hN, h64])
          have h64' : ¬ ((64 : Int) ≤ (T1.now.length : Int)) := by omega
          obtain ⟨foA, fcA, ef, _⟩ := row_slice h1.fs
          subst ef
          obtain ⟨i1, ji, jz0, jz1, jz2⟩ := info_parts infoF
          have OK1 := hide (cr_ok1 H.out.ok RM.out)
          have GF := hide (fun (w5 : World) (v5 : Value) => (H.out).growF (w5 := w5) (v5 := v5) (o := (⟨#[]⟩, 0)) HP1.out (.cells #[.string ⟨#[]⟩, .int .i64 0] 95))
          have HOO := hide ((H.out.fs).alloc (.cells #[.string ⟨#[]⟩, .int .i64 0] 95))
          have HNN := hide (two_new w1' (.string ⟨#[]⟩) (.int .i64 0) 95)
          clear h1
          go_wp2_with fail
          refine A.out.mono ?_
          rintro e w2 ⟨rfl, e2⟩
          subst e2
          go_wp2_with (first
            | (at_builtin; refine wpList_append_own_at _ rfl _ _ 52 rfl 0 95 i1 _ 2 24 Tryz.underlying52 ji jz0 jz1 jz2 rfl (by decide) _ T1.files.length _ rfl HOO.out ⟨w2.heap.size, 0, none⟩ 1 1 [.string ⟨#[]⟩, .int .i64 0] rfl rfl HNN.out (by simp [Value.oneCell']) (by unfold maxLen; omega) (by omega) (Nat.zero_le _) ?_; intro v5 w5 o5 g5 _ l5
               obtain ⟨⟨z1, z2⟩, z3, z4⟩ := GF.out w5 v5 g5 o5 l5 OK1.out
               obtain ⟨so5, sc5, e5, _⟩ := row_slice o5
               subst e5
               have Z3 := hide z3
               have Z4 := hide z4
               clear z3 z4 o5 g5 l5)
            | fail)
          clear GF HOO HNN A z1 z2 c1 c2 c4 fr
          generalize w5.setCell ⟨Q, 1, none⟩ (.slice so5 (T1.files.length + 1) sc5) = w6 at *
          obtain ⟨p0, p1, p2, p3, p4, p8, pr⟩ := Z3.out.cells
          have hQ6 := Z3.out.lt
          have hw1 : IntKind.i64.wrap (T1.files.length : Int) = (T1.files.length : Int) := by
            simp [IntKind.wrap, IntKind.bits, IntKind.signed]
            omega
          have WT := hide (with_any _ T1.now s T1.files.length w6.drew (World.ownsRow.drew Z3.out.nw) hlen)
          have KQ := hide (show ∀ w7, Below w6.drew.heap.size w6.drew w7 → w7.cell? ⟨Q, 2, none⟩ = some (.slice an T1.now.length cn) ∧ w7.frozen? ⟨Q, 2, none⟩ = false from fun w7 hb =>
            ⟨(hb.cell (p := ⟨Q, 2, none⟩) hQ6).trans p2, (hb.frozen (p := ⟨Q, 2, none⟩) hQ6).trans (pr 2)⟩)
          have fr6 := pr 2
          clear p0 p3 p4 p8
          go_wp2_with fail
          go_region_with (go_at_call 53; refine WT.out.mono ?_; rintro e w7 ⟨v7, rfl, o7, b7⟩; obtain ⟨so7, sc7, e7, _⟩ := row_slice o7; subst e7; obtain ⟨y1, y2⟩ := KQ.out w7 b7)
          all_goals
            have hs6 : w2.heap.size ≤ w6.heap.size := Z4.out.size
            have HP6 : ∀ i, w6.heap.size ≤ i → P i := fun i hi => HP1.out i (Nat.le_trans hs6 hi)
            have R7 := Z3.out.keep (w' := w7) (P' := P) (fun i _ hi => b7.block i hi) (fun i hp _ => hp)
            have far := Z3.out.far HP6 o7
            have S7 := R7.setNow (ownN_base o7 (Nat.zero_le _)) far (cr_ok2 (s := s) H.out.ok RM.out)
            have HC7 := hide (HO1.out.trans (Z4.out.trans ((Chg.of_below (P := P) (Below.refl w6.heap.size w6).drew).trans ((Chg.of_below (P := P) b7).trans S7.2))))
            have S8 := hide S7.1
            have hsz8 : (w7.setCell ⟨Q, 2, none⟩ (.slice so7 (withF T1.now s ↑T1.files.length).length sc7)).heap.size = w7.heap.size := by simp
            have HP8 := hide (show ∀ i, (w7.setCell ⟨Q, 2, none⟩ (.slice so7 (withF T1.now s ↑T1.files.length).length sc7)).heap.size ≤ i → P i from fun i hi => HP6 i (Nat.le_trans b7.size (by rw [hsz8] at hi; exact hi)))
            have HX7 := hide (show Chg P w1 (w7.setCell ⟨Q, 2, none⟩ (.slice so7 (withF T1.now s ↑T1.files.length).length sc7)) from HC7.out)
            clear R7 far S7 HP6 hs6 o7 b7 y1 y2 WT KQ p1 p2 pr fr6 hsz8 HC7
            generalize w7.setCell ⟨Q, 2, none⟩ (.slice so7 (withF T1.now s ↑T1.files.length).length sc7) = w8 at *
            obtain ⟨p0, p1, p2, p3, p4, p8, pr⟩ := S8.out.cells
            obtain ⟨ooA, ocA, eo, _⟩ := row_slice S8.out.os
            subst eo
            obtain ⟨i0, hi, hz0, hz1, hz2⟩ := info_parts infoO
            have hQ8 := S8.out.lt
            have OK3 := hide (cr_ok3 (s := s) H.out.ok RM.out)
            have GO := hide (fun (w9 : World) (v9 : Value) => S8.out.growO (w5 := w9) (v5 := v9) (o := ⟨0, T1.files.length, s, ⟨#[]⟩⟩) HP8.out (.cells #[.int .i64 0, .int .i64 (T1.files.length : Nat), .string s, .string ⟨#[]⟩] 98))
            have HOO := hide (World.ownsRow.drew ((S8.out.os).alloc (.cells #[.int .i64 0, .int .i64 (T1.files.length : Nat), .string s, .string ⟨#[]⟩] 98)))
            have HNN := hide (four_new w8 (.int .i64 0) (.int .i64 (T1.files.length : Nat)) (.string s) (.string ⟨#[]⟩) 98)
            have a4 : (w8.alloc (.cells #[.int .i64 0, .int .i64 (T1.files.length : Nat), .string s, .string ⟨#[]⟩] 98)).cell? ⟨Q, 4, none⟩ = some (.slice ooA T1.ops.length ocA) := by
              rw [World.cell?_of_block (w := w8) (Below.heap_alloc w8 _ Q (by omega))]; exact p4
            have a1 : (w8.alloc (.cells #[.int .i64 0, .int .i64 (T1.files.length : Nat), .string s, .string ⟨#[]⟩] 98)).cell? ⟨Q, 1, none⟩ = some (.slice so5 (T1.files.length + 1) sc5) := by
              rw [World.cell?_of_block (w := w8) (Below.heap_alloc w8 _ Q (by omega))]; exact p1
            clear p0 p2 p3 p8 pr
            go_wp2_with fail
            go_region_law (refine step_append_lies _ rfl (.tmp 58) (.tmp 67) 54 rfl 0 98 i0 _ 4 48 Tryz.underlying54 hi hz0 hz1 hz2 rfl (by decide) (.slice ooA T1.ops.length ocA) T1.ops.length _ (by simp [Act.eval]) HOO.out ⟨w8.heap.size, 0, none⟩ 1 1 [.int .i64 0, .int .i64 (T1.files.length : Nat), .string s, .string ⟨#[]⟩] (by simp [Act.eval]) rfl HNN.out (by simp [Value.oneCell']) (by decide) (by unfold maxLen; omega) (by omega) (Nat.zero_le _) (w8.heap.size + 1) (by simp) ?_; intro g9 cap9 w9 o9 gr9 l9 t9; obtain ⟨⟨x1, x2⟩, x3, x4⟩ := GO.out w9 _ (grown_undrew gr9) o9 (l9.elim (fun e => .inl e.symm) (fun e => .inr (by rw [e]; simp [Value.ownBlock]))) OK3.out; have X3 := hide x3; have X4 := hide x4; clear x3 x4 o9 gr9 l9 t9)
            all_goals
              go_wp2
              go_ret
              rw [E.out, E2.out]
              exact ⟨rfl, ⟨_, _, _, _, X3.out⟩, HX7.out.trans X4.out⟩
      · rw [Nat.zero_add] at hA
        obtain ⟨gn, cn', gf, cf, j, d, l, e1, e2, b1, b2, b3, b4, hj, hx, hjl, d1, d2, d3, d4, d5, d6, d7⟩ := H.out.look hk
        have E2 := hide (show crB (0, T1) s = (12, T1) by unfold crB; simp [nmT_some hA hk hj])
        rw [hA] at A
        clear hA hj hx d1 d2 d3 d4 d5 d6 d7 h1 e1 e2
        go_wp2_with fail
        refine A.out.mono ?_
        rintro e w2 ⟨rfl, e2⟩
        subst e2
        go_wp2
        go_ret
        rw [E.out, E2.out]
        exact ⟨rfl, ⟨_, _, _, _, H.out⟩, HO1.out⟩
    · have he' : (er == 0) = false := by simp [he]
      have E2 := hide (show crB (er, T1) s = (er, T1) by unfold crB; simp [he])
      go_enter Tryz.func18, Tryz.ntmps18
      go_wp2_with fail
      refine O.out.mono ?_
      rintro e w1 ⟨rfl, e2⟩
      subst e2
      go_wp2_with fail
      refine C.out.mono ?_
      rintro e w1 ⟨rfl, h1, ho1⟩
      have H := hide h1
      have HO1 := hide (Chg.of_only ho1 pQ.out)
      clear h1 ho1
      go_wp2
      go_ret
      rw [E.out, E2.out]
      exact ⟨rfl, ⟨_, _, _, _, H.out⟩, HO1.out⟩

end Go.Proofs.YtfogfpanfhmijaaGreat.Clep
