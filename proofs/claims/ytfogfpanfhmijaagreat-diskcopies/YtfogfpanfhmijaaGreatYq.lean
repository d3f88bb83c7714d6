/- The document's own Disk: Sync and Read (walks over the translated program). For any such Disk and any name. -/
import Derived.Test.YtfogfpanfhmijaaGreatYp
import Derived.Test.YtfogfpanfhmijaaGreatYn
import Derived.Deep.RegionHeldLaw
namespace Go.Proofs.YtfogfpanfhmijaaGreat.Clep
open Go.RowKit Go.Maps
set_option linter.unusedVariables false

theorem flC_len : ∀ l : List (ByteArray × Nat), (l.flatMap flC).length = l.length * 2
  | [] => rfl
  | x :: r => by rw [List.flatMap_cons, List.length_append, flC_len r]; simp [flC]; omega
theorem flC_set1 : ∀ (l : List (ByteArray × Nat)) (j : Nat) (d : ByteArray) (m n : Nat), l[j]? = some (d, m) → (l.flatMap flC).set (j * 2 + 1) (.int .i64 n) = (l.set j (d, n)).flatMap flC
  | [], j, d, m, n, h => by simp at h
  | y :: r, 0, d, m, n, h => by
    simp only [List.getElem?_cons_zero, Option.some.injEq] at h
    subst h
    simp [flC]
  | y :: r, j + 1, d, m, n, h => by
    have h' : r[j]? = some (d, m) := by simpa using h
    have := flC_set1 r j d m n h'
    rw [List.flatMap_cons, List.set_cons_succ, List.flatMap_cons, ← this, show (j + 1) * 2 + 1 = j * 2 + 1 + 1 + 1 by omega]
    simp [flC]
theorem flC_set0 : ∀ (l : List (ByteArray × Nat)) (j : Nat) (d e : ByteArray) (m : Nat), l[j]? = some (d, m) → (l.flatMap flC).set (j * 2) (.string e) = (l.set j (e, m)).flatMap flC
  | [], j, d, e, m, h => by simp at h
  | y :: r, 0, d, e, m, h => by
    simp only [List.getElem?_cons_zero, Option.some.injEq] at h
    subst h
    simp [flC]
  | y :: r, j + 1, d, e, m, h => by
    have h' : r[j]? = some (d, m) := by simpa using h
    have := flC_set0 r j d e m h'
    rw [List.flatMap_cons, List.set_cons_succ, List.flatMap_cons, ← this, show (j + 1) * 2 = j * 2 + 1 + 1 by omega]
    simp [flC]
/-- A cell of a file's is set: what the Disk holds then. -/
theorem RefIs.file {w : World} {Q : Nat} {T : RSt} {P : Nat → Prop} {nv lv ov : Value} {gf cf i : Nat} {u : Value} {fs' : List (ByteArray × Nat)} (h : RefIs w Q T P (.slice (some ⟨gf, 0, none⟩) T.files.length cf) nv lv ov)
    (e : (T.files.flatMap flC).set i u = fs'.flatMap flC) (el : fs'.length = T.files.length) (ok : ROk { T with files := fs' }) :
    RefIs (w.setCell ⟨gf, i, none⟩ u) Q { T with files := fs' } P (.slice (some ⟨gf, 0, none⟩) T.files.length cf) nv lv ov ∧ Chg P w (w.setCell ⟨gf, i, none⟩ u) := by
  have hb : ∀ k, k ≠ gf → (w.setCell ⟨gf, i, none⟩ u).heap[k]? = w.heap[k]? := fun k hk => heap_setCell_other w ⟨gf, i, none⟩ k u hk
  refine ⟨⟨?_, ?_, own_block h.nw (fun g hg => hb g (fun x => (h.pn g hg).2.2.1 (by rw [x]; rfl))), own_block h.ls (fun g hg => hb g (fun x => (h.pl g hg).2.2.1 (by rw [x]; rfl))), own_block h.os (fun g hg => hb g (fun x => (h.po g hg).2.2 (by rw [x]; rfl))), h.pQ, h.pf, h.pn, h.pl, h.po, ok⟩, ?_⟩
  · have := h.row
    unfold RB at this ⊢
    rw [hb Q (fun x => (h.pf gf rfl).2 x.symm)]
    exact this
  · have := (World.ownsRow.stored h.fs i u).1
    unfold OwnF
    rw [← e]
    show (w.setCell ⟨gf, i, none⟩ u).ownsRow 0 95 2 (.slice (some ⟨gf, 0, none⟩) T.files.length cf) fs'.length _
    rw [el]
    exact this
  · exact ⟨rfl, rfl, rfl, by simp, fun k hk hn => hb k (fun x => hn (x ▸ (h.pf gf rfl).1))⟩
/-- Where a name's file is. -/
def nmT (T : RSt) (s : ByteArray) : Option Nat := if atF T.now s 0 < 0 then none else match T.now[(atF T.now s 0).toNat]? with | some x => some x.2.toNat | none => none
theorem nmT_none {T : RSt} {s : ByteArray} (h : atF T.now s 0 = -1) : nmT T s = none := by unfold nmT; rw [h]; rfl
theorem nmT_some {T : RSt} {s : ByteArray} {k j : Nat} (h : atF T.now s 0 = (k : Int)) (hk : k < T.now.length) (hj : (T.now[k]'hk).2 = (j : Int)) : nmT T s = some j := by
  unfold nmT
  rw [h, if_neg (by omega), Int.toNat_natCast, List.getElem?_eq_getElem hk]
  show some (T.now[k]'hk).2.toNat = some j
  rw [hj]
  rfl
def datT (T : RSt) (j : Nat) : ByteArray × Nat := match T.files[j]? with | some x => x | none => (⟨#[]⟩, 0)
def readT (T : RSt) (s : ByteArray) : ByteArray × Int :=
  if okName s then (if T.dead then (⟨#[]⟩, 50) else match nmT T s with | none => (⟨#[]⟩, 11) | some j => ((datT T j).1, 0)) else (⟨#[]⟩, 10)
def syncB (b : Int × RSt) (s : ByteArray) : Int × RSt := if b.1 ≠ 0 then b else match nmT b.2 s with | none => (11, b.2) | some j => (0, { b.2 with files := b.2.files.set j ((datT b.2 j).1, (datT b.2 j).1.size) })
def syncT (T : RSt) (s : ByteArray) : Int × RSt := if okName s then syncB (callT T) s else (10, T)
theorem set_ok {T : RSt} {j : Nat} {d e : ByteArray} {l m : Nat} (h : ROk T) (hx : T.files[j]? = some (d, l)) (he : e.size ≤ 250000) (hm : m ≤ e.size) : ROk { T with files := T.files.set j (e, m) } :=
  ⟨h.cal, by simpa using h.nfl, h.nop, h.nnw, h.nls, by simpa using h.fnw, by simpa using h.fls, by simpa using h.fop, fun x hx' => by
    rcases List.mem_or_eq_of_mem_set hx' with h1 | h1
    · exact h.siz x h1
    · subst h1
      exact ⟨he, hm⟩, h.lft, h.fai, h.quo⟩

set_option maxHeartbeats 1000000 in
set_option maxRecDepth 8000 in
theorem readT_any (Q : Nat) (T : RSt) (P : Nat → Prop) (fv nv lv ov : Value) (s : ByteArray) (w : World) (h : RefIs w Q T P fv nv lv ov) (hs : s.size ≤ 100) :
    Calls Tryz.prog 28 #[.pointer (some ⟨Q, 0, none⟩), .string s] w fun e w' => e = .returned (.tuple #[.string (readT T s).1, .int .i64 (readT T s).2]) ∧ Below w.heap.size w w' := by
  have H := hide h
  obtain ⟨c0, c1, c2, c3, c4, c8, fr⟩ := h.cells
  obtain ⟨an, cn, e1, h1, h2, h3⟩ := own_nm h.nw
  clear h3
  have A := hide (at_any nv T.now s w (own_nm h.nw))
  have O := hide (refok_any s w hs)
  subst e1
  have hlen : T.now.length ≤ 1000 := by have := h.ok.nnw; have := h.ok.cal; omega
  clear h c0 c3 c4
  cases ho : okName s with
  | false =>
    have E := hide (show readT T s = (⟨#[]⟩, 10) by unfold readT; rw [ho]; rfl)
    rw [ho] at O
    generalize atF T.now s 0 = k at *
    go_enter Tryz.func28, Tryz.ntmps28
    go_wp2_with fail
    refine A.out.mono ?_
    rintro e w1 ⟨rfl, e2⟩
    subst e2
    go_wp2_with fail
    refine O.out.mono ?_
    rintro e w1 ⟨rfl, e2⟩
    subst e2
    go_wp2
    go_ret2
    exact ⟨by rw [E.out]; rfl, Below.refl _ _⟩
  | true =>
    rw [ho] at O
    cases hd : T.dead with
    | true =>
      have E := hide (show readT T s = (⟨#[]⟩, 50) by unfold readT; rw [ho, hd]; rfl)
      rw [hd] at c8
      generalize atF T.now s 0 = k at *
      go_enter Tryz.func28, Tryz.ntmps28
      go_wp2_with fail
      refine A.out.mono ?_
      rintro e w1 ⟨rfl, e2⟩
      subst e2
      go_wp2_with fail
      refine O.out.mono ?_
      rintro e w1 ⟨rfl, e2⟩
      subst e2
      go_wp2
      go_ret2
      exact ⟨by rw [E.out]; rfl, Below.refl _ _⟩
    | false =>
      rw [hd] at c8
      rcases atF_cases s T.now 0 with hA | ⟨k, hk, hA⟩
      · have E := hide (show readT T s = (⟨#[]⟩, 11) by unfold readT; rw [ho, hd, nmT_none hA]; rfl)
        rw [hA] at A
        go_enter Tryz.func28, Tryz.ntmps28
        go_wp2_with fail
        refine A.out.mono ?_
        rintro e w1 ⟨rfl, e2⟩
        subst e2
        go_wp2_with fail
        refine O.out.mono ?_
        rintro e w1 ⟨rfl, e2⟩
        subst e2
        go_wp2
        go_ret2
        exact ⟨by rw [E.out]; rfl, Below.refl _ _⟩
      · rw [Nat.zero_add] at hA
        obtain ⟨gn, cn', gf, cf, j, d, l, e1, e2, b1, b2, b3, b4, hj, hx, hjl, d1, d2, d3, d4, d5, d6, d7⟩ := H.out.look hk
        have E := hide (show readT T s = (d, 0) by unfold readT; rw [ho, hd, nmT_some hA hk hj]; unfold datT; simp [hx])
        cases e1
        subst e2
        rw [hA] at A
        have hfl : T.files.length ≤ 1000 := by have := H.out.ok.nfl; have := H.out.ok.cal; omega
        clear hA hj hx
        go_enter Tryz.func28, Tryz.ntmps28
        go_wp2_with fail
        refine A.out.mono ?_
        rintro e w1 ⟨rfl, e2⟩
        subst e2
        go_wp2_with fail
        refine O.out.mono ?_
        rintro e w1 ⟨rfl, e2⟩
        subst e2
        go_wp2_with fail
        go_region
        go_wp2
        go_ret2
        exact ⟨by rw [E.out]; rfl, (Below.refl _ _).drew⟩

set_option maxHeartbeats 1000000 in
set_option maxRecDepth 8000 in
theorem syncT_any (Q : Nat) (T : RSt) (P : Nat → Prop) (fv nv lv ov : Value) (s : ByteArray) (w : World) (h : RefIs w Q T P fv nv lv ov) (hs : s.size ≤ 100) (hc : T.calls < 1000) :
    Calls Tryz.prog 22 #[.pointer (some ⟨Q, 0, none⟩), .string s] w fun e w' => e = .returned (.int .i64 (syncT T s).1) ∧ RIs w' Q (syncT T s).2 P ∧ Chg P w w' := by
  have O := hide (refok_any s w hs)
  cases ho : okName s with
  | false =>
    have E := hide (show syncT T s = (10, T) by unfold syncT; rw [ho]; rfl)
    rw [ho] at O
    have H := hide h
    clear h
    go_enter Tryz.func22, Tryz.ntmps22
    go_wp2_with fail
    refine O.out.mono ?_
    rintro e w1 ⟨rfl, e2⟩
    subst e2
    go_wp2
    go_ret
    rw [E.out]
    exact ⟨rfl, ⟨_, _, _, _, H.out⟩, Chg.refl _ _⟩
  | true =>
    have E := hide (show syncT T s = syncB (callT T) s by unfold syncT; rw [ho]; rfl)
    rw [ho] at O
    have C := hide (callT_any Q T P fv nv lv ov w h hc)
    have pQ := hide h.pQ
    clear h
    generalize callT T = b at *
    obtain ⟨er, T1⟩ := b
    by_cases he : er = 0
    · subst he
      go_enter Tryz.func22, Tryz.ntmps22
      go_wp2_with fail
      refine O.out.mono ?_
      rintro e w1 ⟨rfl, e2⟩
      subst e2
      go_wp2_with fail
      refine C.out.mono ?_
      rintro e w1 ⟨rfl, h1, ho1⟩
      have H := hide h1
      have HO1 := hide (Chg.of_only ho1 pQ.out)
      obtain ⟨c0, c1, c2, c3, c4, c8, fr⟩ := h1.cells
      obtain ⟨an, cn, e1, n1, n2, n3⟩ := own_nm h1.nw
      have A := hide (at_any nv T1.now s w1 (own_nm h1.nw))
      subst e1
      have hlen : T1.now.length ≤ 1000 := by have := h1.ok.nnw; have := h1.ok.cal; omega
      clear n3 h1 ho1 C O c0 c3 c4 c8
      rcases atF_cases s T1.now 0 with hA | ⟨k, hk, hA⟩
      · have E2 := hide (show syncB (0, T1) s = (11, T1) by unfold syncB; simp [nmT_none hA])
        rw [hA] at A
        go_wp2_with fail
        refine A.out.mono ?_
        rintro e w2 ⟨rfl, e2⟩
        subst e2
        go_wp2
        go_ret
        rw [E.out, E2.out]
        exact ⟨rfl, ⟨_, _, _, _, H.out⟩, HO1.out⟩
      · rw [Nat.zero_add] at hA
        obtain ⟨gn, cn', gf, cf, j, d, l, e1, e2, b1, b2, b3, b4, hj, hx, hjl, d1, d2, d3, d4, d5, d6, d7⟩ := H.out.look hk
        have E2 := hide (show syncB (0, T1) s = (0, { T1 with files := T1.files.set j (d, d.size) }) by unfold syncB; simp [nmT_some hA hk hj, datT, hx])
        cases e1
        subst e2
        rw [hA] at A
        have hfl : T1.files.length ≤ 1000 := by have := H.out.ok.nfl; have := H.out.ok.cal; omega
        have hds : d.size ≤ 250000 := (H.out.ok.siz _ (List.mem_of_getElem? hx)).1
        have HX := hide hx
        clear hA hj hx
        go_wp2_with fail
        refine A.out.mono ?_
        rintro e w2 ⟨rfl, e2⟩
        subst e2
        go_wp2_with fail
        go_region
        go_wp2
        go_ret
        rw [E.out, E2.out]
        have R := H.out.keep (w' := w2.drew) (P' := P) (fun i _ hi => rfl) (fun i hp _ => hp)
        have F := R.file (i := j * 2 + 1) (u := .int .i64 (d.size : Nat)) (fs' := T1.files.set j (d, d.size)) (flC_set1 _ _ _ _ _ HX.out) (by simp) (set_ok H.out.ok HX.out hds (Nat.le_refl _))
        exact ⟨rfl, ⟨_, _, _, _, F.1⟩, HO1.out.trans ((Chg.of_below (Below.refl _ _).drew).trans F.2)⟩
    · have he' : (er == 0) = false := by simp [he]
      have E2 := hide (show syncB (er, T1) s = (er, T1) by unfold syncB; simp [he])
      go_enter Tryz.func22, Tryz.ntmps22
      go_wp2_with fail
      refine O.out.mono ?_
      rintro e w1 ⟨rfl, e2⟩
      subst e2
      go_wp2_with fail
      refine C.out.mono ?_
      rintro e w1 ⟨rfl, h1, ho1⟩
      have H := hide h1
      have HO1 := hide (Chg.of_only ho1 pQ.out)
      clear h1 ho1
      go_wp2
      go_ret
      rw [E.out, E2.out]
      exact ⟨rfl, ⟨_, _, _, _, H.out⟩, HO1.out⟩

end Go.Proofs.YtfogfpanfhmijaaGreat.Clep

/- The document's own Disk: Append and Used (walks over the translated program). For any such Disk, any name and any bytes. -/
namespace Go.Proofs.YtfogfpanfhmijaaGreat.Clep
open Go.RowKit Go.Maps
set_option linter.unusedVariables false

/-- Worlds in which a Disk's block and all else is as it was. -/
structure Sn (w : World) (Q : Nat) (q : Nat) (W : World) : Prop where
  bel : Below w.heap.size w W
  c0 : W.cell? ⟨Q, 0, none⟩ = some (.int .i64 q)
theorem Sn.drew {w : World} {Q q : Nat} {W : World} (h : Sn w Q q W) : Sn w Q q W.drew := ⟨h.bel.drew, h.c0⟩
theorem Sn.below {w : World} {Q q : Nat} {W W' : World} (h : Sn w Q q W) (hQ : Q < w.heap.size) (hb : Below W.heap.size W W') : Sn w Q q W' :=
  ⟨h.bel.trans (hb.mono h.bel.size), by rw [hb.cell (p := ⟨Q, 0, none⟩) (Nat.lt_of_lt_of_le hQ h.bel.size)]; exact h.c0⟩
theorem Sn.full {w : World} {Q q : Nat} {W : World} (h : Sn w Q q W) : Sn w Q q W ∧ W.cell? ⟨Q, 0, none⟩ = some (.int .i64 q) := ⟨h, h.c0⟩
def appB (b : Int × RSt) (s t : ByteArray) : Int × RSt := if b.1 ≠ 0 then b else match nmT b.2 s with
  | none => (11, b.2)
  | some j => if 250000 - ((datT b.2 j).1.size : Int) < (t.size : Int) then (2, b.2) else if (b.2.q : Int) - (usedT b.2 : Int) < (t.size : Int) then (15, b.2) else (0, { b.2 with files := b.2.files.set j ((datT b.2 j).1 ++ t, (datT b.2 j).2) })
def appT (T : RSt) (s t : ByteArray) : Int × RSt := if okName s then appB (callT T) s t else (10, T)
theorem usedT_le {T : RSt} (h : ROk T) : usedT T ≤ 250000000 := by
  have h1 := usedTo_le T h T.now.length (Nat.le_refl _)
  have e : usedTo T T.now.length = usedT T := by unfold usedTo usedT; rw [List.take_length]
  have := h.nnw
  have := h.cal
  rw [e] at h1
  omega

set_option maxHeartbeats 1000000 in
set_option maxRecDepth 8000 in
theorem UsedT_any (Q : Nat) (T : RSt) (P : Nat → Prop) (fv nv lv ov : Value) (w : World) (h : RefIs w Q T P fv nv lv ov) :
    Calls Tryz.prog 50 #[.pointer (some ⟨Q, 0, none⟩)] w fun e w' => e = .returned (.int .i64 (if T.dead then 0 else (usedT T : Int))) ∧ Below w.heap.size w w' := by
  obtain ⟨c0, c1, c2, c3, c4, c8, fr⟩ := h.cells
  have U := hide (usedT_any Q T P fv nv lv ov w h)
  clear c0 c1 c2 c3 c4 h
  cases hd : T.dead with
  | true =>
    rw [hd] at c8
    go_enter Tryz.func50, Tryz.ntmps50
    go_wp2
    go_ret
    exact ⟨rfl, Below.refl _ _⟩
  | false =>
    rw [hd] at c8
    go_enter Tryz.func50, Tryz.ntmps50
    go_wp2_with fail
    refine U.out.mono ?_
    rintro e w1 ⟨rfl, hb⟩
    have B := hide hb
    clear hb
    go_wp2
    go_ret
    exact ⟨rfl, B.out⟩

set_option maxHeartbeats 2000000 in
set_option maxRecDepth 8000 in
theorem appT_any (Q : Nat) (T : RSt) (P : Nat → Prop) (fv nv lv ov : Value) (s t : ByteArray) (w : World) (h : RefIs w Q T P fv nv lv ov) (hs : s.size ≤ 100) (ht : t.size ≤ 1000) (hc : T.calls < 1000) :
    Calls Tryz.prog 20 #[.pointer (some ⟨Q, 0, none⟩), .string s, .string t] w fun e w' => e = .returned (.int .i64 (appT T s t).1) ∧ RIs w' Q (appT T s t).2 P ∧ Chg P w w' := by
  have O := hide (refok_any s w hs)
  cases ho : okName s with
  | false =>
    have E := hide (show appT T s t = (10, T) by unfold appT; rw [ho]; rfl)
    rw [ho] at O
    have H := hide h
    clear h
    go_enter Tryz.func20, Tryz.ntmps20
    go_wp2_with fail
    refine O.out.mono ?_
    rintro e w1 ⟨rfl, e2⟩
    subst e2
    go_wp2
    go_ret
    rw [E.out]
    exact ⟨rfl, ⟨_, _, _, _, H.out⟩, Chg.refl _ _⟩
  | true =>
    have E := hide (show appT T s t = appB (callT T) s t by unfold appT; rw [ho]; rfl)
    rw [ho] at O
    have C := hide (callT_any Q T P fv nv lv ov w h hc)
    have pQ := hide h.pQ
    clear h
    generalize callT T = b at *
    obtain ⟨er, T1⟩ := b
    by_cases he : er = 0
    · subst he
      go_enter Tryz.func20, Tryz.ntmps20
      go_wp2_with fail
      refine O.out.mono ?_
      rintro e w1 ⟨rfl, e2⟩
      subst e2
      go_wp2_with fail
      refine C.out.mono ?_
      rintro e w1 ⟨rfl, h1, ho1⟩
      have H := hide h1
      have HO1 := hide (Chg.of_only ho1 pQ.out)
      obtain ⟨c0, c1, c2, c3, c4, c8, fr⟩ := h1.cells
      obtain ⟨an, cn, e1, n1, n2, n3⟩ := own_nm h1.nw
      have A := hide (at_any nv T1.now s w1 (own_nm h1.nw))
      subst e1
      have hlen : T1.now.length ≤ 1000 := by have := h1.ok.nnw; have := h1.ok.cal; omega
      have hqq : T1.q ≤ 9223372036854775807 := h1.ok.quo
      clear n3 h1 ho1 C O c3 c4 c8
      rcases atF_cases s T1.now 0 with hA | ⟨k, hk, hA⟩
      · have E2 := hide (show appB (0, T1) s t = (11, T1) by unfold appB; simp [nmT_none hA])
        rw [hA] at A
        go_wp2_with fail
        refine A.out.mono ?_
        rintro e w2 ⟨rfl, e2⟩
        subst e2
        go_wp2
        go_ret
        rw [E.out, E2.out]
        exact ⟨rfl, ⟨_, _, _, _, H.out⟩, HO1.out⟩
      · rw [Nat.zero_add] at hA
        obtain ⟨gn, cn', gf, cf, j, d, l, e1, e2, b1, b2, b3, b4, hj, hx, hjl, d1, d2, d3, d4, d5, d6, d7⟩ := H.out.look hk
        have E2 := hide (show appB (0, T1) s t = (if 250000 - (d.size : Int) < (t.size : Int) then (2, T1) else if (T1.q : Int) - (usedT T1 : Int) < (t.size : Int) then (15, T1) else (0, { T1 with files := T1.files.set j (d ++ t, l) })) by
          unfold appB; simp [nmT_some hA hk hj, datT, hx])
        cases e1
        subst e2
        rw [hA] at A
        have hfl : T1.files.length ≤ 1000 := by have := H.out.ok.nfl; have := H.out.ok.cal; omega
        have hds : d.size ≤ 250000 := (H.out.ok.siz _ (List.mem_of_getElem? hx)).1
        have hls : l ≤ d.size := (H.out.ok.siz _ (List.mem_of_getElem? hx)).2
        have HX := hide hx
        clear hA hj hx
        by_cases hlong : 250000 - (d.size : Int) < (t.size : Int)
        · rw [if_pos hlong] at E2
          go_wp2_with fail
          refine A.out.mono ?_
          rintro e w2 ⟨rfl, e2⟩
          subst e2
          go_wp2_with fail
          go_region
          go_wp2
          go_ret
          rw [E.out, E2.out]
          have R := H.out.keep (w' := w2.drew) (P' := P) (fun i _ hi => rfl) (fun i hp _ => hp)
          exact ⟨rfl, ⟨_, _, _, _, R⟩, HO1.out.trans (Chg.of_below (Below.refl _ _).drew)⟩
        · rw [if_neg hlong] at E2
          have hu := usedT_le H.out.ok
          go_wp2_with fail
          refine A.out.mono ?_
          rintro e w2 ⟨rfl, e2⟩
          subst e2
          go_wp2_with fail
          go_region
          have R2 := hide (H.out.keep (w' := w2.drew) (P' := P) (fun i _ hi => rfl) (fun i hp _ => hp))
          have HO2 := hide (HO1.out.trans (Chg.of_below (P := P) (Below.refl w2.heap.size w2).drew))
          have hQ2 := hide R2.out.lt
          have d1' : w2.drew.cell? ⟨gn, k * 2 + 1, none⟩ = some (.int .i64 (j : Int)) := d1
          have d2' : w2.drew.cell? ⟨gf, j * 2, none⟩ = some (.string d) := d2
          have d4' : w2.drew.frozen? ⟨gf, j * 2, none⟩ = false := d4
          have c1' : w2.drew.cell? ⟨Q, 1, none⟩ = some _ := c1
          have c2' : w2.drew.cell? ⟨Q, 2, none⟩ = some _ := c2
          have c0' : w2.drew.cell? ⟨Q, 0, none⟩ = some _ := c0
          have DD := hide (And.intro d1' (And.intro d2' (And.intro d4' (And.intro c1' c2'))))
          clear d1 d2 d3 d4 d5 c0 c1 c2 fr A HO1 d1' d2' d4' c1' c2'
          generalize w2.drew = v2 at *
          have S2 : Sn v2 Q T1.q v2 := ⟨Below.refl _ _, c0'⟩
          have S2F := S2.full
          have US := hide (fun W (hW : Sn v2 Q T1.q W) => usedT_any Q T1 P _ _ lv ov W (R2.out.keep (w' := W) (P' := P) (fun i _ hi => hW.bel.block i hi) (fun i hp _ => hp)))
          generalize usedT T1 = U at *
          have hwr : IntKind.i64.wrap ((T1.q : Int) - (U : Int)) = (T1.q : Int) - (U : Int) := by
            simp [IntKind.wrap, IntKind.bits, IntKind.signed]
            omega
          go_wp2_with fail
          go_region_held_law (fun W => Sn v2 Q T1.q W ∧ W.cell? ⟨Q, 0, none⟩ = some (.int .i64 T1.q))
            (first | exact (Sn.drew (And.left (by assumption))).full | exact (Sn.below (And.left (by assumption)) hQ2.out (by assumption)).full)
            (first | (go_at_call 59; refine (US.out _ (And.left (by assumption))).mono ?_; rintro e w' ⟨rfl, hb⟩))
          have SS : Sn v2 Q T1.q w' := And.left (by assumption)
          have HS := hide SS
          obtain ⟨d1, d2, d4, c1, c2⟩ := DD.out
          have d1' := (SS.bel.cell (p := ⟨gn, k * 2 + 1, none⟩) (World.block_lt_of_cell? v2 _ d1)).trans d1
          have d2' := (SS.bel.cell (p := ⟨gf, j * 2, none⟩) (World.block_lt_of_cell? v2 _ d2)).trans d2
          have d4' := (SS.bel.frozen (p := ⟨gf, j * 2, none⟩) (World.block_lt_of_cell? v2 _ d2)).trans d4
          have c1' := (SS.bel.cell (p := ⟨Q, 1, none⟩) hQ2.out).trans c1
          have c2' := (SS.bel.cell (p := ⟨Q, 2, none⟩) hQ2.out).trans c2
          have R3 := hide (R2.out.keep (w' := w') (P' := P) (fun i _ hi => SS.bel.block i hi) (fun i hp _ => hp))
          have HO3 := hide (HO2.out.trans (Chg.of_below (P := P) SS.bel))
          clear d1 d2 d4 c1 c2 SS hb US S2 S2F DD
          by_cases hfull : (T1.q : Int) - (U : Int) < (t.size : Int)
          · rw [if_pos hfull] at E2
            go_wp2
            go_ret
            rw [E.out, E2.out]
            exact ⟨rfl, ⟨_, _, _, _, R3.out⟩, HO3.out⟩
          · rw [if_neg hfull] at E2
            go_wp2_with fail
            go_region
            go_wp2
            go_ret
            rw [E.out, E2.out]
            have R := R3.out.keep (w' := w'.drew) (P' := P) (fun i _ hi => rfl) (fun i hp _ => hp)
            have hts : (d ++ t).size = d.size + t.size := ByteArray.size_append
            have F := R.file (i := j * 2) (u := .string (d ++ t)) (fs' := T1.files.set j (d ++ t, l)) (flC_set0 _ _ _ _ _ HX.out) (by simp) (set_ok H.out.ok HX.out (by rw [hts]; omega) (by rw [hts]; omega))
            exact ⟨rfl, ⟨_, _, _, _, F.1⟩, HO3.out.trans ((Chg.of_below (Below.refl _ _).drew).trans F.2)⟩
    · have he' : (er == 0) = false := by simp [he]
      have E2 := hide (show appB (er, T1) s t = (er, T1) by unfold appB; simp [he])
      go_enter Tryz.func20, Tryz.ntmps20
      go_wp2_with fail
      refine O.out.mono ?_
      rintro e w1 ⟨rfl, e2⟩
      subst e2
      go_wp2_with fail
      refine C.out.mono ?_
      rintro e w1 ⟨rfl, h1, ho1⟩
      have H := hide h1
      have HO1 := hide (Chg.of_only ho1 pQ.out)
      clear h1 ho1
      go_wp2
      go_ret
      rw [E.out, E2.out]
      exact ⟨rfl, ⟨_, _, _, _, H.out⟩, HO1.out⟩

end Go.Proofs.YtfogfpanfhmijaaGreat.Clep

/- The document's own Disk: a row of it is put in another's place. No conditions. -/
namespace Go.Proofs.YtfogfpanfhmijaaGreat.Clep
open Go.RowKit Go.Maps
set_option linter.unusedVariables false

theorem RB.set1 {w : World} {Q q c : Nat} {fv nv lv ov : Value} {left fail : Int} {dead : Bool} (h : RB w Q q fv nv lv ov c left fail dead) (x : Value) : RB (w.setCell ⟨Q, 1, none⟩ x) Q q x nv lv ov c left fail dead := by
  unfold RB at h ⊢; rw [heap_setCell_same w Q 1 _ _ _ h]; rfl
theorem RB.set2 {w : World} {Q q c : Nat} {fv nv lv ov : Value} {left fail : Int} {dead : Bool} (h : RB w Q q fv nv lv ov c left fail dead) (x : Value) : RB (w.setCell ⟨Q, 2, none⟩ x) Q q fv x lv ov c left fail dead := by
  unfold RB at h ⊢; rw [heap_setCell_same w Q 2 _ _ _ h]; rfl
theorem RB.set3 {w : World} {Q q c : Nat} {fv nv lv ov : Value} {left fail : Int} {dead : Bool} (h : RB w Q q fv nv lv ov c left fail dead) (x : Value) : RB (w.setCell ⟨Q, 3, none⟩ x) Q q fv nv x ov c left fail dead := by
  unfold RB at h ⊢; rw [heap_setCell_same w Q 3 _ _ _ h]; rfl
theorem RB.set4 {w : World} {Q q c : Nat} {fv nv lv ov : Value} {left fail : Int} {dead : Bool} (h : RB w Q q fv nv lv ov c left fail dead) (x : Value) : RB (w.setCell ⟨Q, 4, none⟩ x) Q q fv nv lv x c left fail dead := by
  unfold RB at h ⊢; rw [heap_setCell_same w Q 4 _ _ _ h]; rfl
/-- Where a row may lie: in a block of P's that is not the Disk's, nor the files', nor the changes'. -/
def Far (P : Nat → Prop) (Q : Nat) (fv ov v : Value) : Prop := ∀ g, v.ownBlock = some g → P g ∧ g ≠ Q ∧ fv.ownBlock ≠ some g ∧ ov.ownBlock ≠ some g
theorem RefIs.put {w w' : World} {Q : Nat} {T T' : RSt} {P : Nat → Prop} {fv nv lv ov fv' nv' lv' ov' : Value} (h : RefIs w Q T P fv nv lv ov) (ho : Only Q w w')
    (hr : RB w' Q T'.q fv' nv' lv' ov' T'.calls T'.left T'.fail T'.dead) (f : OwnF w fv' T'.files) (n : OwnN w 0 nv' T'.now) (l : OwnN w 0 lv' T'.last) (o : OwnO w ov' T'.ops)
    (pf : ∀ g, fv'.ownBlock = some g → P g ∧ g ≠ Q) (pn : Far P Q fv' ov' nv') (pl : Far P Q fv' ov' lv') (po : ∀ g, ov'.ownBlock = some g → P g ∧ g ≠ Q ∧ fv'.ownBlock ≠ some g) (ok : ROk T') : RefIs w' Q T' P fv' nv' lv' ov' :=
  ⟨hr, own_block f (fun g hg => ho.block g (pf g hg).2), own_block n (fun g hg => ho.block g (pn g hg).2.1), own_block l (fun g hg => ho.block g (pl g hg).2.1), own_block o (fun g hg => ho.block g (po g hg).2.1), h.pQ, pf, pn, pl, po, ok⟩
theorem only_set (w : World) (Q i : Nat) (v : Value) : Only Q w (w.setCell ⟨Q, i, none⟩ v) := (Only.refl Q w).set i v
theorem RefIs.setNow {w : World} {Q : Nat} {T : RSt} {P : Nat → Prop} {fv nv lv ov v : Value} {l : List (ByteArray × Int)} (h : RefIs w Q T P fv nv lv ov) (o : OwnN w 0 v l) (far : Far P Q fv ov v) (ok : ROk { T with now := l }) :
    RefIs (w.setCell ⟨Q, 2, none⟩ v) Q { T with now := l } P fv v lv ov ∧ Chg P w (w.setCell ⟨Q, 2, none⟩ v) :=
  ⟨h.put (only_set w Q 2 v) (h.row.set2 v) h.fs o h.ls h.os h.pf far h.pl h.po ok, Chg.of_only (only_set w Q 2 v) h.pQ⟩
theorem RefIs.setOps {w : World} {Q : Nat} {T : RSt} {P : Nat → Prop} {fv nv lv ov v : Value} {l : List RO} (h : RefIs w Q T P fv nv lv ov) (o : OwnO w v l) (po : ∀ g, v.ownBlock = some g → P g ∧ g ≠ Q ∧ fv.ownBlock ≠ some g)
    (hn : ∀ g, nv.ownBlock = some g → v.ownBlock ≠ some g) (hl : ∀ g, lv.ownBlock = some g → v.ownBlock ≠ some g) (ok : ROk { T with ops := l }) :
    RefIs (w.setCell ⟨Q, 4, none⟩ v) Q { T with ops := l } P fv nv lv v ∧ Chg P w (w.setCell ⟨Q, 4, none⟩ v) :=
  ⟨h.put (only_set w Q 4 v) (h.row.set4 v) h.fs h.nw h.ls o h.pf (fun g hg => ⟨(h.pn g hg).1, (h.pn g hg).2.1, (h.pn g hg).2.2.1, hn g hg⟩) (fun g hg => ⟨(h.pl g hg).1, (h.pl g hg).2.1, (h.pl g hg).2.2.1, hl g hg⟩) po ok, Chg.of_only (only_set w Q 4 v) h.pQ⟩
theorem RefIs.setFiles {w : World} {Q : Nat} {T : RSt} {P : Nat → Prop} {fv nv lv ov v : Value} {l : List (ByteArray × Nat)} (h : RefIs w Q T P fv nv lv ov) (o : OwnF w v l) (pf : ∀ g, v.ownBlock = some g → P g ∧ g ≠ Q)
    (hn : ∀ g, nv.ownBlock = some g → v.ownBlock ≠ some g) (hl : ∀ g, lv.ownBlock = some g → v.ownBlock ≠ some g) (ho : ∀ g, ov.ownBlock = some g → v.ownBlock ≠ some g) (ok : ROk { T with files := l }) :
    RefIs (w.setCell ⟨Q, 1, none⟩ v) Q { T with files := l } P v nv lv ov ∧ Chg P w (w.setCell ⟨Q, 1, none⟩ v) :=
  ⟨h.put (only_set w Q 1 v) (h.row.set1 v) o h.nw h.ls h.os pf (fun g hg => ⟨(h.pn g hg).1, (h.pn g hg).2.1, hn g hg, (h.pn g hg).2.2.2⟩) (fun g hg => ⟨(h.pl g hg).1, (h.pl g hg).2.1, hl g hg, (h.pl g hg).2.2.2⟩) (fun g hg => ⟨(h.po g hg).1, (h.po g hg).2.1, ho g hg⟩) ok, Chg.of_only (only_set w Q 1 v) h.pQ⟩
/-- A row that was made since is far from all. -/
theorem RefIs.far {w w' : World} {Q : Nat} {T : RSt} {P : Nat → Prop} {fv nv lv ov v : Value} {l : List (ByteArray × Int)} (h : RefIs w Q T P fv nv lv ov) (hP : ∀ i, w.heap.size ≤ i → P i) (o : OwnN w' w.heap.size v l) : Far P Q fv ov v := by
  intro g hg
  have hb := (World.ownsRow.lt o g hg).1
  have hQ := h.lt
  exact ⟨hP g hb, by omega, fun e => by have := (World.ownsRow.lt h.fs g e).2; omega, fun e => by have := (World.ownsRow.lt h.os g e).2; omega⟩
theorem infoO : (Tryz.prog.info? 98).map (fun i => (i.zero, i.size, i.bytes)) = some (some (.agg #[.int .i64 0, .int .i64 0, .string ⟨#[]⟩, .string ⟨#[]⟩]), 4, 48) := by kernel_rfl
theorem infoF : (Tryz.prog.info? 95).map (fun i => (i.zero, i.size, i.bytes)) = some (some (.agg #[.string ⟨#[]⟩, .int .i64 0]), 2, 24) := by kernel_rfl
theorem roC_len : ∀ l : List RO, (l.flatMap roC).length = l.length * 4
  | [] => rfl
  | x :: r => by rw [List.flatMap_cons, List.length_append, roC_len r]; simp [roC]; omega
theorem ro_snoc {w : World} {B : Nat} {v : Value} {l : List RO} {o : RO} (h : w.ownsRow B 98 4 v (l.length + 1) (l.flatMap roC ++ roC o)) : w.ownsRow B 98 4 v (l ++ [o]).length ((l ++ [o]).flatMap roC) := by
  rw [List.flatMap_append, List.length_append]
  simpa using h
theorem fl_snoc {w : World} {B : Nat} {v : Value} {l : List (ByteArray × Nat)} {o : ByteArray × Nat} (h : w.ownsRow B 95 2 v (l.length + 1) (l.flatMap flC ++ flC o)) : w.ownsRow B 95 2 v (l ++ [o]).length ((l ++ [o]).flatMap flC) := by
  rw [List.flatMap_append, List.length_append]
  simpa using h
theorem four_new (w : World) (x y z u : Value) (t : TypeId) : ∀ j v, [x, y, z, u][j]? = some v → (w.alloc (.cells #[x, y, z, u] t)).cell? ((⟨w.heap.size, 0, none⟩ : Addr).add j) = some v := by
  intro j v hu
  rw [add_plain, Nat.zero_add]
  exact cell_of (MapKept.heap_alloc w _).1 (by simpa using hu)
/-- The names' lengths and files behind 'without' and 'with'. -/
theorem woF_mem {l : List (ByteArray × Int)} {s : ByteArray} {x : ByteArray × Int} (h : x ∈ woF l s) : x ∈ l := by
  unfold woF at h
  split at h
  · exact h
  · rcases List.mem_append.1 h with h | h
    · exact List.mem_of_mem_take h
    · exact List.mem_of_mem_drop h
theorem woF_len (l : List (ByteArray × Int)) (s : ByteArray) : (woF l s).length ≤ l.length := by
  unfold woF
  split
  · exact Nat.le_refl _
  · simp
    omega
theorem pastF_mem {s : ByteArray} {l : List (ByteArray × Int)} {x : ByteArray × Int} (h : x ∈ pastF s l) : x ∈ l := by
  cases l with
  | nil => simp [pastF] at h
  | cons y r =>
    have h : x ∈ (if y.1 = s then r else y :: r) := h
    split at h
    · exact List.mem_cons_of_mem _ h
    · exact h
theorem withF_mem {l : List (ByteArray × Int)} {s : ByteArray} {f : Int} {x : ByteArray × Int} (h : x ∈ withF l s f) : x = (s, f) ∨ x ∈ l := by
  unfold withF at h
  rcases List.mem_append.1 h with h | h
  · exact .inr (List.mem_of_mem_take h)
  · rcases List.mem_cons.1 h with h | h
    · exact .inl h
    · exact .inr (List.mem_of_mem_drop (pastF_mem h))
theorem withF_len (l : List (ByteArray × Int)) (s : ByteArray) (f : Int) : (withF l s f).length ≤ l.length + 1 := by
  unfold withF
  have h : (pastF s (l.drop (kF l s))).length ≤ (l.drop (kF l s)).length := by
    cases hd : l.drop (kF l s) with
    | nil => simp [pastF]
    | cons y r =>
      show (if y.1 = s then r else y :: r).length ≤ _
      split <;> simp
  simp at h ⊢
  omega

/-- Where a row that grew may lie. -/
theorem RefIs.growO {w w5 : World} {Q : Nat} {T : RSt} {P : Nat → Prop} {fv nv lv ov v5 : Value} {o : RO} (h : RefIs w Q T P fv nv lv ov) (hP : ∀ i, w.heap.size ≤ i → P i) (al : Obj) (g5 : (w.alloc al).grownBy w5 ov.ownBlock)
    (o5 : w5.ownsRow 0 98 4 v5 (T.ops.length + 1) (T.ops.flatMap roC ++ roC o)) (l5 : v5.ownBlock = ov.ownBlock ∨ v5.ownBlock = some (w.alloc al).heap.size) (ok : ROk { T with ops := T.ops ++ [o] }) :
    (w5.cell? ⟨Q, 4, none⟩ = some ov ∧ w5.frozen? ⟨Q, 4, none⟩ = false) ∧ RefIs (w5.setCell ⟨Q, 4, none⟩ v5) Q { T with ops := T.ops ++ [o] } P fv nv lv v5 ∧ Chg P w (w5.setCell ⟨Q, 4, none⟩ v5) := by
  have hsz : (w.alloc al).heap.size = w.heap.size + 1 := by simp
  have hb : ∀ g, g < w.heap.size → ov.ownBlock ≠ some g → w5.heap[g]? = w.heap[g]? := fun g hg hn =>
    (g5.block g (by omega) (fun e => hn e.symm)).trans (((Below.refl w.heap.size w).alloc (Nat.le_refl _) al).block g hg)
  have hQ5 : w5.heap[Q]? = w.heap[Q]? := hb Q h.lt (fun e => (h.po Q e).2.1 rfl)
  have r5 : RB w5 Q T.q fv nv lv ov T.calls T.left T.fail T.dead := by
    have := h.row
    unfold RB at this ⊢
    rw [hQ5]
    exact this
  have c4 : w5.cell? ⟨Q, 4, none⟩ = some ov := by unfold RB at r5; exact cell_of r5 rfl
  have f4 : w5.frozen? ⟨Q, 4, none⟩ = false := by unfold RB at r5; exact frozen_of_row w5 Q 4 _ _ r5
  have ob : Only Q w5 (w5.setCell ⟨Q, 4, none⟩ v5) := only_set w5 Q 4 v5
  have kf : OwnF w5 fv T.files := own_block h.fs (fun g hg => hb g (World.ownsRow.lt h.fs g hg).2 (fun e => (h.po g e).2.2 hg))
  have kn : OwnN w5 0 nv T.now := own_block h.nw (fun g hg => hb g (World.ownsRow.lt h.nw g hg).2 (h.pn g hg).2.2.2)
  have kl : OwnN w5 0 lv T.last := own_block h.ls (fun g hg => hb g (World.ownsRow.lt h.ls g hg).2 (h.pl g hg).2.2.2)
  have lo : ∀ g, v5.ownBlock = some g → ov.ownBlock = some g ∨ g = w.heap.size + 1 := fun g hg => by
    rcases l5 with e | e
    · exact .inl (by rw [← e]; exact hg)
    · right
      rw [e, hsz] at hg
      exact (Option.some.inj hg).symm
  have po : ∀ g, v5.ownBlock = some g → P g ∧ g ≠ Q ∧ fv.ownBlock ≠ some g := fun g hg => by
    rcases lo g hg with e | e
    · exact h.po g e
    · have := h.lt
      exact ⟨hP g (by omega), by omega, fun e' => by have := (World.ownsRow.lt h.fs g e').2; omega⟩
  have pn : ∀ (v : Value) (l : List (ByteArray × Int)), OwnN w 0 v l → Far P Q fv ov v → Far P Q fv v5 v := fun v l hv far g hg => by
    obtain ⟨a1, a2, a3, a4⟩ := far g hg
    refine ⟨a1, a2, a3, fun e => ?_⟩
    rcases lo g e with e' | e'
    · exact a4 e'
    · have := (World.ownsRow.lt hv g hg).2
      omega
  refine ⟨⟨c4, f4⟩, ⟨r5.set4 v5, own_block kf (fun g hg => ob.block g (h.pf g hg).2), own_block kn (fun g hg => ob.block g (h.pn g hg).2.1), own_block kl (fun g hg => ob.block g (h.pl g hg).2.1), own_block (ro_snoc o5) (fun g hg => ob.block g (po g hg).2.1), h.pQ, h.pf, pn nv _ h.nw h.pn, pn lv _ h.ls h.pl, po, ok⟩, ?_⟩
  refine Chg.trans (Chg.of_below ((Below.refl w.heap.size w).alloc (Nat.le_refl _) al)) (Chg.trans (Chg.of_grown g5 (fun g hg => (h.po g hg).1)) (Chg.of_only ob h.pQ))
theorem RefIs.growF {w w5 : World} {Q : Nat} {T : RSt} {P : Nat → Prop} {fv nv lv ov v5 : Value} {o : ByteArray × Nat} (h : RefIs w Q T P fv nv lv ov) (hP : ∀ i, w.heap.size ≤ i → P i) (al : Obj) (g5 : (w.alloc al).grownBy w5 fv.ownBlock)
    (o5 : w5.ownsRow 0 95 2 v5 (T.files.length + 1) (T.files.flatMap flC ++ flC o)) (l5 : v5.ownBlock = fv.ownBlock ∨ v5.ownBlock = some (w.alloc al).heap.size) (ok : ROk { T with files := T.files ++ [o] }) :
    (w5.cell? ⟨Q, 1, none⟩ = some fv ∧ w5.frozen? ⟨Q, 1, none⟩ = false) ∧ RefIs (w5.setCell ⟨Q, 1, none⟩ v5) Q { T with files := T.files ++ [o] } P v5 nv lv ov ∧ Chg P w (w5.setCell ⟨Q, 1, none⟩ v5) := by
  have hsz : (w.alloc al).heap.size = w.heap.size + 1 := by simp
  have hb : ∀ g, g < w.heap.size → fv.ownBlock ≠ some g → w5.heap[g]? = w.heap[g]? := fun g hg hn =>
    (g5.block g (by omega) (fun e => hn e.symm)).trans (((Below.refl w.heap.size w).alloc (Nat.le_refl _) al).block g hg)
  have hQ5 : w5.heap[Q]? = w.heap[Q]? := hb Q h.lt (fun e => (h.pf Q e).2 rfl)
  have r5 : RB w5 Q T.q fv nv lv ov T.calls T.left T.fail T.dead := by
    have := h.row
    unfold RB at this ⊢
    rw [hQ5]
    exact this
  have c4 : w5.cell? ⟨Q, 1, none⟩ = some fv := by unfold RB at r5; exact cell_of r5 rfl
  have f4 : w5.frozen? ⟨Q, 1, none⟩ = false := by unfold RB at r5; exact frozen_of_row w5 Q 1 _ _ r5
  have ob : Only Q w5 (w5.setCell ⟨Q, 1, none⟩ v5) := only_set w5 Q 1 v5
  have kn : OwnN w5 0 nv T.now := own_block h.nw (fun g hg => hb g (World.ownsRow.lt h.nw g hg).2 (h.pn g hg).2.2.1)
  have kl : OwnN w5 0 lv T.last := own_block h.ls (fun g hg => hb g (World.ownsRow.lt h.ls g hg).2 (h.pl g hg).2.2.1)
  have ko : OwnO w5 ov T.ops := own_block h.os (fun g hg => hb g (World.ownsRow.lt h.os g hg).2 (h.po g hg).2.2)
  have lo : ∀ g, v5.ownBlock = some g → fv.ownBlock = some g ∨ g = w.heap.size + 1 := fun g hg => by
    rcases l5 with e | e
    · exact .inl (by rw [← e]; exact hg)
    · right
      rw [e, hsz] at hg
      exact (Option.some.inj hg).symm
  have pf : ∀ g, v5.ownBlock = some g → P g ∧ g ≠ Q := fun g hg => by
    rcases lo g hg with e | e
    · exact h.pf g e
    · have := h.lt
      exact ⟨hP g (by omega), by omega⟩
  have nf : ∀ g, g < w.heap.size → fv.ownBlock ≠ some g → v5.ownBlock ≠ some g := fun g hl hn e => by
    rcases lo g e with e' | e'
    · exact hn e'
    · omega
  refine ⟨⟨c4, f4⟩, ⟨r5.set1 v5, own_block (fl_snoc o5) (fun g hg => ob.block g (pf g hg).2), own_block kn (fun g hg => ob.block g (h.pn g hg).2.1), own_block kl (fun g hg => ob.block g (h.pl g hg).2.1), own_block ko (fun g hg => ob.block g (h.po g hg).2.1), h.pQ, pf,
    fun g hg => ⟨(h.pn g hg).1, (h.pn g hg).2.1, nf g (World.ownsRow.lt h.nw g hg).2 (h.pn g hg).2.2.1, (h.pn g hg).2.2.2⟩, fun g hg => ⟨(h.pl g hg).1, (h.pl g hg).2.1, nf g (World.ownsRow.lt h.ls g hg).2 (h.pl g hg).2.2.1, (h.pl g hg).2.2.2⟩, fun g hg => ⟨(h.po g hg).1, (h.po g hg).2.1, nf g (World.ownsRow.lt h.os g hg).2 (h.po g hg).2.2⟩, ok⟩, ?_⟩
  refine Chg.trans (Chg.of_below ((Below.refl w.heap.size w).alloc (Nat.le_refl _) al)) (Chg.trans (Chg.of_grown g5 (fun g hg => (h.pf g hg).1)) (Chg.of_only ob h.pQ))

end Go.Proofs.YtfogfpanfhmijaaGreat.Clep

/- The document's own Disk: Remove, SyncDir and Stop (walks over the translated program). For any such Disk and any name. -/
namespace Go.Proofs.YtfogfpanfhmijaaGreat.Clep
open Go.RowKit Go.Maps
set_option linter.unusedVariables false

def rmB (b : Int × RSt) (s : ByteArray) : Int × RSt := if b.1 ≠ 0 then b else match nmT b.2 s with | none => (11, b.2) | some _ => (0, { b.2 with now := woF b.2.now s, ops := b.2.ops ++ [⟨2, 0, s, ⟨#[]⟩⟩] })
def rmT (T : RSt) (s : ByteArray) : Int × RSt := if okName s then rmB (callT T) s else (10, T)
def sdB (b : Int × RSt) : Int × RSt := if b.1 ≠ 0 then b else (0, { b.2 with last := b.2.now, ops := [] })
def sdT (T : RSt) : Int × RSt := sdB (callT T)
def stopT (T : RSt) (n : Int) : RSt := { T with left := max n (-1), dead := T.dead || n == 0 }
/-- A call's changes leave room for one change more. -/
structure Room (T : RSt) : Prop where
  nfl : T.files.length < T.calls
  nnw : T.now.length < T.calls
  nls : T.last.length + T.ops.length < T.calls
theorem callT_room {T : RSt} (h : ROk T) : Room (callT T).2 := ⟨Nat.lt_succ_of_le h.nfl, Nat.lt_succ_of_le h.nnw, Nat.lt_succ_of_le h.nls⟩
theorem rm_ok {T : RSt} {s : ByteArray} (h : ROk T) (r : Room T) : ROk { T with now := woF T.now s, ops := T.ops ++ [⟨2, 0, s, ⟨#[]⟩⟩] } :=
  ⟨h.cal, h.nfl, by have := r.nls; simp; omega, Nat.le_trans (woF_len _ _) h.nnw, by have := r.nls; simp; omega, fun x hx => h.fnw x (woF_mem hx), h.fls, fun o ho => by
    rcases List.mem_append.1 ho with ho | ho
    · exact h.fop o ho
    · simp only [List.mem_singleton] at ho
      subst ho
      exact ⟨Nat.le_refl _, Nat.succ_pos _, fun e => by cases e⟩, h.siz, h.lft, h.fai, h.quo⟩
theorem now_ok {T : RSt} {l : List (ByteArray × Int)} (h : ROk T) (hl : l.length ≤ T.calls) (hm : ∀ x ∈ l, 0 ≤ x.2 ∧ x.2 < T.files.length) : ROk { T with now := l } :=
  ⟨h.cal, h.nfl, h.nop, hl, h.nls, hm, h.fls, h.fop, h.siz, h.lft, h.fai, h.quo⟩

set_option maxHeartbeats 2000000 in
set_option maxRecDepth 8000 in
theorem rmT_any (Q : Nat) (T : RSt) (P : Nat → Prop) (fv nv lv ov : Value) (s : ByteArray) (w : World) (h : RefIs w Q T P fv nv lv ov) (hs : s.size ≤ 100) (hc : T.calls < 1000) (hP : ∀ i, w.heap.size ≤ i → P i) :
    Calls Tryz.prog 26 #[.pointer (some ⟨Q, 0, none⟩), .string s] w fun e w' => e = .returned (.int .i64 (rmT T s).1) ∧ RIs w' Q (rmT T s).2 P ∧ Chg P w w' := by
  have O := hide (refok_any s w hs)
  cases ho : okName s with
  | false =>
    have E := hide (show rmT T s = (10, T) by unfold rmT; rw [ho]; rfl)
    rw [ho] at O
    have H := hide h
    clear h
    go_enter Tryz.func26, Tryz.ntmps26
    go_wp2_with fail
    refine O.out.mono ?_
    rintro e w1 ⟨rfl, e2⟩
    subst e2
    go_wp2
    go_ret
    rw [E.out]
    exact ⟨rfl, ⟨_, _, _, _, H.out⟩, Chg.refl _ _⟩
  | true =>
    have E := hide (show rmT T s = rmB (callT T) s by unfold rmT; rw [ho]; rfl)
    rw [ho] at O
    have C := hide (callT_any Q T P fv nv lv ov w h hc)
    have RM := hide (callT_room h.ok)
    have pQ := hide h.pQ
    have HP := hide hP
    clear h hP
    generalize callT T = b at *
    obtain ⟨er, T1⟩ := b
    by_cases he : er = 0
    · subst he
      go_enter Tryz.func26, Tryz.ntmps26
      go_wp2_with fail
      refine O.out.mono ?_
      rintro e w1 ⟨rfl, e2⟩
      subst e2
      go_wp2_with fail
      refine C.out.mono ?_
      rintro e w1' ⟨rfl, h1, ho1⟩
      have H := hide h1
      have HO1 := hide (Chg.of_only ho1 pQ.out)
      have HP1 := hide (show ∀ i, w1'.heap.size ≤ i → P i from fun i hi => HP.out i (by rw [← ho1.size]; exact hi))
      obtain ⟨c0, c1, c2, c3, c4, c8, fr⟩ := h1.cells
      have hlen : T1.now.length ≤ 1000 := by have := h1.ok.nnw; have := h1.ok.cal; omega
      have hole : T1.ops.length ≤ 1000 := by have := h1.ok.nop; have := h1.ok.cal; omega
      rcases atF_cases s T1.now 0 with hA | ⟨k, hk, hA⟩
      · have E2 := hide (show rmB (0, T1) s = (11, T1) by unfold rmB; simp [nmT_none hA])
        obtain ⟨an, cn, e1, n1, n2, n3⟩ := own_nm h1.nw
        have A := hide (at_any nv T1.now s w1' (own_nm h1.nw))
        subst e1
        rw [hA] at A
        clear n3 h1 ho1 C O c0 c1 c3 c4 c8
        go_wp2_with fail
        refine A.out.mono ?_
        rintro e w2 ⟨rfl, e2⟩
        subst e2
        go_wp2
        go_ret
        rw [E.out, E2.out]
        exact ⟨rfl, ⟨_, _, _, _, H.out⟩, HO1.out⟩
      · rw [Nat.zero_add] at hA
        obtain ⟨gn, cn', gf, cf, j, d, l, e1, e2, b1, b2, b3, b4, hj, hx, hjl, d1, d2, d3, d4, d5, d6, d7⟩ := H.out.look hk
        have E2 := hide (show rmB (0, T1) s = (0, { T1 with now := woF T1.now s, ops := T1.ops ++ [⟨2, 0, s, ⟨#[]⟩⟩] }) by unfold rmB; simp [nmT_some hA hk hj])
        have A := hide (at_any nv T1.now s w1' (own_nm h1.nw))
        subst e1
        subst e2
        have WO := hide (without_some gn cn' k T1.now s w1' h1.nw hA hk (by omega))
        rw [hA] at A
        clear hA hj hx d1 d2 d3 d4 d5 d6 d7 ho1 C O c0 c1 c3 c8 h1
        have hQs := H.out.lt
        go_wp2_with fail
        refine A.out.mono ?_
        rintro e w2 ⟨rfl, e2⟩
        subst e2
        go_wp2_with fail
        refine WO.out.mono ?_
        rintro e w3 ⟨v', rfl, o3, b3'⟩
        have R3 := H.out.keep (w' := w3) (P' := P) (fun i _ hi => b3'.block i hi) (fun i hp _ => hp)
        have far := H.out.far HP1.out o3
        have S3 := R3.setNow (ownN_base o3 (Nat.zero_le _)) far (now_ok H.out.ok (Nat.le_trans (woF_len _ _) H.out.ok.nnw) (fun x hx => H.out.ok.fnw x (woF_mem hx)))
        obtain ⟨p0, p1, p2, p3, p4, p8, pr⟩ := S3.1.cells
        have q2 := R3.cells.2.2.1
        have qf := R3.cells.2.2.2.2.2.2 2
        obtain ⟨so, sc, es, _⟩ := row_slice o3
        subst es
        have HS3 := hide S3
        have HB3 := hide b3'
        have HP3 := hide (show ∀ i, w3.heap.size ≤ i → P i from fun i hi => HP1.out i (Nat.le_trans b3'.size hi))
        clear R3 far o3 S3 b3'
        obtain ⟨ooA, ocA, eo, _⟩ := row_slice H.out.os
        subst eo
        obtain ⟨i0, hi, hz0, hz1, hz2⟩ := info_parts infoO
        have hsz : (w3.setCell ⟨Q, 2, none⟩ (.slice so (woF T1.now s).length sc)).heap.size = w3.heap.size := by simp
        have HP4 := hide (show ∀ i, (w3.setCell ⟨Q, 2, none⟩ (.slice so (woF T1.now s).length sc)).heap.size ≤ i → P i from fun i hi => HP3.out i (by rw [hsz] at hi; exact hi))
        have OK5 := hide (rm_ok (s := s) H.out.ok RM.out)
        have GO := hide (fun (w5 : World) (v5 : Value) => (HS3.out.1).growO (w5 := w5) (v5 := v5) (o := ⟨2, 0, s, ⟨#[]⟩⟩) HP4.out (.cells #[.int .i64 2, .int .i64 0, .string s, .string ⟨#[]⟩] 98))
        have HOO := hide ((HS3.out.1.os).alloc (.cells #[.int .i64 2, .int .i64 0, .string s, .string ⟨#[]⟩] 98))
        have HNN := hide (four_new (w3.setCell ⟨Q, 2, none⟩ (.slice so (woF T1.now s).length sc)) (.int .i64 2) (.int .i64 0) (.string s) (.string ⟨#[]⟩) 98)
        rw [hsz] at HNN
        generalize (woF T1.now s).length = NL at *
        go_wp2_with (first
          | (at_builtin; refine wpList_append_own_at _ rfl _ _ 54 rfl 0 98 i0 _ 4 48 Tryz.underlying54 hi hz0 hz1 hz2 rfl (by decide) _ T1.ops.length _ rfl HOO.out ⟨w3.heap.size, 0, none⟩ 1 1 [.int .i64 2, .int .i64 0, .string s, .string ⟨#[]⟩] rfl rfl HNN.out (by simp [Value.oneCell']) (by unfold maxLen; omega) (by omega) (Nat.zero_le _) ?_; intro v5 w5 o5 g5 _ l5
             obtain ⟨⟨z1, z2⟩, z3, z4⟩ := GO.out w5 v5 g5 o5 l5 OK5.out
             obtain ⟨so5, sc5, e5, _⟩ := row_slice o5
             subst e5
             have Z3 := hide z3
             have Z4 := hide z4
             clear z3 z4 o5 g5 l5)
          | fail)
        go_ret
        rw [E.out, E2.out]
        exact ⟨rfl, ⟨_, _, _, _, Z3.out⟩, HO1.out.trans ((Chg.of_below HB3.out).trans (HS3.out.2.trans Z4.out))⟩
    · have he' : (er == 0) = false := by simp [he]
      have E2 := hide (show rmB (er, T1) s = (er, T1) by unfold rmB; simp [he])
      go_enter Tryz.func26, Tryz.ntmps26
      go_wp2_with fail
      refine O.out.mono ?_
      rintro e w1 ⟨rfl, e2⟩
      subst e2
      go_wp2_with fail
      refine C.out.mono ?_
      rintro e w1 ⟨rfl, h1, ho1⟩
      have H := hide h1
      have HO1 := hide (Chg.of_only ho1 pQ.out)
      clear h1 ho1
      go_wp2
      go_ret
      rw [E.out, E2.out]
      exact ⟨rfl, ⟨_, _, _, _, H.out⟩, HO1.out⟩

set_option maxHeartbeats 2000000 in
set_option maxRecDepth 8000 in
theorem sdT_any (Q : Nat) (T : RSt) (P : Nat → Prop) (fv nv lv ov : Value) (w : World) (h : RefIs w Q T P fv nv lv ov) (hc : T.calls < 1000) :
    Calls Tryz.prog 27 #[.pointer (some ⟨Q, 0, none⟩)] w fun e w' => e = .returned (.int .i64 (sdT T).1) ∧ RIs w' Q (sdT T).2 P ∧ Chg P w w' := by
  have E := hide (show sdT T = sdB (callT T) from rfl)
  have C := hide (callT_any Q T P fv nv lv ov w h hc)
  have RM := hide (callT_room h.ok)
  have pQ := hide h.pQ
  clear h
  generalize callT T = b at *
  obtain ⟨er, T1⟩ := b
  by_cases he : er = 0
  · subst he
    have E2 := hide (show sdB (0, T1) = (0, { T1 with last := T1.now, ops := [] }) by unfold sdB; simp)
    go_enter Tryz.func27, Tryz.ntmps27
    go_wp2_with fail
    refine C.out.mono ?_
    rintro e w1 ⟨rfl, h1, ho1⟩
    have H := hide h1
    have HO1 := hide (Chg.of_only ho1 pQ.out)
    obtain ⟨c0, c1, c2, c3, c4, c8, fr⟩ := h1.cells
    obtain ⟨an, cn, e1, n1, n2, n3⟩ := own_nm h1.nw
    subst e1
    have OK := hide (show ROk { T1 with last := T1.now, ops := [] } from ⟨h1.ok.cal, h1.ok.nfl, Nat.zero_le _, h1.ok.nnw, by have := h1.ok.nnw; simpa using this, h1.ok.fnw, h1.ok.fnw, fun o ho => by simp at ho, h1.ok.siz, h1.ok.lft, h1.ok.fai, h1.ok.quo⟩)
    clear n3 h1 ho1 C
    go_wp2
    go_ret
    rw [E.out, E2.out]
    refine ⟨rfl, ⟨fv, .slice an T1.now.length cn, .slice an T1.now.length cn, .slice none 0 0, ?_⟩, HO1.out.trans (Chg.of_only ((only_set w1 Q 3 _).set 4 _) pQ.out)⟩
    refine H.out.put ((only_set w1 Q 3 _).set 4 _) ((H.out.row.set3 _).set4 _) H.out.fs H.out.nw H.out.nw ⟨rfl, .inl ⟨rfl, rfl⟩⟩ H.out.pf ?_ ?_ (fun g hg => by cases hg) OK.out
    · intro g hg
      exact ⟨(H.out.pn g hg).1, (H.out.pn g hg).2.1, (H.out.pn g hg).2.2.1, fun e => by cases e⟩
    · intro g hg
      exact ⟨(H.out.pn g hg).1, (H.out.pn g hg).2.1, (H.out.pn g hg).2.2.1, fun e => by cases e⟩
  · have he' : (er == 0) = false := by simp [he]
    have E2 := hide (show sdB (er, T1) = (er, T1) by unfold sdB; simp [he])
    go_enter Tryz.func27, Tryz.ntmps27
    go_wp2_with fail
    refine C.out.mono ?_
    rintro e w1 ⟨rfl, h1, ho1⟩
    have H := hide h1
    have HO1 := hide (Chg.of_only ho1 pQ.out)
    clear h1 ho1
    go_wp2
    go_ret
    rw [E.out, E2.out]
    exact ⟨rfl, ⟨_, _, _, _, H.out⟩, HO1.out⟩

set_option maxHeartbeats 2000000 in
set_option maxRecDepth 8000 in
theorem stopT_any (Q : Nat) (T : RSt) (P : Nat → Prop) (fv nv lv ov : Value) (n : Int) (w : World) (h : RefIs w Q T P fv nv lv ov) (hn : -9223372036854775808 ≤ n ∧ n ≤ 9223372036854775807) :
    Calls Tryz.prog 30 #[.pointer (some ⟨Q, 0, none⟩), .int .i64 n] w fun e w' => e = .returned (.tuple #[]) ∧ RIs w' Q (stopT T n) P ∧ Chg P w w' := by
  have H := hide h
  obtain ⟨c5, c6, c7, c8, fr⟩ := h.row.cells
  have pQ := hide h.pQ
  have OK := hide (show ROk (stopT T n) from ⟨h.ok.cal, h.ok.nfl, h.ok.nop, h.ok.nnw, h.ok.nls, h.ok.fnw, h.ok.fls, h.ok.fop, h.ok.siz, by show -1 ≤ max n (-1) ∧ max n (-1) ≤ 9223372036854775807; omega, h.ok.fai, h.ok.quo⟩)
  clear h
  have fin := hide (fun (m : Int) (d : Bool) (e1 : max n (-1) = m) (e2 : (T.dead || n == 0) = d) => show RIs ((w.setCell ⟨Q, 6, none⟩ (.int .i64 m)).setCell ⟨Q, 8, none⟩ (.bool d)) Q (stopT T n) P ∧ Chg P w ((w.setCell ⟨Q, 6, none⟩ (.int .i64 m)).setCell ⟨Q, 8, none⟩ (.bool d)) by
    subst e1
    subst e2
    have ob : Only Q w ((w.setCell ⟨Q, 6, none⟩ (.int .i64 (max n (-1)))).setCell ⟨Q, 8, none⟩ (.bool (T.dead || n == 0))) := (only_set w Q 6 _).set 8 _
    exact ⟨⟨_, _, _, _, H.out.only ob ((H.out.row.set6 _).set8 _) rfl rfl rfl rfl OK.out⟩, Chg.of_only ob pQ.out⟩)
  rcases (show n ≤ -1 ∨ n = 0 ∨ 0 < n by omega) with hh | hh | hh
  · have h0 : (n == 0) = false := by simp; omega
    cases hd : T.dead
    all_goals
      rw [hd] at c8 fin
      go_enter Tryz.func30, Tryz.ntmps30
      go_wp2
      go_end0
      exact ⟨rfl, fin.out _ _ (by omega) (by simp [h0])⟩
  · subst hh
    cases hd : T.dead
    all_goals
      rw [hd] at c8 fin
      go_enter Tryz.func30, Tryz.ntmps30
      go_wp2
      go_end0
      exact ⟨rfl, fin.out _ _ (by omega) (by simp)⟩
  · have h0 : (n == 0) = false := by simp; omega
    have h1 : ¬ (n ≤ -1) := by omega
    cases hd : T.dead
    all_goals
      rw [hd] at c8 fin
      go_enter Tryz.func30, Tryz.ntmps30
      go_wp2
      go_end0
      exact ⟨rfl, fin.out _ _ (by omega) (by simp [h0])⟩

end Go.Proofs.YtfogfpanfhmijaaGreat.Clep
