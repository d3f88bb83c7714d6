/- What the document's own BatchMay and Batch do when called (walks over the translated program): for any items. -/
import Derived.Test.YtdldpdllhnpdaaaLa
import Derived.Test.YtdldpdllhnpdaaaZn
import Derived.Test.YtdldpdllhnpdaaaZp
namespace Go.Proofs.Ytdldpdllhnpdaaa.Clep
open Go.RowKit
set_option linter.unusedVariables false
set_option maxRecDepth 10000

set_option maxHeartbeats 400000 in
theorem rmay_any (a : Option Addr) (n c : Nat) (l : List It) (w : World) (h : Is w a n c l) (hn : n ≤ 9223372036854775807) :
    Calls Try.prog 9 #[.slice a n c] w fun e w' => e = .returned (.int .i64 (bmay l)) ∧ Below w.heap.size w w' := by
  have hl := h.1
  have HM := hide (show bmay l = if l.length = 0 then 1 else if may l ≠ 0 then may l else if 60000 < (ibn l).length then 2 else 0 from rfl)
  have H0 := hide (fun W (hW : Below w.heap.size w W) => h.below hW (Nat.le_refl _))
  have C := hide (may_any a n c l w hn h)
  rw [hl] at HM
  have HL := hide (show may l = 0 → n ≤ 2000 from fun e => by
    unfold may at e
    split at e
    · cases e
    · omega)
  clear h hl
  generalize bmay l = M at *
  by_cases h0 : n = 0
  · have e : M = 1 := by rw [HM.out, if_pos h0]
    subst h0 e
    clear HM
    go_enter Try.func9, Try.ntmps9
    go_wp2
    go_ret
    exact ⟨rfl, Below.refl _ _⟩
  · rw [if_neg h0] at HM
    have hn0 : ¬ ((n : Int) = 0) := by omega
    go_enter Try.func9, Try.ntmps9
    go_wp2_with fail
    refine C.out.mono ?_
    rintro e w1 ⟨rfl, hb⟩
    have HB := hide hb
    by_cases hm : may l = 0
    · have R := hide (refbytes_any a n c l w1 (HL.out hm) (H0.out _ hb))
      rw [if_neg (by simp [hm])] at HM
      rw [hm]
      have hs := str_size (ibn l)
      have hsm := (ibn_len l (by rw [(H0.out _ hb).1]; exact HL.out hm)).2
      clear hb C HL hm H0
      generalize (ibn l).length = L at *
      go_wp2_with fail
      refine R.out.mono ?_
      rintro e w2 ⟨rfl, hb2⟩
      have HB2 := hide (bmore HB.out hb2)
      clear hb2 R
      by_cases hL : 60000 < L
      · have e : M = 2 := by rw [HM.out, if_pos hL]
        subst e
        clear HM
        go_wp2
        go_ret
        exact ⟨rfl, HB2.out⟩
      · have e : M = 0 := by rw [HM.out, if_neg hL]
        subst e
        clear HM
        go_wp2
        go_ret
        exact ⟨rfl, HB2.out⟩
    · have e : M = may l := by rw [HM.out, if_pos hm]
      subst e
      clear HM hb HL C
      go_wp2
      go_ret
      exact ⟨rfl, HB.out⟩
theorem rbatch_any (a : Option Addr) (n c : Nat) (l : List It) (w : World) (h : Is w a n c l) (hg : Bg l) :
    Calls Try.prog 15 #[.slice a n c] w fun e w' => e = .returned (.string (strOfNums (bt l))) ∧ Below w.heap.size w w' := by
  have hl := h.1
  have C := hide (refbytes_any a n c l w (by have := hg.len; omega) h)
  have HF := hide (fun W => refframe_any 1 (strOfNums (ibn l)) (ibn l) W (by omega) (by omega) rfl hg.sz hg.byte)
  have HBT := hide (show bt l = fr 1 (ibn l) from rfl)
  clear h hg hl
  go_enter Try.func15, Try.ntmps15
  go_wp2_with fail
  refine C.out.mono ?_
  rintro e w1 ⟨rfl, hb⟩
  have HB := hide hb
  clear hb C
  go_wp2_with fail
  refine (HF.out w1).mono ?_
  rintro e w2 ⟨rfl, hb2⟩
  have HB2 := hide (bmore HB.out hb2)
  clear hb2
  rw [← HBT.out]
  go_wp2
  go_ret
  exact ⟨rfl, HB2.out⟩

end Go.Proofs.Ytdldpdllhnpdaaa.Clep

/- What the statements' own function text does when called (a walk over the translated program): for at most 15 rows of together at most 150 items. -/
namespace Go.Proofs.Ytdldpdllhnpdaaa.Clep
open Go.RowKit
set_option linter.unusedVariables false
set_option maxRecDepth 10000

/-- The batches that may be. -/
def gl (zs : List Sl) : List (List It) := (zs.map Sl.l).filter (fun l => bmay l == 0)
theorem gl_take (zs : List Sl) (k : Nat) (z : Sl) (h : zs[k]? = some z) : gl (zs.take (k + 1)) = gl (zs.take k) ++ (if bmay z.l = 0 then [z.l] else []) := by
  unfold gl
  rw [List.take_add_one, h, List.map_append, List.filter_append]
  congr 1
  by_cases e : bmay z.l = 0
  · simp [e]
  · simp [e]
theorem gl_good (zs : List Sl) (hw : ∀ l ∈ zs.map Sl.l, ∀ x ∈ l, x.wf) : ∀ l ∈ gl zs, Bg l := by
  intro l hl
  have := List.mem_filter.1 hl
  exact bg_of (hw l this.1) (by simpa using this.2)
theorem gl_size : ∀ (zs : List Sl), (gl zs).length ≤ zs.length ∧ (gl zs).flatten.length ≤ sumL zs
  | [] => by simp [gl, sumL]
  | z :: zs => by
    have h := gl_size zs
    unfold gl sumL at *
    simp only [List.map_cons, List.filter_cons, List.sum_cons, List.length_cons]
    split
    · simp only [List.length_cons, List.flatten_cons, List.length_append]; omega
    · omega
theorem gl_bytes (zs : List Sl) (h1 : zs.length ≤ 15) (h2 : sumL zs ≤ 150) : (lg (gl zs)).length ≤ 6000 := by
  have := lg_len (gl zs)
  have := gl_size zs
  omega
/-- Where the batches end, as numbers in memory. -/
def iend (gs : List (List It)) : List Value := (List.range (gs.length + 1)).map fun i => Value.int .i64 (en gs i)
theorem en_app (gs : List (List It)) (l : List It) (i : Nat) (h : i ≤ gs.length) : en (gs ++ [l]) i = en gs i := by
  unfold en; rw [List.take_append_of_le_length h]
theorem iend_snoc (gs : List (List It)) (l : List It) : iend (gs ++ [l]) = iend gs ++ [Value.int .i64 ((lg (gs ++ [l])).length : Nat)] := by
  unfold iend
  rw [List.length_append, List.length_singleton, List.range_succ (n := gs.length + 1), List.map_append]
  congr 1
  · apply List.map_congr_left
    intro i hi
    have := List.mem_range.1 hi
    rw [en_app gs l i (by omega)]
  · simp only [List.map_cons, List.map_nil]
    rw [en_all _ _ (by simp)]
theorem row_other {w w' : World} {B e s n : Nat} {v : Value} {xs : List Value} {row : Option Nat} (h : w.ownsRow B e s v n xs) (hg : w.grownBy w' row) (hne : ∀ b, v.ownBlock = some b → row ≠ some b) : w'.ownsRow B e s v n xs := by
  refine World.ownsRow.kept h hg ?_
  cases hv : v.ownBlock with
  | none => exact .inl rfl
  | some k => exact .inr fun e => hne k hv e.symm
structure Tx (w wr : World) (gv ev : Value) (gs : List (List It)) (ys : List Sl) : Prop where
  bel : Below w.heap.size w wr
  ors : Ors wr w.heap.size gv ys
  is : ∀ z ∈ ys, Is w z.a z.n z.c z.l
  map : ys.map Sl.l = gs
  ends : wr.ownsRow w.heap.size 3 1 ev (gs.length + 1) (iend gs)
  apart : ∀ b, ev.ownBlock = some b → gv.ownBlock ≠ some b
theorem Tx.keep {w wr w' : World} {gv ev : Value} {gs : List (List It)} {ys : List Sl} (h : Tx w wr gv ev gs ys) (hb : Below wr.heap.size wr w') : Tx w w' gv ev gs ys :=
  ⟨bmore h.bel hb, h.ors.keep hb, h.is, h.map, row_keep h.ends hb, h.apart⟩
/-- What text answers. -/
def AnsX (zs : List Sl) (w : World) (e : Ending) (w' : World) : Prop := ∃ gv eb ec ys, e = .returned (.tuple #[.string (strOfNums (lg (gl zs))), gv, .slice (some ⟨eb, 0, none⟩) ((gl zs).length + 1) ec]) ∧
  Ors w' w.heap.size gv ys ∧ (∀ z ∈ ys, Is w z.a z.n z.c z.l) ∧ ys.map Sl.l = gl zs ∧ (∀ i, i ≤ (gl zs).length → w'.cell? ⟨eb, i, none⟩ = some (.int .i64 (en (gl zs) i))) ∧ (gl zs).length + 1 ≤ ec ∧ Below w.heap.size w w'
theorem cells_end {w wr : World} {gv ev : Value} {zs ys : List Sl} (h : Tx w wr gv ev (gl zs) ys) : AnsX zs w (.returned (.tuple #[.string (strOfNums (lg (gl zs))), gv, ev])) wr := by
  have hrow := h.ends
  obtain ⟨hl, ⟨hv, hn⟩ | ⟨g, c, cur, hv, hg, hh, hnc, hcm, hcs, hx⟩⟩ := hrow
  · omega
  · have he := h.ends
    subst hv
    refine ⟨gv, g, c, ys, rfl, h.ors, h.is, h.map, fun i hi => ?_, hnc, h.bel⟩
    rw [World.ownsRow.cellAt he i (by omega)]
    simp [iend, List.getElem?_range (show i < (gl zs).length + 1 by omega)]

set_option maxHeartbeats 1000000 in
theorem text_any (a : Option Addr) (n c : Nat) (zs : List Sl) (w : World) (h : Rws w a n c zs) (hn : n ≤ 15) (hs : sumL zs ≤ 150) :
    Calls Try.prog 12 #[.slice a n c] w (AnsX zs w) := by
  obtain ⟨iI, hiI, hzI0, hzI1, hzI2⟩ := info_parts infoZ
  have hl := h.1
  have HW := hide (rws_wf h)
  have HI0 := hide (fun k (hk : k < n) => rws_at h k hk)
  have H0 := hide (fun W (hW : Below w.heap.size w W) => h.below hW (Nat.le_refl _))
  have HGT := hide (gl_take zs)
  have HLN := hide (fun k => gl_bytes (zs.take k) (by rw [List.length_take]; omega) (Nat.le_trans (sumL_le zs k) hs))
  have HGS := hide (fun k => Nat.le_trans (gl_size (zs.take k)).1 (by rw [List.length_take]; omega : (zs.take k).length ≤ 15))
  have HALL := hide (show zs.take n = zs by rw [← hl]; exact List.take_length)
  clear h hl
  go_enter Try.func12, Try.ntmps12
  go_wp2
  go_loopw [5, 6, 7, 8] (fun s gv ev i wr => ∃ k : Nat, k ≤ n ∧ i = .int .i64 k ∧ s = .string (strOfNums (lg (gl (zs.take k)))) ∧ Hid (∃ ys, Tx w wr gv ev (gl (zs.take k)) ys)) (fun _ _ _ i _ => n - (intOf i).toNat)
  case atStart =>
    refine ⟨0, by omega, rfl, rfl, hide ⟨[], (Below.refl _ w).alloc (Nat.le_refl _) _, ors_nil _ _, by simp, by simp [gl], ?_, fun b _ e => by cases e⟩⟩
    have := World.ownsRow_lit (base := w.heap.size) (e := 3) (size := 1) w #[.int .i64 0] 1 (Nat.le_refl _) (by unfold maxLen; omega) rfl
    simpa [iend, gl, en, lg] using this
  case round =>
    obtain ⟨k, hk, rfl, rfl, htx⟩ := hrel
    by_cases hlt : k < n
    · obtain ⟨ys, hTx⟩ := htx.out
      have HT := hide hTx
      obtain ⟨z, b0, off0, hz, ea, hc0, hi0, hn0⟩ := HI0.out k hlt
      subst ea
      have hcl := hide (fun W (hW : Below w.heap.size w W) => (hW.cell (p := ⟨b0, off0 + k, none⟩) (World.block_lt_of_cell? w _ hc0)).trans hc0)
      have hcr := hcl.out wr hTx.bel
      have hIz := hide (fun W (hW : Below w.heap.size w W) => hi0.below hW (Nat.le_refl _))
      have hgt := hide (HGT.out k z hz)
      have hzw : ∀ x ∈ z.l, x.wf := hi0.2.2.1
      have M := hide (rmay_any _ _ _ _ wr (hIz.out _ hTx.bel) hn0)
      have HI0w := hide hi0
      have hB0 := HLN.out k
      have hB1 := HLN.out (k + 1)
      have hG0 := HGS.out k
      clear hc0 hi0 hz htx hTx
      obtain ⟨za, zn, zc, zl⟩ := z
      simp only at hcl hcr hIz hgt hzw M hn0 HI0w
      by_cases hm : bmay zl = 0
      · rw [if_pos hm] at hgt
        have HB := hide (bg_of hzw hm)
        rw [hm] at M
        rw [hgt.out] at hB1
        have hla := hide (show lg (gl (zs.take k) ++ [zl]) = lg (gl (zs.take k)) ++ bt zl from by rw [lg_app]; simp [lg])
        have hsn := hide (iend_snoc (gl (zs.take k)) zl)
        have hgl : Hid ((gl (zs.take k) ++ [zl]).length = (gl (zs.take k)).length + 1) := hide (by simp)
        generalize hG : gl (zs.take k) = G at *
        go_wp2_with fail
        refine M.out.mono ?_
        rintro e w1 ⟨rfl, hb1⟩
        have HT1 := hide (HT.out.keep hb1)
        have hcr1 := hcl.out w1 HT1.out.bel
        have RB := hide (rbatch_any za zn zc zl w1 (hIz.out _ HT1.out.bel) HB.out)
        clear hb1 HT hcr M
        go_wp2_with fail
        refine RB.out.mono ?_
        rintro e w2 ⟨rfl, hb2⟩
        have HT2 := hide (HT1.out.keep hb2)
        have hcr2 := hcl.out w2 HT2.out.bel
        have hadd : ∀ W, (Op.stringOp .add (strOfNums (lg G)) (strOfNums (bt zl))).run Try.prog W = .ok (.string (strOfNums (lg (G ++ [zl])))) W := fun W => by
          rw [hla.out, ← str_app]
          exact run_string_add_sum W _ _ (by rw [str_size, str_size]; have := hB1; rw [hla.out, List.length_append] at this; omega)
        have hszN : (strOfNums (lg (G ++ [zl]))).size = (lg (G ++ [zl])).length := str_size _
        have HIz2 := hide (hIz.out _ HT2.out.bel)
        have HOR := hide HT2.out.ors
        have hyl : Hid (ys.length ≤ 1000000) := hide (by
          have := congrArg List.length HT2.out.map
          rw [List.length_map] at this
          omega)
        have HAP := hide (show 0 < zn → ∀ x, za = some x → u6.ownBlock ≠ some x.block from fun h0 x hx e => by
          have h1 := (World.ownsRow.lt HOR.out.own _ e).1
          have h2 := is_lt HI0w.out h0 x hx
          omega)
        clear hb2 HT1 hcr1 RB
        generalize (lg (G ++ [zl])).length = N at *
        generalize hS1 : strOfNums (lg (G ++ [zl])) = S1 at *
        go_wp2_with (first
          | (at_builtin; refine wpList_append_row rfl (.tmp 29) (.tmp 34) rfl w.heap.size u6 ys rfl HOR.out ⟨za, zn, zc, zl⟩ rfl rfl HIz2.out hn0 HAP.out hyl.out HT2.out.bel.size ?_)
          | fail)
        intro gv' w3 ho3 hg3 hb3 hl3
        have hE3 := row_other HT2.out.ends hg3 (fun b hb e => HT2.out.apart b hb e)
        have hap3 : ∀ b, u7.ownBlock = some b → gv'.ownBlock ≠ some b := fun b hb e => by
          rcases hl3 with h | h
          · exact HT2.out.apart b hb (by rw [← h]; exact e)
          · have := (World.ownsRow.lt HT2.out.ends b hb).2
            rw [h] at e; injection e with e; omega
        have HB3 := hide (HT2.out.bel.trans hb3)
        have HO3 := hide ho3
        have HE3 := hide hE3
        have HA3 := hide hap3
        clear ho3 hg3 hb3 hl3 hE3 hap3 hcr2
        go_wp2_with (first
          | (at_builtin; refine wpList_append_own_at _ rfl (.tmp 36) (.tmp 39) 35 rfl w.heap.size 3 iI (.int .i64 0) 1 8 Try.underlying35 hiI hzI0 hzI1 hzI2 rfl (by decide) _ _ _ rfl (HE3.out.alloc _) ⟨w3.heap.size, 0, none⟩ 1 1 [.int .i64 N] rfl rfl ?d1 ?d2 ?d3 ?d4 ?d5 ?_)
          | fail)
        case d1 => exact cell_one_new _ _ _
        case d2 => intro u hu; simp at hu; subst hu; rfl
        case d3 => unfold maxLen; omega
        case d4 => omega
        case d5 => have := HB3.out.size; simp; omega
        intro v4 w4 ho4 hg4 _ hl4
        have bA := (Below.refl w3.heap.size w3).alloc (Nat.le_refl _) (Obj.cells #[Value.int IntKind.i64 N] 3)
        have hsz : (w3.alloc (Obj.cells #[Value.int IntKind.i64 N] 3)).heap.size = w3.heap.size + 1 := by simp
        try rw [hsz] at hl4
        have HTF : Hid (∃ ys, Tx w w4 gv' v4 (G ++ [zl]) ys) := hide (by
          have hbB := HB3.out.trans (bA.mono HB3.out.size)
          refine ⟨ys ++ [⟨za, zn, zc, zl⟩], ⟨hbB.grown hg4 hbB.size (fun k hk => (World.ownsRow.lt HE3.out k hk).1), ?_, ?_, ?_, ?_, ?_⟩⟩
          · refine (HO3.out.keep bA).grown hg4 ?_ (fun z hz h0 x hx e => ?_)
            · cases hv : gv'.ownBlock with
              | none => exact .inl rfl
              | some q => exact .inr fun e => HA3.out q e.symm hv
            · have h1 := (World.ownsRow.lt HE3.out _ e.symm).1
              have h2 : x.block < w.heap.size := by
                rcases List.mem_append.1 hz with hz | hz
                · exact is_lt (HT2.out.is z hz) h0 x hx
                · rw [List.mem_singleton.1 hz] at h0 hx; exact is_lt HI0w.out h0 x hx
              omega
          · intro z hz
            rcases List.mem_append.1 hz with hz | hz
            · exact HT2.out.is z hz
            · rw [List.mem_singleton.1 hz]; exact HI0w.out
          · rw [List.map_append, HT2.out.map]; rfl
          · rw [hgl.out, hsn.out]; exact ho4
          · intro b hb e
            rcases hl4 with h | h
            · exact HA3.out b (by rw [← h]; exact hb) e
            · have := (World.ownsRow.lt HO3.out.own b e).2
              rw [h] at hb; injection hb with hb; omega)
        clear ho4 hg4 hl4 bA HO3 HE3 HA3 HB3 HT2 HOR
        go_wp2
        go_roundw
        case rel => exact ⟨k + 1, by omega, by go_num, by rw [hgt.out, hS1], by rw [hgt.out]; exact HTF⟩
        case measure => simp [intOf]; omega
      · rw [if_neg hm, List.append_nil] at hgt
        generalize bmay zl = E at *
        go_wp2_with fail
        refine M.out.mono ?_
        rintro e w1 ⟨rfl, hb1⟩
        have HT1 := hide (show ∃ ys, Tx w w1 u6 u7 (gl (zs.take (k + 1))) ys from ⟨ys, by rw [hgt.out]; exact HT.out.keep hb1⟩)
        clear hb1 HT hcr M
        go_wp2
        go_roundw
        case rel => exact ⟨k + 1, by omega, by go_num, by rw [hgt.out], HT1⟩
        case measure => simp [intOf]; omega
    · obtain rfl : k = n := by omega
      rw [HALL.out] at htx ⊢
      have HR := hide (show AnsX zs w (.returned (.tuple #[.string (strOfNums (lg (gl zs))), u6, u7])) wr from by
        obtain ⟨ys, hT⟩ := htx.out
        exact cells_end hT)
      clear htx
      go_wp2
      refine bodyPost_ret (by simp [results, Try.results12, go_sem]) rfl HR.out

end Go.Proofs.Ytdldpdllhnpdaaa.Clep
