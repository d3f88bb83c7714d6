/- What change of a Disk does when called (a walk over the translated program): for any Disk of at most 2^40 calls, any change of names of at most 16 bytes. -/
import Derived.Test.YtdldpdllhnpdaaaGreatYa
import Derived.Deep.RegionHeldLaw
import Derived.Deep.RegionLaw
import Derived.Deep.AppendLies
import Derived.BigRegion
namespace Go.Proofs.YtdldpdllhnpdaaaGreat.Clep
open Go.RowKit Go.Maps
set_option linter.unusedVariables false
set_option maxRecDepth 10000

def Boxed (w : World) (c : Chn) (W : World) : Prop := Below w.heap.size w W ∧ W.heap[w.heap.size]? = some (.cells #[.int .i64 c.kind, .string c.name, .string c.to, .int .i64 c.file] 82 (0, 0))
theorem boxed_new (w : World) (c : Chn) : Boxed w c (w.alloc (.cells #[.int .i64 c.kind, .string c.name, .string c.to, .int .i64 c.file] 82)) :=
  ⟨(Below.refl _ w).alloc (Nat.le_refl _) _, (MapKept.heap_alloc w _).1⟩
theorem Boxed.lt {w W : World} {c : Chn} (h : Boxed w c W) : w.heap.size < W.heap.size := (Array.getElem?_eq_some_iff.1 h.2).1
theorem Boxed.below {w W W' : World} {c : Chn} (h : Boxed w c W) (hb : Below W.heap.size W W') : Boxed w c W' := ⟨h.1.trans (hb.mono h.1.size), by rw [hb.block _ h.lt]; exact h.2⟩
theorem Boxed.drew {w W : World} {c : Chn} (h : Boxed w c W) : Boxed w c W.drew := ⟨h.1.drew, h.2⟩
theorem Boxed.set1 {w W : World} {c : Chn} (h : Boxed w c W) : Boxed w c (W.setCell ⟨w.heap.size, 1, none⟩ (.string c.name)) := ⟨h.1.setCell (Nat.le_refl _) _, by rw [heap_setCell_same W _ 1 _ _ _ h.2]; rfl⟩
theorem Boxed.set2 {w W : World} {c : Chn} (h : Boxed w c W) : Boxed w c (W.setCell ⟨w.heap.size, 2, none⟩ (.string c.to)) := ⟨h.1.setCell (Nat.le_refl _) _, by rw [heap_setCell_same W _ 2 _ _ _ h.2]; rfl⟩
theorem Boxed.full {w W : World} {c : Chn} (h : Boxed w c W) : Boxed w c W ∧ W.cell? ⟨w.heap.size, 1, none⟩ = some (.string c.name) ∧ W.cell? ⟨w.heap.size, 2, none⟩ = some (.string c.to) ∧ W.frozen? ⟨w.heap.size, 1, none⟩ = false ∧ W.frozen? ⟨w.heap.size, 2, none⟩ = false :=
  ⟨h, cell_of h.2 rfl, cell_of h.2 rfl, frozen_of_row W _ _ _ _ h.2, frozen_of_row W _ _ _ _ h.2⟩
theorem Boxed.cells {w W : World} {c : Chn} (h : Boxed w c W) : W.cell? ⟨w.heap.size, 0, none⟩ = some (.int .i64 c.kind) ∧ W.cell? ⟨w.heap.size, 1, none⟩ = some (.string c.name) ∧ W.cell? ⟨w.heap.size, 2, none⟩ = some (.string c.to) ∧ W.cell? ⟨w.heap.size, 3, none⟩ = some (.int .i64 c.file) :=
  ⟨cell_of h.2 rfl, cell_of h.2 rfl, cell_of h.2 rfl, cell_of h.2 rfl⟩

theorem infoC : (Tryz.prog.info? 82).map (fun i => (i.zero, i.size, i.bytes)) = some (some (.agg #[.int .i64 0, .string ⟨#[]⟩, .string ⟨#[]⟩, .int .i64 0]), 4, 48) := by kernel_rfl
theorem ch_one (c : Chn) : ∀ u ∈ chCells c, u.oneCell' = true := by
  intro u hu
  simp only [chCells, List.mem_cons, List.not_mem_nil, or_false] at hu
  rcases hu with rfl | rfl | rfl | rfl <;> rfl
theorem ch_cells (w : World) (c : Chn) : ∀ j u, (chCells c)[j]? = some u → (w.alloc (.cells #[.int .i64 c.kind, .string c.name, .string c.to, .int .i64 c.file] 82)).cell? ((⟨w.heap.size, 0, none⟩ : Addr).add j) = some u := by
  intro j u hu
  rw [add_plain, Nat.zero_add]
  exact cell_of (MapKept.heap_alloc w _).1 (by simpa [chCells] using hu)

theorem FileIs.retag {w : World} {G G' : Gh} {f : Fl} (h : FileIs w G f) (hb : G'.β f.num = G.β f.num) (ht : ∀ i, 6 ≤ G.τ i → G'.τ i = G.τ i) : FileIs w G' f := by
  obtain ⟨v, h1, h2, h3⟩ := h.lies
  exact ⟨⟨v, by rw [hb]; exact h1, h2, fun g hg => by rw [ht g (by rw [h3 g hg]; omega)]; exact h3 g hg⟩, by rw [hb, ht _ (by rw [h.tag]; omega)]; exact h.tag, h.rng, h.len, h.lst⟩
theorem change_end {R : Nat} {S : St} {G : Gh} {c : Chn} {w w4 : World} {g cap : Nat} (h : DiskIs w R S G) (ok : Ok { S with names := doS S.names c, since := S.since ++ [c] })
    (T : Turn G.τ (fun n => n = 1 ∨ n = 3 ∨ n = 5) w w4) (hos : w4.os = w.os ∧ w4.tape = w.tape ∧ w4.output = w.output)
    (row : w4.heap[R]? = some (.cells ((dRow S G).setIfInBounds 9 (.slice (some ⟨g, 0, none⟩) (S.since.length + 1) cap)) 62 (0, 0)))
    (nm : w4.ownsMap Tryz.prog 9 (plainElem Tryz.prog 3) G.bn (Maps.size (doS S.names c)) (doS S.names c))
    (sc : w4.ownsRow 0 82 4 (.slice (some ⟨g, 0, none⟩) (S.since.length + 1) cap) (S.since.length + 1) (S.since.flatMap chCells ++ chCells c))
    (hg : G.τ g = 5 ∨ w.heap.size ≤ g) : ∃ G', DiskIs w4 R { S with names := doS S.names c, since := S.since ++ [c] } G' ∧ Kept G G' w w4 := by
  have hgl : g < w4.heap.size := (World.ownsRow.lt sc g rfl).2
  have hg' : G.τ g = 5 ∨ G.τ g = 0 := hg.imp id (fun h' => h.top g h')
  have ht : ∀ i, G.τ i ≠ 0 → G.τ i ≠ 5 → (fun i => if i = g then 5 else G.τ i) i = G.τ i := fun i h0 h5 => by
    show (if i = g then 5 else G.τ i) = _
    rw [if_neg]
    rintro rfl
    rcases hg' with e | e <;> omega
  obtain ⟨D, f1, f2, f3⟩ := h.fm
  refine ⟨{ G with sv := .slice (some ⟨g, 0, none⟩) (S.since.length + 1) cap, τ := fun i => if i = g then 5 else G.τ i }, ⟨row, ⟨D, map_keep T f1 (by rw [h.tf]; omega), f2, f3⟩, nm, map_keep T h.lm (by rw [h.tl]; omega), ?_, ?_, ?_, ?_, ?_, ?_, ?_, ?_, ok⟩, ?_⟩
  · simpa using sc
  · intro f hf
    refine (file_keep T (h.files f hf) (by omega) (by omega)).retag rfl fun i hi => ht i (by omega) (by omega)
  · exact (ht R (by rw [h.tR]; omega) (by rw [h.tR]; omega)).trans h.tR
  · exact (ht _ (by rw [h.tf]; omega) (by rw [h.tf]; omega)).trans h.tf
  · exact (ht _ (by rw [h.tn]; omega) (by rw [h.tn]; omega)).trans h.tn
  · exact (ht _ (by rw [h.tl]; omega) (by rw [h.tl]; omega)).trans h.tl
  · intro g' hg'
    obtain rfl : g = g' := by simpa [Value.ownBlock] using hg'
    exact if_pos rfl
  · intro i hi
    show (if i = g then 5 else G.τ i) = 0
    rw [if_neg (by omega)]
    exact h.top i (Nat.le_trans T.1 hi)
  · refine ⟨hos.1, hos.2.1, hos.2.2, T.1, fun i hi h0 => T.2 i hi (by rw [h0]; omega), fun i hi h0 => ?_⟩
    show (if i = g then 5 else G.τ i) = 0
    rw [if_neg]
    · exact h0
    · rintro rfl
      rcases hg with e | e <;> omega

theorem change_fin {R : Nat} {S : St} {G : Gh} {c : Chn} {w w2 w3 : World} {g cap : Nat} (o : Obj) (h : DiskIs w R S G) (ok : Ok { S with names := doS S.names c, since := S.since ++ [c] })
    (T : Turn G.τ (fun n => n = 3) w w2) (hos : w2.os = w.os ∧ w2.tape = w.tape ∧ w2.output = w.output)
    (nm : w2.ownsMap Tryz.prog 9 (plainElem Tryz.prog 3) G.bn (Maps.size (doS S.names c)) (doS S.names c))
    (g3 : ((w2.alloc o).drew).grownBy w3 G.sv.ownBlock) (row : w3.heap[R]? = some (.cells (dRow S G) 62 (0, 0)))
    (sc : w3.ownsRow 0 82 4 (.slice (some ⟨g, 0, none⟩) (S.since.length + 1) cap) (S.since.length + 1) (S.since.flatMap chCells ++ chCells c))
    (hg : G.sv.ownBlock = some g ∨ g = w2.heap.size + 1) :
    ∃ G', DiskIs (w3.setCell ⟨R, 9, none⟩ (.slice (some ⟨g, 0, none⟩) (S.since.length + 1) cap)) R { S with names := doS S.names c, since := S.since ++ [c] } G' ∧ Kept G G' w (w3.setCell ⟨R, 9, none⟩ (.slice (some ⟨g, 0, none⟩) (S.since.length + 1) cap)) := by
  have hR := h.lt
  have hT := T.1
  have hne : ∀ i, G.τ i ≠ 5 → some i ≠ G.sv.ownBlock := fun i hi e => hi (h.ts i e.symm)
  have hgR : g ≠ R := by
    rintro rfl
    rcases hg with e | e
    · have := h.ts _ e; have := h.tR; omega
    · omega
  have hs3 : w2.heap.size + 1 ≤ w3.heap.size := by have := g3.size; simpa using this
  refine change_end (g := g) (cap := cap) h ok ⟨by simp; omega, fun i hi ht => ?_⟩ ⟨g3.os.trans hos.1, g3.tape.trans hos.2.1, g3.output.trans hos.2.2⟩ (heap_setCell_same w3 R 9 _ _ _ row)
    (((nm.alloc o).drew.kept g3 (hne _ (by rw [h.tn]; omega))).setCell (fun e => by have e1 := h.tn; have e2 := h.tR; rw [show G.bn = R from e] at e1; omega) _)
    (owns_keep (τ := id) (t := fun n => n = R) ⟨by simp, fun i _ hi => heap_setCell_other w3 ⟨R, 9, none⟩ i _ hi⟩ sc (fun g' hg' => by
      obtain rfl : g = g' := by simpa [Value.ownBlock] using hg'
      exact hgR))
    (hg.imp (fun e => h.ts g e) (fun e => by omega))
  rw [heap_setCell_other w3 ⟨R, 9, none⟩ i _ (fun e => ht (by rw [show i = R from e]; exact .inl h.tR)), g3.block i (by simp; omega) (hne i (fun e => ht (.inr (.inr e))))]
  exact (Below.heap_alloc w2 o i (by omega)).trans (T.2 i hi (fun e => ht (.inr (.inl e))))

set_option maxHeartbeats 400000 in
set_option maxRecDepth 4000 in
theorem change_any (R : Nat) (S : St) (G : Gh) (c : Chn) (w : World) (h : DiskIs w R S G) (hm : S.calls ≤ 1099511627776) (h1 : c.name.size ≤ 16) (h2 : c.to.size ≤ 16) (h3 : c.kind ≤ 2) (h4 : c.file ≤ 1099511627777)
    (ok : Ok { S with names := doS S.names c, since := S.since ++ [c] }) :
    Calls Tryz.prog 44 #[.pointer (some ⟨R, 0, none⟩), chV c] w fun e w' => e = .returned (.tuple #[]) ∧ ∃ G', DiskIs w' R { S with names := doS S.names c, since := S.since ++ [c] } G' ∧ Kept G G' w w' := by
  have H := hide h
  have OK := hide ok
  have BX := (boxed_new w c).full
  have hC1 := hide (fun W => strClone_any c.name W (by omega))
  have hC2 := hide (fun W => strClone_any c.to W (by omega))
  clear h ok
  unfold chV
  go_enter Tryz.func44, Tryz.ntmps44
  go_wp2_with fail
  generalize w.alloc (.cells #[.int .i64 c.kind, .string c.name, .string c.to, .int .i64 c.file] 82) = wA at *
  go_region_held_law (fun W => Boxed w c W ∧ W.cell? ⟨w.heap.size, 1, none⟩ = some (.string c.name) ∧ W.cell? ⟨w.heap.size, 2, none⟩ = some (.string c.to) ∧ W.frozen? ⟨w.heap.size, 1, none⟩ = false ∧ W.frozen? ⟨w.heap.size, 2, none⟩ = false)
    (first | exact (Boxed.drew (And.left (by assumption))).full | exact (Boxed.set1 (And.left (by assumption))).full | exact (Boxed.set2 (And.left (by assumption))).full | exact (Boxed.below (And.left (by assumption)) (by assumption)).full)
    (first
      | (go_at_call 45; refine (hC1.out _).mono ?_; rintro e w' ⟨rfl, hb⟩)
      | (go_at_call 45; refine (hC2.out _).mono ?_; rintro e w' ⟨rfl, hb⟩))
  have B1 : Boxed w c ((w'.setCell ⟨w.heap.size, 1, none⟩ (.string c.name)).setCell ⟨w.heap.size, 2, none⟩ (.string c.to)) := And.left (by assumption)
  have HB1 := hide B1
  go_wp2_with fail
  generalize (w'.setCell ⟨w.heap.size, 1, none⟩ (.string c.name)).setCell ⟨w.heap.size, 2, none⟩ (.string c.to) = w1 at *
  clear BX hC1 hC2
  have D1 := H.out.below HB1.out.1
  have c7 := D1.cells.2.1.2.2.1
  obtain ⟨q0, q1, q2, q3⟩ := HB1.out.cells
  have hDo := hide (fun W (hW : W.ownsMap Tryz.prog 9 (plainElem Tryz.prog 3) G.bn (Maps.size S.names) S.names) => do_any G.bn S.names c W hW (by have := D1.ok.szn; omega) (by omega) (by omega) h3 h4)
  unfold chV at hDo
  have hnm := hide D1.nm
  clear D1 B1
  go_region_with (go_at_call 37; refine (hDo.out w1.drew hnm.out).mono ?_; rintro e w2 ⟨rfl, g2, o2, z2⟩)
  all_goals
    have hR := H.out.lt
    have hbn := H.out.nm.lt
    have nR : some R ≠ some G.bn := by intro e; have e1 := H.out.tR; have e2 := H.out.tn; rw [← Option.some.inj e] at e2; omega
    have nN : some w.heap.size ≠ some G.bn := by intro e; have := Option.some.inj e; omega
    have hs1 : w.heap.size < w1.heap.size := HB1.out.lt
    have hs2 : w1.heap.size ≤ w2.heap.size := g2.size
    have r2 : w2.heap[R]? = some (.cells (dRow S G) 62 (0, 0)) := by
      rw [g2.block R (show R < w1.heap.size by omega) nR]; exact (HB1.out.1.block R hR).trans H.out.row
    have x2 : w2.heap[w.heap.size]? = some (.cells #[.int .i64 c.kind, .string c.name, .string c.to, .int .i64 c.file] 82 (0, 0)) := by
      rw [g2.block w.heap.size hs1 nN]; exact HB1.out.2
    have T1 : Turn G.τ (fun n => n = 3) w w2 := ⟨by omega, fun i hi ht => by
      rw [g2.block i (show i < w1.heap.size by omega) (by intro e; rw [Option.some.inj e] at ht; exact ht H.out.tn)]
      exact HB1.out.1.block i hi⟩
    have hown := owns_keep T1 H.out.sc (fun g hg => by rw [H.out.ts g hg]; omega)
    have p9 := cell_of (i := 9) r2 rfl
    have p0 := cell_of (i := 0) x2 rfl
    have p1 := cell_of (i := 1) x2 rfl
    have p2 := cell_of (i := 2) x2 rfl
    have p3 := cell_of (i := 3) x2 rfl
    simp only [dRow] at p9
    simp at p9 p0 p1 p2 p3
    have f9 := frozen_of_row w2 R 9 _ _ r2
    have HO := hide (show ((w2.alloc (.cells #[.int .i64 c.kind, .string c.name, .string c.to, .int .i64 c.file] 82)).drew).ownsRow 0 82 4 G.sv S.since.length (S.since.flatMap chCells) from
      owns_keep (τ := fun _ => 0) (t := fun _ => False) (Turn.of_below ((Below.refl _ w2).alloc (Nat.le_refl _) _) _) hown (fun _ _ h => h))
    have HN := hide (ch_cells w2 c)
    have HI := hide (info_parts infoC)
    have HL := hide H.out.ok.szl
    have HT1 := hide T1
    have HR2 := hide r2
    have HO2 := hide o2
    have hO2 := hide (show w2.os = w.os ∧ w2.tape = w.tape ∧ w2.output = w.output from ⟨g2.os.trans HB1.out.1.os, g2.tape.trans HB1.out.1.tape, g2.output.trans HB1.out.1.output⟩)
    clear r2 x2 T1 hown g2 o2 c7 q0 q1 q2 q3 hDo hnm nR nN
    obtain ⟨i0, hi, hz0, hz1, hz2⟩ := HI.out
    have HF := hide (show ∀ w3 : World, ((w2.alloc (.cells #[.int .i64 c.kind, .string c.name, .string c.to, .int .i64 c.file] 82)).drew).grownBy w3 G.sv.ownBlock → w3.heap[R]? = some (.cells (dRow S G) 62 (0, 0)) ∧ w3.cell? ⟨R, 9, none⟩ = some G.sv ∧ w3.frozen? ⟨R, 9, none⟩ = false from fun w3 g3 => by
      have hr : w3.heap[R]? = some (.cells (dRow S G) 62 (0, 0)) := by
        rw [g3.block R (by simp; omega) (fun e => by have e1 := H.out.tR; have e2 := H.out.ts R e.symm; omega)]
        exact (Below.heap_alloc w2 _ R (by omega)).trans HR2.out
      exact ⟨hr, cell_of hr rfl, frozen_of_row w3 R 9 _ _ hr⟩)
    have a9 : (w2.alloc (.cells #[.int .i64 c.kind, .string c.name, .string c.to, .int .i64 c.file] 82)).cell? ⟨R, 9, none⟩ = some G.sv := by
      rw [World.cell?_of_block (w := w2) (Below.heap_alloc w2 _ R (by omega))]; exact p9
    go_wp2_with fail
    go_region_law (refine step_append_lies _ rfl (.tmp 22) (.tmp 24) 60 rfl 0 82 i0 _ 4 48 Tryz.underlying60 hi hz0 hz1 hz2 rfl (by decide) G.sv S.since.length _ (by simp [Act.eval]) HO.out ⟨w2.heap.size, 0, none⟩ 1 1 (chCells c) (by simp [Act.eval]) rfl HN.out (ch_one c) (by decide) (by unfold maxLen; have := HL.out; omega) (by have := HL.out; omega) (Nat.zero_le _) (w2.heap.size + 1) (by simp) ?_; intro g cap w3 o3 g3 l3 t3; have c9 := (HF.out w3 g3).2.1; have f9' := (HF.out w3 g3).2.2)
    all_goals
      go_end0
      exact ⟨rfl, change_fin _ H.out OK.out HT1.out hO2.out HO2.out g3 (HF.out w3 g3).1 o3 l3⟩

end Go.Proofs.YtdldpdllhnpdaaaGreat.Clep
