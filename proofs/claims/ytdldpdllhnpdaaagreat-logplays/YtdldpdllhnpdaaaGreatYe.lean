/- What settle of a Disk does when called (a walk over the translated program): for any Disk of at most 2^40 calls. -/
import Derived.Test.YtdldpdllhnpdaaaGreatYd
namespace Go.Proofs.YtdldpdllhnpdaaaGreat.Clep
open Go.RowKit Go.Maps
set_option linter.unusedVariables false
set_option maxRecDepth 10000

def isNamed (D : DataW Unit) (left : Lit → Bool) (k : Int) : Bool := (entries D).any fun p => !left p.1 && numOf p.2 == k
def settleS (S : St) : St := { S with lasting := S.names, since := [], files := S.files.filter fun f => isNamed S.names (fun _ => false) f.num }
/-- What the new map of files holds, behind some of the names. -/
def Part (β : Nat → Nat) (D : DataW Unit) (left : Lit → Bool) (N : DataW Unit) : Prop := ∀ k : Int, Maps.has N (.int .i64 k) = isNamed D left k ∧ (Maps.has N (.int .i64 k) = true → ∀ z, N.atKey (.int .i64 k) z = i64L (β k.toNat))
theorem part_start (β : Nat → Nat) (D : DataW Unit) (hc : Canon D) : Part β D (Maps.has D) (.map []) := by
  obtain ⟨es, rfl, _, hk⟩ := hc
  intro k
  refine ⟨?_, fun h => by cases h⟩
  show false = _
  symm
  unfold isNamed
  rw [List.any_eq_false]
  intro p hp
  simp only [entries] at hp
  have : Maps.has (.map es) p.1 = true := by
    rw [Maps.has_eq, List.any_eq_true]
    exact ⟨p, hp, WideAt.sameKey_self (hk p hp)⟩
  rw [this]
  simp
theorem named_step {D : DataW Unit} {left : Lit → Bool} {kl : Lit} {c : Int} (hc : Canon D) (hK : WideAt.IsKeyLit kl) (hat : ∀ zd, D.atKey kl zd = i64L c) (k : Int) :
    isNamed D (fun z => left z && !z.sameKey kl) k = (isNamed D left k || c == k) := by
  obtain ⟨p0, h0, e1, e2⟩ := entry_of hc hat
  obtain ⟨es, rfl, hr, _⟩ := hc
  have hap := Maps.apart_of_rising hr
  unfold isNamed
  simp only [entries] at h0 ⊢
  rw [Bool.eq_iff_iff, Bool.or_eq_true, List.any_eq_true, List.any_eq_true]
  have hsame : WideAt.IsKeyLit kl → kl.sameKey kl = true := WideAt.sameKey_self
  constructor
  · rintro ⟨p, hp, h⟩
    rw [Bool.and_eq_true] at h
    by_cases hs : p.1.sameKey kl = true
    · right
      have e : p = p0 := by
        have e' : p.1 = p0.1 := (WideAt.sameKey_eq hs).trans e1.symm
        by_cases hpp : p = p0
        · exact hpp
        · exfalso
          have : ∀ l : List (Lit × DataW Unit), l.Pairwise (fun p q => p.1 ≠ q.1) → p ∈ l → p0 ∈ l → False := by
            intro l
            induction l with
            | nil => intro _ h; cases h
            | cons x r ih =>
              intro hl h1 h2
              rw [List.pairwise_cons] at hl
              rcases List.mem_cons.1 h1 with h1' | h1'
              · rcases List.mem_cons.1 h2 with h2' | h2'
                · exact hpp (h1'.trans h2'.symm)
                · exact hl.1 p0 h2' (by rw [← h1']; exact e')
              · rcases List.mem_cons.1 h2 with h2' | h2'
                · exact hl.1 p h1' (by rw [← h2']; exact e'.symm)
                · exact ih hl.2 h1' h2'
          exact this es hap hp h0
      rw [e, e2] at h
      exact h.2
    · left
      refine ⟨p, hp, ?_⟩
      rw [Bool.not_eq_true] at hs
      rw [Bool.and_eq_true]
      rw [hs] at h
      exact ⟨by simpa using h.1, h.2⟩
  · rintro (⟨p, hp, h⟩ | h)
    · refine ⟨p, hp, ?_⟩
      rw [Bool.and_eq_true] at h ⊢
      refine ⟨?_, h.2⟩
      have := h.1
      simp only [Bool.not_eq_true'] at this
      rw [this]
      rfl
    · refine ⟨p0, h0, ?_⟩
      rw [e1, hsame hK, e2]
      simpa [numOf, i64L] using h
theorem part_step {β : Nat → Nat} {D N : DataW Unit} {left : Lit → Bool} {kl : Lit} {f : Fl} (h : Part β D left N) (hN : IsMap N) (hc : Canon D) (hK : WideAt.IsKeyLit kl) (hat : ∀ zd, D.atKey kl zd = i64L f.num) :
    Part β D (fun z => left z && !z.sameKey kl) (N.put (.int .i64 f.num) (i64L (β f.num))) := by
  intro k
  rw [named_step hc hK hat]
  by_cases hk : (f.num : Int) = k
  · subst hk
    rw [Maps.has_put_same (k := .int .i64 _) hN trivial]
    refine ⟨by simp, fun _ z => ?_⟩
    rw [Maps.atKey_put_same (k := .int .i64 _) hN trivial]
    simp
  · have hne : Lit.int .i64 k ≠ .int .i64 (f.num : Int) := by intro e; injection e with _ e; exact hk e.symm
    rw [Maps.has_put_other hne]
    refine ⟨by rw [(h k).1]; simp [hk], fun hh z => ?_⟩
    rw [Maps.atKey_put_other hne]
    exact (h k).2 hh z
theorem part_end {β : Nat → Nat} {fs : List Fl} {D N : DataW Unit} {left : Lit → Bool} (h : Part β D left N) (hl : ∀ k, left k = false) (hr : fs.Pairwise fun f g => f.num < g.num) (hL : Leads fs D) : FilesD β (fs.filter fun f => isNamed D (fun _ => false) f.num) N := by
  have e : left = fun _ => false := funext hl
  subst e
  intro k
  have hf : fileAt (fs.filter fun f => isNamed D (fun _ => false) f.num) k = if isNamed D (fun _ => false) k then fileAt fs k else none := by
    unfold fileAt
    rw [List.find?_filter]
    have ep : (fun f : Fl => decide (isNamed D (fun _ => false) (f.num : Int) = true ∧ ((f.num : Int) == k) = true)) = fun f : Fl => isNamed D (fun _ => false) k && (f.num : Int) == k := by
      funext f
      by_cases e : (f.num : Int) = k
      · rw [e]; simp
      · have : ((f.num : Int) == k) = false := by simpa using e
        rw [this, Bool.and_false]; simp
    rw [ep]
    cases isNamed D (fun _ => false) k with
    | false => simp
    | true => simp
  rw [hf]
  cases hn : isNamed D (fun _ => false) k with
  | false =>
    have h1 := (h k).1
    rw [hn] at h1
    rw [if_neg (by simp)]
    exact ⟨Maps.atKey_of_not_has h1 _, h1⟩
  | true =>
    have h1 := (h k).1
    rw [hn] at h1
    rw [if_pos rfl]
    obtain ⟨p, hp, hpk⟩ := List.any_eq_true.1 hn
    obtain ⟨f, hfm, e⟩ := hL p hp
    have : k = f.num := by rw [e] at hpk; simpa [numOf, i64L] using Eq.symm (show (f.num : Int) = k by simpa [numOf, i64L] using hpk)
    subst this
    rw [fileAt_of hr hfm, h1, (h _).2 h1]
    exact ⟨by simp, rfl⟩

end Go.Proofs.YtdldpdllhnpdaaaGreat.Clep

/- What settle and SyncDir of a Disk do when called: the walks over the translated program. For any Disk of fewer than 2^40 calls. -/
namespace Go.Proofs.YtdldpdllhnpdaaaGreat.Clep
open Go.RowKit Go.Maps
set_option linter.unusedVariables false
set_option maxRecDepth 10000

theorem clone_any (b n : Nat) (D : DataW Unit) (w : World) (h : w.ownsMap Tryz.prog 9 (plainElem Tryz.prog 3) b n D) :
    Calls Tryz.prog 47 #[.map (some b)] w fun e w' => e = .returned (.map (some w.heap.size)) ∧ w'.ownsMap Tryz.prog 9 (plainElem Tryz.prog 3) w.heap.size n D ∧ Below w.heap.size w w' := by
  have c := AnyW.maps_Clone_owns Tryz.cloneA 9 (plainElem Tryz.prog 3) b n D w h
  change Calls Tryz.prog 47 _ _ _ at c
  refine c.mono ?_
  rintro e w' ⟨h1, h2, _, h4⟩
  exact ⟨h1, h2, h4⟩
theorem settle_ok {S : St} (h : Ok S) : Ok { S with lasting := S.names, since := [] } := by
  obtain ⟨a1, a2, a3, a4, a5, a6, a7, a8, a9, a10, a11⟩ := h
  exact ⟨a1, a2, a3, a3, fun c hc => (by cases hc), a6, by show Maps.size S.names + 0 ≤ _; omega, a8, a9, a10, a11⟩
theorem settle_ok2 {S : St} (h : Ok S) : Ok (settleS S) := by
  obtain ⟨a1, a2, a3, a4, a5, a6, a7, a8, a9, a10, a11⟩ := h
  have L : Leads (S.files.filter fun f => isNamed S.names (fun _ => false) f.num) S.names := fun p hp => by
    obtain ⟨f, hf, e⟩ := a3 p hp
    refine ⟨f, List.mem_filter.2 ⟨hf, ?_⟩, e⟩
    unfold isNamed
    rw [List.any_eq_true]
    exact ⟨p, hp, by rw [e]; simp [numOf, i64L]⟩
  exact ⟨a1.filter _, fun f hf => a2 f (List.mem_filter.1 hf).1, L, L, fun c hc => (by cases hc), a6, by show Maps.size S.names + 0 ≤ S.calls; omega, a8, a9, a10, a11⟩
/-- A Disk whose lasting names, and what was done since, are not looked at. -/
structure DiskMid (w : World) (R : Nat) (S : St) (G : Gh) : Prop where
  row : w.heap[R]? = some (.cells (dRow S G) 62 (0, 0))
  fm : ∃ D, w.ownsMap Tryz.prog 3 ptrElem G.bf (Maps.size D) D ∧ FilesD G.β S.files D ∧ Maps.size D ≤ S.calls
  nm : w.ownsMap Tryz.prog 9 (plainElem Tryz.prog 3) G.bn (Maps.size S.names) S.names
  files : ∀ f ∈ S.files, FileIs w G f
  tR : G.τ R = 1
  tf : G.τ G.bf = 2
  tn : G.τ G.bn = 3
  top : ∀ i, w.heap.size ≤ i → G.τ i = 0
  ok : Ok S
theorem DiskIs.mid {w : World} {R : Nat} {S : St} {G : Gh} (h : DiskIs w R S G) : DiskMid w R S G := ⟨h.row, h.fm, h.nm, h.files, h.tR, h.tf, h.tn, h.top, h.ok⟩
theorem DiskMid.lt {w : World} {R : Nat} {S : St} {G : Gh} (h : DiskMid w R S G) : R < w.heap.size := (Array.getElem?_eq_some_iff.1 h.row).1
theorem DiskMid.below {w w' : World} {R : Nat} {S : St} {G : Gh} (h : DiskMid w R S G) (hb : Below w.heap.size w w') : DiskMid w' R S G := by
  have T : Turn G.τ (fun _ => False) w w' := Turn.of_below hb _
  obtain ⟨D, f1, f2, f3⟩ := h.fm
  exact ⟨drow_keep T h.row id, ⟨D, map_keep T f1 id, f2, f3⟩, map_keep T h.nm id, fun f hf => file_keep T (h.files f hf) id id, h.tR, h.tf, h.tn, fun i hi => h.top i (Nat.le_trans hb.size hi), h.ok⟩
theorem DiskMid.cells {w : World} {R : Nat} {S : St} {G : Gh} (h : DiskMid w R S G) :
    w.cell? ⟨R, 7, none⟩ = some (.map (some G.bn)) ∧ w.cell? ⟨R, 8, none⟩ = some (.map (some G.bl)) ∧ w.cell? ⟨R, 9, none⟩ = some G.sv ∧ ∀ i, w.frozen? ⟨R, i, none⟩ = false := by
  refine ⟨?_, ?_, ?_, fun i => frozen_of_row w R i _ _ h.row⟩ <;> simp [World.cell?, h.row, dRow]
/-- The names have been copied, and what was done to them since is forgotten. -/
theorem lasting_set {R : Nat} {S : St} {G : Gh} {w w1 : World} (h : DiskMid w R S G) (o1 : w1.ownsMap Tryz.prog 9 (plainElem Tryz.prog 3) w.heap.size (Maps.size S.names) S.names) (b1 : Below w.heap.size w w1) :
    ∃ G', G'.bf = G.bf ∧ G'.bn = G.bn ∧ DiskIs ((w1.setCell ⟨R, 8, none⟩ (.map (some w.heap.size))).setCell ⟨R, 9, none⟩ (.slice none 0 0)) R { S with lasting := S.names, since := [] } G' ∧ Kept G G' w ((w1.setCell ⟨R, 8, none⟩ (.map (some w.heap.size))).setCell ⟨R, 9, none⟩ (.slice none 0 0)) := by
  have hR := h.lt
  have hl1 := o1.lt
  have r1 : w1.heap[R]? = some (.cells (dRow S G) 62 (0, 0)) := (b1.block R hR).trans h.row
  have r2 := heap_setCell_same w1 R 8 _ _ (.map (some w.heap.size)) r1
  have r3 := heap_setCell_same _ R 9 _ _ (.slice none 0 0) r2
  generalize hW : (w1.setCell ⟨R, 8, none⟩ (.map (some w.heap.size))).setCell ⟨R, 9, none⟩ (.slice none 0 0) = W at *
  have hoth : ∀ i, i ≠ R → W.heap[i]? = w1.heap[i]? := fun i hi => by
    rw [← hW, heap_setCell_other _ ⟨R, 9, none⟩ i _ hi, heap_setCell_other _ ⟨R, 8, none⟩ i _ hi]
  have hsz : W.heap.size = w1.heap.size := by rw [← hW]; simp
  have T : Turn G.τ (fun n => n = 1) w W := ⟨by rw [hsz]; exact b1.size, fun i hi ht => by
    rw [hoth i (fun e => ht (by rw [e]; exact h.tR))]
    exact b1.block i hi⟩
  have hne : R ≠ w.heap.size := by omega
  have ht : ∀ i, G.τ i ≠ 0 → (if i = w.heap.size then 4 else G.τ i) = G.τ i := fun i h0 => by
    rw [if_neg]
    rintro rfl
    exact h0 (h.top _ (Nat.le_refl _))
  obtain ⟨D, f1, f2, f3⟩ := h.fm
  refine ⟨{ G with bl := w.heap.size, sv := .slice none 0 0, τ := fun i => if i = w.heap.size then 4 else G.τ i }, rfl, rfl, ⟨?_, ⟨D, map_keep T f1 (by rw [h.tf]; omega), f2, f3⟩, map_keep T h.nm (by rw [h.tn]; omega), ?_, ⟨rfl, .inl ⟨rfl, rfl⟩⟩, ?_, ?_, ?_, ?_, if_pos rfl, fun g hg => (by cases hg), ?_, settle_ok h.ok⟩, ?_⟩
  · rw [r3]; rfl
  · obtain ⟨es, clock, hh, r⟩ := o1
    exact ⟨es, clock, by rw [hoth _ hne.symm]; exact hh, r⟩
  · intro f hf
    exact (file_keep T (h.files f hf) (by omega) (by omega)).retag rfl fun i hi => ht i (by omega)
  · exact (ht R (by rw [h.tR]; omega)).trans h.tR
  · exact (ht _ (by rw [h.tf]; omega)).trans h.tf
  · exact (ht _ (by rw [h.tn]; omega)).trans h.tn
  · intro i hi
    show (if i = w.heap.size then 4 else G.τ i) = 0
    rw [if_neg (by omega)]
    exact h.top i (by have := b1.size; omega)
  · refine ⟨by rw [← hW]; exact b1.os, by rw [← hW]; exact b1.tape, by rw [← hW]; exact b1.output, T.1, fun i hi h0 => T.2 i hi (by rw [h0]; omega), fun i hi h0 => ?_⟩
    show (if i = w.heap.size then 4 else G.τ i) = 0
    rw [if_neg (by omega)]
    exact h0
/-- The new map of files takes the old one's place. -/
theorem files_set {R : Nat} {S : St} {G : Gh} {w w1 : World} {N : DataW Unit} (h : DiskIs w R { S with lasting := S.names, since := [] } G) (o1 : w1.ownsMap Tryz.prog 3 ptrElem w.heap.size (Maps.size N) N) (hF : FilesD G.β (settleS S).files N) (hN : Maps.size N ≤ S.calls) (b1 : Below w.heap.size w w1) (hS : Ok S) :
    ∃ G', DiskIs (w1.setCell ⟨R, 6, none⟩ (.map (some w.heap.size))) R (settleS S) G' ∧ Kept G G' w (w1.setCell ⟨R, 6, none⟩ (.map (some w.heap.size))) := by
  have hR := h.lt
  have hl1 := o1.lt
  have r1 : w1.heap[R]? = _ := (b1.block R hR).trans h.row
  have r2 := heap_setCell_same w1 R 6 _ _ (.map (some w.heap.size)) r1
  generalize hW : w1.setCell ⟨R, 6, none⟩ (.map (some w.heap.size)) = W at *
  have hoth : ∀ i, i ≠ R → W.heap[i]? = w1.heap[i]? := fun i hi => by
    rw [← hW, heap_setCell_other _ ⟨R, 6, none⟩ i _ hi]
  have hsz : W.heap.size = w1.heap.size := by rw [← hW]; simp
  have T : Turn G.τ (fun n => n = 1) w W := ⟨by rw [hsz]; exact b1.size, fun i hi ht => by
    rw [hoth i (fun e => ht (by rw [e]; exact h.tR))]
    exact b1.block i hi⟩
  have hne : R ≠ w.heap.size := by omega
  have ht : ∀ i, G.τ i ≠ 0 → (if i = w.heap.size then 2 else G.τ i) = G.τ i := fun i h0 => by
    rw [if_neg]
    rintro rfl
    exact h0 (h.top _ (Nat.le_refl _))
  refine ⟨{ G with bf := w.heap.size, τ := fun i => if i = w.heap.size then 2 else G.τ i }, ⟨?_, ⟨N, ?_, hF, hN⟩, map_keep T h.nm (by rw [h.tn]; omega), map_keep T h.lm (by rw [h.tl]; omega), owns_keep T h.sc (fun g hg => by rw [h.ts g hg]; omega), ?_, ?_, if_pos rfl, ?_, ?_, ?_, ?_, settle_ok2 hS⟩, ?_⟩
  · rw [r2]; rfl
  · obtain ⟨es, clock, hh, r⟩ := o1
    exact ⟨es, clock, by rw [hoth _ hne.symm]; exact hh, r⟩
  · intro f hf
    exact (file_keep T (h.files f (List.mem_filter.1 hf).1) (by omega) (by omega)).retag rfl fun i hi => ht i (by omega)
  · exact (ht R (by rw [h.tR]; omega)).trans h.tR
  · exact (ht _ (by rw [h.tn]; omega)).trans h.tn
  · exact (ht _ (by rw [h.tl]; omega)).trans h.tl
  · exact fun g hg => (ht g (by rw [h.ts g hg]; omega)).trans (h.ts g hg)
  · intro i hi
    show (if i = w.heap.size then 2 else G.τ i) = 0
    rw [if_neg (by omega)]
    exact h.top i (by have := b1.size; omega)
  · refine ⟨by rw [← hW]; exact b1.os, by rw [← hW]; exact b1.tape, by rw [← hW]; exact b1.output, T.1, fun i hi h0 => T.2 i hi (by rw [h0]; omega), fun i hi h0 => ?_⟩
    show (if i = w.heap.size then 2 else G.τ i) = 0
    rw [if_neg (by omega)]
    exact h0

set_option maxHeartbeats 400000 in
set_option maxRecDepth 4000 in
theorem settle_any (R : Nat) (S : St) (G : Gh) (w : World) (h : DiskMid w R S G) (hm : S.calls ≤ 1099511627776) :
    Calls Tryz.prog 24 #[.pointer (some ⟨R, 0, none⟩)] w fun e w' => e = .returned (.tuple #[]) ∧ ∃ G', DiskIs w' R (settleS S) G' ∧ Kept G G' w w' := by
  have H := hide h
  have c7 := h.cells.1
  have hC := hide (clone_any G.bn _ S.names w h.nm)
  have hcn := hide (h.nm.canon lawS)
  have hmm := @run_makeMap Tryz.prog
  clear h
  go_enter Tryz.func24, Tryz.ntmps24
  go_wp2_with fail
  refine hC.out.mono ?_
  rintro e w1 ⟨rfl, o1, b1⟩
  obtain ⟨G1, e1, e2, D1, K1⟩ := lasting_set H.out o1 b1
  have hd1 := H.out.below b1
  have c8 := hd1.cells.2.1
  have c9 := hd1.cells.2.2.1
  have f8 := hd1.cells.2.2.2 8
  have f9 := hd1.cells.2.2.2 9
  have k9 : (w1.setCell ⟨R, 8, none⟩ (.map (some w.heap.size))).cell? ⟨R, 9, none⟩ = some G.sv := by
    rw [World.cell?_setCell_other (h := by simp)]; exact c9
  have HD1 := hide D1
  have HK1 := hide K1
  have x7 := D1.cells.2.1.2.2.1
  have hsz : ((w1.setCell ⟨R, 8, none⟩ (.map (some w.heap.size))).setCell ⟨R, 9, none⟩ (.slice none 0 0)).heap.size = w1.heap.size := by simp
  have y7 : (((w1.setCell ⟨R, 8, none⟩ (.map (some w.heap.size))).setCell ⟨R, 9, none⟩ (.slice none 0 0)).alloc (.map #[] 0)).cell? ⟨R, 7, none⟩ = some (.map (some G.bn)) := by
    rw [World.cell?_of_block (Below.heap_alloc _ _ R D1.lt), ← e2]; exact x7
  have hown := D1.nm.alloc (.map #[] 0)
  rw [e2] at hown
  have HOWN := hide hown
  have E1 := hide e1
  have E2 := hide e2
  have hbase := hide (World.ownsMap_made ((w1.setCell ⟨R, 8, none⟩ (.map (some w.heap.size))).setCell ⟨R, 9, none⟩ (.slice none 0 0)) Tryz.prog 3 ptrElem)
  have HS := hide hsz
  clear D1 K1 hd1 o1 b1 hC c7 hsz x7 hown e1 e2
  go_wp2_with (first
    | (at_range; refine wpList_range_own _ rfl _ 54 rfl 9 3 lawS Tryz.underlying54 _ G.bn _ _ rfl HOWN.out ?_; intro w0 hrg0 hg0 hs0)
    | go_in)
  have HRG := hide hrg0
  have HG0 := hide hg0
  clear hrg0 hg0 hs0 HOWN y7 k9 c8 c9 f8 f9
  generalize (w1.setCell ⟨R, 8, none⟩ (.map (some w.heap.size))).setCell ⟨R, 9, none⟩ (.slice none 0 0) = w2 at *
  simp only [World.size_alloc] at HRG
  rw [HS.out] at HRG hbase
  generalize w1.heap.size = B at *
  have hbB : G.bn < B := by have h1 := H.out.nm.lt; have h2 := HK1.out.size; have h3 := HS.out; omega
  have HB0 := hide (show Below B w2 w0 from ((Below.refl B w2).alloc (by rw [HS.out]; exact Nat.le_refl _) (.map #[] 0)).grown HG0.out (by simp [HS.out]) (fun k hk => by cases hk))
  have HN0 := hide (tight (hbase.out.kept HG0.out (by simp)))
  clear hbase HG0 hmm
  go_frame
  rw [show (w2.alloc (.map #[] 0)).heap.size = B + 1 from by simp [HS.out]]
  go_loopw [4] (fun _ wr => ∃ (left : Lit → Bool) (cnt : Nat) (N : DataW Unit), Hid (wr.ranges Tryz.prog 9 (plainElem Tryz.prog 3) G.bn (B + 1) (Maps.size S.names) S.names left cnt) ∧ Hid (wr.ownsMap Tryz.prog 3 ptrElem B (Maps.size N) N) ∧ Hid (Part G1.β S.names left N) ∧
    Hid (Maps.size N + cnt ≤ Maps.size S.names) ∧ Hid (Below B w2 wr)) (fun _ wr => wr.rangeLeft G.bn (B + 1))
  case atStart => exact ⟨_, _, _, HRG, HN0, hide (part_start _ _ hcn.out), hide (by show 0 + _ ≤ _; omega), HB0⟩
  case round =>
    obtain ⟨left, cnt, N, hrg, hN, hP, hz, hbl⟩ := hrel
    go_wp2_with (first
      | (at_next; refine next_si _ rfl _ rfl G.bn (B + 1) _ _ _ _ rfl hrg.out ?_ ?_)
      | fail)
    · intro _ hl0
      have hb2 : Below w2.heap.size w2 wr := by rw [HS.out]; exact hbl.out
      have hN2 := hN.out
      rw [← HS.out] at hN2
      have FS := hide (files_set HD1.out hN2 (part_end hP.out hl0 H.out.ok.rise H.out.ok.named) (by have h1 := hz.out; have h2 := H.out.ok.szn; omega) hb2 H.out.ok)
      have D3 := HD1.out.below hb2
      have c6 := D3.cells.2.1.2.1
      have f6 := D3.cells.2.2 6
      rw [HS.out] at FS
      clear hb2 hN2 D3
      go_wp2
      go_end0
      obtain ⟨G', D', K'⟩ := FS.out
      exact ⟨rfl, G', D', HK1.out.trans K'⟩
    · intro x c w3 cnt1 hwc hlk hat hrg1 hlt hg1 hs1 hen
      obtain ⟨f, hf⟩ := Ok.leads H.out.ok.rise H.out.ok.named hcn.out hat
      obtain rfl : c = f.num := (fileAt_mem hf).2
      have B1 := hbl.out.grown hg1 (by have h1 := hbl.out.size; have h3 := HS.out; omega) (fun k hk => by cases hk; omega)
      have D3 := HD1.out.below (by rw [HS.out]; exact B1)
      have c6 := D3.cells.2.1.2.1
      obtain ⟨DD, f1, f2, f3⟩ := D3.fm
      have hlook := look_file G1 rfl f1 f2 hwc
      rw [show fileAt ({ S with lasting := S.names, since := [] } : St).files (f.num : Int) = some f from hf] at hlook
      simp only [ptrOf] at hlook
      have N3 := hide (hN.out.kept hg1 (by simp))
      have HP1 := hide (part_step hP.out hN.out.isMap hcn.out (kl := key x) trivial hat)
      have hzp := Maps.size_put (hN.out.tidy lawI) (k := .int .i64 (f.num : Int)) (i64L (G1.β f.num))
      have HZ := hide (show Maps.size (N.put (.int .i64 (f.num : Int)) (i64L (G1.β f.num))) + cnt1 ≤ Maps.size S.names by have h1 := hz.out; split at hzp <;> omega)
      have hzm : Maps.size N < 9223372036854775807 := by have h1 := hz.out; have h2 := H.out.ok.szn; omega
      have HR1 := hide hrg1
      have HB1 := hide B1
      have HLT := hide hlt
      have hsz3 : B ≤ w3.heap.size := by have h1 := B1.size; have h3 := HS.out; omega
      have kk := keyOf_int_mk Tryz.underlying3 hwc
      have KKK := hide kk
      clear B1 D3 f1 f2 f3 hrg1 hat hlk hlt hs1 hzp hg1 hf kk
      go_wp2_with (first
        | (at_mapUpdate; refine wpList_mapUpdate_own _ rfl _ _ _ 52 rfl 3 78 lawI Tryz.underlying52 _ B _ _ rfl N3.out hzm _ _ _ rfl rfl KKK.out (i64L (G1.β f.num)) [] (ptrElem_mk _) ?_; intro w4 o4 g4)
        | go_in)
      go_frame
      go_roundw
      case rel => exact ⟨_, cnt1, _, hide (HR1.out.kept g4 (by simp; omega) (by simp)), hide (tight o4), HP1, HZ, hide (HB1.out.grown g4 hsz3 (fun k hk => by cases hk; exact Nat.le_refl _))⟩
      case measure =>
        rw [(HR1.out.kept g4 (by simp; omega) (by simp)).left_eq, hrg.out.left_eq]
        exact HLT.out

end Go.Proofs.YtdldpdllhnpdaaaGreat.Clep

/- What crash of a file does when called (a walk over the translated program): for any file of at most 250000 bytes, any numbers. -/
namespace Go.Proofs.YtdldpdllhnpdaaaGreat.Clep
open Go.RowKit Go.Maps
set_option linter.unusedVariables false
set_option maxRecDepth 10000

def keepN (f : Fl) (ks : List Int) : Nat := if f.bs.length = f.lasts then 0 else match ks with
  | [] => f.bs.length - f.lasts
  | k :: _ => (k % ((f.bs.length - f.lasts : Nat) + 1 : Int)).toNat
def restK (f : Fl) (ks : List Int) : List Int := if f.bs.length = f.lasts then ks else ks.tail
def crashF (f : Fl) (ks : List Int) : Fl := { f with lasts := f.lasts + keepN f ks, bs := f.bs.take (f.lasts + keepN f ks) }
theorem keepN_le (f : Fl) (ks : List Int) (h : f.lasts ≤ f.bs.length) : f.lasts + keepN f ks ≤ f.bs.length := by
  unfold keepN
  split
  · omega
  · cases ks with
    | nil => simp only; omega
    | cons k r =>
      simp only
      have h1 := Int.emod_lt_of_pos k (show (0 : Int) < ((f.bs.length - f.lasts : Nat) : Int) + 1 by omega)
      omega

/-- A file's last step of a crash: its bytes are cut. -/
structure Near (b V : Nat) (Q : Nat → Prop) (ao : Option Addr) (cap L m : Nat) (ks : List Int) (w w5 : World) : Prop where
  row : w5.heap[b]? = some (.cells #[.slice ao L cap, .int .i64 m] 89 (0, 0))
  oth : ∀ i, i ≠ b → i ≠ V → w5.heap[i]? = w.heap[i]?
  size : w5.heap.size = w.heap.size
  os : w5.os = w.os ∧ w5.tape = w.tape ∧ w5.output = w.output
  var : ∃ v', Var1 w5 V v' ∧ NumV Q w5 v' ks
theorem near_set {b V : Nat} {Q : Nat → Prop} {ao : Option Addr} {cap L A m : Nat} {v' : Value} {ks : List Int} {w W : World} (hW : W.heap[b]? = some (.cells #[.slice ao L cap, .int .i64 A] 89 (0, 0))) (h1 : One V w W) (hV : Var1 W V v') (hk : NumV Q W v' ks) (hbV : b ≠ V) (hQ : ¬ Q b) :
    Near b V Q ao cap L m ks w (W.setCell ⟨b, 1, none⟩ (.int .i64 m)) := by
  have ho : ∀ i, i ≠ b → (W.setCell ⟨b, 1, none⟩ (.int .i64 m)).heap[i]? = W.heap[i]? := fun i hi => heap_setCell_other _ ⟨b, 1, none⟩ i _ hi
  refine ⟨by rw [heap_setCell_same W b 1 _ _ _ hW]; rfl, fun i hi hiV => (ho i hi).trans (h1.block i hiV), by simp [h1.size], ⟨h1.os, h1.tape, h1.output⟩, v', ?_, hk.keep fun i _ hi => ho i (fun e => hQ (by rw [← e]; exact hi))⟩
  obtain ⟨T, hT⟩ := hV
  exact ⟨T, (ho V hbV.symm).trans hT⟩
theorem near_end {b V : Nat} {Q : Nat → Prop} {ao : Option Addr} {cap L m : Nat} {ks : List Int} {w w5 : World} (h : Near b V Q ao cap L m ks w w5) (hbV : b ≠ V) (hQ : ¬ Q b) :
    (w5.setCell ⟨b, 0, none⟩ (.slice ao m cap)).heap[b]? = some (.cells #[.slice ao m cap, .int .i64 m] 89 (0, 0)) ∧ (∀ i, i ≠ b → i ≠ V → (w5.setCell ⟨b, 0, none⟩ (.slice ao m cap)).heap[i]? = w.heap[i]?) ∧ (w5.setCell ⟨b, 0, none⟩ (.slice ao m cap)).heap.size = w.heap.size ∧
      ((w5.setCell ⟨b, 0, none⟩ (.slice ao m cap)).os = w.os ∧ (w5.setCell ⟨b, 0, none⟩ (.slice ao m cap)).tape = w.tape ∧ (w5.setCell ⟨b, 0, none⟩ (.slice ao m cap)).output = w.output) ∧
      ∃ v', Var1 (w5.setCell ⟨b, 0, none⟩ (.slice ao m cap)) V v' ∧ NumV Q (w5.setCell ⟨b, 0, none⟩ (.slice ao m cap)) v' ks := by
  have ho : ∀ i, i ≠ b → (w5.setCell ⟨b, 0, none⟩ (.slice ao m cap)).heap[i]? = w5.heap[i]? := fun i hi => heap_setCell_other _ ⟨b, 0, none⟩ i _ hi
  obtain ⟨v', ⟨T, hT⟩, hk⟩ := h.var
  exact ⟨by rw [heap_setCell_same w5 b 0 _ _ _ h.row]; rfl, fun i hi hiV => (ho i hi).trans (h.oth i hi hiV), by simp [h.size], h.os, v', ⟨T, (ho V hbV.symm).trans hT⟩, hk.keep fun i _ hi => ho i (fun e => hQ (by rw [← e]; exact hi))⟩
theorem keepN_none (f : Fl) (h : f.bs.length ≠ f.lasts) : keepN f [] = f.bs.length - f.lasts := by unfold keepN; rw [if_neg h]
theorem keepN_some (f : Fl) (k : Int) (r : List Int) (h : f.bs.length ≠ f.lasts) : keepN f (k :: r) = (k % ((f.bs.length - f.lasts : Nat) + 1 : Int)).toNat := by unfold keepN; rw [if_neg h]

set_option maxHeartbeats 400000 in
set_option maxRecDepth 8000 in
theorem crash_file (b V : Nat) (Q : Nat → Prop) (ao : Option Addr) (cap : Nat) (f : Fl) (v : Value) (ks : List Int) (w : World) (hb : w.heap[b]? = some (.cells #[.slice ao f.bs.length cap, .int .i64 f.lasts] 89 (0, 0))) (hc : f.bs.length ≤ cap) (hcm : cap ≤ maxLen) (hn : ao = none → f.bs.length = 0 ∧ cap = 0)
    (hao : ∀ x, ao = some x → x.spot = none) (hl : f.bs.length ≤ 250000) (hla : f.lasts ≤ f.bs.length) (hV : Var1 w V v) (hk : NumV Q w v ks) (hbV : b ≠ V) (hQ : ¬ Q b) (hQV : ¬ Q V) :
    Calls Tryz.prog 35 #[.pointer (some ⟨b, 0, none⟩), .pointer (some ⟨V, 0, none⟩)] w fun e w' => e = .returned (.tuple #[]) ∧
      w'.heap[b]? = some (.cells #[.slice ao (f.lasts + keepN f ks) cap, .int .i64 (f.lasts + keepN f ks : Nat)] 89 (0, 0)) ∧ (∀ i, i ≠ b → i ≠ V → w'.heap[i]? = w.heap[i]?) ∧ w'.heap.size = w.heap.size ∧ (w'.os = w.os ∧ w'.tape = w.tape ∧ w'.output = w.output) ∧
      ∃ v', Var1 w' V v' ∧ NumV Q w' v' (restK f ks) := by
  have HV := hide hV
  have HK := hide hk
  have HB := hide hb
  have hKL := hide (keepN_le f ks hla)
  have c0 := cell_of (i := 0) hb rfl
  have c1 := cell_of (i := 1) hb rfl
  simp at c0 c1
  clear hV hk hb
  obtain ⟨L, hL⟩ : ∃ L, f.bs.length = L := ⟨_, rfl⟩
  obtain ⟨A, hA⟩ : ∃ A, f.lasts = A := ⟨_, rfl⟩
  have HL := hide hL
  have HA := hide hA
  rw [hL] at c0 hc hn hl hla
  rw [hA] at c1 hla
  clear hL hA
  have HB' := hide (show w.heap[b]? = some (.cells #[.slice ao L cap, .int .i64 A] 89 (0, 0)) by rw [← HL.out, ← HA.out]; exact HB.out)
  have f0 := frozen_of_row w b 0 _ _ HB'.out
  have f1 := frozen_of_row w b 1 _ _ HB'.out
  by_cases h0 : L = A
  · subst h0
    go_enter Tryz.func35, Tryz.ntmps35
    go_wp2
    go_quiet (fail)
    have hK0 : keepN f ks = 0 := by unfold keepN; rw [if_pos (by rw [HL.out, HA.out])]
    have hR0 : restK f ks = ks := by unfold restK; rw [if_pos (by rw [HL.out, HA.out])]
    have NE := hide (near_set (m := L) (W := w.drewN nq) HB'.out (⟨rfl, rfl, rfl, rfl, fun _ _ => rfl⟩ : One V w (w.drewN nq)) HV.out HK.out hbV hQ)
    have HK0 := hide hK0
    have HR0 := hide hR0
    clear hK0 hR0
    go_wp2
    generalize (w.drewN nq).setCell ⟨b, 1, none⟩ (.int .i64 L) = w5 at *
    have d0 := cell_of (i := 0) NE.out.row rfl
    have d1 := cell_of (i := 1) NE.out.row rfl
    have e0 := frozen_of_row w5 b 0 _ _ NE.out.row
    simp at d0 d1
    cases ao with
    | none =>
      obtain ⟨rfl, rfl⟩ := hn rfl
      go_region
      go_end0
      rw [HK0.out, HR0.out, HA.out]
      exact ⟨rfl, near_end NE.out hbV hQ⟩
    | some x =>
      obtain ⟨xb, xo, xs⟩ := x
      obtain rfl : xs = none := hao _ rfl
      go_region
      go_end0
      rw [HK0.out, HR0.out, HA.out]
      exact ⟨rfl, near_end NE.out hbV hQ⟩
  · have hpos : (0 : Int) < (L : Int) - (A : Int) := by omega
    have hL0 : ¬ L = 0 := by omega
    have hdiff : f.bs.length ≠ f.lasts := by rw [HL.out, HA.out]; exact h0
    have HDf := hide hdiff
    clear hdiff
    cases ks with
    | nil =>
      have NX := hide (fun n => dnext_any Q V v [] (w.drewN n) HV.out HK.out)
      have hsum : (A : Int) + ((L : Int) - (A : Int)) = (L : Int) := by omega
      go_enter Tryz.func35, Tryz.ntmps35
      go_wp2
      go_quiet (fail)
      go_wp2_with fail
      refine (NX.out nq).mono ?_
      rintro e w1 ⟨rfl, O1, v1, V1, N1⟩
      have HR1 := hide (show w1.heap[b]? = _ from (O1.block b hbV).trans HB'.out)
      have k1 := cell_of (i := 1) HR1.out rfl
      simp at k1
      have g1 := frozen_of_row w1 b 1 _ _ HR1.out
      have NE := hide (near_set (m := L) HR1.out (⟨O1.os, O1.tape, O1.output, O1.size, O1.block⟩ : One V w w1) V1 N1 hbV hQ)
      have HK0 := hide (show f.lasts + keepN f [] = L by rw [keepN_none f HDf.out, HL.out, HA.out]; omega)
      have HR0 := hide (show restK f [] = [].tail by unfold restK; rw [if_neg HDf.out])
      clear O1 V1 N1
      go_wp2
      generalize (w1).setCell ⟨b, 1, none⟩ (.int .i64 L) = w5 at *
      have d0 := cell_of (i := 0) NE.out.row rfl
      have d1 := cell_of (i := 1) NE.out.row rfl
      have e0 := frozen_of_row w5 b 0 _ _ NE.out.row
      simp at d0 d1
      cases ao with
      | none => exact absurd (hn rfl).1 hL0
      | some x =>
        obtain ⟨xb, xo, xs⟩ := x
        obtain rfl : xs = none := hao _ rfl
        go_region
        go_end0
        rw [HK0.out, HR0.out]
        exact ⟨rfl, near_end NE.out hbV hQ⟩
    | cons k r =>
      obtain ⟨m, hm⟩ : ∃ m : Nat, k % ((L : Int) - (A : Int) + 1) = m := by
        have := Int.emod_nonneg k (show (L : Int) - (A : Int) + 1 ≠ 0 by omega)
        exact ⟨_, (Int.toNat_of_nonneg this).symm⟩
      have hml := Int.emod_lt_of_pos k (show (0 : Int) < (L : Int) - (A : Int) + 1 by omega)
      rw [hm] at hml
      have NX := hide (fun n => dnext_any Q V v (k :: r) (w.drewN n) HV.out HK.out)
      have hkw : (Lit.int .i64 k).wf = true := by obtain ⟨_, _, _, _, _, h4, _⟩ := HK.out; exact h4 k List.mem_cons_self
      have MO := hide (fun W => modulo_any k ((L : Int) - (A : Int) + 1) W (by omega) (by omega) hkw)
      have HM := hide hm
      clear hkw hm
      go_enter Tryz.func35, Tryz.ntmps35
      go_wp2
      go_quiet (fail)
      go_wp2_with fail
      refine (NX.out nq).mono ?_
      rintro e w1 ⟨he, O1, v1, V1, N1⟩
      obtain rfl : e = .returned (.tuple #[.int .i64 k, .bool true]) := he
      have HR1 := hide (show w1.heap[b]? = _ from (O1.block b hbV).trans HB'.out)
      have k1 := cell_of (i := 1) HR1.out rfl
      simp at k1
      have g1 := frozen_of_row w1 b 1 _ _ HR1.out
      have NE := hide (show Near b V Q ao cap L (A + m) _ w (w1.setCell ⟨b, 1, none⟩ (.int .i64 ((A : Int) + (m : Int)))) from near_set (m := A + m) HR1.out (⟨O1.os, O1.tape, O1.output, O1.size, O1.block⟩ : One V w w1) V1 N1 hbV hQ)
      have HK0 := hide (show f.lasts + keepN f (k :: r) = A + m by
        rw [keepN_some f k r HDf.out, HL.out, HA.out, show ((L - A : Nat) : Int) + 1 = (L : Int) - (A : Int) + 1 from by omega, HM.out]; simp)
      have HR0 := hide (show restK f (k :: r) = (k :: r).tail by unfold restK; rw [if_neg HDf.out])
      clear O1 V1 N1
      go_wp2_with fail
      refine (MO.out w1).mono ?_
      rintro e w2 ⟨rfl, rfl⟩
      rw [HM.out]
      go_wp2
      generalize (w2).setCell ⟨b, 1, none⟩ (.int .i64 ((A : Int) + (m : Int))) = w5 at *
      have d0 := cell_of (i := 0) NE.out.row rfl
      have d1 := cell_of (i := 1) NE.out.row rfl
      have e0 := frozen_of_row w5 b 0 _ _ NE.out.row
      simp at d0 d1
      cases ao with
      | none => exact absurd (hn rfl).1 hL0
      | some x =>
        obtain ⟨xb, xo, xs⟩ := x
        obtain rfl : xs = none := hao _ rfl
        go_region
        go_end0
        rw [HK0.out, HR0.out]
        exact ⟨rfl, near_end NE.out hbV hQ⟩

end Go.Proofs.YtdldpdllhnpdaaaGreat.Clep

/- What a Crash of a Disk comes to, and the keys of its files in order. No conditions but the model's bounds. -/
namespace Go.Proofs.YtdldpdllhnpdaaaGreat.Clep
open Go.RowKit Go.Maps Go.Sort Go.Shelf
set_option linter.unusedVariables false
set_option maxRecDepth 10000

def crashAll : List Fl → List Int → List Fl × List Int
  | [], ks => ([], ks)
  | f :: r, ks => (crashF f ks :: (crashAll r (restK f ks)).1, (crashAll r (restK f ks)).2)
def evenK : List Int → Bool
  | [] => true
  | k :: _ => k.tmod 2 == 0
def doAll : List Chn → DataW Unit → List Int → DataW Unit
  | [], D, _ => D
  | c :: r, D, ks => doAll r (if evenK ks then doS D c else D) ks.tail
def crashS (S : St) (ks : List Int) : St :=
  { settleS { S with files := (crashAll S.files ks).1, names := doAll S.since S.lasting (crashAll S.files ks).2, lasting := doAll S.since S.lasting (crashAll S.files ks).2, since := [] } with stop := 0, fail := 0, dead := false }
theorem crashAll_snoc : ∀ (l : List Fl) (f : Fl) (ks : List Int), crashAll (l ++ [f]) ks = ((crashAll l ks).1 ++ [crashF f (crashAll l ks).2], restK f (crashAll l ks).2)
  | [], f, ks => rfl
  | g :: l, f, ks => by
    rw [List.cons_append]
    simp only [crashAll]
    rw [crashAll_snoc l f (restK g ks)]
    rfl
theorem doAll_snoc : ∀ (l : List Chn) (c : Chn) (D : DataW Unit) (ks : List Int), doAll (l ++ [c]) D ks = if evenK (ks.drop l.length) then doS (doAll l D ks) c else doAll l D ks
  | [], c, D, ks => rfl
  | d :: l, c, D, ks => by
    rw [List.cons_append]
    simp only [doAll, List.length_cons]
    rw [doAll_snoc l c _ ks.tail, List.drop_tail]
theorem crashAll_nums : ∀ (l : List Fl) (ks : List Int), (crashAll l ks).1.map (·.num) = l.map (·.num)
  | [], ks => rfl
  | f :: l, ks => by
    simp only [crashAll, List.map_cons]
    rw [crashAll_nums l]
    rfl
theorem upd_mid {l r : List Fl} {f : Fl} {g : Fl → Fl} (h : (l ++ f :: r).Pairwise fun f g => f.num < g.num) : updF (l ++ f :: r) f.num g = l ++ g f :: r := by
  rw [List.pairwise_append] at h
  obtain ⟨_, h2, h3⟩ := h
  rw [List.pairwise_cons] at h2
  unfold updF
  rw [List.map_append, List.map_cons, if_pos rfl]
  congr 1
  · conv => rhs; rw [← List.map_id l]
    refine List.map_congr_left fun x hx => ?_
    have := h3 x hx f List.mem_cons_self
    rw [if_neg (by omega)]
    rfl
  · congr 1
    conv => rhs; rw [← List.map_id r]
    refine List.map_congr_left fun x hx => ?_
    have := h2.1 x hx
    rw [if_neg (by omega)]
    rfl

theorem keys_any (b : Nat) (w : World) : Calls Tryz.prog 34 #[.map (some b)] w fun e w' => e = .returned (.func (.func 59) #[] #[.pointer (some ⟨w.heap.size, 0, none⟩)]) ∧ w' = w.alloc (.cells #[.map (some b)] 52) :=
  (callsIn_wide (n := 5)).1 (AnyZI.keys_in Tryz.keysA Fence.wide 5 trivial rfl (some b) w)
theorem sortsA (m : Nat) : AnyZI.SortsIn Tryz.prog Tryz.sortedA_ren Fence.wide m :=
  ⟨fun blk off cap ss W hH hblk hsz => callsIn_wide.2 (AnyM.slices_Sort_int Tryz.sortA blk off cap ss W hH hblk hsz),
   fun p cap W => callsIn_wide.2 (AnyM.slices_Sort_int_none Tryz.sortA p cap W)⟩
set_option maxHeartbeats 1000000 in
theorem sorted_any (b nn : Nat) (D : DataW Unit) (w : World) (hown : w.ownsMap Tryz.prog 3 ptrElem b nn D) (hmax : Maps.size D ≤ maxLen) (hbytes : Maps.size D * 8 ≤ 140737488355328) :
    Calls Tryz.prog 33 #[.func (.func 59) #[] #[.pointer (some ⟨w.heap.size, 0, none⟩)]] (w.alloc (.cells #[.map (some b)] 52)) fun e w' => ∃ (v : Value) (ss : List Int), e = .returned v ∧ ss.Perm (intKeys D) ∧
      w'.ownsRow (w.heap.size + 1) 3 1 v ss.length ((ss.mergeSort (fun x y => decide (x ≤ y))).map encZ) ∧ Below (w.heap.size + 1) (w.alloc (.cells #[.map (some b)] 52)) w' := by
  have hbl := hown.lt
  have hseq : SeqGives Fence.wide 2 Tryz.prog 59 #[.pointer (some ⟨w.heap.size, 0, none⟩)] encZ (fun ss => ss.Perm (intKeys D)) (Maps.size D) (w.alloc (.cells #[.map (some b)] 52)) :=
    AnyZI.keys_gives (ρ := Tryz.keysA_ren) { Tryz.keysA with } Fence.wide _ trivial rfl (by omega) w.heap.size b nn D _ (by simp) (by simp) (by
      obtain ⟨es, clock, hb, Ft, hs, hD⟩ := hown
      exact ⟨es, clock, (Below.heap_alloc _ _ b hbl).trans hb, Ft, hs, hD⟩)
  have cS := AnyZI.sorted_in Tryz.sortedA Fence.wide 5 trivial trivial trivial trivial rfl (by omega) (sortsA _) (enters_of Tryz.func58 (by kernel_rfl) rfl) 59 #[.pointer (some ⟨w.heap.size, 0, none⟩)] trivial (enters_of Tryz.func59 (by kernel_rfl) rfl) _ _ hmax hbytes _ hseq
  change CallsIn _ _ Tryz.prog 33 _ _ _ at cS
  refine ((callsIn_wide (n := 5)).1 cS).mono ?_
  rintro e w' ⟨v, ss, rfl, hS, hrow, hnil, hb⟩
  have hsz : (w.alloc (.cells #[.map (some b)] 52)).heap.size = w.heap.size + 1 := by simp
  rw [hsz] at hrow hb
  exact ⟨v, ss, rfl, hS, hrow, hb⟩
theorem sort_files {fs : List Fl} {ss : List Int} {D : DataW Unit} (hp : (fs.map fun f => (f.num : Int)).Perm (intKeys D)) (hs : ss.Perm (intKeys D)) (hr : fs.Pairwise fun f g => f.num < g.num) : ss.mergeSort (fun x y => decide (x ≤ y)) = fs.map fun f => (f.num : Int) := by
  rw [show (fun x y : Int => decide (x ≤ y)) = leI from rfl, mergeSort_of_perm_i (hs.trans hp.symm)]
  refine List.mergeSort_of_pairwise ?_
  rw [List.pairwise_map]
  exact hr.imp (fun {a b} h => by simp only [leI, decide_eq_true_eq]; omega)

end Go.Proofs.YtdldpdllhnpdaaaGreat.Clep

/- What Crash of a Disk does when called: what the walk needs of one file, of one change of names, and at its ends. For any Disk of at most 2^40 calls, any numbers. -/
namespace Go.Proofs.YtdldpdllhnpdaaaGreat.Clep
open Go.RowKit Go.Maps
set_option linter.unusedVariables false
set_option maxRecDepth 10000

def tagV (G : Gh) (V : Nat) : Gh := { G with τ := fun i => if i = V then 6 else G.τ i }
theorem tag_new {R : Nat} {S : St} {G : Gh} {w : World} (h : DiskIs w R S G) (o : Obj) : DiskIs (w.alloc o) R S (tagV G w.heap.size) ∧ Kept G (tagV G w.heap.size) w (w.alloc o) := by
  have hb := (Below.refl w.heap.size w).alloc (Nat.le_refl _) o
  have ht : ∀ i, G.τ i ≠ 0 → (tagV G w.heap.size).τ i = G.τ i := fun i h0 => by
    show (if i = w.heap.size then 6 else G.τ i) = _
    rw [if_neg]
    rintro rfl
    exact h0 (h.top _ (Nat.le_refl _))
  have h' := h.below hb
  refine ⟨⟨h'.row, h'.fm, h'.nm, h'.lm, h'.sc, fun f hf => (h'.files f hf).retag rfl fun i hi => ht i (by omega), ?_, ?_, ?_, ?_, ?_, ?_, h.ok⟩, ⟨rfl, rfl, rfl, by simp, fun i hi _ => Below.heap_alloc w o i hi, fun i hi h0 => ?_⟩⟩
  · rw [ht R (by rw [h.tR]; omega)]; exact h.tR
  · exact (ht G.bf (by rw [h.tf]; omega)).trans h.tf
  · exact (ht G.bn (by rw [h.tn]; omega)).trans h.tn
  · exact (ht G.bl (by rw [h.tl]; omega)).trans h.tl
  · exact fun g hg => (ht g (by rw [h.ts g hg]; omega)).trans (h.ts g hg)
  · intro i hi
    show (if i = w.heap.size then 6 else G.τ i) = 0
    simp at hi
    rw [if_neg (by omega)]
    exact h.top i (by omega)
  · show (if i = w.heap.size then 6 else G.τ i) = 0
    rw [if_neg (by omega)]
    exact h0
theorem own_take {w w' : World} {ao : Option Addr} {L m cap : Nat} {zs : List Int} (h : Own w 0 (.slice ao L cap) zs) (hl : zs.length = L) (hm : m ≤ L) (hk : ∀ g, (Value.slice ao L cap).ownBlock = some g → w'.heap[g]? = w.heap[g]?) : Own w' 0 (.slice ao m cap) (zs.take m) := by
  have hlen : (zs.take m).length = m := by rw [List.length_take]; omega
  obtain ⟨h1, ⟨h2, h3⟩ | ⟨g, cap', cur, h2, hg, hh, hnc, hcm, hcs, hx⟩⟩ := h
  · injection h2 with e1 e2 e3
    subst e1 e3
    have hm0 : m = 0 := by omega
    subst hm0
    exact ⟨rfl, .inl ⟨rfl, rfl⟩⟩
  · injection h2 with e1 e2 e3
    subst e1 e2 e3
    refine ⟨by rw [bv_len, hlen]; omega, .inr ⟨g, cap, cur, by rw [hlen], hg, (hk g rfl).trans hh, by rw [hlen]; omega, hcm, hcs, ?_⟩⟩
    rw [hlen]
    have : List.take (m * 1) cur.toList = List.take m (List.take (zs.length * 1) cur.toList) := by
      rw [List.take_take]; congr 1; omega
    rw [this, hx]
    simp [bv]
/-- One file has crashed. -/
theorem crash_turn {R V : Nat} {S : St} {G : Gh} {w w' : World} {f : Fl} {ao : Option Addr} {cap : Nat} {ks : List Int} (h : DiskIs w R S G) (hf : f ∈ S.files) (hV : G.τ V = 6)
    (hO : Own w 0 (.slice ao f.bs.length cap) f.bs) (hbk : ∀ g, (Value.slice ao f.bs.length cap).ownBlock = some g → G.τ g = 7 + 2 * f.num)
    (hr : w'.heap[G.β f.num]? = some (.cells #[.slice ao (f.lasts + keepN f ks) cap, .int .i64 (f.lasts + keepN f ks : Nat)] 89 (0, 0))) (ho : ∀ i, i ≠ G.β f.num → i ≠ V → w'.heap[i]? = w.heap[i]?) (hs : w'.heap.size = w.heap.size) (hos : w'.os = w.os ∧ w'.tape = w.tape ∧ w'.output = w.output) :
    DiskIs w' R { S with files := updF S.files f.num fun f => crashF f ks } G ∧ Kept G G w w' := by
  have F := h.files f hf
  have hnum := (h.ok.nums f hf).1
  have hle := keepN_le f ks F.lst
  refine file_turn (G' := G) (g := fun f => crashF f ks) (fun f => rfl) h hf ⟨by omega, fun i hi ht => ho i (fun e => ht (.inr (.inl (by rw [e]; exact F.tag)))) (fun e => ht (.inl (by rw [e]; exact hV)))⟩ hos rfl (fun i hi => absurd rfl hi) ?_
  refine ⟨⟨.slice ao (f.lasts + keepN f ks) cap, hr, own_take hO rfl hle (fun g hg => ?_), fun g hg => ?_⟩, F.tag, fun z hz => F.rng z (List.mem_of_mem_take hz), ?_, ?_⟩
  · have := hbk g hg
    exact ho g (fun e => by rw [e, F.tag] at this; omega) (fun e => by rw [e, hV] at this; omega)
  · refine hbk g ?_
    cases ao with
    | none => cases hg
    | some a => exact hg
  · show (f.bs.take _).length ≤ 250000
    rw [List.length_take]; have := F.len; omega
  · show f.lasts + keepN f ks ≤ (f.bs.take _).length
    rw [List.length_take]; omega
/-- The names that lasted take the names' place. -/
theorem names_set {R : Nat} {S : St} {G : Gh} {w w' : World} {L : DataW Unit} (h : DiskIs w R S G) (T : Turn G.τ (fun n => n = 4 ∨ n = 6) w w') (hL : w'.ownsMap Tryz.prog 9 (plainElem Tryz.prog 3) G.bl (Maps.size L) L) (hsz : Maps.size L ≤ S.calls) (hlead : Leads S.files L) (hos : w'.os = w.os ∧ w'.tape = w.tape ∧ w'.output = w.output) :
    ∃ G', DiskMid (w'.setCell ⟨R, 7, none⟩ (.map (some G.bl))) R { S with names := L, lasting := L, since := [] } G' ∧ Kept G G' w (w'.setCell ⟨R, 7, none⟩ (.map (some G.bl))) := by
  have r1 := drow_keep T h.row (by rw [h.tR]; omega)
  have hblR : G.bl ≠ R := fun e => by have e1 := h.tl; rw [e, h.tR] at e1; omega
  have T2 : Turn G.τ (fun n => n = 1 ∨ n = 4 ∨ n = 6) w (w'.setCell ⟨R, 7, none⟩ (.map (some G.bl))) := ⟨by simpa using T.1, fun i hi ht => by
    rw [heap_setCell_other w' ⟨R, 7, none⟩ i _ (fun e => ht (.inl (by rw [show i = R from e]; exact h.tR)))]
    exact T.2 i hi (fun e => ht (.inr e))⟩
  have ht : ∀ i, G.τ i ≠ 4 → (if i = G.bl then 3 else G.τ i) = G.τ i := fun i h0 => by
    rw [if_neg]
    rintro rfl
    exact h0 h.tl
  obtain ⟨D, f1, f2, f3⟩ := h.fm
  obtain ⟨a1, a2, a3, a4, a5, a6, a7, a8, a9, a10, a11⟩ := h.ok
  refine ⟨{ G with bn := G.bl, τ := fun i => if i = G.bl then 3 else G.τ i }, ⟨?_, ⟨D, map_keep T2 f1 (by rw [h.tf]; omega), f2, f3⟩, hL.setCell hblR _, fun f hf => ?_, ?_, ?_, if_pos rfl, fun i hi => ?_, ?_⟩, ?_⟩
  · rw [heap_setCell_same w' R 7 _ _ _ r1]; rfl
  · have hp := a2 f hf
    exact (file_keep T2 (h.files f hf) (by omega) (by omega)).retag rfl fun i hi => ht i (by omega)
  · exact (ht R (by rw [h.tR]; omega)).trans h.tR
  · exact (ht _ (by rw [h.tf]; omega)).trans h.tf
  · show (if i = G.bl then 3 else G.τ i) = 0
    have h1 := h.lm.lt
    have h2 := T2.1
    rw [if_neg (by omega)]
    exact h.top i (by omega)
  · exact ⟨a1, a2, hlead, hlead, fun c hc => (by cases hc), hsz, by show Maps.size L + 0 ≤ S.calls; omega, a8, a9, a10, a11⟩
  · refine ⟨hos.1, hos.2.1, hos.2.2, T2.1, fun i hi h0 => T2.2 i hi (by rw [h0]; omega), fun i hi h0 => ?_⟩
    show (if i = G.bl then 3 else G.τ i) = 0
    rw [ht i (by omega)]
    exact h0
theorem leads_crash {l : List Fl} {ks : List Int} {D : DataW Unit} (h : Leads l D) : Leads (crashAll l ks).1 D := by
  intro p hp
  obtain ⟨f, hf, e⟩ := h p hp
  have hn : f.num ∈ (crashAll l ks).1.map (·.num) := by rw [crashAll_nums]; exact List.mem_map.2 ⟨f, hf, rfl⟩
  obtain ⟨g, hg, e2⟩ := List.mem_map.1 hn
  exact ⟨g, hg, by rw [e]; rw [show f.num = g.num from e2.symm]⟩
theorem leads_all {fs : List Fl} : ∀ (l : List Chn) (D : DataW Unit) (ks : List Int), Leads fs D → (∀ c ∈ l, c.kind = 0 → ∃ f ∈ fs, c.file = f.num) → Leads fs (doAll l D ks)
  | [], D, ks, h, _ => h
  | c :: l, D, ks, h, hc => by
    simp only [doAll]
    refine leads_all l _ _ ?_ (fun c' hc' => hc c' (List.mem_cons_of_mem _ hc'))
    split
    · exact leads_do h (hc c List.mem_cons_self)
    · exact h

end Go.Proofs.YtdldpdllhnpdaaaGreat.Clep

/- What Crash of a Disk does when called: the walk over the translated program. For any Disk of at most 2^40 calls, any numbers that are none of the Disk's own. -/
namespace Go.Proofs.YtdldpdllhnpdaaaGreat.Clep
open Go.RowKit Go.Maps
set_option linter.unusedVariables false
set_option maxRecDepth 10000

/-- Numbers in a row that a call made, as a slice value. -/
theorem ints_slice {w : World} {B : Nat} {v : Value} {zs : List Int} (h : w.ownsRow B 3 1 v zs.length (zs.map encZ)) : ∃ so sc, v = .slice so zs.length sc ∧ zs.length ≤ sc ∧ (0 < zs.length → ∃ g, so = some ⟨g, 0, none⟩ ∧ B ≤ g ∧ g < w.heap.size ∧ ∀ i, i < zs.length → w.cell? ⟨g, i, none⟩ = some (.int .i64 (zs.getD i 0))) := by
  have h0 := h
  obtain ⟨h1, ⟨rfl, h3⟩ | ⟨g, cap, cur, rfl, hg, hh, hnc, hcm, hcs, hx⟩⟩ := h
  · exact ⟨none, 0, by rw [h3], by omega, fun h => by omega⟩
  · refine ⟨_, cap, rfl, hnc, fun _ => ⟨g, rfl, hg, (Array.getElem?_eq_some_iff.1 hh).1, fun i hi => ?_⟩⟩
    have hc := World.ownsRow.cells h0 (g := g) rfl i (.int .i64 (zs.getD i 0)) (by simp [List.getElem?_eq_getElem hi, List.getD])
    rwa [add_plain, Nat.zero_add] at hc
theorem pair_mid {l : List Fl} {j : Nat} {f : Fl} (h : l[j]? = some f) : l = l.take j ++ f :: l.drop (j + 1) ∧ l.take (j + 1) = l.take j ++ [f] := by
  obtain ⟨hj, rfl⟩ := List.getElem?_eq_some_iff.1 h
  refine ⟨?_, ?_⟩
  · rw [← List.drop_eq_getElem_cons hj, List.take_append_drop]
  · rw [List.take_succ_eq_append_getElem hj]
theorem row_slice {w : World} {B e sz n : Nat} {v : Value} {xs : List Value} (h : w.ownsRow B e sz v n xs) : ∃ so sc, v = .slice so n sc ∧ n ≤ sc ∧ (0 < n → ∃ g, so = some ⟨g, 0, none⟩ ∧ ∀ i u, xs[i]? = some u → w.cell? ⟨g, i, none⟩ = some u) := by
  have h0 := h
  obtain ⟨h1, ⟨rfl, h3⟩ | ⟨g, cap, cur, rfl, hg, hh, hnc, hcm, hcs, hx⟩⟩ := h
  · exact ⟨none, 0, by rw [h3], by omega, fun h => by omega⟩
  · refine ⟨_, cap, rfl, hnc, fun _ => ⟨g, rfl, fun i u hu => ?_⟩⟩
    have hc := World.ownsRow.cells h0 (g := g) rfl i u hu
    rwa [add_plain, Nat.zero_add] at hc
theorem ch_at {l : List Chn} {j : Nat} {c : Chn} (h : l[j]? = some c) (i : Nat) (hi : i < 4) : (l.flatMap chCells)[j * 4 + i]? = (chCells c)[i]? := by
  induction l generalizing j with
  | nil => simp at h
  | cons d l ih =>
    rw [List.flatMap_cons]
    cases j with
    | zero =>
      simp only [List.getElem?_cons_zero, Option.some.injEq] at h
      subst h
      rw [Nat.zero_mul, Nat.zero_add, List.getElem?_append_left (by simp [chCells]; omega)]
    | succ j =>
      simp only [List.getElem?_cons_succ] at h
      rw [List.getElem?_append_right (by simp [chCells]; omega)]
      have := ih h
      rw [show (j + 1) * 4 + i - (chCells d).length = j * 4 + i from by simp [chCells]; omega]
      exact this
theorem ch_take {l : List Chn} {j : Nat} {c : Chn} (h : l[j]? = some c) : l.take (j + 1) = l.take j ++ [c] := by
  obtain ⟨hj, rfl⟩ := List.getElem?_eq_some_iff.1 h
  rw [List.take_succ_eq_append_getElem hj]
theorem step_turn {τ : Nat → Nat} {V : Nat} {wS wr w4 : World} {o : Obj} (hT : Turn τ (fun n => n = 4 ∨ n = 6) wS wr) (hV : τ V = 6) (O1 : One V (wr.alloc o) w4) : Turn τ (fun n => n = 4 ∨ n = 6) wS w4 :=
  ⟨by have h1 := O1.size; simp at h1; have h2 := hT.1; omega, fun i hi ht => by
    rw [O1.block i (fun e => ht (.inr (by rw [e]; exact hV)))]
    exact (Below.heap_alloc wr o i (Nat.lt_of_lt_of_le hi hT.1)).trans (hT.2 i hi ht)⟩
theorem step_turn2 {τ : Nat → Nat} {b : Nat} {wS w4 w5 : World} (hT : Turn τ (fun n => n = 4 ∨ n = 6) wS w4) (hb : τ b = 4) (g5 : w4.drew.grownBy w5 (some b)) : Turn τ (fun n => n = 4 ∨ n = 6) wS w5 :=
  ⟨Nat.le_trans hT.1 g5.size, fun i hi ht => by
    rw [g5.block i (Nat.lt_of_lt_of_le hi hT.1) (fun e => ht (.inl (by rw [Option.some.inj e]; exact hb)))]
    exact hT.2 i hi ht⟩

set_option maxHeartbeats 800000 in
set_option maxRecDepth 4000 in
theorem crash_any (R : Nat) (S : St) (G : Gh) (ao : Option Addr) (len cap : Nat) (ks : List Int) (w : World) (h : DiskIs w R S G) (hm : S.calls ≤ 1099511627776) (hk : NumV (fun i => G.τ i = 0 ∧ i < w.heap.size) w (.slice ao len cap) ks) :
    Calls Tryz.prog 16 #[.pointer (some ⟨R, 0, none⟩), .slice ao len cap] w fun e w' => e = .returned (.tuple #[]) ∧ ∃ G', DiskIs w' R (crashS S ks) G' ∧ Kept G G' w w' := by
  have H := hide h
  obtain ⟨DA, KA⟩ := tag_new h (.cells #[.slice ao len cap] 73)
  have hA0 : Var1 (w.alloc (.cells #[.slice ao len cap] 73)) w.heap.size (.slice ao len cap) := ⟨_, (MapKept.heap_alloc w _).1⟩
  have hNA : NumV (fun i => (tagV G w.heap.size).τ i = 0) (w.alloc (.cells #[.slice ao len cap] 73)) (.slice ao len cap) ks := by
    obtain ⟨ao', cap', e, h1, h2, h3, h4⟩ := hk
    refine ⟨ao', cap', e, h1, h2, h3, fun h0 => ?_⟩
    obtain ⟨b, off, e1, ⟨q1, q2⟩, hc⟩ := h4 h0
    refine ⟨b, off, e1, ?_, fun i hi => ?_⟩
    · show (if b = w.heap.size then 6 else G.τ b) = 0
      rw [if_neg (by omega)]; exact q1
    · rw [World.cell?_of_block (w := w) (Below.heap_alloc w _ b q2)]; exact hc i hi
  have HDA := hide DA
  have HKA := hide KA
  have HVA := hide hA0
  have HNA := hide hNA
  have a6 := DA.cells.2.1.2.1
  have htV : (tagV G w.heap.size).τ w.heap.size = 6 := if_pos rfl
  have HtV := hide htV
  obtain ⟨D, f1, f2, f3⟩ := DA.fm
  have SO := hide (sorted_any _ _ D _ f1 (by unfold maxLen; omega) (by omega))
  have FP := hide (files_perm f1 f2 h.ok.rise)
  clear DA KA hA0 hNA h hk htV f1 f2 f3
  generalize hG : tagV G w.heap.size = GV at *
  have HG := hide hG
  clear hG
  go_enter Tryz.func16, Tryz.ntmps16
  go_wp2_with fail
  generalize w.alloc (.cells #[.slice ao len cap] 73) = wA at *
  refine (keys_any _ _).mono ?_
  rintro e w1 ⟨rfl, rfl⟩
  go_wp2_with fail
  refine SO.out.mono ?_
  rintro e w2 ⟨v, ss, rfl, hS, hrow, hb2⟩
  have hss := sort_files FP.out hS H.out.ok.rise
  have hsl : ss.length = (S.files.map fun f => (f.num : Int)).length := (hS.trans FP.out.symm).length_eq
  rw [hss, hsl] at hrow
  obtain ⟨so, sc, rfl, hsc, hcell⟩ := ints_slice hrow
  have hB2 : Below wA.heap.size wA w2 := ((Below.refl wA.heap.size wA).alloc (Nat.le_refl _) _).trans (hb2.mono (by omega))
  have hVlt := HVA.out.lt
  have D2 := hide (HDA.out.below hB2)
  have K2 := hide (HKA.out.trans (Kept.of_below hB2))
  have V2 := hide (show Var1 w2 w.heap.size (.slice ao len cap) by obtain ⟨T, hT⟩ := HVA.out; exact ⟨T, (hB2.block _ hVlt).trans hT⟩)
  have N2 := hide (HNA.out.keep (w' := w2) (fun i hi _ => hB2.block i hi))
  have HC := hide hcell
  have hn : (S.files.map fun f => (f.num : Int)).length = S.files.length := by simp
  have hfew : S.files.length ≤ 1099511627776 := by have h1 := files_few H.out.ok; have h2 := H.out.ok.mad; omega
  have htop := hide (show ∀ g, wA.heap.size + 1 ≤ g → GV.τ g = 0 from fun g hg => HDA.out.top g (by omega))
  rw [hn] at hsc
  clear hrow hss hsl hS hb2 hB2 SO FP HDA HNA HVA HKA hcell a6 hVlt
  rw [hn]
  have Hn := hide hn
  clear hn
  go_wp2_with fail
  go_loopw [19] (fun u wr => ∃ (j : Nat) (x : Value), u = .int .i64 j ∧ j ≤ S.files.length ∧ Hid (DiskIs wr R { S with files := (crashAll (S.files.take j) ks).1 ++ S.files.drop j } GV) ∧ Hid (Kept GV GV w2 wr) ∧ Hid (Var1 wr w.heap.size x) ∧ Hid (NumV (fun i => GV.τ i = 0) wr x (crashAll (S.files.take j) ks).2)) (fun u _ => S.files.length - (intOf u).toNat)
  case atStart => exact ⟨0, _, rfl, by omega, hide (by simpa [crashAll] using D2.out), hide (Kept.refl _ _), V2, hide (by simpa [crashAll] using N2.out)⟩
  case round =>
    obtain ⟨j, x, rfl, hj, hD, hK, hV, hN⟩ := hrel
    by_cases hlt : j < S.files.length
    · obtain ⟨g, rfl, hg1, hg2, hgc⟩ := HC.out (by rw [Hn.out]; omega)
      have hjf : S.files[j]? = some S.files[j] := List.getElem?_eq_getElem hlt
      generalize hff : S.files[j] = f at hjf
      obtain ⟨hsplit, htake⟩ := pair_mid hjf
      have hcj := hgc j (by rw [Hn.out]; exact hlt)
      have hcj' : wr.cell? ⟨g, j, none⟩ = some (.int .i64 (f.num : Int)) := by
        rw [World.cell?_of_block (w := w2) (hK.out.block g hg2 (htop.out g (by omega))), hcj]
        simp [List.getElem?_map, hjf, List.getD]
      have hdrop : S.files.drop j = f :: S.files.drop (j + 1) := by rw [List.drop_eq_getElem_cons hlt, hff]
      rw [hdrop] at hD
      have hmem : f ∈ (crashAll (S.files.take j) ks).1 ++ f :: S.files.drop (j + 1) := List.mem_append_right _ List.mem_cons_self
      have hrise := hD.out.ok.rise
      have F := hD.out.files f hmem
      obtain ⟨fo, fc, hc, hO, hbk, hcm, hB⟩ := F.cells
      have hfo : ∀ x, fo = some x → x.spot = none := fun x hx => by
        obtain ⟨_, ⟨e, _⟩ | ⟨g', cap', cur, e, _⟩⟩ := hO
        · injection e with e1; rw [e1] at hx; cases hx
        · injection e with e1; rw [e1] at hx; cases hx; rfl
      have hbV : GV.β f.num ≠ w.heap.size := fun e => by have e1 := F.tag; have e2 := (hD.out.ok.nums f hmem).1; rw [e, HtV.out] at e1; omega
      have CF := hide (crash_file (GV.β f.num) w.heap.size (fun i => GV.τ i = 0) fo fc f x _ wr hc hB.2.1.1 hcm hB.2.1.2 hfo F.len F.lst hV.out hN.out hbV (by rw [F.tag]; omega) (by rw [HtV.out]; omega))
      have CT := hide (fun w' => crash_turn (w' := w') (ks := (crashAll (S.files.take j) ks).2) hD.out hmem HtV.out hO hbk)
      have UM := hide (upd_mid (g := fun f => crashF f (crashAll (S.files.take j) ks).2) hrise)
      obtain ⟨D, f1, f2, f3⟩ := hD.out.fm
      have hwf : (Lit.int .i64 (f.num : Int)).wf = true := WalkArith.wf_i64 (by have h1 := (hD.out.ok.nums f hmem).2; have h2 := hD.out.ok.mad; simp only at h1 h2; omega)
      have hlook := look_file GV rfl f1 f2 hwf
      rw [fileAt_of hrise hmem] at hlook
      simp only [ptrOf] at hlook
      have c6 := hD.out.cells.2.1.2.1
      have HT := hide htake
      clear hjf hff hsplit hcj hdrop hrise F hc hO hbk hcm hB hfo hgc f1 f2 f3 hwf htake
      go_wp2_with fail
      refine CF.out.mono ?_
      rintro e w4 ⟨rfl, p1, p2, p3, p4, v4, p5, p6⟩
      obtain ⟨D4, K4⟩ := CT.out w4 p1 p2 p3 p4
      have HR := hide (show DiskIs w4 R { S with files := (crashAll (S.files.take (j + 1)) ks).1 ++ S.files.drop (j + 1) } GV by
        rw [HT.out, crashAll_snoc]
        have := D4
        simp only [UM.out] at this
        simpa using this)
      have HN4 := hide (show NumV (fun i => GV.τ i = 0) w4 v4 (crashAll (S.files.take (j + 1)) ks).2 by rw [HT.out, crashAll_snoc]; exact p6)
      have HV4 := hide p5
      have HK4 := hide (hK.out.trans K4)
      clear p1 p2 p3 p4 p5 p6 D4 K4 CF CT UM hD hN hV hK
      go_wp2
      go_roundw
      case rel => exact ⟨j + 1, v4, by go_num, by omega, HR, HK4, HV4, HN4⟩
      case measure => simp [intOf]; omega
    · have hjj : j = S.files.length := by omega
      subst hjj
      rw [List.take_length, List.drop_length, List.append_nil] at hD
      rw [List.take_length] at hN
      have KS := hide (K2.out.trans hK.out)
      generalize hk1 : (crashAll S.files ks).2 = k1 at hN
      have Hk1 := hide hk1
      clear hk1 hK V2 N2 D2 K2 HC hj hlt hsc hfew htop Hn
      generalize hfs1 : (crashAll S.files ks).1 = fs1 at hD
      have Hfs1 := hide hfs1
      clear hfs1
      obtain ⟨so2, sc2, hsv, hsc2, hcell2⟩ := row_slice hD.out.sc
      simp only at hsv hsc2 hcell2
      have d9 := hD.out.cells.2.1.2.2.2.2
      rw [hsv] at d9
      have HC2 := hide hcell2
      have Hsv := hide hsv
      have hsn : S.since.length ≤ 1099511627776 := by have h1 := hD.out.ok.szl; simp only at h1; omega
      clear hcell2 hsv
      go_wp2_with fail
      generalize wr = wS at *
      go_loopw [36] (fun u w3 => ∃ (j : Nat) (y : Value), u = .int .i64 j ∧ j ≤ S.since.length ∧ Hid (Turn GV.τ (fun n => n = 4 ∨ n = 6) wS w3) ∧ Hid (w3.os = wS.os ∧ w3.tape = wS.tape ∧ w3.output = wS.output) ∧ Hid (w3.ownsMap Tryz.prog 9 (plainElem Tryz.prog 3) GV.bl (Maps.size (doAll (S.since.take j) S.lasting k1)) (doAll (S.since.take j) S.lasting k1)) ∧
        Hid (Maps.size (doAll (S.since.take j) S.lasting k1) ≤ Maps.size S.lasting + j) ∧ Hid (Var1 w3 w.heap.size y) ∧ Hid (NumV (fun i => GV.τ i = 0) w3 y (k1.drop j))) (fun u _ => S.since.length - (intOf u).toNat)
      case atStart => exact ⟨0, x, rfl, by omega, hide ⟨Nat.le_refl _, fun _ _ _ => rfl⟩, hide ⟨rfl, rfl, rfl⟩, hide hD.out.lm, hide (Nat.le_refl _), hV, hN⟩
      case round =>
        obtain ⟨j, y, rfl, hj, hT, hos, hL, hLz, hV3, hN3⟩ := hrel
        by_cases hlt2 : j < S.since.length
        · obtain ⟨g, rfl, hgc⟩ := HC2.out (by omega)
          obtain ⟨c, hc⟩ : ∃ c, S.since[j]? = some c := ⟨_, List.getElem?_eq_getElem hlt2⟩
          have htg : GV.τ g = 5 := hD.out.ts g (by rw [Hsv.out]; rfl)
          have hgl : g < wS.heap.size := World.block_lt_of_cell? wS ⟨g, j * 4 + 0, none⟩ (hgc (j * 4 + 0) _ (by rw [ch_at hc 0 (by omega)]; rfl))
          have hcell : ∀ i u, i < 4 → (chCells c)[i]? = some u → wr.cell? ⟨g, j * 4 + i, none⟩ = some u := fun i u hi hu => by
            rw [World.cell?_of_block (w := wS) (hT.out.2 g hgl (by rw [htg]; omega))]
            exact hgc _ u (by rw [ch_at hc i hi]; exact hu)
          have g0 : wr.cell? ⟨g, j * 4, none⟩ = some (.int .i64 c.kind) := hcell 0 _ (by omega) rfl
          have g1 : wr.cell? ⟨g, j * 4 + 1, none⟩ = some (.string c.name) := hcell 1 _ (by omega) rfl
          have g2 : wr.cell? ⟨g, j * 4 + 2, none⟩ = some (.string c.to) := hcell 2 _ (by omega) rfl
          have g3 : wr.cell? ⟨g, j * 4 + 3, none⟩ = some (.int .i64 c.file) := hcell 3 _ (by omega) rfl
          clear hcell hgc
          have htl : GV.τ GV.bl = 4 := hD.out.tl
          have hVl := hV3.out.lt
          have hneV : ∀ i, GV.τ i ≠ 6 → i ≠ w.heap.size := fun i hi e => hi (by rw [e]; exact HtV.out)
          have hbll := hL.out.lt
          have hc' := hD.out.ok.crea c (List.mem_of_getElem? hc)
          have hLs := hD.out.ok.szl
          simp only at hc' hLs
          have hfile : c.file ≤ 1099511627777 := by have h1 := hD.out.ok.mad; have h2 := hc'.2.2.2.2; simp only at h1; omega
          have hDo := hide (fun W (hW : W.ownsMap Tryz.prog 9 (plainElem Tryz.prog 3) GV.bl (Maps.size (doAll (S.since.take j) S.lasting k1)) (doAll (S.since.take j) S.lasting k1)) => do_any GV.bl _ c W hW (by have := hLz.out; omega) (by omega) (by omega) hc'.1 hfile)
          unfold chV at hDo
          have hRwr : wr.heap[R]? = _ := drow_keep hT.out hD.out.row (by rw [hD.out.tR]; omega)
          have NXT := hide (dnext_any (fun i => GV.τ i = 0) w.heap.size y (k1.drop j) (wr.alloc (.cells #[.int .i64 c.kind, .string c.name, .string c.to, .int .i64 c.file] 82))
            (by obtain ⟨T, hT'⟩ := hV3.out; exact ⟨T, (Below.heap_alloc wr _ _ hVl).trans hT'⟩) (hN3.out.keep (fun i hi _ => Below.heap_alloc wr _ i hi)))
          go_wp2_with fail
          refine NXT.out.mono ?_
          rintro e w4 ⟨he, O1, y4, V4, N4⟩
          have HT4 := hide (step_turn hT.out HtV.out O1)
          have HO4 := hide (show w4.os = wS.os ∧ w4.tape = wS.tape ∧ w4.output = wS.output from ⟨O1.os.trans hos.out.1, O1.tape.trans hos.out.2.1, O1.output.trans hos.out.2.2⟩)
          have L4 := hide (show w4.ownsMap Tryz.prog 9 (plainElem Tryz.prog 3) GV.bl (Maps.size (doAll (S.since.take j) S.lasting k1)) (doAll (S.since.take j) S.lasting k1) by
            obtain ⟨es, clock, hh, r⟩ := hL.out.alloc (.cells #[.int .i64 c.kind, .string c.name, .string c.to, .int .i64 c.file] 82)
            exact ⟨es, clock, (O1.block _ (hneV _ (by rw [htl]; omega))).trans hh, r⟩)
          have x4 : w4.heap[wr.heap.size]? = some (.cells #[.int .i64 c.kind, .string c.name, .string c.to, .int .i64 c.file] 82 (0, 0)) := (O1.block _ (by omega)).trans (MapKept.heap_alloc wr _).1
          have r4 : w4.heap[R]? = _ := (O1.block R (hneV R (by rw [hD.out.tR]; omega))).trans ((Below.heap_alloc wr _ R (Array.getElem?_eq_some_iff.1 hRwr).1).trans hRwr)
          have q0 := cell_of (i := 0) x4 rfl
          have q1 := cell_of (i := 1) x4 rfl
          have q2 := cell_of (i := 2) x4 rfl
          have q3 := cell_of (i := 3) x4 rfl
          have c8 := cell_of (i := 8) r4 rfl
          simp [dRow] at q0 q1 q2 q3 c8
          have HN4 := hide N4
          clear O1 N4 x4 r4 NXT hRwr g0 g1 g2 g3
          cases hkj : k1.drop j with
          | nil =>
            rw [hkj] at he
            obtain rfl : e = .returned (.tuple #[.int .i64 0, .bool false]) := he
            have hEV : evenK (k1.drop j) = true := by rw [hkj]; rfl
            have DS := hide (show doAll (S.since.take (j + 1)) S.lasting k1 = doS (doAll (S.since.take j) S.lasting k1) c by
              rw [ch_take hc, doAll_snoc, show (S.since.take j).length = j from by rw [List.length_take]; omega, hEV, if_pos rfl])
            clear hEV
            go_wp2_with fail
            go_region_with (go_at_call 37; refine (hDo.out w4.drew L4.out).mono ?_; rintro e w5 ⟨rfl, g5, o5, z5⟩)
            all_goals
              have HT5 := hide (step_turn2 HT4.out htl g5)
              have HO5 := hide (show w5.os = wS.os ∧ w5.tape = wS.tape ∧ w5.output = wS.output from ⟨g5.os.trans HO4.out.1, g5.tape.trans HO4.out.2.1, g5.output.trans HO4.out.2.2⟩)
              have HV5 := hide (show Var1 w5 w.heap.size y4 by
                obtain ⟨T, hT'⟩ := V4
                exact ⟨T, (g5.block _ (Array.getElem?_eq_some_iff.1 hT').1 (fun e => by have e1 := HtV.out; rw [Option.some.inj e, htl] at e1; omega)).trans hT'⟩)
              have HN5 := hide (show NumV (fun i => GV.τ i = 0) w5 y4 (k1.drop (j + 1)) by
                rw [← List.tail_drop]
                exact HN4.out.keep (fun i hi hq => g5.block i hi (fun e => by rw [Option.some.inj e, htl] at hq; omega)))
              have HL5 := hide (show w5.ownsMap Tryz.prog 9 (plainElem Tryz.prog 3) GV.bl (Maps.size (doAll (S.since.take (j + 1)) S.lasting k1)) (doAll (S.since.take (j + 1)) S.lasting k1) by rw [DS.out]; exact o5)
              have HZ5 := hide (show Maps.size (doAll (S.since.take (j + 1)) S.lasting k1) ≤ Maps.size S.lasting + (j + 1) by rw [DS.out]; have := hLz.out; omega)
              clear g5 o5 z5
              go_wp2
              go_roundw
              case rel => exact ⟨j + 1, y4, by go_num, by omega, HT5, HO5, HL5, HZ5, HV5, HN5⟩
              case measure => simp [intOf]; omega
          | cons k r =>
            rw [hkj] at he
            obtain rfl : e = .returned (.tuple #[.int .i64 k, .bool true]) := he
            by_cases hev : (k.tmod 2 == 0) = true
            · have hEV : evenK (k1.drop j) = true := by rw [hkj]; exact hev
              have DS := hide (show doAll (S.since.take (j + 1)) S.lasting k1 = doS (doAll (S.since.take j) S.lasting k1) c by
                rw [ch_take hc, doAll_snoc, show (S.since.take j).length = j from by rw [List.length_take]; omega, hEV, if_pos rfl])
              clear hEV
              go_wp2_with fail
              go_region_with (go_at_call 37; refine (hDo.out w4.drew L4.out).mono ?_; rintro e w5 ⟨rfl, g5, o5, z5⟩)
              all_goals
                have HT5 := hide (step_turn2 HT4.out htl g5)
                have HO5 := hide (show w5.os = wS.os ∧ w5.tape = wS.tape ∧ w5.output = wS.output from ⟨g5.os.trans HO4.out.1, g5.tape.trans HO4.out.2.1, g5.output.trans HO4.out.2.2⟩)
                have HV5 := hide (show Var1 w5 w.heap.size y4 by
                  obtain ⟨T, hT'⟩ := V4
                  exact ⟨T, (g5.block _ (Array.getElem?_eq_some_iff.1 hT').1 (fun e => by have e1 := HtV.out; rw [Option.some.inj e, htl] at e1; omega)).trans hT'⟩)
                have HN5 := hide (show NumV (fun i => GV.τ i = 0) w5 y4 (k1.drop (j + 1)) by
                  rw [← List.tail_drop]
                  exact HN4.out.keep (fun i hi hq => g5.block i hi (fun e => by rw [Option.some.inj e, htl] at hq; omega)))
                have HL5 := hide (show w5.ownsMap Tryz.prog 9 (plainElem Tryz.prog 3) GV.bl (Maps.size (doAll (S.since.take (j + 1)) S.lasting k1)) (doAll (S.since.take (j + 1)) S.lasting k1) by rw [DS.out]; exact o5)
                have HZ5 := hide (show Maps.size (doAll (S.since.take (j + 1)) S.lasting k1) ≤ Maps.size S.lasting + (j + 1) by rw [DS.out]; have := hLz.out; omega)
                clear g5 o5 z5
                go_wp2
                go_roundw
                case rel => exact ⟨j + 1, y4, by go_num, by omega, HT5, HO5, HL5, HZ5, HV5, HN5⟩
                case measure => simp [intOf]; omega
            · rw [Bool.not_eq_true] at hev
              have hEV : evenK (k1.drop j) = false := by rw [hkj]; exact hev
              have DS := hide (show doAll (S.since.take (j + 1)) S.lasting k1 = doAll (S.since.take j) S.lasting k1 by
                rw [ch_take hc, doAll_snoc, show (S.since.take j).length = j from by rw [List.length_take]; omega, hEV, if_neg (by simp)])
              clear hEV
              have HN5 := hide (show NumV (fun i => GV.τ i = 0) w4 y4 (k1.drop (j + 1)) by rw [← List.tail_drop]; exact HN4.out)
              have HL5 := hide (show w4.ownsMap Tryz.prog 9 (plainElem Tryz.prog 3) GV.bl (Maps.size (doAll (S.since.take (j + 1)) S.lasting k1)) (doAll (S.since.take (j + 1)) S.lasting k1) by rw [DS.out]; exact L4.out)
              have HZ5 := hide (show Maps.size (doAll (S.since.take (j + 1)) S.lasting k1) ≤ Maps.size S.lasting + (j + 1) by rw [DS.out]; have := hLz.out; omega)
              have HV5 := hide V4
              go_wp2
              go_roundw
              case rel => exact ⟨j + 1, y4, by go_num, by omega, HT4, HO4, HL5, HZ5, HV5, HN5⟩
              case measure => simp [intOf]; omega
        · have hjj : j = S.since.length := by omega
          subst hjj
          rw [List.take_length] at hL hLz
          have hleads : Leads fs1 (doAll S.since S.lasting k1) := leads_all _ _ _ (by have := hD.out.ok.lasted; exact this) (fun c hc => (hD.out.ok.crea c hc).2.2.2.1)
          obtain ⟨G7, D7, K7⟩ := names_set hD.out hT.out hL.out (by have h1 := hLz.out; have h2 := hD.out.ok.szl; simp only at h2 ⊢; omega) hleads hos.out
          have hRwr : wr.heap[R]? = _ := drow_keep hT.out hD.out.row (by rw [hD.out.tR]; omega)
          have c7 := cell_of (i := 7) hRwr rfl
          have c8 := cell_of (i := 8) hRwr rfl
          simp [dRow] at c7 c8
          have f7 := frozen_of_row wr R 7 _ _ hRwr
          have ST := hide (settle_any R _ G7 _ D7 hm)
          have HK7 := hide (KS.out.trans K7)
          clear D7 K7 hRwr hleads
          go_wp2_with fail
          refine ST.out.mono ?_
          rintro e w8 ⟨rfl, G8, D8, K8⟩
          have D9 := D8.put (S' := { settleS { S with files := fs1, names := doAll S.since S.lasting k1, lasting := doAll S.since S.lasting k1, since := [] } with stop := 0 }) 2 (.int .i64 0) rfl rfl rfl rfl rfl (Nat.le_refl _) (D8.ok.scal _ _ _ _ (Nat.le_refl _) (by omega) D8.ok.fai)
          have D10 := D9.put (S' := { settleS { S with files := fs1, names := doAll S.since S.lasting k1, lasting := doAll S.since S.lasting k1, since := [] } with stop := 0, fail := 0 }) 3 (.int .i64 0) rfl rfl rfl rfl rfl (Nat.le_refl _) (D8.ok.scal _ _ _ _ (Nat.le_refl _) (by omega) (by omega))
          have D11 := D10.put (S' := { settleS { S with files := fs1, names := doAll S.since S.lasting k1, lasting := doAll S.since S.lasting k1, since := [] } with stop := 0, fail := 0, dead := false }) 4 (.bool false) rfl rfl rfl rfl rfl (Nat.le_refl _) (D8.ok.scal _ _ _ _ (Nat.le_refl _) (by omega) (by omega))
          have K11 := ((K8.trans (kept_set (G := G8) (b := R) 2 (.int .i64 0) (by rw [D8.tR]; omega))).trans (kept_set (G := G8) (b := R) 3 (.int .i64 0) (by rw [D8.tR]; omega))).trans (kept_set (G := G8) (b := R) 4 (.bool false) (by rw [D8.tR]; omega))
          have e2 := D8.cells.1.2.2.1
          have e3 := D8.cells.1.2.2.2.1
          have e4 := D8.cells.1.2.2.2.2
          have v2 := D8.cells.2.2 2
          have v3 := D8.cells.2.2 3
          have v4 := D8.cells.2.2 4
          have HD11 := hide D11
          have HK11 := hide K11
          clear D8 D9 D10 D11 K8 K11 ST c7 c8 f7
          go_wp2
          go_end0
          refine ⟨rfl, G8, ?_, HK7.out.trans HK11.out⟩
          have hcs : crashS S ks = { settleS { S with files := fs1, names := doAll S.since S.lasting k1, lasting := doAll S.since S.lasting k1, since := [] } with stop := 0, fail := 0, dead := false } := by
            unfold crashS; rw [Hfs1.out, Hk1.out]
          rw [hcs]
          exact HD11.out

end Go.Proofs.YtdldpdllhnpdaaaGreat.Clep
