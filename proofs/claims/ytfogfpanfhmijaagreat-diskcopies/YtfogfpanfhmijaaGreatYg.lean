/- What settle of a Disk does when called (a walk over the translated program): for any Disk of at most 2^40 calls. -/
import Derived.Test.YtfogfpanfhmijaaGreatYf
namespace Go.Proofs.YtfogfpanfhmijaaGreat.Clep
open Go.RowKit Go.Maps
set_option linter.unusedVariables false

def isNamed (D : DataW Unit) (left : Lit → Bool) (k : Int) : Bool := (entries D).any fun p => !left p.1 && numOf p.2 == k
def settleS (S : St) : St := { S with lasting := S.names, since := [], files := S.files.filter fun f => isNamed S.names (fun _ => false) f.num }
/-- What the new map of files holds, behind some of the names. -/
def Part (β : Nat → Nat) (D : DataW Unit) (left : Lit → Bool) (N : DataW Unit) : Prop := ∀ k : Int, Maps.has N (.int .i64 k) = isNamed D left k ∧ (Maps.has N (.int .i64 k) = true → ∀ z, N.atKey (.int .i64 k) z = i64L (β k.toNat))
theorem part_start (β : Nat → Nat) (D : DataW Unit) (hc : Canon D) : Part β D (Maps.has D) (.map []) := by
  obtain ⟨es, rfl, _, hk⟩ := hc
  intro k
  refine ⟨?_, fun h => by cases h⟩
  show false = _
  symm
  unfold isNamed
  rw [List.any_eq_false]
  intro p hp
  simp only [entries] at hp
  have : Maps.has (.map es) p.1 = true := by
    rw [Maps.has_eq, List.any_eq_true]
    exact ⟨p, hp, WideAt.sameKey_self (hk p hp)⟩
  rw [this]
  simp
theorem named_step {D : DataW Unit} {left : Lit → Bool} {kl : Lit} {c : Int} (hc : Canon D) (hK : WideAt.IsKeyLit kl) (hat : ∀ zd, D.atKey kl zd = i64L c) (k : Int) :
    isNamed D (fun z => left z && !z.sameKey kl) k = (isNamed D left k || c == k) := by
  obtain ⟨p0, h0, e1, e2⟩ := entry_of hc hat
  obtain ⟨es, rfl, hr, _⟩ := hc
  have hap := Maps.apart_of_rising hr
  unfold isNamed
  simp only [entries] at h0 ⊢
  rw [Bool.eq_iff_iff, Bool.or_eq_true, List.any_eq_true, List.any_eq_true]
  have hsame : WideAt.IsKeyLit kl → kl.sameKey kl = true := WideAt.sameKey_self
  constructor
  · rintro ⟨p, hp, h⟩
    rw [Bool.and_eq_true] at h
    by_cases hs : p.1.sameKey kl = true
    · right
      have e : p = p0 := by
        have e' : p.1 = p0.1 := (WideAt.sameKey_eq hs).trans e1.symm
        by_cases hpp : p = p0
        · exact hpp
        · exfalso
          have : ∀ l : List (Lit × DataW Unit), l.Pairwise (fun p q => p.1 ≠ q.1) → p ∈ l → p0 ∈ l → False := by
            intro l
            induction l with
            | nil => intro _ h; cases h
            | cons x r ih =>
              intro hl h1 h2
              rw [List.pairwise_cons] at hl
              rcases List.mem_cons.1 h1 with h1' | h1'
              · rcases List.mem_cons.1 h2 with h2' | h2'
                · exact hpp (h1'.trans h2'.symm)
                · exact hl.1 p0 h2' (by rw [← h1']; exact e')
              · rcases List.mem_cons.1 h2 with h2' | h2'
                · exact hl.1 p h1' (by rw [← h2']; exact e'.symm)
                · exact ih hl.2 h1' h2'
          exact this es hap hp h0
      rw [e, e2] at h
      exact h.2
    · left
      refine ⟨p, hp, ?_⟩
      rw [Bool.not_eq_true] at hs
      rw [Bool.and_eq_true]
      rw [hs] at h
      exact ⟨by simpa using h.1, h.2⟩
  · rintro (⟨p, hp, h⟩ | h)
    · refine ⟨p, hp, ?_⟩
      rw [Bool.and_eq_true] at h ⊢
      refine ⟨?_, h.2⟩
      have := h.1
      simp only [Bool.not_eq_true'] at this
      rw [this]
      rfl
    · refine ⟨p0, h0, ?_⟩
      rw [e1, hsame hK, e2]
      simpa [numOf, i64L] using h
theorem part_step {β : Nat → Nat} {D N : DataW Unit} {left : Lit → Bool} {kl : Lit} {f : Fl} (h : Part β D left N) (hN : IsMap N) (hc : Canon D) (hK : WideAt.IsKeyLit kl) (hat : ∀ zd, D.atKey kl zd = i64L f.num) :
    Part β D (fun z => left z && !z.sameKey kl) (N.put (.int .i64 f.num) (i64L (β f.num))) := by
  intro k
  rw [named_step hc hK hat]
  by_cases hk : (f.num : Int) = k
  · subst hk
    rw [Maps.has_put_same (k := .int .i64 _) hN trivial]
    refine ⟨by simp, fun _ z => ?_⟩
    rw [Maps.atKey_put_same (k := .int .i64 _) hN trivial]
    simp
  · have hne : Lit.int .i64 k ≠ .int .i64 (f.num : Int) := by intro e; injection e with _ e; exact hk e.symm
    rw [Maps.has_put_other hne]
    refine ⟨by rw [(h k).1]; simp [hk], fun hh z => ?_⟩
    rw [Maps.atKey_put_other hne]
    exact (h k).2 hh z
theorem part_end {β : Nat → Nat} {fs : List Fl} {D N : DataW Unit} {left : Lit → Bool} (h : Part β D left N) (hl : ∀ k, left k = false) (hr : fs.Pairwise fun f g => f.num < g.num) (hL : Leads fs D) : FilesD β (fs.filter fun f => isNamed D (fun _ => false) f.num) N := by
  have e : left = fun _ => false := funext hl
  subst e
  intro k
  have hf : fileAt (fs.filter fun f => isNamed D (fun _ => false) f.num) k = if isNamed D (fun _ => false) k then fileAt fs k else none := by
    unfold fileAt
    rw [List.find?_filter]
    have ep : (fun f : Fl => decide (isNamed D (fun _ => false) (f.num : Int) = true ∧ ((f.num : Int) == k) = true)) = fun f : Fl => isNamed D (fun _ => false) k && (f.num : Int) == k := by
      funext f
      by_cases e : (f.num : Int) = k
      · rw [e]; simp
      · have : ((f.num : Int) == k) = false := by simpa using e
        rw [this, Bool.and_false]; simp
    rw [ep]
    cases isNamed D (fun _ => false) k with
    | false => simp
    | true => simp
  rw [hf]
  cases hn : isNamed D (fun _ => false) k with
  | false =>
    have h1 := (h k).1
    rw [hn] at h1
    rw [if_neg (by simp)]
    exact ⟨Maps.atKey_of_not_has h1 _, h1⟩
  | true =>
    have h1 := (h k).1
    rw [hn] at h1
    rw [if_pos rfl]
    obtain ⟨p, hp, hpk⟩ := List.any_eq_true.1 hn
    obtain ⟨f, hfm, e⟩ := hL p hp
    have : k = f.num := by rw [e] at hpk; simpa [numOf, i64L] using Eq.symm (show (f.num : Int) = k by simpa [numOf, i64L] using hpk)
    subst this
    rw [fileAt_of hr hfm, h1, (h _).2 h1]
    exact ⟨by simp, rfl⟩

end Go.Proofs.YtfogfpanfhmijaaGreat.Clep

/- What settle and SyncDir of a Disk do when called: the walks over the translated program. For any Disk of fewer than 2^40 calls. -/
namespace Go.Proofs.YtfogfpanfhmijaaGreat.Clep
open Go.RowKit Go.Maps
set_option linter.unusedVariables false

theorem clone_any (b n : Nat) (D : DataW Unit) (w : World) (h : w.ownsMap Tryz.prog 9 (plainElem Tryz.prog 3) b n D) :
    Calls Tryz.prog 35 #[.map (some b)] w fun e w' => e = .returned (.map (some w.heap.size)) ∧ w'.ownsMap Tryz.prog 9 (plainElem Tryz.prog 3) w.heap.size n D ∧ Below w.heap.size w w' := by
  have c := AnyW.maps_Clone_owns Tryz.cloneA 9 (plainElem Tryz.prog 3) b n D w h
  change Calls Tryz.prog 35 _ _ _ at c
  refine c.mono ?_
  rintro e w' ⟨h1, h2, _, h4⟩
  exact ⟨h1, h2, h4⟩
theorem settle_ok {S : St} (h : Ok S) : Ok { S with lasting := S.names, since := [] } := by
  obtain ⟨a1, a2, a3, a4, a5, a6, a7, a8, a9, a10, a11⟩ := h
  exact ⟨a1, a2, a3, a3, fun c hc => (by cases hc), a6, by show Maps.size S.names + 0 ≤ _; omega, a8, a9, a10, a11⟩
theorem settle_ok2 {S : St} (h : Ok S) : Ok (settleS S) := by
  obtain ⟨a1, a2, a3, a4, a5, a6, a7, a8, a9, a10, a11⟩ := h
  have L : Leads (S.files.filter fun f => isNamed S.names (fun _ => false) f.num) S.names := fun p hp => by
    obtain ⟨f, hf, e⟩ := a3 p hp
    refine ⟨f, List.mem_filter.2 ⟨hf, ?_⟩, e⟩
    unfold isNamed
    rw [List.any_eq_true]
    exact ⟨p, hp, by rw [e]; simp [numOf, i64L]⟩
  exact ⟨a1.filter _, fun f hf => a2 f (List.mem_filter.1 hf).1, L, L, fun c hc => (by cases hc), a6, by show Maps.size S.names + 0 ≤ S.calls; omega, a8, a9, a10, a11⟩
/-- A Disk whose lasting names, and what was done since, are not looked at. -/
structure DiskMid (w : World) (R : Nat) (S : St) (G : Gh) : Prop where
  row : w.heap[R]? = some (.cells (dRow S G) 51 (0, 0))
  fm : ∃ D, w.ownsMap Tryz.prog 3 ptrElem G.bf (Maps.size D) D ∧ FilesD G.β S.files D ∧ Maps.size D ≤ S.calls
  nm : w.ownsMap Tryz.prog 9 (plainElem Tryz.prog 3) G.bn (Maps.size S.names) S.names
  files : ∀ f ∈ S.files, FileIs w G f
  tR : G.τ R = 1
  tf : G.τ G.bf = 2
  tn : G.τ G.bn = 3
  top : ∀ i, w.heap.size ≤ i → G.τ i = 0
  ok : Ok S
theorem DiskIs.mid {w : World} {R : Nat} {S : St} {G : Gh} (h : DiskIs w R S G) : DiskMid w R S G := ⟨h.row, h.fm, h.nm, h.files, h.tR, h.tf, h.tn, h.top, h.ok⟩
theorem DiskMid.lt {w : World} {R : Nat} {S : St} {G : Gh} (h : DiskMid w R S G) : R < w.heap.size := (Array.getElem?_eq_some_iff.1 h.row).1
theorem DiskMid.below {w w' : World} {R : Nat} {S : St} {G : Gh} (h : DiskMid w R S G) (hb : Below w.heap.size w w') : DiskMid w' R S G := by
  have T : Turn G.τ (fun _ => False) w w' := Turn.of_below hb _
  obtain ⟨D, f1, f2, f3⟩ := h.fm
  exact ⟨row_keep T h.row id, ⟨D, map_keep T f1 id, f2, f3⟩, map_keep T h.nm id, fun f hf => file_keep T (h.files f hf) id id, h.tR, h.tf, h.tn, fun i hi => h.top i (Nat.le_trans hb.size hi), h.ok⟩
theorem DiskMid.cells {w : World} {R : Nat} {S : St} {G : Gh} (h : DiskMid w R S G) :
    w.cell? ⟨R, 7, none⟩ = some (.map (some G.bn)) ∧ w.cell? ⟨R, 8, none⟩ = some (.map (some G.bl)) ∧ w.cell? ⟨R, 9, none⟩ = some G.sv ∧ ∀ i, w.frozen? ⟨R, i, none⟩ = false := by
  refine ⟨?_, ?_, ?_, fun i => frozen_of_row w R i _ _ h.row⟩ <;> simp [World.cell?, h.row, dRow]
/-- The names have been copied, and what was done to them since is forgotten. -/
theorem lasting_set {R : Nat} {S : St} {G : Gh} {w w1 : World} (h : DiskMid w R S G) (o1 : w1.ownsMap Tryz.prog 9 (plainElem Tryz.prog 3) w.heap.size (Maps.size S.names) S.names) (b1 : Below w.heap.size w w1) :
    ∃ G', G'.bf = G.bf ∧ G'.bn = G.bn ∧ DiskIs ((w1.setCell ⟨R, 8, none⟩ (.map (some w.heap.size))).setCell ⟨R, 9, none⟩ (.slice none 0 0)) R { S with lasting := S.names, since := [] } G' ∧ Kept G G' w ((w1.setCell ⟨R, 8, none⟩ (.map (some w.heap.size))).setCell ⟨R, 9, none⟩ (.slice none 0 0)) := by
  have hR := h.lt
  have hl1 := o1.lt
  have r1 : w1.heap[R]? = some (.cells (dRow S G) 51 (0, 0)) := (b1.block R hR).trans h.row
  have r2 := heap_setCell_same w1 R 8 _ _ (.map (some w.heap.size)) r1
  have r3 := heap_setCell_same _ R 9 _ _ (.slice none 0 0) r2
  generalize hW : (w1.setCell ⟨R, 8, none⟩ (.map (some w.heap.size))).setCell ⟨R, 9, none⟩ (.slice none 0 0) = W at *
  have hoth : ∀ i, i ≠ R → W.heap[i]? = w1.heap[i]? := fun i hi => by
    rw [← hW, heap_setCell_other _ ⟨R, 9, none⟩ i _ hi, heap_setCell_other _ ⟨R, 8, none⟩ i _ hi]
  have hsz : W.heap.size = w1.heap.size := by rw [← hW]; simp
  have T : Turn G.τ (fun n => n = 1) w W := ⟨by rw [hsz]; exact b1.size, fun i hi ht => by
    rw [hoth i (fun e => ht (by rw [e]; exact h.tR))]
    exact b1.block i hi⟩
  have hne : R ≠ w.heap.size := by omega
  have ht : ∀ i, G.τ i ≠ 0 → (if i = w.heap.size then 4 else G.τ i) = G.τ i := fun i h0 => by
    rw [if_neg]
    rintro rfl
    exact h0 (h.top _ (Nat.le_refl _))
  obtain ⟨D, f1, f2, f3⟩ := h.fm
  refine ⟨{ G with bl := w.heap.size, sv := .slice none 0 0, τ := fun i => if i = w.heap.size then 4 else G.τ i }, rfl, rfl, ⟨?_, ⟨D, map_keep T f1 (by rw [h.tf]; omega), f2, f3⟩, map_keep T h.nm (by rw [h.tn]; omega), ?_, ⟨rfl, .inl ⟨rfl, rfl⟩⟩, ?_, ?_, ?_, ?_, if_pos rfl, fun g hg => (by cases hg), ?_, settle_ok h.ok⟩, ?_⟩
  · rw [r3]; rfl
  · obtain ⟨es, clock, hh, r⟩ := o1
    exact ⟨es, clock, by rw [hoth _ hne.symm]; exact hh, r⟩
  · intro f hf
    exact (file_keep T (h.files f hf) (by omega) (by omega)).retag rfl fun i hi => ht i (by omega)
  · exact (ht R (by rw [h.tR]; omega)).trans h.tR
  · exact (ht _ (by rw [h.tf]; omega)).trans h.tf
  · exact (ht _ (by rw [h.tn]; omega)).trans h.tn
  · intro i hi
    show (if i = w.heap.size then 4 else G.τ i) = 0
    rw [if_neg (by omega)]
    exact h.top i (by have := b1.size; omega)
  · refine ⟨by rw [← hW]; exact b1.os, by rw [← hW]; exact b1.tape, by rw [← hW]; exact b1.output, T.1, fun i hi h0 => T.2 i hi (by rw [h0]; omega), fun i hi h0 => ?_⟩
    show (if i = w.heap.size then 4 else G.τ i) = 0
    rw [if_neg (by omega)]
    exact h0
/-- The new map of files takes the old one's place. -/
theorem files_set {R : Nat} {S : St} {G : Gh} {w w1 : World} {N : DataW Unit} (h : DiskIs w R { S with lasting := S.names, since := [] } G) (o1 : w1.ownsMap Tryz.prog 3 ptrElem w.heap.size (Maps.size N) N) (hF : FilesD G.β (settleS S).files N) (hN : Maps.size N ≤ S.calls) (b1 : Below w.heap.size w w1) (hS : Ok S) :
    ∃ G', DiskIs (w1.setCell ⟨R, 6, none⟩ (.map (some w.heap.size))) R (settleS S) G' ∧ Kept G G' w (w1.setCell ⟨R, 6, none⟩ (.map (some w.heap.size))) := by
  have hR := h.lt
  have hl1 := o1.lt
  have r1 : w1.heap[R]? = _ := (b1.block R hR).trans h.row
  have r2 := heap_setCell_same w1 R 6 _ _ (.map (some w.heap.size)) r1
  generalize hW : w1.setCell ⟨R, 6, none⟩ (.map (some w.heap.size)) = W at *
  have hoth : ∀ i, i ≠ R → W.heap[i]? = w1.heap[i]? := fun i hi => by
    rw [← hW, heap_setCell_other _ ⟨R, 6, none⟩ i _ hi]
  have hsz : W.heap.size = w1.heap.size := by rw [← hW]; simp
  have T : Turn G.τ (fun n => n = 1) w W := ⟨by rw [hsz]; exact b1.size, fun i hi ht => by
    rw [hoth i (fun e => ht (by rw [e]; exact h.tR))]
    exact b1.block i hi⟩
  have hne : R ≠ w.heap.size := by omega
  have ht : ∀ i, G.τ i ≠ 0 → (if i = w.heap.size then 2 else G.τ i) = G.τ i := fun i h0 => by
    rw [if_neg]
    rintro rfl
    exact h0 (h.top _ (Nat.le_refl _))
  refine ⟨{ G with bf := w.heap.size, τ := fun i => if i = w.heap.size then 2 else G.τ i }, ⟨?_, ⟨N, ?_, hF, hN⟩, map_keep T h.nm (by rw [h.tn]; omega), map_keep T h.lm (by rw [h.tl]; omega), owns_keep T h.sc (fun g hg => by rw [h.ts g hg]; omega), ?_, ?_, if_pos rfl, ?_, ?_, ?_, ?_, settle_ok2 hS⟩, ?_⟩
  · rw [r2]; rfl
  · obtain ⟨es, clock, hh, r⟩ := o1
    exact ⟨es, clock, by rw [hoth _ hne.symm]; exact hh, r⟩
  · intro f hf
    exact (file_keep T (h.files f (List.mem_filter.1 hf).1) (by omega) (by omega)).retag rfl fun i hi => ht i (by omega)
  · exact (ht R (by rw [h.tR]; omega)).trans h.tR
  · exact (ht _ (by rw [h.tn]; omega)).trans h.tn
  · exact (ht _ (by rw [h.tl]; omega)).trans h.tl
  · exact fun g hg => (ht g (by rw [h.ts g hg]; omega)).trans (h.ts g hg)
  · intro i hi
    show (if i = w.heap.size then 2 else G.τ i) = 0
    rw [if_neg (by omega)]
    exact h.top i (by have := b1.size; omega)
  · refine ⟨by rw [← hW]; exact b1.os, by rw [← hW]; exact b1.tape, by rw [← hW]; exact b1.output, T.1, fun i hi h0 => T.2 i hi (by rw [h0]; omega), fun i hi h0 => ?_⟩
    show (if i = w.heap.size then 2 else G.τ i) = 0
    rw [if_neg (by omega)]
    exact h0

set_option maxHeartbeats 400000 in
set_option maxRecDepth 4000 in
theorem settle_any (R : Nat) (S : St) (G : Gh) (w : World) (h : DiskMid w R S G) (hm : S.calls ≤ 1099511627776) :
    Calls Tryz.prog 42 #[.pointer (some ⟨R, 0, none⟩)] w fun e w' => e = .returned (.tuple #[]) ∧ ∃ G', DiskIs w' R (settleS S) G' ∧ Kept G G' w w' := by
  have H := hide h
  have c7 := h.cells.1
  have hC := hide (clone_any G.bn _ S.names w h.nm)
  have hcn := hide (h.nm.canon lawS)
  have hmm := @run_makeMap Tryz.prog
  clear h
  go_enter Tryz.func42, Tryz.ntmps42
  go_wp2_with fail
  refine hC.out.mono ?_
  rintro e w1 ⟨rfl, o1, b1⟩
  obtain ⟨G1, e1, e2, D1, K1⟩ := lasting_set H.out o1 b1
  have hd1 := H.out.below b1
  have c8 := hd1.cells.2.1
  have c9 := hd1.cells.2.2.1
  have f8 := hd1.cells.2.2.2 8
  have f9 := hd1.cells.2.2.2 9
  have k9 : (w1.setCell ⟨R, 8, none⟩ (.map (some w.heap.size))).cell? ⟨R, 9, none⟩ = some G.sv := by
    rw [World.cell?_setCell_other (h := by simp)]; exact c9
  have HD1 := hide D1
  have HK1 := hide K1
  have x7 := D1.cells.2.1.2.2.1
  have hsz : ((w1.setCell ⟨R, 8, none⟩ (.map (some w.heap.size))).setCell ⟨R, 9, none⟩ (.slice none 0 0)).heap.size = w1.heap.size := by simp
  have y7 : (((w1.setCell ⟨R, 8, none⟩ (.map (some w.heap.size))).setCell ⟨R, 9, none⟩ (.slice none 0 0)).alloc (.map #[] 0)).cell? ⟨R, 7, none⟩ = some (.map (some G.bn)) := by
    rw [World.cell?_of_block (Below.heap_alloc _ _ R D1.lt), ← e2]; exact x7
  have hown := D1.nm.alloc (.map #[] 0)
  rw [e2] at hown
  have HOWN := hide hown
  have E1 := hide e1
  have E2 := hide e2
  have hbase := hide (World.ownsMap_made ((w1.setCell ⟨R, 8, none⟩ (.map (some w.heap.size))).setCell ⟨R, 9, none⟩ (.slice none 0 0)) Tryz.prog 3 ptrElem)
  have HS := hide hsz
  clear D1 K1 hd1 o1 b1 hC c7 hsz x7 hown e1 e2
  go_wp2_with (first
    | (at_range; refine wpList_range_own _ rfl _ 43 rfl 9 3 lawS Tryz.underlying43 _ G.bn _ _ rfl HOWN.out ?_; intro w0 hrg0 hg0 hs0)
    | go_in)
  have HRG := hide hrg0
  have HG0 := hide hg0
  clear hrg0 hg0 hs0 HOWN y7 k9 c8 c9 f8 f9
  generalize (w1.setCell ⟨R, 8, none⟩ (.map (some w.heap.size))).setCell ⟨R, 9, none⟩ (.slice none 0 0) = w2 at *
  simp only [World.size_alloc] at HRG
  rw [HS.out] at HRG hbase
  generalize w1.heap.size = B at *
  have hbB : G.bn < B := by have h1 := H.out.nm.lt; have h2 := HK1.out.size; have h3 := HS.out; omega
  have HB0 := hide (show Below B w2 w0 from ((Below.refl B w2).alloc (by rw [HS.out]; exact Nat.le_refl _) (.map #[] 0)).grown HG0.out (by simp [HS.out]) (fun k hk => by cases hk))
  have HN0 := hide (tight (hbase.out.kept HG0.out (by simp)))
  clear hbase HG0 hmm
  go_frame
  rw [show (w2.alloc (.map #[] 0)).heap.size = B + 1 from by simp [HS.out]]
  go_loopw [4] (fun _ wr => ∃ (left : Lit → Bool) (cnt : Nat) (N : DataW Unit), Hid (wr.ranges Tryz.prog 9 (plainElem Tryz.prog 3) G.bn (B + 1) (Maps.size S.names) S.names left cnt) ∧ Hid (wr.ownsMap Tryz.prog 3 ptrElem B (Maps.size N) N) ∧ Hid (Part G1.β S.names left N) ∧
    Hid (Maps.size N + cnt ≤ Maps.size S.names) ∧ Hid (Below B w2 wr)) (fun _ wr => wr.rangeLeft G.bn (B + 1))
  case atStart => exact ⟨_, _, _, HRG, HN0, hide (part_start _ _ hcn.out), hide (by show 0 + _ ≤ _; omega), HB0⟩
  case round =>
    obtain ⟨left, cnt, N, hrg, hN, hP, hz, hbl⟩ := hrel
    go_wp2_with (first
      | (at_next; refine next_si _ rfl _ rfl G.bn (B + 1) _ _ _ _ rfl hrg.out ?_ ?_)
      | fail)
    · intro _ hl0
      have hb2 : Below w2.heap.size w2 wr := by rw [HS.out]; exact hbl.out
      have hN2 := hN.out
      rw [← HS.out] at hN2
      have FS := hide (files_set HD1.out hN2 (part_end hP.out hl0 H.out.ok.rise H.out.ok.named) (by have h1 := hz.out; have h2 := H.out.ok.szn; omega) hb2 H.out.ok)
      have D3 := HD1.out.below hb2
      have c6 := D3.cells.2.1.2.1
      have f6 := D3.cells.2.2 6
      rw [HS.out] at FS
      clear hb2 hN2 D3
      go_wp2
      go_end0
      obtain ⟨G', D', K'⟩ := FS.out
      exact ⟨rfl, G', D', HK1.out.trans K'⟩
    · intro x c w3 cnt1 hwc hlk hat hrg1 hlt hg1 hs1 hen
      obtain ⟨f, hf⟩ := Ok.leads H.out.ok.rise H.out.ok.named hcn.out hat
      obtain rfl : c = f.num := (fileAt_mem hf).2
      have B1 := hbl.out.grown hg1 (by have h1 := hbl.out.size; have h3 := HS.out; omega) (fun k hk => by cases hk; omega)
      have D3 := HD1.out.below (by rw [HS.out]; exact B1)
      have c6 := D3.cells.2.1.2.1
      obtain ⟨DD, f1, f2, f3⟩ := D3.fm
      have hlook := look_file G1 rfl f1 f2 hwc
      rw [show fileAt ({ S with lasting := S.names, since := [] } : St).files (f.num : Int) = some f from hf] at hlook
      simp only [ptrOf] at hlook
      have N3 := hide (hN.out.kept hg1 (by simp))
      have HP1 := hide (part_step hP.out hN.out.isMap hcn.out (kl := key x) trivial hat)
      have hzp := Maps.size_put (hN.out.tidy lawI) (k := .int .i64 (f.num : Int)) (i64L (G1.β f.num))
      have HZ := hide (show Maps.size (N.put (.int .i64 (f.num : Int)) (i64L (G1.β f.num))) + cnt1 ≤ Maps.size S.names by have h1 := hz.out; split at hzp <;> omega)
      have hzm : Maps.size N < 9223372036854775807 := by have h1 := hz.out; have h2 := H.out.ok.szn; omega
      have HR1 := hide hrg1
      have HB1 := hide B1
      have HLT := hide hlt
      have hsz3 : B ≤ w3.heap.size := by have h1 := B1.size; have h3 := HS.out; omega
      have kk := keyOf_int_mk Tryz.underlying3 hwc
      have KKK := hide kk
      clear B1 D3 f1 f2 f3 hrg1 hat hlk hlt hs1 hzp hg1 hf kk
      go_wp2_with (first
        | (at_mapUpdate; refine wpList_mapUpdate_own _ rfl _ _ _ 41 rfl 3 71 lawI Tryz.underlying41 _ B _ _ rfl N3.out hzm _ _ _ rfl rfl KKK.out (i64L (G1.β f.num)) [] (ptrElem_mk _) ?_; intro w4 o4 g4)
        | go_in)
      go_frame
      go_roundw
      case rel => exact ⟨_, cnt1, _, hide (HR1.out.kept g4 (by simp; omega) (by simp)), hide (tight o4), HP1, HZ, hide (HB1.out.grown g4 hsz3 (fun k hk => by cases hk; exact Nat.le_refl _))⟩
      case measure =>
        rw [(HR1.out.kept g4 (by simp; omega) (by simp)).left_eq, hrg.out.left_eq]
        exact HLT.out

end Go.Proofs.YtfogfpanfhmijaaGreat.Clep
