/- What settle of a Disk does when called (a walk over the translated program): for any Disk of at most 2^40 calls. -/
import Derived.Test.YtdldpdllhnpdaabYd
namespace Go.Proofs.Ytdldpdllhnpdaab.Clep
open Go.RowKit Go.Maps
set_option linter.unusedVariables false
set_option maxRecDepth 10000

def isNamed (D : DataW Unit) (left : Lit → Bool) (k : Int) : Bool := (entries D).any fun p => !left p.1 && numOf p.2 == k
def settleS (S : St) : St := { S with lasting := S.names, since := [], files := S.files.filter fun f => isNamed S.names (fun _ => false) f.num }
/-- What the new map of files holds, behind some of the names. -/
def Part (β : Nat → Nat) (D : DataW Unit) (left : Lit → Bool) (N : DataW Unit) : Prop := ∀ k : Int, Maps.has N (.int .i64 k) = isNamed D left k ∧ (Maps.has N (.int .i64 k) = true → ∀ z, N.atKey (.int .i64 k) z = i64L (β k.toNat))
theorem part_start (β : Nat → Nat) (D : DataW Unit) (hc : Canon D) : Part β D (Maps.has D) (.map []) := by
  obtain ⟨es, rfl, _, hk⟩ := hc
  intro k
  refine ⟨?_, fun h => by cases h⟩
  show false = _
  symm
  unfold isNamed
  rw [List.any_eq_false]
  intro p hp
  simp only [entries] at hp
  have : Maps.has (.map es) p.1 = true := by
    rw [Maps.has_eq, List.any_eq_true]
    exact ⟨p, hp, WideAt.sameKey_self (hk p hp)⟩
  rw [this]
  simp
theorem named_step {D : DataW Unit} {left : Lit → Bool} {kl : Lit} {c : Int} (hc : Canon D) (hK : WideAt.IsKeyLit kl) (hat : ∀ zd, D.atKey kl zd = i64L c) (k : Int) :
    isNamed D (fun z => left z && !z.sameKey kl) k = (isNamed D left k || c == k) := by
  obtain ⟨p0, h0, e1, e2⟩ := entry_of hc hat
  obtain ⟨es, rfl, hr, _⟩ := hc
  have hap := Maps.apart_of_rising hr
  unfold isNamed
  simp only [entries] at h0 ⊢
  rw [Bool.eq_iff_iff, Bool.or_eq_true, List.any_eq_true, List.any_eq_true]
  have hsame : WideAt.IsKeyLit kl → kl.sameKey kl = true := WideAt.sameKey_self
  constructor
  · rintro ⟨p, hp, h⟩
    rw [Bool.and_eq_true] at h
    by_cases hs : p.1.sameKey kl = true
    · right
      have e : p = p0 := by
        have e' : p.1 = p0.1 := (WideAt.sameKey_eq hs).trans e1.symm
        by_cases hpp : p = p0
        · exact hpp
        · exfalso
          have : ∀ l : List (Lit × DataW Unit), l.Pairwise (fun p q => p.1 ≠ q.1) → p ∈ l → p0 ∈ l → False := by
            intro l
            induction l with
            | nil => intro _ h; cases h
            | cons x r ih =>
              intro hl h1 h2
              rw [List.pairwise_cons] at hl
              rcases List.mem_cons.1 h1 with h1' | h1'
              · rcases List.mem_cons.1 h2 with h2' | h2'
                · exact hpp (h1'.trans h2'.symm)
                · exact hl.1 p0 h2' (by rw [← h1']; exact e')
              · rcases List.mem_cons.1 h2 with h2' | h2'
                · exact hl.1 p h1' (by rw [← h2']; exact e'.symm)
                · exact ih hl.2 h1' h2'
          exact this es hap hp h0
      rw [e, e2] at h
      exact h.2
    · left
      refine ⟨p, hp, ?_⟩
      rw [Bool.not_eq_true] at hs
      rw [Bool.and_eq_true]
      rw [hs] at h
      exact ⟨by simpa using h.1, h.2⟩
  · rintro (⟨p, hp, h⟩ | h)
    · refine ⟨p, hp, ?_⟩
      rw [Bool.and_eq_true] at h ⊢
      refine ⟨?_, h.2⟩
      have := h.1
      simp only [Bool.not_eq_true'] at this
      rw [this]
      rfl
    · refine ⟨p0, h0, ?_⟩
      rw [e1, hsame hK, e2]
      simpa [numOf, i64L] using h
theorem part_step {β : Nat → Nat} {D N : DataW Unit} {left : Lit → Bool} {kl : Lit} {f : Fl} (h : Part β D left N) (hN : IsMap N) (hc : Canon D) (hK : WideAt.IsKeyLit kl) (hat : ∀ zd, D.atKey kl zd = i64L f.num) :
    Part β D (fun z => left z && !z.sameKey kl) (N.put (.int .i64 f.num) (i64L (β f.num))) := by
  intro k
  rw [named_step hc hK hat]
  by_cases hk : (f.num : Int) = k
  · subst hk
    rw [Maps.has_put_same (k := .int .i64 _) hN trivial]
    refine ⟨by simp, fun _ z => ?_⟩
    rw [Maps.atKey_put_same (k := .int .i64 _) hN trivial]
    simp
  · have hne : Lit.int .i64 k ≠ .int .i64 (f.num : Int) := by intro e; injection e with _ e; exact hk e.symm
    rw [Maps.has_put_other hne]
    refine ⟨by rw [(h k).1]; simp [hk], fun hh z => ?_⟩
    rw [Maps.atKey_put_other hne]
    exact (h k).2 hh z
theorem part_end {β : Nat → Nat} {fs : List Fl} {D N : DataW Unit} {left : Lit → Bool} (h : Part β D left N) (hl : ∀ k, left k = false) (hr : fs.Pairwise fun f g => f.num < g.num) (hL : Leads fs D) : FilesD β (fs.filter fun f => isNamed D (fun _ => false) f.num) N := by
  have e : left = fun _ => false := funext hl
  subst e
  intro k
  have hf : fileAt (fs.filter fun f => isNamed D (fun _ => false) f.num) k = if isNamed D (fun _ => false) k then fileAt fs k else none := by
    unfold fileAt
    rw [List.find?_filter]
    have ep : (fun f : Fl => decide (isNamed D (fun _ => false) (f.num : Int) = true ∧ ((f.num : Int) == k) = true)) = fun f : Fl => isNamed D (fun _ => false) k && (f.num : Int) == k := by
      funext f
      by_cases e : (f.num : Int) = k
      · rw [e]; simp
      · have : ((f.num : Int) == k) = false := by simpa using e
        rw [this, Bool.and_false]; simp
    rw [ep]
    cases isNamed D (fun _ => false) k with
    | false => simp
    | true => simp
  rw [hf]
  cases hn : isNamed D (fun _ => false) k with
  | false =>
    have h1 := (h k).1
    rw [hn] at h1
    rw [if_neg (by simp)]
    exact ⟨Maps.atKey_of_not_has h1 _, h1⟩
  | true =>
    have h1 := (h k).1
    rw [hn] at h1
    rw [if_pos rfl]
    obtain ⟨p, hp, hpk⟩ := List.any_eq_true.1 hn
    obtain ⟨f, hfm, e⟩ := hL p hp
    have : k = f.num := by rw [e] at hpk; simpa [numOf, i64L] using Eq.symm (show (f.num : Int) = k by simpa [numOf, i64L] using hpk)
    subst this
    rw [fileAt_of hr hfm, h1, (h _).2 h1]
    exact ⟨by simp, rfl⟩

end Go.Proofs.Ytdldpdllhnpdaab.Clep

/- What settle and SyncDir of a Disk do when called: the walks over the translated program. For any Disk of fewer than 2^40 calls. -/
namespace Go.Proofs.Ytdldpdllhnpdaab.Clep
open Go.RowKit Go.Maps
set_option linter.unusedVariables false
set_option maxRecDepth 10000

theorem settle_ok {S : St} (h : Ok S) : Ok { S with lasting := S.names, since := [] } := by
  obtain ⟨a1, a2, a3, a4, a5, a6, a7, a8, a9, a10, a11⟩ := h
  exact ⟨a1, a2, a3, a3, fun c hc => (by cases hc), a6, by show Maps.size S.names + 0 ≤ _; omega, a8, a9, a10, a11⟩
theorem settle_ok2 {S : St} (h : Ok S) : Ok (settleS S) := by
  obtain ⟨a1, a2, a3, a4, a5, a6, a7, a8, a9, a10, a11⟩ := h
  have L : Leads (S.files.filter fun f => isNamed S.names (fun _ => false) f.num) S.names := fun p hp => by
    obtain ⟨f, hf, e⟩ := a3 p hp
    refine ⟨f, List.mem_filter.2 ⟨hf, ?_⟩, e⟩
    unfold isNamed
    rw [List.any_eq_true]
    exact ⟨p, hp, by rw [e]; simp [numOf, i64L]⟩
  exact ⟨a1.filter _, fun f hf => a2 f (List.mem_filter.1 hf).1, L, L, fun c hc => (by cases hc), a6, by show Maps.size S.names + 0 ≤ S.calls; omega, a8, a9, a10, a11⟩
/-- A Disk whose lasting names, and what was done since, are not looked at. -/
structure DiskMid (w : World) (R : Nat) (S : St) (G : Gh) : Prop where
  row : w.heap[R]? = some (.cells (dRow S G) 51 (0, 0))
  fm : ∃ D, w.ownsMap Try.prog 3 ptrElem G.bf (Maps.size D) D ∧ FilesD G.β S.files D ∧ Maps.size D ≤ S.calls
  nm : w.ownsMap Try.prog 9 (plainElem Try.prog 3) G.bn (Maps.size S.names) S.names
  files : ∀ f ∈ S.files, FileIs w G f
  tR : G.τ R = 1
  tf : G.τ G.bf = 2
  tn : G.τ G.bn = 3
  top : ∀ i, w.heap.size ≤ i → G.τ i = 0
  ok : Ok S
theorem DiskIs.mid {w : World} {R : Nat} {S : St} {G : Gh} (h : DiskIs w R S G) : DiskMid w R S G := ⟨h.row, h.fm, h.nm, h.files, h.tR, h.tf, h.tn, h.top, h.ok⟩
theorem DiskMid.lt {w : World} {R : Nat} {S : St} {G : Gh} (h : DiskMid w R S G) : R < w.heap.size := (Array.getElem?_eq_some_iff.1 h.row).1
theorem DiskMid.below {w w' : World} {R : Nat} {S : St} {G : Gh} (h : DiskMid w R S G) (hb : Below w.heap.size w w') : DiskMid w' R S G := by
  have T : Turn G.τ (fun _ => False) w w' := Turn.of_below hb _
  obtain ⟨D, f1, f2, f3⟩ := h.fm
  exact ⟨drow_keep T h.row id, ⟨D, map_keep T f1 id, f2, f3⟩, map_keep T h.nm id, fun f hf => file_keep T (h.files f hf) id id, h.tR, h.tf, h.tn, fun i hi => h.top i (Nat.le_trans hb.size hi), h.ok⟩
theorem DiskMid.cells {w : World} {R : Nat} {S : St} {G : Gh} (h : DiskMid w R S G) :
    w.cell? ⟨R, 7, none⟩ = some (.map (some G.bn)) ∧ w.cell? ⟨R, 8, none⟩ = some (.map (some G.bl)) ∧ w.cell? ⟨R, 9, none⟩ = some G.sv ∧ ∀ i, w.frozen? ⟨R, i, none⟩ = false := by
  refine ⟨?_, ?_, ?_, fun i => frozen_of_row w R i _ _ h.row⟩ <;> simp [World.cell?, h.row, dRow]
/-- The names have been copied, and what was done to them since is forgotten. -/
theorem lasting_set {R : Nat} {S : St} {G : Gh} {w w1 : World} (h : DiskMid w R S G) (o1 : w1.ownsMap Try.prog 9 (plainElem Try.prog 3) w.heap.size (Maps.size S.names) S.names) (b1 : Below w.heap.size w w1) :
    ∃ G', G'.bf = G.bf ∧ G'.bn = G.bn ∧ DiskIs ((w1.setCell ⟨R, 8, none⟩ (.map (some w.heap.size))).setCell ⟨R, 9, none⟩ (.slice none 0 0)) R { S with lasting := S.names, since := [] } G' ∧ Kept G G' w ((w1.setCell ⟨R, 8, none⟩ (.map (some w.heap.size))).setCell ⟨R, 9, none⟩ (.slice none 0 0)) := by
  have hR := h.lt
  have hl1 := o1.lt
  have r1 : w1.heap[R]? = some (.cells (dRow S G) 51 (0, 0)) := (b1.block R hR).trans h.row
  have r2 := heap_setCell_same w1 R 8 _ _ (.map (some w.heap.size)) r1
  have r3 := heap_setCell_same _ R 9 _ _ (.slice none 0 0) r2
  generalize hW : (w1.setCell ⟨R, 8, none⟩ (.map (some w.heap.size))).setCell ⟨R, 9, none⟩ (.slice none 0 0) = W at *
  have hoth : ∀ i, i ≠ R → W.heap[i]? = w1.heap[i]? := fun i hi => by
    rw [← hW, heap_setCell_other _ ⟨R, 9, none⟩ i _ hi, heap_setCell_other _ ⟨R, 8, none⟩ i _ hi]
  have hsz : W.heap.size = w1.heap.size := by rw [← hW]; simp
  have T : Turn G.τ (fun n => n = 1) w W := ⟨by rw [hsz]; exact b1.size, fun i hi ht => by
    rw [hoth i (fun e => ht (by rw [e]; exact h.tR))]
    exact b1.block i hi⟩
  have hne : R ≠ w.heap.size := by omega
  have ht : ∀ i, G.τ i ≠ 0 → (if i = w.heap.size then 4 else G.τ i) = G.τ i := fun i h0 => by
    rw [if_neg]
    rintro rfl
    exact h0 (h.top _ (Nat.le_refl _))
  obtain ⟨D, f1, f2, f3⟩ := h.fm
  refine ⟨{ G with bl := w.heap.size, sv := .slice none 0 0, τ := fun i => if i = w.heap.size then 4 else G.τ i }, rfl, rfl, ⟨?_, ⟨D, map_keep T f1 (by rw [h.tf]; omega), f2, f3⟩, map_keep T h.nm (by rw [h.tn]; omega), ?_, ⟨rfl, .inl ⟨rfl, rfl⟩⟩, ?_, ?_, ?_, ?_, if_pos rfl, fun g hg => (by cases hg), ?_, settle_ok h.ok⟩, ?_⟩
  · rw [r3]; rfl
  · obtain ⟨es, clock, hh, r⟩ := o1
    exact ⟨es, clock, by rw [hoth _ hne.symm]; exact hh, r⟩
  · intro f hf
    exact (file_keep T (h.files f hf) (by omega) (by omega)).retag rfl fun i hi => ht i (by omega)
  · exact (ht R (by rw [h.tR]; omega)).trans h.tR
  · exact (ht _ (by rw [h.tf]; omega)).trans h.tf
  · exact (ht _ (by rw [h.tn]; omega)).trans h.tn
  · intro i hi
    show (if i = w.heap.size then 4 else G.τ i) = 0
    rw [if_neg (by omega)]
    exact h.top i (by have := b1.size; omega)
  · refine ⟨by rw [← hW]; exact b1.os, by rw [← hW]; exact b1.tape, by rw [← hW]; exact b1.output, T.1, fun i hi h0 => T.2 i hi (by rw [h0]; omega), fun i hi h0 => ?_⟩
    show (if i = w.heap.size then 4 else G.τ i) = 0
    rw [if_neg (by omega)]
    exact h0
/-- The new map of files takes the old one's place. -/
theorem files_set {R : Nat} {S : St} {G : Gh} {w w1 : World} {N : DataW Unit} (h : DiskIs w R { S with lasting := S.names, since := [] } G) (o1 : w1.ownsMap Try.prog 3 ptrElem w.heap.size (Maps.size N) N) (hF : FilesD G.β (settleS S).files N) (hN : Maps.size N ≤ S.calls) (b1 : Below w.heap.size w w1) (hS : Ok S) :
    ∃ G', DiskIs (w1.setCell ⟨R, 6, none⟩ (.map (some w.heap.size))) R (settleS S) G' ∧ Kept G G' w (w1.setCell ⟨R, 6, none⟩ (.map (some w.heap.size))) := by
  have hR := h.lt
  have hl1 := o1.lt
  have r1 : w1.heap[R]? = _ := (b1.block R hR).trans h.row
  have r2 := heap_setCell_same w1 R 6 _ _ (.map (some w.heap.size)) r1
  generalize hW : w1.setCell ⟨R, 6, none⟩ (.map (some w.heap.size)) = W at *
  have hoth : ∀ i, i ≠ R → W.heap[i]? = w1.heap[i]? := fun i hi => by
    rw [← hW, heap_setCell_other _ ⟨R, 6, none⟩ i _ hi]
  have hsz : W.heap.size = w1.heap.size := by rw [← hW]; simp
  have T : Turn G.τ (fun n => n = 1) w W := ⟨by rw [hsz]; exact b1.size, fun i hi ht => by
    rw [hoth i (fun e => ht (by rw [e]; exact h.tR))]
    exact b1.block i hi⟩
  have hne : R ≠ w.heap.size := by omega
  have ht : ∀ i, G.τ i ≠ 0 → (if i = w.heap.size then 2 else G.τ i) = G.τ i := fun i h0 => by
    rw [if_neg]
    rintro rfl
    exact h0 (h.top _ (Nat.le_refl _))
  refine ⟨{ G with bf := w.heap.size, τ := fun i => if i = w.heap.size then 2 else G.τ i }, ⟨?_, ⟨N, ?_, hF, hN⟩, map_keep T h.nm (by rw [h.tn]; omega), map_keep T h.lm (by rw [h.tl]; omega), owns_keep T h.sc (fun g hg => by rw [h.ts g hg]; omega), ?_, ?_, if_pos rfl, ?_, ?_, ?_, ?_, settle_ok2 hS⟩, ?_⟩
  · rw [r2]; rfl
  · obtain ⟨es, clock, hh, r⟩ := o1
    exact ⟨es, clock, by rw [hoth _ hne.symm]; exact hh, r⟩
  · intro f hf
    exact (file_keep T (h.files f (List.mem_filter.1 hf).1) (by omega) (by omega)).retag rfl fun i hi => ht i (by omega)
  · exact (ht R (by rw [h.tR]; omega)).trans h.tR
  · exact (ht _ (by rw [h.tn]; omega)).trans h.tn
  · exact (ht _ (by rw [h.tl]; omega)).trans h.tl
  · exact fun g hg => (ht g (by rw [h.ts g hg]; omega)).trans (h.ts g hg)
  · intro i hi
    show (if i = w.heap.size then 2 else G.τ i) = 0
    rw [if_neg (by omega)]
    exact h.top i (by have := b1.size; omega)
  · refine ⟨by rw [← hW]; exact b1.os, by rw [← hW]; exact b1.tape, by rw [← hW]; exact b1.output, T.1, fun i hi h0 => T.2 i hi (by rw [h0]; omega), fun i hi h0 => ?_⟩
    show (if i = w.heap.size then 2 else G.τ i) = 0
    rw [if_neg (by omega)]
    exact h0

end Go.Proofs.Ytdldpdllhnpdaab.Clep

/- What crash of a file does when called (a walk over the translated program): for any file of at most 250000 bytes, any numbers. -/
namespace Go.Proofs.Ytdldpdllhnpdaab.Clep
open Go.RowKit Go.Maps
set_option linter.unusedVariables false
set_option maxRecDepth 10000

def keepN (f : Fl) (ks : List Int) : Nat := if f.bs.length = f.lasts then 0 else match ks with
  | [] => f.bs.length - f.lasts
  | k :: _ => (k % ((f.bs.length - f.lasts : Nat) + 1 : Int)).toNat
def restK (f : Fl) (ks : List Int) : List Int := if f.bs.length = f.lasts then ks else ks.tail
def crashF (f : Fl) (ks : List Int) : Fl := { f with lasts := f.lasts + keepN f ks, bs := f.bs.take (f.lasts + keepN f ks) }
theorem keepN_le (f : Fl) (ks : List Int) (h : f.lasts ≤ f.bs.length) : f.lasts + keepN f ks ≤ f.bs.length := by
  unfold keepN
  split
  · omega
  · cases ks with
    | nil => simp only; omega
    | cons k r =>
      simp only
      have h1 := Int.emod_lt_of_pos k (show (0 : Int) < ((f.bs.length - f.lasts : Nat) : Int) + 1 by omega)
      omega

/-- A file's last step of a crash: its bytes are cut. -/
structure Near (b V : Nat) (Q : Nat → Prop) (ao : Option Addr) (cap L m : Nat) (ks : List Int) (w w5 : World) : Prop where
  row : w5.heap[b]? = some (.cells #[.slice ao L cap, .int .i64 m] 56 (0, 0))
  oth : ∀ i, i ≠ b → i ≠ V → w5.heap[i]? = w.heap[i]?
  size : w5.heap.size = w.heap.size
  os : w5.os = w.os ∧ w5.tape = w.tape ∧ w5.output = w.output
  var : ∃ v', Var1 w5 V v' ∧ NumV Q w5 v' ks
theorem near_set {b V : Nat} {Q : Nat → Prop} {ao : Option Addr} {cap L A m : Nat} {v' : Value} {ks : List Int} {w W : World} (hW : W.heap[b]? = some (.cells #[.slice ao L cap, .int .i64 A] 56 (0, 0))) (h1 : One V w W) (hV : Var1 W V v') (hk : NumV Q W v' ks) (hbV : b ≠ V) (hQ : ¬ Q b) :
    Near b V Q ao cap L m ks w (W.setCell ⟨b, 1, none⟩ (.int .i64 m)) := by
  have ho : ∀ i, i ≠ b → (W.setCell ⟨b, 1, none⟩ (.int .i64 m)).heap[i]? = W.heap[i]? := fun i hi => heap_setCell_other _ ⟨b, 1, none⟩ i _ hi
  refine ⟨by rw [heap_setCell_same W b 1 _ _ _ hW]; rfl, fun i hi hiV => (ho i hi).trans (h1.block i hiV), by simp [h1.size], ⟨h1.os, h1.tape, h1.output⟩, v', ?_, hk.keep fun i _ hi => ho i (fun e => hQ (by rw [← e]; exact hi))⟩
  obtain ⟨T, hT⟩ := hV
  exact ⟨T, (ho V hbV.symm).trans hT⟩
theorem near_end {b V : Nat} {Q : Nat → Prop} {ao : Option Addr} {cap L m : Nat} {ks : List Int} {w w5 : World} (h : Near b V Q ao cap L m ks w w5) (hbV : b ≠ V) (hQ : ¬ Q b) :
    (w5.setCell ⟨b, 0, none⟩ (.slice ao m cap)).heap[b]? = some (.cells #[.slice ao m cap, .int .i64 m] 56 (0, 0)) ∧ (∀ i, i ≠ b → i ≠ V → (w5.setCell ⟨b, 0, none⟩ (.slice ao m cap)).heap[i]? = w.heap[i]?) ∧ (w5.setCell ⟨b, 0, none⟩ (.slice ao m cap)).heap.size = w.heap.size ∧
      ((w5.setCell ⟨b, 0, none⟩ (.slice ao m cap)).os = w.os ∧ (w5.setCell ⟨b, 0, none⟩ (.slice ao m cap)).tape = w.tape ∧ (w5.setCell ⟨b, 0, none⟩ (.slice ao m cap)).output = w.output) ∧
      ∃ v', Var1 (w5.setCell ⟨b, 0, none⟩ (.slice ao m cap)) V v' ∧ NumV Q (w5.setCell ⟨b, 0, none⟩ (.slice ao m cap)) v' ks := by
  have ho : ∀ i, i ≠ b → (w5.setCell ⟨b, 0, none⟩ (.slice ao m cap)).heap[i]? = w5.heap[i]? := fun i hi => heap_setCell_other _ ⟨b, 0, none⟩ i _ hi
  obtain ⟨v', ⟨T, hT⟩, hk⟩ := h.var
  exact ⟨by rw [heap_setCell_same w5 b 0 _ _ _ h.row]; rfl, fun i hi hiV => (ho i hi).trans (h.oth i hi hiV), by simp [h.size], h.os, v', ⟨T, (ho V hbV.symm).trans hT⟩, hk.keep fun i _ hi => ho i (fun e => hQ (by rw [← e]; exact hi))⟩
theorem keepN_none (f : Fl) (h : f.bs.length ≠ f.lasts) : keepN f [] = f.bs.length - f.lasts := by unfold keepN; rw [if_neg h]
theorem keepN_some (f : Fl) (k : Int) (r : List Int) (h : f.bs.length ≠ f.lasts) : keepN f (k :: r) = (k % ((f.bs.length - f.lasts : Nat) + 1 : Int)).toNat := by unfold keepN; rw [if_neg h]

end Go.Proofs.Ytdldpdllhnpdaab.Clep

/- What a Crash of a Disk comes to, and the keys of its files in order. No conditions but the model's bounds. -/
namespace Go.Proofs.Ytdldpdllhnpdaab.Clep
open Go.RowKit Go.Maps Go.Sort Go.Shelf
set_option linter.unusedVariables false
set_option maxRecDepth 10000

def crashAll : List Fl → List Int → List Fl × List Int
  | [], ks => ([], ks)
  | f :: r, ks => (crashF f ks :: (crashAll r (restK f ks)).1, (crashAll r (restK f ks)).2)
def evenK : List Int → Bool
  | [] => true
  | k :: _ => k.tmod 2 == 0
def doAll : List Chn → DataW Unit → List Int → DataW Unit
  | [], D, _ => D
  | c :: r, D, ks => doAll r (if evenK ks then doS D c else D) ks.tail
def crashS (S : St) (ks : List Int) : St :=
  { settleS { S with files := (crashAll S.files ks).1, names := doAll S.since S.lasting (crashAll S.files ks).2, lasting := doAll S.since S.lasting (crashAll S.files ks).2, since := [] } with stop := 0, fail := 0, dead := false }
theorem crashAll_snoc : ∀ (l : List Fl) (f : Fl) (ks : List Int), crashAll (l ++ [f]) ks = ((crashAll l ks).1 ++ [crashF f (crashAll l ks).2], restK f (crashAll l ks).2)
  | [], f, ks => rfl
  | g :: l, f, ks => by
    rw [List.cons_append]
    simp only [crashAll]
    rw [crashAll_snoc l f (restK g ks)]
    rfl
theorem doAll_snoc : ∀ (l : List Chn) (c : Chn) (D : DataW Unit) (ks : List Int), doAll (l ++ [c]) D ks = if evenK (ks.drop l.length) then doS (doAll l D ks) c else doAll l D ks
  | [], c, D, ks => rfl
  | d :: l, c, D, ks => by
    rw [List.cons_append]
    simp only [doAll, List.length_cons]
    rw [doAll_snoc l c _ ks.tail, List.drop_tail]
theorem crashAll_nums : ∀ (l : List Fl) (ks : List Int), (crashAll l ks).1.map (·.num) = l.map (·.num)
  | [], ks => rfl
  | f :: l, ks => by
    simp only [crashAll, List.map_cons]
    rw [crashAll_nums l]
    rfl
theorem upd_mid {l r : List Fl} {f : Fl} {g : Fl → Fl} (h : (l ++ f :: r).Pairwise fun f g => f.num < g.num) : updF (l ++ f :: r) f.num g = l ++ g f :: r := by
  rw [List.pairwise_append] at h
  obtain ⟨_, h2, h3⟩ := h
  rw [List.pairwise_cons] at h2
  unfold updF
  rw [List.map_append, List.map_cons, if_pos rfl]
  congr 1
  · conv => rhs; rw [← List.map_id l]
    refine List.map_congr_left fun x hx => ?_
    have := h3 x hx f List.mem_cons_self
    rw [if_neg (by omega)]
    rfl
  · congr 1
    conv => rhs; rw [← List.map_id r]
    refine List.map_congr_left fun x hx => ?_
    have := h2.1 x hx
    rw [if_neg (by omega)]
    rfl

theorem sort_files {fs : List Fl} {ss : List Int} {D : DataW Unit} (hp : (fs.map fun f => (f.num : Int)).Perm (intKeys D)) (hs : ss.Perm (intKeys D)) (hr : fs.Pairwise fun f g => f.num < g.num) : ss.mergeSort (fun x y => decide (x ≤ y)) = fs.map fun f => (f.num : Int) := by
  rw [show (fun x y : Int => decide (x ≤ y)) = leI from rfl, mergeSort_of_perm_i (hs.trans hp.symm)]
  refine List.mergeSort_of_pairwise ?_
  rw [List.pairwise_map]
  exact hr.imp (fun {a b} h => by simp only [leI, decide_eq_true_eq]; omega)

end Go.Proofs.Ytdldpdllhnpdaab.Clep

/- What Crash of a Disk does when called: what the walk needs of one file, of one change of names, and at its ends. For any Disk of at most 2^40 calls, any numbers. -/
namespace Go.Proofs.Ytdldpdllhnpdaab.Clep
open Go.RowKit Go.Maps
set_option linter.unusedVariables false
set_option maxRecDepth 10000

def tagV (G : Gh) (V : Nat) : Gh := { G with τ := fun i => if i = V then 6 else G.τ i }
theorem tag_new {R : Nat} {S : St} {G : Gh} {w : World} (h : DiskIs w R S G) (o : Obj) : DiskIs (w.alloc o) R S (tagV G w.heap.size) ∧ Kept G (tagV G w.heap.size) w (w.alloc o) := by
  have hb := (Below.refl w.heap.size w).alloc (Nat.le_refl _) o
  have ht : ∀ i, G.τ i ≠ 0 → (tagV G w.heap.size).τ i = G.τ i := fun i h0 => by
    show (if i = w.heap.size then 6 else G.τ i) = _
    rw [if_neg]
    rintro rfl
    exact h0 (h.top _ (Nat.le_refl _))
  have h' := h.below hb
  refine ⟨⟨h'.row, h'.fm, h'.nm, h'.lm, h'.sc, fun f hf => (h'.files f hf).retag rfl fun i hi => ht i (by omega), ?_, ?_, ?_, ?_, ?_, ?_, h.ok⟩, ⟨rfl, rfl, rfl, by simp, fun i hi _ => Below.heap_alloc w o i hi, fun i hi h0 => ?_⟩⟩
  · rw [ht R (by rw [h.tR]; omega)]; exact h.tR
  · exact (ht G.bf (by rw [h.tf]; omega)).trans h.tf
  · exact (ht G.bn (by rw [h.tn]; omega)).trans h.tn
  · exact (ht G.bl (by rw [h.tl]; omega)).trans h.tl
  · exact fun g hg => (ht g (by rw [h.ts g hg]; omega)).trans (h.ts g hg)
  · intro i hi
    show (if i = w.heap.size then 6 else G.τ i) = 0
    simp at hi
    rw [if_neg (by omega)]
    exact h.top i (by omega)
  · show (if i = w.heap.size then 6 else G.τ i) = 0
    rw [if_neg (by omega)]
    exact h0
theorem own_take {w w' : World} {ao : Option Addr} {L m cap : Nat} {zs : List Int} (h : Own w 0 (.slice ao L cap) zs) (hl : zs.length = L) (hm : m ≤ L) (hk : ∀ g, (Value.slice ao L cap).ownBlock = some g → w'.heap[g]? = w.heap[g]?) : Own w' 0 (.slice ao m cap) (zs.take m) := by
  have hlen : (zs.take m).length = m := by rw [List.length_take]; omega
  obtain ⟨h1, ⟨h2, h3⟩ | ⟨g, cap', cur, h2, hg, hh, hnc, hcm, hcs, hx⟩⟩ := h
  · injection h2 with e1 e2 e3
    subst e1 e3
    have hm0 : m = 0 := by omega
    subst hm0
    exact ⟨rfl, .inl ⟨rfl, rfl⟩⟩
  · injection h2 with e1 e2 e3
    subst e1 e2 e3
    refine ⟨by rw [bv_len, hlen]; omega, .inr ⟨g, cap, cur, by rw [hlen], hg, (hk g rfl).trans hh, by rw [hlen]; omega, hcm, hcs, ?_⟩⟩
    rw [hlen]
    have : List.take (m * 1) cur.toList = List.take m (List.take (zs.length * 1) cur.toList) := by
      rw [List.take_take]; congr 1; omega
    rw [this, hx]
    simp [bv]
/-- One file has crashed. -/
theorem crash_turn {R V : Nat} {S : St} {G : Gh} {w w' : World} {f : Fl} {ao : Option Addr} {cap : Nat} {ks : List Int} (h : DiskIs w R S G) (hf : f ∈ S.files) (hV : G.τ V = 6)
    (hO : Own w 0 (.slice ao f.bs.length cap) f.bs) (hbk : ∀ g, (Value.slice ao f.bs.length cap).ownBlock = some g → G.τ g = 7 + 2 * f.num)
    (hr : w'.heap[G.β f.num]? = some (.cells #[.slice ao (f.lasts + keepN f ks) cap, .int .i64 (f.lasts + keepN f ks : Nat)] 56 (0, 0))) (ho : ∀ i, i ≠ G.β f.num → i ≠ V → w'.heap[i]? = w.heap[i]?) (hs : w'.heap.size = w.heap.size) (hos : w'.os = w.os ∧ w'.tape = w.tape ∧ w'.output = w.output) :
    DiskIs w' R { S with files := updF S.files f.num fun f => crashF f ks } G ∧ Kept G G w w' := by
  have F := h.files f hf
  have hnum := (h.ok.nums f hf).1
  have hle := keepN_le f ks F.lst
  refine file_turn (G' := G) (g := fun f => crashF f ks) (fun f => rfl) h hf ⟨by omega, fun i hi ht => ho i (fun e => ht (.inr (.inl (by rw [e]; exact F.tag)))) (fun e => ht (.inl (by rw [e]; exact hV)))⟩ hos rfl (fun i hi => absurd rfl hi) ?_
  refine ⟨⟨.slice ao (f.lasts + keepN f ks) cap, hr, own_take hO rfl hle (fun g hg => ?_), fun g hg => ?_⟩, F.tag, fun z hz => F.rng z (List.mem_of_mem_take hz), ?_, ?_⟩
  · have := hbk g hg
    exact ho g (fun e => by rw [e, F.tag] at this; omega) (fun e => by rw [e, hV] at this; omega)
  · refine hbk g ?_
    cases ao with
    | none => cases hg
    | some a => exact hg
  · show (f.bs.take _).length ≤ 250000
    rw [List.length_take]; have := F.len; omega
  · show f.lasts + keepN f ks ≤ (f.bs.take _).length
    rw [List.length_take]; omega
/-- The names that lasted take the names' place. -/
theorem names_set {R : Nat} {S : St} {G : Gh} {w w' : World} {L : DataW Unit} (h : DiskIs w R S G) (T : Turn G.τ (fun n => n = 4 ∨ n = 6) w w') (hL : w'.ownsMap Try.prog 9 (plainElem Try.prog 3) G.bl (Maps.size L) L) (hsz : Maps.size L ≤ S.calls) (hlead : Leads S.files L) (hos : w'.os = w.os ∧ w'.tape = w.tape ∧ w'.output = w.output) :
    ∃ G', DiskMid (w'.setCell ⟨R, 7, none⟩ (.map (some G.bl))) R { S with names := L, lasting := L, since := [] } G' ∧ Kept G G' w (w'.setCell ⟨R, 7, none⟩ (.map (some G.bl))) := by
  have r1 := drow_keep T h.row (by rw [h.tR]; omega)
  have hblR : G.bl ≠ R := fun e => by have e1 := h.tl; rw [e, h.tR] at e1; omega
  have T2 : Turn G.τ (fun n => n = 1 ∨ n = 4 ∨ n = 6) w (w'.setCell ⟨R, 7, none⟩ (.map (some G.bl))) := ⟨by simpa using T.1, fun i hi ht => by
    rw [heap_setCell_other w' ⟨R, 7, none⟩ i _ (fun e => ht (.inl (by rw [show i = R from e]; exact h.tR)))]
    exact T.2 i hi (fun e => ht (.inr e))⟩
  have ht : ∀ i, G.τ i ≠ 4 → (if i = G.bl then 3 else G.τ i) = G.τ i := fun i h0 => by
    rw [if_neg]
    rintro rfl
    exact h0 h.tl
  obtain ⟨D, f1, f2, f3⟩ := h.fm
  obtain ⟨a1, a2, a3, a4, a5, a6, a7, a8, a9, a10, a11⟩ := h.ok
  refine ⟨{ G with bn := G.bl, τ := fun i => if i = G.bl then 3 else G.τ i }, ⟨?_, ⟨D, map_keep T2 f1 (by rw [h.tf]; omega), f2, f3⟩, hL.setCell hblR _, fun f hf => ?_, ?_, ?_, if_pos rfl, fun i hi => ?_, ?_⟩, ?_⟩
  · rw [heap_setCell_same w' R 7 _ _ _ r1]; rfl
  · have hp := a2 f hf
    exact (file_keep T2 (h.files f hf) (by omega) (by omega)).retag rfl fun i hi => ht i (by omega)
  · exact (ht R (by rw [h.tR]; omega)).trans h.tR
  · exact (ht _ (by rw [h.tf]; omega)).trans h.tf
  · show (if i = G.bl then 3 else G.τ i) = 0
    have h1 := h.lm.lt
    have h2 := T2.1
    rw [if_neg (by omega)]
    exact h.top i (by omega)
  · exact ⟨a1, a2, hlead, hlead, fun c hc => (by cases hc), hsz, by show Maps.size L + 0 ≤ S.calls; omega, a8, a9, a10, a11⟩
  · refine ⟨hos.1, hos.2.1, hos.2.2, T2.1, fun i hi h0 => T2.2 i hi (by rw [h0]; omega), fun i hi h0 => ?_⟩
    show (if i = G.bl then 3 else G.τ i) = 0
    rw [ht i (by omega)]
    exact h0
theorem leads_crash {l : List Fl} {ks : List Int} {D : DataW Unit} (h : Leads l D) : Leads (crashAll l ks).1 D := by
  intro p hp
  obtain ⟨f, hf, e⟩ := h p hp
  have hn : f.num ∈ (crashAll l ks).1.map (·.num) := by rw [crashAll_nums]; exact List.mem_map.2 ⟨f, hf, rfl⟩
  obtain ⟨g, hg, e2⟩ := List.mem_map.1 hn
  exact ⟨g, hg, by rw [e]; rw [show f.num = g.num from e2.symm]⟩
theorem leads_all {fs : List Fl} : ∀ (l : List Chn) (D : DataW Unit) (ks : List Int), Leads fs D → (∀ c ∈ l, c.kind = 0 → ∃ f ∈ fs, c.file = f.num) → Leads fs (doAll l D ks)
  | [], D, ks, h, _ => h
  | c :: l, D, ks, h, hc => by
    simp only [doAll]
    refine leads_all l _ _ ?_ (fun c' hc' => hc c' (List.mem_cons_of_mem _ hc'))
    split
    · exact leads_do h (hc c List.mem_cons_self)
    · exact h

end Go.Proofs.Ytdldpdllhnpdaab.Clep

/- What Crash of a Disk does when called: the walk over the translated program. For any Disk of at most 2^40 calls, any numbers that are none of the Disk's own. -/
namespace Go.Proofs.Ytdldpdllhnpdaab.Clep
open Go.RowKit Go.Maps
set_option linter.unusedVariables false
set_option maxRecDepth 10000

/-- Numbers in a row that a call made, as a slice value. -/
theorem ints_slice {w : World} {B : Nat} {v : Value} {zs : List Int} (h : w.ownsRow B 3 1 v zs.length (zs.map encZ)) : ∃ so sc, v = .slice so zs.length sc ∧ zs.length ≤ sc ∧ (0 < zs.length → ∃ g, so = some ⟨g, 0, none⟩ ∧ B ≤ g ∧ g < w.heap.size ∧ ∀ i, i < zs.length → w.cell? ⟨g, i, none⟩ = some (.int .i64 (zs.getD i 0))) := by
  have h0 := h
  obtain ⟨h1, ⟨rfl, h3⟩ | ⟨g, cap, cur, rfl, hg, hh, hnc, hcm, hcs, hx⟩⟩ := h
  · exact ⟨none, 0, by rw [h3], by omega, fun h => by omega⟩
  · refine ⟨_, cap, rfl, hnc, fun _ => ⟨g, rfl, hg, (Array.getElem?_eq_some_iff.1 hh).1, fun i hi => ?_⟩⟩
    have hc := World.ownsRow.cells h0 (g := g) rfl i (.int .i64 (zs.getD i 0)) (by simp [List.getElem?_eq_getElem hi, List.getD])
    rwa [add_plain, Nat.zero_add] at hc
theorem pair_mid {l : List Fl} {j : Nat} {f : Fl} (h : l[j]? = some f) : l = l.take j ++ f :: l.drop (j + 1) ∧ l.take (j + 1) = l.take j ++ [f] := by
  obtain ⟨hj, rfl⟩ := List.getElem?_eq_some_iff.1 h
  refine ⟨?_, ?_⟩
  · rw [← List.drop_eq_getElem_cons hj, List.take_append_drop]
  · rw [List.take_succ_eq_append_getElem hj]
theorem row_slice {w : World} {B e sz n : Nat} {v : Value} {xs : List Value} (h : w.ownsRow B e sz v n xs) : ∃ so sc, v = .slice so n sc ∧ n ≤ sc ∧ (0 < n → ∃ g, so = some ⟨g, 0, none⟩ ∧ ∀ i u, xs[i]? = some u → w.cell? ⟨g, i, none⟩ = some u) := by
  have h0 := h
  obtain ⟨h1, ⟨rfl, h3⟩ | ⟨g, cap, cur, rfl, hg, hh, hnc, hcm, hcs, hx⟩⟩ := h
  · exact ⟨none, 0, by rw [h3], by omega, fun h => by omega⟩
  · refine ⟨_, cap, rfl, hnc, fun _ => ⟨g, rfl, fun i u hu => ?_⟩⟩
    have hc := World.ownsRow.cells h0 (g := g) rfl i u hu
    rwa [add_plain, Nat.zero_add] at hc
theorem ch_at {l : List Chn} {j : Nat} {c : Chn} (h : l[j]? = some c) (i : Nat) (hi : i < 4) : (l.flatMap chCells)[j * 4 + i]? = (chCells c)[i]? := by
  induction l generalizing j with
  | nil => simp at h
  | cons d l ih =>
    rw [List.flatMap_cons]
    cases j with
    | zero =>
      simp only [List.getElem?_cons_zero, Option.some.injEq] at h
      subst h
      rw [Nat.zero_mul, Nat.zero_add, List.getElem?_append_left (by simp [chCells]; omega)]
    | succ j =>
      simp only [List.getElem?_cons_succ] at h
      rw [List.getElem?_append_right (by simp [chCells]; omega)]
      have := ih h
      rw [show (j + 1) * 4 + i - (chCells d).length = j * 4 + i from by simp [chCells]; omega]
      exact this
theorem ch_take {l : List Chn} {j : Nat} {c : Chn} (h : l[j]? = some c) : l.take (j + 1) = l.take j ++ [c] := by
  obtain ⟨hj, rfl⟩ := List.getElem?_eq_some_iff.1 h
  rw [List.take_succ_eq_append_getElem hj]
theorem step_turn {τ : Nat → Nat} {V : Nat} {wS wr w4 : World} {o : Obj} (hT : Turn τ (fun n => n = 4 ∨ n = 6) wS wr) (hV : τ V = 6) (O1 : One V (wr.alloc o) w4) : Turn τ (fun n => n = 4 ∨ n = 6) wS w4 :=
  ⟨by have h1 := O1.size; simp at h1; have h2 := hT.1; omega, fun i hi ht => by
    rw [O1.block i (fun e => ht (.inr (by rw [e]; exact hV)))]
    exact (Below.heap_alloc wr o i (Nat.lt_of_lt_of_le hi hT.1)).trans (hT.2 i hi ht)⟩
theorem step_turn2 {τ : Nat → Nat} {b : Nat} {wS w4 w5 : World} (hT : Turn τ (fun n => n = 4 ∨ n = 6) wS w4) (hb : τ b = 4) (g5 : w4.drew.grownBy w5 (some b)) : Turn τ (fun n => n = 4 ∨ n = 6) wS w5 :=
  ⟨Nat.le_trans hT.1 g5.size, fun i hi ht => by
    rw [g5.block i (Nat.lt_of_lt_of_le hi hT.1) (fun e => ht (.inl (by rw [Option.some.inj e]; exact hb)))]
    exact hT.2 i hi ht⟩

end Go.Proofs.Ytdldpdllhnpdaab.Clep
