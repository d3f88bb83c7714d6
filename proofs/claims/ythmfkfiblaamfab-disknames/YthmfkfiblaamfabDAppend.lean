/- What Append of a Disk does when called (a walk over the translated program): for any Disk of fewer than 2^40 calls, any name and any bytes of at most 2^46. -/
import Derived.Test.YthmfkfiblaamfabDCreateW
namespace Go.Proofs.Ythmfkfiblaamfab.Clep
open Go.RowKit Go.Maps
set_option linter.unusedVariables false

def updF (fs : List Fl) (n : Nat) (g : Fl → Fl) : List Fl := fs.map fun f => if f.num = n then g f else f
def growF (zs : List Int) (f : Fl) : Fl := { f with bs := f.bs ++ zs }
def appendS (S : St) (s : ByteArray) (zs : List Int) : Nat × St :=
  if okName s = false then (10, S)
  else if (beginS S).1 ≠ 0 then beginS S
  else match fileAt (beginS S).2.files (lk (beginS S).2.names s) with
    | none => (11, (beginS S).2)
    | some f => if 250000 < f.bs.length + zs.length then (2, (beginS S).2)
      else if (beginS S).2.q < usedS (beginS S).2 + zs.length then (15, (beginS S).2)
      else (0, { (beginS S).2 with files := updF (beginS S).2.files f.num (growF zs) })
theorem Bs.kept {G G' : Gh} {w w' : World} {ao : Option Addr} {len cap : Nat} {zs : List Int} (h : Bs w ao len cap zs) (hk : Kept G G' w w') (ht : ∀ b off, ao = some ⟨b, off, none⟩ → G.τ b = 0) : Bs w' ao len cap zs := by
  refine ⟨h.1, h.2.1, h.2.2.1, fun h0 => ?_⟩
  obtain ⟨b, off, ho, hc⟩ := h.2.2.2 h0
  refine ⟨b, off, ho, fun i hi => ?_⟩
  rw [World.cell?_of_block (w := w) (hk.block b (World.block_lt_of_cell? w _ (hc i hi)) (ht b off ho))]
  exact hc i hi
theorem updF_nums (fs : List Fl) (n : Nat) (g : Fl → Fl) (hg : ∀ f, (g f).num = f.num) : (updF fs n g).map (·.num) = fs.map (·.num) := by
  unfold updF
  rw [List.map_map]
  refine List.map_congr_left fun f _ => ?_
  show (if f.num = n then g f else f).num = f.num
  split
  · exact hg f
  · rfl
theorem updF_mem {fs : List Fl} {n : Nat} {g : Fl → Fl} {f : Fl} (h : f ∈ updF fs n g) : ∃ f0 ∈ fs, f = if f0.num = n then g f0 else f0 := by
  obtain ⟨f0, h0, e⟩ := List.mem_map.1 h
  exact ⟨f0, h0, e.symm⟩
theorem updF_at (fs : List Fl) (n : Nat) (g : Fl → Fl) (hg : ∀ f, (g f).num = f.num) (k : Int) : fileAt (updF fs n g) k = (fileAt fs k).map fun f => if f.num = n then g f else f := by
  unfold fileAt updF
  rw [List.find?_map]
  congr 2
  funext f
  show (((if f.num = n then g f else f).num : Int) == k) = ((f.num : Int) == k)
  split
  · rw [hg]
  · rfl
theorem leads_upd {fs : List Fl} {D : DataW Unit} {n : Nat} {g : Fl → Fl} (hg : ∀ f, (g f).num = f.num) (h : Leads fs D) : Leads (updF fs n g) D := by
  intro p hp
  obtain ⟨f, hf, e⟩ := h p hp
  refine ⟨_, List.mem_map.2 ⟨f, hf, rfl⟩, ?_⟩
  rw [e]
  show _ = i64L (if f.num = n then g f else f).num
  split
  · rw [hg]
  · rfl
theorem ok_upd {S : St} {n : Nat} {g : Fl → Fl} (hg : ∀ f, (g f).num = f.num) (h : Ok S) : Ok { S with files := updF S.files n g } := by
  obtain ⟨a1, a2, a3, a4, a5, a6, a7, a8, a9, a10, a11⟩ := h
  refine ⟨?_, fun f hf => ?_, leads_upd hg a3, leads_upd hg a4, fun c hc => ?_, a6, a7, a8, a9, a10, a11⟩
  · show (updF S.files n g).Pairwise _
    have : (S.files.map (·.num)).Pairwise (fun a b => a < b) := List.pairwise_map.2 a1
    rw [← updF_nums S.files n g hg] at this
    exact List.pairwise_map.1 this
  · obtain ⟨f0, h0, rfl⟩ := updF_mem hf
    have := a2 f0 h0
    show 1 ≤ (if f0.num = n then g f0 else f0).num ∧ (if f0.num = n then g f0 else f0).num ≤ S.made
    split
    · rw [hg]; exact this
    · exact this
  · obtain ⟨b1, b2, b3, b4, b5⟩ := a5 c hc
    refine ⟨b1, b2, b3, fun h0 => ?_, b5⟩
    obtain ⟨f, hf, e⟩ := b4 h0
    refine ⟨_, List.mem_map.2 ⟨f, hf, rfl⟩, ?_⟩
    rw [e]
    show _ = (if f.num = n then g f else f).num
    split
    · rw [hg]
    · rfl
theorem filesD_upd {β : Nat → Nat} {fs : List Fl} {D : DataW Unit} {n : Nat} {g : Fl → Fl} (hg : ∀ f, (g f).num = f.num) (h : FilesD β fs D) : FilesD β (updF fs n g) D := by
  intro k
  rw [(h k).1, (h k).2, updF_at fs n g hg]
  cases fileAt fs k with
  | none => exact ⟨rfl, rfl⟩
  | some f =>
    refine ⟨?_, rfl⟩
    show i64L (β f.num) = i64L (β (if f.num = n then g f else f).num)
    split
    · rw [hg]
    · rfl
theorem Turn.mono {τ : Nat → Nat} {t t' : Nat → Prop} {w w' : World} (h : Turn τ t w w') (ht : ∀ n, t n → t' n) : Turn τ t' w w' := ⟨h.1, fun i hi hn => h.2 i hi (fun e => hn (ht _ e))⟩
/-- A file of a Disk has turned, and nothing else. -/
theorem file_turn {R : Nat} {S : St} {G G' : Gh} {w w' : World} {f : Fl} {g : Fl → Fl} (hg : ∀ f, (g f).num = f.num) (h : DiskIs w R S G) (hf : f ∈ S.files) (T : Turn G.τ (fun n => n = 6 ∨ n = 6 + 2 * f.num ∨ n = 7 + 2 * f.num) w w')
    (hos : w'.os = w.os ∧ w'.tape = w.tape ∧ w'.output = w.output) (e1 : G' = { G with τ := G'.τ }) (ht : ∀ i, G'.τ i ≠ G.τ i → w.heap.size ≤ i ∧ i < w'.heap.size ∧ G'.τ i = 7 + 2 * f.num) (F : FileIs w' G' (g f)) :
    DiskIs w' R { S with files := updF S.files f.num g } G' ∧ Kept G G' w w' := by
  obtain ⟨D, f1, f2, f3⟩ := h.fm
  have b1 : G'.bf = G.bf := by rw [e1]
  have b2 : G'.bn = G.bn := by rw [e1]
  have b3 : G'.bl = G.bl := by rw [e1]
  have b4 : G'.sv = G.sv := by rw [e1]
  have b5 : G'.β = G.β := by rw [e1]
  have hn : ∀ i, G.τ i ≠ 0 → G'.τ i = G.τ i := fun i h0 => by
    by_cases e : G'.τ i = G.τ i
    · exact e
    · exact absurd (h.top i (ht i e).1) h0
  refine ⟨⟨?_, ⟨D, by rw [b1]; exact map_keep T f1 (by rw [h.tf]; omega), by rw [b5]; exact filesD_upd hg f2, f3⟩, by rw [b2]; exact map_keep T h.nm (by rw [h.tn]; omega), by rw [b3]; exact map_keep T h.lm (by rw [h.tl]; omega),
    by rw [b4]; exact owns_keep T h.sc (fun g hg => by rw [h.ts g hg]; omega), fun f' hf' => ?_, ?_, ?_, ?_, ?_, ?_, ?_, ok_upd hg h.ok⟩, ?_⟩
  · have := row_keep T h.row (by rw [h.tR]; omega)
    rw [this]
    simp only [dRow, b1, b2, b3, b4]
  · obtain ⟨f0, h0, rfl⟩ := updF_mem hf'
    by_cases e : f0.num = f.num
    · rw [if_pos e]
      have : f0 = f := by
        have q1 := fileAt_of h.ok.rise h0
        have q2 := fileAt_of h.ok.rise hf
        rw [e, q2] at q1
        exact (Option.some.inj q1).symm
      rw [this]
      exact F
    · rw [if_neg e]
      have hp := (h.ok.nums f0 h0).1
      exact (file_keep T (h.files f0 h0) (by omega) (by omega)).retag (by rw [b5]) fun i hi => hn i (by omega)
  · rw [hn R (by rw [h.tR]; omega)]; exact h.tR
  · rw [b1, hn _ (by rw [h.tf]; omega)]; exact h.tf
  · rw [b2, hn _ (by rw [h.tn]; omega)]; exact h.tn
  · rw [b3, hn _ (by rw [h.tl]; omega)]; exact h.tl
  · intro g' hg'
    rw [b4] at hg'
    rw [hn _ (by rw [h.ts g' hg']; omega)]
    exact h.ts g' hg'
  · intro i hi
    by_cases e : G'.τ i = G.τ i
    · rw [e]; exact h.top i (Nat.le_trans T.1 hi)
    · have := (ht i e).2.1; omega
  · refine ⟨hos.1, hos.2.1, hos.2.2, T.1, fun i hi h0 => T.2 i hi (by rw [h0]; omega), fun i hi h0 => ?_⟩
    by_cases e : G'.τ i = G.τ i
    · rw [e]; exact h0
    · have := (ht i e).1; omega

end Go.Proofs.Ythmfkfiblaamfab.Clep
