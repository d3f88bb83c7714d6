/- What Crash of a Disk does when called: what the walk needs of one file, of one change of names, and at its ends. For any Disk of at most 2^40 calls, any numbers. -/
import Derived.Test.YthmfkfiblaamfabDCrash
namespace Go.Proofs.Ythmfkfiblaamfab.Clep
open Go.RowKit Go.Maps
set_option linter.unusedVariables false

def tagV (G : Gh) (V : Nat) : Gh := { G with τ := fun i => if i = V then 6 else G.τ i }
theorem tag_new {R : Nat} {S : St} {G : Gh} {w : World} (h : DiskIs w R S G) (o : Obj) : DiskIs (w.alloc o) R S (tagV G w.heap.size) ∧ Kept G (tagV G w.heap.size) w (w.alloc o) := by
  have hb := (Below.refl w.heap.size w).alloc (Nat.le_refl _) o
  have ht : ∀ i, G.τ i ≠ 0 → (tagV G w.heap.size).τ i = G.τ i := fun i h0 => by
    show (if i = w.heap.size then 6 else G.τ i) = _
    rw [if_neg]
    rintro rfl
    exact h0 (h.top _ (Nat.le_refl _))
  have h' := h.below hb
  refine ⟨⟨h'.row, h'.fm, h'.nm, h'.lm, h'.sc, fun f hf => (h'.files f hf).retag rfl fun i hi => ht i (by omega), ?_, ?_, ?_, ?_, ?_, ?_, h.ok⟩, ⟨rfl, rfl, rfl, by simp, fun i hi _ => Below.heap_alloc w o i hi, fun i hi h0 => ?_⟩⟩
  · rw [ht R (by rw [h.tR]; omega)]; exact h.tR
  · exact (ht G.bf (by rw [h.tf]; omega)).trans h.tf
  · exact (ht G.bn (by rw [h.tn]; omega)).trans h.tn
  · exact (ht G.bl (by rw [h.tl]; omega)).trans h.tl
  · exact fun g hg => (ht g (by rw [h.ts g hg]; omega)).trans (h.ts g hg)
  · intro i hi
    show (if i = w.heap.size then 6 else G.τ i) = 0
    simp at hi
    rw [if_neg (by omega)]
    exact h.top i (by omega)
  · show (if i = w.heap.size then 6 else G.τ i) = 0
    rw [if_neg (by omega)]
    exact h0
theorem own_take {w w' : World} {ao : Option Addr} {L m cap : Nat} {zs : List Int} (h : Own w 0 (.slice ao L cap) zs) (hl : zs.length = L) (hm : m ≤ L) (hk : ∀ g, (Value.slice ao L cap).ownBlock = some g → w'.heap[g]? = w.heap[g]?) : Own w' 0 (.slice ao m cap) (zs.take m) := by
  have hlen : (zs.take m).length = m := by rw [List.length_take]; omega
  obtain ⟨h1, ⟨h2, h3⟩ | ⟨g, cap', cur, h2, hg, hh, hnc, hcm, hcs, hx⟩⟩ := h
  · injection h2 with e1 e2 e3
    subst e1 e3
    have hm0 : m = 0 := by omega
    subst hm0
    exact ⟨rfl, .inl ⟨rfl, rfl⟩⟩
  · injection h2 with e1 e2 e3
    subst e1 e2 e3
    refine ⟨by rw [bv_len, hlen]; omega, .inr ⟨g, cap, cur, by rw [hlen], hg, (hk g rfl).trans hh, by rw [hlen]; omega, hcm, hcs, ?_⟩⟩
    rw [hlen]
    have : List.take (m * 1) cur.toList = List.take m (List.take (zs.length * 1) cur.toList) := by
      rw [List.take_take]; congr 1; omega
    rw [this, hx]
    simp [bv]
/-- One file has crashed. -/
theorem crash_turn {R V : Nat} {S : St} {G : Gh} {w w' : World} {f : Fl} {ao : Option Addr} {cap : Nat} {ks : List Int} (h : DiskIs w R S G) (hf : f ∈ S.files) (hV : G.τ V = 6)
    (hO : Own w 0 (.slice ao f.bs.length cap) f.bs) (hbk : ∀ g, (Value.slice ao f.bs.length cap).ownBlock = some g → G.τ g = 7 + 2 * f.num)
    (hr : w'.heap[G.β f.num]? = some (.cells #[.slice ao (f.lasts + keepN f ks) cap, .int .i64 (f.lasts + keepN f ks : Nat)] 62 (0, 0))) (ho : ∀ i, i ≠ G.β f.num → i ≠ V → w'.heap[i]? = w.heap[i]?) (hs : w'.heap.size = w.heap.size) (hos : w'.os = w.os ∧ w'.tape = w.tape ∧ w'.output = w.output) :
    DiskIs w' R { S with files := updF S.files f.num fun f => crashF f ks } G ∧ Kept G G w w' := by
  have F := h.files f hf
  have hnum := (h.ok.nums f hf).1
  have hle := keepN_le f ks F.lst
  refine file_turn (G' := G) (g := fun f => crashF f ks) (fun f => rfl) h hf ⟨by omega, fun i hi ht => ho i (fun e => ht (.inr (.inl (by rw [e]; exact F.tag)))) (fun e => ht (.inl (by rw [e]; exact hV)))⟩ hos rfl (fun i hi => absurd rfl hi) ?_
  refine ⟨⟨.slice ao (f.lasts + keepN f ks) cap, hr, own_take hO rfl hle (fun g hg => ?_), fun g hg => ?_⟩, F.tag, fun z hz => F.rng z (List.mem_of_mem_take hz), ?_, ?_⟩
  · have := hbk g hg
    exact ho g (fun e => by rw [e, F.tag] at this; omega) (fun e => by rw [e, hV] at this; omega)
  · refine hbk g ?_
    cases ao with
    | none => cases hg
    | some a => exact hg
  · show (f.bs.take _).length ≤ 250000
    rw [List.length_take]; have := F.len; omega
  · show f.lasts + keepN f ks ≤ (f.bs.take _).length
    rw [List.length_take]; omega
/-- The names that lasted take the names' place. -/
theorem names_set {R : Nat} {S : St} {G : Gh} {w w' : World} {L : DataW Unit} (h : DiskIs w R S G) (T : Turn G.τ (fun n => n = 4 ∨ n = 6) w w') (hL : w'.ownsMap Try.prog 9 (plainElem Try.prog 3) G.bl (Maps.size L) L) (hsz : Maps.size L ≤ S.calls) (hlead : Leads S.files L) (hos : w'.os = w.os ∧ w'.tape = w.tape ∧ w'.output = w.output) :
    ∃ G', DiskMid (w'.setCell ⟨R, 7, none⟩ (.map (some G.bl))) R { S with names := L, lasting := L, since := [] } G' ∧ Kept G G' w (w'.setCell ⟨R, 7, none⟩ (.map (some G.bl))) := by
  have r1 := row_keep T h.row (by rw [h.tR]; omega)
  have hblR : G.bl ≠ R := fun e => by have e1 := h.tl; rw [e, h.tR] at e1; omega
  have T2 : Turn G.τ (fun n => n = 1 ∨ n = 4 ∨ n = 6) w (w'.setCell ⟨R, 7, none⟩ (.map (some G.bl))) := ⟨by simpa using T.1, fun i hi ht => by
    rw [heap_setCell_other w' ⟨R, 7, none⟩ i _ (fun e => ht (.inl (by rw [show i = R from e]; exact h.tR)))]
    exact T.2 i hi (fun e => ht (.inr e))⟩
  have ht : ∀ i, G.τ i ≠ 4 → (if i = G.bl then 3 else G.τ i) = G.τ i := fun i h0 => by
    rw [if_neg]
    rintro rfl
    exact h0 h.tl
  obtain ⟨D, f1, f2, f3⟩ := h.fm
  obtain ⟨a1, a2, a3, a4, a5, a6, a7, a8, a9, a10, a11⟩ := h.ok
  refine ⟨{ G with bn := G.bl, τ := fun i => if i = G.bl then 3 else G.τ i }, ⟨?_, ⟨D, map_keep T2 f1 (by rw [h.tf]; omega), f2, f3⟩, hL.setCell hblR _, fun f hf => ?_, ?_, ?_, if_pos rfl, fun i hi => ?_, ?_⟩, ?_⟩
  · rw [heap_setCell_same w' R 7 _ _ _ r1]; rfl
  · have hp := a2 f hf
    exact (file_keep T2 (h.files f hf) (by omega) (by omega)).retag rfl fun i hi => ht i (by omega)
  · exact (ht R (by rw [h.tR]; omega)).trans h.tR
  · exact (ht _ (by rw [h.tf]; omega)).trans h.tf
  · show (if i = G.bl then 3 else G.τ i) = 0
    have h1 := h.lm.lt
    have h2 := T2.1
    rw [if_neg (by omega)]
    exact h.top i (by omega)
  · exact ⟨a1, a2, hlead, hlead, fun c hc => (by cases hc), hsz, by show Maps.size L + 0 ≤ S.calls; omega, a8, a9, a10, a11⟩
  · refine ⟨hos.1, hos.2.1, hos.2.2, T2.1, fun i hi h0 => T2.2 i hi (by rw [h0]; omega), fun i hi h0 => ?_⟩
    show (if i = G.bl then 3 else G.τ i) = 0
    rw [ht i (by omega)]
    exact h0
theorem leads_crash {l : List Fl} {ks : List Int} {D : DataW Unit} (h : Leads l D) : Leads (crashAll l ks).1 D := by
  intro p hp
  obtain ⟨f, hf, e⟩ := h p hp
  have hn : f.num ∈ (crashAll l ks).1.map (·.num) := by rw [crashAll_nums]; exact List.mem_map.2 ⟨f, hf, rfl⟩
  obtain ⟨g, hg, e2⟩ := List.mem_map.1 hn
  exact ⟨g, hg, by rw [e]; rw [show f.num = g.num from e2.symm]⟩
theorem leads_all {fs : List Fl} : ∀ (l : List Ch) (D : DataW Unit) (ks : List Int), Leads fs D → (∀ c ∈ l, c.kind = 0 → ∃ f ∈ fs, c.file = f.num) → Leads fs (doAll l D ks)
  | [], D, ks, h, _ => h
  | c :: l, D, ks, h, hc => by
    simp only [doAll]
    refine leads_all l _ _ ?_ (fun c' hc' => hc c' (List.mem_cons_of_mem _ hc'))
    split
    · exact leads_do h (hc c List.mem_cons_self)
    · exact h

end Go.Proofs.Ythmfkfiblaamfab.Clep
