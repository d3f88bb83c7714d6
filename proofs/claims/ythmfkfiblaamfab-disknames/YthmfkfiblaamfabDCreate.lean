/- What Create of a Disk does when called (a walk over the translated program): for any Disk of at most 2^40 calls, any name of at most 2^46 bytes. -/
import Derived.Test.YthmfkfiblaamfabDChange
namespace Go.Proofs.Ythmfkfiblaamfab.Clep
open Go.RowKit Go.Maps
set_option linter.unusedVariables false

def newCh (S : St) (s : ByteArray) : Ch := ⟨0, s, ⟨#[]⟩, S.made + 1⟩
def addS (S : St) (s : ByteArray) : St := { S with made := S.made + 1, files := S.files ++ [⟨S.made + 1, [], 0⟩], names := doS S.names (newCh S s), since := S.since ++ [newCh S s] }
def createS (S : St) (s : ByteArray) : Nat × St :=
  if okName s = false then (10, S)
  else if (beginS S).1 ≠ 0 then beginS S
  else if (fileAt (beginS S).2.files (lk (beginS S).2.names s)).isSome then (12, (beginS S).2)
  else if 64 ≤ Maps.size (beginS S).2.names then (65, (beginS S).2)
  else (0, addS (beginS S).2 s)
theorem begin_keeps (S : St) : (beginS S).2.calls = S.calls + 1 ∧ (beginS S).2.made = S.made ∧ (beginS S).2.files = S.files ∧ (beginS S).2.names = S.names ∧ (beginS S).2.lasting = S.lasting ∧ (beginS S).2.since = S.since ∧ (beginS S).2.q = S.q := by
  unfold beginS
  split <;> exact ⟨rfl, rfl, rfl, rfl, rfl, rfl, rfl⟩
theorem fileAt_snoc (fs : List Fl) (g : Fl) (k : Int) : fileAt (fs ++ [g]) k = (fileAt fs k).or (if (g.num : Int) = k then some g else none) := by
  unfold fileAt
  rw [List.find?_append]
  congr 1
  by_cases h : (g.num : Int) = k
  · rw [if_pos h]; simp [h]
  · rw [if_neg h]; simp [h]
theorem fileAt_none {fs : List Fl} {m : Nat} (h : ∀ f ∈ fs, f.num ≤ m) {k : Int} (hk : (m : Int) < k) : fileAt fs k = none := by
  unfold fileAt
  rw [List.find?_eq_none]
  intro f hf
  have := h f hf
  simp
  omega
theorem filesD_snoc {β : Nat → Nat} {fs : List Fl} {D : DataW Unit} {m b : Nat} {g : Fl} (h : FilesD β fs D) (hD : IsMap D) (hf : ∀ f ∈ fs, f.num ≤ m) (hg : g.num = m + 1) :
    FilesD (fun n => if n = m + 1 then b else β n) (fs ++ [g]) (D.put (.int .i64 ((m + 1 : Nat) : Int)) (i64L b)) := by
  intro k
  by_cases hk : k = ((m + 1 : Nat) : Int)
  · subst hk
    rw [Maps.atKey_put_same (k := .int .i64 _) hD trivial, Maps.has_put_same (k := .int .i64 _) hD trivial, fileAt_snoc, fileAt_none hf (by omega)]
    simp [hg]
  · have hne : Lit.int .i64 k ≠ .int .i64 ((m + 1 : Nat) : Int) := by intro e; injection e with _ e; exact hk e
    rw [Maps.atKey_put_other hne, Maps.has_put_other hne, fileAt_snoc, if_neg (by rw [hg]; exact fun e => hk e.symm), Option.or_none, (h k).1, (h k).2]
    cases hk2 : fileAt fs k with
    | none => exact ⟨rfl, rfl⟩
    | some f =>
      have := hf f (fileAt_mem hk2).1
      refine ⟨?_, rfl⟩
      show i64L (β f.num) = i64L ((if f.num = m + 1 then b else β f.num : Nat) : Int)
      rw [if_neg (by omega)]
theorem file_new {R : Nat} {S : St} {G : Gh} {w w' : World} {m : Nat} {D : DataW Unit} (h : DiskIs w R S G) (hf : ∀ f ∈ S.files, f.num ≤ m) (hm : S.made = m + 1) (h1 : w.ownsMap Try.prog 3 ptrElem G.bf (Maps.size D) D) (h2 : FilesD G.β S.files D) (h3 : Maps.size D + 1 ≤ S.calls)
    (o' : w'.ownsMap Try.prog 3 ptrElem G.bf (Maps.size D + 1) (D.put (.int .i64 ((m + 1 : Nat) : Int)) (i64L w.heap.size))) (g' : (w.alloc (.cells #[.slice none 0 0, .int .i64 0] 62)).grownBy w' (some G.bf)) :
    ∃ G', DiskIs w' R { S with files := S.files ++ [⟨m + 1, [], 0⟩] } G' ∧ Kept G G' w w' := by
  have hbf := h1.lt
  have T : Turn G.τ (fun n => n = 2) w w' := ⟨by have := g'.size; simp at this; omega, fun i hi ht => by
    rw [g'.block i (by simp; omega) (fun e => ht (by rw [Option.some.inj e]; exact h.tf))]
    exact Below.heap_alloc w _ i hi⟩
  have hb : w'.heap[w.heap.size]? = some (.cells #[.slice none 0 0, .int .i64 0] 62 (0, 0)) := by
    rw [g'.block w.heap.size (by simp) (fun e => by have := Option.some.inj e; omega)]
    exact (MapKept.heap_alloc w _).1
  have hs : w.heap.size < w'.heap.size := by have := g'.size; simp at this; omega
  have ht : ∀ i, G.τ i ≠ 0 → (if i = w.heap.size then 6 + 2 * (m + 1) else G.τ i) = G.τ i := fun i h0 => by
    rw [if_neg]
    rintro rfl
    exact h0 (h.top _ (Nat.le_refl _))
  have hT := h1.tidy lawI
  refine ⟨{ G with β := fun n => if n = m + 1 then w.heap.size else G.β n, τ := fun i => if i = w.heap.size then 6 + 2 * (m + 1) else G.τ i },
    ⟨row_keep T h.row (by rw [h.tR]; omega), ⟨_, tight o', filesD_snoc h2 hT.isMap hf rfl, ?_⟩, map_keep T h.nm (by rw [h.tn]; omega), map_keep T h.lm (by rw [h.tl]; omega), owns_keep T h.sc (fun g hg => by rw [h.ts g hg]; omega), ?_, ?_, ?_, ?_, ?_, ?_, ?_, ?_⟩, ?_⟩
  · have := Maps.size_put hT (k := .int .i64 ((m + 1 : Nat) : Int)) (i64L w.heap.size)
    show _ ≤ S.calls
    split at this <;> omega
  · intro f hf'
    rcases List.mem_append.1 hf' with hf' | hf'
    · have hle := hf f hf'
      exact (file_keep T (h.files f hf') (by omega) (by omega)).retag (if_neg (by omega)) fun i hi => ht i (by omega)
    · rw [List.mem_singleton] at hf'
      subst hf'
      exact ⟨⟨.slice none 0 0, by simpa using hb, ⟨rfl, .inl ⟨rfl, rfl⟩⟩, fun g hg => by cases hg⟩, by simp, by simp, by simp, by simp⟩
  · exact (ht R (by rw [h.tR]; omega)).trans h.tR
  · exact (ht _ (by rw [h.tf]; omega)).trans h.tf
  · exact (ht _ (by rw [h.tn]; omega)).trans h.tn
  · exact (ht _ (by rw [h.tl]; omega)).trans h.tl
  · exact fun g hg => (ht g (by rw [h.ts g hg]; omega)).trans (h.ts g hg)
  · intro i hi
    show (if i = w.heap.size then 6 + 2 * (m + 1) else G.τ i) = 0
    rw [if_neg (by omega)]
    exact h.top i (by omega)
  · obtain ⟨a1, a2, a3, a4, a5, a6, a7, a8, a9, a10, a11⟩ := h.ok
    refine ⟨?_, ?_, fun p hp => ?_, fun p hp => ?_, fun c hc => ?_, a6, a7, a8, a9, a10, a11⟩
    · rw [List.pairwise_append]
      refine ⟨a1, List.pairwise_singleton _ _, fun f hf' g hg => ?_⟩
      rw [List.mem_singleton] at hg
      subst hg
      have := hf f hf'
      show f.num < m + 1
      omega
    · intro f hf'
      rcases List.mem_append.1 hf' with hf' | hf'
      · exact a2 f hf'
      · rw [List.mem_singleton] at hf'; subst hf'
        show 1 ≤ m + 1 ∧ m + 1 ≤ S.made
        omega
    · obtain ⟨f, hf', e⟩ := a3 p hp; exact ⟨f, List.mem_append_left _ hf', e⟩
    · obtain ⟨f, hf', e⟩ := a4 p hp; exact ⟨f, List.mem_append_left _ hf', e⟩
    · obtain ⟨b1, b2, b3, b4, b5⟩ := a5 c hc
      exact ⟨b1, b2, b3, fun h0 => by obtain ⟨f, hf', e⟩ := b4 h0; exact ⟨f, List.mem_append_left _ hf', e⟩, b5⟩
  · refine ⟨?_, ?_, ?_, T.1, fun i hi h0 => T.2 i hi (by rw [h0]; omega), fun i hi h0 => ?_⟩
    · rw [g'.os]; rfl
    · rw [g'.tape]; rfl
    · rw [g'.output]; rfl
    · show (if i = w.heap.size then 6 + 2 * (m + 1) else G.τ i) = 0
      rw [if_neg (by omega)]
      exact h0

theorem entries_put {D : DataW Unit} {k : Lit} {d : DataW Unit} {p : Lit × DataW Unit} (h : p ∈ entries (D.put k d)) : p = (k, d) ∨ p ∈ entries D := by
  cases D <;> simp only [DataW.put, entries, List.not_mem_nil] at h ⊢
  rename_i es
  have : ∀ l : List (Lit × DataW Unit), p ∈ DataW.insert (k, d) l → p = (k, d) ∨ p ∈ l := by
    intro l
    induction l with
    | nil => intro h; simp only [DataW.insert, List.mem_singleton] at h; exact .inl h
    | cons y r ih =>
      intro h
      simp only [DataW.insert] at h
      split at h
      · rcases List.mem_cons.1 h with h | h
        · exact .inl h
        · exact .inr h
      · rcases List.mem_cons.1 h with h | h
        · exact .inr (by rw [h]; exact List.mem_cons_self)
        · exact (ih h).imp id (List.mem_cons_of_mem _)
  exact (this _ h).imp id (fun h => (List.mem_filter.1 h).1)
theorem entries_del {D : DataW Unit} {k : Lit} {p : Lit × DataW Unit} (h : p ∈ entries (D.del k)) : p ∈ entries D := by
  cases D <;> simp only [DataW.del, entries, List.not_mem_nil] at h ⊢
  exact (List.mem_filter.1 h).1
theorem at_of_has {D : DataW Unit} {k : Lit} (h : Maps.has D k = true) (z : DataW Unit) : ∃ p ∈ entries D, p.1 = k ∧ D.atKey k z = p.2 := by
  cases D <;> simp only [Maps.has, Bool.false_eq_true] at h
  rename_i es
  obtain ⟨p, hp, hs⟩ := List.any_eq_true.1 h
  simp only [DataW.atKey, entries]
  cases hf : es.find? (fun p => p.1.sameKey k) with
  | none => exact absurd hs (by have := List.find?_eq_none.1 hf p hp; exact this)
  | some q => exact ⟨q, List.mem_of_find?_eq_some hf, WideAt.sameKey_eq (by have := List.find?_some hf; exact this), rfl⟩
theorem leads_do {fs : List Fl} {D : DataW Unit} {c : Ch} (h : Leads fs D) (hc : c.kind = 0 → ∃ f ∈ fs, c.file = f.num) : Leads fs (doS D c) := by
  intro p hp
  unfold doS at hp
  split at hp
  · rename_i h0
    rcases entries_put hp with rfl | hp
    · obtain ⟨f, hf, e⟩ := hc h0
      exact ⟨f, hf, by rw [e]⟩
    · exact h p hp
  · split at hp
    · split at hp
      · rename_i hh
        rcases entries_put hp with rfl | hp
        · obtain ⟨q, hq, _, e⟩ := at_of_has hh (i64L 0)
          obtain ⟨f, hf, e'⟩ := h q hq
          refine ⟨f, hf, ?_⟩
          show i64L (lk D c.name) = _
          unfold lk
          rw [e, e']
          rfl
        · exact h p (entries_del hp)
      · exact h p hp
    · split at hp
      · exact h p (entries_del hp)
      · exact h p hp

theorem int_keys {E : Value → Option (DataW Unit × List MemPlace)} {w : World} {b n : Nat} {D : DataW Unit} (h : w.ownsMap Try.prog 3 E b n D) : ∃ es, D = .map es ∧ es.Pairwise (fun p q => p.1 ≠ q.1) ∧ ∀ p ∈ es, ∃ x, p.1 = .int .i64 x := by
  obtain ⟨es, he, hp, _⟩ := h.entries lawI
  refine ⟨es, he, hp, fun p hp' => ?_⟩
  obtain ⟨es', clock, hb, F, hs, hD⟩ := h
  rw [he] at hD
  injection hD with hD
  rw [hD, mem_sorted] at hp'
  obtain ⟨v, hv⟩ := Maps.fit_keys F p hp'
  obtain ⟨x, _, hx, _⟩ := Maps.keyOf_i64 Try.underlying3 hv
  exact ⟨x, hx⟩
theorem files_perm {w : World} {b n : Nat} {D : DataW Unit} {β : Nat → Nat} {fs : List Fl} (h : w.ownsMap Try.prog 3 ptrElem b n D) (hD : FilesD β fs D) (hr : fs.Pairwise fun f g => f.num < g.num) :
    (fs.map fun f => (f.num : Int)).Perm (intKeys D) := by
  obtain ⟨es, rfl, hp, hk⟩ := int_keys h
  refine perm_intKeys hp hk ?_ fun x => ?_
  · rw [List.nodup_iff_pairwise_ne, List.pairwise_map]
    exact hr.imp (fun h => by omega)
  · rw [(hD x).2, List.mem_map]
    constructor
    · rintro ⟨f, hf, rfl⟩
      rw [fileAt_of hr hf]; rfl
    · intro h
      obtain ⟨f, hf⟩ := Option.isSome_iff_exists.1 h
      exact ⟨f, (fileAt_mem hf).1, (fileAt_mem hf).2.symm⟩
theorem files_size {w : World} {b n : Nat} {D : DataW Unit} {β : Nat → Nat} {fs : List Fl} (h : w.ownsMap Try.prog 3 ptrElem b n D) (hD : FilesD β fs D) (hr : fs.Pairwise fun f g => f.num < g.num) : Maps.size D = fs.length := by
  have := (files_perm h hD hr).length_eq
  obtain ⟨es, rfl, _, _⟩ := int_keys h
  rw [Maps.size_eq]
  simp only [intKeys, List.length_map] at this
  exact this.symm
theorem rise_len : ∀ (fs : List Fl) (a m : Nat), fs.Pairwise (fun f g => f.num < g.num) → (∀ f ∈ fs, a < f.num ∧ f.num ≤ m) → fs.length + a ≤ m ∨ fs = []
  | [], _, _, _, _ => .inr rfl
  | f :: r, a, m, hr, hf => by
    rw [List.pairwise_cons] at hr
    have h0 := hf f List.mem_cons_self
    left
    rcases rise_len r f.num m hr.2 (fun g hg => ⟨hr.1 g hg, (hf g (List.mem_cons_of_mem _ hg)).2⟩) with h | h
    · simp only [List.length_cons]; omega
    · subst h; simp; omega
theorem files_few {S : St} (h : Ok S) : S.files.length ≤ S.made := by
  rcases rise_len S.files 0 S.made h.rise (fun f hf => ⟨(h.nums f hf).1, (h.nums f hf).2⟩) with h' | h'
  · omega
  · rw [h']; simp

end Go.Proofs.Ythmfkfiblaamfab.Clep
