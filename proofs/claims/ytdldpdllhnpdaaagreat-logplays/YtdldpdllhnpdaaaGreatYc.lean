/- What Create of a Disk does when called (a walk over the translated program): for any Disk of at most 2^40 calls, any name of at most 2^46 bytes. -/
import Derived.Test.YtdldpdllhnpdaaaGreatYb
namespace Go.Proofs.YtdldpdllhnpdaaaGreat.Clep
open Go.RowKit Go.Maps
set_option linter.unusedVariables false
set_option maxRecDepth 10000

def newCh (S : St) (s : ByteArray) : Chn := ⟨0, s, ⟨#[]⟩, S.made + 1⟩
def addS (S : St) (s : ByteArray) : St := { S with made := S.made + 1, files := S.files ++ [⟨S.made + 1, [], 0⟩], names := doS S.names (newCh S s), since := S.since ++ [newCh S s] }
def createS (S : St) (s : ByteArray) : Nat × St :=
  if okName s = false then (10, S)
  else if (beginS S).1 ≠ 0 then beginS S
  else if (fileAt (beginS S).2.files (lk (beginS S).2.names s)).isSome then (12, (beginS S).2)
  else if 64 ≤ Maps.size (beginS S).2.names then (65, (beginS S).2)
  else (0, addS (beginS S).2 s)
theorem begin_keeps (S : St) : (beginS S).2.calls = S.calls + 1 ∧ (beginS S).2.made = S.made ∧ (beginS S).2.files = S.files ∧ (beginS S).2.names = S.names ∧ (beginS S).2.lasting = S.lasting ∧ (beginS S).2.since = S.since ∧ (beginS S).2.q = S.q := by
  unfold beginS
  split <;> exact ⟨rfl, rfl, rfl, rfl, rfl, rfl, rfl⟩
theorem fileAt_snoc (fs : List Fl) (g : Fl) (k : Int) : fileAt (fs ++ [g]) k = (fileAt fs k).or (if (g.num : Int) = k then some g else none) := by
  unfold fileAt
  rw [List.find?_append]
  congr 1
  by_cases h : (g.num : Int) = k
  · rw [if_pos h]; simp [h]
  · rw [if_neg h]; simp [h]
theorem fileAt_none {fs : List Fl} {m : Nat} (h : ∀ f ∈ fs, f.num ≤ m) {k : Int} (hk : (m : Int) < k) : fileAt fs k = none := by
  unfold fileAt
  rw [List.find?_eq_none]
  intro f hf
  have := h f hf
  simp
  omega
theorem filesD_snoc {β : Nat → Nat} {fs : List Fl} {D : DataW Unit} {m b : Nat} {g : Fl} (h : FilesD β fs D) (hD : IsMap D) (hf : ∀ f ∈ fs, f.num ≤ m) (hg : g.num = m + 1) :
    FilesD (fun n => if n = m + 1 then b else β n) (fs ++ [g]) (D.put (.int .i64 ((m + 1 : Nat) : Int)) (i64L b)) := by
  intro k
  by_cases hk : k = ((m + 1 : Nat) : Int)
  · subst hk
    rw [Maps.atKey_put_same (k := .int .i64 _) hD trivial, Maps.has_put_same (k := .int .i64 _) hD trivial, fileAt_snoc, fileAt_none hf (by omega)]
    simp [hg]
  · have hne : Lit.int .i64 k ≠ .int .i64 ((m + 1 : Nat) : Int) := by intro e; injection e with _ e; exact hk e
    rw [Maps.atKey_put_other hne, Maps.has_put_other hne, fileAt_snoc, if_neg (by rw [hg]; exact fun e => hk e.symm), Option.or_none, (h k).1, (h k).2]
    cases hk2 : fileAt fs k with
    | none => exact ⟨rfl, rfl⟩
    | some f =>
      have := hf f (fileAt_mem hk2).1
      refine ⟨?_, rfl⟩
      show i64L (β f.num) = i64L ((if f.num = m + 1 then b else β f.num : Nat) : Int)
      rw [if_neg (by omega)]
theorem file_new {R : Nat} {S : St} {G : Gh} {w w' : World} {m : Nat} {D : DataW Unit} (h : DiskIs w R S G) (hf : ∀ f ∈ S.files, f.num ≤ m) (hm : S.made = m + 1) (h1 : w.ownsMap Tryz.prog 3 ptrElem G.bf (Maps.size D) D) (h2 : FilesD G.β S.files D) (h3 : Maps.size D + 1 ≤ S.calls)
    (o' : w'.ownsMap Tryz.prog 3 ptrElem G.bf (Maps.size D + 1) (D.put (.int .i64 ((m + 1 : Nat) : Int)) (i64L w.heap.size))) (g' : (w.alloc (.cells #[.slice none 0 0, .int .i64 0] 89)).grownBy w' (some G.bf)) :
    ∃ G', DiskIs w' R { S with files := S.files ++ [⟨m + 1, [], 0⟩] } G' ∧ Kept G G' w w' := by
  have hbf := h1.lt
  have T : Turn G.τ (fun n => n = 2) w w' := ⟨by have := g'.size; simp at this; omega, fun i hi ht => by
    rw [g'.block i (by simp; omega) (fun e => ht (by rw [Option.some.inj e]; exact h.tf))]
    exact Below.heap_alloc w _ i hi⟩
  have hb : w'.heap[w.heap.size]? = some (.cells #[.slice none 0 0, .int .i64 0] 89 (0, 0)) := by
    rw [g'.block w.heap.size (by simp) (fun e => by have := Option.some.inj e; omega)]
    exact (MapKept.heap_alloc w _).1
  have hs : w.heap.size < w'.heap.size := by have := g'.size; simp at this; omega
  have ht : ∀ i, G.τ i ≠ 0 → (if i = w.heap.size then 6 + 2 * (m + 1) else G.τ i) = G.τ i := fun i h0 => by
    rw [if_neg]
    rintro rfl
    exact h0 (h.top _ (Nat.le_refl _))
  have hT := h1.tidy lawI
  refine ⟨{ G with β := fun n => if n = m + 1 then w.heap.size else G.β n, τ := fun i => if i = w.heap.size then 6 + 2 * (m + 1) else G.τ i },
    ⟨drow_keep T h.row (by rw [h.tR]; omega), ⟨_, tight o', filesD_snoc h2 hT.isMap hf rfl, ?_⟩, map_keep T h.nm (by rw [h.tn]; omega), map_keep T h.lm (by rw [h.tl]; omega), owns_keep T h.sc (fun g hg => by rw [h.ts g hg]; omega), ?_, ?_, ?_, ?_, ?_, ?_, ?_, ?_⟩, ?_⟩
  · have := Maps.size_put hT (k := .int .i64 ((m + 1 : Nat) : Int)) (i64L w.heap.size)
    show _ ≤ S.calls
    split at this <;> omega
  · intro f hf'
    rcases List.mem_append.1 hf' with hf' | hf'
    · have hle := hf f hf'
      exact (file_keep T (h.files f hf') (by omega) (by omega)).retag (if_neg (by omega)) fun i hi => ht i (by omega)
    · rw [List.mem_singleton] at hf'
      subst hf'
      exact ⟨⟨.slice none 0 0, by simpa using hb, ⟨rfl, .inl ⟨rfl, rfl⟩⟩, fun g hg => by cases hg⟩, by simp, by simp, by simp, by simp⟩
  · exact (ht R (by rw [h.tR]; omega)).trans h.tR
  · exact (ht _ (by rw [h.tf]; omega)).trans h.tf
  · exact (ht _ (by rw [h.tn]; omega)).trans h.tn
  · exact (ht _ (by rw [h.tl]; omega)).trans h.tl
  · exact fun g hg => (ht g (by rw [h.ts g hg]; omega)).trans (h.ts g hg)
  · intro i hi
    show (if i = w.heap.size then 6 + 2 * (m + 1) else G.τ i) = 0
    rw [if_neg (by omega)]
    exact h.top i (by omega)
  · obtain ⟨a1, a2, a3, a4, a5, a6, a7, a8, a9, a10, a11⟩ := h.ok
    refine ⟨?_, ?_, fun p hp => ?_, fun p hp => ?_, fun c hc => ?_, a6, a7, a8, a9, a10, a11⟩
    · rw [List.pairwise_append]
      refine ⟨a1, List.pairwise_singleton _ _, fun f hf' g hg => ?_⟩
      rw [List.mem_singleton] at hg
      subst hg
      have := hf f hf'
      show f.num < m + 1
      omega
    · intro f hf'
      rcases List.mem_append.1 hf' with hf' | hf'
      · exact a2 f hf'
      · rw [List.mem_singleton] at hf'; subst hf'
        show 1 ≤ m + 1 ∧ m + 1 ≤ S.made
        omega
    · obtain ⟨f, hf', e⟩ := a3 p hp; exact ⟨f, List.mem_append_left _ hf', e⟩
    · obtain ⟨f, hf', e⟩ := a4 p hp; exact ⟨f, List.mem_append_left _ hf', e⟩
    · obtain ⟨b1, b2, b3, b4, b5⟩ := a5 c hc
      exact ⟨b1, b2, b3, fun h0 => by obtain ⟨f, hf', e⟩ := b4 h0; exact ⟨f, List.mem_append_left _ hf', e⟩, b5⟩
  · refine ⟨?_, ?_, ?_, T.1, fun i hi h0 => T.2 i hi (by rw [h0]; omega), fun i hi h0 => ?_⟩
    · rw [g'.os]; rfl
    · rw [g'.tape]; rfl
    · rw [g'.output]; rfl
    · show (if i = w.heap.size then 6 + 2 * (m + 1) else G.τ i) = 0
      rw [if_neg (by omega)]
      exact h0

theorem entries_put {D : DataW Unit} {k : Lit} {d : DataW Unit} {p : Lit × DataW Unit} (h : p ∈ entries (D.put k d)) : p = (k, d) ∨ p ∈ entries D := by
  cases D <;> simp only [DataW.put, entries, List.not_mem_nil] at h ⊢
  rename_i es
  have : ∀ l : List (Lit × DataW Unit), p ∈ DataW.insert (k, d) l → p = (k, d) ∨ p ∈ l := by
    intro l
    induction l with
    | nil => intro h; simp only [DataW.insert, List.mem_singleton] at h; exact .inl h
    | cons y r ih =>
      intro h
      simp only [DataW.insert] at h
      split at h
      · rcases List.mem_cons.1 h with h | h
        · exact .inl h
        · exact .inr h
      · rcases List.mem_cons.1 h with h | h
        · exact .inr (by rw [h]; exact List.mem_cons_self)
        · exact (ih h).imp id (List.mem_cons_of_mem _)
  exact (this _ h).imp id (fun h => (List.mem_filter.1 h).1)
theorem entries_del {D : DataW Unit} {k : Lit} {p : Lit × DataW Unit} (h : p ∈ entries (D.del k)) : p ∈ entries D := by
  cases D <;> simp only [DataW.del, entries, List.not_mem_nil] at h ⊢
  exact (List.mem_filter.1 h).1
theorem at_of_has {D : DataW Unit} {k : Lit} (h : Maps.has D k = true) (z : DataW Unit) : ∃ p ∈ entries D, p.1 = k ∧ D.atKey k z = p.2 := by
  cases D <;> simp only [Maps.has, Bool.false_eq_true] at h
  rename_i es
  obtain ⟨p, hp, hs⟩ := List.any_eq_true.1 h
  simp only [DataW.atKey, entries]
  cases hf : es.find? (fun p => p.1.sameKey k) with
  | none => exact absurd hs (by have := List.find?_eq_none.1 hf p hp; exact this)
  | some q => exact ⟨q, List.mem_of_find?_eq_some hf, WideAt.sameKey_eq (by have := List.find?_some hf; exact this), rfl⟩
theorem leads_do {fs : List Fl} {D : DataW Unit} {c : Chn} (h : Leads fs D) (hc : c.kind = 0 → ∃ f ∈ fs, c.file = f.num) : Leads fs (doS D c) := by
  intro p hp
  unfold doS at hp
  split at hp
  · rename_i h0
    rcases entries_put hp with rfl | hp
    · obtain ⟨f, hf, e⟩ := hc h0
      exact ⟨f, hf, by rw [e]⟩
    · exact h p hp
  · split at hp
    · split at hp
      · rename_i hh
        rcases entries_put hp with rfl | hp
        · obtain ⟨q, hq, _, e⟩ := at_of_has hh (i64L 0)
          obtain ⟨f, hf, e'⟩ := h q hq
          refine ⟨f, hf, ?_⟩
          show i64L (lk D c.name) = _
          unfold lk
          rw [e, e']
          rfl
        · exact h p (entries_del hp)
      · exact h p hp
    · split at hp
      · exact h p (entries_del hp)
      · exact h p hp

theorem int_keys {E : Value → Option (DataW Unit × List MemPlace)} {w : World} {b n : Nat} {D : DataW Unit} (h : w.ownsMap Tryz.prog 3 E b n D) : ∃ es, D = .map es ∧ es.Pairwise (fun p q => p.1 ≠ q.1) ∧ ∀ p ∈ es, ∃ x, p.1 = .int .i64 x := by
  obtain ⟨es, he, hp, _⟩ := h.entries lawI
  refine ⟨es, he, hp, fun p hp' => ?_⟩
  obtain ⟨es', clock, hb, F, hs, hD⟩ := h
  rw [he] at hD
  injection hD with hD
  rw [hD, mem_sorted] at hp'
  obtain ⟨v, hv⟩ := Maps.fit_keys F p hp'
  obtain ⟨x, _, hx, _⟩ := Maps.keyOf_i64 Tryz.underlying3 hv
  exact ⟨x, hx⟩
theorem files_perm {w : World} {b n : Nat} {D : DataW Unit} {β : Nat → Nat} {fs : List Fl} (h : w.ownsMap Tryz.prog 3 ptrElem b n D) (hD : FilesD β fs D) (hr : fs.Pairwise fun f g => f.num < g.num) :
    (fs.map fun f => (f.num : Int)).Perm (intKeys D) := by
  obtain ⟨es, rfl, hp, hk⟩ := int_keys h
  refine perm_intKeys hp hk ?_ fun x => ?_
  · rw [List.nodup_iff_pairwise_ne, List.pairwise_map]
    exact hr.imp (fun h => by omega)
  · rw [(hD x).2, List.mem_map]
    constructor
    · rintro ⟨f, hf, rfl⟩
      rw [fileAt_of hr hf]; rfl
    · intro h
      obtain ⟨f, hf⟩ := Option.isSome_iff_exists.1 h
      exact ⟨f, (fileAt_mem hf).1, (fileAt_mem hf).2.symm⟩
theorem files_size {w : World} {b n : Nat} {D : DataW Unit} {β : Nat → Nat} {fs : List Fl} (h : w.ownsMap Tryz.prog 3 ptrElem b n D) (hD : FilesD β fs D) (hr : fs.Pairwise fun f g => f.num < g.num) : Maps.size D = fs.length := by
  have := (files_perm h hD hr).length_eq
  obtain ⟨es, rfl, _, _⟩ := int_keys h
  rw [Maps.size_eq]
  simp only [intKeys, List.length_map] at this
  exact this.symm
theorem rise_len : ∀ (fs : List Fl) (a m : Nat), fs.Pairwise (fun f g => f.num < g.num) → (∀ f ∈ fs, a < f.num ∧ f.num ≤ m) → fs.length + a ≤ m ∨ fs = []
  | [], _, _, _, _ => .inr rfl
  | f :: r, a, m, hr, hf => by
    rw [List.pairwise_cons] at hr
    have h0 := hf f List.mem_cons_self
    left
    rcases rise_len r f.num m hr.2 (fun g hg => ⟨hr.1 g hg, (hf g (List.mem_cons_of_mem _ hg)).2⟩) with h | h
    · simp only [List.length_cons]; omega
    · subst h; simp; omega
theorem files_few {S : St} (h : Ok S) : S.files.length ≤ S.made := by
  rcases rise_len S.files 0 S.made h.rise (fun f hf => ⟨(h.nums f hf).1, (h.nums f hf).2⟩) with h' | h'
  · omega
  · rw [h']; simp

end Go.Proofs.YtdldpdllhnpdaaaGreat.Clep

/- What Create of a Disk does when called: the walk over the translated program. For any Disk of fewer than 2^40 calls, any name of at most 2^46 bytes. -/
namespace Go.Proofs.YtdldpdllhnpdaaaGreat.Clep
open Go.RowKit Go.Maps
set_option linter.unusedVariables false
set_option maxRecDepth 10000

theorem txts_one (w : World) (s : ByteArray) : Txts (w.alloc (.cells #[.string s] 9)) (some ⟨w.heap.size, 0, none⟩) [s] := by
  intro i hi
  obtain rfl : i = 0 := by simpa using hi
  exact ⟨_, _, rfl, cell_of (MapKept.heap_alloc w _).1 (by simp)⟩
theorem okName_le {s : ByteArray} (h : okName s = true) : 1 ≤ s.size ∧ s.size ≤ 16 := by
  unfold okName at h
  simp only [Bool.and_eq_true, decide_eq_true_eq] at h
  exact h.1
theorem add_ok {S S1 : St} {s : ByteArray} (hS : S1.calls = S.calls + 1 ∧ S1.made = S.made ∧ S1.files = S.files ∧ S1.names = S.names ∧ S1.lasting = S.lasting ∧ S1.since = S.since ∧ S1.q = S.q) (h : Ok S) (h1 : Ok S1) (hs : s.size ≤ 16) (hz : Maps.size (doS S1.names (newCh S1 s)) ≤ Maps.size S1.names + 1) : Ok (addS S1 s) := by
  obtain ⟨c1, c2, c3, c4, c5, c6, c7⟩ := hS
  obtain ⟨a1, a2, a3, a4, a5, a6, a7, a8, a9, a10, a11⟩ := h1
  have b6 := h.szn
  have b7 := h.szl
  have b8 := h.mad
  rw [← c4] at b6
  rw [← c5, ← c6] at b7
  rw [← c2] at b8
  have L : ∀ D, Leads S1.files D → Leads (S1.files ++ [⟨S1.made + 1, [], 0⟩]) D := fun D hD p hp => by obtain ⟨f, hf, e⟩ := hD p hp; exact ⟨f, List.mem_append_left _ hf, e⟩
  refine ⟨?_, ?_, leads_do (c := newCh S1 s) (L _ a3) (fun _ => ⟨_, List.mem_append_right _ (List.mem_singleton.2 rfl), rfl⟩), L _ a4, ?_, ?_, ?_, ?_, a9, a10, a11⟩
  · show List.Pairwise _ (S1.files ++ [_])
    rw [List.pairwise_append]
    refine ⟨a1, List.pairwise_singleton _ _, fun f hf g hg => ?_⟩
    rw [List.mem_singleton] at hg
    subst hg
    have := a2 f hf
    show f.num < S1.made + 1
    omega
  · intro f hf
    show 1 ≤ f.num ∧ f.num ≤ S1.made + 1
    rcases List.mem_append.1 hf with hf | hf
    · have := a2 f hf; omega
    · rw [List.mem_singleton] at hf; subst hf; exact ⟨by simp, Nat.le_refl _⟩
  · intro c hc
    rcases List.mem_append.1 hc with hc | hc
    · obtain ⟨b1, b2, b3, b4, b5⟩ := a5 c hc
      exact ⟨b1, b2, b3, fun h0 => by obtain ⟨f, hf, e⟩ := b4 h0; exact ⟨f, List.mem_append_left _ hf, e⟩, Nat.le_trans b5 (Nat.le_succ _)⟩
    · rw [List.mem_singleton] at hc
      subst hc
      exact ⟨Nat.zero_le _, hs, Nat.zero_le _, fun _ => ⟨_, List.mem_append_right _ (List.mem_singleton.2 rfl), rfl⟩, Nat.le_refl _⟩
  · show Maps.size (doS S1.names (newCh S1 s)) ≤ S1.calls
    omega
  · show Maps.size S1.lasting + (S1.since ++ [_]).length ≤ S1.calls
    rw [List.length_append]
    simp
    omega
  · show S1.made + 1 ≤ S1.calls
    omega

set_option maxHeartbeats 800000 in
set_option maxRecDepth 4000 in
theorem create_any (R : Nat) (S : St) (G : Gh) (s : ByteArray) (w : World) (h : DiskIs w R S G) (hm : S.calls < 1099511627776) (hs : s.size ≤ 70368744177664) :
    Calls Tryz.prog 21 #[.pointer (some ⟨R, 0, none⟩), .string s] w fun e w' => e = .returned (.int .i64 (createS S s).1) ∧ ∃ G', DiskIs w' R (createS S s).2 G' ∧ Kept G G' w w' := by
  have H := hide h
  have BA := (Below.refl w.heap.size w).alloc (Nat.le_refl _) (.cells #[.string s] 9)
  have BG := hide (begin_any R S G (some ⟨w.heap.size, 0, none⟩) [s] _ (h.below BA) (by omega) (by simp) (txts_one w s) (by simpa using hs))
  have HA := hide BA
  clear h BA
  go_enter Tryz.func21, Tryz.ntmps21
  go_wp2_with fail
  refine BG.out.mono ?_
  clear BG
  generalize w.alloc (.cells #[.string s] 9) = wA at *
  rintro e w1 (⟨hno, rfl, rfl⟩ | ⟨hyes, rfl, D1, K1⟩)
  · have hc : createS S s = (10, S) := by unfold createS; rw [if_pos (by simpa using hno)]
    have HC := hide hc
    clear hc
    go_wp2
    go_ret
    exact ⟨by rw [HC.out]; rfl, by rw [HC.out]; exact ⟨G, H.out.below HA.out, Kept.of_below HA.out⟩⟩
  · have hk := begin_keeps S
    have hy : okName s = true := by simpa using hyes
    have hc0 : createS S s = if (beginS S).1 ≠ 0 then beginS S else if (fileAt (beginS S).2.files (lk (beginS S).2.names s)).isSome then (12, (beginS S).2) else if 64 ≤ Maps.size (beginS S).2.names then (65, (beginS S).2) else (0, addS (beginS S).2 s) := by
      unfold createS; rw [if_neg (by rw [hy]; simp)]
    have HC := hide hc0
    have KK := hide ((Kept.of_below (G := G) HA.out).trans K1)
    have HD := hide D1
    have HK := hide hk
    clear hc0 K1 D1 hk hyes
    obtain ⟨e1, S1, hb⟩ : ∃ e1 S1, beginS S = (e1, S1) := ⟨_, _, rfl⟩
    rw [hb] at HC HD HK ⊢
    simp only at HC HD HK
    by_cases he : e1 = 0
    · subst he
      have hF := hide (find_disk R S1 G s w1 HD.out hs)
      go_wp2_with fail
      refine hF.out.mono ?_
      rintro e w2 ⟨rfl, b2⟩
      have HD2 := hide (HD.out.below b2)
      have KK2 := hide (KK.out.trans (Kept.of_below b2))
      clear b2 hF KK HD
      cases hf : fileAt S1.files (lk S1.names s) with
      | some f =>
        have HC2 := hide (show createS S s = (12, S1) by rw [HC.out, hf]; rfl)
        simp only [ptrOf]
        go_wp2
        go_ret
        exact ⟨by rw [HC2.out]; rfl, by rw [HC2.out]; exact ⟨G, HD2.out, KK2.out⟩⟩
      | none =>
        simp only [ptrOf]
        have HC2 := hide (show createS S s = if 64 ≤ Maps.size S1.names then (65, S1) else (0, addS S1 s) by rw [HC.out, hf]; rfl)
        have c7 := HD2.out.cells.2.1.2.2.1
        have c5 := HD2.out.cells.2.1.1
        have f5 := HD2.out.cells.2.2 5
        clear HC hf
        by_cases h64 : 64 ≤ Maps.size S1.names
        · have h64' : (64 : Int) ≤ (Maps.size S1.names : Int) := by omega
          go_wp2_with (first
            | (at_len; refine wpList_len_own _ rfl _ 54 rfl 9 3 Tryz.underlying54 _ G.bn _ _ rfl HD2.out.nm ?_)
            | go_in)
          go_ret
          exact ⟨by rw [HC2.out, if_pos h64]; rfl, by rw [HC2.out, if_pos h64]; exact ⟨G, HD2.out, KK2.out⟩⟩
        · have h64' : ¬ ((64 : Int) ≤ (Maps.size S1.names : Int)) := by omega
          have hcl := HK.out.1
          have hmd := HK.out.2.1
          have hmo := H.out.ok.mad
          have hmade : (S1.made : Int) + 1 ≤ 1099511627776 := by omega
          have hok := HD2.out.ok
          have ok3 : Ok { S1 with made := S1.made + 1 } := ⟨hok.rise, fun f hf => ⟨(hok.nums f hf).1, Nat.le_trans (hok.nums f hf).2 (Nat.le_succ _)⟩, hok.named, hok.lasted, fun c hc => by
            obtain ⟨b1, b2, b3, b4, b5⟩ := hok.crea c hc
            exact ⟨b1, b2, b3, b4, Nat.le_trans b5 (Nat.le_succ _)⟩, hok.szn, hok.szl, by show S1.made + 1 ≤ S1.calls; omega, hok.quo, hok.stp, hok.fai⟩
          have D3 := HD2.out.put (S' := { S1 with made := S1.made + 1 }) 5 (.int .i64 (S1.made + 1)) rfl rfl rfl rfl rfl (Nat.le_refl _) ok3
          have K3 := KK2.out.trans (kept_set (G := G) (w := w2) (b := R) 5 (.int .i64 (S1.made + 1)) (by rw [HD2.out.tR]; omega))
          have HD3 := hide D3
          have HK3 := hide K3
          have hle := hide hok.nums
          have OK1 := hide hok
          clear D3 K3 hok ok3 hcl hmd hmo
          go_wp2_with (first
            | (at_len; refine wpList_len_own _ rfl _ 54 rfl 9 3 Tryz.underlying54 _ G.bn _ _ rfl HD2.out.nm ?_)
            | fail)
          generalize w2.setCell ⟨R, 5, none⟩ (.int .i64 (S1.made + 1)) = w3 at *
          clear c7 c5 f5 HD2 KK2
          have d5 := HD3.out.cells.2.1.1
          have d6 := HD3.out.cells.2.1.2.1
          rw [show (({ S1 with made := S1.made + 1 } : St).made : Int) = (S1.made : Int) + 1 from rfl] at d5
          have hR := HD3.out.lt
          have a5 : (w3.alloc (.cells #[.slice none 0 0, .int .i64 0] 89)).cell? ⟨R, 5, none⟩ = some (.int .i64 (S1.made + 1)) := by
            rw [World.cell?_of_block (w := w3) (Below.heap_alloc w3 _ R hR)]; exact d5
          have a6 : (w3.alloc (.cells #[.slice none 0 0, .int .i64 0] 89)).cell? ⟨R, 6, none⟩ = some (.map (some G.bf)) := by
            rw [World.cell?_of_block (w := w3) (Below.heap_alloc w3 _ R hR)]; exact d6
          obtain ⟨D, f1, f2, f3⟩ := HD3.out.fm
          have hfew := files_size f1 f2 HD3.out.ok.rise
          have hfew2 : S1.files.length ≤ S1.made := by
            rcases rise_len S1.files 0 S1.made HD3.out.ok.rise hle.out with h' | h'
            · omega
            · rw [h']; simp
          have hsz : Maps.size D + 1 ≤ S1.calls := by
            have hcl := HK.out.1
            have hmd := HK.out.2.1
            have hmo := H.out.ok.mad
            rw [hfew]; show S1.files.length + 1 ≤ _; omega
          have hsz2 : S1.calls ≤ 1099511627776 := by have hcl := HK.out.1; omega
          obtain ⟨w4, hrun, o4, g4⟩ := World.ownsMap.update (w := (w3.alloc (.cells #[.slice none 0 0, .int .i64 0] 89)).drew) (f1.alloc _).drew lawI Tryz.underlying52 (by unfold maxLen; omega) (keyOf_int_mk Tryz.underlying3 (a := (S1.made : Int) + 1) (WalkArith.wf_i64 (by omega))) (ptrElem_mk w3.heap.size)
          have NEW := hide (file_new (m := S1.made) HD3.out (fun f hf => (hle.out f hf).2) rfl f1 f2 hsz o4 ⟨g4.os, g4.tape, g4.output, g4.size, g4.block⟩)
          clear f1 f2 f3 o4 g4 hfew
          have hsz3 : Maps.size (doS S1.names (newCh S1 s)) ≤ Maps.size S1.names + 1 := by
            have hsp := Maps.size_put (HD3.out.nm.tidy lawS) (k := key s) (i64L ((S1.made + 1 : Nat) : Int))
            show Maps.size (S1.names.put (key s) (i64L ((S1.made + 1 : Nat) : Int))) ≤ _
            split at hsp <;> simp only at hsp <;> omega
          have OKA := hide (add_ok HK.out H.out.ok OK1.out (okName_le hy).2 hsz3)
          obtain ⟨G4, D4, K4⟩ := NEW.out
          have CH : Calls Tryz.prog 44 #[.pointer (some ⟨R, 0, none⟩), .agg #[.int .i64 0, .string s, .string ⟨#[]⟩, .int .i64 (S1.made + 1)]] w4 _ := change_any R _ G4 (newCh S1 s) w4 D4 hsz2 (okName_le hy).2 (Nat.zero_le _) (Nat.zero_le _) (by show S1.made + 1 ≤ _; omega) OKA.out
          have HCH := hide CH
          have e5 : w4.cell? ⟨R, 5, none⟩ = some (.int .i64 (S1.made + 1)) := D4.cells.2.1.1
          have HK4 := hide (HK3.out.trans K4)
          clear K4 D4 NEW CH
          go_region
          go_wp2_with fail
          refine HCH.out.mono ?_
          rintro e w5 ⟨rfl, G5, D5, K5⟩
          have HD5 := hide D5
          have HK5 := hide K5
          clear D5 K5
          go_wp2
          go_ret
          exact ⟨by rw [HC2.out, if_neg h64]; rfl, by rw [HC2.out, if_neg h64]; exact ⟨G5, HD5.out, HK4.out.trans HK5.out⟩⟩
    · have HC2 := hide (show createS S s = (e1, S1) by rw [HC.out, if_pos he])
      have hne : ¬ ((e1 : Int) = 0) := by omega
      go_wp2
      go_ret
      exact ⟨by rw [HC2.out]; rfl, by rw [HC2.out]; exact ⟨G, HD.out, KK.out⟩⟩

end Go.Proofs.YtdldpdllhnpdaaaGreat.Clep
