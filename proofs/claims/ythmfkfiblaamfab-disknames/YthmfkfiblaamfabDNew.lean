/- What New, SyncDir and Sync of a Disk do when called (walks over the translated program): for any quota, any Disk of fewer than 2^40 calls, any name of at most 2^46 bytes. -/
import Derived.Test.YthmfkfiblaamfabDCrashX
namespace Go.Proofs.Ythmfkfiblaamfab.Clep
open Go.RowKit Go.Maps
set_option linter.unusedVariables false

def newS (q : Nat) : St := ⟨q, 0, 0, 0, false, 0, [], .map [], .map [], []⟩
theorem new_is (q : Nat) (hq : q ≤ 9223372036854775807) (w : World) : ∃ G, DiskIs ((((w.alloc (.map #[] 0)).alloc (.map #[] 0)).alloc (.map #[] 0)).alloc (.cells #[.int .i64 q, .int .i64 0, .int .i64 0, .int .i64 0, .bool false, .int .i64 0, .map (some w.heap.size), .map (some (w.heap.size + 1)), .map (some (w.heap.size + 2)), .slice none 0 0] 57)) (w.heap.size + 3) (newS q) G ∧ ∀ i, i < w.heap.size → G.τ i = 0 := by
  have hm := fun W : World => MapKept.heap_alloc W
  have h1 := World.ownsMap_made w Try.prog 3 ptrElem
  have h2 := World.ownsMap_made (w.alloc (.map #[] 0)) Try.prog 9 (plainElem (H := Unit) Try.prog 3)
  have h3 := World.ownsMap_made ((w.alloc (.map #[] 0)).alloc (.map #[] 0)) Try.prog 9 (plainElem (H := Unit) Try.prog 3)
  simp only [World.size_alloc] at h2 h3
  refine ⟨⟨w.heap.size, w.heap.size + 1, w.heap.size + 2, .slice none 0 0, fun _ => 0, fun i => if i = w.heap.size + 3 then 1 else if i = w.heap.size then 2 else if i = w.heap.size + 1 then 3 else if i = w.heap.size + 2 then 4 else 0⟩, ⟨?_, ⟨_, tight (((h1.alloc _).alloc _).alloc _), ?_, Nat.zero_le _⟩, tight ((h2.alloc _).alloc _), tight (h3.alloc _), ⟨rfl, .inl ⟨rfl, rfl⟩⟩, fun f hf => (by cases hf), ?_, ?_, ?_, ?_, fun g hg => (by cases hg), ?_, ?_⟩, ?_⟩
  · have := (hm (((w.alloc (.map #[] 0)).alloc (.map #[] 0)).alloc (.map #[] 0)) (.cells #[.int .i64 q, .int .i64 0, .int .i64 0, .int .i64 0, .bool false, .int .i64 0, .map (some w.heap.size), .map (some (w.heap.size + 1)), .map (some (w.heap.size + 2)), .slice none 0 0] 57)).1
    simp only [World.size_alloc] at this
    exact this
  · intro k
    exact ⟨rfl, rfl⟩
  · simp
  · simp
  · simp
  · simp
  · intro i hi
    simp only [World.size_alloc] at hi
    show (if i = w.heap.size + 3 then 1 else if i = w.heap.size then 2 else if i = w.heap.size + 1 then 3 else if i = w.heap.size + 2 then 4 else 0) = 0
    rw [if_neg (by omega), if_neg (by omega), if_neg (by omega), if_neg (by omega)]
  · exact ⟨List.Pairwise.nil, fun f hf => (by cases hf), fun p hp => (by cases hp), fun p hp => (by cases hp), fun c hc => (by cases hc), Nat.le_refl _, Nat.le_refl _, Nat.le_refl _, hq, Nat.zero_le _, Nat.zero_le _⟩
  · intro i hi
    show (if i = w.heap.size + 3 then 1 else if i = w.heap.size then 2 else if i = w.heap.size + 1 then 3 else if i = w.heap.size + 2 then 4 else 0) = 0
    rw [if_neg (by omega), if_neg (by omega), if_neg (by omega), if_neg (by omega)]
theorem new_any (q : Nat) (w : World) (hq : q ≤ 9223372036854775807) :
    Calls Try.prog 6 #[.int .i64 q] w fun e w' => ∃ R G, e = .returned (.pointer (some ⟨R, 0, none⟩)) ∧ DiskIs w' R (newS q) G ∧ Below w.heap.size w w' ∧ ∀ i, i < w.heap.size → G.τ i = 0 := by
  have hmm := @run_makeMap Try.prog
  have hqz : ¬ ((q : Int) < 0) := by omega
  have hmx : max (q : Int) 0 = q := by omega
  have NI := hide (new_is q hq w)
  go_enter Try.func6, Try.ntmps6
  go_wp2
  go_ret
  obtain ⟨G, h1, h2⟩ := NI.out
  exact ⟨_, rfl, G, h1, (((((Below.refl _ w).alloc (Nat.le_refl _) _).alloc (by simp) _).alloc (by simp; omega) _).alloc (by simp; omega) _), h2⟩
def syncDirS (S : St) : Nat × St := if (beginS S).1 ≠ 0 then beginS S else (0, settleS (beginS S).2)
set_option maxHeartbeats 400000 in
theorem syncDir_any (R : Nat) (S : St) (G : Gh) (w : World) (h : DiskIs w R S G) (hm : S.calls < 1099511627776) :
    Calls Try.prog 8 #[.pointer (some ⟨R, 0, none⟩)] w fun e w' => e = .returned (.int .i64 (syncDirS S).1) ∧ ∃ G', DiskIs w' R (syncDirS S).2 G' ∧ Kept G G' w w' := by
  have BG := hide (begin_any R S G none [] w h (by omega) (by simp) (fun i hi => absurd hi (Nat.not_lt_zero _)) (fun s hs => by cases hs))
  clear h
  go_enter Try.func8, Try.ntmps8
  go_wp2_with fail
  refine BG.out.mono ?_
  clear BG
  rintro e w1 (⟨hno, rfl, rfl⟩ | ⟨hyes, rfl, D1, K1⟩)
  · cases hno
  · obtain ⟨e1, S1, hb⟩ : ∃ e1 S1, beginS S = (e1, S1) := ⟨_, _, rfl⟩
    have hk := (begin_keeps S).1
    have hc0 : syncDirS S = if e1 ≠ 0 then (e1, S1) else (0, settleS S1) := by unfold syncDirS; rw [hb]
    have HC := hide hc0
    rw [hb] at D1 hk ⊢
    have HD := hide D1
    have HK := hide K1
    clear hc0 K1 D1 hyes hb
    simp only at HD hk ⊢
    have hcl : S1.calls ≤ 1099511627776 := by omega
    clear hk
    by_cases he : e1 = 0
    · subst he
      have ST := hide (settle_any R S1 G w1 HD.out.mid hcl)
      go_wp2_with fail
      refine ST.out.mono ?_
      rintro e w2 ⟨rfl, G2, D2, K2⟩
      have HD2 := hide D2
      have HK2 := hide (HK.out.trans K2)
      clear D2 K2
      go_wp2
      go_ret
      exact ⟨by rw [HC.out]; rfl, by rw [HC.out]; exact ⟨G2, HD2.out, HK2.out⟩⟩
    · have HC2 := hide (show syncDirS S = (e1, S1) by rw [HC.out, if_pos he])
      have hne : ¬ ((e1 : Int) = 0) := by omega
      go_wp2
      go_ret
      exact ⟨by rw [HC2.out]; rfl, by rw [HC2.out]; exact ⟨G, HD.out, HK.out⟩⟩

def lastF (f : Fl) : Fl := { f with lasts := f.bs.length }
def syncS (S : St) (s : ByteArray) : Nat × St :=
  if okName s = false then (10, S)
  else if (beginS S).1 ≠ 0 then beginS S
  else match fileAt (beginS S).2.files (lk (beginS S).2.names s) with
    | none => (11, (beginS S).2)
    | some f => (0, { (beginS S).2 with files := updF (beginS S).2.files f.num lastF })
theorem sync_file {R : Nat} {S : St} {G : Gh} {w : World} {f : Fl} (h : DiskIs w R S G) (hf : f ∈ S.files) :
    DiskIs (w.setCell ⟨G.β f.num, 1, none⟩ (.int .i64 f.bs.length)) R { S with files := updF S.files f.num lastF } G ∧ Kept G G w (w.setCell ⟨G.β f.num, 1, none⟩ (.int .i64 f.bs.length)) := by
  have F := h.files f hf
  obtain ⟨ao, cap, hc, hO, hbk, hcm, hB⟩ := F.cells
  refine file_turn (G' := G) (g := lastF) (fun f => rfl) h hf ((turn_set (t := 6 + 2 * f.num) _ F.tag).mono fun n hn => .inr (.inl hn)) ⟨rfl, rfl, rfl⟩ rfl (fun i hi => absurd rfl hi) ?_
  refine ⟨⟨.slice ao f.bs.length cap, ?_, ?_, hbk⟩, F.tag, F.rng, F.len, Nat.le_refl _⟩
  · show (w.setCell ⟨G.β f.num, 1, none⟩ (.int .i64 f.bs.length)).heap[G.β f.num]? = _
    rw [heap_setCell_same w _ 1 _ _ _ hc]; rfl
  · exact owns_keep (turn_set (τ := G.τ) (t := 6 + 2 * f.num) _ F.tag) hO (fun g hg => by rw [hbk g hg]; omega)
set_option maxHeartbeats 400000 in
theorem sync_any (R : Nat) (S : St) (G : Gh) (s : ByteArray) (w : World) (h : DiskIs w R S G) (hm : S.calls < 1099511627776) (hs : s.size ≤ 70368744177664) :
    Calls Try.prog 22 #[.pointer (some ⟨R, 0, none⟩), .string s] w fun e w' => e = .returned (.int .i64 (syncS S s).1) ∧ ∃ G', DiskIs w' R (syncS S s).2 G' ∧ Kept G G' w w' := by
  have H := hide h
  have BA := (Below.refl w.heap.size w).alloc (Nat.le_refl _) (.cells #[.string s] 9)
  have BG := hide (begin_any R S G (some ⟨w.heap.size, 0, none⟩) [s] _ (h.below BA) (by omega) (by simp) (txts_one w s) (by simpa using hs))
  have HA := hide BA
  clear h BA
  go_enter Try.func22, Try.ntmps22
  go_wp2_with fail
  refine BG.out.mono ?_
  clear BG
  generalize w.alloc (.cells #[.string s] 9) = wA at *
  rintro e w1 (⟨hno, rfl, rfl⟩ | ⟨hyes, rfl, D1, K1⟩)
  · have hc : syncS S s = (10, S) := by unfold syncS; rw [if_pos (by simpa using hno)]
    have HC := hide hc
    clear hc
    go_wp2
    go_ret
    exact ⟨by rw [HC.out]; rfl, by rw [HC.out]; exact ⟨G, H.out.below HA.out, Kept.of_below HA.out⟩⟩
  · have hy : okName s = true := by simpa using hyes
    obtain ⟨e1, S1, hb⟩ : ∃ e1 S1, beginS S = (e1, S1) := ⟨_, _, rfl⟩
    have hc0 : syncS S s = if e1 ≠ 0 then (e1, S1) else match fileAt S1.files (lk S1.names s) with | none => (11, S1) | some f => (0, { S1 with files := updF S1.files f.num lastF }) := by
      unfold syncS; rw [if_neg (by rw [hy]; simp), hb]
    have HC := hide hc0
    have KK := hide ((Kept.of_below (G := G) HA.out).trans K1)
    rw [hb] at D1 ⊢
    have HD := hide D1
    clear hc0 K1 D1 hyes hb
    simp only at HD ⊢
    by_cases he : e1 = 0
    · subst he
      have hF := hide (find_disk R S1 G s w1 HD.out hs)
      go_wp2_with fail
      refine hF.out.mono ?_
      rintro e w2 ⟨rfl, b2⟩
      have HD2 := hide (HD.out.below b2)
      have KK2 := hide (KK.out.trans (Kept.of_below b2))
      clear b2 hF KK HD
      cases hf : fileAt S1.files (lk S1.names s) with
      | none =>
        have HC2 := hide (show syncS S s = (11, S1) by rw [HC.out, hf]; rfl)
        simp only [ptrOf]
        go_wp2
        go_ret
        exact ⟨by rw [HC2.out]; rfl, by rw [HC2.out]; exact ⟨G, HD2.out, KK2.out⟩⟩
      | some f =>
        simp only [ptrOf]
        have HC2 := hide (show syncS S s = (0, { S1 with files := updF S1.files f.num lastF }) by rw [HC.out, hf]; rfl)
        have hmem := (fileAt_mem hf).1
        obtain ⟨fo, fc, hc, _⟩ := (HD2.out.files f hmem).cells
        have cf := cell_of (i := 0) hc rfl
        have cl := cell_of (i := 1) hc rfl
        simp at cf cl
        have fl := frozen_of_row w2 (G.β f.num) 1 _ _ hc
        have SF := hide (sync_file HD2.out hmem)
        clear HC hf hc
        go_wp2
        go_ret
        exact ⟨by rw [HC2.out]; rfl, by rw [HC2.out]; exact ⟨G, SF.out.1, KK2.out.trans SF.out.2⟩⟩
    · have HC2 := hide (show syncS S s = (e1, S1) by rw [HC.out, if_pos he])
      have hne : ¬ ((e1 : Int) = 0) := by omega
      go_wp2
      go_ret
      exact ⟨by rw [HC2.out]; rfl, by rw [HC2.out]; exact ⟨G, HD.out, KK.out⟩⟩

end Go.Proofs.Ythmfkfiblaamfab.Clep
