/- What New, SyncDir and Sync of a Disk do when called (walks over the translated program): for any quota, any Disk of fewer than 2^40 calls, any name of at most 2^46 bytes. -/
import Derived.Test.YtdldpdllhnpdaaaGreatYe
import Derived.Lib.SlBytesConst
import Derived.Lib.ConvBytes
namespace Go.Proofs.YtdldpdllhnpdaaaGreat.Clep
open Go.RowKit Go.Maps
set_option linter.unusedVariables false
set_option maxRecDepth 10000

def newS (q : Nat) : St := ⟨q, 0, 0, 0, false, 0, [], .map [], .map [], []⟩
theorem new_is (q : Nat) (hq : q ≤ 9223372036854775807) (w : World) : ∃ G, DiskIs ((((w.alloc (.map #[] 0)).alloc (.map #[] 0)).alloc (.map #[] 0)).alloc (.cells #[.int .i64 q, .int .i64 0, .int .i64 0, .int .i64 0, .bool false, .int .i64 0, .map (some w.heap.size), .map (some (w.heap.size + 1)), .map (some (w.heap.size + 2)), .slice none 0 0] 62)) (w.heap.size + 3) (newS q) G ∧ ∀ i, i < w.heap.size → G.τ i = 0 := by
  have hm := fun W : World => MapKept.heap_alloc W
  have h1 := World.ownsMap_made w Tryz.prog 3 ptrElem
  have h2 := World.ownsMap_made (w.alloc (.map #[] 0)) Tryz.prog 9 (plainElem (H := Unit) Tryz.prog 3)
  have h3 := World.ownsMap_made ((w.alloc (.map #[] 0)).alloc (.map #[] 0)) Tryz.prog 9 (plainElem (H := Unit) Tryz.prog 3)
  simp only [World.size_alloc] at h2 h3
  refine ⟨⟨w.heap.size, w.heap.size + 1, w.heap.size + 2, .slice none 0 0, fun _ => 0, fun i => if i = w.heap.size + 3 then 1 else if i = w.heap.size then 2 else if i = w.heap.size + 1 then 3 else if i = w.heap.size + 2 then 4 else 0⟩, ⟨?_, ⟨_, tight (((h1.alloc _).alloc _).alloc _), ?_, Nat.zero_le _⟩, tight ((h2.alloc _).alloc _), tight (h3.alloc _), ⟨rfl, .inl ⟨rfl, rfl⟩⟩, fun f hf => (by cases hf), ?_, ?_, ?_, ?_, fun g hg => (by cases hg), ?_, ?_⟩, ?_⟩
  · have := (hm (((w.alloc (.map #[] 0)).alloc (.map #[] 0)).alloc (.map #[] 0)) (.cells #[.int .i64 q, .int .i64 0, .int .i64 0, .int .i64 0, .bool false, .int .i64 0, .map (some w.heap.size), .map (some (w.heap.size + 1)), .map (some (w.heap.size + 2)), .slice none 0 0] 62)).1
    simp only [World.size_alloc] at this
    exact this
  · intro k
    exact ⟨rfl, rfl⟩
  · simp
  · simp
  · simp
  · simp
  · intro i hi
    simp only [World.size_alloc] at hi
    show (if i = w.heap.size + 3 then 1 else if i = w.heap.size then 2 else if i = w.heap.size + 1 then 3 else if i = w.heap.size + 2 then 4 else 0) = 0
    rw [if_neg (by omega), if_neg (by omega), if_neg (by omega), if_neg (by omega)]
  · exact ⟨List.Pairwise.nil, fun f hf => (by cases hf), fun p hp => (by cases hp), fun p hp => (by cases hp), fun c hc => (by cases hc), Nat.le_refl _, Nat.le_refl _, Nat.le_refl _, hq, Nat.zero_le _, Nat.zero_le _⟩
  · intro i hi
    show (if i = w.heap.size + 3 then 1 else if i = w.heap.size then 2 else if i = w.heap.size + 1 then 3 else if i = w.heap.size + 2 then 4 else 0) = 0
    rw [if_neg (by omega), if_neg (by omega), if_neg (by omega), if_neg (by omega)]
theorem new_any (q : Nat) (w : World) (hq : q ≤ 9223372036854775807) :
    Calls Tryz.prog 6 #[.int .i64 q] w fun e w' => ∃ R G, e = .returned (.pointer (some ⟨R, 0, none⟩)) ∧ DiskIs w' R (newS q) G ∧ Below w.heap.size w w' ∧ ∀ i, i < w.heap.size → G.τ i = 0 := by
  have hmm := @run_makeMap Tryz.prog
  have hqz : ¬ ((q : Int) < 0) := by omega
  have hmx : max (q : Int) 0 = q := by omega
  have NI := hide (new_is q hq w)
  go_enter Tryz.func6, Tryz.ntmps6
  go_wp2
  go_ret
  obtain ⟨G, h1, h2⟩ := NI.out
  exact ⟨_, rfl, G, h1, (((((Below.refl _ w).alloc (Nat.le_refl _) _).alloc (by simp) _).alloc (by simp; omega) _).alloc (by simp; omega) _), h2⟩
def syncDirS (S : St) : Nat × St := if (beginS S).1 ≠ 0 then beginS S else (0, settleS (beginS S).2)
set_option maxHeartbeats 400000 in
theorem syncDir_any (R : Nat) (S : St) (G : Gh) (w : World) (h : DiskIs w R S G) (hm : S.calls < 1099511627776) :
    Calls Tryz.prog 8 #[.pointer (some ⟨R, 0, none⟩)] w fun e w' => e = .returned (.int .i64 (syncDirS S).1) ∧ ∃ G', DiskIs w' R (syncDirS S).2 G' ∧ Kept G G' w w' := by
  have BG := hide (begin_any R S G none [] w h (by omega) (by simp) (fun i hi => absurd hi (Nat.not_lt_zero _)) (fun s hs => by cases hs))
  clear h
  go_enter Tryz.func8, Tryz.ntmps8
  go_wp2_with fail
  refine BG.out.mono ?_
  clear BG
  rintro e w1 (⟨hno, rfl, rfl⟩ | ⟨hyes, rfl, D1, K1⟩)
  · cases hno
  · obtain ⟨e1, S1, hb⟩ : ∃ e1 S1, beginS S = (e1, S1) := ⟨_, _, rfl⟩
    have hk := (begin_keeps S).1
    have hc0 : syncDirS S = if e1 ≠ 0 then (e1, S1) else (0, settleS S1) := by unfold syncDirS; rw [hb]
    have HC := hide hc0
    rw [hb] at D1 hk ⊢
    have HD := hide D1
    have HK := hide K1
    clear hc0 K1 D1 hyes hb
    simp only at HD hk ⊢
    have hcl : S1.calls ≤ 1099511627776 := by omega
    clear hk
    by_cases he : e1 = 0
    · subst he
      have ST := hide (settle_any R S1 G w1 HD.out.mid hcl)
      go_wp2_with fail
      refine ST.out.mono ?_
      rintro e w2 ⟨rfl, G2, D2, K2⟩
      have HD2 := hide D2
      have HK2 := hide (HK.out.trans K2)
      clear D2 K2
      go_wp2
      go_ret
      exact ⟨by rw [HC.out]; rfl, by rw [HC.out]; exact ⟨G2, HD2.out, HK2.out⟩⟩
    · have HC2 := hide (show syncDirS S = (e1, S1) by rw [HC.out, if_pos he])
      have hne : ¬ ((e1 : Int) = 0) := by omega
      go_wp2
      go_ret
      exact ⟨by rw [HC2.out]; rfl, by rw [HC2.out]; exact ⟨G, HD.out, HK.out⟩⟩

def lastF (f : Fl) : Fl := { f with lasts := f.bs.length }
def syncS (S : St) (s : ByteArray) : Nat × St :=
  if okName s = false then (10, S)
  else if (beginS S).1 ≠ 0 then beginS S
  else match fileAt (beginS S).2.files (lk (beginS S).2.names s) with
    | none => (11, (beginS S).2)
    | some f => (0, { (beginS S).2 with files := updF (beginS S).2.files f.num lastF })
theorem sync_file {R : Nat} {S : St} {G : Gh} {w : World} {f : Fl} (h : DiskIs w R S G) (hf : f ∈ S.files) :
    DiskIs (w.setCell ⟨G.β f.num, 1, none⟩ (.int .i64 f.bs.length)) R { S with files := updF S.files f.num lastF } G ∧ Kept G G w (w.setCell ⟨G.β f.num, 1, none⟩ (.int .i64 f.bs.length)) := by
  have F := h.files f hf
  obtain ⟨ao, cap, hc, hO, hbk, hcm, hB⟩ := F.cells
  refine file_turn (G' := G) (g := lastF) (fun f => rfl) h hf ((turn_set (t := 6 + 2 * f.num) _ F.tag).mono fun n hn => .inr (.inl hn)) ⟨rfl, rfl, rfl⟩ rfl (fun i hi => absurd rfl hi) ?_
  refine ⟨⟨.slice ao f.bs.length cap, ?_, ?_, hbk⟩, F.tag, F.rng, F.len, Nat.le_refl _⟩
  · show (w.setCell ⟨G.β f.num, 1, none⟩ (.int .i64 f.bs.length)).heap[G.β f.num]? = _
    rw [heap_setCell_same w _ 1 _ _ _ hc]; rfl
  · exact owns_keep (turn_set (τ := G.τ) (t := 6 + 2 * f.num) _ F.tag) hO (fun g hg => by rw [hbk g hg]; omega)
set_option maxHeartbeats 400000 in
theorem sync_any (R : Nat) (S : St) (G : Gh) (s : ByteArray) (w : World) (h : DiskIs w R S G) (hm : S.calls < 1099511627776) (hs : s.size ≤ 70368744177664) :
    Calls Tryz.prog 32 #[.pointer (some ⟨R, 0, none⟩), .string s] w fun e w' => e = .returned (.int .i64 (syncS S s).1) ∧ ∃ G', DiskIs w' R (syncS S s).2 G' ∧ Kept G G' w w' := by
  have H := hide h
  have BA := (Below.refl w.heap.size w).alloc (Nat.le_refl _) (.cells #[.string s] 9)
  have BG := hide (begin_any R S G (some ⟨w.heap.size, 0, none⟩) [s] _ (h.below BA) (by omega) (by simp) (txts_one w s) (by simpa using hs))
  have HA := hide BA
  clear h BA
  go_enter Tryz.func32, Tryz.ntmps32
  go_wp2_with fail
  refine BG.out.mono ?_
  clear BG
  generalize w.alloc (.cells #[.string s] 9) = wA at *
  rintro e w1 (⟨hno, rfl, rfl⟩ | ⟨hyes, rfl, D1, K1⟩)
  · have hc : syncS S s = (10, S) := by unfold syncS; rw [if_pos (by simpa using hno)]
    have HC := hide hc
    clear hc
    go_wp2
    go_ret
    exact ⟨by rw [HC.out]; rfl, by rw [HC.out]; exact ⟨G, H.out.below HA.out, Kept.of_below HA.out⟩⟩
  · have hy : okName s = true := by simpa using hyes
    obtain ⟨e1, S1, hb⟩ : ∃ e1 S1, beginS S = (e1, S1) := ⟨_, _, rfl⟩
    have hc0 : syncS S s = if e1 ≠ 0 then (e1, S1) else match fileAt S1.files (lk S1.names s) with | none => (11, S1) | some f => (0, { S1 with files := updF S1.files f.num lastF }) := by
      unfold syncS; rw [if_neg (by rw [hy]; simp), hb]
    have HC := hide hc0
    have KK := hide ((Kept.of_below (G := G) HA.out).trans K1)
    rw [hb] at D1 ⊢
    have HD := hide D1
    clear hc0 K1 D1 hyes hb
    simp only at HD ⊢
    by_cases he : e1 = 0
    · subst he
      have hF := hide (find_disk R S1 G s w1 HD.out hs)
      go_wp2_with fail
      refine hF.out.mono ?_
      rintro e w2 ⟨rfl, b2⟩
      have HD2 := hide (HD.out.below b2)
      have KK2 := hide (KK.out.trans (Kept.of_below b2))
      clear b2 hF KK HD
      cases hf : fileAt S1.files (lk S1.names s) with
      | none =>
        have HC2 := hide (show syncS S s = (11, S1) by rw [HC.out, hf]; rfl)
        simp only [ptrOf]
        go_wp2
        go_ret
        exact ⟨by rw [HC2.out]; rfl, by rw [HC2.out]; exact ⟨G, HD2.out, KK2.out⟩⟩
      | some f =>
        simp only [ptrOf]
        have HC2 := hide (show syncS S s = (0, { S1 with files := updF S1.files f.num lastF }) by rw [HC.out, hf]; rfl)
        have hmem := (fileAt_mem hf).1
        obtain ⟨fo, fc, hc, _⟩ := (HD2.out.files f hmem).cells
        have cf := cell_of (i := 0) hc rfl
        have cl := cell_of (i := 1) hc rfl
        simp at cf cl
        have fl := frozen_of_row w2 (G.β f.num) 1 _ _ hc
        have SF := hide (sync_file HD2.out hmem)
        clear HC hf hc
        go_wp2
        go_ret
        exact ⟨by rw [HC2.out]; rfl, by rw [HC2.out]; exact ⟨G, SF.out.1, KK2.out.trans SF.out.2⟩⟩
    · have HC2 := hide (show syncS S s = (e1, S1) by rw [HC.out, if_pos he])
      have hne : ¬ ((e1 : Int) = 0) := by omega
      go_wp2
      go_ret
      exact ⟨by rw [HC2.out]; rfl, by rw [HC2.out]; exact ⟨G, HD.out, KK.out⟩⟩

end Go.Proofs.YtdldpdllhnpdaaaGreat.Clep

/- The calls of a Disk once more, for whoever holds one beside other memory: what is marked as not the Disk's is left as it was. Bounds: fewer than 2^40 calls, names and bytes of at most 2^46. -/
namespace Go.Proofs.YtdldpdllhnpdaaaGreat.Clep
open Go.RowKit Go.Maps
set_option linter.unusedVariables false
set_option maxRecDepth 10000

/-- A Disk at R, of whose blocks none is one of F's. -/
def Held (F : Nat → Prop) (w : World) (R : Nat) (S : St) : Prop := ∃ G, DiskIs w R S G ∧ ∀ i, F i → i < w.heap.size ∧ G.τ i = 0
structure Same (F : Nat → Prop) (w w' : World) : Prop where
  os : w'.os = w.os
  tape : w'.tape = w.tape
  output : w'.output = w.output
  size : w.heap.size ≤ w'.heap.size
  block : ∀ i, F i → w'.heap[i]? = w.heap[i]?
theorem Same.refl (F : Nat → Prop) (w : World) : Same F w w := ⟨rfl, rfl, rfl, Nat.le_refl _, fun _ _ => rfl⟩
theorem Same.trans {F : Nat → Prop} {a b c : World} (h : Same F a b) (k : Same F b c) : Same F a c := ⟨k.os.trans h.os, k.tape.trans h.tape, k.output.trans h.output, Nat.le_trans h.size k.size, fun i hi => (k.block i hi).trans (h.block i hi)⟩
theorem Same.mono {F F' : Nat → Prop} {a b : World} (h : Same F a b) (hf : ∀ i, F' i → F i) : Same F' a b := ⟨h.os, h.tape, h.output, h.size, fun i hi => h.block i (hf i hi)⟩
theorem Same.below {F : Nat → Prop} {a b : World} {B : Nat} (h : Same F a b) (hf : ∀ i, i < B → F i) : Below B a b := ⟨h.os, h.tape, h.output, h.size, fun i hi => h.block i (hf i hi)⟩
theorem Held.keep {F : Nat → Prop} {w w' : World} {R : Nat} {S' : St} {G G' : Gh} (hF : ∀ i, F i → i < w.heap.size ∧ G.τ i = 0) (D : DiskIs w' R S' G') (K : Kept G G' w w') : Held F w' R S' ∧ Same F w w' :=
  ⟨⟨G', D, fun i hi => ⟨Nat.lt_of_lt_of_le (hF i hi).1 K.size, K.tag i (hF i hi).1 (hF i hi).2⟩⟩, K.os, K.tape, K.output, K.size, fun i hi => K.block i (hF i hi).1 (hF i hi).2⟩
theorem Held.same {F : Nat → Prop} {w w' : World} {R : Nat} {S : St} (h : Held F w R S) (hb : Below w.heap.size w w') : Held F w' R S ∧ Same F w w' := by
  obtain ⟨G, D, hF⟩ := h
  exact Held.keep hF (D.below hb) (Kept.of_below hb)
theorem Held.more {F : Nat → Prop} {w : World} {R : Nat} {S : St} (h : Held F w R S) (o : Obj) : Held (fun i => F i ∨ i = w.heap.size) (w.alloc o) R S := by
  obtain ⟨G, D, hF⟩ := h
  refine ⟨G, D.below ((Below.refl _ _).alloc (Nat.le_refl _) _), fun i hi => ?_⟩
  rcases hi with hi | rfl
  · exact ⟨by have := (hF i hi).1; simp; omega, (hF i hi).2⟩
  · exact ⟨by simp, D.top _ (Nat.le_refl _)⟩
theorem Held.less {F F' : Nat → Prop} {w : World} {R : Nat} {S : St} (h : Held F w R S) (hf : ∀ i, F' i → F i) : Held F' w R S := by
  obtain ⟨G, D, hF⟩ := h
  exact ⟨G, D, fun i hi => hF i (hf i hi)⟩
/-- All that is new lies beside the Disk. -/
theorem Held.wide {F : Nat → Prop} {w w' : World} {R : Nat} {S : St} (h : Held F w R S) (hb : Below w.heap.size w w') : Held (fun i => F i ∨ (w.heap.size ≤ i ∧ i < w'.heap.size)) w' R S := by
  obtain ⟨G, D, hF⟩ := h
  refine ⟨G, D.below hb, fun i hi => ?_⟩
  rcases hi with hi | hi
  · exact ⟨Nat.lt_of_lt_of_le (hF i hi).1 hb.size, (hF i hi).2⟩
  · exact ⟨hi.2, D.top _ hi.1⟩
theorem new_h (q : Nat) (w : World) (hq : q ≤ 9223372036854775807) (n : Int) (hn : n = q) :
    Calls Tryz.prog 6 #[.int .i64 n] w fun e w' => ∃ R, e = .returned (.pointer (some ⟨R, 0, none⟩)) ∧ Held (· < w.heap.size) w' R (newS q) ∧ Below w.heap.size w w' := by
  subst hn
  refine (new_any q w hq).mono ?_
  rintro e w' ⟨R, G, rfl, D, hb, ht⟩
  exact ⟨R, rfl, ⟨G, D, fun i hi => ⟨Nat.lt_of_lt_of_le hi hb.size, ht i hi⟩⟩, hb⟩
theorem create_h {F : Nat → Prop} {R : Nat} {S : St} {w : World} (s : ByteArray) {E : Nat} {S' : St} (e : createS S s = (E, S')) (h : Held F w R S) (hm : S.calls < 1099511627776) (hs : s.size ≤ 70368744177664) :
    Calls Tryz.prog 21 #[.pointer (some ⟨R, 0, none⟩), .string s] w fun e w' => e = .returned (.int .i64 E) ∧ Held F w' R S' ∧ Same F w w' := by
  obtain ⟨G, D, hF⟩ := h
  refine (create_any R S G s w D hm hs).mono ?_
  rw [e]
  rintro e w' ⟨rfl, G', D', K⟩
  exact ⟨rfl, Held.keep hF D' K⟩
theorem append_h {F : Nat → Prop} {R : Nat} {S : St} {w : World} (s : ByteArray) (ao : Option Addr) (len cap : Nat) (zs : List Int) {E : Nat} {S' : St} (e : appendS S s zs = (E, S')) (h : Held F w R S) (hm : S.calls < 1099511627776) (hs : s.size ≤ 70368744177664)
    (hb : Bs w ao len cap zs) (hl : len ≤ 70368744177664) (ht : ∀ b off, ao = some ⟨b, off, none⟩ → F b) :
    Calls Tryz.prog 28 #[.pointer (some ⟨R, 0, none⟩), .string s, .slice ao len cap] w fun e w' => e = .returned (.int .i64 E) ∧ Held F w' R S' ∧ Same F w w' := by
  obtain ⟨G, D, hF⟩ := h
  refine (append_any R S G s ao len cap zs w D hm hs hb hl (fun b off ho => ⟨(hF b (ht b off ho)).2, (hF b (ht b off ho)).1⟩)).mono ?_
  rw [e]
  rintro e w' ⟨rfl, G', D', K⟩
  exact ⟨rfl, Held.keep hF D' K⟩
theorem sync_h {F : Nat → Prop} {R : Nat} {S : St} {w : World} (s : ByteArray) {E : Nat} {S' : St} (e : syncS S s = (E, S')) (h : Held F w R S) (hm : S.calls < 1099511627776) (hs : s.size ≤ 70368744177664) :
    Calls Tryz.prog 32 #[.pointer (some ⟨R, 0, none⟩), .string s] w fun e w' => e = .returned (.int .i64 E) ∧ Held F w' R S' ∧ Same F w w' := by
  obtain ⟨G, D, hF⟩ := h
  refine (sync_any R S G s w D hm hs).mono ?_
  rw [e]
  rintro e w' ⟨rfl, G', D', K⟩
  exact ⟨rfl, Held.keep hF D' K⟩
theorem syncDir_h {F : Nat → Prop} {R : Nat} {S : St} {w : World} {E : Nat} {S' : St} (e : syncDirS S = (E, S')) (h : Held F w R S) (hm : S.calls < 1099511627776) :
    Calls Tryz.prog 8 #[.pointer (some ⟨R, 0, none⟩)] w fun e w' => e = .returned (.int .i64 E) ∧ Held F w' R S' ∧ Same F w w' := by
  obtain ⟨G, D, hF⟩ := h
  refine (syncDir_any R S G w D hm).mono ?_
  rw [e]
  rintro e w' ⟨rfl, G', D', K⟩
  exact ⟨rfl, Held.keep hF D' K⟩
theorem crash_h {F : Nat → Prop} {R : Nat} {S : St} {w : World} (ao : Option Addr) (len cap : Nat) (ks : List Int) {S' : St} (e : crashS S ks = S') (h : Held F w R S) (hm : S.calls ≤ 1099511627776) (hk : NumV F w (.slice ao len cap) ks) :
    Calls Tryz.prog 16 #[.pointer (some ⟨R, 0, none⟩), .slice ao len cap] w fun e w' => e = .returned (.tuple #[]) ∧ Held F w' R S' ∧ Same F w w' := by
  obtain ⟨G, D, hF⟩ := h
  refine (crash_any R S G ao len cap ks w D hm ?_).mono ?_
  · obtain ⟨ao', cap', e, h1, h2, h3, h4⟩ := hk
    refine ⟨ao', cap', e, h1, h2, h3, fun h0 => ?_⟩
    obtain ⟨b, off, e1, q, hc⟩ := h4 h0
    exact ⟨b, off, e1, ⟨(hF b q).2, (hF b q).1⟩, hc⟩
  · rw [e]
    rintro e w' ⟨rfl, G', D', K⟩
    exact ⟨rfl, Held.keep hF D' K⟩
theorem read_h {F : Nat → Prop} {R : Nat} {S : St} {w : World} (s : ByteArray) {E : Nat} {zs : List Int} (e : readS S s = (E, zs)) (h : Held F w R S) (hs : s.size ≤ 70368744177664) :
    Calls Tryz.prog 17 #[.pointer (some ⟨R, 0, none⟩), .string s] w fun e w' => ∃ ao cap, e = .returned (.tuple #[.slice ao zs.length cap, .int .i64 E]) ∧ Own w' w.heap.size (.slice ao zs.length cap) zs ∧ Held F w' R S ∧ Below w.heap.size w w' := by
  obtain ⟨G, D, hF⟩ := h
  refine (dread_any R S G s w D hs).mono ?_
  rw [e]
  rintro e w' ⟨ao, cap, rfl, hO, hb⟩
  exact ⟨ao, cap, rfl, hO, (Held.same ⟨G, D, hF⟩ hb).1, hb⟩
end Go.Proofs.YtdldpdllhnpdaaaGreat.Clep

/- A constant text's bytes, and a text turned into bytes: new memory beside the Disk. No conditions. -/
namespace Go.Proofs.YtdldpdllhnpdaaaGreat.Clep
open Go.RowKit Go.Maps
set_option linter.unusedVariables false
set_option maxRecDepth 10000

theorem bs_lit (w : World) (zs : List Int) (hz : ∀ z ∈ zs, 0 ≤ z ∧ z < 256) (arr : Array Value) (ha : arr = (bv zs).toArray) (L : Nat) (hL : zs.length = L) (fr : Nat × Nat) : Bs (w.alloc (.cells arr 5 fr)) (some ⟨w.heap.size, 0, none⟩) L L zs := by
  subst ha hL
  refine ⟨rfl, ⟨Nat.le_refl _, fun h => by cases h⟩, range_of hz, fun _ => ⟨w.heap.size, 0, rfl, fun i hi => ?_⟩⟩
  refine cell_of (MapKept.heap_alloc w _).1 ?_
  rw [Nat.zero_add]
  simp [bv, hi]
theorem num_lit (F : Nat → Prop) (w : World) (ks : List Int) (hk : ∀ k ∈ ks, (Lit.int .i64 k).wf = true) (arr : Array Value) (ha : arr = (ks.map (Value.int .i64)).toArray) (hF : F w.heap.size) (L : Nat) (hL : ks.length = L) (hm : L ≤ 9223372036854775807) : NumV F (w.alloc (.cells arr 3)) (.slice (some ⟨w.heap.size, 0, none⟩) L L) ks := by
  subst ha hL
  refine ⟨_, _, rfl, Nat.le_refl _, hm, hk, fun _ => ⟨w.heap.size, 0, rfl, hF, fun i hi => ?_⟩⟩
  refine cell_of (MapKept.heap_alloc w _).1 ?_
  rw [Nat.zero_add]
  simp [hi]
/-- Bytes of a constant text. -/
theorem conv_lit (w : World) (zs : List Int) (hz : ∀ z ∈ zs, 0 ≤ z ∧ z < 256) (arr : Array Value) (ha : arr = (bv zs).toArray) (L : Nat) (hL : zs.length = L) :
    ∃ w', (convert 40 40 (.slice (some ⟨w.heap.size, 0, none⟩) L L)).run Tryz.prog (w.alloc (.cells arr 5)) = .ok (.slice (some ⟨w.heap.size, 0, none⟩) L L) w' ∧
      Hid (Below w.heap.size w w') ∧ Hid (Bs w' (some ⟨w.heap.size, 0, none⟩) L L zs) ∧ Hid (w.heap.size < w'.heap.size) :=
  ⟨_, Go.Lib.run_convert_bytes_const (P := Tryz.prog) w 40 5 arr L L Tryz.underlying40 Tryz.underlying5, hide ((Below.refl _ w).alloc (Nat.le_refl _) _), hide (bs_lit w zs hz arr ha L hL _), hide (by simp)⟩
theorem dstr_bytes (w : World) (zs : List Int) (hz : ∀ z ∈ zs, 0 ≤ z ∧ z < 256) : ∃ cap w', (convert 9 40 (.string (strOfNums zs))).run Tryz.prog w = .ok (.slice (some ⟨w.heap.size, 0, none⟩) zs.length cap) w' ∧
    zs.length ≤ cap ∧ Hid (Below w.heap.size w w') ∧ Hid (Bs w' (some ⟨w.heap.size, 0, none⟩) zs.length cap zs) ∧ Hid (∀ i, i < zs.length → w'.frozen? ⟨w.heap.size, i, none⟩ = false) ∧ Hid (w.heap.size < w'.heap.size) := by
  have hs := str_size zs
  have hrun := Go.Lib.run_convert_string_bytes (P := Tryz.prog) w 9 40 5 (strOfNums zs) Tryz.underlying9 Tryz.underlying40 Tryz.underlying5
  rw [hs] at hrun
  refine ⟨_, _, hrun, grownCap_ge _ _ _ _, hide ?_, hide ?_, hide ?_, hide ?_⟩
  · refine ⟨rfl, rfl, rfl, by rw [Go.Lib.bytesWorld_size]; omega, fun k hk => Go.Lib.bytesWorld_at_old w _ _ k hk⟩
  · refine ⟨rfl, ⟨grownCap_ge _ _ _ _, fun h => by cases h⟩, range_of hz, fun _ => ⟨w.heap.size, 0, rfl, fun i hi => ?_⟩⟩
    rw [Nat.zero_add, Go.Lib.bytesWorld_cell w _ _ i (by rw [hs]; exact hi)]
    have hr := hz (zs[i]) (List.getElem_mem hi)
    simp [strOfNums, List.getD, List.getElem?_eq_getElem hi]
    omega
  · intro i hi
    simp [World.frozen?, Go.Lib.bytesWorld_at_new, Go.Lib.bytesCells, hs]
    omega
  · rw [Go.Lib.bytesWorld_size]; omega

end Go.Proofs.YtdldpdllhnpdaaaGreat.Clep
