/- What New, SyncDir and Sync of a Disk do when called (walks over the translated program): for any quota, any Disk of fewer than 2^40 calls, any name of at most 2^46 bytes. -/
import Derived.Test.YtdldpdllhnpdaabYe
import Derived.Lib.SlBytesConst
import Derived.Lib.ConvBytes
namespace Go.Proofs.Ytdldpdllhnpdaab.Clep
open Go.RowKit Go.Maps
set_option linter.unusedVariables false
set_option maxRecDepth 10000

def newS (q : Nat) : St := ⟨q, 0, 0, 0, false, 0, [], .map [], .map [], []⟩
theorem new_is (q : Nat) (hq : q ≤ 9223372036854775807) (w : World) : ∃ G, DiskIs ((((w.alloc (.map #[] 0)).alloc (.map #[] 0)).alloc (.map #[] 0)).alloc (.cells #[.int .i64 q, .int .i64 0, .int .i64 0, .int .i64 0, .bool false, .int .i64 0, .map (some w.heap.size), .map (some (w.heap.size + 1)), .map (some (w.heap.size + 2)), .slice none 0 0] 51)) (w.heap.size + 3) (newS q) G ∧ ∀ i, i < w.heap.size → G.τ i = 0 := by
  have hm := fun W : World => MapKept.heap_alloc W
  have h1 := World.ownsMap_made w Try.prog 3 ptrElem
  have h2 := World.ownsMap_made (w.alloc (.map #[] 0)) Try.prog 9 (plainElem (H := Unit) Try.prog 3)
  have h3 := World.ownsMap_made ((w.alloc (.map #[] 0)).alloc (.map #[] 0)) Try.prog 9 (plainElem (H := Unit) Try.prog 3)
  simp only [World.size_alloc] at h2 h3
  refine ⟨⟨w.heap.size, w.heap.size + 1, w.heap.size + 2, .slice none 0 0, fun _ => 0, fun i => if i = w.heap.size + 3 then 1 else if i = w.heap.size then 2 else if i = w.heap.size + 1 then 3 else if i = w.heap.size + 2 then 4 else 0⟩, ⟨?_, ⟨_, tight (((h1.alloc _).alloc _).alloc _), ?_, Nat.zero_le _⟩, tight ((h2.alloc _).alloc _), tight (h3.alloc _), ⟨rfl, .inl ⟨rfl, rfl⟩⟩, fun f hf => (by cases hf), ?_, ?_, ?_, ?_, fun g hg => (by cases hg), ?_, ?_⟩, ?_⟩
  · have := (hm (((w.alloc (.map #[] 0)).alloc (.map #[] 0)).alloc (.map #[] 0)) (.cells #[.int .i64 q, .int .i64 0, .int .i64 0, .int .i64 0, .bool false, .int .i64 0, .map (some w.heap.size), .map (some (w.heap.size + 1)), .map (some (w.heap.size + 2)), .slice none 0 0] 51)).1
    simp only [World.size_alloc] at this
    exact this
  · intro k
    exact ⟨rfl, rfl⟩
  · simp
  · simp
  · simp
  · simp
  · intro i hi
    simp only [World.size_alloc] at hi
    show (if i = w.heap.size + 3 then 1 else if i = w.heap.size then 2 else if i = w.heap.size + 1 then 3 else if i = w.heap.size + 2 then 4 else 0) = 0
    rw [if_neg (by omega), if_neg (by omega), if_neg (by omega), if_neg (by omega)]
  · exact ⟨List.Pairwise.nil, fun f hf => (by cases hf), fun p hp => (by cases hp), fun p hp => (by cases hp), fun c hc => (by cases hc), Nat.le_refl _, Nat.le_refl _, Nat.le_refl _, hq, Nat.zero_le _, Nat.zero_le _⟩
  · intro i hi
    show (if i = w.heap.size + 3 then 1 else if i = w.heap.size then 2 else if i = w.heap.size + 1 then 3 else if i = w.heap.size + 2 then 4 else 0) = 0
    rw [if_neg (by omega), if_neg (by omega), if_neg (by omega), if_neg (by omega)]
theorem new_any (q : Nat) (w : World) (hq : q ≤ 9223372036854775807) :
    Calls Try.prog 4 #[.int .i64 q] w fun e w' => ∃ R G, e = .returned (.pointer (some ⟨R, 0, none⟩)) ∧ DiskIs w' R (newS q) G ∧ Below w.heap.size w w' ∧ ∀ i, i < w.heap.size → G.τ i = 0 := by
  have hmm := @run_makeMap Try.prog
  have hqz : ¬ ((q : Int) < 0) := by omega
  have hmx : max (q : Int) 0 = q := by omega
  have NI := hide (new_is q hq w)
  go_enter Try.func4, Try.ntmps4
  go_wp2
  go_ret
  obtain ⟨G, h1, h2⟩ := NI.out
  exact ⟨_, rfl, G, h1, (((((Below.refl _ w).alloc (Nat.le_refl _) _).alloc (by simp) _).alloc (by simp; omega) _).alloc (by simp; omega) _), h2⟩
def syncDirS (S : St) : Nat × St := if (beginS S).1 ≠ 0 then beginS S else (0, settleS (beginS S).2)
def lastF (f : Fl) : Fl := { f with lasts := f.bs.length }
def syncS (S : St) (s : ByteArray) : Nat × St :=
  if okName s = false then (10, S)
  else if (beginS S).1 ≠ 0 then beginS S
  else match fileAt (beginS S).2.files (lk (beginS S).2.names s) with
    | none => (11, (beginS S).2)
    | some f => (0, { (beginS S).2 with files := updF (beginS S).2.files f.num lastF })
theorem sync_file {R : Nat} {S : St} {G : Gh} {w : World} {f : Fl} (h : DiskIs w R S G) (hf : f ∈ S.files) :
    DiskIs (w.setCell ⟨G.β f.num, 1, none⟩ (.int .i64 f.bs.length)) R { S with files := updF S.files f.num lastF } G ∧ Kept G G w (w.setCell ⟨G.β f.num, 1, none⟩ (.int .i64 f.bs.length)) := by
  have F := h.files f hf
  obtain ⟨ao, cap, hc, hO, hbk, hcm, hB⟩ := F.cells
  refine file_turn (G' := G) (g := lastF) (fun f => rfl) h hf ((turn_set (t := 6 + 2 * f.num) _ F.tag).mono fun n hn => .inr (.inl hn)) ⟨rfl, rfl, rfl⟩ rfl (fun i hi => absurd rfl hi) ?_
  refine ⟨⟨.slice ao f.bs.length cap, ?_, ?_, hbk⟩, F.tag, F.rng, F.len, Nat.le_refl _⟩
  · show (w.setCell ⟨G.β f.num, 1, none⟩ (.int .i64 f.bs.length)).heap[G.β f.num]? = _
    rw [heap_setCell_same w _ 1 _ _ _ hc]; rfl
  · exact owns_keep (turn_set (τ := G.τ) (t := 6 + 2 * f.num) _ F.tag) hO (fun g hg => by rw [hbk g hg]; omega)
end Go.Proofs.Ytdldpdllhnpdaab.Clep

/- The calls of a Disk once more, for whoever holds one beside other memory: what is marked as not the Disk's is left as it was. Bounds: fewer than 2^40 calls, names and bytes of at most 2^46. -/
namespace Go.Proofs.Ytdldpdllhnpdaab.Clep
open Go.RowKit Go.Maps
set_option linter.unusedVariables false
set_option maxRecDepth 10000

/-- A Disk at R, of whose blocks none is one of F's. -/
def Held (F : Nat → Prop) (w : World) (R : Nat) (S : St) : Prop := ∃ G, DiskIs w R S G ∧ ∀ i, F i → i < w.heap.size ∧ G.τ i = 0
structure Same (F : Nat → Prop) (w w' : World) : Prop where
  os : w'.os = w.os
  tape : w'.tape = w.tape
  output : w'.output = w.output
  size : w.heap.size ≤ w'.heap.size
  block : ∀ i, F i → w'.heap[i]? = w.heap[i]?
theorem Same.refl (F : Nat → Prop) (w : World) : Same F w w := ⟨rfl, rfl, rfl, Nat.le_refl _, fun _ _ => rfl⟩
theorem Same.trans {F : Nat → Prop} {a b c : World} (h : Same F a b) (k : Same F b c) : Same F a c := ⟨k.os.trans h.os, k.tape.trans h.tape, k.output.trans h.output, Nat.le_trans h.size k.size, fun i hi => (k.block i hi).trans (h.block i hi)⟩
theorem Same.mono {F F' : Nat → Prop} {a b : World} (h : Same F a b) (hf : ∀ i, F' i → F i) : Same F' a b := ⟨h.os, h.tape, h.output, h.size, fun i hi => h.block i (hf i hi)⟩
theorem Same.below {F : Nat → Prop} {a b : World} {B : Nat} (h : Same F a b) (hf : ∀ i, i < B → F i) : Below B a b := ⟨h.os, h.tape, h.output, h.size, fun i hi => h.block i (hf i hi)⟩
theorem Held.keep {F : Nat → Prop} {w w' : World} {R : Nat} {S' : St} {G G' : Gh} (hF : ∀ i, F i → i < w.heap.size ∧ G.τ i = 0) (D : DiskIs w' R S' G') (K : Kept G G' w w') : Held F w' R S' ∧ Same F w w' :=
  ⟨⟨G', D, fun i hi => ⟨Nat.lt_of_lt_of_le (hF i hi).1 K.size, K.tag i (hF i hi).1 (hF i hi).2⟩⟩, K.os, K.tape, K.output, K.size, fun i hi => K.block i (hF i hi).1 (hF i hi).2⟩
theorem Held.same {F : Nat → Prop} {w w' : World} {R : Nat} {S : St} (h : Held F w R S) (hb : Below w.heap.size w w') : Held F w' R S ∧ Same F w w' := by
  obtain ⟨G, D, hF⟩ := h
  exact Held.keep hF (D.below hb) (Kept.of_below hb)
theorem Held.more {F : Nat → Prop} {w : World} {R : Nat} {S : St} (h : Held F w R S) (o : Obj) : Held (fun i => F i ∨ i = w.heap.size) (w.alloc o) R S := by
  obtain ⟨G, D, hF⟩ := h
  refine ⟨G, D.below ((Below.refl _ _).alloc (Nat.le_refl _) _), fun i hi => ?_⟩
  rcases hi with hi | rfl
  · exact ⟨by have := (hF i hi).1; simp; omega, (hF i hi).2⟩
  · exact ⟨by simp, D.top _ (Nat.le_refl _)⟩
theorem Held.less {F F' : Nat → Prop} {w : World} {R : Nat} {S : St} (h : Held F w R S) (hf : ∀ i, F' i → F i) : Held F' w R S := by
  obtain ⟨G, D, hF⟩ := h
  exact ⟨G, D, fun i hi => hF i (hf i hi)⟩
/-- All that is new lies beside the Disk. -/
theorem Held.wide {F : Nat → Prop} {w w' : World} {R : Nat} {S : St} (h : Held F w R S) (hb : Below w.heap.size w w') : Held (fun i => F i ∨ (w.heap.size ≤ i ∧ i < w'.heap.size)) w' R S := by
  obtain ⟨G, D, hF⟩ := h
  refine ⟨G, D.below hb, fun i hi => ?_⟩
  rcases hi with hi | hi
  · exact ⟨Nat.lt_of_lt_of_le (hF i hi).1 hb.size, (hF i hi).2⟩
  · exact ⟨hi.2, D.top _ hi.1⟩
theorem new_h (q : Nat) (w : World) (hq : q ≤ 9223372036854775807) (n : Int) (hn : n = q) :
    Calls Try.prog 4 #[.int .i64 n] w fun e w' => ∃ R, e = .returned (.pointer (some ⟨R, 0, none⟩)) ∧ Held (· < w.heap.size) w' R (newS q) ∧ Below w.heap.size w w' := by
  subst hn
  refine (new_any q w hq).mono ?_
  rintro e w' ⟨R, G, rfl, D, hb, ht⟩
  exact ⟨R, rfl, ⟨G, D, fun i hi => ⟨Nat.lt_of_lt_of_le hi hb.size, ht i hi⟩⟩, hb⟩
theorem create_h {F : Nat → Prop} {R : Nat} {S : St} {w : World} (s : ByteArray) {E : Nat} {S' : St} (e : createS S s = (E, S')) (h : Held F w R S) (hm : S.calls < 1099511627776) (hs : s.size ≤ 70368744177664) :
    Calls Try.prog 5 #[.pointer (some ⟨R, 0, none⟩), .string s] w fun e w' => e = .returned (.int .i64 E) ∧ Held F w' R S' ∧ Same F w w' := by
  obtain ⟨G, D, hF⟩ := h
  refine (create_any R S G s w D hm hs).mono ?_
  rw [e]
  rintro e w' ⟨rfl, G', D', K⟩
  exact ⟨rfl, Held.keep hF D' K⟩
theorem append_h0 {F : Nat → Prop} {R : Nat} {S : St} {w : World} (s : ByteArray) (ao : Option Addr) (len cap : Nat) (zs : List Int) {E : Nat} {S' : St} (e : appendS S s zs = (E, S')) (h : Held F w R S) (hm : S.calls < 1099511627776) (hs : s.size ≤ 70368744177664)
    (hb : Bs w ao len cap zs) (hl : len ≤ 70368744177664) (ht : 0 < len → ∀ b off, ao = some ⟨b, off, none⟩ → F b) :
    Calls Try.prog 6 #[.pointer (some ⟨R, 0, none⟩), .string s, .slice ao len cap] w fun e w' => e = .returned (.int .i64 E) ∧ Held F w' R S' ∧ Same F w w' := by
  obtain ⟨G, D, hF⟩ := h
  refine (append_any R S G s ao len cap zs w D hm hs hb hl (fun h0 b off ho => ⟨(hF b (ht h0 b off ho)).2, (hF b (ht h0 b off ho)).1⟩)).mono ?_
  rw [e]
  rintro e w' ⟨rfl, G', D', K⟩
  exact ⟨rfl, Held.keep hF D' K⟩
theorem append_h {F : Nat → Prop} {R : Nat} {S : St} {w : World} (s : ByteArray) (ao : Option Addr) (len cap : Nat) (zs : List Int) {E : Nat} {S' : St} (e : appendS S s zs = (E, S')) (h : Held F w R S) (hm : S.calls < 1099511627776) (hs : s.size ≤ 70368744177664)
    (hb : Bs w ao len cap zs) (hl : len ≤ 70368744177664) (ht : ∀ b off, ao = some ⟨b, off, none⟩ → F b) :
    Calls Try.prog 6 #[.pointer (some ⟨R, 0, none⟩), .string s, .slice ao len cap] w fun e w' => e = .returned (.int .i64 E) ∧ Held F w' R S' ∧ Same F w w' :=
  append_h0 s ao len cap zs e h hm hs hb hl (fun _ => ht)
theorem read_h {F : Nat → Prop} {R : Nat} {S : St} {w : World} (s : ByteArray) {E : Nat} {zs : List Int} (e : readS S s = (E, zs)) (h : Held F w R S) (hs : s.size ≤ 70368744177664) :
    Calls Try.prog 12 #[.pointer (some ⟨R, 0, none⟩), .string s] w fun e w' => ∃ ao cap, e = .returned (.tuple #[.slice ao zs.length cap, .int .i64 E]) ∧ Own w' w.heap.size (.slice ao zs.length cap) zs ∧ Held F w' R S ∧ Below w.heap.size w w' := by
  obtain ⟨G, D, hF⟩ := h
  refine (dread_any R S G s w D hs).mono ?_
  rw [e]
  rintro e w' ⟨ao, cap, rfl, hO, hb⟩
  exact ⟨ao, cap, rfl, hO, (Held.same ⟨G, D, hF⟩ hb).1, hb⟩
end Go.Proofs.Ytdldpdllhnpdaab.Clep

/- A constant text's bytes, and a text turned into bytes: new memory beside the Disk. No conditions. -/
namespace Go.Proofs.Ytdldpdllhnpdaab.Clep
open Go.RowKit Go.Maps
set_option linter.unusedVariables false
set_option maxRecDepth 10000

theorem bs_lit (w : World) (zs : List Int) (hz : ∀ z ∈ zs, 0 ≤ z ∧ z < 256) (arr : Array Value) (ha : arr = (bv zs).toArray) (L : Nat) (hL : zs.length = L) (fr : Nat × Nat) : Bs (w.alloc (.cells arr 5 fr)) (some ⟨w.heap.size, 0, none⟩) L L zs := by
  subst ha hL
  refine ⟨rfl, ⟨Nat.le_refl _, fun h => by cases h⟩, range_of hz, fun _ => ⟨w.heap.size, 0, rfl, fun i hi => ?_⟩⟩
  refine cell_of (MapKept.heap_alloc w _).1 ?_
  rw [Nat.zero_add]
  simp [bv, hi]
theorem num_lit (F : Nat → Prop) (w : World) (ks : List Int) (hk : ∀ k ∈ ks, (Lit.int .i64 k).wf = true) (arr : Array Value) (ha : arr = (ks.map (Value.int .i64)).toArray) (hF : F w.heap.size) (L : Nat) (hL : ks.length = L) (hm : L ≤ 9223372036854775807) : NumV F (w.alloc (.cells arr 3)) (.slice (some ⟨w.heap.size, 0, none⟩) L L) ks := by
  subst ha hL
  refine ⟨_, _, rfl, Nat.le_refl _, hm, hk, fun _ => ⟨w.heap.size, 0, rfl, hF, fun i hi => ?_⟩⟩
  refine cell_of (MapKept.heap_alloc w _).1 ?_
  rw [Nat.zero_add]
  simp [hi]
/-- Bytes of a constant text. -/
theorem conv_lit (w : World) (zs : List Int) (hz : ∀ z ∈ zs, 0 ≤ z ∧ z < 256) (arr : Array Value) (ha : arr = (bv zs).toArray) (L : Nat) (hL : zs.length = L) :
    ∃ w', (convert 22 22 (.slice (some ⟨w.heap.size, 0, none⟩) L L)).run Try.prog (w.alloc (.cells arr 5)) = .ok (.slice (some ⟨w.heap.size, 0, none⟩) L L) w' ∧
      Hid (Below w.heap.size w w') ∧ Hid (Bs w' (some ⟨w.heap.size, 0, none⟩) L L zs) ∧ Hid (w.heap.size < w'.heap.size) :=
  ⟨_, Go.Lib.run_convert_bytes_const (P := Try.prog) w 22 5 arr L L Try.underlying22 Try.underlying5, hide ((Below.refl _ w).alloc (Nat.le_refl _) _), hide (bs_lit w zs hz arr ha L hL _), hide (by simp)⟩
theorem dstr_bytes (w : World) (zs : List Int) (hz : ∀ z ∈ zs, 0 ≤ z ∧ z < 256) : ∃ cap w', (convert 9 22 (.string (strOfNums zs))).run Try.prog w = .ok (.slice (some ⟨w.heap.size, 0, none⟩) zs.length cap) w' ∧
    zs.length ≤ cap ∧ Hid (Below w.heap.size w w') ∧ Hid (Bs w' (some ⟨w.heap.size, 0, none⟩) zs.length cap zs) ∧ Hid (∀ i, i < zs.length → w'.frozen? ⟨w.heap.size, i, none⟩ = false) ∧ Hid (w.heap.size < w'.heap.size) := by
  have hs := str_size zs
  have hrun := Go.Lib.run_convert_string_bytes (P := Try.prog) w 9 22 5 (strOfNums zs) Try.underlying9 Try.underlying22 Try.underlying5
  rw [hs] at hrun
  refine ⟨_, _, hrun, grownCap_ge _ _ _ _, hide ?_, hide ?_, hide ?_, hide ?_⟩
  · refine ⟨rfl, rfl, rfl, by rw [Go.Lib.bytesWorld_size]; omega, fun k hk => Go.Lib.bytesWorld_at_old w _ _ k hk⟩
  · refine ⟨rfl, ⟨grownCap_ge _ _ _ _, fun h => by cases h⟩, range_of hz, fun _ => ⟨w.heap.size, 0, rfl, fun i hi => ?_⟩⟩
    rw [Nat.zero_add, Go.Lib.bytesWorld_cell w _ _ i (by rw [hs]; exact hi)]
    have hr := hz (zs[i]) (List.getElem_mem hi)
    simp [strOfNums, List.getD, List.getElem?_eq_getElem hi]
    omega
  · intro i hi
    simp [World.frozen?, Go.Lib.bytesWorld_at_new, Go.Lib.bytesCells, hs]
    omega
  · rw [Go.Lib.bytesWorld_size]; omega

end Go.Proofs.Ytdldpdllhnpdaab.Clep
