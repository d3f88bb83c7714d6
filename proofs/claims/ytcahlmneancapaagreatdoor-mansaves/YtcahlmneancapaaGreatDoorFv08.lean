/- The calls of a Disk once more, for whoever holds one beside other memory: what is marked as not the Disk's is left as it was. Bounds: fewer than 2^40 calls, names and bytes of at most 2^46. -/
import Derived.Test.YtcahlmneancapaaGreatDoorFv07
import Derived.Lib.SlBytesConst
import Derived.Lib.ConvBytes
namespace Go.Proofs.YtcahlmneancapaaGreatDoor.Clep
open Go.RowKit Go.Maps
set_option linter.unusedVariables false
set_option maxRecDepth 10000

/-- A Disk at R, of whose blocks none is one of F's. -/
def Held (F : Nat → Prop) (w : World) (R : Nat) (S : St) : Prop := ∃ G, DiskIs w R S G ∧ ∀ i, F i → i < w.heap.size ∧ G.τ i = 0
structure Same (F : Nat → Prop) (w w' : World) : Prop where
  os : w'.os = w.os
  tape : w'.tape = w.tape
  output : w'.output = w.output
  size : w.heap.size ≤ w'.heap.size
  block : ∀ i, F i → w'.heap[i]? = w.heap[i]?
theorem Same.refl (F : Nat → Prop) (w : World) : Same F w w := ⟨rfl, rfl, rfl, Nat.le_refl _, fun _ _ => rfl⟩
theorem Same.trans {F : Nat → Prop} {a b c : World} (h : Same F a b) (k : Same F b c) : Same F a c := ⟨k.os.trans h.os, k.tape.trans h.tape, k.output.trans h.output, Nat.le_trans h.size k.size, fun i hi => (k.block i hi).trans (h.block i hi)⟩
theorem Same.mono {F F' : Nat → Prop} {a b : World} (h : Same F a b) (hf : ∀ i, F' i → F i) : Same F' a b := ⟨h.os, h.tape, h.output, h.size, fun i hi => h.block i (hf i hi)⟩
theorem Same.below {F : Nat → Prop} {a b : World} {B : Nat} (h : Same F a b) (hf : ∀ i, i < B → F i) : Below B a b := ⟨h.os, h.tape, h.output, h.size, fun i hi => h.block i (hf i hi)⟩
theorem Held.keep {F : Nat → Prop} {w w' : World} {R : Nat} {S' : St} {G G' : Gh} (hF : ∀ i, F i → i < w.heap.size ∧ G.τ i = 0) (D : DiskIs w' R S' G') (K : Kept G G' w w') : Held F w' R S' ∧ Same F w w' :=
  ⟨⟨G', D, fun i hi => ⟨Nat.lt_of_lt_of_le (hF i hi).1 K.size, K.tag i (hF i hi).1 (hF i hi).2⟩⟩, K.os, K.tape, K.output, K.size, fun i hi => K.block i (hF i hi).1 (hF i hi).2⟩
theorem Held.same {F : Nat → Prop} {w w' : World} {R : Nat} {S : St} (h : Held F w R S) (hb : Below w.heap.size w w') : Held F w' R S ∧ Same F w w' := by
  obtain ⟨G, D, hF⟩ := h
  exact Held.keep hF (D.below hb) (Kept.of_below hb)
theorem Held.more {F : Nat → Prop} {w : World} {R : Nat} {S : St} (h : Held F w R S) (o : Obj) : Held (fun i => F i ∨ i = w.heap.size) (w.alloc o) R S := by
  obtain ⟨G, D, hF⟩ := h
  refine ⟨G, D.below ((Below.refl _ _).alloc (Nat.le_refl _) _), fun i hi => ?_⟩
  rcases hi with hi | rfl
  · exact ⟨by have := (hF i hi).1; simp; omega, (hF i hi).2⟩
  · exact ⟨by simp, D.top _ (Nat.le_refl _)⟩
theorem Held.less {F F' : Nat → Prop} {w : World} {R : Nat} {S : St} (h : Held F w R S) (hf : ∀ i, F' i → F i) : Held F' w R S := by
  obtain ⟨G, D, hF⟩ := h
  exact ⟨G, D, fun i hi => hF i (hf i hi)⟩
/-- All that is new lies beside the Disk. -/
theorem Held.wide {F : Nat → Prop} {w w' : World} {R : Nat} {S : St} (h : Held F w R S) (hb : Below w.heap.size w w') : Held (fun i => F i ∨ (w.heap.size ≤ i ∧ i < w'.heap.size)) w' R S := by
  obtain ⟨G, D, hF⟩ := h
  refine ⟨G, D.below hb, fun i hi => ?_⟩
  rcases hi with hi | hi
  · exact ⟨Nat.lt_of_lt_of_le (hF i hi).1 hb.size, (hF i hi).2⟩
  · exact ⟨hi.2, D.top _ hi.1⟩
theorem new_h (q : Nat) (w : World) (hq : q ≤ 9223372036854775807) (n : Int) (hn : n = q) :
    Calls Tryz.prog 9 #[.int .i64 n] w fun e w' => ∃ R, e = .returned (.pointer (some ⟨R, 0, none⟩)) ∧ Held (· < w.heap.size) w' R (newS q) ∧ Below w.heap.size w w' := by
  subst hn
  refine (new_any q w hq).mono ?_
  rintro e w' ⟨R, G, rfl, D, hb, ht⟩
  exact ⟨R, rfl, ⟨G, D, fun i hi => ⟨Nat.lt_of_lt_of_le hi hb.size, ht i hi⟩⟩, hb⟩
theorem create_h {F : Nat → Prop} {R : Nat} {S : St} {w : World} (s : ByteArray) {E : Nat} {S' : St} (e : createS S s = (E, S')) (h : Held F w R S) (hm : S.calls < 1099511627776) (hs : s.size ≤ 70368744177664) :
    Calls Tryz.prog 21 #[.pointer (some ⟨R, 0, none⟩), .string s] w fun e w' => e = .returned (.int .i64 E) ∧ Held F w' R S' ∧ Same F w w' := by
  obtain ⟨G, D, hF⟩ := h
  refine (create_any R S G s w D hm hs).mono ?_
  rw [e]
  rintro e w' ⟨rfl, G', D', K⟩
  exact ⟨rfl, Held.keep hF D' K⟩
theorem append_h0 {F : Nat → Prop} {R : Nat} {S : St} {w : World} (s : ByteArray) (ao : Option Addr) (len cap : Nat) (zs : List Int) {E : Nat} {S' : St} (e : appendS S s zs = (E, S')) (h : Held F w R S) (hm : S.calls < 1099511627776) (hs : s.size ≤ 70368744177664)
    (hb : Bs w ao len cap zs) (hl : len ≤ 70368744177664) (ht : 0 < len → ∀ b off, ao = some ⟨b, off, none⟩ → F b) :
    Calls Tryz.prog 22 #[.pointer (some ⟨R, 0, none⟩), .string s, .slice ao len cap] w fun e w' => e = .returned (.int .i64 E) ∧ Held F w' R S' ∧ Same F w w' := by
  obtain ⟨G, D, hF⟩ := h
  refine (append_any R S G s ao len cap zs w D hm hs hb hl (fun h0 b off ho => ⟨(hF b (ht h0 b off ho)).2, (hF b (ht h0 b off ho)).1⟩)).mono ?_
  rw [e]
  rintro e w' ⟨rfl, G', D', K⟩
  exact ⟨rfl, Held.keep hF D' K⟩
theorem append_h {F : Nat → Prop} {R : Nat} {S : St} {w : World} (s : ByteArray) (ao : Option Addr) (len cap : Nat) (zs : List Int) {E : Nat} {S' : St} (e : appendS S s zs = (E, S')) (h : Held F w R S) (hm : S.calls < 1099511627776) (hs : s.size ≤ 70368744177664)
    (hb : Bs w ao len cap zs) (hl : len ≤ 70368744177664) (ht : ∀ b off, ao = some ⟨b, off, none⟩ → F b) :
    Calls Tryz.prog 22 #[.pointer (some ⟨R, 0, none⟩), .string s, .slice ao len cap] w fun e w' => e = .returned (.int .i64 E) ∧ Held F w' R S' ∧ Same F w w' :=
  append_h0 s ao len cap zs e h hm hs hb hl (fun _ => ht)
theorem sync_h {F : Nat → Prop} {R : Nat} {S : St} {w : World} (s : ByteArray) {E : Nat} {S' : St} (e : syncS S s = (E, S')) (h : Held F w R S) (hm : S.calls < 1099511627776) (hs : s.size ≤ 70368744177664) :
    Calls Tryz.prog 40 #[.pointer (some ⟨R, 0, none⟩), .string s] w fun e w' => e = .returned (.int .i64 E) ∧ Held F w' R S' ∧ Same F w w' := by
  obtain ⟨G, D, hF⟩ := h
  refine (sync_any R S G s w D hm hs).mono ?_
  rw [e]
  rintro e w' ⟨rfl, G', D', K⟩
  exact ⟨rfl, Held.keep hF D' K⟩
theorem syncDir_h {F : Nat → Prop} {R : Nat} {S : St} {w : World} {E : Nat} {S' : St} (e : syncDirS S = (E, S')) (h : Held F w R S) (hm : S.calls < 1099511627776) :
    Calls Tryz.prog 74 #[.pointer (some ⟨R, 0, none⟩)] w fun e w' => e = .returned (.int .i64 E) ∧ Held F w' R S' ∧ Same F w w' := by
  obtain ⟨G, D, hF⟩ := h
  refine (syncDir_any R S G w D hm).mono ?_
  rw [e]
  rintro e w' ⟨rfl, G', D', K⟩
  exact ⟨rfl, Held.keep hF D' K⟩
theorem crash_h {F : Nat → Prop} {R : Nat} {S : St} {w : World} (ao : Option Addr) (len cap : Nat) (ks : List Int) {S' : St} (e : crashS S ks = S') (h : Held F w R S) (hm : S.calls ≤ 1099511627776) (hk : NumV F w (.slice ao len cap) ks) :
    Calls Tryz.prog 29 #[.pointer (some ⟨R, 0, none⟩), .slice ao len cap] w fun e w' => e = .returned (.tuple #[]) ∧ Held F w' R S' ∧ Same F w w' := by
  obtain ⟨G, D, hF⟩ := h
  refine (crash_any R S G ao len cap ks w D hm ?_).mono ?_
  · obtain ⟨ao', cap', e, h1, h2, h3, h4⟩ := hk
    refine ⟨ao', cap', e, h1, h2, h3, fun h0 => ?_⟩
    obtain ⟨b, off, e1, q, hc⟩ := h4 h0
    exact ⟨b, off, e1, ⟨(hF b q).2, (hF b q).1⟩, hc⟩
  · rw [e]
    rintro e w' ⟨rfl, G', D', K⟩
    exact ⟨rfl, Held.keep hF D' K⟩
theorem read_h {F : Nat → Prop} {R : Nat} {S : St} {w : World} (s : ByteArray) {E : Nat} {zs : List Int} (e : readS S s = (E, zs)) (h : Held F w R S) (hs : s.size ≤ 70368744177664) :
    Calls Tryz.prog 18 #[.pointer (some ⟨R, 0, none⟩), .string s] w fun e w' => ∃ ao cap, e = .returned (.tuple #[.slice ao zs.length cap, .int .i64 E]) ∧ Own w' w.heap.size (.slice ao zs.length cap) zs ∧ Held F w' R S ∧ Below w.heap.size w w' := by
  obtain ⟨G, D, hF⟩ := h
  refine (dread_any R S G s w D hs).mono ?_
  rw [e]
  rintro e w' ⟨ao, cap, rfl, hO, hb⟩
  exact ⟨ao, cap, rfl, hO, (Held.same ⟨G, D, hF⟩ hb).1, hb⟩
end Go.Proofs.YtcahlmneancapaaGreatDoor.Clep

/- A constant text's bytes, and a text turned into bytes: new memory beside the Disk. No conditions. -/
namespace Go.Proofs.YtcahlmneancapaaGreatDoor.Clep
open Go.RowKit Go.Maps
set_option linter.unusedVariables false
set_option maxRecDepth 10000

theorem bs_lit (w : World) (zs : List Int) (hz : ∀ z ∈ zs, 0 ≤ z ∧ z < 256) (arr : Array Value) (ha : arr = (bv zs).toArray) (L : Nat) (hL : zs.length = L) (fr : Nat × Nat) : Bs (w.alloc (.cells arr 5 fr)) (some ⟨w.heap.size, 0, none⟩) L L zs := by
  subst ha hL
  refine ⟨rfl, ⟨Nat.le_refl _, fun h => by cases h⟩, range_of hz, fun _ => ⟨w.heap.size, 0, rfl, fun i hi => ?_⟩⟩
  refine cell_of (MapKept.heap_alloc w _).1 ?_
  rw [Nat.zero_add]
  simp [bv, hi]
theorem num_lit (F : Nat → Prop) (w : World) (ks : List Int) (hk : ∀ k ∈ ks, (Lit.int .i64 k).wf = true) (arr : Array Value) (ha : arr = (ks.map (Value.int .i64)).toArray) (hF : F w.heap.size) (L : Nat) (hL : ks.length = L) (hm : L ≤ 9223372036854775807) : NumV F (w.alloc (.cells arr 3)) (.slice (some ⟨w.heap.size, 0, none⟩) L L) ks := by
  subst ha hL
  refine ⟨_, _, rfl, Nat.le_refl _, hm, hk, fun _ => ⟨w.heap.size, 0, rfl, hF, fun i hi => ?_⟩⟩
  refine cell_of (MapKept.heap_alloc w _).1 ?_
  rw [Nat.zero_add]
  simp [hi]
/-- Bytes of a constant text. -/
theorem conv_lit (w : World) (zs : List Int) (hz : ∀ z ∈ zs, 0 ≤ z ∧ z < 256) (arr : Array Value) (ha : arr = (bv zs).toArray) (L : Nat) (hL : zs.length = L) :
    ∃ w', (convert 44 44 (.slice (some ⟨w.heap.size, 0, none⟩) L L)).run Tryz.prog (w.alloc (.cells arr 5)) = .ok (.slice (some ⟨w.heap.size, 0, none⟩) L L) w' ∧
      Hid (Below w.heap.size w w') ∧ Hid (Bs w' (some ⟨w.heap.size, 0, none⟩) L L zs) ∧ Hid (w.heap.size < w'.heap.size) :=
  ⟨_, Go.Lib.run_convert_bytes_const (P := Tryz.prog) w 44 5 arr L L Tryz.underlying44 Tryz.underlying5, hide ((Below.refl _ w).alloc (Nat.le_refl _) _), hide (bs_lit w zs hz arr ha L hL _), hide (by simp)⟩
theorem dstr_bytes (w : World) (zs : List Int) (hz : ∀ z ∈ zs, 0 ≤ z ∧ z < 256) : ∃ cap w', (convert 9 44 (.string (strOfNums zs))).run Tryz.prog w = .ok (.slice (some ⟨w.heap.size, 0, none⟩) zs.length cap) w' ∧
    zs.length ≤ cap ∧ Hid (Below w.heap.size w w') ∧ Hid (Bs w' (some ⟨w.heap.size, 0, none⟩) zs.length cap zs) ∧ Hid (∀ i, i < zs.length → w'.frozen? ⟨w.heap.size, i, none⟩ = false) ∧ Hid (w.heap.size < w'.heap.size) := by
  have hs := str_size zs
  have hrun := Go.Lib.run_convert_string_bytes (P := Tryz.prog) w 9 44 5 (strOfNums zs) Tryz.underlying9 Tryz.underlying44 Tryz.underlying5
  rw [hs] at hrun
  refine ⟨_, _, hrun, grownCap_ge _ _ _ _, hide ?_, hide ?_, hide ?_, hide ?_⟩
  · refine ⟨rfl, rfl, rfl, by rw [Go.Lib.bytesWorld_size]; omega, fun k hk => Go.Lib.bytesWorld_at_old w _ _ k hk⟩
  · refine ⟨rfl, ⟨grownCap_ge _ _ _ _, fun h => by cases h⟩, range_of hz, fun _ => ⟨w.heap.size, 0, rfl, fun i hi => ?_⟩⟩
    rw [Nat.zero_add, Go.Lib.bytesWorld_cell w _ _ i (by rw [hs]; exact hi)]
    have hr := hz (zs[i]) (List.getElem_mem hi)
    simp [strOfNums, List.getD, List.getElem?_eq_getElem hi]
    omega
  · intro i hi
    simp [World.frozen?, Go.Lib.bytesWorld_at_new, Go.Lib.bytesCells, hs]
    omega
  · rw [Go.Lib.bytesWorld_size]; omega

end Go.Proofs.YtcahlmneancapaaGreatDoor.Clep

/- The statements' own test of the Disk says true: the walk over the translated program. No conditions. -/
namespace Go.Proofs.YtcahlmneancapaaGreatDoor.Clep
open Go.RowKit Go.Maps
set_option linter.unusedVariables false
set_option maxRecDepth 10000

def nmA : ByteArray := ⟨#[97]⟩
def aw1 : St := ⟨1000, 1, 0, 0, false, 1, [⟨1, [], 0⟩], .map [(.string [97], i64L 1)], .map [], [⟨0, ⟨#[97]⟩, ⟨#[]⟩, 1⟩]⟩
def aw2 : St := ⟨1000, 2, 0, 0, false, 1, [⟨1, [120, 121, 122], 0⟩], .map [(.string [97], i64L 1)], .map [], [⟨0, ⟨#[97]⟩, ⟨#[]⟩, 1⟩]⟩
def aw3 : St := ⟨1000, 3, 0, 0, false, 1, [⟨1, [120, 121, 122], 0⟩], .map [(.string [97], i64L 1)], .map [(.string [97], i64L 1)], []⟩
def aw4 : St := ⟨1000, 3, 0, 0, false, 1, [⟨1, [120, 121], 2⟩], .map [(.string [97], i64L 1)], .map [(.string [97], i64L 1)], []⟩
theorem awake1 : createS (newS 1000) ⟨#[97]⟩ = (0, aw1) := by kernel_rfl
theorem awake2 : appendS aw1 ⟨#[97]⟩ [120, 121, 122] = (0, aw2) := by kernel_rfl
theorem awake3 : syncDirS aw2 = (0, aw3) := by kernel_rfl
theorem awake4 : crashS aw3 [2] = aw4 := by kernel_rfl
theorem awake5 : readS aw4 ⟨#[97]⟩ = (0, [120, 121]) := by kernel_rfl

end Go.Proofs.YtcahlmneancapaaGreatDoor.Clep

/- What Bytes of the statements, and Rename of a Disk, do when called (walks over the translated program): for lengths of at most 2^40, numbers of at most 2^60, any Disk of fewer than 2^40 calls, names of at most 2^46 bytes. -/
namespace Go.Proofs.YtcahlmneancapaaGreatDoor.Clep
open Go.RowKit Go.Maps
set_option linter.unusedVariables false
set_option maxRecDepth 10000

def byt (n : Int) (L : Nat) : List Int := (List.range L).map fun i : Nat => (n + 3 * (i : Int)) % 256
theorem byt_len (n : Int) (L : Nat) : (byt n L).length = L := by simp [byt]
theorem byt_range (n : Int) (L : Nat) : ∀ z ∈ byt n L, 0 ≤ z ∧ z < 256 := by
  intro z hz
  obtain ⟨i, _, rfl⟩ := List.mem_map.1 hz
  omega
theorem byt_succ (n : Int) (k : Nat) : byt n (k + 1) = byt n k ++ [(n + 3 * (k : Int)) % 256] := by
  unfold byt
  rw [List.range_succ, List.map_append]
  rfl
theorem zerosN (L : Nat) : (madeCells #[Value.int IntKind.u8 0] L).toList = bv (List.replicate L 0) := by
  unfold madeCells bv
  rw [Array.toList_map, List.map_replicate]
  refine List.ext_getElem (by simp) fun i h1 h2 => ?_
  simp
  rw [Nat.mod_one]
  rfl
theorem set_byt (n : Int) (L k : Nat) (h : k < L) : (bv (byt n k ++ List.replicate (L - k) 0)).set k (.int .u8 ((n + 3 * (k : Int)) % 256)) = bv (byt n (k + 1) ++ List.replicate (L - (k + 1)) 0) := by
  rw [byt_succ, show L - k = (L - (k + 1)) + 1 from by omega, List.replicate_succ]
  unfold bv
  rw [List.map_append, List.map_append, List.map_cons, List.map_append, List.set_append, if_neg (by simp [byt_len])]
  simp [byt_len]

def renS (S : St) (a b : ByteArray) : Nat × St :=
  if okName a = false ∨ okName b = false then (10, S)
  else if (beginS S).1 ≠ 0 then beginS S
  else if (fileAt (beginS S).2.files (lk (beginS S).2.names a)).isNone then (11, (beginS S).2)
  else if a = b then (0, (beginS S).2)
  else (0, { (beginS S).2 with names := doS (beginS S).2.names ⟨1, a, b, 0⟩, since := (beginS S).2.since ++ [⟨1, a, b, 0⟩] })

theorem txts_two (w : World) (a b : ByteArray) : Txts (w.alloc (.cells #[.string a, .string b] 9)) (some ⟨w.heap.size, 0, none⟩) [a, b] := by
  intro i hi
  have hi' : i = 0 ∨ i = 1 := by simp at hi; omega
  rcases hi' with rfl | rfl
  · exact ⟨_, _, rfl, cell_of (MapKept.heap_alloc w _).1 (by simp)⟩
  · exact ⟨_, _, rfl, cell_of (MapKept.heap_alloc w _).1 (by simp)⟩
theorem ok_change {S S1 : St} {c : Chn} (hS : S1.calls = S.calls + 1 ∧ S1.made = S.made ∧ S1.files = S.files ∧ S1.names = S.names ∧ S1.lasting = S.lasting ∧ S1.since = S.since ∧ S1.q = S.q) (h : Ok S) (h1 : Ok S1) (hs : c.name.size ≤ 16) (ht : c.to.size ≤ 16) (hk : c.kind = 1 ∨ c.kind = 2) (hf : c.file ≤ S1.made) (hz : Maps.size (doS S1.names c) ≤ Maps.size S1.names + 1) : Ok { S1 with names := doS S1.names c, since := S1.since ++ [c] } := by
  obtain ⟨c1, c2, c3, c4, c5, c6, c7⟩ := hS
  obtain ⟨a1, a2, a3, a4, a5, a6, a7, a8, a9, a10, a11⟩ := h1
  have b6 := h.szn
  have b7 := h.szl
  rw [← c4] at b6
  rw [← c5, ← c6] at b7
  refine ⟨a1, a2, leads_do a3 (fun h0 => by omega), a4, ?_, ?_, ?_, a8, a9, a10, a11⟩
  · intro c' hc
    rcases List.mem_append.1 hc with hc | hc
    · exact a5 c' hc
    · rw [List.mem_singleton] at hc
      subst hc
      exact ⟨by omega, hs, ht, fun h0 => by omega, hf⟩
  · show Maps.size (doS S1.names c) ≤ S1.calls
    omega
  · show Maps.size S1.lasting + (S1.since ++ [c]).length ≤ S1.calls
    rw [List.length_append]
    simp
    omega
theorem size_do {D : DataW Unit} (hT : Tidy D) (c : Chn) : Maps.size (doS D c) ≤ Maps.size D + 1 := by
  unfold doS
  split
  · have hs := Maps.size_put hT (k := key c.name) (i64L c.file)
    split at hs <;> omega
  · split
    · split
      · have hs := Maps.size_put (hT.del (key c.name)) (k := key c.to) (i64L (lk D c.name))
        have hs2 := Maps.size_del hT (k := key c.name)
        split at hs <;> split at hs2 <;> omega
      · omega
    · split
      · have hs2 := Maps.size_del hT (k := key c.name)
        split at hs2 <;> omega
      · omega
set_option maxHeartbeats 400000 in
set_option maxRecDepth 4000 in
theorem rename_any (R : Nat) (S : St) (G : Gh) (a b : ByteArray) (w : World) (h : DiskIs w R S G) (hm : S.calls < 1099511627776) (ha : a.size ≤ 70368744177664) (hb : b.size ≤ 70368744177664) :
    Calls Tryz.prog 73 #[.pointer (some ⟨R, 0, none⟩), .string a, .string b] w fun e w' => e = .returned (.int .i64 (renS S a b).1) ∧ ∃ G', DiskIs w' R (renS S a b).2 G' ∧ Kept G G' w w' := by
  have H := hide h
  have BA := (Below.refl w.heap.size w).alloc (Nat.le_refl _) (.cells #[.string a, .string b] 9)
  have BG := hide (begin_any R S G (some ⟨w.heap.size, 0, none⟩) [a, b] _ (h.below BA) (by omega) (by simp) (txts_two w a b) (by intro s hs; simp at hs; rcases hs with rfl | rfl <;> assumption))
  have HA := hide BA
  clear h BA
  go_enter Tryz.func73, Tryz.ntmps73
  go_wp2_with fail
  refine BG.out.mono ?_
  clear BG
  generalize w.alloc (.cells #[.string a, .string b] 9) = wA at *
  rintro e w1 (⟨hno, rfl, rfl⟩ | ⟨hyes, rfl, D1, K1⟩)
  · have hc : renS S a b = (10, S) := by
      unfold renS; rw [if_pos]
      simp only [List.all_cons, List.all_nil, Bool.and_true, Bool.and_eq_false_iff] at hno
      exact hno
    have HC := hide hc
    clear hc
    go_wp2
    go_ret
    exact ⟨by rw [HC.out]; rfl, by rw [HC.out]; exact ⟨G, H.out.below HA.out, Kept.of_below HA.out⟩⟩
  · have hk := begin_keeps S
    have hy : okName a = true ∧ okName b = true := by simpa using hyes
    obtain ⟨e1, S1, hb'⟩ : ∃ e1 S1, beginS S = (e1, S1) := ⟨_, _, rfl⟩
    have hc0 : renS S a b = if e1 ≠ 0 then (e1, S1) else if (fileAt S1.files (lk S1.names a)).isNone then (11, S1) else if a = b then (0, S1) else (0, { S1 with names := doS S1.names ⟨1, a, b, 0⟩, since := S1.since ++ [⟨1, a, b, 0⟩] }) := by
      unfold renS; rw [if_neg (by rw [hy.1, hy.2]; simp), hb']
    have HC := hide hc0
    have KK := hide ((Kept.of_below (G := G) HA.out).trans K1)
    rw [hb'] at D1 hk ⊢
    have HD := hide D1
    have HK := hide hk
    clear hc0 K1 D1 hk hyes hb'
    simp only at HD HK ⊢
    by_cases he : e1 = 0
    · subst he
      have hF := hide (find_disk R S1 G a w1 HD.out ha)
      go_wp2_with fail
      refine hF.out.mono ?_
      rintro e w2 ⟨rfl, b2⟩
      have HD2 := hide (HD.out.below b2)
      have KK2 := hide (KK.out.trans (Kept.of_below b2))
      clear b2 hF KK HD
      cases hf : fileAt S1.files (lk S1.names a) with
      | none =>
        have HC2 := hide (show renS S a b = (11, S1) by rw [HC.out, hf]; rfl)
        simp only [ptrOf]
        go_wp2
        go_ret
        exact ⟨by rw [HC2.out]; rfl, by rw [HC2.out]; exact ⟨G, HD2.out, KK2.out⟩⟩
      | some f =>
        simp only [ptrOf]
        by_cases hab : a = b
        · subst hab
          have HC2 := hide (show renS S a a = (0, S1) by rw [HC.out, hf]; simp)
          go_wp2
          go_ret
          exact ⟨by rw [HC2.out]; rfl, by rw [HC2.out]; exact ⟨G, HD2.out, KK2.out⟩⟩
        · have HC2 := hide (show renS S a b = (0, { S1 with names := doS S1.names ⟨1, a, b, 0⟩, since := S1.since ++ [⟨1, a, b, 0⟩] }) by rw [HC.out, hf, if_neg hab]; simp)
          have hcl : S1.calls ≤ 1099511627776 := by have := HK.out.1; omega
          have CH : Calls Tryz.prog 51 #[.pointer (some ⟨R, 0, none⟩), .agg #[.int .i64 1, .string a, .string b, .int .i64 0]] w2 _ :=
            change_any R _ G ⟨1, a, b, 0⟩ w2 HD2.out hcl (okName_le hy.1).2 (okName_le hy.2).2 (by show 1 ≤ 2; omega) (Nat.zero_le _) (ok_change HK.out H.out.ok HD2.out.ok (okName_le hy.1).2 (okName_le hy.2).2 (.inl rfl) (Nat.zero_le _) (size_do (HD2.out.nm.tidy lawS) _))
          have HCH := hide CH
          have hne2 : (a.toList == b.toList) = false := by
            rw [Bool.eq_false_iff]
            intro e
            apply hab
            have := eq_of_beq e
            rw [ByteArray.toList_eq, ByteArray.toList_eq] at this
            cases a; cases b
            congr
            exact Array.toList_inj.1 this
          clear CH
          go_wp2_with fail
          refine HCH.out.mono ?_
          rintro e w3 ⟨rfl, G3, D3, K3⟩
          have HD3 := hide D3
          have HK3 := hide (KK2.out.trans K3)
          clear D3 K3
          go_wp2
          go_ret
          exact ⟨by rw [HC2.out]; rfl, by rw [HC2.out]; exact ⟨G3, HD3.out, HK3.out⟩⟩
    · have HC2 := hide (show renS S a b = (e1, S1) by rw [HC.out, if_pos he])
      have hne : ¬ ((e1 : Int) = 0) := by omega
      go_wp2
      go_ret
      exact ⟨by rw [HC2.out]; rfl, by rw [HC2.out]; exact ⟨G, HD.out, KK.out⟩⟩

theorem rename_h {F : Nat → Prop} {R : Nat} {S : St} {w : World} (a b : ByteArray) {E : Nat} {S' : St} (e : renS S a b = (E, S')) (h : Held F w R S) (hm : S.calls < 1099511627776) (ha : a.size ≤ 70368744177664) (hb : b.size ≤ 70368744177664) :
    Calls Tryz.prog 73 #[.pointer (some ⟨R, 0, none⟩), .string a, .string b] w fun e w' => e = .returned (.int .i64 E) ∧ Held F w' R S' ∧ Same F w w' := by
  obtain ⟨G, D, hF⟩ := h
  refine (rename_any R S G a b w D hm ha hb).mono ?_
  rw [e]
  rintro e w' ⟨rfl, G', D', K⟩
  exact ⟨rfl, Held.keep hF D' K⟩
theorem num_of_row {w : World} {a : Option Addr} {len cap : Nat} {zs : List Int}
    (h : (a = none ∧ len = 0 ∧ cap = 0 ∧ zs = []) ∨ ∃ x, a = some x ∧ len ≤ cap ∧ cap ≤ maxLen ∧ zs.length = cap ∧ (∀ i, i < zs.length → w.cell? (x.add i) = some (.int .i64 (zs.getD i 0))) ∧ ∀ z ∈ zs, (Lit.int .i64 z).wf = true) :
    NumV (· < w.heap.size) w (.slice a len cap) (zs.take len) ∧ (zs.take len).length = len := by
  rcases h with ⟨rfl, rfl, rfl, rfl⟩ | ⟨x, rfl, hl, hm, hz, hcell, hwz⟩
  · exact ⟨⟨none, 0, rfl, Nat.le_refl _, by omega, by simp, fun h => by simp at h⟩, rfl⟩
  · have hlen : (zs.take len).length = len := by rw [List.length_take]; omega
    unfold maxLen at hm
    refine ⟨⟨some x, cap, by rw [hlen], by rw [hlen]; exact hl, hm, fun k hk => hwz k (List.mem_of_mem_take hk), fun h0 => ?_⟩, hlen⟩
    rw [hlen] at h0
    obtain ⟨b, off, spot⟩ := x
    have hc := hcell 0 (by omega)
    have hspot : spot = none := by simpa [Addr.add] using World.cell?_spot hc
    subst hspot
    refine ⟨b, off, rfl, ?_, fun i hi => ?_⟩
    · have := World.block_lt_of_cell? w _ hc
      rw [add_plain] at this
      exact this
    · rw [hlen] at hi
      have := hcell i (by omega)
      rw [add_plain] at this
      rw [this]
      simp [List.getD, hi]

end Go.Proofs.YtcahlmneancapaaGreatDoor.Clep

/- What the statements with loops share: masks, texts joined and cut, one step of Bytes and Append. No conditions but the bounds. -/
namespace Go.Proofs.YtcahlmneancapaaGreatDoor.Clep
open Go.RowKit Go.Maps
set_option linter.unusedVariables false
set_option maxRecDepth 10000

theorem andm (a : Int) (m : Nat) (hm : m < 4611686018427387904) : ∃ n : Nat, bits .and .i64 a m = n ∧ n ≤ m := by
  have e : bits .and .i64 a m = IntKind.i64.wrap ((BitVec.ofInt 64 a &&& BitVec.ofInt 64 m).toNat : Int) := rfl
  have hle : (BitVec.ofInt 64 a &&& BitVec.ofInt 64 m).toNat ≤ m := by
    rw [BitVec.toNat_and]
    refine Nat.le_trans Nat.and_le_right ?_
    simp
    omega
  rw [e]
  generalize (BitVec.ofInt 64 a &&& BitVec.ofInt 64 m).toNat = k at *
  refine ⟨k, ?_, hle⟩
  simp [IntKind.wrap, IntKind.bits, IntKind.signed]
  omega
theorem str_join (a b : List Int) : strOfNums a ++ strOfNums b = strOfNums (a ++ b) := by
  apply ByteArray.ext
  simp [strOfNums, ByteArray.data_append]
/-- A text's bytes are appended. -/
theorem step_append {F : Nat → Prop} {R : Nat} {S : St} {w : World} (s : ByteArray) (zs : List Int) (hz : ∀ z ∈ zs, 0 ≤ z ∧ z < 256) {E : Nat} {S' : St} (e : appendS S s zs = (E, S')) (h : Held F w R S) (hm : S.calls < 1099511627776) (hs : s.size ≤ 70368744177664) (hl : zs.length ≤ 1099511627776) (hF : ∀ i, F i → i < w.heap.size) :
    ∃ cap w', (convert 9 44 (.string (strOfNums zs))).run Tryz.prog w = .ok (.slice (some ⟨w.heap.size, 0, none⟩) zs.length cap) w' ∧
      Hid (Calls Tryz.prog 22 #[.pointer (some ⟨R, 0, none⟩), .string s, .slice (some ⟨w.heap.size, 0, none⟩) zs.length cap] w' fun e w'' => e = .returned (.int .i64 E) ∧ Held F w'' R S' ∧ Same F w w'') := by
  obtain ⟨cap, w', hcv, _, hb, hB, _, hlt⟩ := dstr_bytes w zs hz
  refine ⟨cap, w', hcv, hide ?_⟩
  refine (append_h s _ _ cap zs e (h.wide hb.out) hm hs hB.out (by omega) (fun b off ho => by cases ho; exact .inr ⟨Nat.le_refl _, hlt.out⟩)).mono ?_
  rintro e w'' ⟨rfl, H, Sm⟩
  have hs' : Same F w w' := ⟨hb.out.os, hb.out.tape, hb.out.output, hb.out.size, fun i hi => hb.out.block i (hF i hi)⟩
  exact ⟨rfl, H.less (fun i hi => .inl hi), hs'.trans (Sm.mono (fun i hi => .inl hi))⟩
theorem NumV.at {Q : Nat → Prop} {w : World} {ao : Option Addr} {len cap : Nat} {ks : List Int} (h : NumV Q w (.slice ao len cap) ks) : ks.length = len ∧ ∀ i, i < len → ∃ b off, ao = some ⟨b, off, none⟩ ∧ Q b ∧ w.cell? ⟨b, off + i, none⟩ = some (.int .i64 (ks.getD i 0)) ∧ len ≤ 9223372036854775807 := by
  obtain ⟨ao', cap', e, h1, h2, h3, h4⟩ := h
  injection e with e1 e2 e3
  subst e1 e3
  refine ⟨e2.symm, fun i hi => ?_⟩
  obtain ⟨b, off, e1, q, hc⟩ := h4 (by omega)
  exact ⟨b, off, e1, q, hc i (by omega), by omega⟩
def bF : ByteArray := ⟨#[102]⟩
def nF : Lit := .string [102]
def ls1 (c : Nat) (A : List Int) : St := ⟨1048576, c, 0, 0, false, 1, [⟨1, A, 0⟩], .map [(nF, i64L 1)], .map [], [⟨0, bF, ⟨#[]⟩, 1⟩]⟩
def ls2 (c : Nat) (A : List Int) : St := ⟨1048576, c, 0, 0, false, 1, [⟨1, A, A.length⟩], .map [(nF, i64L 1)], .map [], [⟨0, bF, ⟨#[]⟩, 1⟩]⟩
def lsg (c : Nat) (X : List Int) (L : Nat) : St := ⟨1048576, c, 0, 0, false, 1, [⟨1, X, L⟩], .map [(nF, i64L 1)], .map [(nF, i64L 1)], []⟩
theorem last1 : createS (newS 1048576) bF = (0, ls1 1 []) := by kernel_rfl
theorem last2 (c : Nat) (A p : List Int) (h : A.length + p.length ≤ 250000) : appendS (ls1 c A) bF p = (0, ls1 (c + 1) (A ++ p)) := by
  have e : appendS (ls1 c A) bF p = if 250000 < A.length + p.length then (2, (beginS (ls1 c A)).2) else if 1048576 < A.length + 0 + p.length then (15, (beginS (ls1 c A)).2) else (0, ls1 (c + 1) (A ++ p)) := by kernel_rfl
  rw [e, if_neg (by omega), if_neg (by omega)]
theorem last3 (c : Nat) (A : List Int) : syncS (ls1 c A) bF = (0, ls2 (c + 1) A) := by kernel_rfl
theorem last4 (c : Nat) (A : List Int) : syncDirS (ls2 c A) = (0, lsg (c + 1) A A.length) := by kernel_rfl
theorem last5 (c L : Nat) (X p : List Int) (h : X.length + p.length ≤ 250000) : appendS (lsg c X L) bF p = (0, lsg (c + 1) (X ++ p) L) := by
  have e : appendS (lsg c X L) bF p = if 250000 < X.length + p.length then (2, (beginS (lsg c X L)).2) else if 1048576 < X.length + 0 + p.length then (15, (beginS (lsg c X L)).2) else (0, lsg (c + 1) (X ++ p) L) := by kernel_rfl
  rw [e, if_neg (by omega), if_neg (by omega)]
theorem last6 (c L : Nat) (X : List Int) (ks : List Int) : crashS (lsg c X L) ks = lsg c (X.take (L + keepN ⟨1, X, L⟩ ks)) (L + keepN ⟨1, X, L⟩ ks) := by kernel_rfl
theorem last7 (c L : Nat) (X : List Int) : readS (lsg c X L) bF = (0, X) := by kernel_rfl
theorem last8 (c L : Nat) (X : List Int) : (if (lsg c X L).dead then 0 else usedS (lsg c X L) : Nat) = X.length := by
  show X.length + 0 = _
  rfl

end Go.Proofs.YtcahlmneancapaaGreatDoor.Clep
