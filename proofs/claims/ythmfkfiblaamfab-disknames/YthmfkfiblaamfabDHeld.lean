/- The calls of a Disk once more, for whoever holds one beside other memory: what is marked as not the Disk's is left as it was. Bounds: fewer than 2^40 calls, names and bytes of at most 2^46. -/
import Derived.Test.YthmfkfiblaamfabDNew
namespace Go.Proofs.Ythmfkfiblaamfab.Clep
open Go.RowKit Go.Maps
set_option linter.unusedVariables false

/-- A Disk at R, of whose blocks none is one of F's. -/
def Held (F : Nat → Prop) (w : World) (R : Nat) (S : St) : Prop := ∃ G, DiskIs w R S G ∧ ∀ i, F i → i < w.heap.size ∧ G.τ i = 0
structure Same (F : Nat → Prop) (w w' : World) : Prop where
  os : w'.os = w.os
  tape : w'.tape = w.tape
  output : w'.output = w.output
  size : w.heap.size ≤ w'.heap.size
  block : ∀ i, F i → w'.heap[i]? = w.heap[i]?
theorem Same.refl (F : Nat → Prop) (w : World) : Same F w w := ⟨rfl, rfl, rfl, Nat.le_refl _, fun _ _ => rfl⟩
theorem Same.trans {F : Nat → Prop} {a b c : World} (h : Same F a b) (k : Same F b c) : Same F a c := ⟨k.os.trans h.os, k.tape.trans h.tape, k.output.trans h.output, Nat.le_trans h.size k.size, fun i hi => (k.block i hi).trans (h.block i hi)⟩
theorem Same.mono {F F' : Nat → Prop} {a b : World} (h : Same F a b) (hf : ∀ i, F' i → F i) : Same F' a b := ⟨h.os, h.tape, h.output, h.size, fun i hi => h.block i (hf i hi)⟩
theorem Same.below {F : Nat → Prop} {a b : World} {B : Nat} (h : Same F a b) (hf : ∀ i, i < B → F i) : Below B a b := ⟨h.os, h.tape, h.output, h.size, fun i hi => h.block i (hf i hi)⟩
theorem Held.keep {F : Nat → Prop} {w w' : World} {R : Nat} {S' : St} {G G' : Gh} (hF : ∀ i, F i → i < w.heap.size ∧ G.τ i = 0) (D : DiskIs w' R S' G') (K : Kept G G' w w') : Held F w' R S' ∧ Same F w w' :=
  ⟨⟨G', D, fun i hi => ⟨Nat.lt_of_lt_of_le (hF i hi).1 K.size, K.tag i (hF i hi).1 (hF i hi).2⟩⟩, K.os, K.tape, K.output, K.size, fun i hi => K.block i (hF i hi).1 (hF i hi).2⟩
theorem Held.same {F : Nat → Prop} {w w' : World} {R : Nat} {S : St} (h : Held F w R S) (hb : Below w.heap.size w w') : Held F w' R S ∧ Same F w w' := by
  obtain ⟨G, D, hF⟩ := h
  exact Held.keep hF (D.below hb) (Kept.of_below hb)
theorem Held.more {F : Nat → Prop} {w : World} {R : Nat} {S : St} (h : Held F w R S) (o : Obj) : Held (fun i => F i ∨ i = w.heap.size) (w.alloc o) R S := by
  obtain ⟨G, D, hF⟩ := h
  refine ⟨G, D.below ((Below.refl _ _).alloc (Nat.le_refl _) _), fun i hi => ?_⟩
  rcases hi with hi | rfl
  · exact ⟨by have := (hF i hi).1; simp; omega, (hF i hi).2⟩
  · exact ⟨by simp, D.top _ (Nat.le_refl _)⟩
theorem Held.less {F F' : Nat → Prop} {w : World} {R : Nat} {S : St} (h : Held F w R S) (hf : ∀ i, F' i → F i) : Held F' w R S := by
  obtain ⟨G, D, hF⟩ := h
  exact ⟨G, D, fun i hi => hF i (hf i hi)⟩
/-- All that is new lies beside the Disk. -/
theorem Held.wide {F : Nat → Prop} {w w' : World} {R : Nat} {S : St} (h : Held F w R S) (hb : Below w.heap.size w w') : Held (fun i => F i ∨ (w.heap.size ≤ i ∧ i < w'.heap.size)) w' R S := by
  obtain ⟨G, D, hF⟩ := h
  refine ⟨G, D.below hb, fun i hi => ?_⟩
  rcases hi with hi | hi
  · exact ⟨Nat.lt_of_lt_of_le (hF i hi).1 hb.size, (hF i hi).2⟩
  · exact ⟨hi.2, D.top _ hi.1⟩
theorem new_h (q : Nat) (w : World) (hq : q ≤ 9223372036854775807) (n : Int) (hn : n = q) :
    Calls Try.prog 6 #[.int .i64 n] w fun e w' => ∃ R, e = .returned (.pointer (some ⟨R, 0, none⟩)) ∧ Held (· < w.heap.size) w' R (newS q) ∧ Below w.heap.size w w' := by
  subst hn
  refine (new_any q w hq).mono ?_
  rintro e w' ⟨R, G, rfl, D, hb, ht⟩
  exact ⟨R, rfl, ⟨G, D, fun i hi => ⟨Nat.lt_of_lt_of_le hi hb.size, ht i hi⟩⟩, hb⟩
theorem create_h {F : Nat → Prop} {R : Nat} {S : St} {w : World} (s : ByteArray) {E : Nat} {S' : St} (e : createS S s = (E, S')) (h : Held F w R S) (hm : S.calls < 1099511627776) (hs : s.size ≤ 70368744177664) :
    Calls Try.prog 7 #[.pointer (some ⟨R, 0, none⟩), .string s] w fun e w' => e = .returned (.int .i64 E) ∧ Held F w' R S' ∧ Same F w w' := by
  obtain ⟨G, D, hF⟩ := h
  refine (create_any R S G s w D hm hs).mono ?_
  rw [e]
  rintro e w' ⟨rfl, G', D', K⟩
  exact ⟨rfl, Held.keep hF D' K⟩
theorem append_h {F : Nat → Prop} {R : Nat} {S : St} {w : World} (s : ByteArray) (ao : Option Addr) (len cap : Nat) (zs : List Int) {E : Nat} {S' : St} (e : appendS S s zs = (E, S')) (h : Held F w R S) (hm : S.calls < 1099511627776) (hs : s.size ≤ 70368744177664)
    (hb : Bs w ao len cap zs) (hl : len ≤ 70368744177664) (ht : ∀ b off, ao = some ⟨b, off, none⟩ → F b) :
    Calls Try.prog 12 #[.pointer (some ⟨R, 0, none⟩), .string s, .slice ao len cap] w fun e w' => e = .returned (.int .i64 E) ∧ Held F w' R S' ∧ Same F w w' := by
  obtain ⟨G, D, hF⟩ := h
  refine (append_any R S G s ao len cap zs w D hm hs hb hl (fun b off ho => ⟨(hF b (ht b off ho)).2, (hF b (ht b off ho)).1⟩)).mono ?_
  rw [e]
  rintro e w' ⟨rfl, G', D', K⟩
  exact ⟨rfl, Held.keep hF D' K⟩
theorem sync_h {F : Nat → Prop} {R : Nat} {S : St} {w : World} (s : ByteArray) {E : Nat} {S' : St} (e : syncS S s = (E, S')) (h : Held F w R S) (hm : S.calls < 1099511627776) (hs : s.size ≤ 70368744177664) :
    Calls Try.prog 22 #[.pointer (some ⟨R, 0, none⟩), .string s] w fun e w' => e = .returned (.int .i64 E) ∧ Held F w' R S' ∧ Same F w w' := by
  obtain ⟨G, D, hF⟩ := h
  refine (sync_any R S G s w D hm hs).mono ?_
  rw [e]
  rintro e w' ⟨rfl, G', D', K⟩
  exact ⟨rfl, Held.keep hF D' K⟩
theorem syncDir_h {F : Nat → Prop} {R : Nat} {S : St} {w : World} {E : Nat} {S' : St} (e : syncDirS S = (E, S')) (h : Held F w R S) (hm : S.calls < 1099511627776) :
    Calls Try.prog 8 #[.pointer (some ⟨R, 0, none⟩)] w fun e w' => e = .returned (.int .i64 E) ∧ Held F w' R S' ∧ Same F w w' := by
  obtain ⟨G, D, hF⟩ := h
  refine (syncDir_any R S G w D hm).mono ?_
  rw [e]
  rintro e w' ⟨rfl, G', D', K⟩
  exact ⟨rfl, Held.keep hF D' K⟩
theorem crash_h {F : Nat → Prop} {R : Nat} {S : St} {w : World} (ao : Option Addr) (len cap : Nat) (ks : List Int) {S' : St} (e : crashS S ks = S') (h : Held F w R S) (hm : S.calls ≤ 1099511627776) (hk : NumV F w (.slice ao len cap) ks) :
    Calls Try.prog 15 #[.pointer (some ⟨R, 0, none⟩), .slice ao len cap] w fun e w' => e = .returned (.tuple #[]) ∧ Held F w' R S' ∧ Same F w w' := by
  obtain ⟨G, D, hF⟩ := h
  refine (crash_any R S G ao len cap ks w D hm ?_).mono ?_
  · obtain ⟨ao', cap', e, h1, h2, h3, h4⟩ := hk
    refine ⟨ao', cap', e, h1, h2, h3, fun h0 => ?_⟩
    obtain ⟨b, off, e1, q, hc⟩ := h4 h0
    exact ⟨b, off, e1, ⟨(hF b q).2, (hF b q).1⟩, hc⟩
  · rw [e]
    rintro e w' ⟨rfl, G', D', K⟩
    exact ⟨rfl, Held.keep hF D' K⟩
theorem read_h {F : Nat → Prop} {R : Nat} {S : St} {w : World} (s : ByteArray) {E : Nat} {zs : List Int} (e : readS S s = (E, zs)) (h : Held F w R S) (hs : s.size ≤ 70368744177664) :
    Calls Try.prog 16 #[.pointer (some ⟨R, 0, none⟩), .string s] w fun e w' => ∃ ao cap, e = .returned (.tuple #[.slice ao zs.length cap, .int .i64 E]) ∧ Own w' w.heap.size (.slice ao zs.length cap) zs ∧ Held F w' R S ∧ Below w.heap.size w w' := by
  obtain ⟨G, D, hF⟩ := h
  refine (read_any R S G s w D hs).mono ?_
  rw [e]
  rintro e w' ⟨ao, cap, rfl, hO, hb⟩
  exact ⟨ao, cap, rfl, hO, (Held.same ⟨G, D, hF⟩ hb).1, hb⟩
theorem calls_h {F : Nat → Prop} {R : Nat} {S : St} {w : World} (h : Held F w R S) :
    Calls Try.prog 14 #[.pointer (some ⟨R, 0, none⟩)] w fun e w' => e = .returned (.int .i64 S.calls) ∧ w' = w := by
  obtain ⟨G, D, hF⟩ := h
  exact calls_any R S G w D
theorem used_h {F : Nat → Prop} {R : Nat} {S : St} {w : World} (h : Held F w R S) (hm : S.calls ≤ 1099511627776) :
    Calls Try.prog 19 #[.pointer (some ⟨R, 0, none⟩)] w fun e w' => e = .returned (.int .i64 (if S.dead then 0 else usedS S : Nat)) ∧ Held F w' R S ∧ Below w.heap.size w w' := by
  obtain ⟨G, D, hF⟩ := h
  refine (used_any R S G w D hm).mono ?_
  rintro e w' ⟨rfl, hb⟩
  exact ⟨rfl, (Held.same ⟨G, D, hF⟩ hb).1, hb⟩

end Go.Proofs.Ythmfkfiblaamfab.Clep
