/- A Disk and the document's own Disk side by side in one memory: what is done to the one leaves the other. And Stop and Fail of a Disk, New of the document's (walks). No conditions but the numbers' kinds. -/
import Derived.Test.YtfogfpanfhmijaaGreatYv
import Derived.Test.YtfogfpanfhmijaaGreatYl
import Derived.Test.YtfogfpanfhmijaaGreatYu
import Derived.Sort.Walk0
import Derived.Deep.RegionHeldLaw
import Derived.Test.YtfogfpanfhmijaaGreatYj
namespace Go.Proofs.YtfogfpanfhmijaaGreat.Clep
open Go.RowKit Go.Maps
set_option linter.unusedVariables false

theorem DiskIs.turn0 {w w' : World} {R : Nat} {S : St} {G : Gh} (h : DiskIs w R S G) (T : Turn G.τ (fun n => n = 0) w w') : DiskIs w' R S G := by
  obtain ⟨D, f1, f2, f3⟩ := h.fm
  exact ⟨row_keep T h.row (by rw [h.tR]; omega), ⟨D, map_keep T f1 (by rw [h.tf]; omega), f2, f3⟩, map_keep T h.nm (by rw [h.tn]; omega), map_keep T h.lm (by rw [h.tl]; omega), owns_keep T h.sc (fun g hg => by rw [h.ts g hg]; omega), fun f hf => file_keep T (h.files f hf) (by omega) (by omega),
    h.tR, h.tf, h.tn, h.tl, h.ts, fun i hi => h.top i (Nat.le_trans T.1 hi), h.ok⟩
/-- Both Disks in one memory; what lies below B is neither's. -/
structure Both (B : Nat) (w : World) (R : Nat) (S : St) (Q : Nat) (T : RSt) (P : Nat → Prop) : Prop where
  ref : RIs w Q T P
  top : ∀ i, w.heap.size ≤ i → P i
  low : ∀ i, P i → B ≤ i
  held : Held (fun i => i < B ∨ (P i ∧ i < w.heap.size)) w R S
  base : B ≤ w.heap.size
def Pair (B : Nat) (w : World) (R : Nat) (S : St) (Q : Nat) (T : RSt) : Prop := ∃ P, Both B w R S Q T P
theorem Both.prog {B : Nat} {w w' : World} {R : Nat} {S S' : St} {Q : Nat} {T : RSt} {P : Nat → Prop} (h : Both B w R S Q T P) (hd : Held (fun i => i < B ∨ (P i ∧ i < w.heap.size)) w' R S') (hs : Same (fun i => i < B ∨ (P i ∧ i < w.heap.size)) w w') : Pair B w' R S' Q T ∧ Below B w w' := by
  obtain ⟨G, D, hF⟩ := hd
  obtain ⟨fv, nv, lv, ov, r⟩ := h.ref
  refine ⟨⟨fun i => B ≤ i ∧ G.τ i = 0, ⟨fv, nv, lv, ov, r.keep (fun i hp hi => hs.block i (.inr ⟨hp, hi⟩)) (fun i hp hi => ⟨h.low i hp, (hF i (.inr ⟨hp, hi⟩)).2⟩)⟩, fun i hi => ⟨Nat.le_trans h.base (Nat.le_trans hs.size hi), D.top i hi⟩, fun i hi => hi.1, ⟨G, D, fun i hi => ?_⟩, Nat.le_trans h.base hs.size⟩, hs.below fun i hi => .inl hi⟩
  rcases hi with hi | hi
  · exact hF i (.inl hi)
  · exact ⟨hi.2, hi.1.2⟩
theorem Both.refd {B : Nat} {w w' : World} {R : Nat} {S : St} {Q : Nat} {T T' : RSt} {P : Nat → Prop} (h : Both B w R S Q T P) (hr : RIs w' Q T' P) (hc : Chg P w w') : Both B w' R S Q T' P ∧ Below B w w' := by
  obtain ⟨G, D, hF⟩ := h.held
  have hT : Turn G.τ (fun n => n = 0) w w' := ⟨hc.size, fun i hi ht => hc.block i hi (fun hp => ht (hF i (.inr ⟨hp, hi⟩)).2)⟩
  refine ⟨⟨hr, fun i hi => h.top i (Nat.le_trans hc.size hi), h.low, ⟨G, D.turn0 hT, fun i hi => ?_⟩, Nat.le_trans h.base hc.size⟩, ⟨hc.os, hc.tape, hc.output, hc.size, fun i hi => hc.block i (Nat.lt_of_lt_of_le hi h.base) (fun hp => by have := h.low i hp; omega)⟩⟩
  rcases hi with hi | hi
  · exact ⟨Nat.lt_of_lt_of_le (hF i (.inl hi)).1 hc.size, (hF i (.inl hi)).2⟩
  · refine ⟨hi.2, ?_⟩
    rcases Nat.lt_or_ge i w.heap.size with hl | hl
    · exact (hF i (.inr ⟨hi.1, hl⟩)).2
    · exact D.top i hl
theorem Both.below {B : Nat} {w w' : World} {R : Nat} {S : St} {Q : Nat} {T : RSt} {P : Nat → Prop} (h : Both B w R S Q T P) (hb : Below w.heap.size w w') : Both B w' R S Q T P ∧ Below B w w' := by
  obtain ⟨fv, nv, lv, ov, r⟩ := h.ref
  exact h.refd ⟨fv, nv, lv, ov, r.keep (fun i _ hi => hb.block i hi) (fun i hp _ => hp)⟩ (Chg.of_below hb)
theorem Pair.prog {B : Nat} {w : World} {R : Nat} {S : St} {Q : Nat} {T : RSt} (h : Pair B w R S Q T) : ∃ F : Nat → Prop, Held F w R S ∧ (∀ i, i < B → F i) ∧ ∀ w' S', Held F w' R S' → Same F w w' → Pair B w' R S' Q T ∧ Below B w w' := by
  obtain ⟨P, h⟩ := h
  exact ⟨_, h.held, fun i hi => .inl hi, fun w' S' hd hs => h.prog hd hs⟩
theorem Pair.refd {B : Nat} {w : World} {R : Nat} {S : St} {Q : Nat} {T : RSt} (h : Pair B w R S Q T) : ∃ (P : Nat → Prop) (fv nv lv ov : Value), RefIs w Q T P fv nv lv ov ∧ (∀ i, w.heap.size ≤ i → P i) ∧ (∀ i, i < B → ¬ P i) ∧ ∀ w' T', RIs w' Q T' P → Chg P w w' → Pair B w' R S Q T' ∧ Below B w w' := by
  obtain ⟨P, h⟩ := h
  obtain ⟨fv, nv, lv, ov, r⟩ := h.ref
  exact ⟨P, fv, nv, lv, ov, r, h.top, fun i hi hp => by have := h.low i hp; omega, fun w' T' hr hc => ⟨⟨P, (h.refd hr hc).1⟩, (h.refd hr hc).2⟩⟩
theorem Pair.below {B : Nat} {w w' : World} {R : Nat} {S : St} {Q : Nat} {T : RSt} (h : Pair B w R S Q T) (hb : Below w.heap.size w w') : Pair B w' R S Q T ∧ Below B w w' := by
  obtain ⟨P, h⟩ := h
  exact ⟨⟨P, (h.below hb).1⟩, (h.below hb).2⟩
theorem Pair.base {B : Nat} {w : World} {R : Nat} {S : St} {Q : Nat} {T : RSt} (h : Pair B w R S Q T) : B ≤ w.heap.size := by
  obtain ⟨P, h⟩ := h
  exact h.base

def failS (S : St) (n : Int) : St := { S with fail := (max n 0).toNat }
def stopS (S : St) (n : Int) : St := { S with stop := (max n 0).toNat, dead := S.dead || n == 0 }
theorem fail_g {F : Nat → Prop} {R : Nat} {S : St} {w : World} (n : Int) (hn : n ≤ 9223372036854775807) (h : Held F w R S) :
    Calls Tryz.prog 31 #[.pointer (some ⟨R, 0, none⟩), .int .i64 n] w fun e w' => e = .returned (.tuple #[]) ∧ Held F w' R (failS S n) ∧ Same F w w' := by
  obtain ⟨G, D, hF⟩ := h
  have c3 := D.cells.1.2.2.2.1
  have f3 := D.cells.2.2 3
  obtain ⟨m, hm⟩ := Int.eq_ofNat_of_zero_le (show 0 ≤ max n 0 by omega)
  have hm2 : m ≤ 9223372036854775807 := by omega
  have D2 := D.put (S' := { S with fail := m }) 3 (.int .i64 m) rfl rfl rfl rfl rfl (Nat.le_refl _) (D.ok.scal _ _ _ _ (Nat.le_refl _) D.ok.stp hm2)
  have HE := hide (Held.keep hF D2 (kept_set (G := G) (b := R) 3 (.int .i64 m) (by rw [D.tR]; omega)))
  have HS := hide (show failS S n = { S with fail := m } by unfold failS; rw [hm]; rfl)
  clear D D2 hF
  go_enter Tryz.func31, Tryz.ntmps31
  go_wp2
  go_end0
  exact ⟨rfl, by rw [HS.out]; exact HE.out⟩
theorem stop_g {F : Nat → Prop} {R : Nat} {S : St} {w : World} (n : Int) (hn : n ≤ 9223372036854775807) (h : Held F w R S) :
    Calls Tryz.prog 29 #[.pointer (some ⟨R, 0, none⟩), .int .i64 n] w fun e w' => e = .returned (.tuple #[]) ∧ Held F w' R (stopS S n) ∧ Same F w w' := by
  obtain ⟨G, D, hF⟩ := h
  have c2 := D.cells.1.2.2.1
  have f2 := D.cells.2.2 2
  have C2 := hide c2
  have F2 := hide f2
  have hok := D.ok
  obtain ⟨m, hm⟩ := Int.eq_ofNat_of_zero_le (show 0 ≤ max n 0 by omega)
  have hm2 : m ≤ 9223372036854775807 := by omega
  have D2 := D.put (S' := { S with stop := m }) 2 (.int .i64 m) rfl rfl rfl rfl rfl (Nat.le_refl _) (D.ok.scal _ _ _ _ (Nat.le_refl _) hm2 D.ok.fai)
  have K2 := kept_set (G := G) (w := w) (b := R) 2 (.int .i64 m) (by rw [D.tR]; omega)
  by_cases h0 : n = 0
  · subst h0
    clear D2 K2
    have D2 := D.put (S' := { S with stop := 0 }) 2 (.int .i64 0) rfl rfl rfl rfl rfl (Nat.le_refl _) (D.ok.scal _ _ _ _ (Nat.le_refl _) (by omega) D.ok.fai)
    have K2 := kept_set (G := G) (w := w) (b := R) 2 (.int .i64 0) (by rw [D.tR]; omega)
    have k4 := D2.cells.1.2.2.2.2
    have g4 := D2.cells.2.2 4
    have D3 := D2.put (S' := { S with stop := 0, dead := true }) 4 (.bool true) rfl rfl rfl rfl rfl (Nat.le_refl _) (hok.scal _ _ _ _ (Nat.le_refl _) (by omega) hok.fai)
    have HE := hide (Held.keep hF D3 (K2.trans (kept_set (G := G) (b := R) 4 (.bool true) (by rw [D.tR]; omega))))
    have HS := hide (show stopS S 0 = { S with stop := 0, dead := true } by unfold stopS; simp)
    clear D D2 D3 K2 hF hok hm
    go_enter Tryz.func29, Tryz.ntmps29
    go_wp2
    go_end0
    exact ⟨rfl, by rw [HS.out]; exact HE.out⟩
  · have HE := hide (Held.keep hF D2 K2)
    have h0' : (n == 0) = false := by simp [h0]
    have HS := hide (show stopS S n = { S with stop := m } by unfold stopS; rw [h0', Bool.or_false, hm]; rfl)
    clear D D2 K2 hF hok
    go_enter Tryz.func29, Tryz.ntmps29
    go_wp2
    go_end0
    exact ⟨rfl, by rw [HS.out]; exact HE.out⟩
theorem fail_rel {S : St} {T : RSt} (h : Rel S T) (n : Int) (hn : n ≤ 9223372036854775807) : Rel (failS S n) { T with fail := max n 0 } :=
  ⟨h.q, h.calls, h.dead, h.stop, by show (((max n 0).toNat : Nat) : Int) = max n 0; omega, h.made, h.names, h.lasting, h.since, h.files, h.sn, h.sl, h.cov, h.rne, ⟨h.ok.cal, h.ok.nfl, h.ok.nop, h.ok.nnw, h.ok.nls, h.ok.fnw, h.ok.fls, h.ok.fop, h.ok.siz, h.ok.lft, by show 0 ≤ max n 0 ∧ max n 0 ≤ 9223372036854775807; omega, h.ok.quo⟩⟩
theorem stop_rel {S : St} {T : RSt} (h : Rel S T) (n : Int) (hn : n ≤ 9223372036854775807) : Rel (stopS S n) (stopT T n) :=
  ⟨h.q, h.calls, by show (S.dead || n == 0) = (T.dead || n == 0); rw [h.dead], by show (((max n 0).toNat : Nat) : Int) = max (max n (-1)) 0; omega, h.fail, h.made, h.names, h.lasting, h.since, h.files, h.sn, h.sl, h.cov, h.rne, ⟨h.ok.cal, h.ok.nfl, h.ok.nop, h.ok.nnw, h.ok.nls, h.ok.fnw, h.ok.fls, h.ok.fop, h.ok.siz, by show -1 ≤ max n (-1) ∧ max n (-1) ≤ 9223372036854775807; omega, h.ok.fai, h.ok.quo⟩⟩

def newT (q : Nat) : RSt := ⟨q, [], [], [], [], 0, -1, 0, false⟩
theorem newT_any (n : Int) (w : World) (P : Nat → Prop) (hP : ∀ i, w.heap.size ≤ i → P i) (hn : n ≤ 9223372036854775807) :
    Calls Tryz.prog 6 #[.int .i64 n] w fun e w' => e = .returned (.pointer (some ⟨w.heap.size, 0, none⟩)) ∧ RIs w' w.heap.size (newT (max n 0).toNat) P ∧ Below w.heap.size w w' := by
  obtain ⟨m, hm⟩ := Int.eq_ofNat_of_zero_le (show 0 ≤ max n 0 by omega)
  have HM := hide (show (max n 0).toNat = m by omega)
  have RR := hide (show RefIs (w.alloc (.cells #[.int .i64 m, .slice none 0 0, .slice none 0 0, .slice none 0 0, .slice none 0 0, .int .i64 0, .int .i64 (-1), .int .i64 0, .bool false] 56)) w.heap.size (newT m) P (.slice none 0 0) (.slice none 0 0) (.slice none 0 0) (.slice none 0 0) from
    ⟨(MapKept.heap_alloc w _).1, ⟨rfl, .inl ⟨rfl, rfl⟩⟩, ⟨rfl, .inl ⟨rfl, rfl⟩⟩, ⟨rfl, .inl ⟨rfl, rfl⟩⟩, ⟨rfl, .inl ⟨rfl, rfl⟩⟩, hP _ (Nat.le_refl _), fun g hg => (by cases hg), fun g hg => (by cases hg), fun g hg => (by cases hg), fun g hg => (by cases hg), (rel_new m (by omega)).ok⟩)
  have BB := hide ((Below.refl w.heap.size w).alloc (Nat.le_refl _) (.cells #[.int .i64 m, .slice none 0 0, .slice none 0 0, .slice none 0 0, .slice none 0 0, .int .i64 0, .int .i64 (-1), .int .i64 0, .bool false] 56))
  go_enter Tryz.func6, Tryz.ntmps6
  go_wp2
  go_ret
  refine ⟨rfl, ⟨.slice none 0 0, .slice none 0 0, .slice none 0 0, .slice none 0 0, ?_⟩, BB.out⟩
  have e := HM.out
  first
  | (rw [e]; exact RR.out)
  | exact RR.out

end Go.Proofs.YtfogfpanfhmijaaGreat.Clep

/- What the statements' own function Same answers of a Disk and the document's Disk that stand alike: true, in new memory alone. -/
namespace Go.Proofs.YtfogfpanfhmijaaGreat.Clep
open Go.RowKit Go.Maps Go.Sort Go.Shelf
set_option linter.unusedVariables false

theorem strOf_key (a : ByteArray) : strOf (key a) = a.data.toList := rfl
theorem names_rel {S : St} {T : RSt} (h : Rel S T) : namesL S = T.now.map fun x => x.1.data.toList := by
  unfold namesL
  rw [h.names]
  have e : strKeys (mp T.now) = T.now.map fun x => x.1.data.toList := by
    show (T.now.map ent).map _ = _
    rw [List.map_map]
    rfl
  rw [e]
  refine List.mergeSort_of_pairwise ?_
  rw [List.pairwise_map]
  refine h.sn.imp ?_
  intro x y hxy
  have hb : Op.bytesLess x.1.data.toList y.1.data.toList = true := by
    have := hxy
    unfold ltS at this
    rwa [toL, toL] at this
  rw [bytesLess_eq, decide_eq_true_eq] at hb
  show decide (_ ≤ _) = true
  rw [decide_eq_true_eq]
  exact List.le_of_lt hb
theorem list_dead {F : Nat → Prop} {R : Nat} {S : St} {w : World} (h : Held F w R S) (hd : S.dead = true) :
    Calls Tryz.prog 47 #[.pointer (some ⟨R, 0, none⟩)] w fun e w' => e = .returned (.slice none 0 0) ∧ w' = w := by
  obtain ⟨G, D, hF⟩ := h
  have c4 := D.cells.1.2.2.2.2
  rw [hd] at c4
  clear D hF
  go_enter Tryz.func47, Tryz.ntmps47
  go_wp2
  go_ret
  exact ⟨rfl, rfl⟩
/-- List of a Disk, dead or not. -/
theorem list_any {F : Nat → Prop} {R : Nat} {S : St} {T : RSt} {w : World} (h : Held F w R S) (r : Rel S T) (hz : ∀ x ∈ T.now, x.1.size ≤ 1000) :
    Calls Tryz.prog 47 #[.pointer (some ⟨R, 0, none⟩)] w fun e w' => ∃ v, e = .returned v ∧ w'.ownsRow w.heap.size 9 1 v (listT T).length (strC (listT T)) ∧ Below w.heap.size w w' := by
  cases hd : T.dead with
  | true =>
    refine (list_dead h (by rw [r.dead, hd])).mono ?_
    rintro e w' ⟨rfl, rfl⟩
    have e : listT T = [] := by unfold listT; rw [hd]; rfl
    rw [e]
    exact ⟨_, rfl, World.ownsRow_nil _ _ _ _, Below.refl _ _⟩
  | false =>
    have e : listT T = T.now := by unfold listT; rw [hd]; rfl
    have hn := names_rel r
    refine (list_h h (by rw [r.dead, hd]) (by rw [r.calls]; have := r.ok.cal; omega) (fun l hl => ?_)).mono ?_
    · rw [hn] at hl
      obtain ⟨x, hx, rfl⟩ := List.mem_map.1 hl
      have h1 := hz x hx
      have h2 : x.1.data.toList.length = x.1.size := by rw [Array.length_toList]; rfl
      omega
    · rintro e' w' ⟨so, sc, rfl, o, _, b⟩
      rw [e]
      have hs : (namesL S).map encStr = strC T.now := by
        rw [hn]
        unfold strC
        rw [List.map_map]
        rfl
      have hl : (namesL S).length = T.now.length := by rw [hn, List.length_map]
      rw [hs, hl] at o
      rw [hl]
      exact ⟨_, rfl, o, b⟩

end Go.Proofs.YtfogfpanfhmijaaGreat.Clep

/- What the statements' own function Same answers of a Disk and the document's Disk that stand alike: true, in new memory alone (a walk). -/
namespace Go.Proofs.YtfogfpanfhmijaaGreat.Clep
open Go.RowKit Go.Maps Go.Sort Go.Shelf
set_option linter.unusedVariables false

theorem bsOf_range (d : ByteArray) : ∀ z ∈ bsOf d, 0 ≤ z ∧ z < 256 := by
  intro z hz
  unfold bsOf at hz
  obtain ⟨b, _, rfl⟩ := List.mem_map.1 hz
  have := UInt8.toNat_lt b
  exact ⟨by omega, by omega⟩
theorem read_range {S : St} {T : RSt} (h : Rel S T) (s : ByteArray) : ∀ z ∈ (readS S s).2, 0 ≤ z ∧ z < 256 := by
  unfold readS
  split
  · intro z hz; cases hz
  · split
    · intro z hz; cases hz
    · rcases atF_cases s T.now 0 with hA | ⟨k, hk, hA⟩
      · rw [(h.lookN hA).2]
        intro z hz; cases hz
      · rw [Nat.zero_add] at hA
        obtain ⟨j, x, _, _, _, _, n3⟩ := h.lookS hk hA
        rw [n3]
        exact bsOf_range _
structure Wd (w : World) (Q : Nat) (C : Int) (D : Bool) (W : World) : Prop where
  bel : Below w.heap.size w W
  c5 : W.cell? ⟨Q, 5, none⟩ = some (.int .i64 C)
  c8 : W.cell? ⟨Q, 8, none⟩ = some (.bool D)
theorem Wd.full {w : World} {Q : Nat} {C : Int} {D : Bool} {W : World} (h : Wd w Q C D W) : Wd w Q C D W ∧ W.cell? ⟨Q, 5, none⟩ = some (.int .i64 C) ∧ W.cell? ⟨Q, 8, none⟩ = some (.bool D) := ⟨h, h.c5, h.c8⟩
theorem Wd.drew {w : World} {Q : Nat} {C : Int} {D : Bool} {W : World} (h : Wd w Q C D W) : Wd w Q C D W.drew := ⟨h.bel.drew, h.c5, h.c8⟩
theorem Wd.below {w : World} {Q : Nat} {C : Int} {D : Bool} {W W' : World} (h : Wd w Q C D W) (hQ : Q < w.heap.size) (hb : Below W.heap.size W W') : Wd w Q C D W' :=
  ⟨h.bel.trans (hb.mono h.bel.size), by rw [hb.cell (p := ⟨Q, 5, none⟩) (Nat.lt_of_lt_of_le hQ h.bel.size)]; exact h.c5, by rw [hb.cell (p := ⟨Q, 8, none⟩) (Nat.lt_of_lt_of_le hQ h.bel.size)]; exact h.c8⟩
theorem str_cell {w : World} {B n : Nat} {v : Value} {l : List (ByteArray × Int)} (h : w.ownsRow B 9 1 v n (strC l)) (hl : l.length = n) : ∃ so sc, v = .slice so n sc ∧ n ≤ sc ∧ (0 < n → ∃ g, so = some ⟨g, 0, none⟩ ∧ B ≤ g ∧ ∀ i (hi : i < l.length), w.cell? ⟨g, i, none⟩ = some (.string (l[i]'hi).1)) := by
  have h0 := h
  obtain ⟨h1, ⟨rfl, h3⟩ | ⟨g, cap, cur, rfl, hg, hh, hnc, hcm, hcs, hx⟩⟩ := h
  · exact ⟨none, 0, by rw [h3], by omega, fun h => by omega⟩
  · refine ⟨_, cap, rfl, hnc, fun _ => ⟨g, rfl, hg, fun i hi => ?_⟩⟩
    have hc := World.ownsRow.cells h0 (g := g) rfl i (.string (l[i]'hi).1) (by simp [strC, List.getElem?_eq_getElem hi])
    rwa [add_plain, Nat.zero_add] at hc

set_option maxHeartbeats 4000000 in
set_option maxRecDepth 8000 in
theorem same_any {F : Nat → Prop} {R Q : Nat} {S : St} {T : RSt} {P : Nat → Prop} {fv nv lv ov : Value} {w : World} (hd : Held F w R S) (hr : RefIs w Q T P fv nv lv ov) (r : Rel S T) (hz : ∀ x ∈ T.now, x.1.size ≤ 100) :
    Calls Tryz.prog 13 #[.pointer (some ⟨R, 0, none⟩), .pointer (some ⟨Q, 0, none⟩)] w fun e w' => e = .returned (.bool true) ∧ Below w.heap.size w w' := by
  have kp : ∀ W, Below w.heap.size w W → Held F W R S ∧ RefIs W Q T P fv nv lv ov := fun W hb => ⟨(hd.same hb).1, hr.keep (fun i _ hi => hb.block i hi) (fun i hp _ => hp)⟩
  have hcal : S.calls ≤ 1099511627776 := by rw [r.calls]; have := r.ok.cal; omega
  have hQ := hr.lt
  have cL1 := hide (list_any hd r (fun x hx => by have := hz x hx; omega))
  have cL2 := hide (fun W (hb : Below w.heap.size w W) => listT_any Q T P fv nv lv ov W (kp W hb).2)
  have cU1 := hide (fun W (hb : Below w.heap.size w W) => used_h (kp W hb).1 hcal)
  have cU2 := hide (fun W (hb : Below w.heap.size w W) => UsedT_any Q T P fv nv lv ov W (kp W hb).2)
  have cC := hide (fun W (hb : Below w.heap.size w W) => calls_h (kp W hb).1)
  have cD := hide (fun W (hb : Below w.heap.size w W) => dead_h (kp W hb).1)
  have cR1 := hide (fun W (hb : Below w.heap.size w W) (s : ByteArray) (hs : s.size ≤ 100) => read_h (E := (readS S s).1) (zs := (readS S s).2) s rfl (kp W hb).1 (show s.size ≤ 70368744177664 by omega))
  have cR2 := hide (fun W (hb : Below w.heap.size w W) (s : ByteArray) (hs : s.size ≤ 100) => readT_any Q T P fv nv lv ov s W (kp W hb).2 hs)
  have eU : (((if S.dead then 0 else usedS S : Nat)) : Int) = (if T.dead then 0 else (usedT T : Int)) := by rw [r.dead, used_rel r]; split <;> rfl
  rw [eU] at cU1
  rw [r.calls] at cC
  rw [r.dead] at cD
  have hL : (listT T).length ≤ 1000 := by unfold listT; split; simp; have := r.ok.nnw; have := r.ok.cal; omega
  have hLm : ∀ x ∈ listT T, x.1.size ≤ 100 := fun x hx => by unfold listT at hx; split at hx; cases hx; exact hz x hx
  have RR := hide (fun s => read_rel r s)
  have RG := hide (fun s => read_range r s)
  obtain ⟨c5, _, _, c8, _⟩ := hr.row.cells
  generalize (if T.dead then 0 else (usedT T : Int)) = U at *
  generalize (T.calls : Int) = C at *
  generalize T.dead = DD at *
  clear hd hr kp hcal eU hz
  go_enter Tryz.func13, Tryz.ntmps13
  go_wp2_with fail
  refine cL1.out.mono ?_
  rintro e w1 ⟨v1, rfl, o1, b1⟩
  go_wp2_with fail
  refine (cL2.out w1 b1).mono ?_
  rintro e w2 ⟨v2, rfl, o2, b2'⟩
  have o1' := row_below o1 b2'
  have b2 := b1.trans (b2'.mono b1.size)
  obtain ⟨s1, k1, rfl, x1, y1⟩ := str_cell o1' rfl
  obtain ⟨s2, k2, rfl, x2, y2⟩ := str_cell o2 rfl
  have Y1 := hide y1
  have Y2 := hide y2
  have B2 := hide b2
  have hQ2 : Q < w2.heap.size := Nat.lt_of_lt_of_le hQ b2.size
  have W2 := Wd.full (⟨Below.refl w2.heap.size w2, (b2.cell (p := ⟨Q, 5, none⟩) hQ).trans c5, (b2.cell (p := ⟨Q, 8, none⟩) hQ).trans c8⟩ : Wd w2 Q C DD w2)
  have TR := hide (show ∀ W, Below w2.heap.size w2 W → Below w.heap.size w W from fun W h => b2.trans (h.mono b2.size))
  clear o1 o1' o2 b1 b2' b2 y1 y2 cL1 cL2 c5 c8
  generalize hLL : listT T = L at *
  have HLM := hide hLm
  clear hLm hLL
  go_wp2_with fail
  go_region_held_law (fun W => Wd w2 Q C DD W ∧ W.cell? ⟨Q, 5, none⟩ = some (.int .i64 C) ∧ W.cell? ⟨Q, 8, none⟩ = some (.bool DD))
    (first | assumption | exact (Wd.drew (And.left (by assumption))).full | exact (Wd.below (And.left (by assumption)) hQ2 (by assumption)).full)
    (first
      | (go_at_call 49; refine (cU1.out _ (TR.out _ (Wd.bel (And.left (by assumption))))).mono ?_; rintro e w' ⟨rfl, _, hb⟩)
      | (go_at_call 50; refine (cU2.out _ (TR.out _ (Wd.bel (And.left (by assumption))))).mono ?_; rintro e w' ⟨rfl, hb⟩)
      | (go_at_call 17; refine (cC.out _ (TR.out _ (Wd.bel (And.left (by assumption))))).mono ?_; rintro e w' ⟨rfl, rfl⟩)
      | (go_at_call 51; refine (cD.out _ (TR.out _ (Wd.bel (And.left (by assumption))))).mono ?_; rintro e w' ⟨rfl, rfl⟩))
  all_goals
    have WW : Wd w2 Q C DD w' := And.left (by assumption)
    have BW := hide WW.bel
    clear WW W2 cU1 cU2 cC cD
    go_wp2
    go_loopw [7] (fun i wr => ∃ k : Nat, i = .int .i64 k ∧ k ≤ L.length ∧ Hid (Below w2.heap.size w2 wr)) (fun i _ => L.length - (intOf i).toNat)
    case atStart => exact ⟨0, rfl, by omega, BW⟩
    case round =>
      obtain ⟨k, rfl, hk, BR⟩ := hrel
      by_cases hlt : k < L.length
      · obtain ⟨g1, rfl, hg1, q1⟩ := Y1.out (by omega)
        obtain ⟨g2, rfl, hg2, q2⟩ := Y2.out (by omega)
        have m1 := q1 k hlt
        have m2 := q2 k hlt
        have l1 := World.block_lt_of_cell? w2 _ m1
        have l2 := World.block_lt_of_cell? w2 _ m2
        have n1 := (BR.out.cell (p := ⟨g1, k, none⟩) l1).trans m1
        have n2 := (BR.out.cell (p := ⟨g2, k, none⟩) l2).trans m2
        have hsz := HLM.out _ (List.getElem_mem hlt)
        have hlt' : (k : Int) < (L.length : Int) := by omega
        clear q1 q2
        generalize (L[k]'hlt).1 = nm at *
        go_wp2_with fail
        refine (cR1.out wr (TR.out _ BR.out) nm hsz).mono ?_
        rintro e w5 ⟨ao, cap, rfl, hO5, _, b5⟩
        have n2' := (b5.cell (p := ⟨g2, k, none⟩) (Nat.lt_of_lt_of_le l2 BR.out.size)).trans n2
        have B5 := hide (BR.out.trans (b5.mono BR.out.size))
        obtain ⟨er, rr⟩ := RR.out nm
        have R2 := hide (cR2.out w5 (TR.out _ B5.out) nm hsz)
        have hrg : ∀ z ∈ (readS S nm).2, 0 ≤ z ∧ z < 256 := RG.out nm
        obtain ⟨ao', cap', hv, hcv⟩ := own_conv hO5 hrg _ rfl
        injection hv with hv1 hv2 hv3
        subst hv1 hv3
        clear hv2
        rw [rr] at hcv
        have HCV := hide hcv
        have ER := hide er
        generalize (readS S nm).2.length = zl at *
        generalize (readT T nm).1 = X at *
        generalize (readT T nm).2 = ee at *
        rw [er]
        clear er rr hrg hO5 hcv
        go_wp2_with fail
        refine R2.out.mono ?_
        rintro e w6 ⟨rfl, b6⟩
        have p1 := (b6.cell (p := ⟨g1, k, none⟩) (Nat.lt_of_lt_of_le (Nat.lt_of_lt_of_le l1 BR.out.size) b5.size)).trans ((b5.cell (p := ⟨g1, k, none⟩) (Nat.lt_of_lt_of_le l1 BR.out.size)).trans n1)
        have p2 := (b6.cell (p := ⟨g2, k, none⟩) (Nat.lt_of_lt_of_le (Nat.lt_of_lt_of_le l2 BR.out.size) b5.size)).trans n2'
        have B6 := hide (B5.out.trans (b6.mono B5.out.size))
        have hcn : ∀ n, (convert 37 9 (.slice ao zl cap)).run Tryz.prog (w6.drewN n) = .ok (.string X) (w6.drewN n) := fun n => HCV.out.out _ (b6.trans ((drewN_below w6 n).mono b6.size))
        clear n1 n2 n2' R2 b5 b6 HCV
        go_wp2_with fail
        go_quiet (fail)
        have B9 := hide (B6.out.trans ((drewN_below w6 nq).mono B6.out.size))
        go_wp2
        go_roundw
        case rel => exact ⟨k + 1, by go_num, by omega, B9⟩
        case measure => simp [intOf]; omega
      · have hke : ¬ ((k : Int) < (L.length : Int)) := by omega
        go_wp2
        go_ret
        exact ⟨rfl, TR.out _ BR.out⟩

end Go.Proofs.YtfogfpanfhmijaaGreat.Clep

/- What the statements' own function Bytes answers, for every number (a walk); an op by value. -/
namespace Go.Proofs.YtfogfpanfhmijaaGreat.Clep
open Go.RowKit Go.Maps
set_option linter.unusedVariables false

set_option maxHeartbeats 400000 in
theorem bytes_all (n : Int) (L : Nat) (w : World) (hL : L ≤ 1099511627776) (hn : -9223372036854775808 ≤ n ∧ n ≤ 9223372036854775807) :
    Calls Tryz.prog 19 #[.int .i64 n, .int .i64 L] w fun e w' => e = .returned (.string (strOfNums (byt n L))) ∧ Below w.heap.size w w' := by
  obtain ⟨i0, hi, hz0, hz1, hz2⟩ := info_parts info5
  go_enter Tryz.func19, Tryz.ntmps19
  go_wp2_with (first
    | (at_make; refine wpList_make_full _ rfl _ _ 37 rfl w.heap.size 5 i0 (.int .u8 0) 1 Tryz.underlying37 hi hz0 hz1 .i64 .i64 _ _ L rfl rfl rfl rfl ?c1 ?c2 ?c3 ?_)
    | fail)
  case c1 => rw [hz2]; omega
  case c2 => unfold maxLen; omega
  case c3 => exact Nat.le_refl _
  intro w1 hown hg
  rw [zerosN] at hown
  have HB := hide ((Below.refl _ w).grown hg (Nat.le_refl _) (fun k hk => by cases hk))
  have HO := hide hown
  clear hown hg
  go_wp2_with fail
  go_loopw [11] (fun i wr => ∃ k : Nat, k ≤ L ∧ i = .int .i64 k ∧ Hid (wr.ownsRow w.heap.size 5 1 (.slice (some ⟨w.heap.size, 0, none⟩) L L) L (bv (byt n k ++ List.replicate (L - k) 0))) ∧ Hid (Below w.heap.size w wr)) (fun i _ => L - (intOf i).toNat)
  case atStart => exact ⟨0, by omega, rfl, hide (by simpa [byt] using HO.out), HB⟩
  case round =>
    obtain ⟨k, hk, rfl, hown, hbel⟩ := hrel
    by_cases hlt : k < L
    · have hcl : ∃ v, wr.cell? ⟨w.heap.size, k, none⟩ = some v := by
        rw [hown.out.cellAt k (by omega)]
        exact ⟨_, List.getElem?_eq_getElem (by rw [bv_len]; simp [byt_len]; omega)⟩
      obtain ⟨v0, hcl⟩ := hcl
      have hfr := hown.out.frozenAt k
      have HS := hide (hown.out.stored k (.int .u8 ((n + 3 * (k : Int)) % 256)))
      have HE := hide (set_byt n L k hlt)
      have hw1 : wrap64 (n + 3 * (k : Int)) % 256 = (n + 3 * (k : Int)) % 256 := by unfold wrap64; omega
      go_wp2
      go_roundw
      case rel => exact ⟨k + 1, by omega, by go_num, hide (by have := HS.out.1; rw [HE.out] at this; exact this), hide (hbel.out.grown HS.out.2 hbel.out.size (fun j hj => by cases hj; exact Nat.le_refl _))⟩
      case measure => simp [intOf]; omega
    · have h8 : k = L := by omega
      subst h8
      have hO : Own wr w.heap.size (.slice (some ⟨w.heap.size, 0, none⟩) k k) (byt n k) := by
        unfold Own; rw [byt_len]; simpa using hown.out
      obtain ⟨ao, cap, hv, hcv⟩ := own_conv hO (byt_range n k) k (byt_len n k)
      cases hv
      have hc := hcv.out _ (Below.refl _ _)
      clear hO hcv
      go_wp2
      go_ret
      exact ⟨rfl, hbel.out⟩


end Go.Proofs.YtfogfpanfhmijaaGreat.Clep
