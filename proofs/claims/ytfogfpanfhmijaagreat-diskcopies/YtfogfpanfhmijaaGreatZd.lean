/- Rows of calls of a Disk (Op: two numbers, two texts, a row of numbers) that come in: opened. No conditions. -/
import Derived.Test.YtfogfpanfhmijaaGreatYx
import Derived.Deep.Slices
import Derived.ChangeOld
import Derived.ProofKit
import Derived.OpenShut
import Derived.ChangeSlices
import Derived.Test.YtfogfpanfhmijaaGreatZc
import Derived.Test.YtfogfpanfhmijaaGreatYz
import Derived.Test.YtfogfpanfhmijaaGreatZa
namespace Go.Proofs.YtfogfpanfhmijaaGreat.Clep
open Go.RowKit Go.ChangeShapes Go.WideShapes Go.Deep
set_option linter.unusedVariables false

structure OpR where
  kd : Int
  n : Int
  a : ByteArray
  b : ByteArray
  ka : Option Addr
  kc : Nat
  ks : List Int
/-- A call of the row, as it lies in w. -/
structure OpR.Ok (w : World) (o : OpR) : Prop where
  kd : -9223372036854775808 ≤ o.kd ∧ o.kd ≤ 9223372036854775807
  n : -9223372036854775808 ≤ o.n ∧ o.n ≤ 9223372036854775807
  a : o.a.size ≤ 9223372036854775807
  b : o.b.size ≤ 9223372036854775807
  ks : NumV (· < w.heap.size) w (.slice o.ka o.ks.length o.kc) o.ks
def OpR.cells (o : OpR) : List Value := [.int .i64 o.kd, .int .i64 o.n, .string o.a, .string o.b, .slice o.ka o.ks.length o.kc]
def Ops4 (w : World) (ao : Option Addr) (len cap : Nat) (l : List OpR) : Prop :=
  l.length = len ∧ (len ≤ cap ∧ (ao = none → len = 0 ∧ cap = 0)) ∧ (∀ x ∈ l, x.Ok w) ∧
    (0 < len → ∃ b off, ao = some ⟨b, off, none⟩ ∧ ∀ i x, l[i]? = some x → ∀ j u, x.cells[j]? = some u → w.cell? ⟨b, off + i * 5 + j, none⟩ = some u)
theorem list5r {α : Type} {cs : List α} (h : cs.length = 5) : ∃ c0 c1 c2 c3 c4, cs = [c0, c1, c2, c3, c4] := by
  match cs, h with
  | [c0, c1, c2, c3, c4], _ => exact ⟨c0, c1, c2, c3, c4, rfl⟩
theorem cellsOp : Tryz.prog.cellsOf 30 = 5 := by kernel_rfl
theorem cellsI3 : Tryz.prog.cellsOf 3 = 1 := by kernel_rfl
theorem cellsS9 : Tryz.prog.cellsOf 9 = 1 := by kernel_rfl
theorem cellsL23 : Tryz.prog.cellsOf 23 = 1 := by kernel_rfl

section
variable {H : Type} {enc : TypeId × Value → H} {W : World} {base : Nat} {spare : Nat → Bool} {held : Bool}

set_option maxRecDepth 100000 in
theorem op4_cells {fuel : Nat} {cs : List Value} {x : DataW H × List MemPlace} (h : DataW.trod enc Tryz.prog W base spare held fuel 30 cs = some x) :
    ∃ o : OpR, cs = o.cells ∧ o.Ok W := by
  obtain ⟨xs, n, _, _, hl, hlen, hf⟩ := DataW.trod_struct Tryz.underlying30 h
  rw [cellsOp] at hl
  obtain ⟨c0, c1, c2, c3, c4, rfl⟩ := list5r hl
  obtain ⟨x0, x1, x2, x3, x4, rfl⟩ := list5r (show xs.length = 5 from hlen)
  have g0 := hf 0 _ rfl
  have g1 := hf 1 _ rfl
  have g2 := hf 2 _ rfl
  have g3 := hf 3 _ rfl
  have g4 := hf 4 _ rfl
  simp [cellsI3, cellsS9, cellsL23] at g0 g1 g2 g3 g4
  obtain ⟨K, e0, _, w0⟩ := DataW.trod_int Tryz.underlying3 g0
  obtain ⟨N, e1, _, w1⟩ := DataW.trod_int Tryz.underlying3 g1
  obtain ⟨A, e2, _, w2⟩ := DataW.trod_string Tryz.underlying9 g2
  obtain ⟨Bb, e3, _, w3⟩ := DataW.trod_string Tryz.underlying9 g3
  cases e0; cases e1; cases e2; cases e3
  unfold maxLen at w2 w3
  rcases open_ints Tryz.underlying23 Tryz.underlying3 cellsI3 g4 with ⟨e4, _⟩ | ⟨ad, len, cap, zs, e4, _, hlc, hm, hz, _, hcell, hwz⟩
  · cases e4
    exact ⟨⟨K, N, A, Bb, none, 0, []⟩, rfl, i64_bounds w0, i64_bounds w1, w2, w3, ⟨none, 0, rfl, Nat.le_refl _, by omega, by simp, fun h => by simp at h⟩⟩
  · cases e4
    unfold maxLen at hm
    have hlz : len ≤ zs.length := by rw [hz]; split <;> omega
    have hlt : (zs.take len).length = len := by rw [List.length_take]; omega
    refine ⟨⟨K, N, A, Bb, some ad, cap, zs.take len⟩, by show _ = [_, _, _, _, _]; rw [hlt], i64_bounds w0, i64_bounds w1, w2, w3, ?_⟩
    refine ⟨some ad, cap, rfl, by rw [hlt]; exact hlc, hm, fun k hk => hwz k (List.mem_of_mem_take hk), fun h0 => ?_⟩
    rw [hlt] at h0
    obtain ⟨b, off, spot⟩ := ad
    have hc := hcell 0 (by omega)
    have hspot : spot = none := by simpa [Addr.add] using World.cell?_spot hc
    subst hspot
    refine ⟨b, off, rfl, World.block_lt_of_cell? W _ hc, fun i hi => ?_⟩
    rw [hlt] at hi
    have := hcell i (by omega)
    rw [add_plain] at this
    rw [this]
    simp [List.getD, hi]

set_option maxRecDepth 100000 in
theorem open_ops4 {a : Option Addr} {len cap : Nat} {d : DataW H} {p : List MemPlace} (h : DataW.Trod enc Tryz.prog W base spare held 22 (.slice a len cap) d p) :
    ∃ l, Ops4 W a len cap l ∧ len ≤ 9223372036854775807 := by
  haveI : Inhabited OpR := ⟨⟨0, 0, ⟨#[]⟩, ⟨#[]⟩, none, 0, []⟩⟩
  obtain ⟨fuel, hf⟩ := h
  rcases open_slice Tryz.underlying22 hf with ⟨hcs, _⟩ | ⟨x, l, c, m, n, D, Pl, hcs, _, hl, hm, hmm, _, hx⟩
  · simp [Value.cells] at hcs
    obtain ⟨rfl, rfl, rfl⟩ := hcs
    exact ⟨[], ⟨rfl, ⟨Nat.le_refl _, fun _ => ⟨rfl, rfl⟩⟩, by simp, fun h => by omega⟩, by omega⟩
  · simp [Value.cells] at hcs
    obtain ⟨rfl, rfl, rfl⟩ := hcs
    have hlm : len ≤ m := by rw [hmm]; split <;> omega
    have each : ∀ i, i < len → ∃ y : OpR, y.Ok W ∧ (∀ j u, y.cells[j]? = some u → W.cell? ((x.add (i * 5)).add j) = some u) := by
      intro i hi
      obtain ⟨cs', h1, h2⟩ := hx i (by omega)
      rw [cellsOp] at h1
      obtain ⟨y, e, hy⟩ := op4_cells h2
      obtain ⟨_, hlen, hc⟩ := World.cells?_some h1
      refine ⟨y, hy, fun j u hu => ?_⟩
      rw [← e] at hu
      rw [hc j (by have := (List.getElem?_eq_some_iff.1 hu).1; omega)]
      exact hu
    obtain ⟨q, hq⟩ := choose_lt each
    refine ⟨(List.range len).map q, ⟨by simp, ⟨hl, fun h => by cases h⟩, ?_, fun h0 => ?_⟩, by unfold maxLen at hm; omega⟩
    · intro y hy
      obtain ⟨i, hi, rfl⟩ := List.mem_map.1 hy
      exact (hq i (List.mem_range.1 hi)).1
    · obtain ⟨b, off, spot⟩ := x
      have hc := (hq 0 h0).2 0 _ rfl
      have hspot : spot = none := by simpa [Addr.add] using World.cell?_spot hc
      subst hspot
      refine ⟨b, off, rfl, fun i y hi => ?_⟩
      have hil : i < len := by
        have := (List.getElem?_eq_some_iff.1 hi).1
        simpa using this
      have : q i = y := by simpa [hil] using hi
      subst this
      intro j u hu
      have g := (hq i hil).2 j u hu
      simp only [add_plain] at g
      exact g
end

end Go.Proofs.YtfogfpanfhmijaaGreat.Clep

/- A call of both Disks (the statements' own function Do), whatever its kind: true, and both stand alike behind it. Two new Disks stand alike. -/
namespace Go.Proofs.YtfogfpanfhmijaaGreat.Clep
open Go.RowKit Go.Maps
set_option linter.unusedVariables false

theorem do_all {B : Nat} {w : World} {R : Nat} {S : St} {Q : Nat} {T : RSt} (p : Pair B w R S Q T) (r : Rel S T) (nm : NmOk T) (hc : T.calls < 1000) (kd n : Int) (hn : -9223372036854775808 ≤ n ∧ n ≤ 9223372036854775807) (a b : ByteArray) (ka : Option Addr) (kl kc : Nat) (ks : List Int) (ha : a.size ≤ 100) (hb : b.size ≤ 100)
    (hl : ks.length = kl) (hk : NumV (· < B) w (.slice ka kl kc) ks) (hkl : kl ≤ 100) :
    Calls Tryz.prog 8 #[.pointer (some ⟨R, 0, none⟩), .pointer (some ⟨Q, 0, none⟩), .agg #[.int .i64 kd, .int .i64 n, .string a, .string b, .slice ka kl kc]] w fun e w' => e = .returned (.bool true) ∧ Done B R Q T w w' := by
  show Calls Tryz.prog 8 #[.pointer (some ⟨R, 0, none⟩), .pointer (some ⟨Q, 0, none⟩), opV kd n a b (.slice ka kl kc)] w fun e w' => e = .returned (.bool true) ∧ Done B R Q T w w'
  subst hl
  by_cases h : kd < 0 ∨ 9 < kd
  · exact do10 p r nm hc kd n h a b ka _ kc
  · have hd : kd = 0 ∨ kd = 1 ∨ kd = 2 ∨ kd = 3 ∨ kd = 4 ∨ kd = 5 ∨ kd = 6 ∨ kd = 7 ∨ kd = 8 ∨ kd = 9 := by omega
    rcases hd with rfl | rfl | rfl | rfl | rfl | rfl | rfl | rfl | rfl | rfl
    · exact do0 p r nm hc n a b ka _ kc ha
    · exact do1 p r nm hc n hn a b ka _ kc ha
    · exact do2 p r nm hc n a b ka _ kc ha hb
    · exact do3 p r nm hc n a b ka _ kc ha hb
    · exact do4 p r nm hc n a b ka _ kc ha hb
    · exact do5 p r nm hc n a b ka _ kc
    · exact do6 p r nm n a b ka _ kc ha
    · exact do7 p r nm n hn a b ka _ kc
    · exact do8 p r nm n hn a b ka _ kc
    · exact do9 p r nm n a b ka kc ks hk (by omega)

theorem new_z (n : Int) (w : World) (hn : n ≤ 9223372036854775807) :
    Calls Tryz.prog 5 #[.int .i64 n] w fun e w' => ∃ R, e = .returned (.pointer (some ⟨R, 0, none⟩)) ∧ Held (· < w.heap.size) w' R (newS (max n 0).toNat) ∧ Below w.heap.size w w' := by
  have hmm := @run_makeMap Tryz.prog
  obtain ⟨m, hm⟩ := Int.eq_ofNat_of_zero_le (show 0 ≤ max n 0 by omega)
  have HM := hide (show (max n 0).toNat = m by omega)
  have NI := hide (new_is m (by omega) w)
  go_enter Tryz.func5, Tryz.ntmps5
  go_wp2
  go_ret
  obtain ⟨G, h1, h2⟩ := NI.out
  rw [HM.out]
  have hb : Below w.heap.size w ((((w.alloc (.map #[] 0)).alloc (.map #[] 0)).alloc (.map #[] 0)).alloc (.cells #[.int .i64 m, .int .i64 0, .int .i64 0, .int .i64 0, .bool false, .int .i64 0, .map (some w.heap.size), .map (some (w.heap.size + 1)), .map (some (w.heap.size + 2)), .slice none 0 0] 51)) := (((((Below.refl _ w).alloc (Nat.le_refl _) _).alloc (by simp) _).alloc (by simp; omega) _).alloc (by simp; omega) _)
  exact ⟨_, rfl, ⟨G, h1, fun i hi => ⟨Nat.lt_of_lt_of_le hi hb.size, h2 i hi⟩⟩, hb⟩
theorem pair_new {B : Nat} {w1 w2 : World} {R Q : Nat} {S : St} {T : RSt} (hB : B ≤ w1.heap.size) (h : Held (· < B) w1 R S) (hr : RIs w2 Q T (fun i => w1.heap.size ≤ i)) (b : Below w1.heap.size w1 w2) : Pair B w2 R S Q T := by
  refine ⟨fun i => w1.heap.size ≤ i, hr, fun i hi => Nat.le_trans b.size hi, fun i hi => Nat.le_trans hB hi, (h.wide b).less fun i hi => ?_, Nat.le_trans hB b.size⟩
  rcases hi with hi | hi
  · exact .inl hi
  · exact .inr ⟨hi.1, hi.2⟩
/-- One of the row, as it lies in w. -/
theorem Ops4.get {w : World} {ao : Option Addr} {len cap : Nat} {l : List OpR} (h : Ops4 w ao len cap l) {k : Nat} (hk : k < len) : ∃ (o : OpR) (b off : Nat), ao = some ⟨b, off, none⟩ ∧ b < w.heap.size ∧ o.Ok w ∧
    w.cell? ⟨b, off + k * 5, none⟩ = some (.int .i64 o.kd) ∧ w.cell? ⟨b, off + k * 5 + 1, none⟩ = some (.int .i64 o.n) ∧ w.cell? ⟨b, off + k * 5 + 2, none⟩ = some (.string o.a) ∧ w.cell? ⟨b, off + k * 5 + 3, none⟩ = some (.string o.b) ∧ w.cell? ⟨b, off + k * 5 + 4, none⟩ = some (.slice o.ka o.ks.length o.kc) := by
  obtain ⟨hl, _, hok, hc⟩ := h
  obtain ⟨b, off, e, hcl⟩ := hc (by omega)
  have hy := List.getElem?_eq_getElem (l := l) (i := k) (by omega)
  have g := hcl k _ hy
  have g0 := g 0 _ rfl
  exact ⟨_, b, off, e, World.block_lt_of_cell? w _ g0, hok _ (List.mem_of_getElem? hy), g0, g 1 _ rfl, g 2 _ rfl, g 3 _ rfl, g 4 _ rfl⟩

end Go.Proofs.YtfogfpanfhmijaaGreat.Clep

/- A Disk, its copy, and the document's Disk in one memory: what is done to the Disk is not done to the others. -/
namespace Go.Proofs.YtfogfpanfhmijaaGreat.Clep
open Go.RowKit Go.Maps
set_option linter.unusedVariables false

theorem same_pair {B : Nat} {w : World} {R : Nat} {S : St} {Q : Nat} {T : RSt} (p : Pair B w R S Q T) (r : Rel S T) (nm : NmOk T) :
    Calls Tryz.prog 13 #[.pointer (some ⟨R, 0, none⟩), .pointer (some ⟨Q, 0, none⟩)] w fun e w' => e = .returned (.bool true) ∧ Pair B w' R S Q T ∧ Below B w w' := by
  obtain ⟨F, hd, _, _, _⟩ := p.progW (Below.refl _ _)
  refine (same_p p r nm (Below.refl _ _) hd).mono ?_
  rintro e w' ⟨rfl, b⟩
  exact ⟨rfl, p.below b⟩
theorem crash_p {B : Nat} {w : World} {R : Nat} {S : St} {Q : Nat} {T : RSt} (p : Pair B w R S Q T) (r : Rel S T) (ka : Option Addr) (kl kc : Nat) (ks : List Int) (hl : ks.length = kl) (hk : NumV (· < B) w (.slice ka kl kc) ks) :
    Calls Tryz.prog 10 #[.pointer (some ⟨R, 0, none⟩), .slice ka kl kc] w fun e w' => e = .returned (.tuple #[]) ∧ Pair B w' R (crashS S ks) Q T ∧ Below B w w' := by
  subst hl
  obtain ⟨F, hd, hB, _, cl⟩ := p.progW (Below.refl _ _)
  refine (crash_h ka ks.length kc ks rfl hd (by rw [r.calls]; have := r.ok.cal; omega) (hk.wider hB)).mono ?_
  rintro e w' ⟨rfl, h, s⟩
  exact ⟨rfl, cl w' _ h s⟩
theorem crash_r {B : Nat} {w : World} {R : Nat} {S : St} {Q : Nat} {T : RSt} (p : Pair B w R S Q T) (ka : Option Addr) (kl kc : Nat) (ks : List Int) (hl : ks.length = kl) (hk : NumV (· < B) w (.slice ka kl kc) ks) (hkl : kl ≤ 1000) :
    Calls Tryz.prog 14 #[.pointer (some ⟨Q, 0, none⟩), .slice ka kl kc] w fun e w' => e = .returned (.tuple #[]) ∧ Pair B w' R S Q (crashT T ks) ∧ Below B w w' := by
  subst hl
  obtain ⟨P, fv, nv, lv, ov, rf, hP, hlow, cl⟩ := p.refd
  refine (crashT_any Q T P fv nv lv ov ka kc ks w rf hP (hk.wider hlow) hkl).mono ?_
  rintro e w' ⟨rfl, h, g⟩
  exact ⟨rfl, cl w' _ h g⟩
theorem copy_two {B : Nat} {w : World} {R : Nat} {S : St} {Q : Nat} {T : RSt} (p : Pair B w R S Q T) (r : Rel S T) :
    Calls Tryz.prog 9 #[.pointer (some ⟨R, 0, none⟩)] w fun e w' => ∃ Rc F, e = .returned (.pointer (some ⟨Rc, 0, none⟩)) ∧ Held F w' R S ∧ (∀ i, i < B → F i) ∧ (∀ W, Same F w' W → Pair B W Rc S Q T ∧ Below B w' W) ∧ Below B w w' := by
  refine (copy_p p r (Below.refl _ _)).mono ?_
  rintro e w1 ⟨Rc, rfl, hc, b1⟩
  obtain ⟨P, h⟩ := p
  have h2 := (h.below b1).1
  refine ⟨Rc, _, rfl, h2.held, fun i hi => .inl hi, fun W hs => ⟨?_, hs.below fun i hi => .inl hi⟩, (h.below b1).2⟩
  obtain ⟨fv, nv, lv, ov, rf⟩ := h.ref
  obtain ⟨G, D, hG⟩ := hc
  have hbase := h.base
  have s1 := b1.size
  have s2 := hs.size
  have D' : DiskIs W Rc S G := D.turn0 ⟨hs.size, fun i hi ht => hs.block i (.inr ⟨h.top i (by
    rcases Nat.lt_or_ge i w.heap.size with hl | hl
    · exact absurd (hG i hl).2 ht
    · exact hl), hi⟩)⟩
  refine ⟨fun i => (P i ∧ i < w.heap.size) ∨ W.heap.size ≤ i, ⟨fv, nv, lv, ov, rf.keep (fun i hp hi => (hs.block i (.inr ⟨hp, by omega⟩)).trans (b1.block i hi)) (fun i hp hi => .inl ⟨hp, hi⟩)⟩, fun i hi => .inr hi, fun i hi => ?_, ⟨G, D', fun i hi => ?_⟩, by omega⟩
  · rcases hi with hi | hi
    · exact h.low i hi.1
    · omega
  · rcases hi with hi | ⟨hi | hi, hl⟩
    · exact ⟨by omega, (hG i (by show i < w.heap.size; omega)).2⟩
    · exact ⟨hl, (hG i hi.2).2⟩
    · omega

end Go.Proofs.YtfogfpanfhmijaaGreat.Clep
