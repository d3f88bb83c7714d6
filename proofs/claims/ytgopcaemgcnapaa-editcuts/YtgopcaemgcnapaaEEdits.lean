/- Edits that come in: a Meta, an Edit by value, and a row of Edits, opened. No conditions. -/
import Derived.Test.YtgopcaemgcnapaaEBlk
import Derived.Deep.Slices
import Derived.ChangeOld
import Derived.ProofKit
import Derived.OpenShut
namespace Go.Proofs.Ytgopcaemgcnapaa.Clep
open Go.RowKit Go.ChangeShapes Go.WideShapes Go.Deep
set_option linter.unusedVariables false

/-- An Edit, and where its lists lie. -/
structure Er where
  da : Option Addr
  dn : Nat
  dc : Nat
  aa : Option Addr
  an : Nat
  ac : Nat
  E : Ed
def u64r (x : Int) : Prop := 0 ≤ x ∧ x ≤ 18446744073709551615
def i64r (x : Int) : Prop := -9223372036854775808 ≤ x ∧ x ≤ 9223372036854775807
/-- The Edit lies so in w; its numbers are numbers. -/
def Er.ok (w : World) (y : Er) : Prop := (Zs w y.da y.dn y.dc y.E.d ∧ y.dn ≤ 9223372036854775807) ∧ (Fs w y.aa y.an y.ac y.E.a ∧ y.an ≤ 9223372036854775807) ∧ i64r y.E.lg ∧ u64r y.E.fl ∧ u64r y.E.ct ∧ u64r y.E.at9 ∧ u64r y.E.ls
def Er.v (y : Er) : Value := edV y.da y.dn y.dc y.aa y.an y.ac y.E
def Er.cs (y : Er) : List Value := [.slice y.da y.dn y.dc, .slice y.aa y.an y.ac, .int .i64 y.E.lg, .int .u64 y.E.fl, .int .u64 y.E.ct, .int .u64 y.E.at9, .int .u64 y.E.ls]
theorem Er.ok.below {w w' : World} {B : Nat} {y : Er} (h : y.ok w) (hb : Below B w w') (hB : w.heap.size ≤ B) : y.ok w' := ⟨⟨h.1.1.below hb hB, h.1.2⟩, ⟨h.2.1.1.below hb hB, h.2.1.2⟩, h.2.2⟩
/-- The slice (ao, len, cap) leads to the Edits l. -/
def Es (w : World) (ao : Option Addr) (len cap : Nat) (l : List Er) : Prop :=
  l.length = len ∧ (len ≤ cap ∧ (ao = none → len = 0 ∧ cap = 0)) ∧ (∀ x ∈ l, x.ok w) ∧
    (0 < len → ∃ b off, ao = some ⟨b, off, none⟩ ∧ ∀ (i : Nat) (y : Er) (j : Nat) (u : Value), l[i]? = some y → y.cs[j]? = some u → w.cell? ⟨b, off + i * 7 + j, none⟩ = some u)
theorem es_nil (w : World) : Es w none 0 0 [] := ⟨rfl, ⟨Nat.le_refl _, fun _ => ⟨rfl, rfl⟩⟩, by simp, fun h => by omega⟩
theorem Es.below {w w' : World} {B : Nat} {ao : Option Addr} {len cap : Nat} {l : List Er} (h : Es w ao len cap l) (hb : Below B w w') (hB : w.heap.size ≤ B) : Es w' ao len cap l := by
  refine ⟨h.1, h.2.1, fun x hx => (h.2.2.1 x hx).below hb hB, fun h0 => ?_⟩
  obtain ⟨b, off, e, hc⟩ := h.2.2.2 h0
  refine ⟨b, off, e, fun i y j u hy hu => ?_⟩
  have hg := hc i y j u hy hu
  exact (hb.cell (p := ⟨b, off + i * 7 + j, none⟩) (Nat.lt_of_lt_of_le (World.block_lt_of_cell? w _ hg) hB)).trans hg
theorem es_at {w : World} {ao : Option Addr} {len cap : Nat} {l : List Er} (h : Es w ao len cap l) (k : Nat) (hk : k < len) : ∃ y b off, l[k]? = some y ∧ ao = some ⟨b, off, none⟩ ∧ y.ok w ∧
    w.cell? ⟨b, off + k * 7, none⟩ = some (.slice y.da y.dn y.dc) ∧ w.cell? ⟨b, off + k * 7 + 1, none⟩ = some (.slice y.aa y.an y.ac) ∧ w.cell? ⟨b, off + k * 7 + 2, none⟩ = some (.int .i64 y.E.lg) ∧ w.cell? ⟨b, off + k * 7 + 3, none⟩ = some (.int .u64 y.E.fl) ∧
    w.cell? ⟨b, off + k * 7 + 4, none⟩ = some (.int .u64 y.E.ct) ∧ w.cell? ⟨b, off + k * 7 + 5, none⟩ = some (.int .u64 y.E.at9) ∧ w.cell? ⟨b, off + k * 7 + 6, none⟩ = some (.int .u64 y.E.ls) := by
  obtain ⟨b, off, e, hc⟩ := h.2.2.2 (by omega)
  obtain ⟨y, hy⟩ : ∃ y, l[k]? = some y := ⟨_, List.getElem?_eq_getElem (by rw [h.1]; exact hk)⟩
  exact ⟨y, b, off, hy, e, h.2.2.1 y (List.mem_of_getElem? hy), hc k y 0 _ hy rfl, hc k y 1 _ hy rfl, hc k y 2 _ hy rfl, hc k y 3 _ hy rfl, hc k y 4 _ hy rfl, hc k y 5 _ hy rfl, hc k y 6 _ hy rfl⟩

theorem elist2 {α : Type} {cs : List α} (h : cs.length = 2) : ∃ c0 c1, cs = [c0, c1] := by
  match cs, h with
  | [c0, c1], _ => exact ⟨c0, c1, rfl⟩
theorem elist4 {α : Type} {cs : List α} (h : cs.length = 4) : ∃ c0 c1 c2 c3, cs = [c0, c1, c2, c3] := by
  match cs, h with
  | [c0, c1, c2, c3], _ => exact ⟨c0, c1, c2, c3, rfl⟩
theorem elist7 {α : Type} {cs : List α} (h : cs.length = 7) : ∃ c0 c1 c2 c3 c4 c5 c6, cs = [c0, c1, c2, c3, c4, c5, c6] := by
  match cs, h with
  | [c0, c1, c2, c3, c4, c5, c6], _ => exact ⟨c0, c1, c2, c3, c4, c5, c6, rfl⟩
theorem ecellsE : Try.prog.cellsOf 31 = 7 := by kernel_rfl
theorem ecellsF : Try.prog.cellsOf 29 = 2 := by kernel_rfl
theorem ecellsI : Try.prog.cellsOf 3 = 1 := by kernel_rfl
theorem ecellsU : Try.prog.cellsOf 24 = 1 := by kernel_rfl
theorem ecellsSI : Try.prog.cellsOf 22 = 1 := by kernel_rfl
theorem ecellsSF : Try.prog.cellsOf 23 = 1 := by kernel_rfl
theorem echoose {α : Type} [Inhabited α] {n : Nat} {P : Nat → α → Prop} (h : ∀ i, i < n → ∃ y, P i y) : ∃ q : Nat → α, ∀ i, i < n → P i (q i) := by
  refine ⟨fun i => if hi : i < n then Classical.choose (h i hi) else default, fun i hi => ?_⟩
  simp only [hi, dif_pos]
  exact Classical.choose_spec (h i hi)

section
variable {H : Type} {enc : TypeId × Value → H} {W : World} {base : Nat} {spare : Nat → Bool} {held : Bool}

set_option maxRecDepth 100000 in
theorem zs_trod {fuel : Nat} {cs : List Value} {x : DataW H × List MemPlace} (h : DataW.trod enc Try.prog W base spare held fuel 22 cs = some x) : ∃ a n c l, cs = [.slice a n c] ∧ Zs W a n c l ∧ n ≤ 9223372036854775807 := by
  rcases open_ints Try.underlying22 Try.underlying3 (by kernel_rfl) h with ⟨hcs, _⟩ | ⟨x, l, c, zs, hcs, _, hl, hm, hz, _, hcell, hwz⟩
  · exact ⟨none, 0, 0, [], hcs, zs_nil W, by omega⟩
  · have hzl : l ≤ zs.length := by rw [hz]; split <;> omega
    refine ⟨some x, l, c, zs.take l, hcs, ⟨by rw [List.length_take]; omega, ⟨hl, fun h => by cases h⟩, fun z hz' => i64_bounds (hwz z (List.mem_of_mem_take hz')), fun h0 => ?_⟩, by unfold maxLen at hm; omega⟩
    obtain ⟨b, off, spot⟩ := x
    have hc := hcell 0 (by omega)
    have hspot : spot = none := by simpa [Addr.add] using World.cell?_spot hc
    subst hspot
    refine ⟨b, off, rfl, fun i z hi => ?_⟩
    have hil : i < l := by have := (List.getElem?_eq_some_iff.1 hi).1; rw [List.length_take] at this; omega
    have := hcell i (by omega)
    rw [add_plain] at this
    rw [this]
    rw [List.getElem?_take_of_lt hil] at hi
    simp [List.getD, hi]

set_option maxRecDepth 100000 in
theorem file_cells {fuel : Nat} {cs : List Value} {x : DataW H × List MemPlace} (h : DataW.trod enc Try.prog W base spare held fuel 29 cs = some x) :
    ∃ y : Fi, cs = [.int .i64 y.L, .int .i64 y.N] ∧ y.wf := by
  obtain ⟨xs, n, _, _, hl, hlen, hf⟩ := DataW.trod_struct Try.underlying29 h
  rw [ecellsF] at hl
  obtain ⟨c0, c1, rfl⟩ := elist2 hl
  obtain ⟨x0, x1, rfl⟩ := elist2 (show xs.length = 2 from hlen)
  have g0 := hf 0 _ rfl
  have g1 := hf 1 _ rfl
  simp [ecellsI] at g0 g1
  obtain ⟨L, e0, _, w0⟩ := DataW.trod_int Try.underlying3 g0
  obtain ⟨N, e1, _, w1⟩ := DataW.trod_int Try.underlying3 g1
  cases e0; cases e1
  exact ⟨⟨L, N⟩, rfl, i64_bounds w0, i64_bounds w1⟩

set_option maxRecDepth 100000 in
theorem fs_trod {fuel : Nat} {cs : List Value} {x : DataW H × List MemPlace} (h : DataW.trod enc Try.prog W base spare held fuel 23 cs = some x) : ∃ a n c l, cs = [.slice a n c] ∧ Fs W a n c l ∧ n ≤ 9223372036854775807 := by
  haveI : Inhabited Fi := ⟨⟨0, 0⟩⟩
  rcases open_slice Try.underlying23 h with ⟨hcs, _⟩ | ⟨x, l, c, m, n, D, Pl, hcs, _, hl, hm, hmm, _, hx⟩
  · exact ⟨none, 0, 0, [], hcs, fs_nil W, by omega⟩
  · have hlm : l ≤ m := by rw [hmm]; split <;> omega
    have each : ∀ i, i < l → ∃ y : Fi, y.wf ∧ (∀ j u, [Value.int IntKind.i64 y.L, .int .i64 y.N][j]? = some u → W.cell? ((x.add (i * 2)).add j) = some u) := by
      intro i hi
      obtain ⟨cs', h1, h2⟩ := hx i (by omega)
      rw [ecellsF] at h1
      obtain ⟨y, e, hy⟩ := file_cells h2
      obtain ⟨_, hlen, hc⟩ := World.cells?_some h1
      refine ⟨y, hy, fun j u hu => ?_⟩
      rw [← e] at hu
      rw [hc j (by have := (List.getElem?_eq_some_iff.1 hu).1; omega)]
      exact hu
    obtain ⟨q, hq⟩ := echoose each
    refine ⟨some x, l, c, (List.range l).map q, hcs, ⟨by simp, ⟨hl, fun h => by cases h⟩, ?_, fun h0 => ?_⟩, by unfold maxLen at hm; omega⟩
    · intro y hy
      obtain ⟨i, hi, rfl⟩ := List.mem_map.1 hy
      exact (hq i (List.mem_range.1 hi)).1
    · obtain ⟨b, off, spot⟩ := x
      have hc := (hq 0 h0).2 0 _ rfl
      have hspot : spot = none := by simpa [Addr.add] using World.cell?_spot hc
      subst hspot
      refine ⟨b, off, rfl, fun i f hf => ?_⟩
      have hil : i < l := by have := (List.getElem?_eq_some_iff.1 hf).1; simpa using this
      have hfq : f = q i := by
        rw [List.getElem?_map, List.getElem?_range hil] at hf
        exact (Option.some.inj hf).symm
      subst hfq
      have h0' := (hq i hil).2 0 _ rfl
      have h1' := (hq i hil).2 1 _ rfl
      rw [add_plain, add_plain] at h0' h1'
      exact ⟨h0', h1'⟩

set_option maxRecDepth 100000 in
theorem edit_cells {fuel : Nat} {cs : List Value} {x : DataW H × List MemPlace} (h : DataW.trod enc Try.prog W base spare held fuel 31 cs = some x) : ∃ y : Er, cs = y.cs ∧ y.ok W := by
  obtain ⟨xs, n, _, _, hl, hlen, hf⟩ := DataW.trod_struct Try.underlying31 h
  rw [ecellsE] at hl
  obtain ⟨c0, c1, c2, c3, c4, c5, c6, rfl⟩ := elist7 hl
  obtain ⟨x0, x1, x2, x3, x4, x5, x6, rfl⟩ := elist7 (show xs.length = 7 from hlen)
  have g0 := hf 0 _ rfl
  have g1 := hf 1 _ rfl
  have g2 := hf 2 _ rfl
  have g3 := hf 3 _ rfl
  have g4 := hf 4 _ rfl
  have g5 := hf 5 _ rfl
  have g6 := hf 6 _ rfl
  simp [ecellsI, ecellsU, ecellsSI, ecellsSF] at g0 g1 g2 g3 g4 g5 g6
  obtain ⟨da, dn, dc, d, e0, hd, hdn⟩ := zs_trod g0
  obtain ⟨aa, an, ac, a, e1, ha, han⟩ := fs_trod g1
  obtain ⟨lg, e2, _, w2⟩ := DataW.trod_int Try.underlying3 g2
  obtain ⟨fl, e3, _, w3⟩ := DataW.trod_int Try.underlying24 g3
  obtain ⟨ct, e4, _, w4⟩ := DataW.trod_int Try.underlying24 g4
  obtain ⟨at9, e5, _, w5⟩ := DataW.trod_int Try.underlying24 g5
  obtain ⟨ls, e6, _, w6⟩ := DataW.trod_int Try.underlying24 g6
  cases e0; cases e1; cases e2; cases e3; cases e4; cases e5; cases e6
  exact ⟨⟨da, dn, dc, aa, an, ac, ⟨d, a, lg, fl, ct, at9, ls⟩⟩, rfl, ⟨hd, hdn⟩, ⟨ha, han⟩, i64_bounds w2, u64_bounds w3, u64_bounds w4, u64_bounds w5, u64_bounds w6⟩

set_option maxRecDepth 100000 in
theorem open_edit {r : Reach} {b0 : Nat} {v : Value} {d : DataW H} {p : List MemPlace} (hv : Value.okWide Try.prog W r b0 31 v) (h : DataW.Trod enc Try.prog W base spare held 31 v d p) :
    ∃ y : Er, v = .agg #[.slice y.da y.dn y.dc, .slice y.aa y.an y.ac, .int .i64 y.E.lg, .int .u64 y.E.fl, .int .u64 y.E.ct, .int .u64 y.E.at9, .int .u64 y.E.ls] ∧ y.ok W := by
  obtain ⟨cs, rfl, _⟩ := okWide_struct Try.underlying31 hv
  obtain ⟨fuel, hf⟩ := h
  obtain ⟨y, e, hy⟩ := edit_cells hf
  refine ⟨y, ?_, hy⟩
  obtain ⟨l⟩ := cs
  simp only [Value.cells] at e
  rw [e]
  rfl

set_option maxRecDepth 100000 in
theorem open_edits {a : Option Addr} {len cap : Nat} {d : DataW H} {p : List MemPlace} (h : DataW.Trod enc Try.prog W base spare held 57 (.slice a len cap) d p) :
    ∃ l, Es W a len cap l ∧ len ≤ 9223372036854775807 := by
  haveI : Inhabited Er := ⟨⟨none, 0, 0, none, 0, 0, ⟨[], [], 0, 0, 0, 0, 0⟩⟩⟩
  obtain ⟨fuel, hf⟩ := h
  rcases open_slice Try.underlying57 hf with ⟨hcs, _⟩ | ⟨x, l, c, m, n, D, Pl, hcs, _, hl, hm, hmm, _, hx⟩
  · simp [Value.cells] at hcs
    obtain ⟨rfl, rfl, rfl⟩ := hcs
    exact ⟨[], es_nil W, by omega⟩
  · simp [Value.cells] at hcs
    obtain ⟨rfl, rfl, rfl⟩ := hcs
    have hlm : len ≤ m := by rw [hmm]; split <;> omega
    have each : ∀ i, i < len → ∃ y : Er, y.ok W ∧ (∀ j u, y.cs[j]? = some u → W.cell? ((x.add (i * 7)).add j) = some u) := by
      intro i hi
      obtain ⟨cs', h1, h2⟩ := hx i (by omega)
      rw [ecellsE] at h1
      obtain ⟨y, e, hy⟩ := edit_cells h2
      obtain ⟨_, hlen, hc⟩ := World.cells?_some h1
      refine ⟨y, hy, fun j u hu => ?_⟩
      rw [← e] at hu
      rw [hc j (by have := (List.getElem?_eq_some_iff.1 hu).1; omega)]
      exact hu
    obtain ⟨q, hq⟩ := echoose each
    refine ⟨(List.range len).map q, ⟨by simp, ⟨hl, fun h => by cases h⟩, ?_, fun h0 => ?_⟩, by unfold maxLen at hm; omega⟩
    · intro y hy
      obtain ⟨i, hi, rfl⟩ := List.mem_map.1 hy
      exact (hq i (List.mem_range.1 hi)).1
    · obtain ⟨b, off, spot⟩ := x
      have hc := (hq 0 h0).2 0 _ rfl
      have hspot : spot = none := by simpa [Addr.add] using World.cell?_spot hc
      subst hspot
      refine ⟨b, off, rfl, fun i y j u hy hu => ?_⟩
      have hil : i < len := by have := (List.getElem?_eq_some_iff.1 hy).1; simpa using this
      have hfq : y = q i := by
        rw [List.getElem?_map, List.getElem?_range hil] at hy
        exact (Option.some.inj hy).symm
      subst hfq
      have h0' := (hq i hil).2 j u hu
      rw [add_plain, add_plain] at h0'
      exact h0'
end

end Go.Proofs.Ytgopcaemgcnapaa.Clep
