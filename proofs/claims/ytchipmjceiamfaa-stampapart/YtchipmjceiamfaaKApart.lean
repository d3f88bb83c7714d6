/- What StampApart counts with: five Clocks in blocks of their own, the versions that they told. No conditions. -/
import Derived.Test.YtchipmjceiamfaaKAwake
import Derived.Test.YtchipmjceiamfaaMask
namespace Go.Proofs.Ytchipmjceiamfaa.Clep
open Go.RowKit
set_option linter.unusedVariables false

theorem infoU : (Try.prog.info? 22).map (fun i => (i.zero, i.size, i.bytes)) = some (some (.int .u64 0), 1, 8) := by kernel_rfl
theorem infoU_parts : ∃ i0, Try.prog.info? 22 = some i0 ∧ i0.zero = some (.int .u64 0) ∧ i0.size = 1 ∧ i0.bytes = 8 := by
  have h := infoU
  cases hq : Try.prog.info? 22 with
  | none => rw [hq] at h; simp at h
  | some i =>
    rw [hq] at h
    simp only [Option.map_some, Option.some.injEq, Prod.mk.injEq] at h
    exact ⟨i, rfl, h.1, h.2.1, h.2.2⟩
def upd (cs : Nat → Nat) (t x : Nat) : Nat → Nat := fun s => if s = t then x else cs s
/-- The block A holds n pointers to Clocks, in blocks of their own below B. -/
def Five (w : World) (A : Nat) (f cs : Nat → Nat) (n B : Nat) : Prop :=
  ∀ t, t < n → w.cell? ⟨A, t, none⟩ = some (.pointer (some ⟨f t, 0, none⟩)) ∧ Ck w (f t) (t : Int) (cs t : Int) 1000 ∧ (A < f t ∧ f t < B) ∧ ∀ s, s < n → s ≠ t → f s ≠ f t
theorem Five.put {w w' : World} {A : Nat} {f cs : Nat → Nat} {n B t x : Nat} (h : Five w A f cs n B) (ht : t < n) (hg : w.grownBy w' (some (f t))) (hk : Ck w' (f t) (t : Int) (x : Int) 1000) : Five w' A f (upd cs t x) n B := by
  intro s hs
  obtain ⟨h1, h2, h3, h4⟩ := h s hs
  obtain ⟨_, _, k3, _⟩ := h t ht
  refine ⟨hg.cell h1 (fun e => ?_), ?_, h3, h4⟩
  · simp only [Option.some.injEq] at e
    omega
  · by_cases hst : s = t
    · subst hst
      unfold upd
      rw [if_pos rfl]
      exact hk
    · unfold upd
      rw [if_neg hst]
      refine h2.grown hg (fun e => ?_)
      simp only [Option.some.injEq] at e
      exact h t ht |>.2.2.2 s hs hst e
theorem Five.keep {w w' : World} {A : Nat} {f cs : Nat → Nat} {n B : Nat} {row : Option Nat} (h : Five w A f cs n B) (hg : w.grownBy w' row) (hr : ∀ k, row = some k → B ≤ k) : Five w' A f cs n B := by
  intro s hs
  obtain ⟨h1, h2, h3, h4⟩ := h s hs
  refine ⟨hg.cell h1 (fun e => ?_), h2.grown hg (fun e => ?_), h3, h4⟩
  · have := hr A e.symm
    omega
  · have := hr (f s) e.symm
    omega
theorem Five.below {w w' : World} {A : Nat} {f cs : Nat → Nat} {n B : Nat} (h : Five w A f cs n B) (hb : Below B w w') : Five w' A f cs n B := by
  intro s hs
  obtain ⟨h1, h2, h3, h4⟩ := h s hs
  refine ⟨?_, h2.below hb h3.2, h3, h4⟩
  rw [hb.cell (p := ⟨A, s, none⟩) (show A < B by omega)]
  exact h1
theorem Five.more {w : World} {A : Nat} {f cs : Nat → Nat} {n g B' : Nat} {x : Value} (h : Five w A f cs n g) (hA : A < g) (hB' : g < B') (hx : w.cell? ⟨A, n, none⟩ = some x) (hk : Ck w g (n : Int) (cs n : Int) 1000) :
    Five (w.setCell ⟨A, n, none⟩ (.pointer (some ⟨g, 0, none⟩))) A (upd f n g) cs (n + 1) B' := by
  intro s hs
  by_cases hsn : s = n
  · subst hsn
    refine ⟨by unfold upd; rw [if_pos rfl]; exact World.cell?_setCell_same _ _ _ hx, by unfold upd; rw [if_pos rfl]; exact hk.grown (grown_set w A s _) (fun e => by simp only [Option.some.injEq] at e; omega), by unfold upd; rw [if_pos rfl]; omega, fun t ht hts => ?_⟩
    obtain ⟨_, _, h3, _⟩ := h t (by omega)
    unfold upd
    rw [if_pos rfl, if_neg hts]
    omega
  · obtain ⟨h1, h2, h3, h4⟩ := h s (by omega)
    refine ⟨?_, by unfold upd; rw [if_neg hsn]; exact h2.grown (grown_set w A n _) (fun e => by simp only [Option.some.injEq] at e; omega), by unfold upd; rw [if_neg hsn]; omega, fun t ht hts => ?_⟩
    · unfold upd
      rw [if_neg hsn, World.cell?_setCell_other (h := by intro e; simp only [Addr.mk.injEq] at e; omega)]
      exact h1
    · unfold upd
      rw [if_neg hsn]
      by_cases htn : t = n
      · rw [if_pos htn]
        omega
      · rw [if_neg htn]
        exact h4 t (by omega) hts
/-- Every number of vs was told by the Clock whose node it bears. -/
def Told (cs : Nat → Nat) (vs : List Nat) : Prop := ∀ x ∈ vs, x % 8 < 5 ∧ x / 8 ≤ cs (x % 8)
theorem Told.up {cs : Nat → Nat} {vs : List Nat} {t x : Nat} (h : Told cs vs) (hx : cs t ≤ x) : Told (upd cs t x) vs := by
  intro y hy
  obtain ⟨h1, h2⟩ := h y hy
  refine ⟨h1, ?_⟩
  unfold upd
  split
  · rename_i e
    rw [e] at h2
    omega
  · exact h2
theorem Told.snoc {cs : Nat → Nat} {vs : List Nat} {t c : Nat} (h : Told cs vs) (ht : t < 5) (hc : cs t ≤ c) : Told (upd cs t (c + 1)) (vs ++ [(c + 1) * 8 + t]) := by
  intro y hy
  rcases List.mem_append.1 hy with hy | hy
  · exact h.up (x := c + 1) (by omega) y hy
  · simp only [List.mem_singleton] at hy
    subst hy
    have e1 : ((c + 1) * 8 + t) % 8 = t := by omega
    have e2 : ((c + 1) * 8 + t) / 8 = c + 1 := by omega
    rw [e1, e2]
    refine ⟨ht, ?_⟩
    unfold upd
    rw [if_pos rfl]
    exact Nat.le_refl _
theorem Told.new {cs : Nat → Nat} {vs : List Nat} {t c : Nat} (h : Told cs vs) (ht : t < 5) (hc : cs t ≤ c) : ∀ x ∈ vs, x ≠ (c + 1) * 8 + t := by
  intro x hx e
  obtain ⟨_, h2⟩ := h x hx
  have e1 : x % 8 = t := by omega
  rw [e1] at h2
  omega
theorem seev_max (c v : Nat) (hv : v / 8 ≤ 1099511627776) : seev (c : Int) (v : Int) = ((max c (v / 8) : Nat) : Int) := by
  have e : (v : Int) / 8 = ((v / 8 : Nat) : Int) := by omega
  unfold seev
  rw [e]
  generalize v / 8 = q at *
  by_cases h : c < q
  · rw [if_pos (by omega)]
    omega
  · rw [if_neg (by omega)]
    omega
theorem upd_le {cs : Nat → Nat} {t x k : Nat} (h : ∀ s, s < 5 → cs s ≤ k) (hx : x ≤ k) : ∀ s, s < 5 → upd cs t x s ≤ k := by
  intro s hs
  unfold upd
  split
  · exact hx
  · exact h s hs
theorem upd_upd (cs : Nat → Nat) (t x y : Nat) : upd (upd cs t x) t y = upd cs t y := by
  funext s
  unfold upd
  split <;> rfl
theorem turns_of_row {w : World} {a : Option Addr} {len cap : Nat} {zs : List Int}
    (h : (a = none ∧ len = 0 ∧ cap = 0 ∧ zs = []) ∨ ∃ x, a = some x ∧ len ≤ cap ∧ cap ≤ maxLen ∧ zs.length = cap ∧ (∀ i, i < zs.length → w.cell? (x.add i) = some (.int .i64 (zs.getD i 0))) ∧ ∀ n ∈ zs, (Lit.int .i64 n).wf = true) :
    len ≤ 9223372036854775807 ∧ (0 < len → ∃ rb off, a = some ⟨rb, off, none⟩ ∧ ∀ i, i < len → w.cell? ⟨rb, off + i, none⟩ = some (.int .i64 (zs.getD i 0))) := by
  rcases h with ⟨rfl, rfl, rfl, rfl⟩ | ⟨x, rfl, hl, hm, hz, hcell, hwz⟩
  · exact ⟨by omega, fun h => by omega⟩
  · unfold maxLen at hm
    refine ⟨by omega, fun h0 => ?_⟩
    obtain ⟨b, off, spot⟩ := x
    have hc := hcell 0 (by omega)
    have hspot : spot = none := by simpa [Addr.add] using World.cell?_spot hc
    subst hspot
    refine ⟨b, off, rfl, fun i hi => ?_⟩
    have := hcell i (by omega)
    rwa [add_plain] at this

end Go.Proofs.Ytchipmjceiamfaa.Clep
