/- What the statement TableTells keeps in memory; what its loop comes to. -/
import Derived.Test.YtodhljiboakjnaaGreatQl
import Derived.Test.YtodhljiboakjnaaGreatQi
import Derived.Test.YtodhljiboakjnaaGreatQk
import Derived.Test.YtodhljiboakjnaaGreatQm
import Derived.Test.YtodhljiboakjnaaGreatZv
import Derived.Test.YtodhljiboakjnaaGreatZt
namespace Go.Proofs.YtodhljiboakjnaaGreat.Clep
open Go.RowKit
set_option linter.unusedVariables false
set_option maxRecDepth 10000

theorem make_any (a : Option Addr) (n c : Nat) (l : List It) (w : World) (h : Is w a n c l) (hn : n ≤ 9223372036854775807) (hc : c ≤ 9223372036854775807) :
    Calls Tryz.prog 11 #[.slice a n c] w fun e w' => ∃ v, e = .returned (.tuple #[v, .int .i64 (tme l)]) ∧ Below w.heap.size w w' := by
  by_cases ht : tme l = 0
  · refine (make_ok a n c l w h (tme_zero ht h.2.2.1) hc).mono fun e w' ⟨v, h1, h2, h3⟩ => ⟨v, by rw [h1, ht], h3⟩
  · exact (make_bad a n c l w h hn ht).mono fun e w' ⟨h1, h2⟩ => ⟨_, h1, h2⟩
/-- The three boxes, the items and the Table, all made since w. -/
structure Tw (w W : World) (R M : Nat) (x f t : It) (aq : Option Addr) (nq cq : Nat) (q : List It) : Prop where
  bel : Below w.heap.size w W
  vx : Vi W R 0 x.S x.K x.T x.V x.X
  vf : Vi W (R + 1) 0 f.S f.K f.T f.V f.X
  vt : Vi W (R + 2) 0 t.S t.K t.T t.V t.X
  iq : Is W aq nq cq q
  tb : ∃ B d, Tb W M B d q
  nM : w.heap.size ≤ M ∧ R ≠ M ∧ R + 1 ≠ M ∧ R + 2 ≠ M ∧ (0 < nq → ∀ y, aq = some y → y.block ≠ M)
theorem Tw.keep {w W W' : World} {R M : Nat} {x f t : It} {aq : Option Addr} {nq cq : Nat} {q : List It} (h : Tw w W R M x f t aq nq cq q) (hb : Below W.heap.size W W') : Tw w W' R M x f t aq nq cq q :=
  ⟨h.bel.trans (hb.mono h.bel.size), h.vx.keep hb, h.vf.keep hb, h.vt.keep hb, h.iq.below hb (Nat.le_refl _), by obtain ⟨B, d, r⟩ := h.tb; exact ⟨B, d, r.keep hb⟩, h.nM⟩
theorem Tw.ch {w W W' : World} {R M : Nat} {x f t : It} {aq : Option Addr} {nq cq : Nat} {q : List It} (h : Tw w W R M x f t aq nq cq q) (hc : Ch (fun b => b = M) W W') (ht : ∃ B d, Tb W' M B d q) : Tw w W' R M x f t aq nq cq q :=
  ⟨Clep.Below.ch h.bel hc h.bel.size (fun i hi => by rw [hi]; exact h.nM.1), h.vx.ch hc h.nM.2.1, h.vf.ch hc h.nM.2.2.1, h.vt.ch hc h.nM.2.2.2.1, h.iq.ch hc (fun h0 y hy e => h.nM.2.2.2.2 h0 y hy e), ht, h.nM⟩
theorem fd_step {q : List It} (hr : Rise q) {x y : It} {j : Nat} (hy : q[j]? = some y) : fd (q.take (j + 1)) x = if y.same x then some y else fd (q.take j) x := by
  have e : q.take (j + 1) = q.take j ++ [y] := by rw [List.take_add_one, hy]; rfl
  unfold fd
  rw [e, List.find?_append]
  cases hs : y.same x with
  | false => simp [hs]
  | true =>
    have hn : (q.take j).find? (fun y => y.same x) = none := by
      rw [List.find?_eq_none]
      intro z hz hzs
      obtain ⟨i, hi, rfl⟩ := List.getElem_of_mem hz
      rw [List.length_take] at hi
      obtain ⟨p2, e2⟩ := List.getElem?_eq_some_iff.1 hy
      have := List.pairwise_iff_getElem.1 hr i j (by omega) p2 (by omega)
      rw [e2] at this
      rw [List.getElem_take] at hzs
      rw [same_iff] at hzs hs
      rw [less_iff] at this
      omega
    rw [hn]
    simp [hs]

end Go.Proofs.YtodhljiboakjnaaGreat.Clep
