/- What state.Tomb and Get do when called: for any items. Conditions: at most 2^39 items. -/
import Derived.Test.YtckfgpcoingphabSOf
namespace Go.Proofs.Ytckfgpcoingphab.Clep
open Go.RowKit
set_option linter.unusedVariables false

theorem find_at {p : It → Bool} : ∀ {l : List It} {k : Nat} {x : It}, l[k]? = some x → p x = true → (∀ y ∈ l.take k, p y = false) → l.find? p = some x
  | [], k, x, h, _, _ => by simp at h
  | a :: r, 0, x, h, hx, _ => by simp at h; subst h; simp [hx]
  | a :: r, k + 1, x, h, hx, ha => by
    have h0 : p a = false := ha a (by simp)
    rw [List.find?_cons, h0]
    exact find_at (l := r) (k := k) (by simpa using h) hx (fun y hy => ha y (by simp [hy]))
theorem find_not {p : It → Bool} {l : List It} (h : ∀ y ∈ l, p y = false) : l.find? p = none := by
  rw [List.find?_eq_none]
  intro y hy
  simp [h y hy]
theorem pre_snoc {p : It → Bool} {l : List It} {k : Nat} {x : It} (h : l[k]? = some x) (hx : p x = false) (ha : ∀ y ∈ l.take k, p y = false) : ∀ y ∈ l.take (k + 1), p y = false := by
  intro y hy
  rw [List.take_add_one, h] at hy
  rcases List.mem_append.1 hy with h' | h'
  · exact ha y h'
  · have : y = x := by simpa using h'
    rw [this]; exact hx
def tombP (s : Int) (x : It) : Bool := decide (x.K = 1 ∧ x.S = s)
def tombL (l : List It) (s : Int) : Int := match l.find? (tombP s) with | some x => x.V | none => 0
def getP (s t : Int) (x : It) : Bool := sampP s x && x.T == t
def getL (l : List It) (s t : Int) : Option It := l.find? (getP s t)

set_option maxHeartbeats 800000 in
theorem tomb_any (a : Option Addr) (n c : Nat) (l : List It) (s : Int) (w : World) (h : Is w a n c l) (hn : n ≤ 549755813888) : Calls Try.prog 11 #[.slice a n c, .int .i64 s] w fun e w' => e = .returned (.int .u64 (tombL l s)) ∧ Below w.heap.size w w' := by
  have hl := h.1
  have H0 := hide (fun W (hW : Below w.heap.size w W) => h.below hW (Nat.le_refl _))
  clear h
  go_enter Try.func11, Try.ntmps11
  go_wp2_with fail
  go_loopw [9] (fun i wr => ∃ k : Nat, k ≤ n ∧ i = .int .i64 k ∧ Hid (∀ y ∈ l.take k, tombP s y = false) ∧ Hid (Below w.heap.size w wr)) (fun i _ => n - (intOf i).toNat)
  case atStart => exact ⟨0, by omega, rfl, hide (by simp), hide (Below.refl _ _)⟩
  case round =>
    obtain ⟨k, hk, rfl, hal, hbel⟩ := hrel
    by_cases hlt : k < n
    · obtain ⟨b0, off, ea, hc⟩ := (H0.out _ hbel.out).2.2.2 (by omega)
      subst ea
      obtain ⟨x, hx⟩ : ∃ x, l[k]? = some x := ⟨_, List.getElem?_eq_getElem (by rw [hl]; exact hlt)⟩
      have hv := hc k x hx
      have HX := hide hx
      obtain ⟨S, K, T, V, X⟩ := x
      unfold Vt Vi at hv
      simp only at hv
      obtain ⟨v0, v1, v2, v3, v4⟩ := hv
      have HB := hide (hbel.out.alloc hbel.out.size (Obj.cells #[Value.int IntKind.i64 S, Value.int IntKind.i64 K, Value.int IntKind.u64 T, Value.int IntKind.u64 V, Value.int IntKind.i64 X] 26))
      clear hc hx
      by_cases hK : K = 1
      · by_cases hS : S = s
        · have hr := hide (show tombL l s = V by unfold tombL; rw [find_at HX.out (by unfold tombP; simp [hK, hS]) hal.out])
          have q : (K == 1) = true := by simp [hK]
          have q2 : (S == s) = true := by simp [hS]
          clear hK hS
          go_wp2
          go_ret
          exact ⟨by rw [hr.out]; rfl, HB.out⟩
        · have hr := hide (pre_snoc HX.out (p := tombP s) (by unfold tombP; simp [hS]) hal.out)
          have q : (K == 1) = true := by simp [hK]
          have q2 : (S == s) = false := by simp [hS]
          clear hK hS
          go_wp2
          go_roundw
          case rel => exact ⟨k + 1, by omega, by go_num, hr, HB⟩
          case measure => simp [intOf]; omega
      · have hr := hide (pre_snoc HX.out (p := tombP s) (by unfold tombP; simp [hK]) hal.out)
        have q : (K == 1) = false := by simp [hK]
        clear hK
        go_wp2
        go_roundw
        case rel => exact ⟨k + 1, by omega, by go_num, hr, HB⟩
        case measure => simp [intOf]; omega
    · obtain rfl : k = n := by omega
      have hr := hide (show tombL l s = 0 by
        unfold tombL
        rw [find_not (by have := hal.out; rwa [show l.take k = l from by rw [← hl]; exact List.take_length] at this)])
      go_wp2
      go_ret
      exact ⟨by rw [hr.out]; rfl, hbel.out⟩

theorem get_results {w : World} {R : Nat} {S K T V X : Int} {b : Bool} (h : Vx w R S K T V X) (ts : Array Value) (h2 : ts.getD 6 undef = .pointer (some ⟨R, 0, none⟩)) (h3 : ts.getD 7 undef = .bool b) :
    (results Try.f12 ts).run Try.prog w = .ok (.tuple #[.agg #[.int .i64 S, .int .i64 K, .int .u64 T, .int .u64 V, .int .i64 X], .bool b]) w := by
  obtain ⟨⟨h0, h1, h4, h5, h6⟩, -⟩ := h
  simp only [Nat.zero_add] at h1 h4 h5 h6
  rw [Array.getD_eq_getD_getElem?] at h2 h3
  simp [results, Try.results12, go_sem, h0, h1, h2, h3, h4, h5, h6]

set_option maxHeartbeats 1600000 in
theorem get_any (a : Option Addr) (n c : Nat) (l : List It) (s t : Int) (w : World) (h : Is w a n c l) (hn : n ≤ 549755813888) : Calls Try.prog 12 #[.slice a n c, .int .i64 s, .int .u64 t] w fun e w' =>
      e = .returned (.tuple #[.agg (cv ((getL l s t).getD it0)).toArray, .bool (getL l s t).isSome]) ∧ Below w.heap.size w w' := by
  have hl := h.1
  have H0 := hide (fun W (hW : Below w.heap.size w W) => h.below hW (Nat.le_refl _))
  have B0 := hide ((Below.refl _ w).alloc (Nat.le_refl _) (Obj.cells #[Value.int IntKind.i64 0, Value.int IntKind.i64 0, Value.int IntKind.u64 0, Value.int IntKind.u64 0, Value.int IntKind.i64 0] 26))
  have V0 := hide (vx_new w 0 0 0 0 0)
  clear h
  go_enter Try.func12, Try.ntmps12
  go_wp2_with fail
  obtain ⟨R, hR⟩ : ∃ R, R = w.heap.size := ⟨_, rfl⟩
  have HR := hide hR
  rw [← hR] at V0 ⊢
  clear hR
  go_loopw [12] (fun i wr => ∃ k : Nat, k ≤ n ∧ i = .int .i64 k ∧ Hid (∀ y ∈ l.take k, getP s t y = false) ∧ Hid (Below w.heap.size w wr) ∧ Hid (Vx wr R 0 0 0 0 0)) (fun i _ => n - (intOf i).toNat)
  case atStart => exact ⟨0, by omega, rfl, hide (by simp), B0, V0⟩
  case round =>
    obtain ⟨k, hk, rfl, hal, hbel, hvx⟩ := hrel
    by_cases hlt : k < n
    · obtain ⟨b0, off, ea, hc⟩ := (H0.out _ hbel.out).2.2.2 (by omega)
      subst ea
      obtain ⟨x, hx⟩ : ∃ x, l[k]? = some x := ⟨_, List.getElem?_eq_getElem (by rw [hl]; exact hlt)⟩
      have hv := hc k x hx
      have HX := hide hx
      obtain ⟨S, K, T, V, X⟩ := x
      unfold Vt Vi at hv
      simp only at hv
      obtain ⟨v0, v1, v2, v3, v4⟩ := hv
      have HB := hide (hbel.out.alloc hbel.out.size (Obj.cells #[Value.int IntKind.i64 S, Value.int IntKind.i64 K, Value.int IntKind.u64 T, Value.int IntKind.u64 V, Value.int IntKind.i64 X] 26))
      have X0 := hide (vi_new wr S K T V X)
      have hvx1 := hide (hvx.out.keep ((Below.refl _ _).alloc (Nat.le_refl _) (Obj.cells #[Value.int IntKind.i64 S, Value.int IntKind.i64 K, Value.int IntKind.u64 T, Value.int IntKind.u64 V, Value.int IntKind.i64 X] 26)))
      clear hc hx
      go_wp2_with fail
      refine (issample_any S K T V X s _).mono ?_
      obtain ⟨o, ho⟩ : ∃ o, sampP s ⟨S, K, T, V, X⟩ = o := ⟨_, rfl⟩
      rw [ho]
      have HO := hide ho
      clear ho
      rintro e w1 ⟨rfl, b1⟩
      have HB1 := hide (bmore HB.out b1)
      have X1 := X0.out.keep b1
      have VX1 := hide (hvx1.out.keep b1)
      unfold Vi at X1
      simp only [Nat.zero_add] at X1
      obtain ⟨x0, x1, x2, x3, x4⟩ := X1
      clear v0 v1 v2 v3 v4 b1 X0 hvx1 HB
      cases o with
      | false =>
        have hr := hide (pre_snoc HX.out (p := getP s t) (by unfold getP; rw [HO.out]; rfl) hal.out)
        go_wp2
        go_roundw
        case rel => exact ⟨k + 1, by omega, by go_num, hr, HB1, VX1⟩
        case measure => simp [intOf]; omega
      | true =>
        by_cases hT : T = t
        · have hr := hide (show getL l s t = some ⟨S, K, T, V, X⟩ by unfold getL; exact find_at HX.out (by unfold getP; rw [HO.out]; simp [hT]) hal.out)
          have q : (T == t) = true := by simp [hT]
          clear hT
          have gx := VX1.out
          unfold Vx Vi Vf at gx
          simp only [Nat.zero_add] at gx
          obtain ⟨⟨y0, y1, y2, y3, y4⟩, z0, z1, z2, z3, z4⟩ := gx
          go_wp2_with fail
          refine bodyPost_ret (get_results (VX1.out.put S K T V X) _ rfl rfl) rfl ⟨by rw [hr.out]; rfl, ?_⟩
          exact HB1.out.grown (gb_putI w1 R S K T V X) HB1.out.size (fun k hk => by cases hk; rw [HR.out]; exact Nat.le_refl _)
        · have hr := hide (pre_snoc HX.out (p := getP s t) (by unfold getP; simp [hT]) hal.out)
          have q : (T == t) = false := by simp [hT]
          clear hT
          go_wp2
          go_roundw
          case rel => exact ⟨k + 1, by omega, by go_num, hr, HB1, VX1⟩
          case measure => simp [intOf]; omega
    · obtain rfl : k = n := by omega
      have hr := hide (show getL l s t = none by
        unfold getL
        exact find_not (by have := hal.out; rwa [show l.take k = l from by rw [← hl]; exact List.take_length] at this))
      have gx := hvx.out
      unfold Vx Vi Vf at gx
      simp only [Nat.zero_add] at gx
      obtain ⟨⟨y0, y1, y2, y3, y4⟩, z0, z1, z2, z3, z4⟩ := gx
      go_wp2_with fail
      refine bodyPost_ret (get_results (hvx.out.put 0 0 0 0 0) _ rfl rfl) rfl ⟨by rw [hr.out]; rfl, ?_⟩
      exact hbel.out.grown (gb_putI wr R 0 0 0 0 0) hbel.out.size (fun k hk => by cases hk; rw [HR.out]; exact Nat.le_refl _)

end Go.Proofs.Ytckfgpcoingphab.Clep
