/- What the statements' own function few does when called (a walk over the translated program): for any rows of items. -/
import Derived.Test.YtdldpdllhnpdaaaGreatZl
import Derived.Test.YtdldpdllhnpdaaaGreatZa
namespace Go.Proofs.YtdldpdllhnpdaaaGreat.Clep
open Go.RowKit
set_option linter.unusedVariables false
set_option maxRecDepth 10000

theorem min_int (ts : Array TypeId) (t : TypeId) (k k' : IntKind) (x y : Int) (w : World) : (Builtin.min_ ts t #[.int k x, .int k' y]).run Tryz.prog w = .ok (.int k (min x y)) w := by
  rw [run_min_int2, show (if y < x then y else x) = min x y by split <;> omega]
attribute [local go_sem ↓] min_int
def fsum (zs : List Sl) : Nat := (zs.map fun z => min z.n 500).sum
theorem fsum_take (zs : List Sl) (k : Nat) (z : Sl) (h : zs[k]? = some z) : fsum (zs.take (k + 1)) = fsum (zs.take k) + min z.n 500 := by
  unfold fsum
  rw [List.take_add_one, h]
  simp
theorem fsum_all : ∀ (zs : List Sl), (∀ z ∈ zs, z.l.length = z.n) → fsum zs ≤ 150 → sumL zs ≤ fsum zs
  | [], _, _ => by simp [sumL, fsum]
  | z :: zs, hz, h => by
    have h1 := hz z (by simp)
    unfold fsum sumL at *
    simp only [List.map_cons, List.sum_cons] at *
    have h2 := fsum_all zs (fun y hy => hz y (by simp [hy])) (by unfold fsum; omega)
    unfold fsum sumL at h2
    omega
def fewB (n : Nat) (zs : List Sl) : Bool := decide (n ≤ 15 ∧ fsum zs ≤ 150)
theorem few_ok {w : World} {a : Option Addr} {n c : Nat} {zs : List Sl} (h : Rws w a n c zs) (e : fewB n zs = true) : n ≤ 15 ∧ sumL zs ≤ 150 := by
  unfold fewB at e
  rw [decide_eq_true_eq] at e
  exact ⟨e.1, Nat.le_trans (fsum_all zs (fun z hz => (h.2.2.1 z hz).1.1) e.2) e.2⟩

set_option maxHeartbeats 400000 in
theorem few_any (a : Option Addr) (n c : Nat) (zs : List Sl) (w : World) (h : Rws w a n c zs) (hn : n ≤ 9223372036854775807) :
    Calls Tryz.prog 4 #[.slice a n c] w fun e w' => e = .returned (.bool (fewB n zs)) ∧ w' = w := by
  have hl := h.1
  have H0 := hide (fun k hk => rws_at h k hk)
  have HS := hide (fsum_take zs)
  have HF := hide (show fewB n zs = decide (n ≤ 15 ∧ fsum (zs.take n) ≤ 150) by rw [List.take_of_length_le (by omega)]; rfl)
  clear h hl
  generalize fewB n zs = O at *
  go_enter Tryz.func4, Tryz.ntmps4
  go_wp2_with fail
  go_loop [3, 4] (fun s i => ∃ k S : Nat, k ≤ n ∧ k ≤ 16 ∧ i = .int .i64 k ∧ s = .int .i64 S ∧ S ≤ 500 * k ∧ Hid (fsum (zs.take k) = S)) (fun _ i => n - (intOf i).toNat)
  case atStart => exact ⟨0, 0, by omega, by omega, rfl, rfl, by omega, hide (by simp [fsum])⟩
  case round =>
    obtain ⟨k, S, hk, hk16, rfl, rfl, hS, hsum⟩ := hrel
    by_cases hlt : k < n ∧ k ≤ 15
    · obtain ⟨z, b0, off0, hz, rfl, hc0, hi0, hn0⟩ := H0.out k hlt.1
      have h1 : (k : Int) < (n : Int) := by omega
      have h2 : (k : Int) ≤ 15 := by omega
      have hst := hide (HS.out k z hz)
      obtain ⟨za, zn, zc, zl⟩ := z
      simp only at hc0 hn0 hst
      obtain ⟨m, hm⟩ : ∃ m, min zn 500 = m := ⟨_, rfl⟩
      have hmm : min (zn : Int) 500 = (m : Int) := by omega
      have hm5 : m ≤ 500 := by omega
      have HST := hide (show fsum (zs.take (k + 1)) = S + m by rw [hst.out, hsum.out, hm])
      clear hz hi0 hst hm hlt hsum
      go_wp2
      go_round
      case rel => exact ⟨k + 1, S + m, by omega, by omega, by go_num, by go_num, by omega, HST⟩
      case measure => simp [intOf]; omega
    · by_cases h15 : n ≤ 15
      · have hkn : k = n := by omega
        subst hkn
        have h15' : (k : Int) ≤ 15 := by omega
        by_cases hs : S ≤ 150
        · have hs' : (S : Int) ≤ 150 := by omega
          have hO : O = true := by rw [HF.out, hsum.out]; exact decide_eq_true ⟨h15, hs⟩
          subst hO
          clear HF HS H0 hlt
          go_wp2
          go_ret
          exact ⟨rfl, rfl⟩
        · have hs' : ¬ ((S : Int) ≤ 150) := by omega
          have hO : O = false := by rw [HF.out, hsum.out]; exact decide_eq_false (fun h => hs h.2)
          subst hO
          clear HF HS H0 hlt
          go_wp2
          go_ret
          exact ⟨rfl, rfl⟩
      · have h15' : ¬ ((n : Int) ≤ 15) := by omega
        have hk6 : k = 16 := by omega
        have hx : (¬ ((k : Int) < (n : Int))) ∨ (((k : Int) < (n : Int)) ∧ ¬ ((k : Int) ≤ 15)) := by omega
        have hO : O = false := by rw [HF.out]; exact decide_eq_false (fun h => h15 h.1)
        subst hO
        clear HF HS H0 hlt hk6
        rcases hx with hx | ⟨hx, hx2⟩
        all_goals
          go_wp2
          go_ret
          exact ⟨rfl, rfl⟩

end Go.Proofs.YtdldpdllhnpdaaaGreat.Clep

/- What the statements' own functions Same and few do when called (walks over the translated program): for any rows of items. -/
namespace Go.Proofs.YtdldpdllhnpdaaaGreat.Clep
open Go.RowKit
set_option linter.unusedVariables false
set_option maxRecDepth 10000

def eqI (x y : It) : Bool := decide (x.S = y.S ∧ x.K = y.K ∧ x.T = y.T ∧ x.V = y.V ∧ x.X = y.X)
theorem eqI_iff (x y : It) : eqI x y = true ↔ x = y := by
  obtain ⟨a, b, c, d, e⟩ := x
  obtain ⟨a', b', c', d', e'⟩ := y
  simp [eqI]
def eqL : List It → List It → Bool
  | [], [] => true
  | x :: r, y :: s => eqI x y && eqL r s
  | _, _ => false
theorem eqL_iff : ∀ l m : List It, eqL l m = true ↔ l = m
  | [], [] => by simp [eqL]
  | [], _ :: _ => by simp [eqL]
  | _ :: _, [] => by simp [eqL]
  | x :: r, y :: s => by
    rw [eqL, Bool.and_eq_true, eqI_iff, eqL_iff r s]
    simp
def eqLL : List (List It) → List (List It) → Bool
  | [], [] => true
  | x :: r, y :: s => eqL x y && eqLL r s
  | _, _ => false
theorem eqLL_iff : ∀ l m : List (List It), eqLL l m = true ↔ l = m
  | [], [] => by simp [eqLL]
  | [], _ :: _ => by simp [eqLL]
  | _ :: _, [] => by simp [eqLL]
  | x :: r, y :: s => by
    rw [eqLL, Bool.and_eq_true, eqL_iff, eqLL_iff r s]
    simp
theorem eqLL_refl (l : List (List It)) : eqLL l l = true := (eqLL_iff l l).2 rfl
theorem eqLL_len {l m : List (List It)} (h : l.length ≠ m.length) : eqLL l m = false := by
  cases e : eqLL l m with
  | false => rfl
  | true => exact absurd (congrArg List.length ((eqLL_iff l m).1 e)) h
theorem eqLL_at {l m : List (List It)} {k : Nat} {x y : List It} (hx : l[k]? = some x) (hy : m[k]? = some y) (h : eqL x y = false) : eqLL l m = false := by
  cases e : eqLL l m with
  | false => rfl
  | true =>
    have := (eqLL_iff l m).1 e
    subst this
    rw [hx] at hy
    injection hy with hy
    rw [(eqL_iff x y).2 hy] at h
    cases h
theorem eqLL_snoc {l m : List (List It)} {k : Nat} {x y : List It} (hx : l[k]? = some x) (hy : m[k]? = some y) (h : eqL x y = true) (ht : l.take k = m.take k) : l.take (k + 1) = m.take (k + 1) := by
  rw [List.take_add_one, List.take_add_one, hx, hy, ht, (eqL_iff x y).1 h]
theorem map_at {zs : List Sl} {k : Nat} {z : Sl} (h : zs[k]? = some z) : (zs.map Sl.l)[k]? = some z.l := by simp [h]
theorem equal_b (a b : Option Addr) (n c n' c' : Nat) (l m : List It) (w : World) (h0 : Is w a n c l) (h1 : Is w b n' c' m) (hn : n ≤ 9223372036854775807) (hn' : n' ≤ 9223372036854775807) :
    Calls Tryz.prog 41 #[.slice a n c, .slice b n' c'] w fun e w' => e = .returned (.bool (eqL l m)) ∧ Below w.heap.size w w' := by
  refine (refequal_any a b n c n' c' l m w h0 h1 hn hn').mono ?_
  rintro e w' ⟨o, rfl, ho, hb⟩
  refine ⟨?_, hb⟩
  have : o = eqL l m := by
    cases o with
    | true => exact ((eqL_iff l m).2 (ho.1 rfl)).symm
    | false =>
      cases e : eqL l m with
      | false => rfl
      | true => exact ho.2 ((eqL_iff l m).1 e)
  rw [this]

set_option maxHeartbeats 1000000 in
theorem lsame_any (a b : Option Addr) (n c n' c' : Nat) (zs ys : List Sl) (w : World) (h0 : Rws w a n c zs) (h1 : Rws w b n' c' ys) (hn : n ≤ 9223372036854775807) (hn' : n' ≤ 9223372036854775807) :
    Calls Tryz.prog 19 #[.slice a n c, .slice b n' c'] w fun e w' => e = .returned (.bool (eqLL (zs.map Sl.l) (ys.map Sl.l))) ∧ Below w.heap.size w w' := by
  have hl0 := h0.1
  have hl1 := h1.1
  have H0 := hide (fun W (hW : Below w.heap.size w W) => h0.below hW (Nat.le_refl _))
  have H1 := hide (fun W (hW : Below w.heap.size w W) => h1.below hW (Nat.le_refl _))
  have HL := hide (show n ≠ n' → eqLL (zs.map Sl.l) (ys.map Sl.l) = false from fun e => eqLL_len (by rw [List.length_map, List.length_map, hl0, hl1]; exact e))
  have HA := hide (fun k x y (hx : (zs.map Sl.l)[k]? = some x) (hy : (ys.map Sl.l)[k]? = some y) (e : eqL x y = false) => eqLL_at hx hy e)
  have HE := hide (show (zs.map Sl.l).take n = (ys.map Sl.l).take n → n = n' → eqLL (zs.map Sl.l) (ys.map Sl.l) = true from fun e en => by
    rw [List.take_of_length_le (by rw [List.length_map]; omega), List.take_of_length_le (by rw [List.length_map]; omega)] at e
    exact (eqLL_iff _ _).2 e)
  clear h0 h1 hl0 hl1
  generalize eqLL (zs.map Sl.l) (ys.map Sl.l) = O at *
  by_cases hnn : n = n'
  · subst hnn
    clear HL
    go_enter Tryz.func19, Tryz.ntmps19
    go_wp2_with fail
    go_loopw [5] (fun i wr => ∃ k : Nat, k ≤ n ∧ i = .int .i64 k ∧ Hid (Below w.heap.size w wr) ∧ Hid ((zs.map Sl.l).take k = (ys.map Sl.l).take k)) (fun i _ => n - (intOf i).toNat)
    case atStart => exact ⟨0, by omega, rfl, hide (Below.refl _ _), hide (by simp)⟩
    case round =>
      obtain ⟨k, hk, rfl, hbel, htk⟩ := hrel
      by_cases hlt : k < n
      · obtain ⟨z, b0, off0, hz, ea, hc0, hi0, hn0⟩ := rws_at (H0.out _ hbel.out) k hlt
        obtain ⟨y, b1, off1, hy, eb, hc1, hi1, hn1⟩ := rws_at (H1.out _ hbel.out) k hlt
        subst ea eb
        have d0 : ∀ p : Kp wr, p.W.cell? ⟨b0, off0 + k, none⟩ = some (.slice z.a z.n z.c) := fun p => (p.h.cell (p := ⟨b0, off0 + k, none⟩) (World.block_lt_of_cell? wr _ hc0)).trans hc0
        have d1 : ∀ p : Kp wr, p.W.cell? ⟨b1, off1 + k, none⟩ = some (.slice y.a y.n y.c) := fun p => (p.h.cell (p := ⟨b1, off1 + k, none⟩) (World.block_lt_of_cell? wr _ hc1)).trans hc1
        obtain ⟨o, ho⟩ : ∃ o, eqL z.l y.l = o := ⟨_, rfl⟩
        have cE : Hid (∀ p : Kp wr, Calls Tryz.prog 41 #[.slice z.a z.n z.c, .slice y.a y.n y.c] p.W fun e w'' => e = .returned (.bool o) ∧ ∃ q : Kp wr, w'' = q.W) := hide fun p => kp_call (by rw [← ho]; exact equal_b _ _ _ _ _ _ _ _ _ (hi0.below p.h (Nat.le_refl _)) (hi1.below p.h (Nat.le_refl _)) hn0 hn1)
        have HA2 := hide (HA.out k z.l y.l (map_at hz) (map_at hy))
        have HT2 := hide (fun e => eqLL_snoc (map_at hz) (map_at hy) e htk.out)
        rw [ho] at HA2 HT2
        have hne : Nonempty (Kp wr) := ⟨⟨_, Below.refl _ _⟩⟩
        obtain ⟨za, zn, zc, zl⟩ := z
        obtain ⟨ya, yn, yc, yl⟩ := y
        simp only at d0 d1 cE
        clear ho hz hy hc0 hc1 hi0 hi1
        cases o with
        | false =>
          have hO : O = false := HA2.out (by first | rfl | trivial)
          subst hO
          go_wp2_with fail
          refine wp_region_kept (by kernel_rfl) (by kernel_rfl) ?_
          repeat (first
            | go_big_quiet_step (first | (go_at_call 41; exact cE.out _))
            | fail)
          refine wpQuiet_nil ?_
          intro w9 hw'
          have hb9 : Hid (Below wr.heap.size wr w9) := by
            obtain ⟨⟨w3', hb3⟩, hw''⟩ := hw'
            rw [hw'']; exact hide hb3
          have HB9 := hide (bmore hbel.out hb9.out)
          clear hw' hne cE d0 d1
          go_wp2
          go_ret
          exact ⟨rfl, HB9.out⟩
        | true =>
          have HT3 := hide (HT2.out (by first | rfl | trivial))
          clear HT2 HA2
          go_wp2_with fail
          refine wp_region_kept (by kernel_rfl) (by kernel_rfl) ?_
          repeat (first
            | go_big_quiet_step (first | (go_at_call 41; exact cE.out _))
            | fail)
          refine wpQuiet_nil ?_
          intro w9 hw'
          have hb9 : Hid (Below wr.heap.size wr w9) := by
            obtain ⟨⟨w3', hb3⟩, hw''⟩ := hw'
            rw [hw'']; exact hide hb3
          have HB9 := hide (bmore hbel.out hb9.out)
          clear hw' hne cE d0 d1
          go_wp2
          go_roundw
          case rel => exact ⟨k + 1, by omega, by go_num, HB9, HT3⟩
          case measure => simp [intOf]; omega
      · obtain rfl : k = n := by omega
        have hO : O = true := HE.out htk.out (by first | rfl | trivial)
        subst hO
        clear HE HA H0 H1
        go_wp2
        go_ret
        exact ⟨rfl, hbel.out⟩
  · have hO : O = false := HL.out hnn
    subst hO
    have hne : ¬ ((n : Int) = (n' : Int)) := by omega
    clear HL HA HE H0 H1
    go_enter Tryz.func19, Tryz.ntmps19
    go_wp2
    go_ret
    exact ⟨rfl, Below.refl _ _⟩

end Go.Proofs.YtdldpdllhnpdaaaGreat.Clep
