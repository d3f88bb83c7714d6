/- What sort.Search with Find's function, and block.Find, do when called: for any rising items. Conditions: at most 2^39 items. -/
import Derived.Test.YtodhljiboakjnaaGreatZe
import Derived.Test.YtodhljiboakjnaaGreatZc
import Derived.Shelf.Abstract
namespace Go.Proofs.YtodhljiboakjnaaGreat.Clep
open Go.RowKit
set_option linter.unusedVariables false

/-- What Find's function says of the i-th. -/
def fq (l : List It) (x : It) (i : Nat) : Bool := match l[i]? with | some y => !(y.less x) | none => true
theorem fq_at {l : List It} {x y : It} {i : Nat} (h : l[i]? = some y) : fq l x i = !(y.less x) := by unfold fq; rw [h]
theorem fq_mono {l : List It} (hr : Rise l) (x : It) {i j : Nat} (hij : i ≤ j) (hj : j < l.length) (h : fq l x i = true) : fq l x j = true := by
  rcases Nat.lt_or_ge i j with e | e
  · have hi' : i < l.length := by omega
    rw [fq_at (List.getElem?_eq_getElem hi')] at h
    rw [fq_at (List.getElem?_eq_getElem hj)]
    have hl := List.pairwise_iff_getElem.1 hr i j hi' hj e
    cases hx : (l[j]).less x with
    | false => rfl
    | true => rw [less_trans hl hx] at h; cases h
  · rw [show j = i by omega]; exact h
/-- Find's function in memory: the list's box, the item's box. -/
def Fb (w : World) (P0 P1 : Nat) (a : Option Addr) (n c : Nat) (l : List It) (x : It) : Prop := w.cell? ⟨P0, 0, none⟩ = some (.slice a n c) ∧ Vi w P1 0 x.S x.K x.T x.V x.X ∧ Is w a n c l
theorem Fb.keep {w w' : World} {P0 P1 : Nat} {a : Option Addr} {n c : Nat} {l : List It} {x : It} (h : Fb w P0 P1 a n c l x) (hb : Below w.heap.size w w') : Fb w' P0 P1 a n c l x :=
  ⟨(hb.cell (p := ⟨P0, 0, none⟩) (World.block_lt_of_cell? w _ h.1)).trans h.1, h.2.1.keep hb, h.2.2.below hb (Nat.le_refl _)⟩
set_option maxRecDepth 100000 in
set_option maxHeartbeats 1000000 in
theorem find1_any (P0 P1 : Nat) (a : Option Addr) (n c : Nat) (l : List It) (x : It) (i : Nat) (w : World) (h : Fb w P0 P1 a n c l x) (hi : i < n) (hn : n ≤ 549755813888) :
    Calls Tryz.prog 74 #[.int .i64 i, .pointer (some ⟨P0, 0, none⟩), .pointer (some ⟨P1, 0, none⟩)] w fun e w' => e = .returned (.bool (fq l x i)) ∧ Below w.heap.size w w' := by
  obtain ⟨h0, h1, h2⟩ := h
  obtain ⟨b0, off, ea, hc⟩ := h2.2.2.2 (by omega)
  subst ea
  obtain ⟨y, hy⟩ : ∃ y, l[i]? = some y := ⟨_, List.getElem?_eq_getElem (by rw [h2.1]; exact hi)⟩
  have hv := hide (hc i y hy)
  have hv9 := hide h1
  have hfq := hide (fq_at (x := x) hy)
  have hl0 := World.block_lt_of_cell? w _ h0
  have H0 := hide h0
  obtain ⟨S, K, T, V, X⟩ := x
  obtain ⟨S0, K0, T0, V0', X0⟩ := y
  unfold Vt at hv
  simp only at hv hv9
  have b0' : ∀ p : Kp w, p.W.cell? ⟨P0, 0, none⟩ = some (.slice (some ⟨b0, off, none⟩) n c) := fun p => (p.h.cell (p := ⟨P0, 0, none⟩) hl0).trans H0.out
  have d0 : ∀ p : Kp w, p.W.cell? ⟨P1, 0, none⟩ = some (.int .i64 S) := fun p => by simpa using (hv9.out.keep p.h).1
  have d1 : ∀ p : Kp w, p.W.cell? ⟨P1, 1, none⟩ = some (.int .i64 K) := fun p => by simpa using (hv9.out.keep p.h).2.1
  have d2 : ∀ p : Kp w, p.W.cell? ⟨P1, 2, none⟩ = some (.int .u64 T) := fun p => by simpa using (hv9.out.keep p.h).2.2.1
  have d3 : ∀ p : Kp w, p.W.cell? ⟨P1, 3, none⟩ = some (.int .u64 V) := fun p => by simpa using (hv9.out.keep p.h).2.2.2.1
  have d4 : ∀ p : Kp w, p.W.cell? ⟨P1, 4, none⟩ = some (.int .i64 X) := fun p => by simpa using (hv9.out.keep p.h).2.2.2.2
  have f0 : ∀ p : Kp w, p.W.cell? ⟨b0, off + i * 5, none⟩ = some (.int .i64 S0) := fun p => (hv.out.keep p.h).1
  have f1 : ∀ p : Kp w, p.W.cell? ⟨b0, off + i * 5 + 1, none⟩ = some (.int .i64 K0) := fun p => (hv.out.keep p.h).2.1
  have f2 : ∀ p : Kp w, p.W.cell? ⟨b0, off + i * 5 + 2, none⟩ = some (.int .u64 T0) := fun p => (hv.out.keep p.h).2.2.1
  have f3 : ∀ p : Kp w, p.W.cell? ⟨b0, off + i * 5 + 3, none⟩ = some (.int .u64 V0') := fun p => (hv.out.keep p.h).2.2.2.1
  have f4 : ∀ p : Kp w, p.W.cell? ⟨b0, off + i * 5 + 4, none⟩ = some (.int .i64 X0) := fun p => (hv.out.keep p.h).2.2.2.2
  obtain ⟨o3, ho3⟩ : ∃ o, lessI S0 K0 T0 S K T = o := ⟨_, rfl⟩
  have c0 : Hid (∀ p : Kp w, Calls Tryz.prog 49 #[.agg #[.int .i64 S0, .int .i64 K0, .int .u64 T0, .int .u64 V0', .int .i64 X0], .agg #[.int .i64 S, .int .i64 K, .int .u64 T, .int .u64 V, .int .i64 X]] p.W fun e w'' => e = .returned (.bool o3) ∧ ∃ q : Kp w, w'' = q.W) := hide fun p => kp_call (by rw [← ho3]; exact less_any S0 K0 T0 V0' X0 S K T V X _)
  have HO3 := hide (hfq.out.trans (show (!(It.less ⟨S0, K0, T0, V0', X0⟩ ⟨S, K, T, V, X⟩)) = !o3 by unfold It.less; rw [ho3]))
  have hlt : (i : Int) < (n : Int) := by omega
  have hne : Nonempty (Kp w) := ⟨⟨_, Below.refl _ _⟩⟩
  clear h0 h1 h2 hc hy ho3 hfq
  go_enter Tryz.func74, Tryz.ntmps74
  go_wp2_with fail
  refine wp_region_kept (by kernel_rfl) (by kernel_rfl) ?_
  repeat (first
    | go_big_quiet_step (first | (go_at_call 49; exact c0.out _))
    | fail)
  refine wpQuiet_nil ?_
  intro w3 hw'
  have HB3 : Hid (Below w.heap.size w w3) := by
    obtain ⟨⟨w3', hb3⟩, hw''⟩ := hw'
    rw [hw'']; exact hide hb3
  clear hw' hne c0 d0 d1 d2 d3 d4 f0 f1 f2 f3 f4 b0'
  go_wp2
  go_ret
  exact ⟨by rw [HO3.out]; rfl, HB3.out⟩
set_option maxRecDepth 100000 in
set_option maxHeartbeats 1000000 in
theorem search_any (P0 P1 : Nat) (a : Option Addr) (n c : Nat) (l : List It) (x : It) (w : World) (h : Fb w P0 P1 a n c l x) (hn : n ≤ 549755813888) (hr : Rise l) :
    Calls Tryz.prog 72 #[.int .i64 n, .func (.func 74) #[] #[.pointer (some ⟨P0, 0, none⟩), .pointer (some ⟨P1, 0, none⟩)]] w fun e w' => ∃ k : Nat, e = .returned (.int .i64 k) ∧ k ≤ n ∧ ((∀ i, i < k → fq l x i = false) ∧ ∀ i, k ≤ i → i < n → fq l x i = true) ∧ Below w.heap.size w w' := by
  have hl : l.length = n := h.2.2.1
  have HM := hide (fun i j (hij : i ≤ j) (hj : j < n) (hh : fq l x i = true) => fq_mono hr x hij (by omega) hh)
  have HF := hide (fun W (hW : Below w.heap.size w W) i (hi : i < n) => find1_any P0 P1 a n c l x i W (h.keep hW) hi hn)
  clear h hr
  go_enter Tryz.func72, Tryz.ntmps72
  go_wp2_with fail
  go_loopw [5, 6] (fun s5 s6 wr => ∃ lo hi : Nat, s5 = .int .i64 lo ∧ s6 = .int .i64 hi ∧ lo ≤ hi ∧ hi ≤ n ∧ Hid ((∀ t, t < lo → fq l x t = false) ∧ (∀ t, hi ≤ t → t < n → fq l x t = true)) ∧ Hid (Below w.heap.size w wr)) (fun s5 s6 _ => (intOf s6).toNat - (intOf s5).toNat)
  case atStart => exact ⟨0, n, rfl, rfl, by omega, by omega, hide ⟨fun t ht => by omega, fun t h1 h2 => by omega⟩, hide (Below.refl _ _)⟩
  case round =>
    obtain ⟨lo, hi, rfl, rfl, hlh, hin, hI, hB⟩ := hrel
    by_cases hlt : lo < hi
    · have hc := HF.out wr hB.out ((lo + hi) / 2) (by omega)
      rw [show (((lo + hi) / 2 : Nat) : Int) = ((lo : Int) + (hi : Int)) / 2 by omega] at hc
      obtain ⟨o, ho⟩ : ∃ o, fq l x ((lo + hi) / 2) = o := ⟨_, rfl⟩
      rw [ho] at hc
      have HC := hide hc
      have HO := hide ho
      clear hc ho
      cases o with
      | false =>
        go_wp2_with (first | (go_at_call 74; refine HC.out.mono ?_; rintro e w1 ⟨rfl, hb1⟩))
        go_roundw
        case rel => exact ⟨(lo + hi) / 2 + 1, hi, by go_num, rfl, by omega, hin, hide ⟨fun t ht => (by
            cases hf : fq l x t with
            | false => rfl
            | true => exact absurd (HM.out t ((lo + hi) / 2) (by omega) (by omega) hf) (by rw [HO.out]; decide)), hI.out.2⟩, hide (bmore hB.out hb1)⟩
        case measure => simp [intOf]; omega
      | true =>
        go_wp2_with (first | (go_at_call 74; refine HC.out.mono ?_; rintro e w1 ⟨rfl, hb1⟩))
        go_roundw
        case rel => exact ⟨lo, (lo + hi) / 2, rfl, by go_num, by omega, by omega, hide ⟨hI.out.1, fun t ht htn => HM.out ((lo + hi) / 2) t ht htn HO.out⟩, hide (bmore hB.out hb1)⟩
        case measure => simp [intOf]; omega
    · obtain rfl : lo = hi := by omega
      go_wp2
      go_ret
      exact ⟨lo, rfl, hin, hI.out, hB.out⟩

/-- What Find answers. -/
def fd (l : List It) (x : It) : Option It := l.find? (fun y => y.same x)
theorem fd_none_of {l : List It} {x : It} (h : ∀ y ∈ l, y.same x = false) : fd l x = none := by
  unfold fd
  rw [List.find?_eq_none]
  intro y hy
  simp [h y hy]
theorem fd_less {l : List It} {x : It} (h : ∀ i, i < l.length → fq l x i = false) : fd l x = none := by
  refine fd_none_of fun y hy => ?_
  obtain ⟨i, hi, rfl⟩ := List.getElem_of_mem hy
  have := h i hi
  rw [fq_at (List.getElem?_eq_getElem hi)] at this
  have hl : (l[i]).less x = true := by simpa using this
  rw [less_iff] at hl; rw [nsame_iff]; omega
theorem fd_at {l : List It} {x y : It} {k : Nat} (h : ∀ i, i < k → fq l x i = false) (hy : l[k]? = some y) (hs : y.same x = true) : fd l x = some y := by
  have hk := (List.getElem?_eq_some_iff.1 hy).1
  unfold fd
  have hd : l.drop k = y :: l.drop (k + 1) := by rw [List.drop_eq_getElem_cons hk, (List.getElem?_eq_some_iff.1 hy).2]
  have hn : (l.take k).find? (fun y => y.same x) = none := by
    rw [List.find?_eq_none]
    intro z hz
    obtain ⟨i, hi, rfl⟩ := List.getElem_of_mem hz
    have hik : i < k := by rw [List.length_take] at hi; omega
    have := h i hik
    have hil : i < l.length := by omega
    rw [fq_at (List.getElem?_eq_getElem hil)] at this
    have hl : (l[i]).less x = true := by simpa using this
    rw [List.getElem_take]
    rw [less_iff] at hl
    have : (l[i]).same x = false := by rw [nsame_iff]; omega
    simp [this]
  conv => lhs; rw [← List.take_append_drop k l, hd]
  rw [List.find?_append, hn]
  simp [hs]
theorem fd_not {l : List It} {x y : It} {k : Nat} (hr : Rise l) (h : ∀ i, i < k → fq l x i = false) (hy : l[k]? = some y) (hk : fq l x k = true) (hs : y.same x = false) : fd l x = none := by
  have hkl := (List.getElem?_eq_some_iff.1 hy).1
  have hyl : y.less x = false := by rw [fq_at hy] at hk; simpa using hk
  have hxy : x.less y = true := tri y x hs hyl
  refine fd_none_of fun z hz => ?_
  obtain ⟨i, hi, rfl⟩ := List.getElem_of_mem hz
  rcases Nat.lt_or_ge i k with e | e
  · have := h i e
    rw [fq_at (List.getElem?_eq_getElem hi)] at this
    have hl : (l[i]).less x = true := by simpa using this
    rw [less_iff] at hl; rw [nsame_iff]; omega
  · rcases Nat.lt_or_ge k i with e2 | e2
    · have hl := List.pairwise_iff_getElem.1 hr k i hkl hi e2
      rw [(List.getElem?_eq_some_iff.1 hy).2] at hl
      have := less_trans hxy hl
      rw [less_iff] at this; rw [nsame_iff]; omega
    · have e3 : i = k := by omega
      subst e3
      rw [(List.getElem?_eq_some_iff.1 hy).2]; exact hs
theorem find_results {w : World} {R : Nat} {S K T V X : Int} {b : Bool} (h : Vx w R S K T V X) (ts : Array Value) (h2 : ts.getD 4 undef = .pointer (some ⟨R, 0, none⟩)) (h3 : ts.getD 5 undef = .bool b) :
    (results Tryz.f48 ts).run Tryz.prog w = .ok (.tuple #[.agg #[.int .i64 S, .int .i64 K, .int .u64 T, .int .u64 V, .int .i64 X], .bool b]) w := by
  obtain ⟨⟨h0, h1, h4, h5, h6⟩, -⟩ := h
  simp only [Nat.zero_add] at h1 h4 h5 h6
  rw [Array.getD_eq_getD_getElem?] at h2 h3
  simp [results, Tryz.results48, go_sem, h0, h1, h2, h3, h4, h5, h6]
def oz : It := ⟨0, 0, 0, 0, 0⟩
set_option maxRecDepth 100000 in
set_option maxHeartbeats 2000000 in
theorem find_any (a : Option Addr) (n c : Nat) (l : List It) (x : It) (w : World) (h : Is w a n c l) (hn : n ≤ 549755813888) (hr : Rise l) :
    Calls Tryz.prog 48 #[.slice a n c, .agg #[.int .i64 x.S, .int .i64 x.K, .int .u64 x.T, .int .u64 x.V, .int .i64 x.X]] w fun e w' => e = .returned (.tuple #[.agg (cv ((fd l x).getD oz)).toArray, .bool (fd l x).isSome]) ∧ Below w.heap.size w w' := by
  have hl := h.1
  have A0 := (Below.refl _ w).alloc (Nat.le_refl _) (Obj.cells #[Value.slice a n c] 22)
  have K0 := hpS w (Obj.cells #[Value.slice a n c] 22) w.heap.size rfl
  obtain ⟨w1, hw1⟩ : ∃ w1, w1 = w.alloc (Obj.cells #[Value.slice a n c] 22) := ⟨_, rfl⟩
  have hs1 : w1.heap.size = w.heap.size + 1 := by rw [hw1]; simp
  rw [← hw1] at A0 K0
  have hc0 : w1.cell? ⟨w.heap.size, 0, none⟩ = some (.slice a n c) := by simp [World.cell?, K0]
  have A1 := (Below.refl _ w1).alloc (Nat.le_refl _) (Obj.cells #[.int .i64 x.S, .int .i64 x.K, .int .u64 x.T, .int .u64 x.V, .int .i64 x.X] 25)
  have V1 := vi_new w1 x.S x.K x.T x.V x.X
  obtain ⟨w2, hw2⟩ : ∃ w2, w2 = w1.alloc (Obj.cells #[.int .i64 x.S, .int .i64 x.K, .int .u64 x.T, .int .u64 x.V, .int .i64 x.X] 25) := ⟨_, rfl⟩
  have hs2 : w2.heap.size = w.heap.size + 1 + 1 := by rw [hw2]; simp [hs1]
  rw [← hw2] at A1 V1
  rw [hs1] at V1
  have A2 := (Below.refl _ w2).alloc (Nat.le_refl _) (Obj.cells #[.int .i64 0, .int .i64 0, .int .u64 0, .int .u64 0, .int .i64 0] 25)
  have V2 := vx_new w2 0 0 0 0 0
  obtain ⟨w3, hw3⟩ : ∃ w3, w3 = w2.alloc (Obj.cells #[.int .i64 0, .int .i64 0, .int .u64 0, .int .u64 0, .int .i64 0] 25) := ⟨_, rfl⟩
  rw [← hw3] at A2 V2
  rw [hs2] at V2
  have B3 := hide (bmore (bmore A0 A1) A2)
  have hF := hide (show Fb w3 w.heap.size (w.heap.size + 1) a n c l x from ⟨((bmore A1 A2).cell (p := ⟨w.heap.size, 0, none⟩) (World.block_lt_of_cell? w1 _ hc0)).trans hc0, V1.keep A2, h.below (bmore (bmore A0 A1) A2) (Nat.le_refl _)⟩)
  have HV := hide V2
  have hS := hide (search_any w.heap.size (w.heap.size + 1) a n c l x w3 hF.out hn hr)
  have HR := hide hr
  have hcl : w3.cell? ⟨w.heap.size, 0, none⟩ = some (.slice a n c) := hF.out.1
  clear h A0 A1 A2 V1 V2 K0 hc0 hr hs1 hs2
  go_enter Tryz.func48, Tryz.ntmps48
  go_wp2_with fail
  rw [← hw1, ← hw2, ← hw3]
  clear hw1 hw2 hw3
  obtain ⟨P0, hP0⟩ : ∃ P0, P0 = w.heap.size := ⟨_, rfl⟩
  have HP0 := hide hP0
  rw [← hP0] at hF HV hS hcl ⊢
  clear hP0
  go_wp2_with fail
  refine hS.out.mono ?_
  rintro e w4 ⟨k, rfl, hk, ⟨hlo, hhi⟩, hb4⟩
  have B4 := hide (bmore B3.out hb4)
  replace hF := hide (hF.out.keep hb4)
  replace HV := hide (HV.out.keep hb4)
  have HLO := hide hlo
  have HHI := hide hhi
  have hsz : Hid (w.heap.size + 2 < w4.heap.size) := hide (by have := HV.out.lt; have := HP0.out; omega)
  clear hS hcl hlo hhi hb4 B3
  obtain ⟨h0, h1, h2⟩ := hF.out
  have hl0 := World.block_lt_of_cell? w4 _ h0
  have H0 := hide h0
  have hv9 := hide h1
  have b0' : ∀ p : Kp w4, p.W.cell? ⟨P0, 0, none⟩ = some (.slice a n c) := fun p => (p.h.cell (p := ⟨P0, 0, none⟩) hl0).trans H0.out
  have hne : Nonempty (Kp w4) := ⟨⟨_, Below.refl _ _⟩⟩
  by_cases hkn : k = n
  · have q : ((k : Int) == (n : Int)) = true := by simp [hkn]
    have hr := hide (fd_less (l := l) (x := x) (fun i hi => HLO.out i (by omega)))
    clear hkn h0 h1 h2 hl0
    go_wp2_with fail
    refine wp_region_kept (by kernel_rfl) (by kernel_rfl) ?_
    repeat (first
      | go_big_quiet_step (fail)
      | fail)
    refine wpQuiet_nil ?_
    intro w5 hw'
    have hb5 : Hid (Below w4.heap.size w4 w5) := by
      obtain ⟨⟨w3', hb3⟩, hw''⟩ := hw'
      rw [hw'']; exact hide hb3
    have VX := hide (HV.out.keep hb5.out)
    have gx := VX.out
    unfold Vx Vi Vf at gx
    simp only [Nat.zero_add] at gx
    obtain ⟨⟨y0, y1, y2, y3, y4⟩, z0, z1, z2, z3, z4⟩ := gx
    clear hw' hne b0'
    go_wp2_with fail
    refine bodyPost_ret (find_results (VX.out.put 0 0 0 0 0) _ rfl rfl) rfl ⟨by rw [hr.out]; rfl, ?_⟩
    exact (bmore B4.out hb5.out).grown (gb_putI w5 (P0 + 1 + 1) 0 0 0 0 0) (bmore B4.out hb5.out).size (fun j hj => by cases hj; rw [HP0.out]; omega)
  · have q : ((k : Int) == (n : Int)) = false := by simp; omega
    have hkn2 : k < n := by omega
    have hlt : (k : Int) < (n : Int) := by omega
    obtain ⟨b0, off, ea, hc⟩ := h2.2.2.2 (by omega)
    subst ea
    obtain ⟨y, hy⟩ : ∃ y, l[k]? = some y := ⟨_, List.getElem?_eq_getElem (by rw [hl]; exact hkn2)⟩
    have hv := hide (hc k y hy)
    have HY := hide hy
    have hfk := hide (HHI.out k (Nat.le_refl _) hkn2)
    obtain ⟨S, K, T, V, X⟩ := x
    obtain ⟨S0, K0, T0, V0', X0⟩ := y
    unfold Vt at hv
    simp only at hv hv9
    have d0 : ∀ p : Kp w4, p.W.cell? ⟨P0 + 1, 0, none⟩ = some (.int .i64 S) := fun p => by simpa using (hv9.out.keep p.h).1
    have d1 : ∀ p : Kp w4, p.W.cell? ⟨P0 + 1, 1, none⟩ = some (.int .i64 K) := fun p => by simpa using (hv9.out.keep p.h).2.1
    have d2 : ∀ p : Kp w4, p.W.cell? ⟨P0 + 1, 2, none⟩ = some (.int .u64 T) := fun p => by simpa using (hv9.out.keep p.h).2.2.1
    have d3 : ∀ p : Kp w4, p.W.cell? ⟨P0 + 1, 3, none⟩ = some (.int .u64 V) := fun p => by simpa using (hv9.out.keep p.h).2.2.2.1
    have d4 : ∀ p : Kp w4, p.W.cell? ⟨P0 + 1, 4, none⟩ = some (.int .i64 X) := fun p => by simpa using (hv9.out.keep p.h).2.2.2.2
    have f0 : ∀ p : Kp w4, p.W.cell? ⟨b0, off + k * 5, none⟩ = some (.int .i64 S0) := fun p => (hv.out.keep p.h).1
    have f1 : ∀ p : Kp w4, p.W.cell? ⟨b0, off + k * 5 + 1, none⟩ = some (.int .i64 K0) := fun p => (hv.out.keep p.h).2.1
    have f2 : ∀ p : Kp w4, p.W.cell? ⟨b0, off + k * 5 + 2, none⟩ = some (.int .u64 T0) := fun p => (hv.out.keep p.h).2.2.1
    have f3 : ∀ p : Kp w4, p.W.cell? ⟨b0, off + k * 5 + 3, none⟩ = some (.int .u64 V0') := fun p => (hv.out.keep p.h).2.2.2.1
    have f4 : ∀ p : Kp w4, p.W.cell? ⟨b0, off + k * 5 + 4, none⟩ = some (.int .i64 X0) := fun p => (hv.out.keep p.h).2.2.2.2
    obtain ⟨o3, ho3⟩ : ∃ o, sameI S0 K0 T0 S K T = o := ⟨_, rfl⟩
    have c0 : Hid (∀ p : Kp w4, Calls Tryz.prog 75 #[.agg #[.int .i64 S0, .int .i64 K0, .int .u64 T0, .int .u64 V0', .int .i64 X0], .agg #[.int .i64 S, .int .i64 K, .int .u64 T, .int .u64 V, .int .i64 X]] p.W fun e w'' => e = .returned (.bool o3) ∧ ∃ q : Kp w4, w'' = q.W) := hide fun p => kp_call (by rw [← ho3]; exact same_any S0 K0 T0 V0' X0 S K T V X _)
    have HO3 := hide ho3
    clear hkn h0 h1 h2 hl0 hc hy ho3 hkn2
    cases o3 with
    | false =>
      have hr := hide (fd_not HR.out (fun i hi => HLO.out i hi) HY.out hfk.out (by unfold It.same; exact HO3.out))
      go_wp2_with fail
      refine wp_region_kept (by kernel_rfl) (by kernel_rfl) ?_
      repeat (first
        | go_big_quiet_step (first | (go_at_call 75; exact c0.out _))
        | fail)
      refine wpQuiet_nil ?_
      intro w5 hw'
      have hb5 : Hid (Below w4.heap.size w4 w5) := by
        obtain ⟨⟨w3', hb3⟩, hw''⟩ := hw'
        rw [hw'']; exact hide hb3
      have VX := hide (HV.out.keep hb5.out)
      have gx := VX.out
      unfold Vx Vi Vf at gx
      simp only [Nat.zero_add] at gx
      obtain ⟨⟨y0, y1, y2, y3, y4⟩, z0, z1, z2, z3, z4⟩ := gx
      clear hw' hne b0' c0 d0 d1 d2 d3 d4 f0 f1 f2 f3 f4
      go_wp2_with fail
      refine bodyPost_ret (find_results (VX.out.put 0 0 0 0 0) _ rfl rfl) rfl ⟨by rw [hr.out]; rfl, ?_⟩
      exact (bmore B4.out hb5.out).grown (gb_putI w5 (P0 + 1 + 1) 0 0 0 0 0) (bmore B4.out hb5.out).size (fun j hj => by cases hj; rw [HP0.out]; omega)
    | true =>
      have hr := hide (fd_at (fun i hi => HLO.out i hi) HY.out (by unfold It.same; exact HO3.out))
      go_wp2_with fail
      refine wp_region_kept (by kernel_rfl) (by kernel_rfl) ?_
      repeat (first
        | go_big_quiet_step (first | (go_at_call 75; exact c0.out _))
        | fail)
      refine wpQuiet_nil ?_
      intro w5 hw'
      have hb5 : Hid (Below w4.heap.size w4 w5) := by
        obtain ⟨⟨w3', hb3⟩, hw''⟩ := hw'
        rw [hw'']; exact hide hb3
      have VX := hide (HV.out.keep hb5.out)
      have gx := VX.out
      unfold Vx Vi Vf at gx
      simp only [Nat.zero_add] at gx
      obtain ⟨⟨y0, y1, y2, y3, y4⟩, z0, z1, z2, z3, z4⟩ := gx
      have e0 := b0' ⟨w5, hb5.out⟩
      have e1 := f0 ⟨w5, hb5.out⟩
      have e2 := f1 ⟨w5, hb5.out⟩
      have e3 := f2 ⟨w5, hb5.out⟩
      have e4 := f3 ⟨w5, hb5.out⟩
      have e5 := f4 ⟨w5, hb5.out⟩
      simp only at e0 e1 e2 e3 e4 e5
      clear hw' hne b0' c0 d0 d1 d2 d3 d4 f0 f1 f2 f3 f4
      go_wp2_with fail
      refine bodyPost_ret (find_results (VX.out.put S0 K0 T0 V0' X0) _ rfl rfl) rfl ⟨by rw [hr.out]; rfl, ?_⟩
      exact (bmore B4.out hb5.out).grown (gb_putI w5 (P0 + 1 + 1) S0 K0 T0 V0' X0) (bmore B4.out hb5.out).size (fun j hj => by cases hj; rw [HP0.out]; omega)

end Go.Proofs.YtodhljiboakjnaaGreat.Clep
