/- What the document's own Series, Range, Upto, Purge, Top and Tomb do when called: for any items. Conditions: at most 2^39 items. -/
import Derived.Test.YtckfgpcoingphaaSAwake
namespace Go.Proofs.Ytckfgpcoingphaa.Clep
open Go.RowKit
set_option linter.unusedVariables false

theorem filt1 (p : It → Bool) (l : List It) (i : Nat) (x : It) (h : l[i]? = some x) : (l.take (i + 1)).filter p = (l.take i).filter p ++ (if p x then [x] else []) := filt_snoc p [] l i x h

set_option maxHeartbeats 2000000 in
theorem refseries_any (a : Option Addr) (n c : Nat) (l : List It) (s : Int) (w : World) (h : Is w a n c l) (hn : n ≤ 549755813888) : Calls Try.prog 26 #[.slice a n c, .int .i64 s] w (Ans (l.filter (fun x => x.S == s)) w) := by
  have hl := h.1
  have H0 := hide (fun W (hW : Below w.heap.size w W) => h.below hW (Nat.le_refl _))
  have HW := hide h.2.2.1
  clear h
  go_enter Try.func26, Try.ntmps26
  go_wp2_with fail
  go_loopw [5, 6] (fun so si wr => ∃ k : Nat, k ≤ n ∧ si = .int .i64 k ∧ Hid (OwnI wr w.heap.size so ((l.take k).filter (fun x => x.S == s))) ∧ Hid (Below w.heap.size w wr)) (fun _ si _ => n - (intOf si).toNat)
  case atStart => exact ⟨0, by omega, rfl, hide (by simpa using ownI_nil _ _), hide (Below.refl _ _)⟩
  case round =>
    obtain ⟨k, hk, rfl, hown, hbel⟩ := hrel
    by_cases hlt : k < n
    · obtain ⟨b0, off, ea, hc⟩ := (H0.out _ hbel.out).2.2.2 (by omega)
      subst ea
      obtain ⟨x, hx⟩ : ∃ x, l[k]? = some x := ⟨_, List.getElem?_eq_getElem (by rw [hl]; exact hlt)⟩
      have hv := hc k x hx
      have HX := hide (filt1 (fun x => x.S == s) l k x hx)
      have hxw := hide (HW.out x (List.mem_of_getElem? hx))
      have hln : Hid (((l.take k).filter (fun x => x.S == s)).length + 1 ≤ 1099511627776) := hide (by have h1 := List.length_filter_le (fun x => x.S == s) (l.take k); rw [List.length_take] at h1; omega)
      obtain ⟨S, K, T, V, X⟩ := x
      unfold Vt Vi at hv
      simp only at hv
      obtain ⟨v0, v1, v2, v3, v4⟩ := hv
      clear hc hx
      by_cases e : S = s
      · have q_e : (S == s) = true := by simp [e]
        have hp : Hid (((fun x => x.S == s) : It → Bool) ⟨S, K, T, V, X⟩ = true) := hide (by simp [e])
        have O1 := hide (ownI_keep hown.out ((Below.refl _ _).alloc (Nat.le_refl _) (Obj.cells #[Value.int IntKind.i64 S, Value.int IntKind.i64 K, Value.int IntKind.u64 T, Value.int IntKind.u64 V, Value.int IntKind.i64 X] 29)))
        have B1 := hide (hbel.out.alloc hbel.out.size (Obj.cells #[Value.int IntKind.i64 S, Value.int IntKind.i64 K, Value.int IntKind.u64 T, Value.int IntKind.u64 V, Value.int IntKind.i64 X] 29))
        have IA := hide (is_one wr S K T V X hxw.out)
        clear e
        go_wp2_with (at_builtin; refine wpList_append_items rfl _ _ rfl w.heap.size _ _ rfl O1.out _ 1 1 [⟨S, K, T, V, X⟩] rfl IA.out hln.out B1.out.size ?_; intro v2 w2 o2 g2 k2)
        have O2 := hide o2
        have B2 := hide (B1.out.grown g2 B1.out.size k2)
        go_roundw
        case rel => exact ⟨k + 1, by omega, by go_num, hide (by rw [HX.out, if_pos hp.out]; exact O2.out), B2⟩
        case measure => simp [intOf]; omega
      · have q_e : (S == s) = false := by simp [e]
        have hp : Hid (((fun x => x.S == s) : It → Bool) ⟨S, K, T, V, X⟩ = false) := hide (by simp [e])
        clear e
        go_wp2
        go_roundw
        case rel => exact ⟨k + 1, by omega, by go_num, hide (by rw [HX.out, if_neg (fun e => by have h9 := hp.out.symm.trans e; cases h9)]; simpa using hown.out), hbel⟩
        case measure => simp [intOf]; omega
    · obtain rfl : k = n := by omega
      have HE := hide (show l.take k = l by rw [← hl]; exact List.take_length)
      rw [HE.out] at hown
      have HW2 := hide (fun x (hx : x ∈ l.filter (fun x => x.S == s)) => HW.out x (List.mem_filter.1 hx).1)
      go_wp2
      go_ret
      exact ans_own (w1 := w) hown.out HW2.out hbel.out

set_option maxHeartbeats 2000000 in
theorem refupto_any (a : Option Addr) (n c : Nat) (l : List It) (v : Int) (w : World) (h : Is w a n c l) (hn : n ≤ 549755813888) : Calls Try.prog 30 #[.slice a n c, .int .u64 v] w (Ans (l.filter (fun x => decide (x.V ≤ v))) w) := by
  have hl := h.1
  have H0 := hide (fun W (hW : Below w.heap.size w W) => h.below hW (Nat.le_refl _))
  have HW := hide h.2.2.1
  clear h
  go_enter Try.func30, Try.ntmps30
  go_wp2_with fail
  go_loopw [5, 6] (fun so si wr => ∃ k : Nat, k ≤ n ∧ si = .int .i64 k ∧ Hid (OwnI wr w.heap.size so ((l.take k).filter (fun x => decide (x.V ≤ v)))) ∧ Hid (Below w.heap.size w wr)) (fun _ si _ => n - (intOf si).toNat)
  case atStart => exact ⟨0, by omega, rfl, hide (by simpa using ownI_nil _ _), hide (Below.refl _ _)⟩
  case round =>
    obtain ⟨k, hk, rfl, hown, hbel⟩ := hrel
    by_cases hlt : k < n
    · obtain ⟨b0, off, ea, hc⟩ := (H0.out _ hbel.out).2.2.2 (by omega)
      subst ea
      obtain ⟨x, hx⟩ : ∃ x, l[k]? = some x := ⟨_, List.getElem?_eq_getElem (by rw [hl]; exact hlt)⟩
      have hv := hc k x hx
      have HX := hide (filt1 (fun x => decide (x.V ≤ v)) l k x hx)
      have hxw := hide (HW.out x (List.mem_of_getElem? hx))
      have hln : Hid (((l.take k).filter (fun x => decide (x.V ≤ v))).length + 1 ≤ 1099511627776) := hide (by have h1 := List.length_filter_le (fun x => decide (x.V ≤ v)) (l.take k); rw [List.length_take] at h1; omega)
      obtain ⟨S, K, T, V, X⟩ := x
      unfold Vt Vi at hv
      simp only at hv
      obtain ⟨v0, v1, v2, v3, v4⟩ := hv
      clear hc hx
      by_cases e : V ≤ v
      · have q_e : decide (V ≤ v) = true := by simp [e]
        have hp : Hid (((fun x => decide (x.V ≤ v)) : It → Bool) ⟨S, K, T, V, X⟩ = true) := hide (by simp [e])
        have O1 := hide (ownI_keep hown.out ((Below.refl _ _).alloc (Nat.le_refl _) (Obj.cells #[Value.int IntKind.i64 S, Value.int IntKind.i64 K, Value.int IntKind.u64 T, Value.int IntKind.u64 V, Value.int IntKind.i64 X] 29)))
        have B1 := hide (hbel.out.alloc hbel.out.size (Obj.cells #[Value.int IntKind.i64 S, Value.int IntKind.i64 K, Value.int IntKind.u64 T, Value.int IntKind.u64 V, Value.int IntKind.i64 X] 29))
        have IA := hide (is_one wr S K T V X hxw.out)
        clear e
        go_wp2_with (at_builtin; refine wpList_append_items rfl _ _ rfl w.heap.size _ _ rfl O1.out _ 1 1 [⟨S, K, T, V, X⟩] rfl IA.out hln.out B1.out.size ?_; intro v2 w2 o2 g2 k2)
        have O2 := hide o2
        have B2 := hide (B1.out.grown g2 B1.out.size k2)
        go_roundw
        case rel => exact ⟨k + 1, by omega, by go_num, hide (by rw [HX.out, if_pos hp.out]; exact O2.out), B2⟩
        case measure => simp [intOf]; omega
      · have q_e : decide (V ≤ v) = false := by simp; omega
        have hp : Hid (((fun x => decide (x.V ≤ v)) : It → Bool) ⟨S, K, T, V, X⟩ = false) := hide (by simp; omega)
        clear e
        go_wp2
        go_roundw
        case rel => exact ⟨k + 1, by omega, by go_num, hide (by rw [HX.out, if_neg (fun e => by have h9 := hp.out.symm.trans e; cases h9)]; simpa using hown.out), hbel⟩
        case measure => simp [intOf]; omega
    · obtain rfl : k = n := by omega
      have HE := hide (show l.take k = l by rw [← hl]; exact List.take_length)
      rw [HE.out] at hown
      have HW2 := hide (fun x (hx : x ∈ l.filter (fun x => decide (x.V ≤ v))) => HW.out x (List.mem_filter.1 hx).1)
      go_wp2
      go_ret
      exact ans_own (w1 := w) hown.out HW2.out hbel.out

set_option maxHeartbeats 2000000 in
theorem refpurge_any (a : Option Addr) (n c : Nat) (l : List It) (v : Int) (w : World) (h : Is w a n c l) (hn : n ≤ 549755813888) : Calls Try.prog 31 #[.slice a n c, .int .u64 v] w (Ans (l.filter (purgeP v)) w) := by
  have hl := h.1
  have H0 := hide (fun W (hW : Below w.heap.size w W) => h.below hW (Nat.le_refl _))
  have HW := hide h.2.2.1
  clear h
  go_enter Try.func31, Try.ntmps31
  go_wp2_with fail
  go_loopw [5, 6] (fun so si wr => ∃ k : Nat, k ≤ n ∧ si = .int .i64 k ∧ Hid (OwnI wr w.heap.size so ((l.take k).filter (purgeP v))) ∧ Hid (Below w.heap.size w wr)) (fun _ si _ => n - (intOf si).toNat)
  case atStart => exact ⟨0, by omega, rfl, hide (by simpa using ownI_nil _ _), hide (Below.refl _ _)⟩
  case round =>
    obtain ⟨k, hk, rfl, hown, hbel⟩ := hrel
    by_cases hlt : k < n
    · obtain ⟨b0, off, ea, hc⟩ := (H0.out _ hbel.out).2.2.2 (by omega)
      subst ea
      obtain ⟨x, hx⟩ : ∃ x, l[k]? = some x := ⟨_, List.getElem?_eq_getElem (by rw [hl]; exact hlt)⟩
      have hv := hc k x hx
      have HX := hide (filt1 (purgeP v) l k x hx)
      have hxw := hide (HW.out x (List.mem_of_getElem? hx))
      have hln : Hid (((l.take k).filter (purgeP v)).length + 1 ≤ 1099511627776) := hide (by have h1 := List.length_filter_le (purgeP v) (l.take k); rw [List.length_take] at h1; omega)
      obtain ⟨S, K, T, V, X⟩ := x
      unfold Vt Vi at hv
      simp only at hv
      obtain ⟨v0, v1, v2, v3, v4⟩ := hv
      clear hc hx
      by_cases e : K = 1
      · have q_e : (K != 1) = false := by simp [e]
        by_cases f : v < V
        · have q_f : decide (v < V) = true := by simp [f]
          have hp : Hid (((purgeP v) : It → Bool) ⟨S, K, T, V, X⟩ = true) := hide (by simp [purgeP, e, f])
          have O1 := hide (ownI_keep hown.out ((Below.refl _ _).alloc (Nat.le_refl _) (Obj.cells #[Value.int IntKind.i64 S, Value.int IntKind.i64 K, Value.int IntKind.u64 T, Value.int IntKind.u64 V, Value.int IntKind.i64 X] 29)))
          have B1 := hide (hbel.out.alloc hbel.out.size (Obj.cells #[Value.int IntKind.i64 S, Value.int IntKind.i64 K, Value.int IntKind.u64 T, Value.int IntKind.u64 V, Value.int IntKind.i64 X] 29))
          have IA := hide (is_one wr S K T V X hxw.out)
          clear e f
          go_wp2_with (at_builtin; refine wpList_append_items rfl _ _ rfl w.heap.size _ _ rfl O1.out _ 1 1 [⟨S, K, T, V, X⟩] rfl IA.out hln.out B1.out.size ?_; intro v2 w2 o2 g2 k2)
          have O2 := hide o2
          have B2 := hide (B1.out.grown g2 B1.out.size k2)
          go_roundw
          case rel => exact ⟨k + 1, by omega, by go_num, hide (by rw [HX.out, if_pos hp.out]; exact O2.out), B2⟩
          case measure => simp [intOf]; omega
        · have q_f : decide (v < V) = false := by simp; omega
          have hp : Hid (((purgeP v) : It → Bool) ⟨S, K, T, V, X⟩ = false) := hide (by simp [purgeP, e]; omega)
          clear e f
          go_wp2
          go_roundw
          case rel => exact ⟨k + 1, by omega, by go_num, hide (by rw [HX.out, if_neg (fun e => by have h9 := hp.out.symm.trans e; cases h9)]; simpa using hown.out), hbel⟩
          case measure => simp [intOf]; omega
      · have q_e : (K != 1) = true := by simp [e]
        have hp : Hid (((purgeP v) : It → Bool) ⟨S, K, T, V, X⟩ = true) := hide (by simp [purgeP, e])
        have O1 := hide (ownI_keep hown.out ((Below.refl _ _).alloc (Nat.le_refl _) (Obj.cells #[Value.int IntKind.i64 S, Value.int IntKind.i64 K, Value.int IntKind.u64 T, Value.int IntKind.u64 V, Value.int IntKind.i64 X] 29)))
        have B1 := hide (hbel.out.alloc hbel.out.size (Obj.cells #[Value.int IntKind.i64 S, Value.int IntKind.i64 K, Value.int IntKind.u64 T, Value.int IntKind.u64 V, Value.int IntKind.i64 X] 29))
        have IA := hide (is_one wr S K T V X hxw.out)
        clear e
        go_wp2_with (at_builtin; refine wpList_append_items rfl _ _ rfl w.heap.size _ _ rfl O1.out _ 1 1 [⟨S, K, T, V, X⟩] rfl IA.out hln.out B1.out.size ?_; intro v2 w2 o2 g2 k2)
        have O2 := hide o2
        have B2 := hide (B1.out.grown g2 B1.out.size k2)
        go_roundw
        case rel => exact ⟨k + 1, by omega, by go_num, hide (by rw [HX.out, if_pos hp.out]; exact O2.out), B2⟩
        case measure => simp [intOf]; omega
    · obtain rfl : k = n := by omega
      have HE := hide (show l.take k = l by rw [← hl]; exact List.take_length)
      rw [HE.out] at hown
      have HW2 := hide (fun x (hx : x ∈ l.filter (purgeP v)) => HW.out x (List.mem_filter.1 hx).1)
      go_wp2
      go_ret
      exact ans_own (w1 := w) hown.out HW2.out hbel.out

set_option maxHeartbeats 2000000 in
theorem refrange_any (a : Option Addr) (n c : Nat) (l : List It) (s lo hi : Int) (w : World) (h : Is w a n c l) (hn : n ≤ 549755813888) : Calls Try.prog 28 #[.slice a n c, .int .i64 s, .int .u64 lo, .int .u64 hi] w (Ans (l.filter (rangeP s lo hi)) w) := by
  have hl := h.1
  have H0 := hide (fun W (hW : Below w.heap.size w W) => h.below hW (Nat.le_refl _))
  have HW := hide h.2.2.1
  clear h
  go_enter Try.func28, Try.ntmps28
  go_wp2_with fail
  go_loopw [9, 10] (fun so si wr => ∃ k : Nat, k ≤ n ∧ si = .int .i64 k ∧ Hid (OwnI wr w.heap.size so ((l.take k).filter (rangeP s lo hi))) ∧ Hid (Below w.heap.size w wr)) (fun _ si _ => n - (intOf si).toNat)
  case atStart => exact ⟨0, by omega, rfl, hide (by simpa using ownI_nil _ _), hide (Below.refl _ _)⟩
  case round =>
    obtain ⟨k, hk, rfl, hown, hbel⟩ := hrel
    by_cases hlt : k < n
    · obtain ⟨b0, off, ea, hc⟩ := (H0.out _ hbel.out).2.2.2 (by omega)
      subst ea
      obtain ⟨x, hx⟩ : ∃ x, l[k]? = some x := ⟨_, List.getElem?_eq_getElem (by rw [hl]; exact hlt)⟩
      have hv := hc k x hx
      have HX := hide (filt1 (rangeP s lo hi) l k x hx)
      have hxw := hide (HW.out x (List.mem_of_getElem? hx))
      have hln : Hid (((l.take k).filter (rangeP s lo hi)).length + 1 ≤ 1099511627776) := hide (by have h1 := List.length_filter_le (rangeP s lo hi) (l.take k); rw [List.length_take] at h1; omega)
      obtain ⟨S, K, T, V, X⟩ := x
      unfold Vt Vi at hv
      simp only at hv
      obtain ⟨v0, v1, v2, v3, v4⟩ := hv
      clear hc hx
      by_cases e : S = s
      · have q_e : (S == s) = true := by simp [e]
        by_cases f : K = 2
        · have q_f : (K == 2) = true := by simp [f]
          by_cases g : lo ≤ T
          · have q_g : decide (lo ≤ T) = true := by simp [g]
            by_cases h : T ≤ hi
            · have q_h : decide (T ≤ hi) = true := by simp [h]
              have hp : Hid (((rangeP s lo hi) : It → Bool) ⟨S, K, T, V, X⟩ = true) := hide (by simp [rangeP, e, f, g, h])
              have O1 := hide (ownI_keep hown.out ((Below.refl _ _).alloc (Nat.le_refl _) (Obj.cells #[Value.int IntKind.i64 S, Value.int IntKind.i64 K, Value.int IntKind.u64 T, Value.int IntKind.u64 V, Value.int IntKind.i64 X] 29)))
              have B1 := hide (hbel.out.alloc hbel.out.size (Obj.cells #[Value.int IntKind.i64 S, Value.int IntKind.i64 K, Value.int IntKind.u64 T, Value.int IntKind.u64 V, Value.int IntKind.i64 X] 29))
              have IA := hide (is_one wr S K T V X hxw.out)
              clear e f g h
              go_wp2_with (at_builtin; refine wpList_append_items rfl _ _ rfl w.heap.size _ _ rfl O1.out _ 1 1 [⟨S, K, T, V, X⟩] rfl IA.out hln.out B1.out.size ?_; intro v2 w2 o2 g2 k2)
              have O2 := hide o2
              have B2 := hide (B1.out.grown g2 B1.out.size k2)
              go_roundw
              case rel => exact ⟨k + 1, by omega, by go_num, hide (by rw [HX.out, if_pos hp.out]; exact O2.out), B2⟩
              case measure => simp [intOf]; omega
            · have q_h : decide (T ≤ hi) = false := by simp; omega
              have hp : Hid (((rangeP s lo hi) : It → Bool) ⟨S, K, T, V, X⟩ = false) := hide (by simp [rangeP, e, f, g]; omega)
              clear e f g h
              go_wp2
              go_roundw
              case rel => exact ⟨k + 1, by omega, by go_num, hide (by rw [HX.out, if_neg (fun e => by have h9 := hp.out.symm.trans e; cases h9)]; simpa using hown.out), hbel⟩
              case measure => simp [intOf]; omega
          · have q_g : decide (lo ≤ T) = false := by simp; omega
            have hp : Hid (((rangeP s lo hi) : It → Bool) ⟨S, K, T, V, X⟩ = false) := hide (by simp [rangeP, e, f]; omega)
            clear e f g
            go_wp2
            go_roundw
            case rel => exact ⟨k + 1, by omega, by go_num, hide (by rw [HX.out, if_neg (fun e => by have h9 := hp.out.symm.trans e; cases h9)]; simpa using hown.out), hbel⟩
            case measure => simp [intOf]; omega
        · have q_f : (K == 2) = false := by simp [f]
          have hp : Hid (((rangeP s lo hi) : It → Bool) ⟨S, K, T, V, X⟩ = false) := hide (by simp [rangeP, f])
          clear e f
          go_wp2
          go_roundw
          case rel => exact ⟨k + 1, by omega, by go_num, hide (by rw [HX.out, if_neg (fun e => by have h9 := hp.out.symm.trans e; cases h9)]; simpa using hown.out), hbel⟩
          case measure => simp [intOf]; omega
      · have q_e : (S == s) = false := by simp [e]
        have hp : Hid (((rangeP s lo hi) : It → Bool) ⟨S, K, T, V, X⟩ = false) := hide (by simp [rangeP, e])
        clear e
        go_wp2
        go_roundw
        case rel => exact ⟨k + 1, by omega, by go_num, hide (by rw [HX.out, if_neg (fun e => by have h9 := hp.out.symm.trans e; cases h9)]; simpa using hown.out), hbel⟩
        case measure => simp [intOf]; omega
    · obtain rfl : k = n := by omega
      have HE := hide (show l.take k = l by rw [← hl]; exact List.take_length)
      rw [HE.out] at hown
      have HW2 := hide (fun x (hx : x ∈ l.filter (rangeP s lo hi)) => HW.out x (List.mem_filter.1 hx).1)
      go_wp2
      go_ret
      exact ans_own (w1 := w) hown.out HW2.out hbel.out

set_option maxHeartbeats 800000 in
theorem reftop_any (a : Option Addr) (n c : Nat) (l : List It) (w : World) (h : Is w a n c l) (hn : n ≤ 549755813888) : Calls Try.prog 32 #[.slice a n c] w fun e w' => e = .returned (.int .u64 (topL l)) ∧ Below w.heap.size w w' := by
  have hl := h.1
  have H0 := hide (fun W (hW : Below w.heap.size w W) => h.below hW (Nat.le_refl _))
  clear h
  go_enter Try.func32, Try.ntmps32
  go_wp2_with fail
  go_loopw [3, 4] (fun t i wr => ∃ k : Nat, k ≤ n ∧ i = .int .i64 k ∧ t = .int .u64 (topL (l.take k)) ∧ Hid (Below w.heap.size w wr)) (fun _ i _ => n - (intOf i).toNat)
  case atStart => exact ⟨0, by omega, rfl, rfl, hide (Below.refl _ _)⟩
  case round =>
    obtain ⟨k, hk, rfl, rfl, hbel⟩ := hrel
    by_cases hlt : k < n
    · obtain ⟨b0, off, ea, hc⟩ := (H0.out _ hbel.out).2.2.2 (by omega)
      subst ea
      obtain ⟨x, hx⟩ : ∃ x, l[k]? = some x := ⟨_, List.getElem?_eq_getElem (by rw [hl]; exact hlt)⟩
      have hv := hc k x hx
      have HT := hide (topL_snoc l k x hx)
      obtain ⟨S, K, T, V, X⟩ := x
      unfold Vt Vi at hv
      simp only at hv HT
      obtain ⟨v0, v1, v2, v3, v4⟩ := hv
      clear hc hx
      generalize topL (l.take k) = m at *
      go_wp2
      go_roundw
      case rel => exact ⟨k + 1, by omega, by go_num, by rw [HT.out], hbel⟩
      case measure => simp [intOf]; omega
    · obtain rfl : k = n := by omega
      have HE := hide (show l.take k = l by rw [← hl]; exact List.take_length)
      rw [HE.out]
      go_wp2
      go_ret
      exact ⟨rfl, hbel.out⟩

set_option maxHeartbeats 800000 in
theorem reftomb_any (a : Option Addr) (n c : Nat) (l : List It) (s : Int) (w : World) (h : Is w a n c l) (hn : n ≤ 549755813888) : Calls Try.prog 34 #[.slice a n c, .int .i64 s] w fun e w' => e = .returned (.int .u64 (tombL l s)) ∧ Below w.heap.size w w' := by
  have hl := h.1
  have H0 := hide (fun W (hW : Below w.heap.size w W) => h.below hW (Nat.le_refl _))
  clear h
  go_enter Try.func34, Try.ntmps34
  go_wp2_with fail
  go_loopw [5] (fun i wr => ∃ k : Nat, k ≤ n ∧ i = .int .i64 k ∧ Hid (∀ y ∈ l.take k, tombP s y = false) ∧ Hid (Below w.heap.size w wr)) (fun i _ => n - (intOf i).toNat)
  case atStart => exact ⟨0, by omega, rfl, hide (by simp), hide (Below.refl _ _)⟩
  case round =>
    obtain ⟨k, hk, rfl, hal, hbel⟩ := hrel
    by_cases hlt : k < n
    · obtain ⟨b0, off, ea, hc⟩ := (H0.out _ hbel.out).2.2.2 (by omega)
      subst ea
      obtain ⟨x, hx⟩ : ∃ x, l[k]? = some x := ⟨_, List.getElem?_eq_getElem (by rw [hl]; exact hlt)⟩
      have hv := hc k x hx
      have HX := hide hx
      obtain ⟨S, K, T, V, X⟩ := x
      unfold Vt Vi at hv
      simp only at hv
      obtain ⟨v0, v1, v2, v3, v4⟩ := hv
      clear hc hx
      by_cases hS : S = s
      · by_cases hK : K = 1
        · have hr := hide (show tombL l s = V by unfold tombL; rw [find_at HX.out (by unfold tombP; simp [hK, hS]) hal.out])
          have q : (K == 1) = true := by simp [hK]
          have q2 : (S == s) = true := by simp [hS]
          clear hK hS
          go_wp2
          go_ret
          exact ⟨by rw [hr.out]; rfl, hbel.out⟩
        · have hr := hide (pre_snoc HX.out (p := tombP s) (by unfold tombP; simp [hK]) hal.out)
          have q : (K == 1) = false := by simp [hK]
          have q2 : (S == s) = true := by simp [hS]
          clear hK hS
          go_wp2
          go_roundw
          case rel => exact ⟨k + 1, by omega, by go_num, hr, hbel⟩
          case measure => simp [intOf]; omega
      · have hr := hide (pre_snoc HX.out (p := tombP s) (by unfold tombP; simp [hS]) hal.out)
        have q : (S == s) = false := by simp [hS]
        clear hS
        go_wp2
        go_roundw
        case rel => exact ⟨k + 1, by omega, by go_num, hr, hbel⟩
        case measure => simp [intOf]; omega
    · obtain rfl : k = n := by omega
      have hr := hide (show tombL l s = 0 by
        unfold tombL
        rw [find_not (by have := hal.out; rwa [show l.take k = l from by rw [← hl]; exact List.take_length] at this)])
      go_wp2
      go_ret
      exact ⟨by rw [hr.out]; rfl, hbel.out⟩

end Go.Proofs.Ytckfgpcoingphaa.Clep
