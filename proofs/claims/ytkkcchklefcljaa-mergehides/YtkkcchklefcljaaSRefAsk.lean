/- What the document's own Series, Range, Upto, Purge, Top and Tomb do when called: for any items. Conditions: at most 2^39 items. -/
import Derived.Test.YtkkcchklefcljaaSAsk
namespace Go.Proofs.Ytkkcchklefcljaa.Clep
open Go.RowKit
set_option linter.unusedVariables false
set_option maxRecDepth 10000

theorem filt1 (p : It → Bool) (l : List It) (i : Nat) (x : It) (h : l[i]? = some x) : (l.take (i + 1)).filter p = (l.take i).filter p ++ (if p x then [x] else []) := filt_snoc p [] l i x h

set_option maxHeartbeats 2000000 in
theorem refpurge_any (a : Option Addr) (n c : Nat) (l : List It) (v : Int) (w : World) (h : Is w a n c l) (hn : n ≤ 549755813888) : Calls Try.prog 16 #[.slice a n c, .int .u64 v] w (Ans (l.filter (purgeP v)) w) := by
  have hl := h.1
  have H0 := hide (fun W (hW : Below w.heap.size w W) => h.below hW (Nat.le_refl _))
  have HW := hide h.2.2.1
  clear h
  go_enter Try.func16, Try.ntmps16
  go_wp2_with fail
  go_loopw [5, 6] (fun so si wr => ∃ k : Nat, k ≤ n ∧ si = .int .i64 k ∧ Hid (OwnI wr w.heap.size so ((l.take k).filter (purgeP v))) ∧ Hid (Below w.heap.size w wr)) (fun _ si _ => n - (intOf si).toNat)
  case atStart => exact ⟨0, by omega, rfl, hide (by simpa using ownI_nil _ _), hide (Below.refl _ _)⟩
  case round =>
    obtain ⟨k, hk, rfl, hown, hbel⟩ := hrel
    by_cases hlt : k < n
    · obtain ⟨b0, off, ea, hc⟩ := (H0.out _ hbel.out).2.2.2 (by omega)
      subst ea
      obtain ⟨x, hx⟩ : ∃ x, l[k]? = some x := ⟨_, List.getElem?_eq_getElem (by rw [hl]; exact hlt)⟩
      have hv := hc k x hx
      have HX := hide (filt1 (purgeP v) l k x hx)
      have hxw := hide (HW.out x (List.mem_of_getElem? hx))
      have hln : Hid (((l.take k).filter (purgeP v)).length + 1 ≤ 3518437208883) := hide (by have h1 := List.length_filter_le (purgeP v) (l.take k); rw [List.length_take] at h1; omega)
      obtain ⟨S, K, T, V, X⟩ := x
      unfold Vt Vi at hv
      simp only at hv
      obtain ⟨v0, v1, v2, v3, v4⟩ := hv
      clear hc hx
      by_cases e : K = 1
      · have q_e : (K != 1) = false := by simp [e]
        by_cases f : v < V
        · have q_f : decide (v < V) = true := by simp [f]
          have hp : Hid (((purgeP v) : It → Bool) ⟨S, K, T, V, X⟩ = true) := hide (by simp [purgeP, e, f])
          have O1 := hide (ownI_keep hown.out ((Below.refl _ _).alloc (Nat.le_refl _) (Obj.cells #[Value.int IntKind.i64 S, Value.int IntKind.i64 K, Value.int IntKind.u64 T, Value.int IntKind.u64 V, Value.int IntKind.i64 X] 36)))
          have B1 := hide (hbel.out.alloc hbel.out.size (Obj.cells #[Value.int IntKind.i64 S, Value.int IntKind.i64 K, Value.int IntKind.u64 T, Value.int IntKind.u64 V, Value.int IntKind.i64 X] 36))
          have IA := hide (is_one wr S K T V X hxw.out)
          clear e f
          go_wp2_with (at_builtin; refine wpList_append_items rfl _ _ rfl w.heap.size _ _ rfl O1.out _ 1 1 [⟨S, K, T, V, X⟩] rfl IA.out hln.out B1.out.size ?_; intro v2 w2 o2 g2 k2)
          have O2 := hide o2
          have B2 := hide (B1.out.grown g2 B1.out.size k2)
          go_roundw
          case rel => exact ⟨k + 1, by omega, by go_num, hide (by rw [HX.out, if_pos hp.out]; exact O2.out), B2⟩
          case measure => simp [intOf]; omega
        · have q_f : decide (v < V) = false := by simp; omega
          have hp : Hid (((purgeP v) : It → Bool) ⟨S, K, T, V, X⟩ = false) := hide (by simp [purgeP, e]; omega)
          clear e f
          go_wp2
          go_roundw
          case rel => exact ⟨k + 1, by omega, by go_num, hide (by rw [HX.out, if_neg (fun e => by have h9 := hp.out.symm.trans e; cases h9)]; simpa using hown.out), hbel⟩
          case measure => simp [intOf]; omega
      · have q_e : (K != 1) = true := by simp [e]
        have hp : Hid (((purgeP v) : It → Bool) ⟨S, K, T, V, X⟩ = true) := hide (by simp [purgeP, e])
        have O1 := hide (ownI_keep hown.out ((Below.refl _ _).alloc (Nat.le_refl _) (Obj.cells #[Value.int IntKind.i64 S, Value.int IntKind.i64 K, Value.int IntKind.u64 T, Value.int IntKind.u64 V, Value.int IntKind.i64 X] 36)))
        have B1 := hide (hbel.out.alloc hbel.out.size (Obj.cells #[Value.int IntKind.i64 S, Value.int IntKind.i64 K, Value.int IntKind.u64 T, Value.int IntKind.u64 V, Value.int IntKind.i64 X] 36))
        have IA := hide (is_one wr S K T V X hxw.out)
        clear e
        go_wp2_with (at_builtin; refine wpList_append_items rfl _ _ rfl w.heap.size _ _ rfl O1.out _ 1 1 [⟨S, K, T, V, X⟩] rfl IA.out hln.out B1.out.size ?_; intro v2 w2 o2 g2 k2)
        have O2 := hide o2
        have B2 := hide (B1.out.grown g2 B1.out.size k2)
        go_roundw
        case rel => exact ⟨k + 1, by omega, by go_num, hide (by rw [HX.out, if_pos hp.out]; exact O2.out), B2⟩
        case measure => simp [intOf]; omega
    · obtain rfl : k = n := by omega
      have HE := hide (show l.take k = l by rw [← hl]; exact List.take_length)
      rw [HE.out] at hown
      have HW2 := hide (fun x (hx : x ∈ l.filter (purgeP v)) => HW.out x (List.mem_filter.1 hx).1)
      go_wp2
      go_ret
      exact ans_own (w1 := w) hown.out HW2.out hbel.out

end Go.Proofs.Ytkkcchklefcljaa.Clep
