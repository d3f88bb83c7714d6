/- Lists of lists of items; a function that says which items are wanted; what state.count does when called. Conditions: at most 2^40 items. -/
import Derived.Test.YtkkcchklefcljaaSRow
import Derived.Shelf.Abstract
namespace Go.Proofs.Ytkkcchklefcljaa.Clep
open Go.RowKit
set_option linter.unusedVariables false
set_option maxRecDepth 10000

/-- The slice value (ao, len, ..) leads to slices that lead to the lists ls. -/
def Lss (w : World) (ao : Option Addr) (len : Nat) (ls : List (List It)) : Prop :=
  ls.length = len ∧ ∃ b off, ao = some ⟨b, off, none⟩ ∧ ∀ i l, ls[i]? = some l → ∃ a n c, w.cell? ⟨b, off + i, none⟩ = some (.slice a n c) ∧ n ≤ 1099511627776 ∧ Is w a n c l
theorem Lss.below {w w' : World} {ao : Option Addr} {len : Nat} {ls : List (List It)} (h : Lss w ao len ls) (hb : Below w.heap.size w w') : Lss w' ao len ls := by
  obtain ⟨h1, b, off, rfl, h2⟩ := h
  refine ⟨h1, b, off, rfl, fun i l hi => ?_⟩
  obtain ⟨a, n, c, h3, h4, h5⟩ := h2 i l hi
  exact ⟨a, n, c, (hb.cell (p := ⟨b, off + i, none⟩) (World.block_lt_of_cell? w _ h3)).trans h3, h4, h5.below hb (Nat.le_refl _)⟩
/-- The function value fv says of each item whether it is wanted. -/
def Wn (w : World) (fv : Value) (p : It → Bool) : Prop := ∃ g cb, fv = .func (.func g) #[] cb ∧ (∀ args w, (callFunc g args).run Try.prog w = .ok (.enter g args) w) ∧
  ∀ W, Below w.heap.size w W → ∀ x : It, Calls Try.prog g (#[.agg #[.int .i64 x.S, .int .i64 x.K, .int .u64 x.T, .int .u64 x.V, .int .i64 x.X]] ++ cb) W fun e w' => e = .returned (.bool (p x)) ∧ Below W.heap.size W w'
theorem Wn.below {w w' : World} {fv : Value} {p : It → Bool} (h : Wn w fv p) (hb : Below w.heap.size w w') : Wn w' fv p := by
  obtain ⟨g, cb, h1, h2, h3⟩ := h
  exact ⟨g, cb, h1, h2, fun W hW x => h3 W (bmore hb hW) x⟩
theorem flat_take (ls : List (List It)) (k : Nat) (l : List It) (h : ls[k]? = some l) : (ls.take (k + 1)).flatten = (ls.take k).flatten ++ l := by
  rw [List.take_add_one, h]; simp
theorem flat_take_le (ls : List (List It)) (k : Nat) : (ls.take k).flatten.length ≤ ls.flatten.length := by
  have h := List.take_append_drop k ls
  have e : ls.flatten.length = (ls.take k).flatten.length + (ls.drop k).flatten.length := by
    rw [← List.length_append, ← List.flatten_append, h]
  omega

set_option maxHeartbeats 1000000 in
theorem count_any (fv : Value) (ao : Option Addr) (len cap : Nat) (ls : List (List It)) (p : It → Bool) (w : World) (hf : Wn w fv p) (h : Lss w ao len ls) (ht : ls.flatten.length ≤ 1099511627776) (hl : len ≤ 1000) :
    Calls Try.prog 53 #[fv, .slice ao len cap] w fun e w' => ∃ n : Nat, e = .returned (.int .i64 n) ∧ n ≤ 1099511627776 ∧ Below w.heap.size w w' := by
  obtain ⟨g, cb, rfl, eg, hcall0⟩ := hf
  have hcall := hide hcall0
  have hle := h.1
  have H1 := hide (fun W (hW : Below w.heap.size w W) => h.below hW)
  clear h hcall0
  go_enter Try.func53, Try.ntmps53
  go_wp2_with fail
  go_loopw [5, 12] (fun s5 s12 wr => ∃ k n : Nat, k ≤ len ∧ s12 = .int .i64 k ∧ s5 = .int .i64 n ∧ Hid (n ≤ (ls.take k).flatten.length) ∧ Hid (Below w.heap.size w wr)) (fun _ s12 _ => len - (intOf s12).toNat)
  case atStart => exact ⟨0, 0, by omega, rfl, rfl, hide (by simp), hide (Below.refl _ _)⟩
  case round =>
    obtain ⟨k, n, hk, rfl, rfl, hn, hbel⟩ := hrel
    by_cases hlt : k < len
    · obtain ⟨_, b, off, hao, hc⟩ := H1.out _ hbel.out
      subst hao
      obtain ⟨l, hx⟩ : ∃ l, ls[k]? = some l := ⟨_, List.getElem?_eq_getElem (by rw [hle]; exact hlt)⟩
      obtain ⟨a, m, c, hcell, hm, hI⟩ := hc k l hx
      have HT := hide (show (ls.take (k + 1)).flatten.length = (ls.take k).flatten.length + m by rw [flat_take ls k l hx, List.length_append, hI.1])
      have HT2 := hide (flat_take_le ls (k + 1))
      have H2 := hide (fun W (hW : Below wr.heap.size wr W) => hI.below hW (Nat.le_refl _))
      have hlm := hide hI.1
      clear hc hI hx
      go_wp2_with fail
      go_loopw [5, 18] (fun s5 s18 wi => ∃ i q : Nat, i ≤ m ∧ s18 = .int .i64 i ∧ s5 = .int .i64 q ∧ Hid (q ≤ (ls.take k).flatten.length + i) ∧ Hid (Below wr.heap.size wr wi)) (fun _ s18 _ => m - (intOf s18).toNat)
      case atStart => exact ⟨0, n, by omega, rfl, rfl, hide (by have := hn.out; omega), hide (Below.refl _ _)⟩
      case round =>
        obtain ⟨i, q, hi, rfl, rfl, hq, hbi⟩ := hrel
        by_cases hli : i < m
        · obtain ⟨b', off', hao', hc'⟩ := (H2.out _ hbi.out).2.2.2 (by omega)
          subst hao'
          obtain ⟨x, hx⟩ : ∃ x, l[i]? = some x := ⟨_, List.getElem?_eq_getElem (by rw [hlm.out]; exact hli)⟩
          have hv := hc' i x hx
          have hcx := hide (fun W hW => hcall.out W hW x)
          obtain ⟨S, K, T, V, X⟩ := x
          unfold Vt Vi at hv
          simp only at hv hcx
          obtain ⟨v0, v1, v2, v3, v4⟩ := hv
          clear hc' hx
          have hB2 := hide (bmore hbel.out hbi.out)
          have hB3 := hide (hB2.out.alloc hB2.out.size (Obj.cells #[Value.int IntKind.i64 S, Value.int IntKind.i64 K, Value.int IntKind.u64 T, Value.int IntKind.u64 V, Value.int IntKind.i64 X] 36))
          have hB4 := hide (hbi.out.alloc hbi.out.size (Obj.cells #[Value.int IntKind.i64 S, Value.int IntKind.i64 K, Value.int IntKind.u64 T, Value.int IntKind.u64 V, Value.int IntKind.i64 X] 36))
          have hqb : q < 9223372036854775807 := by have := hq.out; have := HT.out; have := HT2.out; omega
          cases ho : p ⟨S, K, T, V, X⟩ with
          | true =>
            rw [ho] at hcx
            go_wp2_with (go_at_fn g; refine (hcx.out _ hB3.out).mono ?_; rintro e w1 ⟨rfl, b1⟩)
            have B1 := hide (bmore hB4.out b1)
            go_roundw
            case rel => exact ⟨i + 1, q + 1, by omega, by go_num, by go_num, hide (by have := hq.out; omega), B1⟩
            case measure => simp [intOf]; omega
          | false =>
            rw [ho] at hcx
            go_wp2_with (go_at_fn g; refine (hcx.out _ hB3.out).mono ?_; rintro e w1 ⟨rfl, b1⟩)
            have B1 := hide (bmore hB4.out b1)
            go_roundw
            case rel => exact ⟨i + 1, q, by omega, by go_num, by go_num, hide (by have := hq.out; omega), B1⟩
            case measure => simp [intOf]; omega
        · obtain rfl : i = m := by omega
          have B1 := hide (bmore hbel.out hbi.out)
          go_wp2
          go_roundw
          case rel => exact ⟨k + 1, q, by omega, by go_num, by go_num, hide (by have := hq.out; have := HT.out; omega), B1⟩
          case measure => simp [intOf]; omega
    · go_wp2
      go_ret
      exact ⟨n, rfl, by have := hn.out; have := flat_take_le ls k; omega, hbel.out⟩

end Go.Proofs.Ytkkcchklefcljaa.Clep
