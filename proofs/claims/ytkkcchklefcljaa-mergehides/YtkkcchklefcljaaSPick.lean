/- What state.pick does when called: the items that are wanted, in their order, in a new list. Conditions: at most 2^40 items. -/
import Derived.Test.YtkkcchklefcljaaSPut2
import Derived.Laws.EntriesVeiled
namespace Go.Proofs.Ytkkcchklefcljaa.Clep
open Go.RowKit
set_option linter.unusedVariables false
set_option maxRecDepth 10000

/-- In the round: what put needs, the row, and the items so far. -/
def Ps (w0 w : World) (R P0 P1 : Nat) (fv : Value) (ao : Option Addr) (len cap : Nat) (ls : List (List It)) (p : It → Bool) (acc : List It) : Prop :=
  ∃ d v, Pc w0 w R P0 P1 fv ao len cap ls p ∧ Rw w R P0 P1 d v ∧ (d = 1 ∨ (d = 0 ∧ acc = [])) ∧ OwnI w (R + 1) v acc
theorem Ps.keep {w0 w w' : World} {R P0 P1 : Nat} {fv : Value} {ao : Option Addr} {len cap : Nat} {ls : List (List It)} {p : It → Bool} {acc : List It} (h : Ps w0 w R P0 P1 fv ao len cap ls p acc) (hb : Below w.heap.size w w') : Ps w0 w' R P0 P1 fv ao len cap ls p acc := by
  obtain ⟨d, v, h1, h2, h3, h4⟩ := h
  exact ⟨d, v, h1.grown (hb.mono (Nat.le_of_lt h2.lt)), h2.keep hb, h3, ownI_keep h4 hb⟩
theorem puts_any {w0 w : World} {R P0 P1 : Nat} {fv : Value} {ao : Option Addr} {len cap : Nat} {ls : List (List It)} {p : It → Bool} {acc : List It} (S K T V X : Int) (h : Ps w0 w R P0 P1 fv ao len cap ls p acc) (hx : It.wf ⟨S, K, T, V, X⟩) (hacc : acc.length + 1 ≤ 1099511627776) :
    Calls Try.prog 54 #[.pointer (some ⟨R, 0, none⟩), .agg #[.int .i64 S, .int .i64 K, .int .u64 T, .int .u64 V, .int .i64 X]] w fun e w' => e = .returned (.tuple #[]) ∧ Ps w0 w' R P0 P1 fv ao len cap ls p (acc ++ [⟨S, K, T, V, X⟩]) := by
  obtain ⟨d, v, h1, h2, h3, h4⟩ := h
  refine (put_any w0 R P0 P1 fv ao len cap ls p d v acc S K T V X w h1 h2 h3 h4 hx hacc).mono ?_
  rintro e w' ⟨rfl, v', r, o, b⟩
  exact ⟨rfl, 1, v', h1.grown b, r, .inl rfl, o⟩
theorem filt_snoc (p : It → Bool) (a l : List It) (i : Nat) (x : It) (h : l[i]? = some x) : (a ++ l.take (i + 1)).filter p = (a ++ l.take i).filter p ++ (if p x then [x] else []) := by
  rw [List.take_add_one, h, ← List.append_assoc, List.filter_append (a ++ l.take i)]
  simp only [Option.toList, List.filter_cons, List.filter_nil]

set_option maxHeartbeats 2000000 in
theorem pick_any (fv : Value) (ao : Option Addr) (len cap : Nat) (ls : List (List It)) (p : It → Bool) (w : World) (hf : Wn w fv p) (h : Lss w ao len ls) (ht : ls.flatten.length ≤ 1099511627776) (hl : len ≤ 1000) :
    Calls Try.prog 42 #[fv, .slice ao len cap] w fun e w' => ∃ v, e = .returned v ∧ OwnI w' w.heap.size v (ls.flatten.filter p) ∧ Below w.heap.size w w' := by
  obtain ⟨g, cb, hfv, eg, hcall0⟩ := hf
  have hcall := hide hcall0
  have hf : Wn w fv p := ⟨g, cb, hfv, eg, hcall0⟩
  have D3 : Below w.heap.size w (((w.alloc (Obj.cells #[fv] 45)).alloc (Obj.cells #[.slice ao len cap] 22)).alloc (Obj.cells #[.func (.func 52) #[] #[.pointer (some ⟨w.heap.size, 0, none⟩), .pointer (some ⟨w.heap.size + 1, 0, none⟩)], .int .u32 0, .int .i32 0, .int .u32 0, .slice none 0 0] 79)) :=
    (((Below.refl _ _).alloc (Nat.le_refl _) _).alloc (by simp) _).alloc (by simp; omega) _
  have P0 : Ps w (((w.alloc (Obj.cells #[fv] 45)).alloc (Obj.cells #[.slice ao len cap] 22)).alloc (Obj.cells #[.func (.func 52) #[] #[.pointer (some ⟨w.heap.size, 0, none⟩), .pointer (some ⟨w.heap.size + 1, 0, none⟩)], .int .u32 0, .int .i32 0, .int .u32 0, .slice none 0 0] 79)) (w.heap.size + 2) w.heap.size (w.heap.size + 1) fv ao len cap ls p [] := by
    refine ⟨0, .slice none 0 0, ⟨?_, ?_, by omega, by omega, by omega, hf, h, ht, hl, D3⟩, ⟨?_, ?_, ?_, ?_, ?_, ?_, ?_⟩, .inr ⟨rfl, rfl⟩, ownI_nil _ _⟩
    · rw [World.cell?_alloc_past _ _ _ (by simp; omega), World.cell?_alloc_past _ _ _ (by simp)]; simp
    · rw [World.cell?_alloc_past _ _ _ (by simp)]
      have e : (w.alloc (Obj.cells #[fv] 45)).heap.size = w.heap.size + 1 := by simp
      rw [← e]; simp
    all_goals
      have e : ((w.alloc (Obj.cells #[fv] 45)).alloc (Obj.cells #[.slice ao len cap] 22)).heap.size = w.heap.size + 2 := by simp
      rw [← e]
      simp [go_sem]
  have hle := h.1
  have HL := hide h
  have HP := hide P0
  have hmf : ∀ (fn : Fn) (first cap : Array Value) (w : World), (Instr.makeFunc fn first cap).run Try.prog w = .ok (.func fn first cap) w := fun _ _ _ _ => rfl
  clear h hcall0 hf P0 D3
  subst hfv
  go_enter Try.func42, Try.ntmps42
  have Lx := HP.out
  obtain ⟨_, _, pc, -, -, -⟩ := Lx
  have l1 := pc.c1
  clear pc
  go_wp2_with fail

  clear l1
  go_loopw [14] (fun s14 wr => ∃ k : Nat, k ≤ len ∧ s14 = .int .i64 k ∧ Hid (Ps w wr (w.heap.size + 2) w.heap.size (w.heap.size + 1) (.func (.func g) #[] cb) ao len cap ls p ((ls.take k).flatten.filter p))) (fun s14 _ => len - (intOf s14).toNat)
  case atStart => exact ⟨0, by omega, rfl, by simpa using HP⟩
  case round =>
    obtain ⟨k, hk, rfl, hps⟩ := hrel
    have hbel : Hid (Below w.heap.size w wr) := by obtain ⟨_, _, pc, -, -, -⟩ := hps.out; exact hide pc.b
    by_cases hlt : k < len
    · obtain ⟨_, b, off, hao, hc⟩ := HL.out
      subst hao
      obtain ⟨l, hx⟩ : ∃ l, ls[k]? = some l := ⟨_, List.getElem?_eq_getElem (by rw [hle]; exact hlt)⟩
      obtain ⟨a, m, c, hcell0, hm, hI⟩ := hc k l hx
      have hcell : wr.cell? ⟨b, off + k, none⟩ = some (.slice a m c) := (hbel.out.cell (p := ⟨b, off + k, none⟩) (World.block_lt_of_cell? w _ hcell0)).trans hcell0
      have HT := hide (flat_take ls k l hx)
      have HT2 := hide (show (ls.take k).flatten.length + m ≤ 1099511627776 by
        have := flat_take_le ls (k + 1)
        rw [flat_take ls k l hx, List.length_append, hI.1] at this
        omega)
      have hIw := hide (fun W (hW : Below w.heap.size w W) => hI.below hW (Nat.le_refl _))
      have hlm := hide hI.1
      have hwf := hide hI.2.2.1
      clear hc hI hx hcell0
      go_wp2_with fail
      go_loopw [20] (fun s20 wi => ∃ i : Nat, i ≤ m ∧ s20 = .int .i64 i ∧ Hid (Ps w wi (w.heap.size + 2) w.heap.size (w.heap.size + 1) (.func (.func g) #[] cb) (some ⟨b, off, none⟩) len cap ls p (((ls.take k).flatten ++ l.take i).filter p))) (fun s20 _ => m - (intOf s20).toNat)
      case atStart => exact ⟨0, by omega, rfl, by simpa using hps⟩
      case round =>
        obtain ⟨i, hi, rfl, hpi⟩ := hrel
        have hbi : Hid (Below w.heap.size w wr) := by obtain ⟨_, _, pc, -, -, -⟩ := hpi.out; exact hide pc.b
        by_cases hli : i < m
        · obtain ⟨b', off', hao', hc'⟩ := (hIw.out _ hbi.out).2.2.2 (by omega)
          subst hao'
          obtain ⟨x, hx⟩ : ∃ x, l[i]? = some x := ⟨_, List.getElem?_eq_getElem (by rw [hlm.out]; exact hli)⟩
          have hv := hc' i x hx
          have hxw := hide (hwf.out x (List.mem_of_getElem? hx))
          have hsn := hide (filt_snoc p (ls.take k).flatten l i x hx)
          have hcx := hide (fun W hW => hcall.out W hW x)
          have hln : Hid ((((ls.take k).flatten ++ l.take i).filter p).length + 1 ≤ 1099511627776) := hide (by
            have h1 := List.length_filter_le p ((ls.take k).flatten ++ l.take i)
            rw [List.length_append, List.length_take] at h1
            have := HT2.out
            omega)
          obtain ⟨S, K, T, V, X⟩ := x
          unfold Vt Vi at hv
          simp only at hv hcx
          obtain ⟨v0, v1, v2, v3, v4⟩ := hv
          clear hc' hx
          have hp1 := hide (hpi.out.keep ((Below.refl _ _).alloc (Nat.le_refl _) (Obj.cells #[Value.int IntKind.i64 S, Value.int IntKind.i64 K, Value.int IntKind.u64 T, Value.int IntKind.u64 V, Value.int IntKind.i64 X] 36)))
          have hV1 := hide (vi_new wr S K T V X)
          have hf1 : Hid ((wr.alloc (Obj.cells #[Value.int IntKind.i64 S, Value.int IntKind.i64 K, Value.int IntKind.u64 T, Value.int IntKind.u64 V, Value.int IntKind.i64 X] 36)).cell? ⟨w.heap.size, 0, none⟩ = some (.func (.func g) #[] cb)) := by obtain ⟨_, _, pc, -, -, -⟩ := hp1.out; exact hide pc.c0
          have hB1 : Hid (Below w.heap.size w (wr.alloc (Obj.cells #[Value.int IntKind.i64 S, Value.int IntKind.i64 K, Value.int IntKind.u64 T, Value.int IntKind.u64 V, Value.int IntKind.i64 X] 36))) := by obtain ⟨_, _, pc, -, -, -⟩ := hp1.out; exact hide pc.b
          have f1 := hf1.out
          cases ho : p ⟨S, K, T, V, X⟩ with
          | true =>
            rw [ho] at hcx hsn
            go_wp2_with fail
            go_at_fn g
            refine (hcx.out _ hB1.out).mono ?_
            rintro e w1 ⟨rfl, b1⟩
            have hp2 := hide (hp1.out.keep b1)
            have V2 := hV1.out.keep b1
            clear hp1 hV1 hf1 f1 v0 v1 v2 v3 v4 b1 hcx
            unfold Vi at V2
            obtain ⟨v0, v1, v2, v3, v4⟩ := V2
            go_wp2_with fail
            refine (puts_any S K T V X hp2.out hxw.out hln.out).mono ?_
            rintro e w2 ⟨rfl, hp3⟩
            have HP3 := hide hp3
            clear hp3
            go_wp2
            go_roundw
            case rel => exact ⟨i + 1, by omega, by go_num, hide (by have := HP3.out; rw [hsn.out]; simpa using this)⟩
            case measure => simp [intOf]; omega
          | false =>
            rw [ho] at hcx hsn
            go_wp2_with (go_at_fn g; refine (hcx.out _ hB1.out).mono ?_; rintro e w1 ⟨rfl, b1⟩)
            have HP3 := hide (hp1.out.keep b1)
            clear b1
            go_roundw
            case rel => exact ⟨i + 1, by omega, by go_num, hide (by have := HP3.out; rw [hsn.out]; simpa using this)⟩
            case measure => simp [intOf]; omega
        · obtain rfl : i = m := by omega
          go_wp2
          go_roundw
          case rel => exact ⟨k + 1, by omega, by go_num, hide (by have := hpi.out; rw [HT.out]; rw [show l.take i = l from by rw [← hlm.out]; exact List.take_length] at this; exact this)⟩
          case measure => simp [intOf]; omega
    · obtain rfl : k = len := by omega
      have hfl : Hid (ls.take k = ls) := hide (by rw [← hle]; exact List.take_length)
      obtain ⟨d, v, pc, rw', hd, ho⟩ := hps.out
      have r4 := rw'.2.2.2.1
      have HO := hide ho
      clear pc rw' hd ho
      go_wp2
      go_ret
      refine ⟨v, rfl, ?_, hbel.out⟩
      have := HO.out
      rw [hfl.out] at this
      exact ownI_base this (by omega)

end Go.Proofs.Ytkkcchklefcljaa.Clep
