/- What slices.Grow, slices.Concat and slices.Sort do when called (over the library's contracts, and a walk over the translated program), at the rows that Pick hands over. Conditions: rows of at most 1,000 numbers. -/
import Derived.Test.YtcbphalhjajapaaHBlk
import Derived.Test.YtcbphalhjajapaaHShelf
import Derived.Sort.OwnSortedInts
import Derived.WalkKit
import Derived.WalkSpells
namespace Go.Proofs.Ytcbphalhjajapaa.Clep
open Go.RowKit Go.Sort Go.Shelf
set_option linter.unusedVariables false
set_option linter.unusedSimpArgs false

theorem grow_any (N : Nat) (w : World) (hN : N ≤ 100000) : Calls Try.prog 30 #[.slice none 0 0, .int .i64 (N : Int)] w fun e w' => ∃ v, e = .returned v ∧ OwnZ w' w.heap.size v [] ∧ Below w.heap.size w w' := by
  by_cases h0 : N = 0
  · subst h0
    exact (Any8.slices_Grow_room Try.growI none 0 0 0 w (by omega) (by omega) (by omega) (by omega)).mono fun e w' ⟨he, hw⟩ => ⟨_, he, by rw [hw]; exact ownZ_nil _ _, by rw [hw]; exact Below.refl _ _⟩
  · obtain ⟨i0, hi, hz0, hz1, hz2⟩ := info_parts info_int
    refine (Any8.slices_Grow_grow Try.growI i0 (.int .i64 0) hi hz0 (by rw [hz1]; decide) none 0 0 N [] w (by omega) (by omega) (by rw [hz2]; omega) (by omega) (by simp) (fun _ => rfl) (by simp)).mono ?_
    rintro e w' ⟨rfl, rfl⟩
    have hcap : grownCap w (0 + N) 0 (Try.growI_ren.t 25) ≤ maxLen := grownCap_le_maxLen w (0 + N) 0 _ (by unfold maxLen; omega)
    have hge : 0 + N ≤ grownCap w (0 + N) 0 (Try.growI_ren.t 25) := grownCap_ge w _ _ _
    generalize grownCap w (0 + N) 0 (Try.growI_ren.t 25) = G at *
    refine ⟨_, rfl, ?_, (Below.refl _ w).drew.alloc (Nat.le_refl _) _⟩
    have hh : (w.drew.alloc (.cells ((([] : List Value).toArray ++ Builtin.zeroCells (Value.int IntKind.i64 0).cells (0 + N - 0)) ++ Builtin.zeroCells (Value.int IntKind.i64 0).cells (G - (0 + N))) (Try.growI_ren.t 25))).heap[w.heap.size]? = some (.cells ((([] : List Value).toArray ++ Builtin.zeroCells (Value.int IntKind.i64 0).cells (0 + N - 0)) ++ Builtin.zeroCells (Value.int IntKind.i64 0).cells (G - (0 + N))) 3 (0, 0)) := by
      show (w.drew.heap.push _)[w.drew.heap.size]? = _
      rw [Array.getElem?_push_size]
      rfl
    have hsz : ((([] : List Value).toArray ++ Builtin.zeroCells (Value.int IntKind.i64 0).cells (0 + N - 0)) ++ Builtin.zeroCells (Value.int IntKind.i64 0).cells (G - (0 + N))).size = G * 1 := by
      simp [Builtin.zeroCells, Value.cells]
      omega
    exact ⟨rfl, .inr ⟨w.heap.size, G, _, rfl, Nat.le_refl _, hh, Nat.zero_le _, hcap, hsz, by simp [iv9]⟩⟩
/-- An append of any numbers to a row of the call's own. -/
theorem wpList_append_zs {w : World} {ops : Array Oper} {rest : List Oper} {o : Oper} {a : Act} {Q : Exit → Act → World → Prop} (hgd : o.guard = none) (s x : Operand)
    (ho : o.op = .call { callee := .builtin .append, args := #[s, x], argTypes := #[28, 28] })
    (base : Nat) (v : Value) (ns : List Int) (hs : a.eval s = v) (hown : OwnZ w base v ns) (ao : Option Addr) (m c : Nat) (zs : List Int) (hx : a.eval x = .slice ao m c) (hp : Zs w ao m c zs)
    (hlen : ns.length + m ≤ 100000) (hbase : base ≤ w.heap.size)
    (h : ∀ v' w', OwnZ w' base v' (ns ++ zs) → w.grownBy w' v.ownBlock → (∀ k, v.ownBlock = some k → base ≤ k) → wpList Try.prog ops Q rest (a.put o.dst v') w') : wpList Try.prog ops Q (o :: rest) a w := by
  obtain ⟨i0, hi, hz0, hz1, hz2⟩ := info_parts info_int
  by_cases hm : ao = none
  · subst hm
    obtain ⟨rfl, rfl⟩ := hp.2.1.2 rfl
    have hz : zs = [] := List.eq_nil_of_length_eq_zero hp.1
    subst hz
    exact wpList_append_own_none hgd s x 28 ho base 3 i0 1 Try.underlying28 hi v ns.length (iv9 ns) hs hown hx (h v w (by rwa [List.append_nil]) (fgb_below (Below.refl _ _) _) (fun k hk => (World.ownsRow.lt hown k hk).1))
  · obtain ⟨ad, rfl⟩ := Option.ne_none_iff_exists'.1 hm
    refine wpList_append_own _ hgd s x 28 ho base 3 i0 (.int .i64 0) 1 8 Try.underlying28 hi hz0 hz1 hz2 rfl (by decide) v ns.length (iv9 ns) hs hown ad m c (iv9 zs) hx (by simp [iv9, hp.1]) ?_ ?_ (by unfold maxLen; omega) (by omega) hbase ?_
    · intro j u hu
      have hj : j < zs.length := by have := (List.getElem?_eq_some_iff.1 hu).1; simpa [iv9] using this
      obtain ⟨b, off, e, hc⟩ := hp.2.2.2 (by rw [← hp.1]; omega)
      cases e
      rw [add_plain]
      have := hc j zs[j] (List.getElem?_eq_getElem hj)
      rw [this]
      simp [iv9, hj] at hu
      rw [hu]
    · intro u hu
      obtain ⟨z, _, rfl⟩ := List.mem_map.1 hu
      rfl
    · intro v' w' h1 h2 _
      refine h v' w' ?_ h2 (fun k hk => (World.ownsRow.lt hown k hk).1)
      unfold OwnZ
      rw [List.length_append, hp.1, show iv9 (ns ++ zs) = iv9 ns ++ iv9 zs from by simp [iv9]]
      exact h1
def cat2 (xs ys : List Int) (i : Nat) : List Int := if i = 0 then [] else if i = 1 then xs else xs ++ ys
theorem cat2_len (xs ys : List Int) (i : Nat) : (cat2 xs ys i).length ≤ xs.length + ys.length := by
  unfold cat2
  split
  · simp
  · split <;> simp
set_option maxRecDepth 100000 in
set_option maxHeartbeats 1000000 in
theorem concat_any (p : Nat) (a1 a2 : Option Addr) (n1 c1 n2 c2 : Nat) (xs ys : List Int) (w : World) (hp : Ek w p #[.slice a1 n1 c1, .slice a2 n2 c2] 28) (h1 : Zs w a1 n1 c1 xs) (h2 : Zs w a2 n2 c2 ys) (hn1 : n1 ≤ 1000) (hn2 : n2 ≤ 1000) :
    Calls Try.prog 22 #[.slice (some ⟨p, 0, none⟩) 2 2] w fun e w' => ∃ v, e = .returned v ∧ OwnZ w' w.heap.size v (xs ++ ys) ∧ Below w.heap.size w w' := by
  have HP := hide (show ∀ W, Below w.heap.size w W → W.cell? ⟨p, 0, none⟩ = some (.slice a1 n1 c1) ∧ W.cell? ⟨p, 1, none⟩ = some (.slice a2 n2 c2) from fun W hW => ⟨(hp.below hW hp.lt).cell rfl, (hp.below hW hp.lt).cell rfl⟩)
  have H1 := hide (fun W (hW : Below w.heap.size w W) => h1.below hW (Nat.le_refl _))
  have H2 := hide (fun W (hW : Below w.heap.size w W) => h2.below hW (Nat.le_refl _))
  have HL1 := hide h1.1
  have HL2 := hide h2.1
  have c0 : w.cell? ⟨p, 0, none⟩ = some (.slice a1 n1 c1) := hp.cell rfl
  have c1' : w.cell? ⟨p, 1, none⟩ = some (.slice a2 n2 c2) := hp.cell rfl
  clear hp h1 h2
  go_enter Try.func22, Try.ntmps22
  go_wp2_with fail
  go_loopw [3, 5, 11] (fun z _ t wr => w = wr ∧ ∃ i : Nat, i ≤ 2 ∧ t = .int .i64 i ∧ z = .int .i64 ((if i = 0 then 0 else if i = 1 then n1 else n1 + n2 : Nat) : Int)) (fun _ _ t _ => 2 - (intOf t).toNat)
  case atStart => exact ⟨rfl, 0, by omega, rfl, rfl⟩
  case round =>
    obtain ⟨rfl, i, hi, rfl, rfl⟩ := hrel
    rcases (show i = 0 ∨ i = 1 ∨ i = 2 by omega) with rfl | rfl | rfl
    · have q : ¬ ((n1 : Int) < 0) := by omega
      go_wp2
      go_roundw
      case rel => exact ⟨by first | rfl | trivial, 1, by omega, rfl, by simp⟩
      case measure => first | simp [intOf] | (simp [intOf]; omega)
    · have q : ¬ ((n1 : Int) + (n2 : Int) < 0) := by omega
      go_wp2
      go_roundw
      case rel => exact ⟨by first | rfl | trivial, 2, by omega, rfl, by simp⟩
      case measure => first | simp [intOf] | (simp [intOf]; omega)
    · have HG := hide (grow_any (n1 + n2) w (by omega))
      clear c0 c1'
      go_wp2_with fail
      refine HG.out.mono ?_
      rintro e w1 ⟨v, rfl, ho, hb⟩
      have ST := hide (show OwnZ w1 w.heap.size v (cat2 xs ys 0) ∧ Below w.heap.size w w1 from ⟨ho, hb⟩)
      clear ho hb HG
      go_wp2_with fail
      go_loopw [6, 8, 27] (fun v _ t wc => ∃ i : Nat, i ≤ 2 ∧ t = .int .i64 i ∧ Hid (OwnZ wc w.heap.size v (cat2 xs ys i) ∧ Below w.heap.size w wc)) (fun _ _ t _ => 2 - (intOf t).toNat)
      case atStart => exact ⟨0, by omega, rfl, ST⟩
      case round =>
        obtain ⟨i, hi, rfl, hst⟩ := hrel
        obtain ⟨k0, k1⟩ := HP.out _ hst.out.2
        have HB := hide hst.out.2
        have HO := hide hst.out.1
        rcases (show i = 0 ∨ i = 1 ∨ i = 2 by omega) with rfl | rfl | rfl
        · have HZ := hide (H1.out _ HB.out)
          have HLE := hide (show (cat2 xs ys 0).length + n1 ≤ 100000 from by simp [cat2]; omega)
          clear hst
          go_wp2_with (at_builtin; refine wpList_append_zs rfl _ _ rfl w.heap.size _ _ rfl HO.out a1 n1 c1 xs rfl HZ.out HLE.out HB.out.size ?_; intro v6 w6 ho6 hg6 hk6)
          go_roundw
          case rel => exact ⟨1, by omega, rfl, hide ⟨ho6, HB.out.grown hg6 HB.out.size hk6⟩⟩
          case measure => first | simp [intOf] | (simp [intOf]; omega)
        · have HZ := hide (H2.out _ HB.out)
          have HLE := hide (show (cat2 xs ys 1).length + n2 ≤ 100000 from by have := HL1.out; simp [cat2]; omega)
          clear hst
          go_wp2_with (at_builtin; refine wpList_append_zs rfl _ _ rfl w.heap.size _ _ rfl HO.out a2 n2 c2 ys rfl HZ.out HLE.out HB.out.size ?_; intro v6 w6 ho6 hg6 hk6)
          go_roundw
          case rel => exact ⟨2, by omega, rfl, hide ⟨ho6, HB.out.grown hg6 HB.out.size hk6⟩⟩
          case measure => first | simp [intOf] | (simp [intOf]; omega)
        · clear hst k0 k1
          go_wp2
          go_ret
          exact ⟨_, rfl, HO.out, HB.out⟩
/-- The row in order. -/
theorem sort_any (B : Nat) (v : Value) (zs : List Int) (w : World) (h : OwnZ w B v zs) (hB : B ≤ w.heap.size) (hn : zs.length ≤ 100000) :
    Calls Try.prog 24 #[v] w fun e w' => e = .returned (.tuple #[]) ∧ OwnZ w' B v (zs.mergeSort fun x y => decide (x ≤ y)) ∧ Below B w w' := by
  obtain ⟨hl, ⟨rfl, hz⟩ | ⟨g, cap, cur, rfl, hg, hh, hnc, hcm, hcs, hx⟩⟩ := h
  · have hz0 : zs = [] := List.eq_nil_of_length_eq_zero hz
    subst hz0
    refine (AnyM.slices_Sort_int_none Try.sortI none 0 w).mono ?_
    rintro e w' ⟨rfl, rfl⟩
    exact ⟨rfl, by rw [List.mergeSort_nil]; exact ownZ_nil _ _, Below.refl _ _⟩
  · have ht : cur.toList.take zs.length = zs.map (Value.int .i64) := by rw [Nat.mul_one] at hx; exact hx
    have hgl : g < w.heap.size := (Array.getElem?_eq_some_iff.1 hh).1
    refine (AnyM.slices_Sort_int Try.sortI g 0 cap zs w (holds_of_blockI hh ht) hgl (by omega)).mono ?_
    rintro e w' ⟨rfl, n, os, rfl⟩
    have hlen : (zs.mergeSort fun x y => decide (x ≤ y)).length = zs.length := List.length_mergeSort ..
    refine ⟨rfl, ?_, (Below.refl B w).grown (grownBy_sortedI _) hB (fun k hk => by cases hk; exact hg)⟩
    unfold OwnZ
    rw [hlen]
    exact ownsRow_sortedI hlen hg hh hnc hcm hcs

end Go.Proofs.Ytcbphalhjajapaa.Clep
