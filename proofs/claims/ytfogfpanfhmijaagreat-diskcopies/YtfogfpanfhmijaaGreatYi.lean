/- What copy of a file does when called (a walk over the translated program): a new file with the same bytes, in new memory alone. For any file of at most 250000 bytes. -/
import Derived.Test.YtfogfpanfhmijaaGreatYh
import Derived.Deep.RegionLaw
import Derived.Deep.AppendLies
import Derived.Laws.AppendOwnNone
import Derived.Laws.Cover3
namespace Go.Proofs.YtfogfpanfhmijaaGreat.Clep
open Go.RowKit Go.Maps
set_option linter.unusedVariables false

theorem step_app8 {ops : Array Oper} {o : Oper} {a : Act} {w : World} {K : Act → World → Prop} {Q : Exit → Act → World → Prop} {E : Prop} (hgd : o.guard = none) (s x : Operand)
    (ho : o.op = .call { callee := .builtin .append, args := #[s, x], argTypes := #[37, 37] }) (base : Nat) (v : Value) (xs : List Int) (hs : a.eval s = v) (hown : Own w base v xs)
    (ao : Option Addr) (len cap : Nat) (ys : List Int) (hx : a.eval x = .slice ao len cap) (hb : Bs w ao len cap ys) (hl : xs.length + len ≤ 1000000) (hbase : base ≤ w.heap.size)
    (h : ∀ v' w', Own w' base v' (xs ++ ys) → w.grownBy w' v.ownBlock → K (a.put o.dst v') w') :
    if Region.wanted o (yielded ops a.tmps) = true then Oper.wp Tryz.prog o a w K Q else E := by
  have hw : Region.wanted o (yielded ops a.tmps) = true := by simp [Region.wanted, hgd]
  rw [if_pos hw]
  obtain ⟨i0, hi, hz0, hz1, hz2⟩ := info_parts info5
  cases ao with
  | none =>
    obtain ⟨rfl, rfl⟩ := hb.2.1.2 rfl
    have hy : ys = [] := List.eq_nil_of_length_eq_zero hb.1
    subst hy
    have hr := run_append_owned_none (P := Tryz.prog) (w := w) base 37 o.type 5 i0 1 Tryz.underlying37 hi v xs.length (bv xs) hown
    unfold Oper.wp
    simp [execOp, ho, resolve, invoke, builtin, hs, hx, hr, Result.andThen]
    exact h v w (by rwa [List.append_nil]) (World.grownBy.refl _ _)
  | some ad =>
    refine wp_append_own _ s x 37 ho base 5 i0 (.int .u8 0) 1 1 Tryz.underlying37 hi hz0 hz1 hz2 rfl (by decide) v xs.length (bv xs) hs hown ad len cap (bv ys) hx (by rw [bv_len, hb.1]; omega) (bs_cells hb ad rfl) (bv_one _) (by unfold maxLen; omega) (by omega) hbase ?_
    intro v' w' h2 h3 _
    refine h v' w' ?_ h3
    unfold Own
    have e : bv (xs ++ ys) = bv xs ++ bv ys := by simp [bv]
    rw [e, List.length_append, hb.1]
    exact h2

set_option maxHeartbeats 2000000 in
theorem fcopy_any (b : Nat) (v : Value) (bs : List Int) (l : Nat) (w : World) (hr : w.heap[b]? = some (.cells #[v, .int .i64 l] 90 (0, 0))) (hO : Own w 0 v bs) (hrg : ∀ z ∈ bs, 0 ≤ z ∧ z < 256) (hlen : bs.length ≤ 250000) :
    Calls Tryz.prog 34 #[.pointer (some ⟨b, 0, none⟩)] w fun e w' => ∃ b' v', e = .returned (.pointer (some ⟨b', 0, none⟩)) ∧ w.heap.size ≤ b' ∧ w'.heap[b']? = some (.cells #[v', .int .i64 l] 90 (0, 0)) ∧ Own w' w.heap.size v' bs ∧ v'.ownBlock ≠ some b' ∧ Below w.heap.size w w' := by
  have c0 : w.cell? ⟨b, 0, none⟩ = some v := cell_of hr rfl
  have c1 : w.cell? ⟨b, 1, none⟩ = some (.int .i64 l) := cell_of hr rfl
  have hbl : b < w.heap.size := (Array.getElem?_eq_some_iff.1 hr).1
  obtain ⟨ao, cap, rfl, hcap, hbs, _⟩ := own_bs hO (range_of hrg)
  have HBS := hide (show Bs w.drew ao bs.length cap bs from hbs)
  have KC := hide (show ∀ w1, w.drew.grownBy w1 none → w1.cell? ⟨b, 1, none⟩ = some (.int .i64 l) from fun w1 g => g.cell (a := ⟨b, 1, none⟩) c1 (by simp))
  have ON := hide (show Own w.drew w.heap.size (.slice none 0 0) [] from own_none w.drew w.heap.size)
  clear hr hO hbs
  go_enter Tryz.func34, Tryz.ntmps34
  go_wp2_with fail
  go_region_law (refine step_app8 rfl (.const (.slice none 0 0)) (.tmp 6) rfl w.heap.size _ [] (by simp [Act.eval]) ON.out ao bs.length cap bs (by simp [Act.eval]) HBS.out (by simp; omega) (Nat.le_refl _) ?_; intro v1 w1 o1 g1; have k1 := KC.out w1 g1; obtain ⟨so1, sc1, e1, _⟩ := row_slice o1; subst e1)
  all_goals
    simp only [List.nil_append] at o1
    have b1 : Below w.heap.size w w1 := (Below.refl w.heap.size w).drew.grown g1 (Nat.le_refl _) (fun k hk => by cases hk)
    have bA : Below w1.heap.size w1 (w1.alloc (.cells #[.slice so1 bs.length sc1, .int .i64 l] 90)) := (Below.refl _ _).alloc (Nat.le_refl _) _
    have HF := hide (show w.heap.size ≤ w1.heap.size ∧ (w1.alloc (.cells #[.slice so1 bs.length sc1, .int .i64 l] 90)).heap[w1.heap.size]? = some (.cells #[.slice so1 bs.length sc1, .int .i64 l] 90 (0, 0)) ∧ Own (w1.alloc (.cells #[.slice so1 bs.length sc1, .int .i64 l] 90)) w.heap.size (.slice so1 bs.length sc1) bs ∧ (Value.slice so1 bs.length sc1).ownBlock ≠ some w1.heap.size ∧ Below w.heap.size w (w1.alloc (.cells #[.slice so1 bs.length sc1, .int .i64 l] 90)) from
      ⟨b1.size, (MapKept.heap_alloc w1 _).1, owns_keep (τ := fun _ => 0) (t := fun _ => False) (Turn.of_below bA _) o1 (fun _ _ h => h), fun e => by have := (World.ownsRow.lt o1 _ e).2; omega, b1.trans (bA.mono b1.size)⟩)
    clear o1 g1 b1 bA k1
    go_wp2
    go_ret
    exact ⟨w1.heap.size, _, rfl, HF.out.1, HF.out.2.1, HF.out.2.2.1, HF.out.2.2.2.1, HF.out.2.2.2.2⟩

end Go.Proofs.YtfogfpanfhmijaaGreat.Clep

/- What slices.Clone of a Disk's changes does when called (a walk over the translated program): a new row of the same, in new memory alone. -/
namespace Go.Proofs.YtfogfpanfhmijaaGreat.Clep
open Go.RowKit Go.Maps
set_option linter.unusedVariables false

theorem chC_len : ∀ l : List Ch, (l.flatMap chCells).length = l.length * 4
  | [] => rfl
  | x :: r => by rw [List.flatMap_cons, List.length_append, chC_len r]; simp [chCells]; omega
theorem chC_one (l : List Ch) : ∀ u ∈ l.flatMap chCells, u.oneCell' = true := by
  intro u hu
  obtain ⟨x, _, hx⟩ := List.mem_flatMap.1 hu
  simp [chCells] at hx
  rcases hx with rfl | rfl | rfl | rfl <;> rfl
theorem ch_empty (w : World) : (w.alloc (.cells #[] 76)).ownsRow w.heap.size 76 4 (.slice (some ⟨w.heap.size, 0, none⟩) 0 0) 0 [] :=
  ⟨rfl, .inr ⟨_, 0, #[], rfl, Nat.le_refl _, (MapKept.heap_alloc w _).1, Nat.le_refl _, by unfold maxLen; omega, rfl, rfl⟩⟩

set_option maxHeartbeats 1000000 in
set_option maxRecDepth 100000 in
theorem sclone_any (v : Value) (l : List Ch) (w : World) (h : w.ownsRow 0 76 4 v l.length (l.flatMap chCells)) (hl : l.length ≤ 1000000) :
    Calls Tryz.prog 36 #[v] w fun e w' => ∃ v', e = .returned v' ∧ w'.ownsRow w.heap.size 76 4 v' l.length (l.flatMap chCells) ∧ Below w.heap.size w w' := by
  obtain ⟨i0, hi, hz0, hz1, hz2⟩ := info_parts infoC
  have heq : ∀ (w : World) (a : Option Addr) (n c : Nat), (binOp .eql 49 (.slice a n c) (.slice none 0 0)).run Tryz.prog w = .ok (.bool a.isNone) w := fun w a n c => by
    have := run_equal_slice_nil (P := Tryz.prog) (w := w) 49 76 a n c Tryz.underlying49
    simp [binOp, this, Result.andThen]
  have h0 := h
  obtain ⟨hlen, ⟨rfl, hn⟩ | ⟨g, cap, cur, rfl, hg, hh, r1, r2, r3, r4⟩⟩ := h
  · have e : l = [] := List.eq_nil_of_length_eq_zero hn
    subst e
    go_enter Tryz.func36, Tryz.ntmps36
    go_wp2
    go_ret
    exact ⟨_, rfl, World.ownsRow_nil _ _ _ _, Below.refl _ _⟩
  · have hgl := (Array.getElem?_eq_some_iff.1 hh).1
    have HC := hide (show ∀ j u, (l.flatMap chCells)[j]? = some u → (w.alloc (.cells #[] 76)).cell? ((⟨g, 0, none⟩ : Addr).add j) = some u from fun j u hu => by
      have hc := World.ownsRow.cells h0 (g := g) rfl j u hu
      rw [World.cell?_of_block (w := w) (a := (⟨g, 0, none⟩ : Addr).add j) (by rw [add_plain]; exact ((Below.refl w.heap.size w).alloc (Nat.le_refl _) _).block g hgl)]
      exact hc)
    have hL := chC_len l
    have hB0 := hide ((Below.refl w.heap.size w).alloc (Nat.le_refl _) (.cells #[] 76))
    clear hlen hh r2 r3 r4 h0
    go_enter Tryz.func36, Tryz.ntmps36
    go_wp2_with (first
      | (at_builtin; refine wpList_append_own _ rfl _ _ 49 rfl w.heap.size 76 i0 _ 4 48 Tryz.underlying49 hi hz0 hz1 hz2 rfl (by decide) _ 0 [] rfl (ch_empty w) ⟨g, 0, none⟩ l.length cap (l.flatMap chCells) rfl hL HC.out (chC_one _) (by unfold maxLen; omega) (by omega) hB0.out.size ?_; intro v1 w1 o1 g1 _
         have B1 := hide (hB0.out.grown g1 hB0.out.size (fun g hg => (World.ownsRow.lt (ch_empty w) g hg).1))
         have O1 := hide o1
         clear o1 g1)
      | fail)
    go_ret
    exact ⟨_, rfl, by have := O1.out; simpa using this, B1.out⟩

end Go.Proofs.YtfogfpanfhmijaaGreat.Clep
