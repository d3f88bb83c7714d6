/- The statement ItemOrders, walked: for any three rows of numbers. No conditions. -/
import Derived.Test.YtfmofkkjnepbcaaISix
namespace Go.Proofs.Ytfmofkkjnepbcaa.Clep
open Go.RowKit
set_option linter.unusedVariables false

theorem wpOp_go {P : Program} {ops : Array Oper} {Q : Exit → Act → World → Prop} {i : Nat} {o : Oper} {K : Act → World → Prop} {a : Act} {w : World} (ho : ops[i]? = some o)
    (h : if Region.wanted o (yielded ops a.tmps) = true then Oper.wp P o a w K Q else K (a.put o.dst undef) w) : wpOp P ops Q i K a w := by
  unfold wpOp
  rw [ho]
  simp only
  split at h
  · rename_i hw; rw [if_pos hw]; exact .inl h
  · rename_i hw; rw [if_neg hw]; exact h

theorem take_at {P : Program} {md : Region.Mode} {ops : Array Oper} {Q : Exit → Act → World → Prop} {S : World → Prop} (i d : Nat) (v : Value) {oi : Oper} {fuel : Nat} {listed : Array Bool} {T : Array Value} {D : List Deferred} {w : World} (hi : ops[i]? = some oi) (hd : oi.dst = some d)
    (hs : Region.noSelect ops = true) (hf : Region.free md ops listed i = true) (hr : (Region.ready md ops listed).contains i = true)
    (hQ : ∀ c a w, Q (.panic c) (a.put oi.dst v) w → Q (.panic c) a w) (hy : YieldsIf P ops S oi v ⟨T, D⟩) (hS : S w)
    (h : wpAnyH P md ops Q S fuel (listed.setIfInBounds i true) ⟨T.setIfInBounds d v, D⟩ w) : wpAnyH P md ops Q S (fuel + 1) listed ⟨T, D⟩ w := by
  refine wpAnyH_take hi hs hf hr hQ hy hS ?_
  have e : (Act.mk T D).put oi.dst v = ⟨T.setIfInBounds d v, D⟩ := by rw [hd]; rfl
  rw [e]
  exact h

/-- Three items, each in a block. -/
def Tri (w W : World) (p q r : Nat) (a b c : It) : Prop := Vi W p 0 a.S a.K a.T a.V a.X ∧ Vi W q 0 b.S b.K b.T b.V b.X ∧ Vi W r 0 c.S c.K c.T c.V c.X ∧ Below w.heap.size w W
theorem Tri.keep4 {w W W' : World} {p q r : Nat} {a b c : It} (h : Tri w W p q r a b c) (hb : Below W.heap.size W W') : Tri w W' p q r a b c := ⟨h.1.keep hb, h.2.1.keep hb, h.2.2.1.keep hb, bmore h.2.2.2 hb⟩

set_option maxHeartbeats 1000000 in
theorem orders_long (a0 a1 a2 : Option Addr) (len0 cap0 len1 cap1 len2 cap2 : Nat) (w : World) (h : len0 < 3 ∨ (3 ≤ len0 ∧ len1 < 3) ∨ (3 ≤ len0 ∧ 3 ≤ len1 ∧ len2 < 3)) (hm0 : len0 ≤ 9223372036854775807) (hm1 : len1 ≤ 9223372036854775807) (hm2 : len2 ≤ 9223372036854775807) :
    Calls Try.prog 5 #[.slice a0 len0 cap0, .slice a1 len1 cap1, .slice a2 len2 cap2] w fun e w' => e = .returned (.bool true) ∧ Below w.heap.size w w' := by
  rcases h with h | ⟨h, h'⟩ | ⟨h, h', h''⟩
  all_goals
    go_enter Try.func5, Try.ntmps5
    go_wp2_with (go_at_call 21; refine (awake5_any _).mono ?_; rintro e w' ⟨rfl, hbel⟩)
    go_ret
    exact ⟨rfl, hbel⟩

set_option maxRecDepth 8000 in
set_option maxHeartbeats 1600000 in
theorem orders_core (b0 o0 b1 o1 b2 o2 len0 cap0 len1 cap1 len2 cap2 : Nat) (s0 s1 s2 k0 k1 k2 t0 t1 t2 : Int) (w : World) (hl0 : 3 ≤ len0) (hl1 : 3 ≤ len1) (hl2 : 3 ≤ len2) (hm0 : len0 ≤ 9223372036854775807) (hm1 : len1 ≤ 9223372036854775807) (hm2 : len2 ≤ 9223372036854775807)
    (cs0 : w.cell? ⟨b0, o0, none⟩ = some (.int .i64 s0)) (cs1 : w.cell? ⟨b0, o0 + 1, none⟩ = some (.int .i64 s1)) (cs2 : w.cell? ⟨b0, o0 + 2, none⟩ = some (.int .i64 s2)) (ck0 : w.cell? ⟨b1, o1, none⟩ = some (.int .i64 k0)) (ck1 : w.cell? ⟨b1, o1 + 1, none⟩ = some (.int .i64 k1)) (ck2 : w.cell? ⟨b1, o1 + 2, none⟩ = some (.int .i64 k2)) (ct0 : w.cell? ⟨b2, o2, none⟩ = some (.int .u64 t0)) (ct1 : w.cell? ⟨b2, o2 + 1, none⟩ = some (.int .u64 t1)) (ct2 : w.cell? ⟨b2, o2 + 2, none⟩ = some (.int .u64 t2))
    (A B C : It) (hA : Hid (someI (bits .and .i64 s0 3) k0 (bits .and .u64 t0 7) 1 0 = A)) (hB : Hid (someI (bits .and .i64 s1 3) k1 (bits .and .u64 t1 7) 2 0 = B)) (hC : Hid (someI (bits .and .i64 s2 3) k2 (bits .and .u64 t2 7) 3 0 = C)) :
    Calls Try.prog 5 #[.slice (some ⟨b0, o0, none⟩) len0 cap0, .slice (some ⟨b1, o1, none⟩) len1 cap1, .slice (some ⟨b2, o2, none⟩) len2 cap2] w fun e w' => e = .returned (.bool true) ∧ Below w.heap.size w w' := by
  have HK : Hid (∀ W, Below w.heap.size w W → (Below w.heap.size w W ∧ W.cell? ⟨b0, o0, none⟩ = some (.int .i64 s0) ∧ W.cell? ⟨b0, o0 + 1, none⟩ = some (.int .i64 s1) ∧ W.cell? ⟨b0, o0 + 2, none⟩ = some (.int .i64 s2) ∧ W.cell? ⟨b1, o1, none⟩ = some (.int .i64 k0) ∧ W.cell? ⟨b1, o1 + 1, none⟩ = some (.int .i64 k1) ∧ W.cell? ⟨b1, o1 + 2, none⟩ = some (.int .i64 k2) ∧ W.cell? ⟨b2, o2, none⟩ = some (.int .u64 t0) ∧ W.cell? ⟨b2, o2 + 1, none⟩ = some (.int .u64 t1) ∧ W.cell? ⟨b2, o2 + 2, none⟩ = some (.int .u64 t2))) := hide fun W hW => by
    have g : ∀ (p : Addr) (v : Value), w.cell? p = some v → W.cell? p = some v := fun p v h => by rw [hW.cell (p := p) (World.block_lt_of_cell? w _ h)]; exact h
    exact ⟨hW, g _ _ cs0, g _ _ cs1, g _ _ cs2, g _ _ ck0, g _ _ ck1, g _ _ ck2, g _ _ ct0, g _ _ ct1, g _ _ ct2⟩
  have cA : Hid (∀ W : World, Calls Try.prog 28 #[.int .i64 (bits .and .i64 s0 3), .int .i64 k0, .int .u64 (bits .and .u64 t0 7), .int .u64 1, .int .i64 0] W fun en w' => en = .returned (.agg #[.int .i64 A.S, .int .i64 A.K, .int .u64 A.T, .int .u64 A.V, .int .i64 A.X]) ∧ Below W.heap.size W w') := hide fun W => by rw [← hA.out]; exact some_any _ _ _ _ _ W
  have cB : Hid (∀ W : World, Calls Try.prog 28 #[.int .i64 (bits .and .i64 s1 3), .int .i64 k1, .int .u64 (bits .and .u64 t1 7), .int .u64 2, .int .i64 0] W fun en w' => en = .returned (.agg #[.int .i64 B.S, .int .i64 B.K, .int .u64 B.T, .int .u64 B.V, .int .i64 B.X]) ∧ Below W.heap.size W w') := hide fun W => by rw [← hB.out]; exact some_any _ _ _ _ _ W
  have cC : Hid (∀ W : World, Calls Try.prog 28 #[.int .i64 (bits .and .i64 s2 3), .int .i64 k2, .int .u64 (bits .and .u64 t2 7), .int .u64 3, .int .i64 0] W fun en w' => en = .returned (.agg #[.int .i64 C.S, .int .i64 C.K, .int .u64 C.T, .int .u64 C.V, .int .i64 C.X]) ∧ Below W.heap.size W w') := hide fun W => by rw [← hC.out]; exact some_any _ _ _ _ _ W
  have hSA := hide (show Sm A by rw [← hA.out]; exact some_rng _ _ _ _ _)
  have hSB := hide (show Sm B by rw [← hB.out]; exact some_rng _ _ _ _ _)
  have hTA := hSA.out.2.2
  have hTB := hSB.out.2.2
  have hb0 : Below w.heap.size w w.drew := (Below.refl _ _).drew
  clear cs0 cs1 cs2 ck0 ck1 ck2 ct0 ct1 ct2
  go_enter Try.func5, Try.ntmps5
  go_wp2_with fail
  refine wp_region_held_drew (S := fun W => Below w.heap.size w W ∧ W.cell? ⟨b0, o0, none⟩ = some (.int .i64 s0) ∧ W.cell? ⟨b0, o0 + 1, none⟩ = some (.int .i64 s1) ∧ W.cell? ⟨b0, o0 + 2, none⟩ = some (.int .i64 s2) ∧ W.cell? ⟨b1, o1, none⟩ = some (.int .i64 k0) ∧ W.cell? ⟨b1, o1 + 1, none⟩ = some (.int .i64 k1) ∧ W.cell? ⟨b1, o1 + 2, none⟩ = some (.int .i64 k2) ∧ W.cell? ⟨b2, o2, none⟩ = some (.int .u64 t0) ∧ W.cell? ⟨b2, o2 + 1, none⟩ = some (.int .u64 t1) ∧ W.cell? ⟨b2, o2 + 2, none⟩ = some (.int .u64 t2)) (by kernel_rfl) (HK.out _ hb0) (fun hHeld => ?_)
  refine take_at 0 26 (.slice (some ⟨b0, o0, none⟩) len0 cap0) rfl rfl (by kernel_rfl) (by kernel_rfl) (by kernel_rfl) (fun _ _ _ h => h) (Or.inl ⟨by rfl, ?h0⟩) hHeld ?r0
  case h0 => (intro W hSw; (try dsimp only at hSw); go_simp <;> (intro h9; omega))
  simp only [List.setIfInBounds_toArray, List.set_cons_zero, List.set_cons_succ]
  refine take_at 1 27 (.pointer (some ⟨b0, o0, none⟩)) rfl rfl (by kernel_rfl) (by kernel_rfl) (by kernel_rfl) (fun _ _ _ h => h) (Or.inl ⟨by rfl, ?h1⟩) hHeld ?r1
  case h1 => (intro W hSw; (try dsimp only at hSw); go_simp <;> (intro h9; omega))
  simp only [List.setIfInBounds_toArray, List.set_cons_zero, List.set_cons_succ]
  refine take_at 2 28 (.int .i64 s0) rfl rfl (by kernel_rfl) (by kernel_rfl) (by kernel_rfl) (fun _ _ _ h => h) (Or.inl ⟨by rfl, ?h2⟩) hHeld ?r2
  case h2 => (intro W hSw; (try dsimp only at hSw); go_simp <;> (intro h9; omega))
  simp only [List.setIfInBounds_toArray, List.set_cons_zero, List.set_cons_succ]
  refine take_at 3 29 (.int .i64 (bits .and .i64 s0 3)) rfl rfl (by kernel_rfl) (by kernel_rfl) (by kernel_rfl) (fun _ _ _ h => h) (Or.inl ⟨by rfl, ?h3⟩) hHeld ?r3
  case h3 => (intro W hSw; (try dsimp only at hSw); go_simp <;> (intro h9; omega))
  simp only [List.setIfInBounds_toArray, List.set_cons_zero, List.set_cons_succ]
  refine take_at 4 30 (.slice (some ⟨b1, o1, none⟩) len1 cap1) rfl rfl (by kernel_rfl) (by kernel_rfl) (by kernel_rfl) (fun _ _ _ h => h) (Or.inl ⟨by rfl, ?h4⟩) hHeld ?r4
  case h4 => (intro W hSw; (try dsimp only at hSw); go_simp <;> (intro h9; omega))
  simp only [List.setIfInBounds_toArray, List.set_cons_zero, List.set_cons_succ]
  refine take_at 5 31 (.pointer (some ⟨b1, o1, none⟩)) rfl rfl (by kernel_rfl) (by kernel_rfl) (by kernel_rfl) (fun _ _ _ h => h) (Or.inl ⟨by rfl, ?h5⟩) hHeld ?r5
  case h5 => (intro W hSw; (try dsimp only at hSw); go_simp <;> (intro h9; omega))
  simp only [List.setIfInBounds_toArray, List.set_cons_zero, List.set_cons_succ]
  refine take_at 6 32 (.int .i64 k0) rfl rfl (by kernel_rfl) (by kernel_rfl) (by kernel_rfl) (fun _ _ _ h => h) (Or.inl ⟨by rfl, ?h6⟩) hHeld ?r6
  case h6 => (intro W hSw; (try dsimp only at hSw); go_simp <;> (intro h9; omega))
  simp only [List.setIfInBounds_toArray, List.set_cons_zero, List.set_cons_succ]
  refine take_at 7 33 (.slice (some ⟨b2, o2, none⟩) len2 cap2) rfl rfl (by kernel_rfl) (by kernel_rfl) (by kernel_rfl) (fun _ _ _ h => h) (Or.inl ⟨by rfl, ?h7⟩) hHeld ?r7
  case h7 => (intro W hSw; (try dsimp only at hSw); go_simp <;> (intro h9; omega))
  simp only [List.setIfInBounds_toArray, List.set_cons_zero, List.set_cons_succ]
  refine take_at 8 34 (.pointer (some ⟨b2, o2, none⟩)) rfl rfl (by kernel_rfl) (by kernel_rfl) (by kernel_rfl) (fun _ _ _ h => h) (Or.inl ⟨by rfl, ?h8⟩) hHeld ?r8
  case h8 => (intro W hSw; (try dsimp only at hSw); go_simp <;> (intro h9; omega))
  simp only [List.setIfInBounds_toArray, List.set_cons_zero, List.set_cons_succ]
  refine take_at 9 35 (.int .u64 t0) rfl rfl (by kernel_rfl) (by kernel_rfl) (by kernel_rfl) (fun _ _ _ h => h) (Or.inl ⟨by rfl, ?h9⟩) hHeld ?r9
  case h9 => (intro W hSw; (try dsimp only at hSw); go_simp <;> (intro h9; omega))
  simp only [List.setIfInBounds_toArray, List.set_cons_zero, List.set_cons_succ]
  refine take_at 10 36 (.int .u64 (bits .and .u64 t0 7)) rfl rfl (by kernel_rfl) (by kernel_rfl) (by kernel_rfl) (fun _ _ _ h => h) (Or.inl ⟨by rfl, ?h10⟩) hHeld ?r10
  case h10 => (intro W hSw; (try dsimp only at hSw); go_simp <;> (intro h9; omega))
  simp only [List.setIfInBounds_toArray, List.set_cons_zero, List.set_cons_succ]
  refine take_at 12 38 (.slice (some ⟨b0, o0, none⟩) len0 cap0) rfl rfl (by kernel_rfl) (by kernel_rfl) (by kernel_rfl) (fun _ _ _ h => h) (Or.inl ⟨by rfl, ?h12⟩) hHeld ?r12
  case h12 => (intro W hSw; (try dsimp only at hSw); go_simp <;> (intro h9; omega))
  simp only [List.setIfInBounds_toArray, List.set_cons_zero, List.set_cons_succ]
  refine take_at 13 39 (.pointer (some ⟨b0, o0 + 1, none⟩)) rfl rfl (by kernel_rfl) (by kernel_rfl) (by kernel_rfl) (fun _ _ _ h => h) (Or.inl ⟨by rfl, ?h13⟩) hHeld ?r13
  case h13 => (intro W hSw; (try dsimp only at hSw); go_simp <;> (intro h9; omega))
  simp only [List.setIfInBounds_toArray, List.set_cons_zero, List.set_cons_succ]
  refine take_at 14 40 (.int .i64 s1) rfl rfl (by kernel_rfl) (by kernel_rfl) (by kernel_rfl) (fun _ _ _ h => h) (Or.inl ⟨by rfl, ?h14⟩) hHeld ?r14
  case h14 => (intro W hSw; (try dsimp only at hSw); go_simp <;> (intro h9; omega))
  simp only [List.setIfInBounds_toArray, List.set_cons_zero, List.set_cons_succ]
  refine take_at 15 41 (.int .i64 (bits .and .i64 s1 3)) rfl rfl (by kernel_rfl) (by kernel_rfl) (by kernel_rfl) (fun _ _ _ h => h) (Or.inl ⟨by rfl, ?h15⟩) hHeld ?r15
  case h15 => (intro W hSw; (try dsimp only at hSw); go_simp <;> (intro h9; omega))
  simp only [List.setIfInBounds_toArray, List.set_cons_zero, List.set_cons_succ]
  refine take_at 16 42 (.slice (some ⟨b1, o1, none⟩) len1 cap1) rfl rfl (by kernel_rfl) (by kernel_rfl) (by kernel_rfl) (fun _ _ _ h => h) (Or.inl ⟨by rfl, ?h16⟩) hHeld ?r16
  case h16 => (intro W hSw; (try dsimp only at hSw); go_simp <;> (intro h9; omega))
  simp only [List.setIfInBounds_toArray, List.set_cons_zero, List.set_cons_succ]
  refine take_at 17 43 (.pointer (some ⟨b1, o1 + 1, none⟩)) rfl rfl (by kernel_rfl) (by kernel_rfl) (by kernel_rfl) (fun _ _ _ h => h) (Or.inl ⟨by rfl, ?h17⟩) hHeld ?r17
  case h17 => (intro W hSw; (try dsimp only at hSw); go_simp <;> (intro h9; omega))
  simp only [List.setIfInBounds_toArray, List.set_cons_zero, List.set_cons_succ]
  refine take_at 18 44 (.int .i64 k1) rfl rfl (by kernel_rfl) (by kernel_rfl) (by kernel_rfl) (fun _ _ _ h => h) (Or.inl ⟨by rfl, ?h18⟩) hHeld ?r18
  case h18 => (intro W hSw; (try dsimp only at hSw); go_simp <;> (intro h9; omega))
  simp only [List.setIfInBounds_toArray, List.set_cons_zero, List.set_cons_succ]
  refine take_at 19 45 (.slice (some ⟨b2, o2, none⟩) len2 cap2) rfl rfl (by kernel_rfl) (by kernel_rfl) (by kernel_rfl) (fun _ _ _ h => h) (Or.inl ⟨by rfl, ?h19⟩) hHeld ?r19
  case h19 => (intro W hSw; (try dsimp only at hSw); go_simp <;> (intro h9; omega))
  simp only [List.setIfInBounds_toArray, List.set_cons_zero, List.set_cons_succ]
  refine take_at 20 46 (.pointer (some ⟨b2, o2 + 1, none⟩)) rfl rfl (by kernel_rfl) (by kernel_rfl) (by kernel_rfl) (fun _ _ _ h => h) (Or.inl ⟨by rfl, ?h20⟩) hHeld ?r20
  case h20 => (intro W hSw; (try dsimp only at hSw); go_simp <;> (intro h9; omega))
  simp only [List.setIfInBounds_toArray, List.set_cons_zero, List.set_cons_succ]
  refine take_at 21 47 (.int .u64 t1) rfl rfl (by kernel_rfl) (by kernel_rfl) (by kernel_rfl) (fun _ _ _ h => h) (Or.inl ⟨by rfl, ?h21⟩) hHeld ?r21
  case h21 => (intro W hSw; (try dsimp only at hSw); go_simp <;> (intro h9; omega))
  simp only [List.setIfInBounds_toArray, List.set_cons_zero, List.set_cons_succ]
  refine take_at 22 48 (.int .u64 (bits .and .u64 t1 7)) rfl rfl (by kernel_rfl) (by kernel_rfl) (by kernel_rfl) (fun _ _ _ h => h) (Or.inl ⟨by rfl, ?h22⟩) hHeld ?r22
  case h22 => (intro W hSw; (try dsimp only at hSw); go_simp <;> (intro h9; omega))
  simp only [List.setIfInBounds_toArray, List.set_cons_zero, List.set_cons_succ]
  refine take_at 24 50 (.slice (some ⟨b0, o0, none⟩) len0 cap0) rfl rfl (by kernel_rfl) (by kernel_rfl) (by kernel_rfl) (fun _ _ _ h => h) (Or.inl ⟨by rfl, ?h24⟩) hHeld ?r24
  case h24 => (intro W hSw; (try dsimp only at hSw); go_simp <;> (intro h9; omega))
  simp only [List.setIfInBounds_toArray, List.set_cons_zero, List.set_cons_succ]
  refine take_at 25 51 (.pointer (some ⟨b0, o0 + 2, none⟩)) rfl rfl (by kernel_rfl) (by kernel_rfl) (by kernel_rfl) (fun _ _ _ h => h) (Or.inl ⟨by rfl, ?h25⟩) hHeld ?r25
  case h25 => (intro W hSw; (try dsimp only at hSw); go_simp <;> (intro h9; omega))
  simp only [List.setIfInBounds_toArray, List.set_cons_zero, List.set_cons_succ]
  refine take_at 26 52 (.int .i64 s2) rfl rfl (by kernel_rfl) (by kernel_rfl) (by kernel_rfl) (fun _ _ _ h => h) (Or.inl ⟨by rfl, ?h26⟩) hHeld ?r26
  case h26 => (intro W hSw; (try dsimp only at hSw); go_simp <;> (intro h9; omega))
  simp only [List.setIfInBounds_toArray, List.set_cons_zero, List.set_cons_succ]
  refine take_at 27 53 (.int .i64 (bits .and .i64 s2 3)) rfl rfl (by kernel_rfl) (by kernel_rfl) (by kernel_rfl) (fun _ _ _ h => h) (Or.inl ⟨by rfl, ?h27⟩) hHeld ?r27
  case h27 => (intro W hSw; (try dsimp only at hSw); go_simp <;> (intro h9; omega))
  simp only [List.setIfInBounds_toArray, List.set_cons_zero, List.set_cons_succ]
  refine take_at 28 54 (.slice (some ⟨b1, o1, none⟩) len1 cap1) rfl rfl (by kernel_rfl) (by kernel_rfl) (by kernel_rfl) (fun _ _ _ h => h) (Or.inl ⟨by rfl, ?h28⟩) hHeld ?r28
  case h28 => (intro W hSw; (try dsimp only at hSw); go_simp <;> (intro h9; omega))
  simp only [List.setIfInBounds_toArray, List.set_cons_zero, List.set_cons_succ]
  refine take_at 29 55 (.pointer (some ⟨b1, o1 + 2, none⟩)) rfl rfl (by kernel_rfl) (by kernel_rfl) (by kernel_rfl) (fun _ _ _ h => h) (Or.inl ⟨by rfl, ?h29⟩) hHeld ?r29
  case h29 => (intro W hSw; (try dsimp only at hSw); go_simp <;> (intro h9; omega))
  simp only [List.setIfInBounds_toArray, List.set_cons_zero, List.set_cons_succ]
  refine take_at 30 56 (.int .i64 k2) rfl rfl (by kernel_rfl) (by kernel_rfl) (by kernel_rfl) (fun _ _ _ h => h) (Or.inl ⟨by rfl, ?h30⟩) hHeld ?r30
  case h30 => (intro W hSw; (try dsimp only at hSw); go_simp <;> (intro h9; omega))
  simp only [List.setIfInBounds_toArray, List.set_cons_zero, List.set_cons_succ]
  refine take_at 31 57 (.slice (some ⟨b2, o2, none⟩) len2 cap2) rfl rfl (by kernel_rfl) (by kernel_rfl) (by kernel_rfl) (fun _ _ _ h => h) (Or.inl ⟨by rfl, ?h31⟩) hHeld ?r31
  case h31 => (intro W hSw; (try dsimp only at hSw); go_simp <;> (intro h9; omega))
  simp only [List.setIfInBounds_toArray, List.set_cons_zero, List.set_cons_succ]
  refine take_at 32 58 (.pointer (some ⟨b2, o2 + 2, none⟩)) rfl rfl (by kernel_rfl) (by kernel_rfl) (by kernel_rfl) (fun _ _ _ h => h) (Or.inl ⟨by rfl, ?h32⟩) hHeld ?r32
  case h32 => (intro W hSw; (try dsimp only at hSw); go_simp <;> (intro h9; omega))
  simp only [List.setIfInBounds_toArray, List.set_cons_zero, List.set_cons_succ]
  refine take_at 33 59 (.int .u64 t2) rfl rfl (by kernel_rfl) (by kernel_rfl) (by kernel_rfl) (fun _ _ _ h => h) (Or.inl ⟨by rfl, ?h33⟩) hHeld ?r33
  case h33 => (intro W hSw; (try dsimp only at hSw); go_simp <;> (intro h9; omega))
  simp only [List.setIfInBounds_toArray, List.set_cons_zero, List.set_cons_succ]
  refine take_at 34 60 (.int .u64 (bits .and .u64 t2 7)) rfl rfl (by kernel_rfl) (by kernel_rfl) (by kernel_rfl) (fun _ _ _ h => h) (Or.inl ⟨by rfl, ?h34⟩) hHeld ?r34
  case h34 => (intro W hSw; (try dsimp only at hSw); go_simp <;> (intro h9; omega))
  simp only [List.setIfInBounds_toArray, List.set_cons_zero, List.set_cons_succ]
  refine six_any (H := w.heap.size) (F := 3) (A := .agg #[.int .i64 A.S, .int .i64 A.K, .int .u64 A.T, .int .u64 A.V, .int .i64 A.X]) (B := .agg #[.int .i64 B.S, .int .i64 B.K, .int .u64 B.T, .int .u64 B.V, .int .i64 B.X]) (C := .agg #[.int .i64 C.S, .int .i64 C.K, .int .u64 C.T, .int .u64 C.V, .int .i64 C.X]) ?hr ?hH ?o11 ?o23 ?o35 ?o36 ?o37 ?o38 ?fin ?t0 ?t1 ?t2 ?t3 ?t4 ?t5 _ ?hS _ ?hn _ ?hl
  case hH => intro W h; exact h.1.size
  case hS => exact hHeld
  case hn => rfl
  case t0 => rfl
  case t1 => rfl
  case t2 => rfl
  case t3 => rfl
  case t4 => rfl
  case t5 => rfl
  case hl => decide +kernel
  case hr => decide +kernel
  case o36 =>
    intro a b c e f W K hS hK
    simp only [fr, List.setIfInBounds_toArray, List.set_cons_zero, List.set_cons_succ] at hK ⊢
    refine wpOp_go rfl ?_
    go_simp
    exact hK (HK.out _ (hS.1.alloc hS.1.size _))
  case o11 =>
    intro b c d e f W K hS hK
    simp only [fr, List.setIfInBounds_toArray, List.set_cons_zero, List.set_cons_succ] at hK ⊢
    refine wpOp_go rfl ?_
    go_simp
    go_wp2_with (go_at_call 28; refine (cA.out _).mono ?_; rintro e w' ⟨rfl, hb⟩)
    exact hK w' hb (HK.out _ (hS.1.trans (hb.mono hS.1.size)))
  case o23 =>
    intro a c d e f W K hS hK
    simp only [fr, List.setIfInBounds_toArray, List.set_cons_zero, List.set_cons_succ] at hK ⊢
    refine wpOp_go rfl ?_
    go_simp
    go_wp2_with (go_at_call 28; refine (cB.out _).mono ?_; rintro e w' ⟨rfl, hb⟩)
    exact hK w' hb (HK.out _ (hS.1.trans (hb.mono hS.1.size)))
  case o35 =>
    intro a b d e f W K hS hK
    simp only [fr, List.setIfInBounds_toArray, List.set_cons_zero, List.set_cons_succ] at hK ⊢
    refine wpOp_go rfl ?_
    go_simp
    go_wp2_with (go_at_call 28; refine (cC.out _).mono ?_; rintro e w' ⟨rfl, hb⟩)
    exact hK w' hb (HK.out _ (hS.1.trans (hb.mono hS.1.size)))
  case o37 =>
    intro a b c d f W K hS hK
    simp only [fr, List.setIfInBounds_toArray, List.set_cons_zero, List.set_cons_succ] at hK ⊢
    refine wpOp_go rfl ?_
    go_simp
    exact hK (HK.out _ (hS.1.alloc hS.1.size _))
  case o38 =>
    intro a b c d e W K hS hK
    simp only [fr, List.setIfInBounds_toArray, List.set_cons_zero, List.set_cons_succ] at hK ⊢
    refine wpOp_go rfl ?_
    go_simp
    exact hK (HK.out _ (hS.1.alloc hS.1.size _))
  case fin =>
    intro p q r W gp gq gr n1 n2 n3 hS
    simp only [fr, List.setIfInBounds_toArray, List.set_cons_zero, List.set_cons_succ, ptr]
    have Vp := hide gp.2
    have Vq := hide gq.2
    have Vr := hide gr.2
    have hp := hide gp.1
    have hq := hide gq.1
    have hr := hide gr.1
    have BW := hide hS.1
    clear gp gq gr hS
    have qv := Vp.out.1
    have fv := Vp.out.2
    unfold Vi at qv
    unfold Vf at fv
    simp only [Nat.zero_add] at qv fv
    obtain ⟨q0, q1, q2, q3, q4⟩ := qv
    obtain ⟨f0, f1, f2, f3, f4⟩ := fv
    have g390 := gb_set W ⟨p, 0, none⟩ (.int .i64 A.S)
    have g391 := g390.trans (gb_set _ ⟨p, 1, none⟩ (.int .i64 A.K))
    have g392 := g391.trans (gb_set _ ⟨p, 2, none⟩ (.int .u64 A.T))
    have g393 := g392.trans (gb_set _ ⟨p, 3, none⟩ (.int .u64 A.V))
    have g394 := g393.trans (gb_set _ ⟨p, 4, none⟩ (.int .i64 A.X))
    have Np := hide (((((Vp.out.set0 A.S).set1 A.K).set2 A.T).set3 A.V).set4 A.X)
    have BN := hide (BW.out.grown g394 BW.out.size (fun j hj => by cases hj; exact hp.out))
    have Nq := hide (Vq.out.grown g394 (by simp; omega))
    have Nr := hide (Vr.out.grown g394 (by simp; omega))
    have hSN := hide (HK.out _ BN.out)
    clear g390 g391 g392 g393 g394 BW Vp Vq Vr
    refine wpAnyH_all (rs := [39]) (by kernel_rfl) (by simp) ?_
    intro i hi
    obtain rfl := List.mem_singleton.1 hi
    refine wpOp_go rfl ?_
    go_simp
    refine ⟨hSN.out, ?_⟩
    clear q0 q1 q2 q3 q4 f0 f1 f2 f3 f4 hSN
    generalize (((((W.setCell ⟨p, 0, none⟩ (.int .i64 A.S)).setCell ⟨p, 1, none⟩ (.int .i64 A.K)).setCell ⟨p, 2, none⟩ (.int .u64 A.T)).setCell ⟨p, 3, none⟩ (.int .u64 A.V)).setCell ⟨p, 4, none⟩ (.int .i64 A.X)) = W1 at *
    have Vp := Np
    have BW := BN
    have Vq := Nq
    have Vr := Nr
    clear Np BN Nq Nr
    have qv := Vq.out.1
    have fv := Vq.out.2
    unfold Vi at qv
    unfold Vf at fv
    simp only [Nat.zero_add] at qv fv
    obtain ⟨q0, q1, q2, q3, q4⟩ := qv
    obtain ⟨f0, f1, f2, f3, f4⟩ := fv
    have g400 := gb_set W1 ⟨q, 0, none⟩ (.int .i64 B.S)
    have g401 := g400.trans (gb_set _ ⟨q, 1, none⟩ (.int .i64 B.K))
    have g402 := g401.trans (gb_set _ ⟨q, 2, none⟩ (.int .u64 B.T))
    have g403 := g402.trans (gb_set _ ⟨q, 3, none⟩ (.int .u64 B.V))
    have g404 := g403.trans (gb_set _ ⟨q, 4, none⟩ (.int .i64 B.X))
    have Nq := hide (((((Vq.out.set0 B.S).set1 B.K).set2 B.T).set3 B.V).set4 B.X)
    have BN := hide (BW.out.grown g404 BW.out.size (fun j hj => by cases hj; exact hq.out))
    have Np := hide (Vp.out.grown g404 (by simp; omega))
    have Nr := hide (Vr.out.grown g404 (by simp; omega))
    have hSN := hide (HK.out _ BN.out)
    clear g400 g401 g402 g403 g404 BW Vq Vp Vr
    refine wpAnyH_all (rs := [40]) (by kernel_rfl) (by simp) ?_
    intro i hi
    obtain rfl := List.mem_singleton.1 hi
    refine wpOp_go rfl ?_
    go_simp
    refine ⟨hSN.out, ?_⟩
    clear q0 q1 q2 q3 q4 f0 f1 f2 f3 f4 hSN
    generalize (((((W1.setCell ⟨q, 0, none⟩ (.int .i64 B.S)).setCell ⟨q, 1, none⟩ (.int .i64 B.K)).setCell ⟨q, 2, none⟩ (.int .u64 B.T)).setCell ⟨q, 3, none⟩ (.int .u64 B.V)).setCell ⟨q, 4, none⟩ (.int .i64 B.X)) = W2 at *
    have Vq := Nq
    have BW := BN
    have Vp := Np
    have Vr := Nr
    clear Nq BN Np Nr
    have qv := Vr.out.1
    have fv := Vr.out.2
    unfold Vi at qv
    unfold Vf at fv
    simp only [Nat.zero_add] at qv fv
    obtain ⟨q0, q1, q2, q3, q4⟩ := qv
    obtain ⟨f0, f1, f2, f3, f4⟩ := fv
    have g410 := gb_set W2 ⟨r, 0, none⟩ (.int .i64 C.S)
    have g411 := g410.trans (gb_set _ ⟨r, 1, none⟩ (.int .i64 C.K))
    have g412 := g411.trans (gb_set _ ⟨r, 2, none⟩ (.int .u64 C.T))
    have g413 := g412.trans (gb_set _ ⟨r, 3, none⟩ (.int .u64 C.V))
    have g414 := g413.trans (gb_set _ ⟨r, 4, none⟩ (.int .i64 C.X))
    have Nr := hide (((((Vr.out.set0 C.S).set1 C.K).set2 C.T).set3 C.V).set4 C.X)
    have BN := hide (BW.out.grown g414 BW.out.size (fun j hj => by cases hj; exact hr.out))
    have Np := hide (Vp.out.grown g414 (by simp; omega))
    have Nq := hide (Vq.out.grown g414 (by simp; omega))
    have hSN := hide (HK.out _ BN.out)
    clear g410 g411 g412 g413 g414 BW Vr Vp Vq
    refine wpAnyH_all (rs := [41]) (by kernel_rfl) (by simp) ?_
    intro i hi
    obtain rfl := List.mem_singleton.1 hi
    refine wpOp_go rfl ?_
    go_simp
    refine ⟨hSN.out, ?_⟩
    clear q0 q1 q2 q3 q4 f0 f1 f2 f3 f4 hSN
    generalize (((((W2.setCell ⟨r, 0, none⟩ (.int .i64 C.S)).setCell ⟨r, 1, none⟩ (.int .i64 C.K)).setCell ⟨r, 2, none⟩ (.int .u64 C.T)).setCell ⟨r, 3, none⟩ (.int .u64 C.V)).setCell ⟨r, 4, none⟩ (.int .i64 C.X)) = W3 at *
    have Vr := Nr
    have BW := BN
    have Vp := Np
    have Vq := Nq
    clear Nr BN Np Nq
    refine wpAnyH_done (by kernel_rfl) ?_ _
    have TR := hide (show Tri w W3 p q r A B C from ⟨Vp.out.1, Vq.out.1, Vr.out.1, BW.out⟩)
    clear Vp Vq Vr BW hp hq hr HK cA cB cC hHeld hi n1 n2 n3
    have e_k : Hid (∀ (W : World) (S K T V X : Int), (0 ≤ T ∧ T ≤ 1099511627775) → Below W3.heap.size W3 W → Calls Try.prog 19 #[.agg #[.int .i64 S, .int .i64 K, .int .u64 T, .int .u64 V, .int .i64 X]] W fun e w' => ∃ a c, e = .returned (.slice a 10 c) ∧
        (∀ W', Below w'.heap.size w' W' → (convert 27 9 (.slice a 10 c)).run Try.prog W' = .ok (.string (strOfNums ([S % 256, K % 256] ++ e8 T 8))) W') ∧ Below W3.heap.size W3 w' ∧ Below w'.heap.size w' w' ∧ Below W.heap.size W w') := hide fun W S K T V X hT hW =>
      (key_any S K T V X W ⟨hT.1, by omega⟩).mono fun e w' ⟨v, he, ho, hb⟩ => by
        obtain ⟨a, c, rfl, hcv⟩ := own_conv ho (ky_range ⟨S, K, T, V, X⟩) 10 (ky_len ⟨S, K, T, V, X⟩)
        exact ⟨a, c, he, hcv.out, hW.trans (hb.mono hW.size), Below.refl _ _, hb⟩
    have HK2 : Hid (∀ W, Below W3.heap.size W3 W → (Below W3.heap.size W3 W ∧ W.cell? ⟨p, 0, none⟩ = some (.int .i64 A.S) ∧ W.cell? ⟨p, 1, none⟩ = some (.int .i64 A.K) ∧ W.cell? ⟨p, 2, none⟩ = some (.int .u64 A.T) ∧ W.cell? ⟨p, 3, none⟩ = some (.int .u64 A.V) ∧ W.cell? ⟨p, 4, none⟩ = some (.int .i64 A.X) ∧ W.cell? ⟨q, 0, none⟩ = some (.int .i64 B.S) ∧ W.cell? ⟨q, 1, none⟩ = some (.int .i64 B.K) ∧ W.cell? ⟨q, 2, none⟩ = some (.int .u64 B.T) ∧ W.cell? ⟨q, 3, none⟩ = some (.int .u64 B.V) ∧ W.cell? ⟨q, 4, none⟩ = some (.int .i64 B.X))) := hide fun W hW => by
      have h1 := TR.out.1.keep hW
      have h2 := TR.out.2.1.keep hW
      unfold Vi at h1 h2
      simp only [Nat.zero_add] at h1 h2
      obtain ⟨x0, x1, x2, x3, x4⟩ := h1
      obtain ⟨y0, y1, y2, y3, y4⟩ := h2
      exact ⟨hW, x0, x1, x2, x3, x4, y0, y1, y2, y3, y4⟩
    have hb3 : Below W3.heap.size W3 W3 := Below.refl _ _
    obtain ⟨-, z0, z1, z2, z3, z4, z5, z6, z7, z8, z9⟩ := HK2.out _ hb3
    go_wp2_with fail
    go_region_held_law (fun W => Below W3.heap.size W3 W ∧ W.cell? ⟨p, 0, none⟩ = some (.int .i64 A.S) ∧ W.cell? ⟨p, 1, none⟩ = some (.int .i64 A.K) ∧ W.cell? ⟨p, 2, none⟩ = some (.int .u64 A.T) ∧ W.cell? ⟨p, 3, none⟩ = some (.int .u64 A.V) ∧ W.cell? ⟨p, 4, none⟩ = some (.int .i64 A.X) ∧ W.cell? ⟨q, 0, none⟩ = some (.int .i64 B.S) ∧ W.cell? ⟨q, 1, none⟩ = some (.int .i64 B.K) ∧ W.cell? ⟨q, 2, none⟩ = some (.int .u64 B.T) ∧ W.cell? ⟨q, 3, none⟩ = some (.int .u64 B.V) ∧ W.cell? ⟨q, 4, none⟩ = some (.int .i64 B.X))
      (first | exact HK2.out _ (by assumption) | exact HK2.out _ (Below.drew (by assumption)))
      (first
      | (go_at_call 19; refine (e_k.out _ _ _ _ _ _ (by assumption) (And.left (by assumption))).mono ?_; rintro e w' ⟨a, c, rfl, hcv, hb, hbr, hbs⟩))
    all_goals
      have T4 := hide (TR.out.keep4 hb)
      have KL := ky_less A B hSA.out hSB.out
      have KE := ky_same A B hSA.out hSB.out
      rw [show strOfNums (A.S % 256 :: A.K % 256 :: e8 A.T 8) = strOfNums (ky A) from rfl, show strOfNums (B.S % 256 :: B.K % 256 :: e8 B.T 8) = strOfNums (ky B) from rfl]
      clear hcv hb hbr hbs z0 z1 z2 z3 z4 z5 z6 z7 z8 z9 HK2 e_k hb3 TR
      generalize strOfNums (ky A) = sA at *
      generalize strOfNums (ky B) = sB at *
      have HAA := hide (show lessI A.S A.K A.T A.S A.K A.T = false by unfold lessI; simp)
      have HSS := hide (show sameI A.S A.K A.T A.S A.K A.T = true by unfold sameI; simp)
      obtain ⟨l, hl⟩ : ∃ l, lessI A.S A.K A.T B.S B.K B.T = l := ⟨_, rfl⟩
      obtain ⟨es, hes⟩ : ∃ es, sameI A.S A.K A.T B.S B.K B.T = es := ⟨_, rfl⟩
      rw [hl] at KL
      rw [hes] at KE
      have HE := hide hes
      cases l with
      | false =>
        have HL := hide hl
        clear hl hes
        have qq := T4.out
        unfold Tri Vi at qq
        simp only [Nat.zero_add] at qq
        obtain ⟨⟨ga0, ga1, ga2, ga3, ga4⟩, ⟨gb0, gb1, gb2, gb3, gb4⟩, ⟨gc0, gc1, gc2, gc3, gc4⟩, -⟩ := qq
        go_wp2_with fail
        refine (less_any A.S A.K A.T A.V A.X B.S B.K B.T B.V B.X _).mono ?_
        rw [HL.out]
        rintro e y4 ⟨rfl, bb⟩
        have T5 := hide (T4.out.keep4 bb)
        clear bb T4 ga0 ga1 ga2 ga3 ga4 gb0 gb1 gb2 gb3 gb4 gc0 gc1 gc2 gc3 gc4
        have qq := T5.out
        unfold Tri Vi at qq
        simp only [Nat.zero_add] at qq
        obtain ⟨⟨ga0, ga1, ga2, ga3, ga4⟩, ⟨gb0, gb1, gb2, gb3, gb4⟩, ⟨gc0, gc1, gc2, gc3, gc4⟩, -⟩ := qq
        go_wp2_with fail
        refine (same_any A.S A.K A.T A.V A.X B.S B.K B.T B.V B.X _).mono ?_
        rw [HE.out]
        rintro e y5 ⟨rfl, bb⟩
        have T6 := hide (T5.out.keep4 bb)
        clear bb T5 ga0 ga1 ga2 ga3 ga4 gb0 gb1 gb2 gb3 gb4 gc0 gc1 gc2 gc3 gc4
        have qq := T6.out
        unfold Tri Vi at qq
        simp only [Nat.zero_add] at qq
        obtain ⟨⟨ga0, ga1, ga2, ga3, ga4⟩, ⟨gb0, gb1, gb2, gb3, gb4⟩, ⟨gc0, gc1, gc2, gc3, gc4⟩, -⟩ := qq
        go_wp2_with fail
        refine (less_any A.S A.K A.T A.V A.X B.S B.K B.T B.V B.X _).mono ?_
        rw [HL.out]
        rintro e y6 ⟨rfl, bb⟩
        have T7 := hide (T6.out.keep4 bb)
        clear bb T6 ga0 ga1 ga2 ga3 ga4 gb0 gb1 gb2 gb3 gb4 gc0 gc1 gc2 gc3 gc4
        have qq := T7.out
        unfold Tri Vi at qq
        simp only [Nat.zero_add] at qq
        obtain ⟨⟨ga0, ga1, ga2, ga3, ga4⟩, ⟨gb0, gb1, gb2, gb3, gb4⟩, ⟨gc0, gc1, gc2, gc3, gc4⟩, -⟩ := qq
        go_wp2_with fail
        refine (less_any A.S A.K A.T A.V A.X B.S B.K B.T B.V B.X _).mono ?_
        rw [HL.out]
        rintro e y7 ⟨rfl, bb⟩
        have T8 := hide (T7.out.keep4 bb)
        clear bb T7 ga0 ga1 ga2 ga3 ga4 gb0 gb1 gb2 gb3 gb4 gc0 gc1 gc2 gc3 gc4
        have qq := T8.out
        unfold Tri Vi at qq
        simp only [Nat.zero_add] at qq
        obtain ⟨⟨ga0, ga1, ga2, ga3, ga4⟩, ⟨gb0, gb1, gb2, gb3, gb4⟩, ⟨gc0, gc1, gc2, gc3, gc4⟩, -⟩ := qq
        go_wp2_with fail
        refine (less_any A.S A.K A.T A.V A.X A.S A.K A.T A.V A.X _).mono ?_
        rw [HAA.out]
        rintro e y8 ⟨rfl, bb⟩
        have T9 := hide (T8.out.keep4 bb)
        clear bb T8 ga0 ga1 ga2 ga3 ga4 gb0 gb1 gb2 gb3 gb4 gc0 gc1 gc2 gc3 gc4
        have qq := T9.out
        unfold Tri Vi at qq
        simp only [Nat.zero_add] at qq
        obtain ⟨⟨ga0, ga1, ga2, ga3, ga4⟩, ⟨gb0, gb1, gb2, gb3, gb4⟩, ⟨gc0, gc1, gc2, gc3, gc4⟩, -⟩ := qq
        go_wp2_with fail
        refine (same_any A.S A.K A.T A.V A.X A.S A.K A.T A.V A.X _).mono ?_
        rw [HSS.out]
        rintro e y9 ⟨rfl, bb⟩
        have T10 := hide (T9.out.keep4 bb)
        clear bb T9 ga0 ga1 ga2 ga3 ga4 gb0 gb1 gb2 gb3 gb4 gc0 gc1 gc2 gc3 gc4
        go_wp2_with fail
        refine (awake5_any _).mono ?_
        rintro e yz ⟨rfl, bb⟩
        have BZ := hide (bmore T10.out.2.2.2 bb)
        clear bb T10
        go_wp2
        go_ret
        exact ⟨rfl, BZ.out⟩
      | true =>
        have HL := hide hl
        have HR := hide (show lessI B.S B.K B.T A.S A.K A.T = false by
          unfold lessI at hl ⊢
          simp only [decide_eq_true_eq, decide_eq_false_iff_not] at hl ⊢
          omega)
        obtain ⟨l2, hl2'⟩ : ∃ l2, lessI B.S B.K B.T C.S C.K C.T = l2 := ⟨_, rfl⟩
        cases l2 with
        | false =>
          have HL2 := hide hl2'
          clear hl hes hl2'
          have qq := T4.out
          unfold Tri Vi at qq
          simp only [Nat.zero_add] at qq
          obtain ⟨⟨ga0, ga1, ga2, ga3, ga4⟩, ⟨gb0, gb1, gb2, gb3, gb4⟩, ⟨gc0, gc1, gc2, gc3, gc4⟩, -⟩ := qq
          go_wp2_with fail
          refine (less_any A.S A.K A.T A.V A.X B.S B.K B.T B.V B.X _).mono ?_
          rw [HL.out]
          rintro e y4 ⟨rfl, bb⟩
          have T5 := hide (T4.out.keep4 bb)
          clear bb T4 ga0 ga1 ga2 ga3 ga4 gb0 gb1 gb2 gb3 gb4 gc0 gc1 gc2 gc3 gc4
          have qq := T5.out
          unfold Tri Vi at qq
          simp only [Nat.zero_add] at qq
          obtain ⟨⟨ga0, ga1, ga2, ga3, ga4⟩, ⟨gb0, gb1, gb2, gb3, gb4⟩, ⟨gc0, gc1, gc2, gc3, gc4⟩, -⟩ := qq
          go_wp2_with fail
          refine (same_any A.S A.K A.T A.V A.X B.S B.K B.T B.V B.X _).mono ?_
          rw [HE.out]
          rintro e y5 ⟨rfl, bb⟩
          have T6 := hide (T5.out.keep4 bb)
          clear bb T5 ga0 ga1 ga2 ga3 ga4 gb0 gb1 gb2 gb3 gb4 gc0 gc1 gc2 gc3 gc4
          have qq := T6.out
          unfold Tri Vi at qq
          simp only [Nat.zero_add] at qq
          obtain ⟨⟨ga0, ga1, ga2, ga3, ga4⟩, ⟨gb0, gb1, gb2, gb3, gb4⟩, ⟨gc0, gc1, gc2, gc3, gc4⟩, -⟩ := qq
          go_wp2_with fail
          refine (less_any A.S A.K A.T A.V A.X B.S B.K B.T B.V B.X _).mono ?_
          rw [HL.out]
          rintro e y6 ⟨rfl, bb⟩
          have T7 := hide (T6.out.keep4 bb)
          clear bb T6 ga0 ga1 ga2 ga3 ga4 gb0 gb1 gb2 gb3 gb4 gc0 gc1 gc2 gc3 gc4
          have qq := T7.out
          unfold Tri Vi at qq
          simp only [Nat.zero_add] at qq
          obtain ⟨⟨ga0, ga1, ga2, ga3, ga4⟩, ⟨gb0, gb1, gb2, gb3, gb4⟩, ⟨gc0, gc1, gc2, gc3, gc4⟩, -⟩ := qq
          go_wp2_with fail
          refine (less_any B.S B.K B.T B.V B.X A.S A.K A.T A.V A.X _).mono ?_
          rw [HR.out]
          rintro e y7 ⟨rfl, bb⟩
          have T8 := hide (T7.out.keep4 bb)
          clear bb T7 ga0 ga1 ga2 ga3 ga4 gb0 gb1 gb2 gb3 gb4 gc0 gc1 gc2 gc3 gc4
          have qq := T8.out
          unfold Tri Vi at qq
          simp only [Nat.zero_add] at qq
          obtain ⟨⟨ga0, ga1, ga2, ga3, ga4⟩, ⟨gb0, gb1, gb2, gb3, gb4⟩, ⟨gc0, gc1, gc2, gc3, gc4⟩, -⟩ := qq
          go_wp2_with fail
          refine (less_any A.S A.K A.T A.V A.X B.S B.K B.T B.V B.X _).mono ?_
          rw [HL.out]
          rintro e y8 ⟨rfl, bb⟩
          have T9 := hide (T8.out.keep4 bb)
          clear bb T8 ga0 ga1 ga2 ga3 ga4 gb0 gb1 gb2 gb3 gb4 gc0 gc1 gc2 gc3 gc4
          have qq := T9.out
          unfold Tri Vi at qq
          simp only [Nat.zero_add] at qq
          obtain ⟨⟨ga0, ga1, ga2, ga3, ga4⟩, ⟨gb0, gb1, gb2, gb3, gb4⟩, ⟨gc0, gc1, gc2, gc3, gc4⟩, -⟩ := qq
          go_wp2_with fail
          refine (less_any B.S B.K B.T B.V B.X C.S C.K C.T C.V C.X _).mono ?_
          rw [HL2.out]
          rintro e y9 ⟨rfl, bb⟩
          have T10 := hide (T9.out.keep4 bb)
          clear bb T9 ga0 ga1 ga2 ga3 ga4 gb0 gb1 gb2 gb3 gb4 gc0 gc1 gc2 gc3 gc4
          have qq := T10.out
          unfold Tri Vi at qq
          simp only [Nat.zero_add] at qq
          obtain ⟨⟨ga0, ga1, ga2, ga3, ga4⟩, ⟨gb0, gb1, gb2, gb3, gb4⟩, ⟨gc0, gc1, gc2, gc3, gc4⟩, -⟩ := qq
          go_wp2_with fail
          refine (less_any A.S A.K A.T A.V A.X A.S A.K A.T A.V A.X _).mono ?_
          rw [HAA.out]
          rintro e y10 ⟨rfl, bb⟩
          have T11 := hide (T10.out.keep4 bb)
          clear bb T10 ga0 ga1 ga2 ga3 ga4 gb0 gb1 gb2 gb3 gb4 gc0 gc1 gc2 gc3 gc4
          have qq := T11.out
          unfold Tri Vi at qq
          simp only [Nat.zero_add] at qq
          obtain ⟨⟨ga0, ga1, ga2, ga3, ga4⟩, ⟨gb0, gb1, gb2, gb3, gb4⟩, ⟨gc0, gc1, gc2, gc3, gc4⟩, -⟩ := qq
          go_wp2_with fail
          refine (same_any A.S A.K A.T A.V A.X A.S A.K A.T A.V A.X _).mono ?_
          rw [HSS.out]
          rintro e y11 ⟨rfl, bb⟩
          have T12 := hide (T11.out.keep4 bb)
          clear bb T11 ga0 ga1 ga2 ga3 ga4 gb0 gb1 gb2 gb3 gb4 gc0 gc1 gc2 gc3 gc4
          go_wp2_with fail
          refine (awake5_any _).mono ?_
          rintro e yz ⟨rfl, bb⟩
          have BZ := hide (bmore T12.out.2.2.2 bb)
          clear bb T12
          go_wp2
          go_ret
          exact ⟨rfl, BZ.out⟩
        | true =>
          have HL2 := hide hl2'
          have HAC := hide (show lessI A.S A.K A.T C.S C.K C.T = true by
            unfold lessI at hl hl2' ⊢
            simp only [decide_eq_true_eq] at hl hl2' ⊢
            omega)
          clear hl hes hl2'
          have qq := T4.out
          unfold Tri Vi at qq
          simp only [Nat.zero_add] at qq
          obtain ⟨⟨ga0, ga1, ga2, ga3, ga4⟩, ⟨gb0, gb1, gb2, gb3, gb4⟩, ⟨gc0, gc1, gc2, gc3, gc4⟩, -⟩ := qq
          go_wp2_with fail
          refine (less_any A.S A.K A.T A.V A.X B.S B.K B.T B.V B.X _).mono ?_
          rw [HL.out]
          rintro e y4 ⟨rfl, bb⟩
          have T5 := hide (T4.out.keep4 bb)
          clear bb T4 ga0 ga1 ga2 ga3 ga4 gb0 gb1 gb2 gb3 gb4 gc0 gc1 gc2 gc3 gc4
          have qq := T5.out
          unfold Tri Vi at qq
          simp only [Nat.zero_add] at qq
          obtain ⟨⟨ga0, ga1, ga2, ga3, ga4⟩, ⟨gb0, gb1, gb2, gb3, gb4⟩, ⟨gc0, gc1, gc2, gc3, gc4⟩, -⟩ := qq
          go_wp2_with fail
          refine (same_any A.S A.K A.T A.V A.X B.S B.K B.T B.V B.X _).mono ?_
          rw [HE.out]
          rintro e y5 ⟨rfl, bb⟩
          have T6 := hide (T5.out.keep4 bb)
          clear bb T5 ga0 ga1 ga2 ga3 ga4 gb0 gb1 gb2 gb3 gb4 gc0 gc1 gc2 gc3 gc4
          have qq := T6.out
          unfold Tri Vi at qq
          simp only [Nat.zero_add] at qq
          obtain ⟨⟨ga0, ga1, ga2, ga3, ga4⟩, ⟨gb0, gb1, gb2, gb3, gb4⟩, ⟨gc0, gc1, gc2, gc3, gc4⟩, -⟩ := qq
          go_wp2_with fail
          refine (less_any A.S A.K A.T A.V A.X B.S B.K B.T B.V B.X _).mono ?_
          rw [HL.out]
          rintro e y6 ⟨rfl, bb⟩
          have T7 := hide (T6.out.keep4 bb)
          clear bb T6 ga0 ga1 ga2 ga3 ga4 gb0 gb1 gb2 gb3 gb4 gc0 gc1 gc2 gc3 gc4
          have qq := T7.out
          unfold Tri Vi at qq
          simp only [Nat.zero_add] at qq
          obtain ⟨⟨ga0, ga1, ga2, ga3, ga4⟩, ⟨gb0, gb1, gb2, gb3, gb4⟩, ⟨gc0, gc1, gc2, gc3, gc4⟩, -⟩ := qq
          go_wp2_with fail
          refine (less_any B.S B.K B.T B.V B.X A.S A.K A.T A.V A.X _).mono ?_
          rw [HR.out]
          rintro e y7 ⟨rfl, bb⟩
          have T8 := hide (T7.out.keep4 bb)
          clear bb T7 ga0 ga1 ga2 ga3 ga4 gb0 gb1 gb2 gb3 gb4 gc0 gc1 gc2 gc3 gc4
          have qq := T8.out
          unfold Tri Vi at qq
          simp only [Nat.zero_add] at qq
          obtain ⟨⟨ga0, ga1, ga2, ga3, ga4⟩, ⟨gb0, gb1, gb2, gb3, gb4⟩, ⟨gc0, gc1, gc2, gc3, gc4⟩, -⟩ := qq
          go_wp2_with fail
          refine (less_any A.S A.K A.T A.V A.X B.S B.K B.T B.V B.X _).mono ?_
          rw [HL.out]
          rintro e y8 ⟨rfl, bb⟩
          have T9 := hide (T8.out.keep4 bb)
          clear bb T8 ga0 ga1 ga2 ga3 ga4 gb0 gb1 gb2 gb3 gb4 gc0 gc1 gc2 gc3 gc4
          have qq := T9.out
          unfold Tri Vi at qq
          simp only [Nat.zero_add] at qq
          obtain ⟨⟨ga0, ga1, ga2, ga3, ga4⟩, ⟨gb0, gb1, gb2, gb3, gb4⟩, ⟨gc0, gc1, gc2, gc3, gc4⟩, -⟩ := qq
          go_wp2_with fail
          refine (less_any B.S B.K B.T B.V B.X C.S C.K C.T C.V C.X _).mono ?_
          rw [HL2.out]
          rintro e y9 ⟨rfl, bb⟩
          have T10 := hide (T9.out.keep4 bb)
          clear bb T9 ga0 ga1 ga2 ga3 ga4 gb0 gb1 gb2 gb3 gb4 gc0 gc1 gc2 gc3 gc4
          have qq := T10.out
          unfold Tri Vi at qq
          simp only [Nat.zero_add] at qq
          obtain ⟨⟨ga0, ga1, ga2, ga3, ga4⟩, ⟨gb0, gb1, gb2, gb3, gb4⟩, ⟨gc0, gc1, gc2, gc3, gc4⟩, -⟩ := qq
          go_wp2_with fail
          refine (less_any A.S A.K A.T A.V A.X C.S C.K C.T C.V C.X _).mono ?_
          rw [HAC.out]
          rintro e y10 ⟨rfl, bb⟩
          have T11 := hide (T10.out.keep4 bb)
          clear bb T10 ga0 ga1 ga2 ga3 ga4 gb0 gb1 gb2 gb3 gb4 gc0 gc1 gc2 gc3 gc4
          have qq := T11.out
          unfold Tri Vi at qq
          simp only [Nat.zero_add] at qq
          obtain ⟨⟨ga0, ga1, ga2, ga3, ga4⟩, ⟨gb0, gb1, gb2, gb3, gb4⟩, ⟨gc0, gc1, gc2, gc3, gc4⟩, -⟩ := qq
          go_wp2_with fail
          refine (less_any A.S A.K A.T A.V A.X A.S A.K A.T A.V A.X _).mono ?_
          rw [HAA.out]
          rintro e y11 ⟨rfl, bb⟩
          have T12 := hide (T11.out.keep4 bb)
          clear bb T11 ga0 ga1 ga2 ga3 ga4 gb0 gb1 gb2 gb3 gb4 gc0 gc1 gc2 gc3 gc4
          have qq := T12.out
          unfold Tri Vi at qq
          simp only [Nat.zero_add] at qq
          obtain ⟨⟨ga0, ga1, ga2, ga3, ga4⟩, ⟨gb0, gb1, gb2, gb3, gb4⟩, ⟨gc0, gc1, gc2, gc3, gc4⟩, -⟩ := qq
          go_wp2_with fail
          refine (same_any A.S A.K A.T A.V A.X A.S A.K A.T A.V A.X _).mono ?_
          rw [HSS.out]
          rintro e y12 ⟨rfl, bb⟩
          have T13 := hide (T12.out.keep4 bb)
          clear bb T12 ga0 ga1 ga2 ga3 ga4 gb0 gb1 gb2 gb3 gb4 gc0 gc1 gc2 gc3 gc4
          go_wp2_with fail
          refine (awake5_any _).mono ?_
          rintro e yz ⟨rfl, bb⟩
          have BZ := hide (bmore T13.out.2.2.2 bb)
          clear bb T13
          go_wp2
          go_ret
          exact ⟨rfl, BZ.out⟩

theorem three_of_row {w : World} {a : Option Addr} {len cap : Nat} {z : List Int} {k : IntKind} (hl : 3 ≤ len)
    (h : (a = none ∧ len = 0 ∧ cap = 0 ∧ z = []) ∨ ∃ x, a = some x ∧ len ≤ cap ∧ cap ≤ maxLen ∧ z.length = cap ∧ (∀ i, i < z.length → w.cell? (x.add i) = some (.int k (z.getD i 0))) ∧ ∀ n ∈ z, (Lit.int k n).wf = true) :
    ∃ b o x0 x1 x2, a = some ⟨b, o, none⟩ ∧ w.cell? ⟨b, o, none⟩ = some (.int k x0) ∧ w.cell? ⟨b, o + 1, none⟩ = some (.int k x1) ∧ w.cell? ⟨b, o + 2, none⟩ = some (.int k x2) := by
  rcases h with ⟨_, h, _⟩ | ⟨x, rfl, h1, h2, h3, h4, _⟩
  · omega
  · obtain ⟨b, off, spot⟩ := x
    have c0 := h4 0 (by omega)
    have c1 := h4 1 (by omega)
    have c2 := h4 2 (by omega)
    have hspot : spot = none := by simpa [Addr.add] using World.cell?_spot c0
    subst hspot
    rw [add_plain] at c0 c1 c2
    exact ⟨b, off, _, _, _, rfl, c0, c1, c2⟩
theorem len_of_row {w : World} {a : Option Addr} {len cap : Nat} {z : List Int} {k : IntKind}
    (h : (a = none ∧ len = 0 ∧ cap = 0 ∧ z = []) ∨ ∃ x, a = some x ∧ len ≤ cap ∧ cap ≤ maxLen ∧ z.length = cap ∧ (∀ i, i < z.length → w.cell? (x.add i) = some (.int k (z.getD i 0))) ∧ ∀ n ∈ z, (Lit.int k n).wf = true) : len ≤ 9223372036854775807 := by
  rcases h with ⟨_, h, _⟩ | ⟨x, _, h1, h2, _⟩
  · omega
  · unfold maxLen at h2; omega
theorem orders_walk (a0 a1 a2 : Option Addr) (len0 cap0 len1 cap1 len2 cap2 : Nat) (z0 z1 z2 : List Int) (w : World) (w0 : ((a0 = none ∧ len0 = 0 ∧ cap0 = 0 ∧ z0 = []) ∨ ∃ x, a0 = some x ∧ len0 ≤ cap0 ∧ cap0 ≤ maxLen ∧ z0.length = cap0 ∧ (∀ i, i < z0.length → w.cell? (x.add i) = some (.int .i64 (z0.getD i 0))) ∧ ∀ n ∈ z0, (Lit.int .i64 n).wf = true)) (w1 : ((a1 = none ∧ len1 = 0 ∧ cap1 = 0 ∧ z1 = []) ∨ ∃ x, a1 = some x ∧ len1 ≤ cap1 ∧ cap1 ≤ maxLen ∧ z1.length = cap1 ∧ (∀ i, i < z1.length → w.cell? (x.add i) = some (.int .i64 (z1.getD i 0))) ∧ ∀ n ∈ z1, (Lit.int .i64 n).wf = true)) (w2 : ((a2 = none ∧ len2 = 0 ∧ cap2 = 0 ∧ z2 = []) ∨ ∃ x, a2 = some x ∧ len2 ≤ cap2 ∧ cap2 ≤ maxLen ∧ z2.length = cap2 ∧ (∀ i, i < z2.length → w.cell? (x.add i) = some (.int .u64 (z2.getD i 0))) ∧ ∀ n ∈ z2, (Lit.int .u64 n).wf = true)) :
    Calls Try.prog 5 #[.slice a0 len0 cap0, .slice a1 len1 cap1, .slice a2 len2 cap2] w fun e w' => e = .returned (.bool true) ∧ Below w.heap.size w w' := by
  have m0 := len_of_row w0
  have m1 := len_of_row w1
  have m2 := len_of_row w2
  by_cases h : 3 ≤ len0 ∧ 3 ≤ len1 ∧ 3 ≤ len2
  · obtain ⟨h0, h1, h2⟩ := h
    obtain ⟨b0, o0, s0, s1, s2, rfl, cs0, cs1, cs2⟩ := three_of_row h0 w0
    obtain ⟨b1, o1, k0, k1, k2, rfl, ck0, ck1, ck2⟩ := three_of_row h1 w1
    obtain ⟨b2, o2, t0, t1, t2, rfl, ct0, ct1, ct2⟩ := three_of_row h2 w2
    exact orders_core b0 o0 b1 o1 b2 o2 len0 cap0 len1 cap1 len2 cap2 s0 s1 s2 k0 k1 k2 t0 t1 t2 w h0 h1 h2 m0 m1 m2 cs0 cs1 cs2 ck0 ck1 ck2 ct0 ct1 ct2 _ _ _ (hide rfl) (hide rfl) (hide rfl)
  · exact orders_long a0 a1 a2 len0 cap0 len1 cap1 len2 cap2 w (by omega) m0 m1 m2

end Go.Proofs.Ytfmofkkjnepbcaa.Clep
