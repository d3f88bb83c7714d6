/- What man.lay does when called (a walk over the translated program): for any Disk of fewer than 2^39 calls, any name and bytes of at most 2^46. -/
import Derived.Test.YtcahlmneancapaaGreatDoorFv11
import Derived.Test.YtcahlmneancapaaGreatDoorFv03
import Derived.Test.YtcahlmneancapaaGreatDoorFv10
namespace Go.Proofs.YtcahlmneancapaaGreatDoor.Clep
open Go.RowKit Go.Maps
set_option linter.unusedVariables false
set_option maxRecDepth 10000

theorem bs_same {F : Nat → Prop} {w w' : World} {ao : Option Addr} {len cap : Nat} {zs : List Int} (h : Bs w ao len cap zs) (hs : Same F w w') (ht : 0 < len → ∀ b off, ao = some ⟨b, off, none⟩ → F b) : Bs w' ao len cap zs := by
  refine ⟨h.1, h.2.1, h.2.2.1, fun h0 => ?_⟩
  obtain ⟨b, off, ho, hc⟩ := h.2.2.2 h0
  refine ⟨b, off, ho, fun i hi => ?_⟩
  rw [World.cell?_of_block (hs.block b (ht h0 b off ho))]
  exact hc i hi
theorem begin_calls (S : St) : (beginS S).2.calls = S.calls + 1 := (begin_keeps S).1
theorem create_calls (S : St) (s : ByteArray) : (createS S s).2.calls ≤ S.calls + 1 := by
  have := begin_calls S
  unfold createS
  split
  · exact Nat.le_succ _
  · split
    · omega
    · split
      · show (beginS S).2.calls ≤ _; omega
      · split
        · show (beginS S).2.calls ≤ _; omega
        · show (beginS S).2.calls ≤ _; omega
theorem append_calls (S : St) (s : ByteArray) (zs : List Int) : (appendS S s zs).2.calls ≤ S.calls + 1 := by
  have := begin_calls S
  unfold appendS
  split
  · exact Nat.le_succ _
  · split
    · omega
    · split
      · show (beginS S).2.calls ≤ _; omega
      · split
        · show (beginS S).2.calls ≤ _; omega
        · split
          · show (beginS S).2.calls ≤ _; omega
          · show (beginS S).2.calls ≤ _; omega
theorem sync_calls (S : St) (s : ByteArray) : (syncS S s).2.calls ≤ S.calls + 1 := by
  have := begin_calls S
  unfold syncS
  split
  · exact Nat.le_succ _
  · split
    · omega
    · split
      · show (beginS S).2.calls ≤ _; omega
      · show (beginS S).2.calls ≤ _; omega
theorem rmv_calls (S : St) (s : ByteArray) : (rmvS S s).2.calls ≤ S.calls + 1 := by
  have := begin_calls S
  unfold rmvS
  split
  · exact Nat.le_succ _
  · split
    · omega
    · split
      · show (beginS S).2.calls ≤ _; omega
      · show (beginS S).2.calls ≤ _; omega
theorem ren_calls (S : St) (a b : ByteArray) : (renS S a b).2.calls ≤ S.calls + 1 := by
  have := begin_calls S
  unfold renS
  split
  · exact Nat.le_succ _
  · split
    · omega
    · split
      · show (beginS S).2.calls ≤ _; omega
      · split
        · show (beginS S).2.calls ≤ _; omega
        · show (beginS S).2.calls ≤ _; omega
theorem syncDir_calls (S : St) : (syncDirS S).2.calls ≤ S.calls + 1 := by
  have := begin_calls S
  unfold syncDirS
  split
  · omega
  · show (beginS S).2.calls ≤ _; omega
theorem lay_calls (S : St) (s : ByteArray) (zs : List Int) : (layS S s zs).2.calls ≤ S.calls + 3 := by
  unfold layS
  have h1 := create_calls S s
  obtain ⟨E1, S1, e1⟩ : ∃ E1 S1, createS S s = (E1, S1) := ⟨_, _, rfl⟩
  rw [e1] at h1 ⊢
  simp only at h1 ⊢
  split
  · show S1.calls ≤ _; omega
  · have h2 := append_calls S1 s zs
    obtain ⟨E2, S2, e2⟩ : ∃ E2 S2, appendS S1 s zs = (E2, S2) := ⟨_, _, rfl⟩
    rw [e2] at h2 ⊢
    simp only at h2 ⊢
    split
    · show S2.calls ≤ _; omega
    · have h3 := sync_calls S2 s
      omega
theorem lay_h {F : Nat → Prop} {R : Nat} {S : St} {w : World} (s : ByteArray) (ao : Option Addr) (len cap : Nat) (zs : List Int) {E : Nat} {S' : St} (e : layS S s zs = (E, S')) (h : Held F w R S) (hm : S.calls < 549755813888) (hs : s.size ≤ 70368744177664)
    (hb : Bs w ao len cap zs) (hl : len ≤ 70368744177664) (ht : 0 < len → ∀ b off, ao = some ⟨b, off, none⟩ → F b) :
    Calls Tryz.prog 71 #[.pointer (some ⟨R, 0, none⟩), .string s, .slice ao len cap] w fun e w' => e = .returned (.int .i64 E) ∧ Held F w' R S' ∧ Same F w w' := by
  unfold layS at e
  have k1 := create_calls S s
  obtain ⟨E1, S1, e1⟩ : ∃ E1 S1, createS S s = (E1, S1) := ⟨_, _, rfl⟩
  rw [e1] at e k1
  simp only at e k1
  have C1 := hide (create_h s e1 h (by omega) hs)
  have HB := hide hb
  have HT := hide ht
  clear h hb ht
  by_cases n1 : E1 = 0
  · subst n1
    rw [if_neg (by simp)] at e
    have k2 := append_calls S1 s zs
    obtain ⟨E2, S2, e2⟩ : ∃ E2 S2, appendS S1 s zs = (E2, S2) := ⟨_, _, rfl⟩
    rw [e2] at e k2
    simp only at e k2
    go_enter Tryz.func71, Tryz.ntmps71
    go_wp2_with fail
    refine C1.out.mono ?_
    rintro e w1 ⟨rfl, h1, s1⟩
    have C2 := hide (append_h0 s ao len cap zs e2 h1 (by omega) hs (bs_same HB.out s1 HT.out) hl HT.out)
    have S1' := hide s1
    clear h1 s1 C1 HB HT
    by_cases n2 : E2 = 0
    · subst n2
      rw [if_neg (by simp)] at e
      have HE := hide e
      clear e
      go_wp2_with fail
      refine C2.out.mono ?_
      rintro e w2 ⟨rfl, h2, s2⟩
      have C3 := hide (sync_h s HE.out h2 (by omega) hs)
      have S2' := hide (S1'.out.trans s2)
      clear h2 s2 C2 S1'
      go_wp2_with fail
      refine C3.out.mono ?_
      rintro e w3 ⟨rfl, h3, s3⟩
      have H := hide (And.intro h3 (S2'.out.trans s3))
      clear h3 s3 C3 S2' HE
      go_wp2
      go_ret
      exact ⟨rfl, H.out.1, H.out.2⟩
    · rw [if_pos n2] at e
      injection e with ea eb
      subst ea eb
      have hne : ¬ ((E2 : Int) = 0) := by omega
      go_wp2_with fail
      refine C2.out.mono ?_
      rintro e w2 ⟨rfl, h2, s2⟩
      have H := hide (And.intro h2 (S1'.out.trans s2))
      clear h2 s2 C2 S1'
      go_wp2
      go_ret
      exact ⟨rfl, H.out.1, H.out.2⟩
  · rw [if_pos n1] at e
    injection e with ea eb
    subst ea eb
    have hne : ¬ ((E1 : Int) = 0) := by omega
    go_enter Tryz.func71, Tryz.ntmps71
    go_wp2_with fail
    refine C1.out.mono ?_
    rintro e w1 ⟨rfl, h1, s1⟩
    have H := hide (And.intro h1 s1)
    clear h1 s1 C1 HB HT
    go_wp2
    go_ret
    exact ⟨rfl, H.out.1, H.out.2⟩

end Go.Proofs.YtcahlmneancapaaGreatDoor.Clep

/- What slices.Equal of files, edit.Same, slices.Clone of files and edit.Whole do when called (walks over the translated program): for any Views. -/
namespace Go.Proofs.YtcahlmneancapaaGreatDoor.Clep
open Go.RowKit
set_option linter.unusedVariables false
set_option maxRecDepth 10000

theorem fclone_any (a : Option Addr) (n c : Nat) (l : List Fi) (w : World) (h : Fs w a n c l) (hn : n ≤ 100000) :
    Calls Tryz.prog 69 #[.slice a n c] w fun e w' => ∃ v, e = .returned v ∧ OwnF w' w.heap.size v l ∧ Below w.heap.size w w' := by
  cases a with
  | none =>
    obtain ⟨rfl, rfl⟩ := h.2.1.2 rfl
    have hl : l = [] := List.eq_nil_of_length_eq_zero h.1
    subst hl
    clear h
    have heq : ∀ (w : World) (a : Option Addr) (n c : Nat), (binOp .eql 28 (.slice a n c) (.slice none 0 0)).run Tryz.prog w = .ok (.bool a.isNone) w := fun w a n c => by
      have := run_equal_slice_nil (P := Tryz.prog) (w := w) 28 99 a n c Tryz.underlying28
      simp [binOp, this, Result.andThen]
    go_enter Tryz.func69, Tryz.ntmps69
    go_wp2
    go_ret
    exact ⟨_, rfl, ownF_nil _ _, Below.refl _ _⟩
  | some x =>
    have hl := h.1
    have H0 := hide (fun W (hW : Below w.heap.size w W) => h.below hW (Nat.le_refl _))
    have HB0 := hide ((Below.refl w.heap.size w).alloc (Nat.le_refl _) (Obj.cells #[] 99))
    have HE := hide (ownF_empty (w := w.alloc (Obj.cells #[] 99)) (fhpS w (Obj.cells #[] 99) _ rfl) (Nat.le_refl w.heap.size))
    clear h
    have heq : ∀ (w : World) (a : Option Addr) (n c : Nat), (binOp .eql 28 (.slice a n c) (.slice none 0 0)).run Tryz.prog w = .ok (.bool a.isNone) w := fun w a n c => by
      have := run_equal_slice_nil (P := Tryz.prog) (w := w) 28 99 a n c Tryz.underlying28
      simp [binOp, this, Result.andThen]
    go_enter Tryz.func69, Tryz.ntmps69
    go_wp2_with (first
      | (at_builtin; refine wpList_append_files rfl _ _ rfl w.heap.size _ [] rfl HE.out _ n c l rfl (H0.out _ HB0.out) (by simp; omega) HB0.out.size ?_)
      | fail)
    intro v w1 o1 g1 k1
    have HB1 := hide (HB0.out.grown g1 HB0.out.size k1)
    have HO := hide o1
    clear o1 g1 k1
    go_wp2
    go_ret
    exact ⟨_, rfl, HO.out, HB1.out⟩

end Go.Proofs.YtcahlmneancapaaGreatDoor.Clep

/- A Manifest over a Disk: where it lies; what own, View, Name, Count, Broken and breaks do when called (walks over the translated program). Conditions: one goroutine, numbers of files from 1 to 99. -/
namespace Go.Proofs.YtcahlmneancapaaGreatDoor.Clep
open Go.RowKit Go.Maps
set_option linter.unusedVariables false
set_option maxRecDepth 10000

/-- A Manifest's own block. -/
def manV (R n c : Nat) (a : Option Addr) (fc : Nat) (V : Vw) (br : Bool) : Array Value := #[.pointer (some ⟨R, 0, none⟩), .int .i64 n, .int .i64 c, .int .i64 V.lg, .slice a V.f.length fc, .int .u64 V.fl, .int .u64 V.ct, .int .u64 V.at9, .int .u64 V.ls, .int .u32 (if br then 1 else 0), .int .i32 0, .int .u32 0, .bool br]
/-- A Manifest in block M over the Disk at R: the file man.n, of c Edits, which make V; F: blocks that are not the Disk's. -/
structure Ma (F : Nat → Prop) (w : World) (M R n c : Nat) (V : Vw) (br : Bool) (S : St) : Prop where
  blk : ∃ a fc, Ek w M (manV R n c a fc V br) 92 ∧ Fs w a V.f.length fc V.f ∧ fc ≤ 9223372036854775807 ∧ ∀ x, a = some x → F x.block ∧ x.block ≠ M
  held : Held F w R S
  own : F M
theorem Ma.lt {F : Nat → Prop} {w : World} {M R n c : Nat} {V : Vw} {br : Bool} {S : St} (h : Ma F w M R n c V br S) : M < w.heap.size := h.held.lt h.own
theorem Ma.below {F : Nat → Prop} {w w' : World} {M R n c : Nat} {V : Vw} {br : Bool} {S : St} (h : Ma F w M R n c V br S) (hb : Below w.heap.size w w') : Ma F w' M R n c V br S := by
  obtain ⟨a, fc, h1, h2, h3, h4⟩ := h.blk
  exact ⟨⟨a, fc, h1.keep hb, h2.below hb (Nat.le_refl _), h3, h4⟩, (h.held.same hb).1, h.own⟩
/-- A call of the Disk. -/
theorem Ma.disk {F : Nat → Prop} {w w' : World} {M R n c : Nat} {V : Vw} {br : Bool} {S S' : St} (h : Ma F w M R n c V br S) (hh : Held F w' R S') (hs : Same F w w') : Ma F w' M R n c V br S' := by
  obtain ⟨a, fc, h1, h2, h3, h4⟩ := h.blk
  exact ⟨⟨a, fc, h1.same hs h.own, h2.same hs (fun x hx => (h4 x hx).1), h3, h4⟩, hh, h.own⟩
theorem Ma.wide {F : Nat → Prop} {w w' : World} {M R n c : Nat} {V : Vw} {br : Bool} {S : St} (h : Ma F w M R n c V br S) (hb : Below w.heap.size w w') : Ma (fun i => F i ∨ (w.heap.size ≤ i ∧ i < w'.heap.size)) w' M R n c V br S := by
  obtain ⟨a, fc, h1, h2, h3, h4⟩ := h.blk
  exact ⟨⟨a, fc, h1.keep hb, h2.below hb (Nat.le_refl _), h3, fun x hx => ⟨.inl (h4 x hx).1, (h4 x hx).2⟩⟩, h.held.wide hb, .inl h.own⟩
theorem Ma.more {F : Nat → Prop} {w : World} {M R n c : Nat} {V : Vw} {br : Bool} {S : St} (h : Ma F w M R n c V br S) (o : Obj) : Ma (fun i => F i ∨ i = w.heap.size) (w.alloc o) M R n c V br S := by
  have hb := (Below.refl _ w).alloc (Nat.le_refl _) o
  obtain ⟨a, fc, h1, h2, h3, h4⟩ := h.blk
  exact ⟨⟨a, fc, h1.keep hb, h2.below hb (Nat.le_refl _), h3, fun x hx => ⟨.inl (h4 x hx).1, (h4 x hx).2⟩⟩, h.held.more o, .inl h.own⟩
theorem mname_any {F : Nat → Prop} {w : World} {M R n c : Nat} {V : Vw} {br : Bool} {S : St} (h : Ma F w M R n c V br S) (h1 : 1 ≤ n) (h2 : n < 100) :
    Calls Tryz.prog 19 #[.pointer (some ⟨M, 0, none⟩)] w fun e w' => e = .returned (.string (mnm n)) ∧ w' = w := by
  obtain ⟨a, fc, hb, _⟩ := h.blk
  have c1 : w.cell? ⟨M, 1, none⟩ = some (.int .i64 n) := hb.cell rfl
  have C := hide (name_man n h1 h2 w)
  unfold kMan at C
  clear h hb
  go_enter Tryz.func19, Tryz.ntmps19
  go_wp2_with fail
  refine C.out.mono ?_
  rintro e w1 ⟨rfl, rfl⟩
  go_wp2
  go_ret
  exact ⟨rfl, rfl⟩
theorem mcount_any {F : Nat → Prop} {w : World} {M R n c : Nat} {V : Vw} {br : Bool} {S : St} (h : Ma F w M R n c V br S) :
    Calls Tryz.prog 13 #[.pointer (some ⟨M, 0, none⟩)] w fun e w' => e = .returned (.int .i64 c) ∧ w' = w := by
  obtain ⟨a, fc, hb, _⟩ := h.blk
  have c1 : w.cell? ⟨M, 2, none⟩ = some (.int .i64 c) := hb.cell rfl
  clear h hb
  go_enter Tryz.func13, Tryz.ntmps13
  go_wp2
  go_ret
  exact ⟨rfl, rfl⟩
theorem mbroken_any {F : Nat → Prop} {w : World} {M R n c : Nat} {V : Vw} {br : Bool} {S : St} (h : Ma F w M R n c V br S) :
    Calls Tryz.prog 30 #[.pointer (some ⟨M, 0, none⟩)] w fun e w' => e = .returned (.bool br) ∧ w' = w := by
  obtain ⟨a, fc, hb, _⟩ := h.blk
  have c1 : w.cell? ⟨M, 12, none⟩ = some (.bool br) := hb.cell rfl
  clear h hb
  go_enter Tryz.func30, Tryz.ntmps30
  go_wp2
  go_ret
  exact ⟨rfl, rfl⟩

end Go.Proofs.YtcahlmneancapaaGreatDoor.Clep

/- A region that draws its order, by an invariant: each operation is looked at once, whenever it comes up; what each slot holds once its operation has come up. No conditions. -/
namespace Go.Proofs.YtcahlmneancapaaGreatDoor.Clep
open Go.RowKit
set_option linter.unusedVariables false
set_option maxRecDepth 10000

/-- Operation i waits for operation j. -/
def waits (ops : Array Oper) (i j : Nat) : Bool := match ops[i]? with
  | none => false
  | some o => o.after.any (fun e => Region.binds .any e && e.on == j)
/-- Each operation waits for earlier ones alone. -/
def lined (ops : Array Oper) : Bool := (List.range ops.size).all fun i => match ops[i]? with
  | none => true
  | some o => o.after.all (fun e => !Region.binds .any e || decide (e.on < i))
theorem waits_all {ops : Array Oper} {i n : Nat} (h : (List.range n).all (waits ops i) = true) : ∀ j, j < n → waits ops i j = true := fun j hj => List.all_eq_true.1 h j (List.mem_range.2 hj)
def upd (L : Nat → Bool) (i : Nat) : Nat → Bool := fun k => if k = i then true else L k
theorem upd_same (L : Nat → Bool) (i : Nat) : upd L i i = true := by unfold upd; rw [if_pos rfl]
theorem upd_old {L : Nat → Bool} {i j : Nat} (h : upd L i j = true) (hne : j ≠ i) : L j = true := by unfold upd at h; rwa [if_neg hne] at h
theorem upd_more {L : Nat → Bool} {i j : Nat} (h : L j = true) : upd L i j = true := by
  unfold upd
  split
  · rfl
  · exact h
theorem getD_lt (l : Array Bool) (i : Nat) (h : i < l.size) (b c : Bool) : l.getD i b = l.getD i c := by
  simp [Array.getD, h]
def left (l : Array Bool) : Nat := l.toList.countP (fun b => !b)
theorem left_list : ∀ (ls : List Bool) (i : Nat), ls[i]? = some false → (ls.set i true).countP (fun b => !b) + 1 = ls.countP (fun b => !b)
  | [], i, h => by simp at h
  | b :: r, 0, h => by
    simp at h
    subst h
    simp
  | b :: r, i + 1, h => by
    simp at h
    have := left_list r i h
    simp only [List.set_cons_succ, List.countP_cons]
    omega
theorem left_set {l : Array Bool} {i : Nat} (h : i < l.size) (hf : l.getD i true = false) : left (l.setIfInBounds i true) + 1 = left l := by
  unfold left
  rw [Array.toList_setIfInBounds]
  refine left_list _ _ ?_
  rw [Array.getElem?_toList, Array.getElem?_eq_getElem h]
  simpa [Array.getD, h] using hf
theorem ready_iff {ops : Array Oper} {l : Array Bool} {i : Nat} (h : i ∈ Region.ready .any ops l) : i < ops.size ∧ l.getD i true = false ∧ ∀ j, waits ops i j = true → l.getD j false = true := by
  unfold Region.ready at h
  rw [List.mem_filter, List.mem_range] at h
  obtain ⟨hi, h⟩ := h
  rw [Bool.and_eq_true] at h
  obtain ⟨h1, h2⟩ := h
  refine ⟨hi, by simpa using h1, fun j hj => ?_⟩
  unfold waits at hj
  cases ho : ops[i]? with
  | none => rw [ho] at hj; cases hj
  | some o =>
    rw [ho] at hj h2
    simp only [Option.map_some, Option.getD_some, Array.all_eq_true', Array.any_eq_true', Bool.and_eq_true, beq_iff_eq] at hj h2
    obtain ⟨e, he, hb, hon⟩ := hj
    have := h2 e he
    rw [hb, hon] at this
    simpa using this
theorem ready_none {ops : Array Oper} {l : Array Bool} (hl : lined ops = true) (hs : l.size = ops.size) (h : Region.ready .any ops l = []) : ∀ i, i < ops.size → l.getD i true = true := by
  intro i
  induction i using Nat.strongRecOn with
  | ind i ih =>
    intro hi
    cases hc : l.getD i true with
    | true => rfl
    | false =>
      exfalso
      have hmem : i ∈ Region.ready .any ops l := by
        unfold Region.ready
        rw [List.mem_filter, List.mem_range]
        refine ⟨hi, ?_⟩
        rw [hc]
        have ho : ops[i]? = some ops[i] := Array.getElem?_eq_getElem hi
        rw [ho]
        simp only [Bool.not_false, Bool.true_and, Option.map_some, Option.getD_some, Array.all_eq_true', Bool.or_eq_true]
        intro e he
        unfold lined at hl
        have := List.all_eq_true.1 hl i (List.mem_range.2 hi)
        rw [ho] at this
        simp only [Array.all_eq_true', Bool.or_eq_true, decide_eq_true_eq] at this
        rcases this e he with hlt | hlt
        · exact .inl hlt
        right
        rw [getD_lt l e.on (by omega) false true]
        exact ih e.on hlt (by omega)
      rw [h] at hmem
      cases hmem

theorem region_inv {P : Program} {id : Nat} {ops : Array Oper} {Q : Exit → Act → World → Prop} {a : Act} {w : World} (I : (Nat → Bool) → Act → World → Prop) (hm : P.follows .mixedOrders = true) (hl : lined ops = true)
    (h0 : I (fun _ => false) a w.drew)
    (step : ∀ (L : Nat → Bool) (a : Act) (w : World) (i : Nat), I L a w → i < ops.size → L i = false → (∀ j, waits ops i j = true → L j = true) → wpOp P ops Q i (fun a' w' => I (upd L i) a' w') a w)
    (fin : ∀ (L : Nat → Bool) (a : Act) (w : World), I L a w → (∀ i, i < ops.size → L i = true) → Q .normal a w) : (Code.region id ops true).wp P Q a w := by
  have key : ∀ (fuel : Nat) (l : Array Bool) (L : Nat → Bool) (a : Act) (w : World), l.size = ops.size → (∀ i, l.getD i false = L i) → left l ≤ fuel → I L a w → wpAnyH P .any ops Q (fun _ => True) fuel l a w := by
    intro fuel
    induction fuel with
    | zero =>
      intro l L a w hs hL hc hI
      have hall : ∀ i, i < ops.size → l.getD i true = true := fun i hi => by
        cases hf : l.getD i true with
        | true => rfl
        | false => have := left_set (by omega) hf; omega
      refine ⟨?_, fin L a w hI (fun i hi => by rw [← hL, getD_lt l i (by omega) false true]; exact hall i hi)⟩
      cases hr : Region.ready .any ops l with
      | nil => rfl
      | cons i r =>
        have := ready_iff (ops := ops) (l := l) (i := i) (by rw [hr]; simp)
        rw [hall i this.1] at this
        cases this.2.1
    | succ fuel ih =>
      intro l L a w hs hL hc hI
      refine ⟨fun hr => fin L a w hI (fun i hi => by rw [← hL, getD_lt l i (by omega) false true]; exact ready_none hl hs hr i hi), fun i hi => ?_⟩
      obtain ⟨h1, h2, h3⟩ := ready_iff hi
      have h4 := left_set (by omega) h2
      refine wpOp_mono (fun a' w' hI' => ⟨trivial, ih _ (upd L i) a' w' (by simp; omega) (fun k => ?_) (by omega) hI'⟩) (step L a w i hI h1 (by rw [← hL, getD_lt l i (by omega) false true]; exact h2) (fun j hj => by rw [← hL]; exact h3 j hj))
      unfold upd
      by_cases hk : k = i
      · subst hk
        rw [if_pos rfl]
        simp [Array.getD, show k < l.size by omega]
      · rw [if_neg hk, ← hL k]
        have hik : i ≠ k := fun e => hk e.symm
        rw [Array.getD_eq_getD_getElem?, Array.getD_eq_getD_getElem?, Array.getElem?_setIfInBounds, if_neg hik]
  exact wp_region_held hm (key _ _ (fun _ => false) a w.drew (by simp) (fun i => by simp [Array.getD]) (by unfold left; exact Nat.le_trans (List.countP_le_length) (by simp)) h0)

/-- The slot of operation i. -/
def dstOf (ops : Array Oper) (i : Nat) : Option Nat := (ops[i]?).bind (·.dst)
/-- What the frame holds between the operations: each slot whose operation has come up what T says, the others as they were. -/
structure SI (ops : Array Oper) (T0 : Array Value) (D : List Deferred) (Th : (Nat → Bool) → Nat → Value → World → Prop) (G : (Nat → Bool) → World → Prop) (L : Nat → Bool) (a : Act) (w : World) : Prop where
  df : a.defers = D
  sz : a.tmps.size = T0.size
  old : ∀ d, (∀ i, i < ops.size → dstOf ops i ≠ some d) → a.tmps[d]? = T0[d]?
  new : ∀ i d, i < ops.size → L i = true → dstOf ops i = some d → ∃ v, a.tmps[d]? = some v ∧ Th L i v w
  g : G L w
/-- No two operations share a slot; all slots are there. -/
def apartB (ops : Array Oper) (n : Nat) : Bool := (List.range ops.size).all fun i => match dstOf ops i with
  | none => true
  | some d => decide (d < n) && (List.range ops.size).all fun j => decide (j = i) || decide (dstOf ops j ≠ some d)
theorem SI.val {ops : Array Oper} {T0 : Array Value} {D : List Deferred} {Th : (Nat → Bool) → Nat → Value → World → Prop} {G : (Nat → Bool) → World → Prop} {L : Nat → Bool} {a : Act} {w : World} (h : SI ops T0 D Th G L a w) (i d : Nat) (hi : i < ops.size) (hL : L i = true) (hd : dstOf ops i = some d) : ∃ v, a.tmps[d]? = some v ∧ Th L i v w := h.new i d hi hL hd
theorem SI.kept {ops : Array Oper} {T0 : Array Value} {D : List Deferred} {Th : (Nat → Bool) → Nat → Value → World → Prop} {G : (Nat → Bool) → World → Prop} {L : Nat → Bool} {a : Act} {w : World} (h : SI ops T0 D Th G L a w) (d : Nat) (v : Value) (hd : ∀ i, i < ops.size → dstOf ops i ≠ some d) (hv : T0[d]? = some v) : a.tmps[d]? = some v := (h.old d hd).trans hv
/-- One operation comes up, and fills its slot. -/
theorem SI.put {ops : Array Oper} {T0 : Array Value} {D : List Deferred} {Th : (Nat → Bool) → Nat → Value → World → Prop} {G : (Nat → Bool) → World → Prop} {L : Nat → Bool} {a : Act} {w : World} (h : SI ops T0 D Th G L a w) (hap : apartB ops T0.size = true) {i d : Nat} {v : Value} {w' : World} (hi : i < ops.size) (hd : dstOf ops i = some d) (hv : Th (upd L i) i v w')
    (hk : ∀ j u, j ≠ i → L j = true → Th L j u w → Th (upd L i) j u w') (hG : G (upd L i) w') : SI ops T0 D Th G (upd L i) (a.put (some d) v) w' := by
  have hap' := List.all_eq_true.1 hap i (List.mem_range.2 hi)
  rw [hd] at hap'
  simp only [Bool.and_eq_true, decide_eq_true_eq] at hap'
  obtain ⟨hdn, hap2⟩ := hap'
  refine ⟨h.df, by show (a.tmps.setIfInBounds d v).size = _; simp [h.sz], fun e he => ?_, fun j e hj hL hje => ?_, hG⟩
  · have hne : d ≠ e := fun x => he i hi (by rw [hd, x])
    show (a.tmps.setIfInBounds d v)[e]? = _
    rw [Array.getElem?_setIfInBounds, if_neg hne]
    exact h.old e he
  · by_cases hji : j = i
    · subst hji
      rw [hd] at hje
      cases hje
      refine ⟨v, ?_, hv⟩
      show (a.tmps.setIfInBounds d v)[d]? = _
      rw [Array.getElem?_setIfInBounds, if_pos rfl, if_pos (by rw [h.sz]; exact hdn)]
    · have hde : d ≠ e := fun x => by
        have := List.all_eq_true.1 hap2 j (List.mem_range.2 hj)
        simp only [Bool.or_eq_true, decide_eq_true_eq] at this
        rcases this with y | y
        · exact hji y
        · exact y (by rw [hje, x])
      obtain ⟨u, hu, ht⟩ := h.new j e hj (upd_old hL hji) hje
      refine ⟨u, ?_, hk j u hji (upd_old hL hji) ht⟩
      show (a.tmps.setIfInBounds d v)[e]? = _
      rw [Array.getElem?_setIfInBounds, if_neg hde]
      exact hu
/-- One operation comes up that fills no slot. -/
theorem SI.none {ops : Array Oper} {T0 : Array Value} {D : List Deferred} {Th : (Nat → Bool) → Nat → Value → World → Prop} {G : (Nat → Bool) → World → Prop} {L : Nat → Bool} {a : Act} {w : World} (h : SI ops T0 D Th G L a w) {i : Nat} {w' : World} (hi : i < ops.size) (hd : dstOf ops i = Option.none)
    (hk : ∀ j e u, j ≠ i → L j = true → dstOf ops j = some e → a.tmps[e]? = some u → Th L j u w → Th (upd L i) j u w') (hG : G (upd L i) w') (v : Value) : SI ops T0 D Th G (upd L i) (a.put Option.none v) w' := by
  refine ⟨h.df, h.sz, h.old, fun j e hj hL hje => ?_, hG⟩
  have hji : j ≠ i := fun x => by rw [x, hd] at hje; cases hje
  obtain ⟨u, hu, ht⟩ := h.new j e hj (upd_old hL hji) hje
  exact ⟨u, hu, hk j e u hji (upd_old hL hji) hje hu ht⟩
theorem arr_lit (T : Array Value) (l : List Value) (hs : T.size = l.length) (h : ∀ d, d < l.length → T[d]? = l[d]?) : T = l.toArray := by
  apply Array.ext_getElem?
  intro d
  by_cases hd : d < l.length
  · rw [h d hd]; simp
  · rw [Array.getElem?_eq_none (by omega), Array.getElem?_eq_none (by simp; omega)]
theorem act_lit {a : Act} {l : List Value} {D : List Deferred} (hD : a.defers = D) (hs : a.tmps.size = l.length) (h : ∀ d, d < l.length → a.tmps[d]? = l[d]?) : a = ⟨l.toArray, D⟩ := by
  obtain ⟨t, d⟩ := a
  simp only at hD hs h
  rw [hD, arr_lit t l hs h]

theorem region_si {P : Program} {id : Nat} {ops : Array Oper} {Q : Exit → Act → World → Prop} {T0 : Array Value} {D : List Deferred} {w : World} (Th : (Nat → Bool) → Nat → Value → World → Prop) (G : (Nat → Bool) → World → Prop) (hm : P.follows .mixedOrders = true) (hl : lined ops = true) (hap : apartB ops T0.size = true)
    (h0 : G (fun _ => false) w.drew)
    (step : ∀ (L : Nat → Bool) (a : Act) (W : World) (i : Nat), SI ops T0 D Th G L a W → i < ops.size → L i = false → (∀ j, waits ops i j = true → L j = true) → wpOp P ops Q i (fun a' w' => SI ops T0 D Th G (upd L i) a' w') a W)
    (fin : ∀ (L : Nat → Bool) (a : Act) (W : World), SI ops T0 D Th G L a W → (∀ i, i < ops.size → L i = true) → Q .normal a W) : (Code.region id ops true).wp P Q ⟨T0, D⟩ w :=
  region_inv (SI ops T0 D Th G) hm hl ⟨rfl, rfl, fun _ _ => rfl, fun i d _ h _ => (by cases h), h0⟩ step fin
/-- An operation that yields a value and leaves the memory alone. -/
theorem SI.pure {P : Program} {ops : Array Oper} {Q : Exit → Act → World → Prop} {T0 : Array Value} {D : List Deferred} {Th : (Nat → Bool) → Nat → Value → World → Prop} {G : (Nat → Bool) → World → Prop} {L : Nat → Bool} {a : Act} {W : World} (h : SI ops T0 D Th G L a W) (hap : apartB ops T0.size = true) {i d : Nat} {o : Oper} {v : Value} (hi : i < ops.size) (ho : ops[i]? = some o) (hd : o.dst = some d) (hg : o.guard = .none)
    (hv : Th (upd L i) i v W) (hk : ∀ j u, j ≠ i → L j = true → Th L j u W → Th (upd L i) j u W) (hG : G (upd L i) W) (hrun : ∀ K : Act → World → Prop, K (a.put (some d) v) W → Oper.wp P o a W K Q) : wpOp P ops Q i (fun a' w' => SI ops T0 D Th G (upd L i) a' w') a W := by
  have hd' : dstOf ops i = some d := by unfold dstOf; rw [ho]; exact hd
  unfold wpOp
  rw [ho]
  have hw : Region.wanted o (yielded ops a.tmps) = true := by simp [Region.wanted, hg]
  simp only [hw, if_true]
  exact .inl (hrun _ (h.put hap hi hd' hv hk hG))
/-- An operation that yields a value and makes memory, or turns a row. -/
theorem SI.more {P : Program} {ops : Array Oper} {Q : Exit → Act → World → Prop} {T0 : Array Value} {D : List Deferred} {Th : (Nat → Bool) → Nat → Value → World → Prop} {G : (Nat → Bool) → World → Prop} {L : Nat → Bool} {a : Act} {W : World} (h : SI ops T0 D Th G L a W) (hap : apartB ops T0.size = true) {i d : Nat} {o : Oper} (hi : i < ops.size) (ho : ops[i]? = some o) (hd : o.dst = some d) (hg : o.guard = .none)
    (hrun : ∀ K : Act → World → Prop, (∀ v W', Th (upd L i) i v W' → (∀ j u, j ≠ i → L j = true → Th L j u W → Th (upd L i) j u W') → G (upd L i) W' → K (a.put (some d) v) W') → Oper.wp P o a W K Q) : wpOp P ops Q i (fun a' w' => SI ops T0 D Th G (upd L i) a' w') a W := by
  have hd' : dstOf ops i = some d := by unfold dstOf; rw [ho]; exact hd
  unfold wpOp
  rw [ho]
  have hw : Region.wanted o (yielded ops a.tmps) = true := by simp [Region.wanted, hg]
  simp only [hw, if_true]
  exact .inl (hrun _ (fun v W' hv hk hG => h.put hap hi hd' hv hk hG))
theorem SI.store {P : Program} {ops : Array Oper} {Q : Exit → Act → World → Prop} {T0 : Array Value} {D : List Deferred} {Th : (Nat → Bool) → Nat → Value → World → Prop} {G : (Nat → Bool) → World → Prop} {L : Nat → Bool} {a : Act} {W : World} (h : SI ops T0 D Th G L a W) {i : Nat} {o : Oper} (hi : i < ops.size) (ho : ops[i]? = some o) (hd : o.dst = .none) (hg : o.guard = .none)
    (hrun : ∀ K : Act → World → Prop, (∀ W', (∀ j e u, j ≠ i → L j = true → dstOf ops j = some e → a.tmps[e]? = some u → Th L j u W → Th (upd L i) j u W') → G (upd L i) W' → K a W') → Oper.wp P o a W K Q) : wpOp P ops Q i (fun a' w' => SI ops T0 D Th G (upd L i) a' w') a W := by
  have hd' : dstOf ops i = Option.none := by unfold dstOf; rw [ho]; exact hd
  unfold wpOp
  rw [ho]
  have hw : Region.wanted o (yielded ops a.tmps) = true := by simp [Region.wanted, hg]
  simp only [hw, if_true]
  exact .inl (hrun _ (fun W' hk hG => h.none hi hd' hk hG undef))
/-- The slots that the operations fill are among these. -/
def covers (ops : Array Oper) (ds : List Nat) : Bool := (List.range ops.size).all fun i => match dstOf ops i with
  | none => true
  | some d => ds.contains d
theorem frame_sets : ∀ (us : List (Nat × Value)) (T T0 : Array Value), T.size = T0.size → (∀ x ∈ us, T[x.1]? = some x.2) → (∀ d, (us.map Prod.fst).contains d = false → T[d]? = T0[d]?) → T = us.foldl (fun t x => t.setIfInBounds x.1 x.2) T0
  | [], T, T0, hs, hu, ho => by
    apply Array.ext_getElem?
    intro d
    exact ho d rfl
  | x :: r, T, T0, hs, hu, ho => by
    refine frame_sets r T (T0.setIfInBounds x.1 x.2) (by simp [hs]) (fun y hy => hu y (List.mem_cons_of_mem _ hy)) (fun d hd => ?_)
    rw [Array.getElem?_setIfInBounds]
    by_cases e : x.1 = d
    · subst e
      have h1 := hu x (List.mem_cons_self ..)
      have h2 : x.1 < T.size := (Array.getElem?_eq_some_iff.1 h1).1
      rw [if_pos rfl, if_pos (by omega)]
      exact h1
    · rw [if_neg e]
      refine ho d ?_
      rw [List.map_cons, List.contains_cons, hd, Bool.or_false]
      simpa using fun h => e h.symm
theorem si_frame {ops : Array Oper} {T0 : Array Value} {D : List Deferred} {Th : (Nat → Bool) → Nat → Value → World → Prop} {G : (Nat → Bool) → World → Prop} {L : Nat → Bool} {a : Act} {w : World} (h : SI ops T0 D Th G L a w) (us : List (Nat × Value)) (hc : covers ops (us.map Prod.fst) = true) (hu : ∀ x ∈ us, a.tmps[x.1]? = some x.2) : a = ⟨us.foldl (fun t x => t.setIfInBounds x.1 x.2) T0, D⟩ := by
  have := frame_sets us a.tmps T0 h.sz hu (fun d hd => h.old d (fun i hi e => by
    have h1 := List.all_eq_true.1 hc i (List.mem_range.2 hi)
    rw [e] at h1
    simp only at h1
    rw [hd] at h1
    cases h1))
  obtain ⟨t, d⟩ := a
  simp only at this
  have hd := h.df
  simp only at hd
  rw [this, hd]

end Go.Proofs.YtcahlmneancapaaGreatDoor.Clep

/- The region of edit.Apply that works its View out: what each slot holds once its operation has come up. No conditions. -/
namespace Go.Proofs.YtcahlmneancapaaGreatDoor.Clep
open Go.RowKit
set_option linter.unusedVariables false
set_option maxRecDepth 10000

/-- What each slot of the region holds. -/
def ATh (B H : Nat) (aa : Option Addr) (an ac : Nat) (a6 : Option Addr) (c6 N : Nat) (m a : List Fi) (lg fl ct at9 ls lg' fl' ct' at9' ls' : Int) : (Nat → Bool) → Nat → Value → World → Prop := fun L i v W => match i with
  | 0 => v = .pointer (some ⟨B + 1, 2, none⟩)
  | 1 => v = .int .i64 lg'
  | 2 => v = .pointer (some ⟨B, 0, none⟩)
  | 3 => v = .int .i64 lg
  | 4 => ∃ q, v = .slice (some ⟨q, 0, none⟩) 2 2 ∧ (L 36 = false → H ≤ q ∧ q < W.heap.size ∧ Iz W q [lg', lg])
  | 5 => v = .int .i64 (put0 lg lg')
  | 6 => v = .slice a6 m.length c6
  | 7 => v = .pointer (some ⟨B + 1, 1, none⟩)
  | 8 => v = .slice aa an ac
  | 9 => ∃ a4 c4, v = .slice a4 N c4 ∧ (L 36 = false → OwnF W (B + 3) (.slice a4 N c4) (m ++ a))
  | 10 => v = .pointer (some ⟨B + 1, 3, none⟩)
  | 11 => v = .int .u64 fl'
  | 12 => v = .pointer (some ⟨B, 2, none⟩)
  | 13 => v = .int .u64 fl
  | 14 => ∃ q, v = .slice (some ⟨q, 0, none⟩) 2 2 ∧ (L 36 = false → H ≤ q ∧ q < W.heap.size ∧ Uz W q [fl', fl])
  | 15 => v = .int .u64 (put0 fl fl')
  | 16 => v = .pointer (some ⟨B + 1, 4, none⟩)
  | 17 => v = .int .u64 ct'
  | 18 => v = .pointer (some ⟨B, 3, none⟩)
  | 19 => v = .int .u64 ct
  | 20 => ∃ q, v = .slice (some ⟨q, 0, none⟩) 2 2 ∧ (L 36 = false → H ≤ q ∧ q < W.heap.size ∧ Uz W q [ct', ct])
  | 21 => v = .int .u64 (put0 ct ct')
  | 22 => v = .pointer (some ⟨B + 1, 5, none⟩)
  | 23 => v = .int .u64 at9'
  | 24 => v = .pointer (some ⟨B, 4, none⟩)
  | 25 => v = .int .u64 at9
  | 26 => ∃ q, v = .slice (some ⟨q, 0, none⟩) 2 2 ∧ (L 36 = false → H ≤ q ∧ q < W.heap.size ∧ Uz W q [at9', at9])
  | 27 => v = .int .u64 (put0 at9 at9')
  | 28 => v = .pointer (some ⟨B + 1, 6, none⟩)
  | 29 => v = .int .u64 ls'
  | 30 => v = .pointer (some ⟨B, 5, none⟩)
  | 31 => v = .int .u64 ls
  | 32 => ∃ q, v = .slice (some ⟨q, 0, none⟩) 2 2 ∧ (L 36 = false → H ≤ q ∧ q < W.heap.size ∧ Uz W q [ls', ls])
  | 33 => v = .int .u64 (put0 ls ls')
  | 34 => ∃ a4 c4, v = .agg #[.int .i64 (put0 lg lg'), .slice a4 N c4, .int .u64 (put0 fl fl'), .int .u64 (put0 ct ct'), .int .u64 (put0 at9 at9'), .int .u64 (put0 ls ls')] ∧ (L 36 = false → OwnF W (B + 3) (.slice a4 N c4) (m ++ a))
  | 35 => ∃ p, v = .pointer (some ⟨p, 0, none⟩) ∧ H ≤ p ∧ (L 36 = false → Ek W p #[.int .i64 0, .slice none 0 0, .int .u64 0, .int .u64 0, .int .u64 0, .int .u64 0] 31) ∧ (L 36 = true → ∃ a4 c4, Ek W p #[.int .i64 (put0 lg lg'), .slice a4 N c4, .int .u64 (put0 fl fl'), .int .u64 (put0 ct ct'), .int .u64 (put0 at9 at9'), .int .u64 (put0 ls ls')] 31 ∧ OwnF W (B + 3) (.slice a4 N c4) (m ++ a))
  | _ => True
theorem iz_keep {W W' : World} {q : Nat} {ns : List Int} (hc : ∀ o v, W.cell? ⟨q, o, none⟩ = some v → W'.cell? ⟨q, o, none⟩ = some v) (h : Iz W q ns) : Iz W' q ns := fun i z hz => hc _ _ (h i z hz)
theorem uz_keep {W W' : World} {q : Nat} {ns : List Int} (hc : ∀ o v, W.cell? ⟨q, o, none⟩ = some v → W'.cell? ⟨q, o, none⟩ = some v) (h : Uz W q ns) : Uz W' q ns := fun i z hz => hc _ _ (h i z hz)
theorem gb_cells {W W' : World} {row : Option Nat} {q : Nat} (hg : W.grownBy W' row) (hq : q < W.heap.size) (hne : some q ≠ row) : ∀ o v, W.cell? ⟨q, o, none⟩ = some v → W'.cell? ⟨q, o, none⟩ = some v := fun o v h => (World.cell?_of_block (w := W) (a := ⟨q, o, none⟩) (hg.block q hq hne)).trans h
/-- Memory is made: all stays. -/
theorem ath_keep {B H : Nat} {aa : Option Addr} {an ac : Nat} {a6 : Option Addr} {c6 N : Nat} {m a : List Fi} {lg fl ct at9 ls lg' fl' ct' at9' ls' : Int} {L L' : Nat → Bool} {W W' : World} (hL : L' 36 = L 36) (hb : Below W.heap.size W W') : ∀ j u, ATh B H aa an ac a6 c6 N m a lg fl ct at9 ls lg' fl' ct' at9' ls' L j u W → ATh B H aa an ac a6 c6 N m a lg fl ct at9 ls lg' fl' ct' at9' ls' L' j u W' := by
  intro j u h
  match j, h with
  | 0, h => exact h
  | 1, h => exact h
  | 2, h => exact h
  | 3, h => exact h
  | 4, ⟨q, h1, h2⟩ => exact ⟨q, h1, fun e => ⟨(h2 (hL ▸ e)).1, Nat.lt_of_lt_of_le (h2 (hL ▸ e)).2.1 hb.size, iz_keep (gb_cells (fgb_below hb none) (h2 (hL ▸ e)).2.1 (by simp)) (h2 (hL ▸ e)).2.2⟩⟩
  | 5, h => exact h
  | 6, h => exact h
  | 7, h => exact h
  | 8, h => exact h
  | 9, ⟨a4, c4, h1, h2⟩ => exact ⟨a4, c4, h1, fun e => ownF_keep (h2 (hL ▸ e)) hb⟩
  | 10, h => exact h
  | 11, h => exact h
  | 12, h => exact h
  | 13, h => exact h
  | 14, ⟨q, h1, h2⟩ => exact ⟨q, h1, fun e => ⟨(h2 (hL ▸ e)).1, Nat.lt_of_lt_of_le (h2 (hL ▸ e)).2.1 hb.size, uz_keep (gb_cells (fgb_below hb none) (h2 (hL ▸ e)).2.1 (by simp)) (h2 (hL ▸ e)).2.2⟩⟩
  | 15, h => exact h
  | 16, h => exact h
  | 17, h => exact h
  | 18, h => exact h
  | 19, h => exact h
  | 20, ⟨q, h1, h2⟩ => exact ⟨q, h1, fun e => ⟨(h2 (hL ▸ e)).1, Nat.lt_of_lt_of_le (h2 (hL ▸ e)).2.1 hb.size, uz_keep (gb_cells (fgb_below hb none) (h2 (hL ▸ e)).2.1 (by simp)) (h2 (hL ▸ e)).2.2⟩⟩
  | 21, h => exact h
  | 22, h => exact h
  | 23, h => exact h
  | 24, h => exact h
  | 25, h => exact h
  | 26, ⟨q, h1, h2⟩ => exact ⟨q, h1, fun e => ⟨(h2 (hL ▸ e)).1, Nat.lt_of_lt_of_le (h2 (hL ▸ e)).2.1 hb.size, uz_keep (gb_cells (fgb_below hb none) (h2 (hL ▸ e)).2.1 (by simp)) (h2 (hL ▸ e)).2.2⟩⟩
  | 27, h => exact h
  | 28, h => exact h
  | 29, h => exact h
  | 30, h => exact h
  | 31, h => exact h
  | 32, ⟨q, h1, h2⟩ => exact ⟨q, h1, fun e => ⟨(h2 (hL ▸ e)).1, Nat.lt_of_lt_of_le (h2 (hL ▸ e)).2.1 hb.size, uz_keep (gb_cells (fgb_below hb none) (h2 (hL ▸ e)).2.1 (by simp)) (h2 (hL ▸ e)).2.2⟩⟩
  | 33, h => exact h
  | 34, ⟨a4, c4, h1, h2⟩ => exact ⟨a4, c4, h1, fun e => ownF_keep (h2 (hL ▸ e)) hb⟩
  | 35, ⟨p, h1, h2, h3, h4⟩ => exact ⟨p, h1, h2, fun e => (h3 (hL ▸ e)).below hb (h3 (hL ▸ e)).lt, fun e => by
      obtain ⟨a4, c4, h5, h6⟩ := h4 (hL ▸ e)
      exact ⟨a4, c4, h5.below hb h5.lt, ownF_keep h6 hb⟩⟩
  | k + 36, h => trivial
/-- The row grows: all else stays. -/
theorem ath_row {B H : Nat} {aa : Option Addr} {an ac : Nat} {a6 : Option Addr} {c6 N : Nat} {m a : List Fi} {lg fl ct at9 ls lg' fl' ct' at9' ls' : Int} {L L' : Nat → Bool} {W W' : World} {row : Option Nat} (hL : L' 36 = L 36) (h36 : L 36 = false) (hg : W.grownBy W' row) (hr : ∀ k, row = some k → k < H) : ∀ j u, (j ≠ 9 ∧ j ≠ 34) → ATh B H aa an ac a6 c6 N m a lg fl ct at9 ls lg' fl' ct' at9' ls' L j u W → ATh B H aa an ac a6 c6 N m a lg fl ct at9 ls lg' fl' ct' at9' ls' L' j u W' := by
  intro j u hj h
  match j, h with
  | 0, h => exact h
  | 1, h => exact h
  | 2, h => exact h
  | 3, h => exact h
  | 4, ⟨q, h1, h2⟩ => exact ⟨q, h1, fun e => ⟨(h2 (hL ▸ e)).1, Nat.lt_of_lt_of_le (h2 (hL ▸ e)).2.1 hg.size, iz_keep (gb_cells hg (h2 (hL ▸ e)).2.1 (fun e2 => by have := hr q e2.symm; have := (h2 (hL ▸ e)).1; omega)) (h2 (hL ▸ e)).2.2⟩⟩
  | 5, h => exact h
  | 6, h => exact h
  | 7, h => exact h
  | 8, h => exact h
  | 9, h => exact absurd rfl hj.1
  | 10, h => exact h
  | 11, h => exact h
  | 12, h => exact h
  | 13, h => exact h
  | 14, ⟨q, h1, h2⟩ => exact ⟨q, h1, fun e => ⟨(h2 (hL ▸ e)).1, Nat.lt_of_lt_of_le (h2 (hL ▸ e)).2.1 hg.size, uz_keep (gb_cells hg (h2 (hL ▸ e)).2.1 (fun e2 => by have := hr q e2.symm; have := (h2 (hL ▸ e)).1; omega)) (h2 (hL ▸ e)).2.2⟩⟩
  | 15, h => exact h
  | 16, h => exact h
  | 17, h => exact h
  | 18, h => exact h
  | 19, h => exact h
  | 20, ⟨q, h1, h2⟩ => exact ⟨q, h1, fun e => ⟨(h2 (hL ▸ e)).1, Nat.lt_of_lt_of_le (h2 (hL ▸ e)).2.1 hg.size, uz_keep (gb_cells hg (h2 (hL ▸ e)).2.1 (fun e2 => by have := hr q e2.symm; have := (h2 (hL ▸ e)).1; omega)) (h2 (hL ▸ e)).2.2⟩⟩
  | 21, h => exact h
  | 22, h => exact h
  | 23, h => exact h
  | 24, h => exact h
  | 25, h => exact h
  | 26, ⟨q, h1, h2⟩ => exact ⟨q, h1, fun e => ⟨(h2 (hL ▸ e)).1, Nat.lt_of_lt_of_le (h2 (hL ▸ e)).2.1 hg.size, uz_keep (gb_cells hg (h2 (hL ▸ e)).2.1 (fun e2 => by have := hr q e2.symm; have := (h2 (hL ▸ e)).1; omega)) (h2 (hL ▸ e)).2.2⟩⟩
  | 27, h => exact h
  | 28, h => exact h
  | 29, h => exact h
  | 30, h => exact h
  | 31, h => exact h
  | 32, ⟨q, h1, h2⟩ => exact ⟨q, h1, fun e => ⟨(h2 (hL ▸ e)).1, Nat.lt_of_lt_of_le (h2 (hL ▸ e)).2.1 hg.size, uz_keep (gb_cells hg (h2 (hL ▸ e)).2.1 (fun e2 => by have := hr q e2.symm; have := (h2 (hL ▸ e)).1; omega)) (h2 (hL ▸ e)).2.2⟩⟩
  | 33, h => exact h
  | 34, h => exact absurd rfl hj.2
  | 35, ⟨p, h1, h2, h3, h4⟩ => exact ⟨p, h1, h2, fun e => (h3 h36).gb hg (fun e2 => by have := hr p e2.symm; omega), fun e => by rw [hL, h36] at e; cases e⟩
  | k + 36, h => trivial
/-- The View is stored: what its block holds is said anew. -/
theorem ath_store {B H : Nat} {aa : Option Addr} {an ac : Nat} {a6 : Option Addr} {c6 N : Nat} {m a : List Fi} {lg fl ct at9 ls lg' fl' ct' at9' ls' : Int} {L L' : Nat → Bool} {W W' : World} (hL : L' 36 = true) : ∀ j u, (j = 35 → ATh B H aa an ac a6 c6 N m a lg fl ct at9 ls lg' fl' ct' at9' ls' L' 35 u W') → ATh B H aa an ac a6 c6 N m a lg fl ct at9 ls lg' fl' ct' at9' ls' L j u W → ATh B H aa an ac a6 c6 N m a lg fl ct at9 ls lg' fl' ct' at9' ls' L' j u W' := by
  intro j u h35 h
  match j, h with
  | 0, h => exact h
  | 1, h => exact h
  | 2, h => exact h
  | 3, h => exact h
  | 4, ⟨q, h1, h2⟩ => exact ⟨q, h1, fun e => by rw [hL] at e; cases e⟩
  | 5, h => exact h
  | 6, h => exact h
  | 7, h => exact h
  | 8, h => exact h
  | 9, ⟨a4, c4, h1, h2⟩ => exact ⟨a4, c4, h1, fun e => by rw [hL] at e; cases e⟩
  | 10, h => exact h
  | 11, h => exact h
  | 12, h => exact h
  | 13, h => exact h
  | 14, ⟨q, h1, h2⟩ => exact ⟨q, h1, fun e => by rw [hL] at e; cases e⟩
  | 15, h => exact h
  | 16, h => exact h
  | 17, h => exact h
  | 18, h => exact h
  | 19, h => exact h
  | 20, ⟨q, h1, h2⟩ => exact ⟨q, h1, fun e => by rw [hL] at e; cases e⟩
  | 21, h => exact h
  | 22, h => exact h
  | 23, h => exact h
  | 24, h => exact h
  | 25, h => exact h
  | 26, ⟨q, h1, h2⟩ => exact ⟨q, h1, fun e => by rw [hL] at e; cases e⟩
  | 27, h => exact h
  | 28, h => exact h
  | 29, h => exact h
  | 30, h => exact h
  | 31, h => exact h
  | 32, ⟨q, h1, h2⟩ => exact ⟨q, h1, fun e => by rw [hL] at e; cases e⟩
  | 33, h => exact h
  | 34, ⟨a4, c4, h1, h2⟩ => exact ⟨a4, c4, h1, fun e => by rw [hL] at e; cases e⟩
  | 35, h => exact h35 rfl
  | k + 36, h => trivial
/-- What the memory holds meanwhile. -/
def AG (wS : World) (B : Nat) (a6 : Option Addr) (c6 : Nat) (m : List Fi) : (Nat → Bool) → World → Prop := fun L W => wS.grownBy W (Value.ownBlock (.slice a6 m.length c6)) ∧ (L 9 = false → OwnF W (B + 3) (.slice a6 m.length c6) m) ∧ (L 36 = true → ∀ j, j < 36 → L j = true) ∧ (L 34 = true → L 9 = true)
theorem gb_comp {w W W' : World} {row r2 : Option Nat} (h1 : w.grownBy W row) (h2 : W.grownBy W' r2) (h : ∀ k, r2 = some k → row = some k ∨ w.heap.size ≤ k) : w.grownBy W' row :=
  ⟨h2.os.trans h1.os, h2.tape.trans h1.tape, h2.output.trans h1.output, Nat.le_trans h1.size h2.size, fun i hi hne => (h2.block i (Nat.lt_of_lt_of_le hi h1.size) (fun e => by
    rcases h i e.symm with h3 | h3
    · exact hne h3.symm
    · omega)).trans (h1.block i hi hne)⟩
theorem ag_upd {wS : World} {B : Nat} {a6 : Option Addr} {c6 : Nat} {m : List Fi} {L : Nat → Bool} {W : World} (i : Nat) (hi : i ≠ 9) (hi2 : i ≠ 36) (hi3 : i = 34 → L 9 = true) (h36 : L 36 = false) (h : AG wS B a6 c6 m L W) : AG wS B a6 c6 m (upd L i) W := by
  refine ⟨h.1, fun e => h.2.1 (by unfold upd at e; rwa [if_neg (Ne.symm hi)] at e), fun e => ?_, fun e => ?_⟩
  · unfold upd at e; rw [if_neg (Ne.symm hi2), h36] at e; cases e
  · by_cases e3 : i = 34
    · exact upd_more (hi3 e3)
    · exact upd_more (h.2.2.2 (by unfold upd at e; rwa [if_neg (Ne.symm e3)] at e))
theorem ag_below {wS : World} {B : Nat} {a6 : Option Addr} {c6 : Nat} {m : List Fi} {L : Nat → Bool} {W W' : World} (h : AG wS B a6 c6 m L W) (hb : Below W.heap.size W W') : AG wS B a6 c6 m L W' :=
  ⟨gb_comp h.1 (fgb_below hb none) (by simp), fun e => ownF_keep (h.2.1 e) hb, h.2.2⟩
theorem ag36 {wS : World} {B : Nat} {a6 : Option Addr} {c6 : Nat} {m : List Fi} {L : Nat → Bool} {W : World} (h : AG wS B a6 c6 m L W) {i : Nat} (hi : i < 36) (hL : L i = false) : L 36 = false := by
  cases e : L 36 with
  | false => rfl
  | true => rw [h.2.2.1 e i hi] at hL; cases hL
theorem upd36 {L : Nat → Bool} {i : Nat} (hi : 36 ≠ i) : upd L i 36 = L 36 := by unfold upd; rw [if_neg hi]
theorem own_not_view {W : World} {B p : Nat} {v : Value} {l : List Fi} {cs : Array Value} (h : OwnF W B v l) (hp : Ek W p cs 31) : v.ownBlock ≠ some p := by
  intro e
  obtain ⟨hl, ⟨rfl, hn⟩ | ⟨g, cap, cur, rfl, hg, hh, hnc, hcm, hcs, hx⟩⟩ := h
  · cases e
  · have : g = p := Option.some.inj e
    subst this
    unfold Ek at hp
    rw [hh] at hp
    injection hp with hp
    injection hp with _ hp
    exact absurd hp (by decide)
theorem ownF_far {w w' : World} {B p : Nat} {v : Value} {l : List Fi} (h : OwnF w B v l) (hg : w.grownBy w' (some p)) (hne : v.ownBlock ≠ some p) : OwnF w' B v l := by
  refine World.ownsRow.kept h hg ?_
  cases hv : v.ownBlock with
  | none => exact .inl rfl
  | some k => exact .inr (fun e => hne (by rw [hv, e]))
theorem iz2 {w : World} {p : Nat} {x y : Int} {T : TypeId} (h : Ek w p #[.int .i64 x, .int .i64 y] T) : Iz w p [x, y] := by
  intro i z hz
  match i, hz with
  | 0, hz => exact h.cell (by simpa using hz)
  | 1, hz => exact h.cell (by simpa using hz)
  | k + 2, hz => simp at hz
theorem uz2 {w : World} {p : Nat} {x y : Int} {T : TypeId} (h : Ek w p #[.int .u64 x, .int .u64 y] T) : Uz w p [x, y] := by
  intro i z hz
  match i, hz with
  | 0, hz => exact h.cell (by simpa using hz)
  | 1, hz => exact h.cell (by simpa using hz)
  | k + 2, hz => simp at hz
theorem oper_append_files {w : World} {o : Oper} {a : Act} {K : Act → World → Prop} {Q : Exit → Act → World → Prop} (hgd : o.guard = none) (s x : Operand)
    (ho : o.op = .call { callee := .builtin .append, args := #[s, x], argTypes := #[28, 28] })
    (base : Nat) (v : Value) (l : List Fi) (hs : a.eval s = v) (hown : OwnF w base v l) (ao : Option Addr) (len cap : Nat) (m : List Fi) (hx : a.eval x = .slice ao len cap) (hb : Fs w ao len cap m)
    (hlen : l.length + len ≤ 3518437208883) (hbase : base ≤ w.heap.size)
    (h : ∀ v' w', OwnF w' base v' (l ++ m) → w.grownBy w' v.ownBlock → (∀ k, v.ownBlock = some k → base ≤ k) → K (a.put o.dst v') w') : Oper.wp Tryz.prog o a w K Q := by
  have := step_append_files (ops := #[]) (K := K) (Q := Q) (E := True) hgd s x ho base v l hs hown ao len cap m hx hb hlen hbase h
  rwa [if_pos (by simp [Region.wanted, hgd])] at this

end Go.Proofs.YtcahlmneancapaaGreatDoor.Clep
