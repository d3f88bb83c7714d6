/- What edit.mayBe does when called (a walk over the translated program): for any Edit. -/
import Derived.Test.YtgopcaemgcnapaaEOkW
import Derived.Test.YtgopcaemgcnapaaNRefLists
import Derived.Test.YtgopcaemgcnapaaCut
import Derived.Test.YtgopcaemgcnapaaEReg
import Derived.Test.YtgopcaemgcnapaaEWhole
import Derived.Test.YtgopcaemgcnapaaEInv
import Derived.Test.YtgopcaemgcnapaaEApplyP
import Derived.Deep.RegionLaw
import Derived.Test.YtgopcaemgcnapaaFMath
import Derived.Test.YtgopcaemgcnapaaRefFrame
import Derived.Test.YtgopcaemgcnapaaEAst
namespace Go.Proofs.Ytgopcaemgcnapaa.Clep
open Go.RowKit
set_option linter.unusedVariables false
set_option maxRecDepth 10000

def mayB (E : Ed) : Bool := decide (E.d.length ≤ 40) && (E.d.all okN && (flk E.a && (((E.lg == 0) || okN E.lg) && [E.fl, E.ct, E.at9, E.ls].all okV)))
theorem mayB_iff (E : Ed) : mayB E = true ↔ emay E = 0 := by
  unfold mayB emay edH flk okN okV
  cases h1 : E.d.all (fun n => decide (1 ≤ n ∧ n ≤ 1073741824)) <;> cases h2 : E.a.all Fi.ok
  · simp
  · simp
  · simp
  · simp only [Bool.true_and, Bool.and_true, Bool.and_eq_true, decide_eq_true_eq, List.all_cons, List.all_nil, Bool.or_eq_true, beq_iff_eq]
    constructor
    · rintro ⟨a1, a2, a3, a4, a5, a6, a7⟩
      rw [if_pos (by omega)]
    · intro h
      split at h
      · rename_i hh; omega
      · cases h
set_option maxHeartbeats 1000000 in
theorem maybe_any (da : Option Addr) (dn dc : Nat) (aa : Option Addr) (an ac : Nat) (E : Ed) (w : World) (hd : Zs w da dn dc E.d) (ha : Fs w aa an ac E.a) (hdn : dn ≤ 9223372036854775807) (han : an ≤ 9223372036854775807) :
    Calls Try.prog 29 #[edV da dn dc aa an ac E] w fun e w' => e = .returned (.bool (mayB E)) ∧ Below w.heap.size w w' := by
  have hld := hd.1
  have HD := hide (fun W (hW : Below w.heap.size w W) => hd.below hW (Nat.le_refl _))
  have HA := hide (fun W (hW : Below w.heap.size w W) => ha.below hW (Nat.le_refl _))
  have HM := hide (show mayB E = (decide (E.d.length ≤ 40) && (E.d.all okN && (flk E.a && (((E.lg == 0) || okN E.lg) && [E.fl, E.ct, E.at9, E.ls].all okV)))) from rfl)
  generalize mayB E = M at *
  obtain ⟨d, a, lg, fl, ct, at9, ls⟩ := E
  unfold edV
  simp only at hld HD HA HM ⊢
  rw [hld] at HM
  clear hd ha
  have A0 := (Below.refl w.heap.size w).alloc (Nat.le_refl _) (Obj.cells #[.slice da dn dc, .slice aa an ac, .int .i64 lg, .int .u64 fl, .int .u64 ct, .int .u64 at9, .int .u64 ls] 31)
  have HB0 := hide A0
  have hK := hide (show ∀ W, Below (w.heap.size + 1) (w.alloc (Obj.cells #[.slice da dn dc, .slice aa an ac, .int .i64 lg, .int .u64 fl, .int .u64 ct, .int .u64 at9, .int .u64 ls] 31)) W → Ek W w.heap.size #[.slice da dn dc, .slice aa an ac, .int .i64 lg, .int .u64 fl, .int .u64 ct, .int .u64 at9, .int .u64 ls] 31 from fun W hW => (ek_new w _ _).below hW (by omega))
  have CN := hide numok_any
  have CF := hide (fun W (hW : Below w.heap.size w W) => filesok_any aa an ac a W (HA.out W hW) han)
  have CV := hide (fun p W (hW : Uz W p [fl, ct, at9, ls]) => versok_any p 4 _ W hW rfl (by omega))
  clear A0
  by_cases h40 : dn ≤ 40
  · have g1 : (dn : Int) ≤ 40 := by omega
    rw [show decide (dn ≤ 40) = true from decide_eq_true h40, Bool.true_and] at HM
    go_enter Try.func29, Try.ntmps29
    go_wp2_with fail
    generalize hwa : w.alloc (Obj.cells #[.slice da dn dc, .slice aa an ac, .int .i64 lg, .int .u64 fl, .int .u64 ct, .int .u64 at9, .int .u64 ls] 31) = wa at *
    have hsa : wa.heap.size = w.heap.size + 1 := by rw [← hwa]; simp
    clear hwa
    have hZ0 := hide (HD.out wa HB0.out)
    go_loop [12] (fun s => ∃ k : Nat, k ≤ dn ∧ s = .int .i64 k ∧ Hid ((d.take k).all okN = true)) (fun s => dn - (intOf s).toNat)
    case atStart => exact ⟨0, by omega, rfl, hide (by simp)⟩
    case round =>
      obtain ⟨k, hk, rfl, hall⟩ := hrel
      by_cases hlt : k < dn
      · obtain ⟨z, b, off, hz, rfl, hc, hz1, hz2⟩ := zs_at hZ0.out k hlt
        have NK := hide (numok_any z wa)
        obtain ⟨o, ho⟩ : ∃ o, okN z = o := ⟨_, rfl⟩
        rw [ho] at NK
        have HBD := hide (show o = false → M = false from fun e => by rw [HM.out, all_bad hz (by rw [ho, e])]; rfl)
        have HTD := hide (show o = true → (d.take (k + 1)).all okN = true from fun e => all_more hz (by rw [ho, e]) hall.out)
        clear hz ho
        go_wp2_with fail
        refine NK.out.mono ?_
        rintro e w1 ⟨rfl, hw1⟩
        subst hw1
        clear NK
        cases o with
        | false =>
          obtain rfl : M = false := HBD.out (by first | rfl | trivial)
          clear HBD HTD HM
          go_wp2
          go_ret
          exact ⟨rfl, HB0.out⟩
        | true =>
          have HT := hide (HTD.out (by first | rfl | trivial))
          clear HBD HTD
          go_wp2
          go_round
          case rel => exact ⟨k + 1, by omega, by go_num, HT⟩
          case measure => simp [intOf]; omega
      · obtain rfl : k = dn := by omega
        have hdall : d.all okN = true := by have := hall.out; rwa [List.take_of_length_le (by omega)] at this
        rw [hdall, Bool.true_and] at HM
        clear hall hdall
        have k1 : wa.cell? ⟨w.heap.size, 1, none⟩ = some (.slice aa an ac) := (hK.out _ (Below.refl _ _)).cell rfl
        obtain ⟨o1, e1⟩ : ∃ o, flk a = o := ⟨_, rfl⟩
        rw [e1] at HM CF
        go_wp2_with fail
        refine (CF.out _ HB0.out).mono ?_
        rintro e w2 ⟨rfl, hb2⟩
        have HB2 := hide (HB0.out.trans (hb2.mono (by omega)))
        have HC2 := hide (hb2.mono (Nat.le_of_eq hsa.symm))
        clear CF hb2 k1 e1
        cases o1 with
        | false =>
          obtain rfl : M = false := by rw [HM.out]; rfl
          clear HM
          go_wp2
          go_ret
          exact ⟨rfl, HB2.out⟩
        | true =>
          rw [Bool.true_and] at HM
          have kk := hK.out _ HC2.out
          have k2 : w2.cell? ⟨w.heap.size, 2, none⟩ = some (.int .i64 lg) := kk.cell rfl
          have k3 : w2.cell? ⟨w.heap.size, 3, none⟩ = some (.int .u64 fl) := kk.cell rfl
          have k4 : w2.cell? ⟨w.heap.size, 4, none⟩ = some (.int .u64 ct) := kk.cell rfl
          have k5 : w2.cell? ⟨w.heap.size, 5, none⟩ = some (.int .u64 at9) := kk.cell rfl
          have k6 : w2.cell? ⟨w.heap.size, 6, none⟩ = some (.int .u64 ls) := kk.cell rfl
          have HB4 := hide (HB2.out.alloc HB2.out.size (Obj.cells #[.int .u64 fl, .int .u64 ct, .int .u64 at9, .int .u64 ls] 24))
          have HU := hide (uz4 (ek_new w2 #[.int .u64 fl, .int .u64 ct, .int .u64 at9, .int .u64 ls] 24))
          obtain ⟨o4, e4⟩ : ∃ o, [fl, ct, at9, ls].all okV = o := ⟨_, rfl⟩
          rw [e4] at HM CV
          clear kk e4
          by_cases hl0 : lg = 0
          · subst hl0
            obtain rfl : M = o4 := by rw [HM.out]; simp
            clear HM
            go_wp2_with fail
            refine (CV.out _ _ HU.out).mono ?_
            rintro e w4 ⟨rfl, rfl⟩
            clear CV HU k2 k3 k4 k5 k6
            go_wp2
            go_ret
            exact ⟨rfl, HB4.out⟩
          · have q0 : (lg == 0) = false := by simpa using hl0
            rw [q0, Bool.false_or] at HM
            obtain ⟨o3, e3⟩ : ∃ o, okN lg = o := ⟨_, rfl⟩
            have NK := hide (numok_any lg w2)
            rw [e3] at HM NK
            clear hl0 e3
            go_wp2_with fail
            refine NK.out.mono ?_
            rintro e w3 ⟨rfl, hw3⟩
            subst hw3
            clear NK
            cases o3 with
            | false =>
              obtain rfl : M = false := by rw [HM.out]; rfl
              clear HM
              go_wp2
              go_ret
              exact ⟨rfl, HB2.out⟩
            | true =>
              obtain rfl : M = o4 := by rw [HM.out]; rfl
              clear HM
              go_wp2_with fail
              refine (CV.out _ _ HU.out).mono ?_
              rintro e w4 ⟨rfl, rfl⟩
              clear CV HU k2 k3 k4 k5 k6
              go_wp2
              go_ret
              exact ⟨rfl, HB4.out⟩
  · rw [show decide (dn ≤ 40) = false from decide_eq_false h40, Bool.false_and] at HM
    obtain rfl : M = false := HM.out
    have g3 : (40 : Int) < (dn : Int) := by omega
    clear HM
    go_enter Try.func29, Try.ntmps29
    go_wp2
    go_ret
    exact ⟨rfl, HB0.out⟩

end Go.Proofs.Ytgopcaemgcnapaa.Clep

/- What edit.bodyOf does when called (a walk over the translated program): for any Edit that may be. The bytes of an Edit. -/
namespace Go.Proofs.Ytgopcaemgcnapaa.Clep
open Go.RowKit
set_option linter.unusedVariables false
set_option maxRecDepth 10000

theorem wpList_append_u {w : World} {ops : Array Oper} {rest : List Oper} {o : Oper} {a : Act} {Q : Exit → Act → World → Prop} (hgd : o.guard = none) (s x : Operand)
    (ho : o.op = .call { callee := .builtin .append, args := #[s, x], argTypes := #[81, 81] })
    (base : Nat) (v : Value) (ns : List Int) (hs : a.eval s = v) (hown : OwnU w base v ns) (p : Nat) (z : Int) (hx : a.eval x = .slice (some ⟨p, 0, none⟩) 1 1) (hp : Ek w p #[.int .u64 z] 24)
    (hlen : ns.length ≤ 100000) (hbase : base ≤ w.heap.size)
    (h : ∀ v' w', OwnU w' base v' (ns ++ [z]) → w.grownBy w' v.ownBlock → (∀ k, v.ownBlock = some k → base ≤ k) → wpList Try.prog ops Q rest (a.put o.dst v') w') : wpList Try.prog ops Q (o :: rest) a w := by
  obtain ⟨i0, hi, hz0, hz1, hz2⟩ := info_parts info25
  refine wpList_append_own _ hgd s x 81 ho base 24 i0 (.int .u64 0) 1 8 Try.underlying81 hi hz0 hz1 hz2 rfl (by decide) v ns.length (uv ns) hs hown ⟨p, 0, none⟩ 1 1 [.int .u64 z] hx rfl ?_ ?_ (by unfold maxLen; omega) (by omega) hbase ?_
  · intro j u hu
    match j, hu with
    | 0, hu =>
      simp at hu
      subst hu
      exact hp.cell rfl
    | k + 1, hu => simp at hu
  · intro u hu
    simp at hu
    subst hu
    rfl
  · intro v' w' h1 h2 _
    exact h v' w' (ownU_snoc h1) h2 (fun k hk => (World.ownsRow.lt hown k hk).1)
def iv9 (ns : List Int) : List Value := ns.map (Value.int .i64)
/-- The slice value v owns the whole numbers ns. -/
def OwnZ (w : World) (B : Nat) (v : Value) (ns : List Int) : Prop := w.ownsRow B 3 1 v ns.length (iv9 ns)
theorem info_int : (Try.prog.info? 3).map (fun i => (i.zero, i.size, i.bytes)) = some (some (.int .i64 0), 1, 8) := by kernel_rfl
theorem ownZ_nil (w : World) (B : Nat) : OwnZ w B (.slice none 0 0) [] := World.ownsRow_nil _ _ _ _
theorem ownU_nil (w : World) (B : Nat) : OwnU w B (.slice none 0 0) [] := World.ownsRow_nil _ _ _ _
theorem wpList_append_z {w : World} {ops : Array Oper} {rest : List Oper} {o : Oper} {a : Act} {Q : Exit → Act → World → Prop} (hgd : o.guard = none) (s x : Operand)
    (ho : o.op = .call { callee := .builtin .append, args := #[s, x], argTypes := #[22, 22] })
    (base : Nat) (v : Value) (ns : List Int) (hs : a.eval s = v) (hown : OwnZ w base v ns) (p : Nat) (z : Int) (hx : a.eval x = .slice (some ⟨p, 0, none⟩) 1 1) (hp : Ek w p #[.int .i64 z] 3)
    (hlen : ns.length ≤ 100000) (hbase : base ≤ w.heap.size)
    (h : ∀ v' w', OwnZ w' base v' (ns ++ [z]) → w.grownBy w' v.ownBlock → (∀ k, v.ownBlock = some k → base ≤ k) → wpList Try.prog ops Q rest (a.put o.dst v') w') : wpList Try.prog ops Q (o :: rest) a w := by
  obtain ⟨i0, hi, hz0, hz1, hz2⟩ := info_parts info_int
  refine wpList_append_own _ hgd s x 22 ho base 3 i0 (.int .i64 0) 1 8 Try.underlying22 hi hz0 hz1 hz2 rfl (by decide) v ns.length (iv9 ns) hs hown ⟨p, 0, none⟩ 1 1 [.int .i64 z] hx rfl ?_ ?_ (by unfold maxLen; omega) (by omega) hbase ?_
  · intro j u hu
    match j, hu with
    | 0, hu =>
      simp at hu
      subst hu
      exact hp.cell rfl
    | k + 1, hu => simp at hu
  · intro u hu
    simp at hu
    subst hu
    rfl
  · intro v' w' h1 h2 _
    refine h v' w' ?_ h2 (fun k hk => (World.ownsRow.lt hown k hk).1)
    unfold OwnZ iv9
    simpa [iv9] using h1
theorem ownZ_zs {w : World} {B : Nat} {v : Value} {ns : List Int} (h : OwnZ w B v ns) (hz : ∀ z ∈ ns, -9223372036854775808 ≤ z ∧ z ≤ 9223372036854775807) :
    ∃ ao cap, v = .slice ao ns.length cap ∧ cap ≤ 9223372036854775807 ∧ Zs w ao ns.length cap ns ∧ ∀ a, ao = some a → B ≤ a.block := by
  obtain ⟨hl, ⟨rfl, hn⟩ | ⟨g, cap, cur, rfl, hg, hh, hnc, hcm, hcs, hx⟩⟩ := h
  · exact ⟨none, 0, by rw [hn], by omega, ⟨rfl, ⟨by omega, fun _ => ⟨hn, rfl⟩⟩, hz, fun h => by omega⟩, fun a h => by cases h⟩
  · refine ⟨some ⟨g, 0, none⟩, cap, rfl, by unfold maxLen at hcm; omega, ⟨rfl, ⟨hnc, fun h => by cases h⟩, hz, fun _ => ⟨g, 0, rfl, fun i z hi => ?_⟩⟩, fun a h => by cases h; exact hg⟩
    have hc := World.ownsRow.cells (w := w) (base := B) (e := 3) (size := 1) (v := .slice (some ⟨g, 0, none⟩) ns.length cap) (n := ns.length) (xs := iv9 ns)
      ⟨hl, .inr ⟨g, cap, cur, rfl, hg, hh, hnc, hcm, hcs, hx⟩⟩ (g := g) rfl i (.int .i64 z) (by simp [iv9, hi])
    rwa [add_plain] at hc
/-- The files as bytes. -/
def fbs (l : List Fi) : List Int := l.flatMap (fun f => pu f.L ++ pu f.N)
/-- An Edit's body. -/
def ebd (E : Ed) : List Int := li E.d ++ (pu (E.a.length : Int) ++ (fbs E.a ++ rest [E.lg, E.fl, E.ct, E.at9, E.ls] 0))
theorem emay_parts {E : Ed} (h : emay E = 0) : (E.d.length ≤ 40 ∧ E.a.length ≤ 40) ∧ (∀ z ∈ E.d, 1 ≤ z ∧ z ≤ 1073741824) ∧ (∀ f ∈ E.a, (0 ≤ f.L ∧ f.L ≤ 3) ∧ 1 ≤ f.N ∧ f.N ≤ 1073741824) ∧ (0 ≤ E.lg ∧ E.lg ≤ 1073741824) ∧ E.fl ≤ 281474976710656 ∧ E.ct ≤ 281474976710656 ∧ E.at9 ≤ 281474976710656 ∧ E.ls ≤ 281474976710656 := by
  unfold emay at h
  split at h
  · rename_i hh
    rw [Bool.and_eq_true, Bool.and_eq_true] at hh
    obtain ⟨h1, h2, h3⟩ := hh
    unfold edH at h1
    have h1 := of_decide_eq_true h1
    refine ⟨⟨h1.1, h1.2.1⟩, fun z hz => ?_, fun f hf => ?_, ⟨h1.2.2.1, h1.2.2.2.1⟩, h1.2.2.2.2⟩
    · have := List.all_eq_true.1 h2 z hz
      exact of_decide_eq_true this
    · have := List.all_eq_true.1 h3 f hf
      have := of_decide_eq_true this
      omega
  · cases h
theorem fbs_take {l : List Fi} {k : Nat} {f : Fi} (h : l[k]? = some f) : fbs (l.take (k + 1)) = fbs (l.take k) ++ (pu f.L ++ pu f.N) := by
  unfold fbs
  rw [List.take_add_one, h, List.flatMap_append]
  simp
theorem fbs_len : ∀ (l : List Fi), (fbs l).length ≤ 20 * l.length
  | [] => by simp [fbs]
  | f :: r => by
    have := fbs_len r
    have h1 := (pu_len f.L).2
    have h2 := (pu_len f.N).2
    unfold fbs at this ⊢
    simp only [List.flatMap_cons, List.length_append, List.length_cons]
    omega
theorem rest5_len (ns : List Int) (h : ns.length = 5) : (rest ns 0).length ≤ 50 := by
  have := rows_len ns 5 (by omega)
  rw [rows_all ns 5 (by omega)] at this
  omega
theorem fbs_range (l : List Fi) (h : ∀ f ∈ l, (0 ≤ f.L ∧ f.L ≤ 3) ∧ 1 ≤ f.N ∧ f.N ≤ 1073741824) : ByteL (fbs l) := by
  intro z hz
  obtain ⟨f, hf, hz⟩ := List.mem_flatMap.1 hz
  have := h f hf
  rcases List.mem_append.1 hz with e | e
  · exact pu_range f.L (by omega) (by omega) z e
  · exact pu_range f.N (by omega) (by omega) z e
def five (E : Ed) : List Int := [E.lg, E.fl, E.ct, E.at9, E.ls]
theorem ebd_len {E : Ed} (h : emay E = 0) : (ebd E).length ≤ 1300 := by
  have hp := emay_parts h
  have h1 := (li_len E.d (by omega)).2
  have h2 := (pu_len (E.a.length : Int)).2
  have h3 := fbs_len E.a
  have h4 := rest5_len [E.lg, E.fl, E.ct, E.at9, E.ls] rfl
  unfold ebd
  simp only [List.length_append]
  omega

end Go.Proofs.Ytgopcaemgcnapaa.Clep

/- Reading an Edit: number by number, as Lean's own functions. No conditions. -/
namespace Go.Proofs.Ytgopcaemgcnapaa.Clep
open Go.RowKit
set_option linter.unusedVariables false
set_option maxRecDepth 10000

/-- One number more: what is left, and whether one was refused. -/
def rt (s : List Int × Bool) : Int × (List Int × Bool) := if (tk s.1 0 0).2.2 = 0 then ((tk s.1 0 0).1, (s.1.drop (tk s.1 0 0).2.1.toNat, s.2)) else (0, (s.1, true))
def stN (s : List Int × Bool) : Nat → List Int × Bool
  | 0 => s
  | j + 1 => (rt (stN s j)).2
def nr (s : List Int × Bool) (j : Nat) : Int := (rt (stN s j)).1
theorem rt_range (s : List Int × Bool) (h : ByteL s.1) : (0 ≤ (rt s).1 ∧ (rt s).1 ≤ 18446744073709551615) ∧ ByteL (rt s).2.1 := by
  unfold rt
  split
  · have := tk_facts s.1 0 0 (by omega) h (by omega) (by simp)
    exact ⟨⟨this.1, this.2.1⟩, fun z hz => h z (List.mem_of_mem_drop hz)⟩
  · exact ⟨by simp, h⟩
theorem stN_byte (s : List Int × Bool) (h : ByteL s.1) : ∀ j, ByteL (stN s j).1
  | 0 => h
  | j + 1 => (rt_range _ (stN_byte s h j)).2
theorem nr_range (s : List Int × Bool) (h : ByteL s.1) (j : Nat) : 0 ≤ nr s j ∧ nr s j ≤ 18446744073709551615 := (rt_range _ (stN_byte s h j)).1
theorem rt_bad (s : List Int × Bool) (h : s.2 = true) : (rt s).2.2 = true := by unfold rt; split <;> simp [h]
theorem stN_bad (s : List Int × Bool) : ∀ (j k : Nat), (stN s j).2 = true → (stN s (j + k)).2 = true
  | j, 0, h => h
  | j, k + 1, h => rt_bad _ (stN_bad s j k h)
theorem rt_len (s : List Int × Bool) : (rt s).2.1.length ≤ s.1.length := by
  unfold rt
  split
  · simp
  · exact Nat.le_refl _
theorem stN_len (s : List Int × Bool) : ∀ j, (stN s j).1.length ≤ s.1.length
  | 0 => Nat.le_refl _
  | j + 1 => Nat.le_trans (rt_len _) (stN_len s j)
def sm (n : Int) : Int := if n > 1073741824 then -1 else n
/-- Behind the numbers of Drop. -/
def s0X (X : List Int) : List Int × Bool := (X.drop (ul X 40).2.1.toNat, false)
def cX (X : List Int) : Int := (rt (s0X X)).1
def s1X (X : List Int) : List Int × Bool := (rt (s0X X)).2
def fX (X : List Int) (n : Nat) : List Fi := (List.range n).map (fun i => ⟨nr (s1X X) (2 * i), nr (s1X X) (2 * i + 1)⟩)
/-- The Edit that the bytes would be. -/
def rawE (X : List Int) : Ed := ⟨(ul X 40).1, fX X (cX X).toNat, nr (s1X X) (2 * (cX X).toNat), nr (s1X X) (2 * (cX X).toNat + 1), nr (s1X X) (2 * (cX X).toNat + 2), nr (s1X X) (2 * (cX X).toNat + 3), nr (s1X X) (2 * (cX X).toNat + 4)⟩
def okR (X : List Int) : Bool := decide ((ul X 40).2.2 = 0) && (decide (cX X ≤ 40) && (!(stN (s1X X) (2 * (cX X).toNat + 5)).2 && decide ((stN (s1X X) (2 * (cX X).toNat + 5)).1.length = 0)))
/-- What Read answers. -/
def red (X : List Int) : Option Ed := if (okR X && mayB (rawE X)) = true then some (rawE X) else none
def smF (f : Fi) : Fi := ⟨sm f.L, sm f.N⟩
/-- The Edit with each number that is too great as -1. -/
def smE (E : Ed) : Ed := ⟨E.d.map sm, E.a.map smF, sm E.lg, E.fl, E.ct, E.at9, E.ls⟩
theorem sm_id {n : Int} (h : n ≤ 1073741824) : sm n = n := by unfold sm; rw [if_neg (by omega)]
theorem sm_pos {n : Int} (h : 0 ≤ sm n) : sm n = n := by
  unfold sm at h ⊢
  split at h
  · omega
  · rename_i hh; rw [if_neg hh]
theorem map_id_of {α : Type} {f : α → α} : ∀ {l : List α}, (∀ x ∈ l, f x = x) → l.map f = l
  | [], _ => rfl
  | x :: r, h => by rw [List.map_cons, h x (List.mem_cons_self ..), map_id_of (fun y hy => h y (List.mem_cons_of_mem _ hy))]
theorem smE_may {E : Ed} (h : mayB E = true) : smE E = E := by
  have hp := emay_parts ((mayB_iff E).1 h)
  obtain ⟨d, a, lg, fl, ct, at9, ls⟩ := E
  unfold smE
  simp only at hp ⊢
  rw [map_id_of (fun z hz => sm_id (hp.2.1 z hz).2), map_id_of (fun f hf => ?_), sm_id hp.2.2.2.1.2]
  have := hp.2.2.1 f hf
  unfold smF
  rw [sm_id (by omega), sm_id (by omega)]
theorem may_smE {E : Ed} (h : mayB (smE E) = true) : smE E = E := by
  have hp := emay_parts ((mayB_iff _).1 h)
  obtain ⟨d, a, lg, fl, ct, at9, ls⟩ := E
  unfold smE at hp ⊢
  simp only at hp ⊢
  rw [map_id_of (fun z hz => sm_pos (by have := (hp.2.1 (sm z) (List.mem_map.2 ⟨z, hz, rfl⟩)).1; omega)), map_id_of (fun f hf => ?_), sm_pos hp.2.2.2.1.1]
  have := hp.2.2.1 (smF f) (List.mem_map.2 ⟨f, hf, rfl⟩)
  unfold smF at this ⊢
  simp only at this
  rw [sm_pos (by omega), sm_pos (by omega)]
theorem mayB_smE (E : Ed) : mayB (smE E) = mayB E := by
  cases h1 : mayB E with
  | true => rw [smE_may h1, h1]
  | false =>
    cases h2 : mayB (smE E) with
    | false => rfl
    | true => rw [may_smE h2] at h2; rw [h2] at h1; cases h1
theorem red_form (X : List Int) : red X = if (okR X && mayB (smE (rawE X))) = true then some (smE (rawE X)) else none := by
  rw [mayB_smE]
  unfold red
  split
  · rename_i h
    rw [Bool.and_eq_true] at h
    rw [smE_may h.2]
  · rfl
theorem red_may {X : List Int} {E : Ed} (h : red X = some E) : emay E = 0 := by
  unfold red at h
  split at h
  · rename_i hh
    rw [Bool.and_eq_true] at hh
    injection h with h
    rw [← h]
    exact (mayB_iff _).1 hh.2
  · cases h
theorem fX_next (X : List Int) (n : Nat) : fX X (n + 1) = fX X n ++ [⟨nr (s1X X) (2 * n), nr (s1X X) (2 * n + 1)⟩] := by
  unfold fX
  rw [List.range_succ, List.map_append]
  rfl
theorem fX_len (X : List Int) (n : Nat) : (fX X n).length = n := by unfold fX; simp

end Go.Proofs.Ytgopcaemgcnapaa.Clep

/- What the reader of package edit, small and smalls do when called (walks over the translated program). -/
namespace Go.Proofs.Ytgopcaemgcnapaa.Clep
open Go.RowKit
set_option linter.unusedVariables false
set_option maxRecDepth 10000

theorem Bs.gb {w w' : World} {row : Option Nat} {ao : Option Addr} {len cap : Nat} {zs : List Int} (h : Bs w ao len cap zs) (hg : w.grownBy w' row) (hne : 0 < len → ∀ a, ao = some a → some a.block ≠ row) : Bs w' ao len cap zs := by
  refine ⟨h.1, h.2.1, h.2.2.1, fun h0 => ?_⟩
  obtain ⟨b, off, ho, hc⟩ := h.2.2.2 h0
  exact ⟨b, off, ho, fun i hi => gb_cells hg (World.block_lt_of_cell? w _ (hc i hi)) (hne h0 ⟨b, off, none⟩ ho) _ _ (hc i hi)⟩
/-- The reader in block R: what is left, and whether a number was refused. The bytes lie below B. -/
def Rdr (W : World) (B R : Nat) (s : List Int × Bool) : Prop := ∃ ao n c, Ek W R #[.slice ao n c, .bool s.2] 88 ∧ Bs W ao n c s.1 ∧ c ≤ 9223372036854775807 ∧ (0 < n → ∀ a, ao = some a → a.block < B) ∧ B ≤ R
theorem Rdr.lt {W : World} {B R : Nat} {s : List Int × Bool} (h : Rdr W B R s) : R < W.heap.size := by
  obtain ⟨ao, n, c, h1, _⟩ := h
  exact h1.lt
theorem Rdr.gb {W W' : World} {B R : Nat} {s : List Int × Bool} {row : Option Nat} (h : Rdr W B R s) (hg : W.grownBy W' row) (hne : some R ≠ row) (hB : ∀ k, row = some k → B ≤ k) : Rdr W' B R s := by
  obtain ⟨ao, n, c, h1, h2, h3, h4, h5⟩ := h
  refine ⟨ao, n, c, h1.gb hg hne, h2.gb hg (fun h0 a ha e => ?_), h3, h4, h5⟩
  have := h4 h0 a ha
  have := hB _ e.symm
  omega
theorem Rdr.keep {W W' : World} {B R : Nat} {s : List Int × Bool} (h : Rdr W B R s) (hb : Below W.heap.size W W') : Rdr W' B R s := h.gb (fgb_below hb none) (by simp) (by simp)
theorem ecut_block {a : Option Addr} {cap l B : Nat} (h : ∀ x, a = some x → x.block < B) : ∀ x, cut a cap l = some x → x.block < B := by
  intro x hx
  unfold cut at hx
  split at hx
  · exact h x hx
  · cases a with
    | none => cases hx
    | some y =>
      simp at hx
      subst hx
      have := h y rfl
      unfold Addr.add
      split <;> exact this

section
attribute [local go_sem ↓] cut_l
set_option maxHeartbeats 400000 in
theorem rdtake_any (B R : Nat) (s : List Int × Bool) (W : World) (h : Rdr W B R s) (hl : s.1.length ≤ 1000000) :
    Calls Try.prog 42 #[.pointer (some ⟨R, 0, none⟩)] W fun e w' => e = .returned (.int .u64 (rt s).1) ∧ Rdr w' B R (rt s).2 ∧ W.grownBy w' (some R) := by
  obtain ⟨X, r⟩ := s
  obtain ⟨ao, n, c, h1, h2, h3, h4, h5⟩ := h
  simp only at h1 h2 hl
  have hn := h2.1
  have CT := hide (take_any ao n c X W (by omega) h2)
  have hsz := tk_size X 0 0 (by omega)
  have HRT := hide (show rt (X, r) = if (tk X 0 0).2.2 = 0 then ((tk X 0 0).1, (X.drop (tk X 0 0).2.1.toNat, r)) else (0, (X, true)) from rfl)
  obtain ⟨x, sz, e, ht⟩ : ∃ x sz e, tk X 0 0 = (x, sz, e) := ⟨_, _, _, rfl⟩
  rw [ht] at CT HRT hsz
  unfold tup at CT
  simp only at CT HRT hsz
  have k0 : W.cell? ⟨R, 0, none⟩ = some (.slice ao n c) := h1.cell rfl
  have k1 : W.cell? ⟨R, 1, none⟩ = some (.bool r) := h1.cell rfl
  have f0 := h1.free 0
  have f1 := h1.free 1
  have H1 := hide h1
  have H2 := hide h2
  have H4 := hide h4
  clear h1 h2 h4 ht
  by_cases he : e = 0
  · subst he
    have HR := hide (show rt (X, r) = (x, (X.drop sz.toNat, r)) by rw [HRT.out, if_pos rfl])
    have hs0 : 0 ≤ sz := hsz.1
    have hs1 : sz ≤ (n : Int) := by omega
    rw [HR.out]
    clear HRT HR hsz
    go_enter Try.func42, Try.ntmps42
    go_wp2_with fail
    refine CT.out.mono ?_
    rintro en w1 ⟨rfl, hw1⟩
    subst hw1
    clear CT
    go_wp2
    go_ret
    have hg := fgb_set w1 ⟨R, 0, none⟩ (.slice (cut ao c sz.toNat) (n - sz.toNat) (c - sz.toNat))
    have hcut := H2.out.cut sz.toNat n (by omega) (Nat.le_refl _)
    rw [List.take_of_length_le (by omega)] at hcut
    refine ⟨rfl, ⟨_, _, _, H1.out.set 0 _, hcut.gb hg (fun h0 a ha e => ?_), by omega, fun h0 a ha => ?_, h5⟩, hg⟩
    · have h6 : a.block = R := Option.some.inj e
      have := ecut_block (H4.out (by omega)) a ha
      omega
    · exact ecut_block (H4.out (by omega)) a ha
  · have HR := hide (show rt (X, r) = (0, (X, true)) by rw [HRT.out, if_neg he])
    have q : (e != 0) = true := by simpa using he
    rw [HR.out]
    clear HRT HR hsz he
    go_enter Try.func42, Try.ntmps42
    go_wp2_with fail
    refine CT.out.mono ?_
    rintro en w1 ⟨rfl, hw1⟩
    subst hw1
    clear CT
    go_wp2
    go_ret
    have hg := fgb_set w1 ⟨R, 1, none⟩ (.bool true)
    refine ⟨rfl, ⟨ao, n, c, H1.out.set 1 _, H2.out.gb hg (fun h0 a ha e => ?_), h3, H4.out, h5⟩, hg⟩
    have h6 : a.block = R := Option.some.inj e
    have := H4.out h0 a ha
    omega
end
theorem small_any (n : Int) (w : World) (h0 : 0 ≤ n) : Calls Try.prog 43 #[.int .u64 n] w fun e w' => e = .returned (.int .i64 (sm n)) ∧ w' = w := by
  by_cases h : 1073741824 < n
  · have hs : sm n = -1 := by unfold sm; rw [if_pos h]
    rw [hs]
    go_enter Try.func43, Try.ntmps43
    go_wp2
    go_ret
    exact ⟨rfl, rfl⟩
  · have hs : sm n = n := sm_id (by omega)
    have hwr : IntKind.i64.wrap n = n := by
      simp [IntKind.wrap, IntKind.bits, IntKind.signed]
      omega
    rw [hs]
    go_enter Try.func43, Try.ntmps43
    go_wp2
    go_ret
    exact ⟨rfl, rfl⟩
set_option maxHeartbeats 400000 in
theorem smalls_any (v : Value) (ns : List Int) (B : Nat) (w : World) (h : OwnU w B v ns) (hr : ∀ z ∈ ns, 0 ≤ z ∧ z ≤ 18446744073709551615) (hl : ns.length ≤ 40) :
    Calls Try.prog 41 #[v] w fun e w' => ∃ v', e = .returned v' ∧ OwnZ w' w.heap.size v' (ns.map sm) ∧ Below w.heap.size w w' := by
  obtain ⟨ao, cap, rfl, hus⟩ := ownU_us h hr
  obtain ⟨n, hn⟩ : ∃ n, ns.length = n := ⟨_, rfl⟩
  rw [hn] at hus hl ⊢
  have HU := hide (fun W (hW : Below w.heap.size w W) => hus.below hW (Nat.le_refl _))
  have HR := hide hr
  have HS := hide small_any
  clear h hus hr
  go_enter Try.func41, Try.ntmps41
  go_wp2_with fail
  go_loopw [3, 8] (fun v s wr => ∃ k : Nat, k ≤ n ∧ s = .int .i64 k ∧ Hid (OwnZ wr w.heap.size v ((ns.take k).map sm)) ∧ Hid (Below w.heap.size w wr)) (fun _ s _ => n - (intOf s).toNat)
  case atStart => exact ⟨0, by omega, rfl, hide (ownZ_nil _ _), hide (Below.refl _ _)⟩
  case round =>
    obtain ⟨k, hk, rfl, hown, hbel⟩ := hrel
    by_cases hlt : k < n
    · obtain ⟨b, off, rfl, hcell⟩ := (HU.out wr hbel.out).2.2.2 (by omega)
      have hck := hcell k hlt
      have hkl : k < ns.length := by omega
      have hgd : ns.getD k 0 = ns[k] := by simp [List.getD, List.getElem?_eq_getElem hkl]
      rw [hgd] at hck
      obtain ⟨z, hz⟩ : ∃ z, ns[k] = z := ⟨_, rfl⟩
      have hzr := HR.out ns[k] (List.getElem_mem hkl)
      rw [hz] at hck hzr
      have HT := hide (show (ns.take (k + 1)).map sm = (ns.take k).map sm ++ [sm z] from by rw [List.take_add_one, List.getElem?_eq_getElem hkl, hz, List.map_append]; rfl)
      have HLT := hide (show ((ns.take k).map sm).length ≤ 100000 from by rw [List.length_map, List.length_take]; omega)
      have A1 := (Below.refl _ wr).alloc (Nat.le_refl _) (Obj.cells #[.int .i64 (sm z)] 3)
      have HO1 := hide (show OwnZ (wr.alloc (Obj.cells #[.int .i64 (sm z)] 3)) w.heap.size u3 ((ns.take k).map sm) from by
        refine World.ownsRow.kept hown.out (fgb_below A1 none) ?_
        cases hv : u3.ownBlock with
        | none => exact .inl rfl
        | some k => exact .inr (by simp))
      have HE1 := hide (ek_new wr #[.int .i64 (sm z)] 3)
      have HS1 := hide (Nat.le_trans hbel.out.size A1.size)
      have HB1 := hide (hbel.out.trans (A1.mono hbel.out.size))
      have CS := hide (small_any z wr hzr.1)
      clear hcell hgd hz A1 hzr
      go_wp2_with fail
      refine CS.out.mono ?_
      rintro e w1 ⟨rfl, hw1⟩
      subst hw1
      clear CS
      go_wp2_with (first
        | (at_builtin; refine wpList_append_z rfl _ _ rfl w.heap.size _ ((ns.take k).map sm) rfl HO1.out w1.heap.size (sm z) rfl HE1.out HLT.out HS1.out ?_; intro v2 w2 o2 g2 k2; have HO2 := hide o2; have HB2 := hide (HB1.out.grown g2 HS1.out k2); clear o2 g2 k2)
        | fail)
      go_roundw
      case rel => exact ⟨k + 1, by omega, by go_num, hide (by rw [HT.out]; exact HO2.out), HB2⟩
      case measure => simp [intOf]; omega
    · obtain rfl : k = n := by omega
      have hown2 := hown.out
      rw [List.take_of_length_le (by omega)] at hown2
      have HO := hide hown2
      clear hown hown2
      go_wp2
      go_ret
      exact ⟨_, rfl, HO.out, hbel.out⟩

end Go.Proofs.Ytgopcaemgcnapaa.Clep

/- What edit.Read does when called: what its blocks hold between its steps, what it returns. No conditions. -/
namespace Go.Proofs.Ytgopcaemgcnapaa.Clep
open Go.RowKit
set_option linter.unusedVariables false
set_option maxRecDepth 10000

theorem uls_place : ∀ (c : Nat) (zs : List Int) (P : Nat) (acc : List Int), P ≤ zs.length → (uls c zs P acc).2.2 = 0 → 0 ≤ (uls c zs P acc).2.1 ∧ (uls c zs P acc).2.1 ≤ (zs.length : Int)
  | 0, zs, P, acc, h, _ => by unfold uls; simp; omega
  | c + 1, zs, P, acc, h, he => by
    unfold uls at he ⊢
    split
    · rename_i ht
      rw [if_pos ht] at he
      have h1 := tk_size (zs.drop P) 0 0 (by omega)
      rw [List.length_drop] at h1
      exact uls_place c zs _ _ (by omega) he
    · rename_i ht
      rw [if_neg ht] at he
      simp
theorem ul_place (zs : List Int) (most : Int) (h : (ul zs most).2.2 = 0) : 0 ≤ (ul zs most).2.1 ∧ (ul zs most).2.1 ≤ (zs.length : Int) := by
  unfold ul at h ⊢
  split
  · rename_i ht
    rw [if_pos ht] at h
    split
    · rename_i hm
      simp
    · rename_i hm
      rw [if_neg hm] at h
      have h1 := tk_size zs 0 0 (by omega)
      exact uls_place _ zs _ _ (by omega) h
  · simp
theorem uls_nums : ∀ (c : Nat) (zs : List Int) (P : Nat) (acc : List Int), ByteL zs → (∀ z ∈ acc, 0 ≤ z ∧ z ≤ 18446744073709551615) → (∀ z ∈ (uls c zs P acc).1, 0 ≤ z ∧ z ≤ 18446744073709551615) ∧ ((uls c zs P acc).2.2 = 0 → (uls c zs P acc).1.length = acc.length + c)
  | 0, zs, P, acc, h, ha => by unfold uls; exact ⟨ha, fun _ => rfl⟩
  | c + 1, zs, P, acc, h, ha => by
    unfold uls
    split
    · have hf := tk_facts (zs.drop P) 0 0 (by omega) (fun z hz => h z (List.mem_of_mem_drop hz)) (by omega) (by simp)
      have := uls_nums c zs (P + (tk (zs.drop P) 0 0).2.1.toNat) (acc ++ [(tk (zs.drop P) 0 0).1]) h (fun z hz => by
        rcases List.mem_append.1 hz with e | e
        · exact ha z e
        · rw [List.mem_singleton.1 e]; exact ⟨hf.1, hf.2.1⟩)
      refine ⟨this.1, fun e => ?_⟩
      rw [this.2 e]
      simp
      omega
    · rename_i ht
      exact ⟨by simp, fun e => absurd e ht⟩
theorem ul_nums (zs : List Int) (most : Int) (h : ByteL zs) (hm : 0 ≤ most) : (∀ z ∈ (ul zs most).1, 0 ≤ z ∧ z ≤ 18446744073709551615) ∧ ((ul zs most).2.2 = 0 → ((ul zs most).1.length : Int) ≤ most) := by
  unfold ul
  split
  · split
    · exact ⟨by simp, fun e => by simp at e⟩
    · rename_i ht hmm
      have h1 := uls_nums (tk zs 0 0).1.toNat zs (tk zs 0 0).2.1.toNat [] h (by simp)
      refine ⟨h1.1, fun e => ?_⟩
      rw [h1.2 e]
      have hf := tk_facts zs 0 0 (by omega) h (by omega) (by simp)
      simp
      omega
  · rename_i ht
    exact ⟨by simp, fun e => absurd e ht⟩
def zE : Ed := ⟨[], [], 0, 0, 0, 0, 0⟩
/-- What Read returns. -/
def RdA (r : Option Ed) (w : World) (e : Ending) (w' : World) : Prop := (match r with
  | none => e = .returned (.tuple #[edV none 0 0 none 0 0 zE, .int .i64 3])
  | some E => ∃ da dc aa ac, e = .returned (.tuple #[edV da E.d.length dc aa E.a.length ac E, .int .i64 0]) ∧ Zs w' da E.d.length dc E.d ∧ Fs w' aa E.a.length ac E.a) ∧ Below w.heap.size w w'
theorem read_results {w : World} {R : Nat} {d v : Value} {A B C D E e : Int} (h : Ek w R #[d, v, .int .i64 A, .int .u64 B, .int .u64 C, .int .u64 D, .int .u64 E] 31) (ts : Array Value) (h2 : ts.getD 2 undef = .pointer (some ⟨R, 0, none⟩)) (h3 : ts.getD 3 undef = .int .i64 e) :
    (results Try.f17 ts).run Try.prog w = .ok (.tuple #[.agg #[d, v, .int .i64 A, .int .u64 B, .int .u64 C, .int .u64 D, .int .u64 E], .int .i64 e]) w := by
  have c0 := h.cell (o := 0) rfl
  have c1 := h.cell (o := 1) rfl
  have c2 := h.cell (o := 2) rfl
  have c3 := h.cell (o := 3) rfl
  have c4 := h.cell (o := 4) rfl
  have c5 := h.cell (o := 5) rfl
  have c6 := h.cell (o := 6) rfl
  rw [Array.getD_eq_getD_getElem?] at h2 h3
  simp [results, Try.results17, go_sem, c0, c1, c2, c3, c4, c5, c6, h2, h3]
/-- A store of seven cells. -/
def set7 (W : World) (R : Nat) (u0 u1 u2 u3 u4 u5 u6 : Value) : World := ((((((W.setCell ⟨R, 0, none⟩ u0).setCell ⟨R, 1, none⟩ u1).setCell ⟨R, 2, none⟩ u2).setCell ⟨R, 3, none⟩ u3).setCell ⟨R, 4, none⟩ u4).setCell ⟨R, 5, none⟩ u5).setCell ⟨R, 6, none⟩ u6
theorem eset7 {W : World} {R : Nat} {a0 a1 a2 a3 a4 a5 a6 : Value} {T : TypeId} (hz : Ek W R #[a0, a1, a2, a3, a4, a5, a6] T) (u0 u1 u2 u3 u4 u5 u6 : Value) : Ek (set7 W R u0 u1 u2 u3 u4 u5 u6) R #[u0, u1, u2, u3, u4, u5, u6] T := by
  have h0 : Ek _ R #[u0, a1, a2, a3, a4, a5, a6] T := hz.set 0 u0
  have h1 : Ek _ R #[u0, u1, a2, a3, a4, a5, a6] T := h0.set 1 u1
  have h2 : Ek _ R #[u0, u1, u2, a3, a4, a5, a6] T := h1.set 2 u2
  have h3 : Ek _ R #[u0, u1, u2, u3, a4, a5, a6] T := h2.set 3 u3
  have h4 : Ek _ R #[u0, u1, u2, u3, u4, a5, a6] T := h3.set 4 u4
  have h5 : Ek _ R #[u0, u1, u2, u3, u4, u5, a6] T := h4.set 5 u5
  exact h5.set 6 u6
theorem gset7 (W : World) (R : Nat) (u0 u1 u2 u3 u4 u5 u6 : Value) : W.grownBy (set7 W R u0 u1 u2 u3 u4 u5 u6) (some R) :=
  egrow (k := 6) (u := u6) (egrow (k := 5) (u := u5) (egrow (k := 4) (u := u4) (egrow (k := 3) (u := u3) (egrow (k := 2) (u := u2) (egrow (k := 1) (u := u1) (fgb_set W ⟨R, 0, none⟩ u0))))))
def zE7 : Array Value := #[.slice none 0 0, .slice none 0 0, .int .i64 0, .int .u64 0, .int .u64 0, .int .u64 0, .int .u64 0]
/-- Between the steps of Read. -/
structure RS (w : World) (R Q : Nat) (dd : Option Addr) (dn dc : Nat) (ds : List Int) (W : World) (s : List Int × Bool) (cs : Array Value) (fv : Value) (fl : List Fi) : Prop where
  rd : Rdr W w.heap.size R s
  q : Ek W Q cs 31
  own : OwnF W (Q + 1) fv fl
  zs : Zs W dd dn dc ds
  zb : ∀ a, dd = some a → R < a.block ∧ a.block < Q
  z : Ek W w.heap.size zE7 31
  bel : Below w.heap.size w W
  sz : Q + 1 ≤ W.heap.size
  rq : w.heap.size < R ∧ R < Q
theorem Zs.gb {w w' : World} {row : Option Nat} {ao : Option Addr} {n c : Nat} {l : List Int} (h : Zs w ao n c l) (hg : w.grownBy w' row) (hne : ∀ a, ao = some a → some a.block ≠ row) : Zs w' ao n c l := by
  refine ⟨h.1, h.2.1, h.2.2.1, fun h0 => ?_⟩
  obtain ⟨b, off, e, hc⟩ := h.2.2.2 h0
  refine ⟨b, off, e, fun i z hz => ?_⟩
  have := hc i z hz
  exact gb_cells hg (World.block_lt_of_cell? w _ this) (by have := hne _ e; exact this) _ _ this
section
variable {w : World} {R Q : Nat} {dd : Option Addr} {dn dc : Nat} {ds : List Int} {W W' : World} {s s' : List Int × Bool} {cs : Array Value} {fv fv' : Value} {fl fl' : List Fi}
theorem RS.drew (h : RS w R Q dd dn dc ds W s cs fv fl) : RS w R Q dd dn dc ds W.drew s cs fv fl := ⟨h.rd.keep (Below.refl _ W).drew, h.q.drew, h.own.drew, h.zs.below (Below.refl _ W).drew (Nat.le_refl _), h.zb, h.z.drew, h.bel.drew, h.sz, h.rq⟩
theorem RS.take (h : RS w R Q dd dn dc ds W s cs fv fl) (hg : W.grownBy W' (some R)) (hr : Rdr W' w.heap.size R s') : RS w R Q dd dn dc ds W' s' cs fv fl := by
  have hrq := h.rq
  refine ⟨hr, h.q.gb hg (fun e => ?_), ownF_grown h.own hg (fun k hk => ?_), h.zs.gb hg (fun a ha e => ?_), h.zb, h.z.gb hg (fun e => ?_), h.bel.grown hg h.bel.size (fun k hk => ?_), Nat.le_trans h.sz hg.size, hrq⟩
  · have : Q = R := Option.some.inj e; omega
  · have : R = k := Option.some.inj hk; omega
  · have h1 : a.block = R := Option.some.inj e; have := h.zb a ha; omega
  · have : w.heap.size = R := Option.some.inj e; omega
  · have : R = k := Option.some.inj hk; omega
theorem RS.setq (h : RS w R Q dd dn dc ds W s cs fv fl) (k : Nat) (u : Value) : RS w R Q dd dn dc ds (W.setCell ⟨Q, k, none⟩ u) s (cs.setIfInBounds k u) fv fl := by
  have hrq := h.rq
  have hg := fgb_set W ⟨Q, k, none⟩ u
  refine ⟨h.rd.gb hg (fun e => ?_) (fun k hk => ?_), h.q.set k u, ownF_grown h.own hg (fun k hk => ?_), h.zs.gb hg (fun a ha e => ?_), h.zb, h.z.gb hg (fun e => ?_), h.bel.grown hg h.bel.size (fun k hk => ?_), Nat.le_trans h.sz hg.size, hrq⟩
  · have : R = Q := Option.some.inj e; omega
  · have : Q = k := Option.some.inj hk; omega
  · have : Q = k := Option.some.inj hk; omega
  · have h1 : a.block = Q := Option.some.inj e; have := h.zb a ha; omega
  · have : w.heap.size = Q := Option.some.inj e; omega
  · have : Q = k := Option.some.inj hk; omega
theorem RS.keep (h : RS w R Q dd dn dc ds W s cs fv fl) (hb : Below W.heap.size W W') : RS w R Q dd dn dc ds W' s cs fv fl :=
  ⟨h.rd.keep hb, h.q.below hb h.q.lt, ownF_keep h.own hb, h.zs.below hb (Nat.le_refl _), h.zb, h.z.below hb h.z.lt, h.bel.trans (hb.mono h.bel.size), Nat.le_trans h.sz hb.size, h.rq⟩
theorem RS.row (h : RS w R Q dd dn dc ds W s cs fv fl) {row : Option Nat} (hg : W.grownBy W' row) (hk : ∀ k, row = some k → Q + 1 ≤ k) (ho : OwnF W' (Q + 1) fv' fl') : RS w R Q dd dn dc ds W' s cs fv' fl' := by
  have hrq := h.rq
  refine ⟨h.rd.gb hg (fun e => ?_) (fun k e => ?_), h.q.gb hg (fun e => ?_), ho, h.zs.gb hg (fun a ha e => ?_), h.zb, h.z.gb hg (fun e => ?_), h.bel.grown hg h.bel.size (fun k e => ?_), Nat.le_trans h.sz hg.size, hrq⟩
  · have := hk _ e.symm; omega
  · have := hk _ e; omega
  · have := hk _ e.symm; omega
  · have h1 := h.zb a ha; have := hk _ e.symm; omega
  · have := hk _ e.symm; omega
  · have := hk _ e; omega
end
theorem sm_range {z : Int} (h : 0 ≤ z) : -1 ≤ sm z ∧ sm z ≤ 1073741824 := by unfold sm; split <;> omega

end Go.Proofs.Ytgopcaemgcnapaa.Clep

/- What the document's own Unlist (package clepsydraref1) does when called: any text up to 2^40, any bound. -/
namespace Go.Proofs.Ytgopcaemgcnapaa.Clep
open Go.RowKit
set_option linter.unusedVariables false
set_option maxRecDepth 10000

theorem sz_drop {s : ByteArray} {zs : List Int} (h : Sz s zs) (P : Nat) (hP : P ≤ s.size) : Sz (s.extract P s.size) (zs.drop P) := by
  refine ⟨by rw [ByteArray.size_extract, List.length_drop, h.1]; omega, fun k hk => ?_⟩
  have hk2 : P + k < s.size := by rw [ByteArray.size_extract] at hk; omega
  have := h.2 (P + k) hk2
  rw [ByteArray.getElem_extract]
  rw [this]
  simp [List.getD]

set_option maxHeartbeats 2000000 in
theorem refunlist_any (s : ByteArray) (len : Nat) (zs : List Int) (most : Int) (w : World) (hlen : s.size = len) (hm : len ≤ 1099511627776) (hs : Sz s zs) (hzr0 : ∀ z ∈ zs, 0 ≤ z ∧ z < 256) (hmo : most ≤ 9223372036854775807) (hmo2 : -9223372036854775808 ≤ most) (r : List Int × Int × Int) (hr : Hid (ul zs most = r)) :
    Calls Try.prog 44 #[.string s, .int .i64 most] w fun e w' => ∃ v, e = .returned (.tuple #[v, .int .i64 r.2.1, .int .i64 r.2.2]) ∧ OwnU w' w.heap.size v r.1 ∧ Below w.heap.size w w' := by
  obtain ⟨i0, hi, hz0, hz1, hz2⟩ := info_parts info25
  have HS := hide hs
  have hzr := hide hzr0
  have hzl : Hid (zs.length = len) := hide (by rw [← hs.1]; exact hlen)
  have HL := hide hlen
  have hsz0 : s.size ≤ 1099511627776 := by omega
  have hlen2 : len ≤ s.size ∧ s.size ≤ len := by omega
  clear hs hzr0 hlen
  go_enter Try.func44, Try.ntmps44
  go_wp2_with fail
  have hf := tk_facts zs 0 0 (by omega) hzr.out (by omega) (by simp)
  have hsz := tk_size zs 0 0 (by omega)
  obtain ⟨C, S0, E, hT⟩ : ∃ C S0 E, tk zs 0 0 = (C, S0, E) := ⟨_, _, _, rfl⟩
  rw [hT] at hf hsz
  have HT := hide hT
  clear hT
  simp only at hf hsz
  refine (reftake_any s zs w (by omega) HS.out (range_of hzr.out)).mono ?_
  rw [HT.out]
  rintro e w1 ⟨rfl, rfl⟩
  unfold tup
  obtain ⟨P0, hP0⟩ : ∃ P0 : Nat, S0 = (P0 : Int) := ⟨S0.toNat, by omega⟩
  rw [hP0]
  have hP0l : P0 ≤ len := by have := hzl.out; omega
  have HP0 : Hid (P0 = S0.toNat) := hide (by omega)
  clear hP0
  by_cases hE : E = 0
  · have hEb : (E != 0) = false := by simp [hE]
    have HE := hide hE
    clear hE
    have hC0 := hf.1
    have hC1 := hf.2.1
    by_cases hC : max most 0 < C
    · have HRR : Hid (r = ([], 0, 2)) := hide (by rw [← hr.out]; unfold ul; rw [HT.out]; simp only; rw [if_pos HE.out, if_pos hC])
      by_cases hq : most < 0
      · have hCC : 0 < C := by omega
        clear hC
        go_wp2
        go_ret3
        rw [HRR.out]
        exact ⟨_, rfl, World.ownsRow_nil _ _ _ _, Below.refl _ _⟩
      · have hCC : most < C := by omega
        have hq0 : 0 ≤ most := by omega
        clear hC
        go_wp2
        go_ret3
        rw [HRR.out]
        exact ⟨_, rfl, World.ownsRow_nil _ _ _ _, Below.refl _ _⟩
    · have HRR : Hid (uls C.toNat zs P0 [] = r) := hide (by rw [← hr.out]; unfold ul; rw [HT.out]; simp only; rw [if_pos HE.out, if_neg hC, HP0.out])
      by_cases hq : most < 0
      · have hCC : C ≤ 0 := by omega
        clear hC hf hsz HP0
        go_wp2_with fail
        go_loopw [8, 10, 11] (fun t u i wr => ∃ (k P : Nat) (acc : List Int), t = .int .i64 P ∧ i = .int .u64 k ∧ (k : Int) ≤ C ∧ acc.length ≤ P ∧ P ≤ len ∧ Hid (uls (C.toNat - k) zs P acc = r) ∧ Hid (OwnU wr w1.heap.size u acc) ∧ Hid (Below w1.heap.size w1 wr)) (fun _ _ i _ => (C - intOf i).toNat)
        case atStart => exact ⟨0, P0, [], rfl, rfl, hC0, by simp, hP0l, HRR, hide (World.ownsRow_nil _ _ _ _), hide (Below.refl _ _)⟩
        case round =>
          obtain ⟨k, P, acc, rfl, rfl, hk, hacc, hP, hu, hown, hR⟩ := hrel
          by_cases hlt : (k : Int) < C
          · exact absurd hlt (by omega)
          · have HRR2 : Hid (r = (acc, (P : Int), 0)) := hide (by rw [← hu.out, show C.toNat - k = 0 from by omega]; rfl)
            go_wp2
            go_ret3
            rw [HRR2.out]
            exact ⟨_, rfl, hown.out, hR.out⟩
      · have hCC : C ≤ most := by omega
        have hq0 : 0 ≤ most := by omega
        clear hC hf hsz HP0
        go_wp2_with fail
        go_loopw [8, 10, 11] (fun t u i wr => ∃ (k P : Nat) (acc : List Int), t = .int .i64 P ∧ i = .int .u64 k ∧ (k : Int) ≤ C ∧ acc.length ≤ P ∧ P ≤ len ∧ Hid (uls (C.toNat - k) zs P acc = r) ∧ Hid (OwnU wr w1.heap.size u acc) ∧ Hid (Below w1.heap.size w1 wr)) (fun _ _ i _ => (C - intOf i).toNat)
        case atStart => exact ⟨0, P0, [], rfl, rfl, hC0, by simp, hP0l, HRR, hide (World.ownsRow_nil _ _ _ _), hide (Below.refl _ _)⟩
        case round =>
          obtain ⟨k, P, acc, rfl, rfl, hk, hacc, hP, hu, hown, hR⟩ := hrel
          by_cases hlt : (k : Int) < C
          · have hPs : P ≤ s.size := by omega
            have hf := tk_facts (zs.drop P) 0 0 (by omega) (fun z hz => hzr.out z (List.mem_of_mem_drop hz)) (by omega) (by simp)
            have hsz := tk_size (zs.drop P) 0 0 (by omega)
            obtain ⟨x, t, e, hT⟩ : ∃ x t e, tk (zs.drop P) 0 0 = (x, t, e) := ⟨_, _, _, rfl⟩
            rw [hT] at hf hsz
            have HT2 := hide hT
            clear hT
            simp only at hf hsz
            rw [List.length_drop] at hsz
            obtain ⟨q, hq'⟩ : ∃ q : Nat, t = (q : Int) := ⟨t.toNat, by omega⟩
            subst hq'
            go_wp2_with fail
            refine (reftake_any (s.extract P s.size) (zs.drop P) wr (by rw [ByteArray.size_extract]; omega) (sz_drop HS.out P hPs) (range_of fun z hz => hzr.out z (List.mem_of_mem_drop hz))).mono ?_
            rw [HT2.out]
            rintro en w2 ⟨rfl, rfl⟩
            unfold tup
            have hQl : P + q ≤ len := by have := hzl.out; omega
            have HF := hide hf
            have hx := hf.1
            have hx1 := hf.2.1
            clear hsz hf
            by_cases he : e = 0
            · have heb : (e != 0) = false := by simp [he]
              have hQP : 1 ≤ q := by have := HF.out.2.2 he; omega
              have HU2 : Hid (uls (C.toNat - (k + 1)) zs (P + q) (acc ++ [x]) = r) := hide (by rw [← hu.out, show C.toNat - k = (C.toNat - (k + 1)) + 1 from by omega, uls_yes _ zs P acc x _ e HT2.out he, Int.toNat_natCast])
              clear he
              have hszw := hide hR.out.size
              go_wp2_with (first
                | (at_builtin; refine wpList_append_own _ rfl _ _ 81 rfl w1.heap.size 24 i0 (.int .u64 0) 1 8 Try.underlying81 hi hz0 hz1 hz2 rfl (by decide) _ _ _ rfl (hown.out.alloc _) ⟨w2.heap.size, 0, none⟩ 1 1 [.int .u64 x] rfl rfl ?d1 ?d2 ?d3 ?d4 ?d5 ?_)
                | fail)
              case d1 => exact cell_one_new _ _ _
              case d2 => intro u hu; simp at hu; subst hu; rfl
              case d3 => unfold maxLen; omega
              case d4 => omega
              case d5 => have := hszw.out; simp; omega
              intro v' w3 hown' hgrow _
              have HW := hide (ownU_snoc hown')
              have HR3 : Hid (Below w1.heap.size w1 w3) := hide ((hR.out.alloc hszw.out _).grown hgrow (by have := hszw.out; simp; omega) (fun j hj => (World.ownsRow.lt hown.out j hj).1))
              clear hown' hgrow
              go_wp2
              go_roundw
              case rel => exact ⟨k + 1, P + q, acc ++ [x], by go_num, by go_num, by omega, by simp; omega, hQl, HU2, HW, HR3⟩
              case measure => simp [intOf]; omega
            · have heb : (e != 0) = true := by simp [he]
              have HRR2 : Hid (r = ([], 0, e)) := hide (by rw [← hu.out, show C.toNat - k = (C.toNat - (k + 1)) + 1 from by omega, uls_no _ zs P acc x _ e HT2.out he])
              clear he
              go_wp2
              go_ret3
              rw [HRR2.out]
              exact ⟨_, rfl, World.ownsRow_nil _ _ _ _, hR.out⟩
          · have HRR2 : Hid (r = (acc, (P : Int), 0)) := hide (by rw [← hu.out, show C.toNat - k = 0 from by omega]; rfl)
            go_wp2
            go_ret3
            rw [HRR2.out]
            exact ⟨_, rfl, hown.out, hR.out⟩
  · have hEb : (E != 0) = true := by simp [hE]
    have HRR : Hid (r = ([], 0, E)) := hide (by rw [← hr.out]; unfold ul; rw [HT.out]; simp only; rw [if_neg hE])
    clear hE
    go_wp2
    go_ret3
    rw [HRR.out]
    exact ⟨_, rfl, World.ownsRow_nil _ _ _ _, Below.refl _ _⟩

end Go.Proofs.Ytgopcaemgcnapaa.Clep

/- What the document's own ReadEdit does when called: what its blocks hold between its steps; when the bytes are no Edit. No conditions. -/
namespace Go.Proofs.Ytgopcaemgcnapaa.Clep
open Go.RowKit
set_option linter.unusedVariables false
set_option maxRecDepth 10000

theorem red_none {X : List Int} (h : okR X = true → mayB (rawE X) = true → False) : red X = none := by
  unfold red
  rw [if_neg]
  intro hh
  rw [Bool.and_eq_true] at hh
  exact h hh.1 hh.2
theorem red_drop {X : List Int} (z : Int) (hz : z ∈ (ul X 40).1) (hb : 1073741824 < z) : red X = none := red_none fun _ hm => by
  have := ((emay_parts ((mayB_iff _).1 hm)).2.1 z hz).2
  omega
theorem okR_parts {X : List Int} (h : okR X = true) : (ul X 40).2.2 = 0 ∧ cX X ≤ 40 ∧ (stN (s1X X) (2 * (cX X).toNat + 5)).2 = false ∧ (stN (s1X X) (2 * (cX X).toNat + 5)).1.length = 0 := by
  unfold okR at h
  simp only [Bool.and_eq_true, decide_eq_true_eq, Bool.not_eq_true'] at h
  exact ⟨h.1, h.2.1, h.2.2.1, h.2.2.2⟩
theorem red_head {X : List Int} (h : (s1X X).2 = true) : red X = none := red_none fun ho _ => by
  have h1 := stN_bad (s1X X) 0 (2 * (cX X).toNat + 5) h
  rw [Nat.zero_add, (okR_parts ho).2.2.1] at h1
  cases h1
theorem red_count {X : List Int} (h : 40 < cX X) : red X = none := red_none fun ho _ => by
  have := (okR_parts ho).2.1
  omega
theorem red_stop {X : List Int} (j : Nat) (hj : j ≤ 2 * (cX X).toNat + 5) (h : (stN (s1X X) j).2 = true) : red X = none := red_none fun ho _ => by
  have h1 := stN_bad (s1X X) j (2 * (cX X).toNat + 5 - j) h
  rw [show j + (2 * (cX X).toNat + 5 - j) = 2 * (cX X).toNat + 5 from by omega, (okR_parts ho).2.2.1] at h1
  cases h1
theorem red_end {X : List Int} (h : 0 < (stN (s1X X) (2 * (cX X).toNat + 5)).1.length) : red X = none := red_none fun ho _ => by
  have := (okR_parts ho).2.2.2
  omega
theorem red_great {X : List Int} (j : Nat) (hj : j < 2 * (cX X).toNat + 5) (h : 281474976710656 < nr (s1X X) j) : red X = none := red_none fun _ hm => by
  have hp := emay_parts ((mayB_iff _).1 hm)
  unfold rawE at hp
  simp only at hp
  obtain ⟨_, _, hf, hl, h1, h2, h3, h4⟩ := hp
  rcases Nat.lt_or_ge j (2 * (cX X).toNat) with hlt | hge
  · have hmem : (⟨nr (s1X X) (2 * (j / 2)), nr (s1X X) (2 * (j / 2) + 1)⟩ : Fi) ∈ fX X (cX X).toNat := List.mem_map.2 ⟨j / 2, List.mem_range.2 (by omega), rfl⟩
    have hq := hf _ hmem
    simp only at hq
    rcases Nat.mod_two_eq_zero_or_one j with hm2 | hm2
    · rw [show 2 * (j / 2) = j from by omega] at hq
      omega
    · rw [show 2 * (j / 2) + 1 = j from by omega] at hq
      omega
  · obtain ⟨t, rfl⟩ : ∃ t, j = 2 * (cX X).toNat + t := ⟨j - 2 * (cX X).toNat, by omega⟩
    have ht : t = 0 ∨ t = 1 ∨ t = 2 ∨ t = 3 ∨ t = 4 := by omega
    generalize nr (s1X X) = N at *
    generalize 2 * (cX X).toNat = M at *
    rcases ht with rfl | rfl | rfl | rfl | rfl
    · rw [Nat.add_zero] at h; omega
    · omega
    · omega
    · omega
    · omega
/-- Between the steps of the document's ReadEdit. -/
structure RT (w : World) (Q : Nat) (W : World) (cs : Array Value) : Prop where
  z : Ek W w.heap.size zE7 31
  q : Ek W Q cs 31
  bel : Below w.heap.size w W
  lt : w.heap.size < Q
section
variable {w W W' : World} {Q : Nat} {cs : Array Value}
theorem RT.drew (h : RT w Q W cs) : RT w Q W.drew cs := ⟨h.z.drew, h.q.drew, h.bel.drew, h.lt⟩
theorem RT.keep (h : RT w Q W cs) (hb : Below W.heap.size W W') : RT w Q W' cs := ⟨h.z.below hb h.z.lt, h.q.below hb h.q.lt, h.bel.trans (hb.mono h.bel.size), h.lt⟩
theorem RT.row (h : RT w Q W cs) {row : Option Nat} (hg : W.grownBy W' row) (hk : ∀ k, row = some k → Q + 1 ≤ k) : RT w Q W' cs := by
  have hl := h.lt
  refine ⟨h.z.gb hg (fun e => ?_), h.q.gb hg (fun e => ?_), h.bel.grown hg h.bel.size (fun k e => ?_), hl⟩
  · have := hk _ e.symm; omega
  · have := hk _ e.symm; omega
  · have := hk _ e; omega
theorem RT.setq (h : RT w Q W cs) (k : Nat) (u : Value) : RT w Q (W.setCell ⟨Q, k, none⟩ u) (cs.setIfInBounds k u) := by
  have hl := h.lt
  have hg := fgb_set W ⟨Q, k, none⟩ u
  refine ⟨h.z.gb hg (fun e => ?_), h.q.set k u, h.bel.grown hg h.bel.size (fun k e => ?_), hl⟩
  · have : w.heap.size = Q := Option.some.inj e; omega
  · have : Q = k := Option.some.inj e; omega
theorem RT.sz (h : RT w Q W cs) : Q + 1 ≤ W.heap.size := h.q.lt
end
theorem Us.gb {w w' : World} {row : Option Nat} {ao : Option Addr} {n c : Nat} {l : List Int} (h : Us w ao n c l) (hg : w.grownBy w' row) (hne : ∀ a, ao = some a → some a.block ≠ row) : Us w' ao n c l := by
  refine ⟨h.1, h.2.1, h.2.2.1, fun h0 => ?_⟩
  obtain ⟨b, off, e, hc⟩ := h.2.2.2 h0
  refine ⟨b, off, e, fun i hi => ?_⟩
  have := hc i hi
  exact gb_cells hg (World.block_lt_of_cell? w _ this) (by have := hne _ e; exact this) _ _ this
theorem ownZ_grown {w w' : World} {B : Nat} {v : Value} {l : List Int} {row : Option Nat} (h : OwnZ w B v l) (hg : w.grownBy w' row) (hne : ∀ k, row = some k → k < B) : OwnZ w' B v l := by
  refine World.ownsRow.kept h hg ?_
  cases hv : v.ownBlock with
  | none => exact .inl rfl
  | some k =>
    refine .inr (fun e => ?_)
    have h1 := World.ownsRow.lt h k hv
    have := hne k e.symm
    omega
theorem ownU_grown {w w' : World} {B : Nat} {v : Value} {l : List Int} {row : Option Nat} (h : OwnU w B v l) (hg : w.grownBy w' row) (hne : ∀ k, row = some k → k < B) : OwnU w' B v l := by
  refine World.ownsRow.kept h hg ?_
  cases hv : v.ownBlock with
  | none => exact .inl rfl
  | some k =>
    refine .inr (fun e => ?_)
    have h1 := World.ownsRow.lt h k hv
    have := hne k e.symm
    omega
theorem step_append_z {w : World} {ops : Array Oper} {o : Oper} {a : Act} {K : Act → World → Prop} {Q : Exit → Act → World → Prop} {E : Prop} (hgd : o.guard = none) (s x : Operand)
    (ho : o.op = .call { callee := .builtin .append, args := #[s, x], argTypes := #[22, 22] })
    (base : Nat) (v : Value) (ns : List Int) (hs : a.eval s = v) (hown : OwnZ w base v ns) (p : Nat) (z : Int) (hx : a.eval x = .slice (some ⟨p, 0, none⟩) 1 1) (hp : Ek w p #[.int .i64 z] 3)
    (hlen : ns.length ≤ 100000) (hbase : base ≤ w.heap.size)
    (h : ∀ v' w', OwnZ w' base v' (ns ++ [z]) → w.grownBy w' v.ownBlock → (∀ k, v.ownBlock = some k → base ≤ k) → K (a.put o.dst v') w') :
    if Region.wanted o (yielded ops a.tmps) = true then Oper.wp Try.prog o a w K Q else E := by
  have hw : Region.wanted o (yielded ops a.tmps) = true := by simp [Region.wanted, hgd]
  rw [if_pos hw]
  obtain ⟨i0, hi, hz0, hz1, hz2⟩ := info_parts info_int
  refine wp_append_own _ s x 22 ho base 3 i0 (.int .i64 0) 1 8 Try.underlying22 hi hz0 hz1 hz2 rfl (by decide) v ns.length (iv9 ns) hs hown ⟨p, 0, none⟩ 1 1 [.int .i64 z] hx rfl ?_ ?_ (by unfold maxLen; omega) (by omega) hbase ?_
  · intro j u hu
    match j, hu with
    | 0, hu =>
      simp at hu
      subst hu
      exact hp.cell rfl
    | k + 1, hu => simp at hu
  · intro u hu
    simp at hu
    subst hu
    rfl
  · intro v' w' h1 h2 _
    refine h v' w' ?_ h2 (fun k hk => (World.ownsRow.lt hown k hk).1)
    unfold OwnZ iv9
    simpa [iv9] using h1
/-- Between the rounds of the last loop of the document's ReadEdit. -/
structure RV (w : World) (Q B : Nat) (dd : Option Addr) (dn dc : Nat) (ds : List Int) (la : Option Addr) (ln lc : Nat) (ls : List Int) (W : World) (cs : Array Value) (fv : Value) (fl : List Fi) : Prop where
  rt : RT w Q W cs
  own : OwnF W B fv fl
  d : Zs W dd dn dc ds
  l : Us W la ln lc ls
  db : ∀ a, dd = some a → Q < a.block ∧ a.block < B
  lb : ∀ a, la = some a → Q < a.block ∧ a.block < B
  sz : B ≤ W.heap.size
  qb : Q < B
section
variable {w W W' : World} {Q B : Nat} {dd : Option Addr} {dn dc : Nat} {ds : List Int} {la : Option Addr} {ln lc : Nat} {ls : List Int} {cs : Array Value} {fv fv' : Value} {fl fl' : List Fi}
theorem RV.keep (h : RV w Q B dd dn dc ds la ln lc ls W cs fv fl) (hb : Below W.heap.size W W') : RV w Q B dd dn dc ds la ln lc ls W' cs fv fl :=
  ⟨h.rt.keep hb, ownF_keep h.own hb, h.d.below hb (Nat.le_refl _), h.l.below hb (Nat.le_refl _), h.db, h.lb, Nat.le_trans h.sz hb.size, h.qb⟩
theorem RV.drew (h : RV w Q B dd dn dc ds la ln lc ls W cs fv fl) : RV w Q B dd dn dc ds la ln lc ls W.drew cs fv fl := h.keep (Below.refl _ W).drew
theorem RV.row (h : RV w Q B dd dn dc ds la ln lc ls W cs fv fl) {row : Option Nat} (hg : W.grownBy W' row) (hk : ∀ k, row = some k → B ≤ k) (ho : OwnF W' B fv' fl') : RV w Q B dd dn dc ds la ln lc ls W' cs fv' fl' := by
  have hq := h.qb
  refine ⟨h.rt.row hg (fun k e => by have := hk k e; omega), ho, h.d.gb hg (fun a ha e => ?_), h.l.gb hg (fun a ha e => ?_), h.db, h.lb, Nat.le_trans h.sz hg.size, hq⟩
  · have := h.db a ha; have := hk _ e.symm; omega
  · have := h.lb a ha; have := hk _ e.symm; omega
theorem RV.setq (h : RV w Q B dd dn dc ds la ln lc ls W cs fv fl) (k : Nat) (u : Value) : RV w Q B dd dn dc ds la ln lc ls (W.setCell ⟨Q, k, none⟩ u) (cs.setIfInBounds k u) fv fl := by
  have hq := h.qb
  have hg := fgb_set W ⟨Q, k, none⟩ u
  refine ⟨h.rt.setq k u, ownF_grown h.own hg (fun k e => ?_), h.d.gb hg (fun a ha e => ?_), h.l.gb hg (fun a ha e => ?_), h.db, h.lb, Nat.le_trans h.sz hg.size, hq⟩
  · have : Q = k := Option.some.inj e; omega
  · have := h.db a ha; have : a.block = Q := Option.some.inj e; omega
  · have := h.lb a ha; have : a.block = Q := Option.some.inj e; omega
end
theorem map_range_get (f : Nat → Int) (n i : Nat) (h : i < n) : ((List.range n).map f).getD i 0 = f i := by
  simp [List.getD, h]

end Go.Proofs.Ytgopcaemgcnapaa.Clep

/- The region of the document's ReadEdit that stores five numbers: what each slot holds once its operation has come up. No conditions. -/
namespace Go.Proofs.Ytgopcaemgcnapaa.Clep
open Go.RowKit
set_option linter.unusedVariables false
set_option maxRecDepth 10000

/-- The Edit's cells between the stores. -/
def csq (d f : Value) (v0 v1 v2 v3 v4 : Int) (L : Nat → Bool) : Array Value := #[d, f, .int .i64 (if L 26 = true then v0 else 0), .int .u64 (if L 28 = true then v1 else 0), .int .u64 (if L 30 = true then v2 else 0), .int .u64 (if L 32 = true then v3 else 0), .int .u64 (if L 34 = true then v4 else 0)]
section
variable {d f : Value} {v0 v1 v2 v3 v4 : Int} {L : Nat → Bool}
theorem csq_old (i : Nat) (h0 : i ≠ 26) (h1 : i ≠ 28) (h2 : i ≠ 30) (h3 : i ≠ 32) (h4 : i ≠ 34) : csq d f v0 v1 v2 v3 v4 (upd L i) = csq d f v0 v1 v2 v3 v4 L := by
  unfold csq upd
  rw [if_neg (Ne.symm h0), if_neg (Ne.symm h1), if_neg (Ne.symm h2), if_neg (Ne.symm h3), if_neg (Ne.symm h4)]
theorem csq_26 : csq d f v0 v1 v2 v3 v4 (upd L 26) = (csq d f v0 v1 v2 v3 v4 L).setIfInBounds 2 (.int .i64 v0) := by unfold csq upd; simp
theorem csq_28 : csq d f v0 v1 v2 v3 v4 (upd L 28) = (csq d f v0 v1 v2 v3 v4 L).setIfInBounds 3 (.int .u64 v1) := by unfold csq upd; simp
theorem csq_30 : csq d f v0 v1 v2 v3 v4 (upd L 30) = (csq d f v0 v1 v2 v3 v4 L).setIfInBounds 4 (.int .u64 v2) := by unfold csq upd; simp
theorem csq_32 : csq d f v0 v1 v2 v3 v4 (upd L 32) = (csq d f v0 v1 v2 v3 v4 L).setIfInBounds 5 (.int .u64 v3) := by unfold csq upd; simp
theorem csq_34 : csq d f v0 v1 v2 v3 v4 (upd L 34) = (csq d f v0 v1 v2 v3 v4 L).setIfInBounds 6 (.int .u64 v4) := by unfold csq upd; simp
theorem csq_start (h : L = fun _ => false) : csq d f v0 v1 v2 v3 v4 L = #[d, f, .int .i64 0, .int .u64 0, .int .u64 0, .int .u64 0, .int .u64 0] := by subst h; unfold csq; simp
theorem csq_end (h0 : L 26 = true) (h1 : L 28 = true) (h2 : L 30 = true) (h3 : L 32 = true) (h4 : L 34 = true) : csq d f v0 v1 v2 v3 v4 L = #[d, f, .int .i64 v0, .int .u64 v1, .int .u64 v2, .int .u64 v3, .int .u64 v4] := by unfold csq; rw [if_pos h0, if_pos h1, if_pos h2, if_pos h3, if_pos h4]
end

end Go.Proofs.Ytgopcaemgcnapaa.Clep

/- What the document's own ReadEdit does when called (a walk over the translated program): for any bytes of at most a million. -/
namespace Go.Proofs.Ytgopcaemgcnapaa.Clep
open Go.RowKit
set_option linter.unusedVariables false
set_option maxRecDepth 10000

theorem rread_results {w : World} {R : Nat} {d v : Value} {A B C D E e : Int} (h : Ek w R #[d, v, .int .i64 A, .int .u64 B, .int .u64 C, .int .u64 D, .int .u64 E] 31) (ts : Array Value) (h2 : ts.getD 2 undef = .pointer (some ⟨R, 0, none⟩)) (h3 : ts.getD 3 undef = .int .i64 e) :
    (results Try.f19 ts).run Try.prog w = .ok (.tuple #[.agg #[d, v, .int .i64 A, .int .u64 B, .int .u64 C, .int .u64 D, .int .u64 E], .int .i64 e]) w := by
  have c0 := h.cell (o := 0) rfl
  have c1 := h.cell (o := 1) rfl
  have c2 := h.cell (o := 2) rfl
  have c3 := h.cell (o := 3) rfl
  have c4 := h.cell (o := 4) rfl
  have c5 := h.cell (o := 5) rfl
  have c6 := h.cell (o := 6) rfl
  rw [Array.getD_eq_getD_getElem?] at h2 h3
  simp [results, Try.results19, go_sem, c0, c1, c2, c3, c4, c5, c6, h2, h3]

set_option maxHeartbeats 4000000 in
theorem rread_any (s : ByteArray) (zs : List Int) (w : World) (hm : s.size ≤ 1000000) (hs : Sz s zs) (hbr : ByteL zs) :
    Calls Try.prog 19 #[.string s] w (RdA (red zs) w) := by
  have hzl : s.size ≤ zs.length ∧ zs.length ≤ s.size := by have := hs.1; omega
  have HS := hide hs
  have HBR := hide hbr
  have HRN := hide (show red zs = none → ∀ W, Below w.heap.size w W → RdA (red zs) w (.returned (.tuple #[edV none 0 0 none 0 0 zE, .int .i64 3])) W from fun e W hW => by rw [e]; exact ⟨rfl, hW⟩)
  have HRS := hide (show ∀ E W da dc aa ac, red zs = some E → Zs W da E.d.length dc E.d → Fs W aa E.a.length ac E.a → Below w.heap.size w W → RdA (red zs) w (.returned (.tuple #[edV da E.d.length dc aa E.a.length ac E, .int .i64 0])) W from fun E W da dc aa ac e h1 h2 h3 => by rw [e]; exact ⟨⟨da, dc, aa, ac, rfl, h1, h2⟩, h3⟩)
  have HUP := hide (ul_place zs 40)
  have HUN := hide (ul_nums zs 40 hbr (by omega))
  have HD := hide (fun z => red_drop (X := zs) z)
  have HUE := hide (show (ul zs 40).2.2 ≠ 0 → red zs = none from fun h => red_none fun ho _ => h (okR_parts ho).1)
  have CU := hide (fun W => refunlist_any s s.size zs 40 W rfl (by omega) hs hbr (by omega) (by omega) (ul zs 40) (hide rfl))
  have HS0 := hide (show s0X zs = (zs.drop (ul zs 40).2.1.toNat, false) from rfl)
  have HUZ0 := hide (show (ul zs 40).2.2 = (ul zs 40).2.2 from rfl)
  have HRW := hide (show (rawE zs).d = (ul zs 40).1 from rfl)
  generalize hRR : RdA (red zs) w = RR at *
  clear hRR
  obtain ⟨d0, sz, er, hu⟩ : ∃ d sz er, ul zs 40 = (d, sz, er) := ⟨_, _, _, rfl⟩
  have HUZ := hide (show (ul zs 40).2.2 = er from by rw [hu])
  clear HUZ0
  rw [hu] at HUP HUN HD HUE CU HS0 HRW
  simp only at HUP HUN HD HUE CU HS0 HRW
  unfold edV zE at HRN
  unfold edV at HRS
  simp only at HRN
  clear hs hbr hu
  have A0 := (Below.refl w.heap.size w).alloc (Nat.le_refl _) (Obj.cells #[.slice none 0 0, .slice none 0 0, .int .i64 0, .int .u64 0, .int .u64 0, .int .u64 0, .int .u64 0] 31)
  have HB0 := hide A0
  have HZ0 := hide (ek_new w #[.slice none 0 0, .slice none 0 0, .int .i64 0, .int .u64 0, .int .u64 0, .int .u64 0, .int .u64 0] 31)
  have HSA := hide (show (w.alloc (Obj.cells #[.slice none 0 0, .slice none 0 0, .int .i64 0, .int .u64 0, .int .u64 0, .int .u64 0, .int .u64 0] 31)).heap.size = w.heap.size + 1 by simp)
  clear A0
  go_enter Try.func19, Try.ntmps19
  go_wp2_with fail
  refine (CU.out _).mono ?_
  rintro e w1 ⟨v1, rfl, ho1, hb1⟩
  have HZ1 := hide (HZ0.out.below hb1 HZ0.out.lt)
  have HB1 := hide (HB0.out.trans (hb1.mono HB0.out.size))
  have HO1 := hide ho1
  have hl1 : w.heap.size + 1 ≤ w1.heap.size := by rw [← HSA.out]; exact hb1.size
  clear CU ho1 hb1 HB0 HZ0 HSA
  by_cases her : er = 0
  · subst her
    have hup := HUP.out rfl
    have hun := HUN.out
    have hdl : (d0.length : Int) ≤ 40 := hun.2 rfl
    obtain ⟨sn, rfl⟩ := Int.eq_ofNat_of_zero_le hup.1
    simp only [Int.toNat_natCast] at HS0
    have hsn : sn ≤ s.size := by omega
    obtain ⟨ad, dk, rfl, hus⟩ := ownU_us HO1.out hun.1
    have hA1 := (Below.refl _ w1).alloc (Nat.le_refl _) (Obj.cells #[.slice none 0 0, .slice none 0 0, .int .i64 0, .int .u64 0, .int .u64 0, .int .u64 0, .int .u64 0] 31)
    have HU := hide (show ∀ W, Below w1.heap.size w1 W → Us W ad d0.length dk d0 from fun W hW => hus.below hW (Nat.le_refl _))
    have RT0 := hide (show RT w w1.heap.size (w1.alloc (Obj.cells #[.slice none 0 0, .slice none 0 0, .int .i64 0, .int .u64 0, .int .u64 0, .int .u64 0, .int .u64 0] 31)) #[.slice none 0 0, .slice none 0 0, .int .i64 0, .int .u64 0, .int .u64 0, .int .u64 0, .int .u64 0] from ⟨HZ1.out.below hA1 HZ1.out.lt, ek_new w1 _ _, HB1.out.trans (hA1.mono HB1.out.size), by omega⟩)
    have HDR := hide hun.1
    have HB2 := hide hA1
    obtain ⟨dn, hdn⟩ : ∃ dn, d0.length = dn := ⟨_, rfl⟩
    have HDN := hide hdn
    rw [hdn] at HU hdl ⊢
    have hl1q : w.heap.size < w1.heap.size := by omega
    clear HUP HUN hun hA1 hus HO1 HZ1 hdn
    go_wp2_with fail
    generalize hQ : w1.heap.size = Q at *
    clear hQ
    go_loopw [8] (fun t wr => ∃ i : Nat, i ≤ dn ∧ t = .int .i64 i ∧ Hid (∃ a k, RT w Q wr #[.slice a i k, .slice none 0 0, .int .i64 0, .int .u64 0, .int .u64 0, .int .u64 0, .int .u64 0] ∧ OwnZ wr (Q + 1) (.slice a i k) (d0.take i) ∧ Below Q w1 wr) ∧ Hid (∀ z ∈ d0.take i, z ≤ 1073741824)) (fun t _ => dn - (intOf t).toNat)
    case atStart => exact ⟨0, by omega, rfl, hide ⟨none, 0, RT0.out, ownZ_nil _ _, HB2.out⟩, hide (by simp)⟩
    case round =>
      obtain ⟨i, hi, rfl, hst, hall⟩ := hrel
      obtain ⟨fa, fk, st, so, sb⟩ := hst.out
      have S0 := hide st
      have O0 := hide so
      have B0 := hide sb
      clear hst st so sb RT0 HB2
      by_cases hlt : i < dn
      · obtain ⟨db, dof, hda, hcell⟩ := (HU.out wr B0.out).2.2.2 (by omega)
        subst hda
        have hck := hcell i hlt
        have hkl : i < d0.length := by rw [HDN.out]; exact hlt
        have hgd : d0.getD i 0 = d0[i] := by simp [List.getD, List.getElem?_eq_getElem hkl]
        rw [hgd] at hck
        obtain ⟨z, hz⟩ : ∃ z, d0[i] = z := ⟨_, rfl⟩
        have hzm : z ∈ d0 := by rw [← hz]; exact List.getElem_mem hkl
        have hzr := HDR.out z hzm
        rw [hz] at hck
        have HTK := hide (show d0.take (i + 1) = d0.take i ++ [z] from by rw [List.take_add_one, List.getElem?_eq_getElem hkl, hz]; rfl)
        have hqi : (i : Int) < (dn : Int) := by omega
        by_cases hbig : (1073741824 : Int) < z
        · have HN := hide (HRN.out (HD.out z hzm hbig))
          have HZ := hide S0.out.z
          have HB := hide S0.out.bel
          have z0 : wr.cell? ⟨w.heap.size, 0, none⟩ = some (.slice none 0 0) := (HZ.out).cell rfl
          have y0 : wr.frozen? ⟨w.heap.size, 0, none⟩ = false := (HZ.out).free 0
          have z1 : wr.cell? ⟨w.heap.size, 1, none⟩ = some (.slice none 0 0) := (HZ.out).cell rfl
          have y1 : wr.frozen? ⟨w.heap.size, 1, none⟩ = false := (HZ.out).free 1
          have z2 : wr.cell? ⟨w.heap.size, 2, none⟩ = some (.int .i64 0) := (HZ.out).cell rfl
          have y2 : wr.frozen? ⟨w.heap.size, 2, none⟩ = false := (HZ.out).free 2
          have z3 : wr.cell? ⟨w.heap.size, 3, none⟩ = some (.int .u64 0) := (HZ.out).cell rfl
          have y3 : wr.frozen? ⟨w.heap.size, 3, none⟩ = false := (HZ.out).free 3
          have z4 : wr.cell? ⟨w.heap.size, 4, none⟩ = some (.int .u64 0) := (HZ.out).cell rfl
          have y4 : wr.frozen? ⟨w.heap.size, 4, none⟩ = false := (HZ.out).free 4
          have z5 : wr.cell? ⟨w.heap.size, 5, none⟩ = some (.int .u64 0) := (HZ.out).cell rfl
          have y5 : wr.frozen? ⟨w.heap.size, 5, none⟩ = false := (HZ.out).free 5
          have z6 : wr.cell? ⟨w.heap.size, 6, none⟩ = some (.int .u64 0) := (HZ.out).cell rfl
          have y6 : wr.frozen? ⟨w.heap.size, 6, none⟩ = false := (HZ.out).free 6
          clear HRN HRS HD hcell hgd hz HTK
          go_wp2
          have HZ7 := eset7 (HZ.out) (.slice none 0 0) (.slice none 0 0) (.int .i64 0) (.int .u64 0) (.int .u64 0) (.int .u64 0) (.int .u64 0)
          refine bodyPost_ret (rread_results (e := 3) HZ7 _ rfl rfl) rfl ?_
          exact HN.out _ ((HB.out).grown (gset7 _ w.heap.size _ _ _ _ _ _ _) (HB.out).size (fun k hk => by have : w.heap.size = k := Option.some.inj hk; omega))
        · have HLT := hide (show (d0.take i).length ≤ 100000 from by rw [List.length_take]; omega)
          have hwz : IntKind.i64.wrap z = z := by simp [IntKind.wrap, IntKind.bits, IntKind.signed]; omega
          have q1 : wr.cell? ⟨Q, 0, none⟩ = some (.slice fa i fk) := S0.out.q.cell rfl
          have hQl : Q < wr.heap.size := S0.out.q.lt
          have hdbl : db < wr.heap.size := World.block_lt_of_cell? wr _ hck
          have A7 := (Below.refl _ wr.drew).alloc (Nat.le_refl _) (Obj.cells #[.int .i64 z] 3)
          have S7 := hide (S0.out.drew.keep A7)
          have HE7 := hide (ek_new wr.drew #[.int .i64 z] 3)
          have HO7 := hide (show OwnZ (wr.drew.alloc (Obj.cells #[.int .i64 z] 3)) (Q + 1) (.slice fa i fk) (d0.take i) from by
            have h0 : OwnZ wr.drew (Q + 1) (.slice fa i fk) (d0.take i) := ownZ_grown O0.out (fgb_below (Below.refl _ wr).drew none) (fun k h => by cases h)
            exact ownZ_grown h0 (fgb_below A7 none) (fun k h => by cases h))
          have HSZ7 := hide S7.out.sz
          have HB7 := hide (B0.out.drew.trans (A7.mono (Nat.le_of_lt S0.out.drew.q.lt)))
          clear A7 hcell hgd hz HD
          go_wp2_with fail
          go_region_law (refine step_append_z rfl (.tmp 41) (.tmp 47) rfl (Q + 1) _ (d0.take i) (by first | rfl | simp [Act.eval, Act.put]) HO7.out wr.heap.size z (by first | rfl | simp [Act.eval, Act.put]) HE7.out HLT.out HSZ7.out ?_; intro v8 w8 o8 g8 k8; have S8 := hide (S7.out.row g8 k8); have B8 := hide (HB7.out.grown g8 (Nat.le_of_lt S7.out.q.lt) (fun k hk => by have := k8 k hk; omega)); have o9 : OwnZ w8 (Q + 1) v8 (d0.take (i + 1)) := (HTK.out.symm ▸ o8); obtain ⟨a8, c8, hv8, _, _, _⟩ := ownZ_zs o9 (fun y hy => by have := HDR.out y (List.mem_of_mem_take hy); have h2 : y ≤ 1073741824 := (by rw [HTK.out] at hy; rcases List.mem_append.1 hy with e | e; exact hall.out y e; rw [List.mem_singleton.1 e]; omega); omega); rw [show (d0.take (i + 1)).length = i + 1 from by rw [List.length_take]; omega] at hv8; subst hv8; have O8 := hide o9; have q8 : w8.cell? ⟨Q, 0, none⟩ = some (.slice fa i fk) := S8.out.q.cell rfl; have f8 := S8.out.q.free 0; clear o8 g8 k8 o9)
          all_goals
            clear q1
            go_wp2
            go_roundw
            case rel => exact ⟨i + 1, by omega, by go_num, hide ⟨a8, c8, S8.out.setq 0 (.slice a8 (i + 1) c8), ownZ_grown O8.out (fgb_set w8 ⟨Q, 0, none⟩ _) (fun k hk => by have : Q = k := Option.some.inj hk; omega), B8.out.grown (fgb_set w8 ⟨Q, 0, none⟩ _) (Nat.le_of_lt S8.out.q.lt) (fun k hk => by have : Q = k := Option.some.inj hk; omega)⟩, hide (by rw [HTK.out]; intro y hy; rcases List.mem_append.1 hy with e | e; exact hall.out y e; rw [List.mem_singleton.1 e]; omega)⟩
            case measure => simp [intOf]; omega
      · obtain rfl : i = dn := by omega
        obtain ⟨x1, hx1⟩ : ∃ x, x = wr := ⟨_, rfl⟩
        subst hx1
        have hqi : ¬ ((i : Int) < (i : Int)) := by omega
        have htk : d0.take i = d0 := List.take_of_length_le (by rw [HDN.out]; exact Nat.le_refl _)
        have hso := O0.out
        have hal := hall.out
        rw [htk] at hso hal
        obtain ⟨fa', fk', hfv, hfkm, hzs, hzb⟩ := ownZ_zs hso (fun y hy => by have := HDR.out y hy; have := hal y hy; omega)
        rw [HDN.out] at hfv hzs
        cases hfv
        have HZD := hide (show ∀ W, Below x1.heap.size x1 W → Zs W fa i fk d0 from fun W hW => hzs.below hW (Nat.le_refl _))
        have HZB := hide (show ∀ a, fa = some a → Q + 1 ≤ a.block ∧ a.block < x1.heap.size from fun a ha => World.ownsRow.lt hso a.block (by rw [ha]; rfl))
        have HAL := hide hal
        clear hall hso hal hzs hzb O0 htk HU B0
        have hf := tk_facts (zs.drop sn) 0 0 (by omega) (fun z hz => HBR.out z (List.mem_of_mem_drop hz)) (by omega) (by simp)
        have hsz := tk_size (zs.drop sn) 0 0 (by omega)
        obtain ⟨C, t0, e0, hT⟩ : ∃ x t e, tk (zs.drop sn) 0 0 = (x, t, e) := ⟨_, _, _, rfl⟩
        rw [hT] at hf hsz
        simp only at hf hsz
        rw [List.length_drop] at hsz
        obtain ⟨q0, rfl⟩ := Int.eq_ofNat_of_zero_le hsz.1
        have hq0 : sn + q0 ≤ s.size := by omega
        have CT := hide (show Calls Try.prog 45 #[.string (s.extract sn s.size)] x1 fun e w' => e = .returned (.tuple #[.int .u64 C, .int .i64 (q0 : Int), .int .i64 e0]) ∧ w' = x1 from by
          have := reftake_any (s.extract sn s.size) (zs.drop sn) x1 (by rw [ByteArray.size_extract]; omega) (sz_drop HS.out sn hsn) (range_of fun z hz => HBR.out z (List.mem_of_mem_drop hz))
          rw [hT] at this
          exact this)
        have HT := hide hT
        have hC0 := hf.1
        have hC1 := hf.2.1
        clear hf hsz hT
        go_wp2_with fail
        refine CT.out.mono ?_
        rintro e y ⟨rfl, hy⟩
        have hy' := hy.symm
        subst hy'
        have HZ := hide S0.out.z
        have HB := hide S0.out.bel
        clear CT
        by_cases he0 : e0 = 0
        · have heb : (e0 != 0) = false := by simp [he0]
          have HCX := hide (show cX zs = C from by unfold cX rt; rw [HS0.out]; simp only; rw [HT.out]; simp only; rw [if_pos he0])
          have HS1 := hide (show s1X zs = (zs.drop (sn + q0), false) from by unfold s1X rt; rw [HS0.out]; simp only; rw [HT.out]; simp only; rw [if_pos he0, Int.toNat_natCast, List.drop_drop])
          clear he0 HT
          by_cases hc40 : (40 : Int) < C
          · have HN := hide (HRN.out (red_count (by rw [HCX.out]; exact hc40)))
            have z0 : x1.cell? ⟨w.heap.size, 0, none⟩ = some (.slice none 0 0) := (HZ.out).cell rfl
            have y0 : x1.frozen? ⟨w.heap.size, 0, none⟩ = false := (HZ.out).free 0
            have z1 : x1.cell? ⟨w.heap.size, 1, none⟩ = some (.slice none 0 0) := (HZ.out).cell rfl
            have y1 : x1.frozen? ⟨w.heap.size, 1, none⟩ = false := (HZ.out).free 1
            have z2 : x1.cell? ⟨w.heap.size, 2, none⟩ = some (.int .i64 0) := (HZ.out).cell rfl
            have y2 : x1.frozen? ⟨w.heap.size, 2, none⟩ = false := (HZ.out).free 2
            have z3 : x1.cell? ⟨w.heap.size, 3, none⟩ = some (.int .u64 0) := (HZ.out).cell rfl
            have y3 : x1.frozen? ⟨w.heap.size, 3, none⟩ = false := (HZ.out).free 3
            have z4 : x1.cell? ⟨w.heap.size, 4, none⟩ = some (.int .u64 0) := (HZ.out).cell rfl
            have y4 : x1.frozen? ⟨w.heap.size, 4, none⟩ = false := (HZ.out).free 4
            have z5 : x1.cell? ⟨w.heap.size, 5, none⟩ = some (.int .u64 0) := (HZ.out).cell rfl
            have y5 : x1.frozen? ⟨w.heap.size, 5, none⟩ = false := (HZ.out).free 5
            have z6 : x1.cell? ⟨w.heap.size, 6, none⟩ = some (.int .u64 0) := (HZ.out).cell rfl
            have y6 : x1.frozen? ⟨w.heap.size, 6, none⟩ = false := (HZ.out).free 6
            clear HRN HRS HD S0
            go_wp2
            have HZ7 := eset7 (HZ.out) (.slice none 0 0) (.slice none 0 0) (.int .i64 0) (.int .u64 0) (.int .u64 0) (.int .u64 0) (.int .u64 0)
            refine bodyPost_ret (rread_results (e := 3) HZ7 _ rfl rfl) rfl ?_
            exact HN.out _ ((HB.out).grown (gset7 _ w.heap.size _ _ _ _ _ _ _) (HB.out).size (fun k hk => by have : w.heap.size = k := Option.some.inj hk; omega))
          · obtain ⟨c, rfl⟩ := Int.eq_ofNat_of_zero_le hC0
            have hc4 : c ≤ 40 := by omega
            obtain ⟨C2, hC2⟩ : ∃ x, 2 * c = x := ⟨_, rfl⟩
            obtain ⟨Wn, hWn⟩ : ∃ x, 2 * c + 5 = x := ⟨_, rfl⟩
            have hk1 : IntKind.u64.wrap (2 * (c : Int)) = (C2 : Int) := by simp [IntKind.wrap, IntKind.bits, IntKind.signed]; omega
            have hk2 : IntKind.i64.wrap (C2 : Int) = (C2 : Int) := by simp [IntKind.wrap, IntKind.bits, IntKind.signed]; omega
            have hk3 : IntKind.i64.wrap ((C2 : Int) + 5) = (Wn : Int) := by simp [IntKind.wrap, IntKind.bits, IntKind.signed]; omega
            have hk4 : IntKind.i64.wrap (c : Int) = (c : Int) := by simp [IntKind.wrap, IntKind.bits, IntKind.signed]; omega
            have HC2 := hide hC2
            have HWN := hide hWn
            have HNO := hide (fun j => red_stop (X := zs) j)
            have HGR := hide (fun j => red_great (X := zs) j)
            have HEN := hide (red_end (X := zs))
            rw [HCX.out, Int.toNat_natCast, hWn] at HNO HGR HEN
            have HFX := hide (show ∀ n, fX zs (n + 1) = fX zs n ++ [⟨nr (s1X zs) (2 * n), nr (s1X zs) (2 * n + 1)⟩] from fX_next zs)
            have HRED := hide (show okR zs = true → mayB (rawE zs) = true → red zs = some (rawE zs) from fun h1 h2 => by unfold red; rw [h1, h2]; rfl)
            have HRAW := hide (show rawE zs = ⟨d0, fX zs c, nr (s1X zs) C2, nr (s1X zs) (C2 + 1), nr (s1X zs) (C2 + 2), nr (s1X zs) (C2 + 3), nr (s1X zs) (C2 + 4)⟩ from by
              have h1 := HRW.out
              unfold rawE at h1 ⊢
              simp only at h1
              rw [HCX.out, Int.toNat_natCast, hC2, h1])
            have HOKR := hide (show (stN (s1X zs) Wn).2 = false → (stN (s1X zs) Wn).1.length = 0 → okR zs = true from fun h1 h2 => by
              unfold okR
              rw [HCX.out, Int.toNat_natCast, hWn, h1, h2, HUZ.out]
              simp
              omega)
            have HRG := hide (show ∀ j, 0 ≤ nr (s1X zs) j from fun j => (nr_range (s1X zs) (by rw [HS1.out]; exact fun z hz => HBR.out z (List.mem_of_mem_drop hz)) j).1)
            have hw2 : Wn ≤ 85 := by omega
            have hqw : c ≤ Wn := by omega
            clear hC2 hWn
            generalize hB : x1.heap.size = B at *
            go_wp2_with fail
            go_loopw [5, 12, 13] (fun tp v ti wr => ∃ j P : Nat, tp = .int .i64 P ∧ ti = .int .i64 j ∧ j ≤ Wn ∧ P ≤ s.size ∧ Hid (stN (s1X zs) j = (zs.drop P, false)) ∧ Hid (OwnU wr B v ((List.range j).map (nr (s1X zs)))) ∧ Hid (Below B x1 wr) ∧ Hid (B ≤ wr.heap.size) ∧ Hid (∀ k, k < j → nr (s1X zs) k ≤ 281474976710656)) (fun _ _ ti _ => Wn - (intOf ti).toNat)
            case atStart => exact ⟨0, sn + q0, by go_num, rfl, by omega, hq0, HS1, hide (ownU_nil _ _), hide (hB ▸ Below.refl _ _), hide (by rw [← hB]; exact Nat.le_refl _), hide (fun k hk => absurd hk (by omega))⟩
            case round =>
              obtain ⟨j, P, rfl, rfl, hj, hP, hst, hown, hbel, hbsz, hall⟩ := hrel
              by_cases hlt : j < Wn
              · have hqj : (j : Int) < (Wn : Int) := by omega
                have hf := tk_facts (zs.drop P) 0 0 (by omega) (fun z hz => HBR.out z (List.mem_of_mem_drop hz)) (by omega) (by simp)
                have hsz := tk_size (zs.drop P) 0 0 (by omega)
                obtain ⟨x, t1, e1, hT⟩ : ∃ x t e, tk (zs.drop P) 0 0 = (x, t, e) := ⟨_, _, _, rfl⟩
                rw [hT] at hf hsz
                simp only at hf hsz
                rw [List.length_drop] at hsz
                obtain ⟨q1, rfl⟩ := Int.eq_ofNat_of_zero_le hsz.1
                have hq1 : P + q1 ≤ s.size := by omega
                have CT := hide (show Calls Try.prog 45 #[.string (s.extract P s.size)] wr fun e w' => e = .returned (.tuple #[.int .u64 x, .int .i64 (q1 : Int), .int .i64 e1]) ∧ w' = wr from by
                  have := reftake_any (s.extract P s.size) (zs.drop P) wr (by rw [ByteArray.size_extract]; omega) (sz_drop HS.out P hP) (range_of fun z hz => HBR.out z (List.mem_of_mem_drop hz))
                  rw [hT] at this
                  exact this)
                have HT := hide hT
                have hx0 := hf.1
                have hx1 := hf.2.1
                clear hf hsz hT
                go_wp2_with fail
                refine CT.out.mono ?_
                rintro e y ⟨rfl, hy⟩
                have hy' := hy.symm
                subst hy'
                have SX := hide (S0.out.keep (hB.symm ▸ hbel.out))
                have HZX := hide SX.out.z
                have HBX := hide SX.out.bel
                clear CT
                by_cases he1 : e1 = 0
                · have heb1 : (e1 != 0) = false := by simp [he1]
                  have HNX := hide (show nr (s1X zs) j = x from by unfold nr rt; rw [hst.out]; simp only; rw [HT.out]; simp only; rw [if_pos he1])
                  have HSX := hide (show stN (s1X zs) (j + 1) = (zs.drop (P + q1), false) from by show (rt (stN (s1X zs) j)).2 = _; unfold rt; rw [hst.out]; simp only; rw [HT.out]; simp only; rw [if_pos he1, Int.toNat_natCast, List.drop_drop])
                  clear he1 HT
                  by_cases hbig : (281474976710656 : Int) < x
                  · have HN := hide (HRN.out (HGR.out j hlt (by rw [HNX.out]; exact hbig)))
                    have z0 : wr.cell? ⟨w.heap.size, 0, none⟩ = some (.slice none 0 0) := (HZX.out).cell rfl
                    have y0 : wr.frozen? ⟨w.heap.size, 0, none⟩ = false := (HZX.out).free 0
                    have z1 : wr.cell? ⟨w.heap.size, 1, none⟩ = some (.slice none 0 0) := (HZX.out).cell rfl
                    have y1 : wr.frozen? ⟨w.heap.size, 1, none⟩ = false := (HZX.out).free 1
                    have z2 : wr.cell? ⟨w.heap.size, 2, none⟩ = some (.int .i64 0) := (HZX.out).cell rfl
                    have y2 : wr.frozen? ⟨w.heap.size, 2, none⟩ = false := (HZX.out).free 2
                    have z3 : wr.cell? ⟨w.heap.size, 3, none⟩ = some (.int .u64 0) := (HZX.out).cell rfl
                    have y3 : wr.frozen? ⟨w.heap.size, 3, none⟩ = false := (HZX.out).free 3
                    have z4 : wr.cell? ⟨w.heap.size, 4, none⟩ = some (.int .u64 0) := (HZX.out).cell rfl
                    have y4 : wr.frozen? ⟨w.heap.size, 4, none⟩ = false := (HZX.out).free 4
                    have z5 : wr.cell? ⟨w.heap.size, 5, none⟩ = some (.int .u64 0) := (HZX.out).cell rfl
                    have y5 : wr.frozen? ⟨w.heap.size, 5, none⟩ = false := (HZX.out).free 5
                    have z6 : wr.cell? ⟨w.heap.size, 6, none⟩ = some (.int .u64 0) := (HZX.out).cell rfl
                    have y6 : wr.frozen? ⟨w.heap.size, 6, none⟩ = false := (HZX.out).free 6
                    clear HRN HRS HD S0 SX HNO HGR HEN HRED HRAW HOKR
                    go_wp2
                    have HZ7 := eset7 (HZX.out) (.slice none 0 0) (.slice none 0 0) (.int .i64 0) (.int .u64 0) (.int .u64 0) (.int .u64 0) (.int .u64 0)
                    refine bodyPost_ret (rread_results (e := 3) HZ7 _ rfl rfl) rfl ?_
                    exact HN.out _ ((HBX.out).grown (gset7 _ w.heap.size _ _ _ _ _ _ _) (HBX.out).size (fun k hk => by have : w.heap.size = k := Option.some.inj hk; omega))
                  · have A1 := (Below.refl _ wr).alloc (Nat.le_refl _) (Obj.cells #[.int .u64 x] 24)
                    have HO1 := hide (show OwnU (wr.alloc (Obj.cells #[.int .u64 x] 24)) B u12 ((List.range j).map (nr (s1X zs))) from ownU_grown hown.out (fgb_below A1 none) (fun k h => by cases h))
                    have HE1 := hide (ek_new wr #[.int .u64 x] 24)
                    have HS1' := hide (Nat.le_trans hbsz.out A1.size)
                    have HB1' := hide (hbel.out.trans (A1.mono hbsz.out))
                    have HLT := hide (show ((List.range j).map (nr (s1X zs))).length ≤ 100000 from by simp; omega)
                    have HRN2 := hide (show (List.range (j + 1)).map (nr (s1X zs)) = (List.range j).map (nr (s1X zs)) ++ [x] from by rw [List.range_succ, List.map_append, ← HNX.out]; rfl)
                    clear A1
                    go_wp2_with (first
                      | (at_builtin; refine wpList_append_u rfl _ _ rfl B _ ((List.range j).map (nr (s1X zs))) rfl HO1.out wr.heap.size x rfl HE1.out HLT.out HS1'.out ?_; intro v2 w2 o2 g2 k2; have HO2 := hide o2; have HB2 := hide (HB1'.out.grown g2 HS1'.out k2); have HS2 := hide (Nat.le_trans HS1'.out g2.size); clear o2 g2 k2)
                      | fail)
                    go_roundw
                    case rel => exact ⟨j + 1, P + q1, by go_num, by go_num, by omega, hq1, HSX, hide (by rw [HRN2.out]; exact HO2.out), HB2, HS2, hide (fun k hk => by
                      rcases Nat.lt_or_ge k j with h | h
                      · exact hall.out k h
                      · rw [show k = j from by omega, HNX.out]; omega)⟩
                    case measure => simp [intOf]; omega
                · have heb1 : (e1 != 0) = true := by simp [he1]
                  have HN := hide (HRN.out (HNO.out (j + 1) (by omega) (by show (rt (stN (s1X zs) j)).2.2 = true; unfold rt; rw [hst.out]; simp only; rw [HT.out]; simp only; rw [if_neg he1])))
                  have z0 : wr.cell? ⟨w.heap.size, 0, none⟩ = some (.slice none 0 0) := (HZX.out).cell rfl
                  have y0 : wr.frozen? ⟨w.heap.size, 0, none⟩ = false := (HZX.out).free 0
                  have z1 : wr.cell? ⟨w.heap.size, 1, none⟩ = some (.slice none 0 0) := (HZX.out).cell rfl
                  have y1 : wr.frozen? ⟨w.heap.size, 1, none⟩ = false := (HZX.out).free 1
                  have z2 : wr.cell? ⟨w.heap.size, 2, none⟩ = some (.int .i64 0) := (HZX.out).cell rfl
                  have y2 : wr.frozen? ⟨w.heap.size, 2, none⟩ = false := (HZX.out).free 2
                  have z3 : wr.cell? ⟨w.heap.size, 3, none⟩ = some (.int .u64 0) := (HZX.out).cell rfl
                  have y3 : wr.frozen? ⟨w.heap.size, 3, none⟩ = false := (HZX.out).free 3
                  have z4 : wr.cell? ⟨w.heap.size, 4, none⟩ = some (.int .u64 0) := (HZX.out).cell rfl
                  have y4 : wr.frozen? ⟨w.heap.size, 4, none⟩ = false := (HZX.out).free 4
                  have z5 : wr.cell? ⟨w.heap.size, 5, none⟩ = some (.int .u64 0) := (HZX.out).cell rfl
                  have y5 : wr.frozen? ⟨w.heap.size, 5, none⟩ = false := (HZX.out).free 5
                  have z6 : wr.cell? ⟨w.heap.size, 6, none⟩ = some (.int .u64 0) := (HZX.out).cell rfl
                  have y6 : wr.frozen? ⟨w.heap.size, 6, none⟩ = false := (HZX.out).free 6
                  clear HRN HRS HD S0 SX HNO HGR HEN HRED HRAW HOKR he1
                  go_wp2
                  have HZ7 := eset7 (HZX.out) (.slice none 0 0) (.slice none 0 0) (.int .i64 0) (.int .u64 0) (.int .u64 0) (.int .u64 0) (.int .u64 0)
                  refine bodyPost_ret (rread_results (e := 3) HZ7 _ rfl rfl) rfl ?_
                  exact HN.out _ ((HBX.out).grown (gset7 _ w.heap.size _ _ _ _ _ _ _) (HBX.out).size (fun k hk => by have : w.heap.size = k := Option.some.inj hk; omega))
              · obtain rfl : j = Wn := by omega
                obtain ⟨x2, hx2⟩ : ∃ x, x = wr := ⟨_, rfl⟩
                subst hx2
                have hqj : ¬ ((j : Int) < (j : Int)) := by omega
                obtain ⟨la, lc, hlv, hlus⟩ := ownU_us hown.out (fun z hz => by
                  obtain ⟨k, hk, rfl⟩ := List.mem_map.1 hz
                  have := HRG.out k
                  have := hall.out k (List.mem_range.1 hk)
                  omega)
                have hlen : ((List.range j).map (nr (s1X zs))).length = j := by simp
                rw [hlen] at hlv hlus
                have HLB := hide (show ∀ a, la = some a → B ≤ a.block ∧ a.block < x2.heap.size from fun a ha => World.ownsRow.lt hown.out a.block (by rw [hlv, ha]; rfl))
                subst hlv
                have hQB : Q < B := by rw [← hB]; exact S0.out.q.lt
                have RV0 := hide (show RV w Q x2.heap.size fa i fk d0 la j lc ((List.range j).map (nr (s1X zs))) x2 #[.slice fa i fk, .slice none 0 0, .int .i64 0, .int .u64 0, .int .u64 0, .int .u64 0, .int .u64 0] (.slice none 0 0) [] from
                  ⟨S0.out.keep (hB.symm ▸ hbel.out), ownF_nil _ _, HZD.out _ hbel.out, hlus, fun a ha => (by have := HZB.out a ha; have := hbsz.out; omega), fun a ha => (by have := HLB.out a ha; omega), Nat.le_refl _, by have := hbsz.out; omega⟩)
                have HBD := hide (show ∀ k, k < j → 0 ≤ nr (s1X zs) k ∧ nr (s1X zs) k ≤ 281474976710656 from fun k hk => ⟨HRG.out k, hall.out k hk⟩)
                have HGT := hide (show ∀ k, k < j → ((List.range j).map (nr (s1X zs))).getD k 0 = nr (s1X zs) k from fun k hk => map_range_get _ _ _ hk)
                have HX2 := hide hbsz.out
                have HFW := hide (show ∀ n, n ≤ c → ∀ x ∈ fX zs n, x.wf from fun n hn x hx => by
                  obtain ⟨k, hk, rfl⟩ := List.mem_map.1 hx
                  have hk := List.mem_range.1 hk
                  have hw := HWN.out
                  have h1 := HBD.out (2 * k) (by omega)
                  have h2 := HBD.out (2 * k + 1) (by omega)
                  unfold Fi.wf
                  simp only
                  omega)
                generalize hNS : (List.range j).map (nr (s1X zs)) = NS at *
                generalize hB3 : x2.heap.size = B3 at *
                clear hown hall hlus S0 HZ HB hlen hNS HNO HGR
                go_wp2_with fail
                go_loopw [17] (fun t wr => ∃ n : Nat, n ≤ c ∧ t = .int .i64 n ∧ Hid (∃ a k, RV w Q B3 fa i fk d0 la j lc NS wr #[.slice fa i fk, .slice a n k, .int .i64 0, .int .u64 0, .int .u64 0, .int .u64 0, .int .u64 0] (.slice a n k) (fX zs n))) (fun t _ => c - (intOf t).toNat)
                case atStart => exact ⟨0, by omega, rfl, hide ⟨none, 0, RV0.out⟩⟩
                case round =>
                  obtain ⟨n, hn, rfl, hsv⟩ := hrel
                  obtain ⟨ga, gk, sv⟩ := hsv.out
                  have S1 := hide sv
                  clear hsv sv RV0
                  by_cases hlt : n < c
                  · have hqn : (n : Int) < (c : Int) := by omega
                    have hw := HWN.out
                    obtain ⟨lb, lof, hla, hcell⟩ := S1.out.l.2.2.2 (by omega)
                    subst hla
                    obtain ⟨I2, hI2⟩ : ∃ x, 2 * n = x := ⟨_, rfl⟩
                    obtain ⟨I3, hI3⟩ : ∃ x, 2 * n + 1 = x := ⟨_, rfl⟩
                    have hm1 : IntKind.i64.wrap (2 * (n : Int)) = (I2 : Int) := by simp [IntKind.wrap, IntKind.bits, IntKind.signed]; omega
                    have hm2 : IntKind.i64.wrap ((I2 : Int) + 1) = (I3 : Int) := by simp [IntKind.wrap, IntKind.bits, IntKind.signed]; omega
                    have hi2 : I2 < j := by omega
                    have hi3 : I3 < j := by omega
                    have c2 := hcell I2 hi2
                    have c3 := hcell I3 hi3
                    rw [HGT.out I2 hi2] at c2
                    rw [HGT.out I3 hi3] at c3
                    have b2 := HBD.out I2 hi2
                    have b3 := HBD.out I3 hi3
                    have HFN := hide (show fX zs n ++ [⟨nr (s1X zs) I2, nr (s1X zs) I3⟩] = fX zs (n + 1) from by rw [HFX.out, ← hI3, ← hI2])
                    have HLE := hide (show (fX zs n).length + 1 ≤ 3518437208883 from by rw [fX_len]; omega)
                    have HL8 := hide (show (fX zs (n + 1)).length = n + 1 from fX_len _ _)
                    have HWF8 := hide (HFW.out (n + 1) (by omega))
                    generalize nr (s1X zs) I2 = lv at *
                    generalize nr (s1X zs) I3 = nm at *
                    have hwl : IntKind.i64.wrap lv = lv := by simp [IntKind.wrap, IntKind.bits, IntKind.signed]; omega
                    have hwn : IntKind.i64.wrap nm = nm := by simp [IntKind.wrap, IntKind.bits, IntKind.signed]; omega
                    have HWF := hide (show Fi.wf ⟨lv, nm⟩ from by unfold Fi.wf; simp only; omega)
                    have q1 : wr.cell? ⟨Q, 1, none⟩ = some (.slice ga n gk) := S1.out.rt.q.cell rfl
                    have hQl : Q < wr.heap.size := S1.out.rt.q.lt
                    have hlbl : lb < wr.heap.size := World.block_lt_of_cell? wr _ c2
                    have S7 := hide (S1.out.drew.keep ((Below.refl _ wr.drew).alloc (Nat.le_refl _) (Obj.cells #[.int .i64 lv, .int .i64 nm] 29)))
                    have HO7 := hide S7.out.own
                    have HSZ7 := hide S7.out.sz
                    have HF7 := hide (fs_block HWF.out (fhpS wr.drew (Obj.cells #[.int .i64 lv, .int .i64 nm] 29) _ rfl))
                    have hi2i : (I2 : Int) < (j : Int) := by omega
                    have hi3i : (I3 : Int) < (j : Int) := by omega
                    clear hcell hI2 hI3 hw HFX HFW HBD HGT
                    go_wp2_with fail
                    go_region_law (refine step_append_files rfl (.tmp 106) (.tmp 121) rfl B3 _ (fX zs n) (by first | rfl | simp [Act.eval, Act.put]) HO7.out (some ⟨wr.heap.size, 0, none⟩) 1 1 [⟨lv, nm⟩] (by first | rfl | simp [Act.eval, Act.put]) HF7.out HLE.out HSZ7.out ?_; intro v8 w8 o8 g8 k8; have S8 := hide (S7.out.row g8 k8 o8); have o9 : OwnF w8 B3 v8 (fX zs (n + 1)) := (HFN.out ▸ o8); obtain ⟨a8, c8, hv8, _, _, _⟩ := ownF_fs o9 HWF8.out; rw [HL8.out] at hv8; subst hv8; have q8 : w8.cell? ⟨Q, 1, none⟩ = some (.slice ga n gk) := S8.out.rt.q.cell rfl; have f8 := S8.out.rt.q.free 1; clear o8 g8 k8)
                    all_goals
                      clear q1
                      go_wp2
                      go_roundw
                      case rel => exact ⟨n + 1, by omega, by go_num, hide ⟨a8, c8, by have := S8.out.setq 1 (.slice a8 (n + 1) c8); rw [HFN.out] at this; exact this⟩⟩
                      case measure => simp [intOf]; omega
                  · obtain rfl : n = c := by omega
                    have hqn : ¬ ((n : Int) < (n : Int)) := by omega
                    obtain ⟨x3, hx3⟩ : ∃ x, x = wr := ⟨_, rfl⟩
                    subst hx3
                    have hw := HWN.out
                    have hcc := HC2.out
                    obtain ⟨lb, lof, hla, hcell⟩ := S1.out.l.2.2.2 (by omega)
                    subst hla
                    obtain ⟨M1, hM1⟩ : ∃ x, C2 + 1 = x := ⟨_, rfl⟩
                    have m1 : IntKind.i64.wrap ((C2 : Int) + 1) = (M1 : Int) := by simp [IntKind.wrap, IntKind.bits, IntKind.signed]; omega
                    obtain ⟨M2, hM2⟩ : ∃ x, C2 + 2 = x := ⟨_, rfl⟩
                    have m2 : IntKind.i64.wrap ((C2 : Int) + 2) = (M2 : Int) := by simp [IntKind.wrap, IntKind.bits, IntKind.signed]; omega
                    obtain ⟨M3, hM3⟩ : ∃ x, C2 + 3 = x := ⟨_, rfl⟩
                    have m3 : IntKind.i64.wrap ((C2 : Int) + 3) = (M3 : Int) := by simp [IntKind.wrap, IntKind.bits, IntKind.signed]; omega
                    obtain ⟨M4, hM4⟩ : ∃ x, C2 + 4 = x := ⟨_, rfl⟩
                    have m4 : IntKind.i64.wrap ((C2 : Int) + 4) = (M4 : Int) := by simp [IntKind.wrap, IntKind.bits, IntKind.signed]; omega
                    have g0 : C2 < j := by omega
                    have gi0 : (C2 : Int) < (j : Int) := by omega
                    have c0 := hcell C2 g0
                    have hng0 := HGT.out C2 g0
                    have b0 := HBD.out C2 g0
                    have g1 : M1 < j := by omega
                    have gi1 : (M1 : Int) < (j : Int) := by omega
                    have c1 := hcell M1 g1
                    have hng1 := HGT.out M1 g1
                    have b1 := HBD.out M1 g1
                    have g2 : M2 < j := by omega
                    have gi2 : (M2 : Int) < (j : Int) := by omega
                    have c2 := hcell M2 g2
                    have hng2 := HGT.out M2 g2
                    have b2 := HBD.out M2 g2
                    have g3 : M3 < j := by omega
                    have gi3 : (M3 : Int) < (j : Int) := by omega
                    have c3 := hcell M3 g3
                    have hng3 := HGT.out M3 g3
                    have b3 := HBD.out M3 g3
                    have g4 : M4 < j := by omega
                    have gi4 : (M4 : Int) < (j : Int) := by omega
                    have c4 := hcell M4 g4
                    have hng4 := HGT.out M4 g4
                    have b4 := HBD.out M4 g4
                    obtain ⟨v0, hv0⟩ : ∃ x, nr (s1X zs) C2 = x := ⟨_, rfl⟩
                    rw [hv0] at b0
                    have HNG0 := hide (hng0.trans hv0)
                    clear hng0 c0
                    have HV0 := hide hv0
                    have q2 : x3.cell? ⟨Q, 2, none⟩ = some (.int .i64 0) := S1.out.rt.q.cell rfl
                    have f2 := S1.out.rt.q.free 2
                    obtain ⟨v1, hv1⟩ : ∃ x, nr (s1X zs) M1 = x := ⟨_, rfl⟩
                    rw [hv1] at b1
                    have HNG1 := hide (hng1.trans hv1)
                    clear hng1 c1
                    have HV1 := hide hv1
                    have q3 : x3.cell? ⟨Q, 3, none⟩ = some (.int .u64 0) := S1.out.rt.q.cell rfl
                    have f3 := S1.out.rt.q.free 3
                    obtain ⟨v2, hv2⟩ : ∃ x, nr (s1X zs) M2 = x := ⟨_, rfl⟩
                    rw [hv2] at b2
                    have HNG2 := hide (hng2.trans hv2)
                    clear hng2 c2
                    have HV2 := hide hv2
                    have q4 : x3.cell? ⟨Q, 4, none⟩ = some (.int .u64 0) := S1.out.rt.q.cell rfl
                    have f4 := S1.out.rt.q.free 4
                    obtain ⟨v3, hv3⟩ : ∃ x, nr (s1X zs) M3 = x := ⟨_, rfl⟩
                    rw [hv3] at b3
                    have HNG3 := hide (hng3.trans hv3)
                    clear hng3 c3
                    have HV3 := hide hv3
                    have q5 : x3.cell? ⟨Q, 5, none⟩ = some (.int .u64 0) := S1.out.rt.q.cell rfl
                    have f5 := S1.out.rt.q.free 5
                    obtain ⟨v4, hv4⟩ : ∃ x, nr (s1X zs) M4 = x := ⟨_, rfl⟩
                    rw [hv4] at b4
                    have HNG4 := hide (hng4.trans hv4)
                    clear hng4 c4
                    have HV4 := hide hv4
                    have q6 : x3.cell? ⟨Q, 6, none⟩ = some (.int .u64 0) := S1.out.rt.q.cell rfl
                    have f6 := S1.out.rt.q.free 6
                    have hwl : IntKind.i64.wrap v0 = v0 := by simp [IntKind.wrap, IntKind.bits, IntKind.signed]; omega
                    have hQl : Q < x3.heap.size := S1.out.rt.q.lt
                    have hnb : lb ≠ Q := by have := S1.out.lb _ rfl; simp only at this; omega
                    have HWL := hide hw
                    have HFWN := hide (HFW.out n (Nat.le_refl _))
                    have hgq : Q < B3 := S1.out.qb
                    have HM := hide (show C2 + 1 = M1 ∧ C2 + 2 = M2 ∧ C2 + 3 = M3 ∧ C2 + 4 = M4 from ⟨hM1, hM2, hM3, hM4⟩)
                    clear hcell hM1 hM2 hM3 hM4 hw hcc HFX HFW HBD HGT hv0 hv1 hv2 hv3 hv4
                    have HRAW2 := hide (show rawE zs = ⟨d0, fX zs n, v0, v1, v2, v3, v4⟩ from by
                      obtain ⟨e1, e2, e3, e4⟩ := HM.out
                      rw [HRAW.out, e1, e2, e3, e4, HV0.out, HV1.out, HV2.out, HV3.out, HV4.out])
                    have HL0 := hide (show ∀ W, Us W (some ⟨lb, lof, none⟩) j lc NS → W.cell? ⟨lb, lof + C2, none⟩ = some (.int .u64 v0) from fun W h => by
                      obtain ⟨b9, o9, e9, h9⟩ := h.2.2.2 (by omega)
                      injection e9 with e9
                      injection e9 with e9 e8
                      subst e9 e8
                      rw [h9 C2 g0, HNG0.out])
                    have HL1 := hide (show ∀ W, Us W (some ⟨lb, lof, none⟩) j lc NS → W.cell? ⟨lb, lof + M1, none⟩ = some (.int .u64 v1) from fun W h => by
                      obtain ⟨b9, o9, e9, h9⟩ := h.2.2.2 (by omega)
                      injection e9 with e9
                      injection e9 with e9 e8
                      subst e9 e8
                      rw [h9 M1 g1, HNG1.out])
                    have HL2 := hide (show ∀ W, Us W (some ⟨lb, lof, none⟩) j lc NS → W.cell? ⟨lb, lof + M2, none⟩ = some (.int .u64 v2) from fun W h => by
                      obtain ⟨b9, o9, e9, h9⟩ := h.2.2.2 (by omega)
                      injection e9 with e9
                      injection e9 with e9 e8
                      subst e9 e8
                      rw [h9 M2 g2, HNG2.out])
                    have HL3 := hide (show ∀ W, Us W (some ⟨lb, lof, none⟩) j lc NS → W.cell? ⟨lb, lof + M3, none⟩ = some (.int .u64 v3) from fun W h => by
                      obtain ⟨b9, o9, e9, h9⟩ := h.2.2.2 (by omega)
                      injection e9 with e9
                      injection e9 with e9 e8
                      subst e9 e8
                      rw [h9 M3 g3, HNG3.out])
                    have HL4 := hide (show ∀ W, Us W (some ⟨lb, lof, none⟩) j lc NS → W.cell? ⟨lb, lof + M4, none⟩ = some (.int .u64 v4) from fun W h => by
                      obtain ⟨b9, o9, e9, h9⟩ := h.2.2.2 (by omega)
                      injection e9 with e9
                      injection e9 with e9 e8
                      subst e9 e8
                      rw [h9 M4 g4, HNG4.out])
                    clear HM HRAW HV0 HV1 HV2 HV3 HV4 q2 f2 q3 f3 q4 f4 q5 f5 q6 f6
                    go_wp2_with fail
                    refine region_si (fun _ k v _ => ([.slice (some ⟨lb, lof, none⟩) j lc, .int .i64 (C2 : Int), .pointer (some ⟨lb, lof + C2, none⟩), .int .u64 v0, .int .i64 v0, .slice (some ⟨lb, lof, none⟩) j lc, .int .i64 (C2 : Int), .int .i64 (M1 : Int), .pointer (some ⟨lb, lof + M1, none⟩), .int .u64 v1, .slice (some ⟨lb, lof, none⟩) j lc, .int .i64 (C2 : Int), .int .i64 (M2 : Int), .pointer (some ⟨lb, lof + M2, none⟩), .int .u64 v2, .slice (some ⟨lb, lof, none⟩) j lc, .int .i64 (C2 : Int), .int .i64 (M3 : Int), .pointer (some ⟨lb, lof + M3, none⟩), .int .u64 v3, .slice (some ⟨lb, lof, none⟩) j lc, .int .i64 (C2 : Int), .int .i64 (M4 : Int), .pointer (some ⟨lb, lof + M4, none⟩), .int .u64 v4, .pointer (some ⟨Q, 2, none⟩), undef, .pointer (some ⟨Q, 3, none⟩), undef, .pointer (some ⟨Q, 4, none⟩), undef, .pointer (some ⟨Q, 5, none⟩), undef, .pointer (some ⟨Q, 6, none⟩), undef] : List Value)[k]? = some v) (fun L W => RV w Q B3 fa i fk d0 (some ⟨lb, lof, none⟩) j lc NS W (csq (.slice fa i fk) (.slice ga n gk) v0 v1 v2 v3 v4 L) (.slice ga n gk) (fX zs n)) (by kernel_rfl) (by kernel_rfl) (by kernel_rfl) ?start ?step ?fin
                    case start =>
                      show RV _ _ _ _ _ _ _ _ _ _ _ _ _ _ _
                      rw [csq_start rfl]
                      exact S1.out.drew
                    case step =>
                      clear HRN HRS HRED HEN HOKR HRAW2
                      intro L A W i_ hI hi hLi hw
                      have hi2 : i_ < 35 := hi
                      rcases (show i_ = 0 ∨ i_ = 1 ∨ i_ = 2 ∨ i_ = 3 ∨ i_ = 4 ∨ i_ = 5 ∨ i_ = 6 ∨ i_ = 7 ∨ i_ = 8 ∨ i_ = 9 ∨ i_ = 10 ∨ i_ = 11 ∨ i_ = 12 ∨ i_ = 13 ∨ i_ = 14 ∨ i_ = 15 ∨ i_ = 16 ∨ i_ = 17 ∨ i_ = 18 ∨ i_ = 19 ∨ i_ = 20 ∨ i_ = 21 ∨ i_ = 22 ∨ i_ = 23 ∨ i_ = 24 ∨ i_ = 25 ∨ i_ = 26 ∨ i_ = 27 ∨ i_ = 28 ∨ i_ = 29 ∨ i_ = 30 ∨ i_ = 31 ∨ i_ = 32 ∨ i_ = 33 ∨ i_ = 34 by omega) with rfl | rfl | rfl | rfl | rfl | rfl | rfl | rfl | rfl | rfl | rfl | rfl | rfl | rfl | rfl | rfl | rfl | rfl | rfl | rfl | rfl | rfl | rfl | rfl | rfl | rfl | rfl | rfl | rfl | rfl | rfl | rfl | rfl | rfl | rfl
                      · have e0 := hI.kept 12 _ (by decide +kernel) rfl
                        refine hI.pure (by kernel_rfl) (by decide +kernel) (i := 0) (d := 127) rfl rfl rfl (v := .slice (some ⟨lb, lof, none⟩) j lc) rfl (fun j u _ _ h => h) (by have hgg := hI.g; rw [csq_old 0 (by decide) (by decide) (by decide) (by decide) (by decide)]; exact hgg) ?_
                        intro K hKK
                        go_simp
                        exact hKK
                      · have e0 := hI.kept 18 _ (by decide +kernel) rfl
                        refine hI.pure (by kernel_rfl) (by decide +kernel) (i := 1) (d := 128) rfl rfl rfl (v := .int .i64 (C2 : Int)) rfl (fun j u _ _ h => h) (by have hgg := hI.g; rw [csq_old 1 (by decide) (by decide) (by decide) (by decide) (by decide)]; exact hgg) ?_
                        intro K hKK
                        go_simp
                        exact hKK
                      · obtain ⟨_, e0, h0⟩ := hI.val 0 127 (by decide +kernel) (hw 0 (by kernel_rfl)) (by kernel_rfl)
                        obtain rfl := Option.some.inj h0
                        clear h0
                        obtain ⟨_, e1, h1⟩ := hI.val 1 128 (by decide +kernel) (hw 1 (by kernel_rfl)) (by kernel_rfl)
                        obtain rfl := Option.some.inj h1
                        clear h1
                        refine hI.pure (by kernel_rfl) (by decide +kernel) (i := 2) (d := 129) rfl rfl rfl (v := .pointer (some ⟨lb, lof + C2, none⟩)) rfl (fun j u _ _ h => h) (by have hgg := hI.g; rw [csq_old 2 (by decide) (by decide) (by decide) (by decide) (by decide)]; exact hgg) ?_
                        intro K hKK
                        go_simp
                        exact hKK
                      · obtain ⟨_, e0, h0⟩ := hI.val 2 129 (by decide +kernel) (hw 2 (by kernel_rfl)) (by kernel_rfl)
                        obtain rfl := Option.some.inj h0
                        clear h0
                        have cl := HL0.out W hI.g.l
                        refine hI.pure (by kernel_rfl) (by decide +kernel) (i := 3) (d := 130) rfl rfl rfl (v := .int .u64 v0) rfl (fun j u _ _ h => h) (by have hgg := hI.g; rw [csq_old 3 (by decide) (by decide) (by decide) (by decide) (by decide)]; exact hgg) ?_
                        intro K hKK
                        go_simp
                        exact hKK
                      · obtain ⟨_, e0, h0⟩ := hI.val 3 130 (by decide +kernel) (hw 3 (by kernel_rfl)) (by kernel_rfl)
                        obtain rfl := Option.some.inj h0
                        clear h0
                        refine hI.pure (by kernel_rfl) (by decide +kernel) (i := 4) (d := 131) rfl rfl rfl (v := .int .i64 v0) rfl (fun j u _ _ h => h) (by have hgg := hI.g; rw [csq_old 4 (by decide) (by decide) (by decide) (by decide) (by decide)]; exact hgg) ?_
                        intro K hKK
                        go_simp
                        exact hKK
                      · have e0 := hI.kept 12 _ (by decide +kernel) rfl
                        refine hI.pure (by kernel_rfl) (by decide +kernel) (i := 5) (d := 132) rfl rfl rfl (v := .slice (some ⟨lb, lof, none⟩) j lc) rfl (fun j u _ _ h => h) (by have hgg := hI.g; rw [csq_old 5 (by decide) (by decide) (by decide) (by decide) (by decide)]; exact hgg) ?_
                        intro K hKK
                        go_simp
                        exact hKK
                      · have e0 := hI.kept 18 _ (by decide +kernel) rfl
                        refine hI.pure (by kernel_rfl) (by decide +kernel) (i := 6) (d := 133) rfl rfl rfl (v := .int .i64 (C2 : Int)) rfl (fun j u _ _ h => h) (by have hgg := hI.g; rw [csq_old 6 (by decide) (by decide) (by decide) (by decide) (by decide)]; exact hgg) ?_
                        intro K hKK
                        go_simp
                        exact hKK
                      · obtain ⟨_, e0, h0⟩ := hI.val 6 133 (by decide +kernel) (hw 6 (by kernel_rfl)) (by kernel_rfl)
                        obtain rfl := Option.some.inj h0
                        clear h0
                        refine hI.pure (by kernel_rfl) (by decide +kernel) (i := 7) (d := 134) rfl rfl rfl (v := .int .i64 (M1 : Int)) rfl (fun j u _ _ h => h) (by have hgg := hI.g; rw [csq_old 7 (by decide) (by decide) (by decide) (by decide) (by decide)]; exact hgg) ?_
                        intro K hKK
                        go_simp
                        exact hKK
                      · obtain ⟨_, e0, h0⟩ := hI.val 5 132 (by decide +kernel) (hw 5 (by kernel_rfl)) (by kernel_rfl)
                        obtain rfl := Option.some.inj h0
                        clear h0
                        obtain ⟨_, e1, h1⟩ := hI.val 7 134 (by decide +kernel) (hw 7 (by kernel_rfl)) (by kernel_rfl)
                        obtain rfl := Option.some.inj h1
                        clear h1
                        refine hI.pure (by kernel_rfl) (by decide +kernel) (i := 8) (d := 135) rfl rfl rfl (v := .pointer (some ⟨lb, lof + M1, none⟩)) rfl (fun j u _ _ h => h) (by have hgg := hI.g; rw [csq_old 8 (by decide) (by decide) (by decide) (by decide) (by decide)]; exact hgg) ?_
                        intro K hKK
                        go_simp
                        exact hKK
                      · obtain ⟨_, e0, h0⟩ := hI.val 8 135 (by decide +kernel) (hw 8 (by kernel_rfl)) (by kernel_rfl)
                        obtain rfl := Option.some.inj h0
                        clear h0
                        have cl := HL1.out W hI.g.l
                        refine hI.pure (by kernel_rfl) (by decide +kernel) (i := 9) (d := 136) rfl rfl rfl (v := .int .u64 v1) rfl (fun j u _ _ h => h) (by have hgg := hI.g; rw [csq_old 9 (by decide) (by decide) (by decide) (by decide) (by decide)]; exact hgg) ?_
                        intro K hKK
                        go_simp
                        exact hKK
                      · have e0 := hI.kept 12 _ (by decide +kernel) rfl
                        refine hI.pure (by kernel_rfl) (by decide +kernel) (i := 10) (d := 137) rfl rfl rfl (v := .slice (some ⟨lb, lof, none⟩) j lc) rfl (fun j u _ _ h => h) (by have hgg := hI.g; rw [csq_old 10 (by decide) (by decide) (by decide) (by decide) (by decide)]; exact hgg) ?_
                        intro K hKK
                        go_simp
                        exact hKK
                      · have e0 := hI.kept 18 _ (by decide +kernel) rfl
                        refine hI.pure (by kernel_rfl) (by decide +kernel) (i := 11) (d := 138) rfl rfl rfl (v := .int .i64 (C2 : Int)) rfl (fun j u _ _ h => h) (by have hgg := hI.g; rw [csq_old 11 (by decide) (by decide) (by decide) (by decide) (by decide)]; exact hgg) ?_
                        intro K hKK
                        go_simp
                        exact hKK
                      · obtain ⟨_, e0, h0⟩ := hI.val 11 138 (by decide +kernel) (hw 11 (by kernel_rfl)) (by kernel_rfl)
                        obtain rfl := Option.some.inj h0
                        clear h0
                        refine hI.pure (by kernel_rfl) (by decide +kernel) (i := 12) (d := 139) rfl rfl rfl (v := .int .i64 (M2 : Int)) rfl (fun j u _ _ h => h) (by have hgg := hI.g; rw [csq_old 12 (by decide) (by decide) (by decide) (by decide) (by decide)]; exact hgg) ?_
                        intro K hKK
                        go_simp
                        exact hKK
                      · obtain ⟨_, e0, h0⟩ := hI.val 10 137 (by decide +kernel) (hw 10 (by kernel_rfl)) (by kernel_rfl)
                        obtain rfl := Option.some.inj h0
                        clear h0
                        obtain ⟨_, e1, h1⟩ := hI.val 12 139 (by decide +kernel) (hw 12 (by kernel_rfl)) (by kernel_rfl)
                        obtain rfl := Option.some.inj h1
                        clear h1
                        refine hI.pure (by kernel_rfl) (by decide +kernel) (i := 13) (d := 140) rfl rfl rfl (v := .pointer (some ⟨lb, lof + M2, none⟩)) rfl (fun j u _ _ h => h) (by have hgg := hI.g; rw [csq_old 13 (by decide) (by decide) (by decide) (by decide) (by decide)]; exact hgg) ?_
                        intro K hKK
                        go_simp
                        exact hKK
                      · obtain ⟨_, e0, h0⟩ := hI.val 13 140 (by decide +kernel) (hw 13 (by kernel_rfl)) (by kernel_rfl)
                        obtain rfl := Option.some.inj h0
                        clear h0
                        have cl := HL2.out W hI.g.l
                        refine hI.pure (by kernel_rfl) (by decide +kernel) (i := 14) (d := 141) rfl rfl rfl (v := .int .u64 v2) rfl (fun j u _ _ h => h) (by have hgg := hI.g; rw [csq_old 14 (by decide) (by decide) (by decide) (by decide) (by decide)]; exact hgg) ?_
                        intro K hKK
                        go_simp
                        exact hKK
                      · have e0 := hI.kept 12 _ (by decide +kernel) rfl
                        refine hI.pure (by kernel_rfl) (by decide +kernel) (i := 15) (d := 142) rfl rfl rfl (v := .slice (some ⟨lb, lof, none⟩) j lc) rfl (fun j u _ _ h => h) (by have hgg := hI.g; rw [csq_old 15 (by decide) (by decide) (by decide) (by decide) (by decide)]; exact hgg) ?_
                        intro K hKK
                        go_simp
                        exact hKK
                      · have e0 := hI.kept 18 _ (by decide +kernel) rfl
                        refine hI.pure (by kernel_rfl) (by decide +kernel) (i := 16) (d := 143) rfl rfl rfl (v := .int .i64 (C2 : Int)) rfl (fun j u _ _ h => h) (by have hgg := hI.g; rw [csq_old 16 (by decide) (by decide) (by decide) (by decide) (by decide)]; exact hgg) ?_
                        intro K hKK
                        go_simp
                        exact hKK
                      · obtain ⟨_, e0, h0⟩ := hI.val 16 143 (by decide +kernel) (hw 16 (by kernel_rfl)) (by kernel_rfl)
                        obtain rfl := Option.some.inj h0
                        clear h0
                        refine hI.pure (by kernel_rfl) (by decide +kernel) (i := 17) (d := 144) rfl rfl rfl (v := .int .i64 (M3 : Int)) rfl (fun j u _ _ h => h) (by have hgg := hI.g; rw [csq_old 17 (by decide) (by decide) (by decide) (by decide) (by decide)]; exact hgg) ?_
                        intro K hKK
                        go_simp
                        exact hKK
                      · obtain ⟨_, e0, h0⟩ := hI.val 15 142 (by decide +kernel) (hw 15 (by kernel_rfl)) (by kernel_rfl)
                        obtain rfl := Option.some.inj h0
                        clear h0
                        obtain ⟨_, e1, h1⟩ := hI.val 17 144 (by decide +kernel) (hw 17 (by kernel_rfl)) (by kernel_rfl)
                        obtain rfl := Option.some.inj h1
                        clear h1
                        refine hI.pure (by kernel_rfl) (by decide +kernel) (i := 18) (d := 145) rfl rfl rfl (v := .pointer (some ⟨lb, lof + M3, none⟩)) rfl (fun j u _ _ h => h) (by have hgg := hI.g; rw [csq_old 18 (by decide) (by decide) (by decide) (by decide) (by decide)]; exact hgg) ?_
                        intro K hKK
                        go_simp
                        exact hKK
                      · obtain ⟨_, e0, h0⟩ := hI.val 18 145 (by decide +kernel) (hw 18 (by kernel_rfl)) (by kernel_rfl)
                        obtain rfl := Option.some.inj h0
                        clear h0
                        have cl := HL3.out W hI.g.l
                        refine hI.pure (by kernel_rfl) (by decide +kernel) (i := 19) (d := 146) rfl rfl rfl (v := .int .u64 v3) rfl (fun j u _ _ h => h) (by have hgg := hI.g; rw [csq_old 19 (by decide) (by decide) (by decide) (by decide) (by decide)]; exact hgg) ?_
                        intro K hKK
                        go_simp
                        exact hKK
                      · have e0 := hI.kept 12 _ (by decide +kernel) rfl
                        refine hI.pure (by kernel_rfl) (by decide +kernel) (i := 20) (d := 147) rfl rfl rfl (v := .slice (some ⟨lb, lof, none⟩) j lc) rfl (fun j u _ _ h => h) (by have hgg := hI.g; rw [csq_old 20 (by decide) (by decide) (by decide) (by decide) (by decide)]; exact hgg) ?_
                        intro K hKK
                        go_simp
                        exact hKK
                      · have e0 := hI.kept 18 _ (by decide +kernel) rfl
                        refine hI.pure (by kernel_rfl) (by decide +kernel) (i := 21) (d := 148) rfl rfl rfl (v := .int .i64 (C2 : Int)) rfl (fun j u _ _ h => h) (by have hgg := hI.g; rw [csq_old 21 (by decide) (by decide) (by decide) (by decide) (by decide)]; exact hgg) ?_
                        intro K hKK
                        go_simp
                        exact hKK
                      · obtain ⟨_, e0, h0⟩ := hI.val 21 148 (by decide +kernel) (hw 21 (by kernel_rfl)) (by kernel_rfl)
                        obtain rfl := Option.some.inj h0
                        clear h0
                        refine hI.pure (by kernel_rfl) (by decide +kernel) (i := 22) (d := 149) rfl rfl rfl (v := .int .i64 (M4 : Int)) rfl (fun j u _ _ h => h) (by have hgg := hI.g; rw [csq_old 22 (by decide) (by decide) (by decide) (by decide) (by decide)]; exact hgg) ?_
                        intro K hKK
                        go_simp
                        exact hKK
                      · obtain ⟨_, e0, h0⟩ := hI.val 20 147 (by decide +kernel) (hw 20 (by kernel_rfl)) (by kernel_rfl)
                        obtain rfl := Option.some.inj h0
                        clear h0
                        obtain ⟨_, e1, h1⟩ := hI.val 22 149 (by decide +kernel) (hw 22 (by kernel_rfl)) (by kernel_rfl)
                        obtain rfl := Option.some.inj h1
                        clear h1
                        refine hI.pure (by kernel_rfl) (by decide +kernel) (i := 23) (d := 150) rfl rfl rfl (v := .pointer (some ⟨lb, lof + M4, none⟩)) rfl (fun j u _ _ h => h) (by have hgg := hI.g; rw [csq_old 23 (by decide) (by decide) (by decide) (by decide) (by decide)]; exact hgg) ?_
                        intro K hKK
                        go_simp
                        exact hKK
                      · obtain ⟨_, e0, h0⟩ := hI.val 23 150 (by decide +kernel) (hw 23 (by kernel_rfl)) (by kernel_rfl)
                        obtain rfl := Option.some.inj h0
                        clear h0
                        have cl := HL4.out W hI.g.l
                        refine hI.pure (by kernel_rfl) (by decide +kernel) (i := 24) (d := 151) rfl rfl rfl (v := .int .u64 v4) rfl (fun j u _ _ h => h) (by have hgg := hI.g; rw [csq_old 24 (by decide) (by decide) (by decide) (by decide) (by decide)]; exact hgg) ?_
                        intro K hKK
                        go_simp
                        exact hKK
                      · have e0 := hI.kept 7 _ (by decide +kernel) rfl
                        refine hI.pure (by kernel_rfl) (by decide +kernel) (i := 25) (d := 152) rfl rfl rfl (v := .pointer (some ⟨Q, 2, none⟩)) rfl (fun j u _ _ h => h) (by have hgg := hI.g; rw [csq_old 25 (by decide) (by decide) (by decide) (by decide) (by decide)]; exact hgg) ?_
                        intro K hKK
                        go_simp
                        exact hKK
                      · obtain ⟨_, e0, h0⟩ := hI.val 25 152 (by decide +kernel) (hw 25 (by kernel_rfl)) (by kernel_rfl)
                        obtain rfl := Option.some.inj h0
                        clear h0
                        obtain ⟨_, e1, h1⟩ := hI.val 4 131 (by decide +kernel) (hw 4 (by kernel_rfl)) (by kernel_rfl)
                        obtain rfl := Option.some.inj h1
                        clear h1
                        refine hI.store (by decide +kernel) (i := 26) rfl rfl rfl ?_
                        intro K hKK
                        have cq := hI.g.rt.q.cell (o := 2) rfl
                        have cf := hI.g.rt.q.free 2
                        have HSG := hide (hI.g.setq 2 (.int .i64 v0))
                        go_simp
                        refine hKK _ (fun j e u _ _ _ _ h => h) ?_
                        rw [csq_26]
                        exact HSG.out
                      · have e0 := hI.kept 7 _ (by decide +kernel) rfl
                        refine hI.pure (by kernel_rfl) (by decide +kernel) (i := 27) (d := 153) rfl rfl rfl (v := .pointer (some ⟨Q, 3, none⟩)) rfl (fun j u _ _ h => h) (by have hgg := hI.g; rw [csq_old 27 (by decide) (by decide) (by decide) (by decide) (by decide)]; exact hgg) ?_
                        intro K hKK
                        go_simp
                        exact hKK
                      · obtain ⟨_, e0, h0⟩ := hI.val 27 153 (by decide +kernel) (hw 27 (by kernel_rfl)) (by kernel_rfl)
                        obtain rfl := Option.some.inj h0
                        clear h0
                        obtain ⟨_, e1, h1⟩ := hI.val 9 136 (by decide +kernel) (hw 9 (by kernel_rfl)) (by kernel_rfl)
                        obtain rfl := Option.some.inj h1
                        clear h1
                        refine hI.store (by decide +kernel) (i := 28) rfl rfl rfl ?_
                        intro K hKK
                        have cq := hI.g.rt.q.cell (o := 3) rfl
                        have cf := hI.g.rt.q.free 3
                        have HSG := hide (hI.g.setq 3 (.int .u64 v1))
                        go_simp
                        refine hKK _ (fun j e u _ _ _ _ h => h) ?_
                        rw [csq_28]
                        exact HSG.out
                      · have e0 := hI.kept 7 _ (by decide +kernel) rfl
                        refine hI.pure (by kernel_rfl) (by decide +kernel) (i := 29) (d := 154) rfl rfl rfl (v := .pointer (some ⟨Q, 4, none⟩)) rfl (fun j u _ _ h => h) (by have hgg := hI.g; rw [csq_old 29 (by decide) (by decide) (by decide) (by decide) (by decide)]; exact hgg) ?_
                        intro K hKK
                        go_simp
                        exact hKK
                      · obtain ⟨_, e0, h0⟩ := hI.val 29 154 (by decide +kernel) (hw 29 (by kernel_rfl)) (by kernel_rfl)
                        obtain rfl := Option.some.inj h0
                        clear h0
                        obtain ⟨_, e1, h1⟩ := hI.val 14 141 (by decide +kernel) (hw 14 (by kernel_rfl)) (by kernel_rfl)
                        obtain rfl := Option.some.inj h1
                        clear h1
                        refine hI.store (by decide +kernel) (i := 30) rfl rfl rfl ?_
                        intro K hKK
                        have cq := hI.g.rt.q.cell (o := 4) rfl
                        have cf := hI.g.rt.q.free 4
                        have HSG := hide (hI.g.setq 4 (.int .u64 v2))
                        go_simp
                        refine hKK _ (fun j e u _ _ _ _ h => h) ?_
                        rw [csq_30]
                        exact HSG.out
                      · have e0 := hI.kept 7 _ (by decide +kernel) rfl
                        refine hI.pure (by kernel_rfl) (by decide +kernel) (i := 31) (d := 155) rfl rfl rfl (v := .pointer (some ⟨Q, 5, none⟩)) rfl (fun j u _ _ h => h) (by have hgg := hI.g; rw [csq_old 31 (by decide) (by decide) (by decide) (by decide) (by decide)]; exact hgg) ?_
                        intro K hKK
                        go_simp
                        exact hKK
                      · obtain ⟨_, e0, h0⟩ := hI.val 31 155 (by decide +kernel) (hw 31 (by kernel_rfl)) (by kernel_rfl)
                        obtain rfl := Option.some.inj h0
                        clear h0
                        obtain ⟨_, e1, h1⟩ := hI.val 19 146 (by decide +kernel) (hw 19 (by kernel_rfl)) (by kernel_rfl)
                        obtain rfl := Option.some.inj h1
                        clear h1
                        refine hI.store (by decide +kernel) (i := 32) rfl rfl rfl ?_
                        intro K hKK
                        have cq := hI.g.rt.q.cell (o := 5) rfl
                        have cf := hI.g.rt.q.free 5
                        have HSG := hide (hI.g.setq 5 (.int .u64 v3))
                        go_simp
                        refine hKK _ (fun j e u _ _ _ _ h => h) ?_
                        rw [csq_32]
                        exact HSG.out
                      · have e0 := hI.kept 7 _ (by decide +kernel) rfl
                        refine hI.pure (by kernel_rfl) (by decide +kernel) (i := 33) (d := 156) rfl rfl rfl (v := .pointer (some ⟨Q, 6, none⟩)) rfl (fun j u _ _ h => h) (by have hgg := hI.g; rw [csq_old 33 (by decide) (by decide) (by decide) (by decide) (by decide)]; exact hgg) ?_
                        intro K hKK
                        go_simp
                        exact hKK
                      · obtain ⟨_, e0, h0⟩ := hI.val 33 156 (by decide +kernel) (hw 33 (by kernel_rfl)) (by kernel_rfl)
                        obtain rfl := Option.some.inj h0
                        clear h0
                        obtain ⟨_, e1, h1⟩ := hI.val 24 151 (by decide +kernel) (hw 24 (by kernel_rfl)) (by kernel_rfl)
                        obtain rfl := Option.some.inj h1
                        clear h1
                        refine hI.store (by decide +kernel) (i := 34) rfl rfl rfl ?_
                        intro K hKK
                        have cq := hI.g.rt.q.cell (o := 6) rfl
                        have cf := hI.g.rt.q.free 6
                        have HSG := hide (hI.g.setq 6 (.int .u64 v4))
                        go_simp
                        refine hKK _ (fun j e u _ _ _ _ h => h) ?_
                        rw [csq_34]
                        exact HSG.out
                    case fin =>
                      intro L A X hI hall
                      obtain ⟨_, s0, h0⟩ := hI.val 0 127 (by decide +kernel) (hall 0 (by decide +kernel)) (by kernel_rfl)
                      obtain rfl := Option.some.inj h0
                      obtain ⟨_, s1, h1⟩ := hI.val 1 128 (by decide +kernel) (hall 1 (by decide +kernel)) (by kernel_rfl)
                      obtain rfl := Option.some.inj h1
                      obtain ⟨_, s2, h2⟩ := hI.val 2 129 (by decide +kernel) (hall 2 (by decide +kernel)) (by kernel_rfl)
                      obtain rfl := Option.some.inj h2
                      obtain ⟨_, s3, h3⟩ := hI.val 3 130 (by decide +kernel) (hall 3 (by decide +kernel)) (by kernel_rfl)
                      obtain rfl := Option.some.inj h3
                      obtain ⟨_, s4, h4⟩ := hI.val 4 131 (by decide +kernel) (hall 4 (by decide +kernel)) (by kernel_rfl)
                      obtain rfl := Option.some.inj h4
                      obtain ⟨_, s5, h5⟩ := hI.val 5 132 (by decide +kernel) (hall 5 (by decide +kernel)) (by kernel_rfl)
                      obtain rfl := Option.some.inj h5
                      obtain ⟨_, s6, h6⟩ := hI.val 6 133 (by decide +kernel) (hall 6 (by decide +kernel)) (by kernel_rfl)
                      obtain rfl := Option.some.inj h6
                      obtain ⟨_, s7, h7⟩ := hI.val 7 134 (by decide +kernel) (hall 7 (by decide +kernel)) (by kernel_rfl)
                      obtain rfl := Option.some.inj h7
                      obtain ⟨_, s8, h8⟩ := hI.val 8 135 (by decide +kernel) (hall 8 (by decide +kernel)) (by kernel_rfl)
                      obtain rfl := Option.some.inj h8
                      obtain ⟨_, s9, h9⟩ := hI.val 9 136 (by decide +kernel) (hall 9 (by decide +kernel)) (by kernel_rfl)
                      obtain rfl := Option.some.inj h9
                      obtain ⟨_, s10, h10⟩ := hI.val 10 137 (by decide +kernel) (hall 10 (by decide +kernel)) (by kernel_rfl)
                      obtain rfl := Option.some.inj h10
                      obtain ⟨_, s11, h11⟩ := hI.val 11 138 (by decide +kernel) (hall 11 (by decide +kernel)) (by kernel_rfl)
                      obtain rfl := Option.some.inj h11
                      obtain ⟨_, s12, h12⟩ := hI.val 12 139 (by decide +kernel) (hall 12 (by decide +kernel)) (by kernel_rfl)
                      obtain rfl := Option.some.inj h12
                      obtain ⟨_, s13, h13⟩ := hI.val 13 140 (by decide +kernel) (hall 13 (by decide +kernel)) (by kernel_rfl)
                      obtain rfl := Option.some.inj h13
                      obtain ⟨_, s14, h14⟩ := hI.val 14 141 (by decide +kernel) (hall 14 (by decide +kernel)) (by kernel_rfl)
                      obtain rfl := Option.some.inj h14
                      obtain ⟨_, s15, h15⟩ := hI.val 15 142 (by decide +kernel) (hall 15 (by decide +kernel)) (by kernel_rfl)
                      obtain rfl := Option.some.inj h15
                      obtain ⟨_, s16, h16⟩ := hI.val 16 143 (by decide +kernel) (hall 16 (by decide +kernel)) (by kernel_rfl)
                      obtain rfl := Option.some.inj h16
                      obtain ⟨_, s17, h17⟩ := hI.val 17 144 (by decide +kernel) (hall 17 (by decide +kernel)) (by kernel_rfl)
                      obtain rfl := Option.some.inj h17
                      obtain ⟨_, s18, h18⟩ := hI.val 18 145 (by decide +kernel) (hall 18 (by decide +kernel)) (by kernel_rfl)
                      obtain rfl := Option.some.inj h18
                      obtain ⟨_, s19, h19⟩ := hI.val 19 146 (by decide +kernel) (hall 19 (by decide +kernel)) (by kernel_rfl)
                      obtain rfl := Option.some.inj h19
                      obtain ⟨_, s20, h20⟩ := hI.val 20 147 (by decide +kernel) (hall 20 (by decide +kernel)) (by kernel_rfl)
                      obtain rfl := Option.some.inj h20
                      obtain ⟨_, s21, h21⟩ := hI.val 21 148 (by decide +kernel) (hall 21 (by decide +kernel)) (by kernel_rfl)
                      obtain rfl := Option.some.inj h21
                      obtain ⟨_, s22, h22⟩ := hI.val 22 149 (by decide +kernel) (hall 22 (by decide +kernel)) (by kernel_rfl)
                      obtain rfl := Option.some.inj h22
                      obtain ⟨_, s23, h23⟩ := hI.val 23 150 (by decide +kernel) (hall 23 (by decide +kernel)) (by kernel_rfl)
                      obtain rfl := Option.some.inj h23
                      obtain ⟨_, s24, h24⟩ := hI.val 24 151 (by decide +kernel) (hall 24 (by decide +kernel)) (by kernel_rfl)
                      obtain rfl := Option.some.inj h24
                      obtain ⟨_, s25, h25⟩ := hI.val 25 152 (by decide +kernel) (hall 25 (by decide +kernel)) (by kernel_rfl)
                      obtain rfl := Option.some.inj h25
                      obtain ⟨_, s27, h27⟩ := hI.val 27 153 (by decide +kernel) (hall 27 (by decide +kernel)) (by kernel_rfl)
                      obtain rfl := Option.some.inj h27
                      obtain ⟨_, s29, h29⟩ := hI.val 29 154 (by decide +kernel) (hall 29 (by decide +kernel)) (by kernel_rfl)
                      obtain rfl := Option.some.inj h29
                      obtain ⟨_, s31, h31⟩ := hI.val 31 155 (by decide +kernel) (hall 31 (by decide +kernel)) (by kernel_rfl)
                      obtain rfl := Option.some.inj h31
                      obtain ⟨_, s33, h33⟩ := hI.val 33 156 (by decide +kernel) (hall 33 (by decide +kernel)) (by kernel_rfl)
                      obtain rfl := Option.some.inj h33
                      have hfr := si_frame hI [(127, .slice (some ⟨lb, lof, none⟩) j lc), (128, .int .i64 (C2 : Int)), (129, .pointer (some ⟨lb, lof + C2, none⟩)), (130, .int .u64 v0), (131, .int .i64 v0), (132, .slice (some ⟨lb, lof, none⟩) j lc), (133, .int .i64 (C2 : Int)), (134, .int .i64 (M1 : Int)), (135, .pointer (some ⟨lb, lof + M1, none⟩)), (136, .int .u64 v1), (137, .slice (some ⟨lb, lof, none⟩) j lc), (138, .int .i64 (C2 : Int)), (139, .int .i64 (M2 : Int)), (140, .pointer (some ⟨lb, lof + M2, none⟩)), (141, .int .u64 v2), (142, .slice (some ⟨lb, lof, none⟩) j lc), (143, .int .i64 (C2 : Int)), (144, .int .i64 (M3 : Int)), (145, .pointer (some ⟨lb, lof + M3, none⟩)), (146, .int .u64 v3), (147, .slice (some ⟨lb, lof, none⟩) j lc), (148, .int .i64 (C2 : Int)), (149, .int .i64 (M4 : Int)), (150, .pointer (some ⟨lb, lof + M4, none⟩)), (151, .int .u64 v4), (152, .pointer (some ⟨Q, 2, none⟩)), (153, .pointer (some ⟨Q, 3, none⟩)), (154, .pointer (some ⟨Q, 4, none⟩)), (155, .pointer (some ⟨Q, 5, none⟩)), (156, .pointer (some ⟨Q, 6, none⟩))] (by kernel_rfl) (List.forall_mem_cons.2 ⟨s0, (List.forall_mem_cons.2 ⟨s1, (List.forall_mem_cons.2 ⟨s2, (List.forall_mem_cons.2 ⟨s3, (List.forall_mem_cons.2 ⟨s4, (List.forall_mem_cons.2 ⟨s5, (List.forall_mem_cons.2 ⟨s6, (List.forall_mem_cons.2 ⟨s7, (List.forall_mem_cons.2 ⟨s8, (List.forall_mem_cons.2 ⟨s9, (List.forall_mem_cons.2 ⟨s10, (List.forall_mem_cons.2 ⟨s11, (List.forall_mem_cons.2 ⟨s12, (List.forall_mem_cons.2 ⟨s13, (List.forall_mem_cons.2 ⟨s14, (List.forall_mem_cons.2 ⟨s15, (List.forall_mem_cons.2 ⟨s16, (List.forall_mem_cons.2 ⟨s17, (List.forall_mem_cons.2 ⟨s18, (List.forall_mem_cons.2 ⟨s19, (List.forall_mem_cons.2 ⟨s20, (List.forall_mem_cons.2 ⟨s21, (List.forall_mem_cons.2 ⟨s22, (List.forall_mem_cons.2 ⟨s23, (List.forall_mem_cons.2 ⟨s24, (List.forall_mem_cons.2 ⟨s25, (List.forall_mem_cons.2 ⟨s27, (List.forall_mem_cons.2 ⟨s29, (List.forall_mem_cons.2 ⟨s31, (List.forall_mem_cons.2 ⟨s33, (by intro x hx; cases hx)⟩)⟩)⟩)⟩)⟩)⟩)⟩)⟩)⟩)⟩)⟩)⟩)⟩)⟩)⟩)⟩)⟩)⟩)⟩)⟩)⟩)⟩)⟩)⟩)⟩)⟩)⟩)⟩)⟩)⟩)
                      have hsf := hI.g
                      rw [csq_end (hall 26 (by decide +kernel)) (hall 28 (by decide +kernel)) (hall 30 (by decide +kernel)) (hall 32 (by decide +kernel)) (hall 34 (by decide +kernel))] at hsf
                      have SF := hide hsf
                      rw [hfr]
                      clear hfr hI hall hsf s0 h0 s1 h1 s2 h2 s3 h3 s4 h4 s5 h5 s6 h6 s7 h7 s8 h8 s9 h9 s10 h10 s11 h11 s12 h12 s13 h13 s14 h14 s15 h15 s16 h16 s17 h17 s18 h18 s19 h19 s20 h20 s21 h21 s22 h22 s23 h23 s24 h24 s25 h25 s27 h27 s29 h29 s31 h31 s33 h33
                      simp only [List.foldl, List.setIfInBounds_toArray, List.set_cons_zero, List.set_cons_succ]
                      have HZF := hide SF.out.rt.z
                      have HBF := hide SF.out.rt.bel
                      have hlt0 := SF.out.rt.lt
                      have hqx : Q < X.heap.size := SF.out.rt.q.lt
                      have e0 : X.cell? ⟨Q, 0, none⟩ = some (.slice fa i fk) := (SF.out.rt.q).cell rfl
                      have e1 : X.cell? ⟨Q, 1, none⟩ = some (.slice ga n gk) := (SF.out.rt.q).cell rfl
                      have e2 : X.cell? ⟨Q, 2, none⟩ = some (.int .i64 v0) := (SF.out.rt.q).cell rfl
                      have e3 : X.cell? ⟨Q, 3, none⟩ = some (.int .u64 v1) := (SF.out.rt.q).cell rfl
                      have e4 : X.cell? ⟨Q, 4, none⟩ = some (.int .u64 v2) := (SF.out.rt.q).cell rfl
                      have e5 : X.cell? ⟨Q, 5, none⟩ = some (.int .u64 v3) := (SF.out.rt.q).cell rfl
                      have e6 : X.cell? ⟨Q, 6, none⟩ = some (.int .u64 v4) := (SF.out.rt.q).cell rfl
                      have CM := hide (show ∀ x, x = X → Calls Try.prog 15 #[.agg #[.slice fa i fk, .slice ga n gk, .int .i64 v0, .int .u64 v1, .int .u64 v2, .int .u64 v3, .int .u64 v4]] x fun e w' => e = .returned (.int .i64 (emay ⟨d0, fX zs n, v0, v1, v2, v3, v4⟩)) ∧ Below x.heap.size x w' from fun x hx => by
                        subst hx
                        have hfs := ownF_fsN SF.out.own HFWN.out (fX_len _ _)
                        have := HDN.out
                        exact editmay_any fa i fk ga n gk ⟨d0, fX zs n, v0, v1, v2, v3, v4⟩ _ SF.out.d hfs.2 (by omega) (by omega))
                      clear b0 b1 b2 b3 b4 m1 m2 m3 m4 g0 g1 g2 g3 g4 gi0 gi1 gi2 gi3 gi4 hwl hQl hnb
                      by_cases hPe : P = s.size
                      · have q : ((P : Int) != (s.size : Int)) = false := by simp [hPe]
                        have HOK := hide (HOKR.out (by rw [hst.out]) (by rw [hst.out, List.length_drop]; omega))
                        clear HEN HOKR hst hPe
                        go_wp2_with fail
                        refine (CM.out _ rfl).mono ?_
                        rintro e y ⟨rfl, hby⟩
                        have HZY := hide (HZF.out.below hby HZF.out.lt)
                        have HBY := hide (HBF.out.trans (hby.mono HBF.out.size))
                        have HQY := hide (SF.out.rt.q.below hby SF.out.rt.q.lt)
                        have HOY := hide (ownF_keep SF.out.own hby)
                        have HSY := hide (SF.out.d.below hby (Nat.le_refl _))
                        have HDB := hide SF.out.db
                        have hqy : Q < y.heap.size := HQY.out.lt
                        obtain ⟨om, hom⟩ : ∃ om, emay ⟨d0, fX zs n, v0, v1, v2, v3, v4⟩ = om := ⟨_, rfl⟩
                        have HOM := hide hom
                        rw [hom]
                        clear hom CM hby SF e0 e1 e2 e3 e4 e5 e6 HZF HBF hqx
                        have z0 : y.cell? ⟨w.heap.size, 0, none⟩ = some (.slice none 0 0) := (HZY.out).cell rfl
                        have y0 : y.frozen? ⟨w.heap.size, 0, none⟩ = false := (HZY.out).free 0
                        have z1 : y.cell? ⟨w.heap.size, 1, none⟩ = some (.slice none 0 0) := (HZY.out).cell rfl
                        have y1 : y.frozen? ⟨w.heap.size, 1, none⟩ = false := (HZY.out).free 1
                        have z2 : y.cell? ⟨w.heap.size, 2, none⟩ = some (.int .i64 0) := (HZY.out).cell rfl
                        have y2 : y.frozen? ⟨w.heap.size, 2, none⟩ = false := (HZY.out).free 2
                        have z3 : y.cell? ⟨w.heap.size, 3, none⟩ = some (.int .u64 0) := (HZY.out).cell rfl
                        have y3 : y.frozen? ⟨w.heap.size, 3, none⟩ = false := (HZY.out).free 3
                        have z4 : y.cell? ⟨w.heap.size, 4, none⟩ = some (.int .u64 0) := (HZY.out).cell rfl
                        have y4 : y.frozen? ⟨w.heap.size, 4, none⟩ = false := (HZY.out).free 4
                        have z5 : y.cell? ⟨w.heap.size, 5, none⟩ = some (.int .u64 0) := (HZY.out).cell rfl
                        have y5 : y.frozen? ⟨w.heap.size, 5, none⟩ = false := (HZY.out).free 5
                        have z6 : y.cell? ⟨w.heap.size, 6, none⟩ = some (.int .u64 0) := (HZY.out).cell rfl
                        have y6 : y.frozen? ⟨w.heap.size, 6, none⟩ = false := (HZY.out).free 6
                        by_cases ho : om = 0
                        · have qo : (om != 0) = false := by simp [ho]
                          have HRE := hide (HRED.out HOK.out ((mayB_iff _).2 (by rw [HRAW2.out, HOM.out, ho])))
                          have e0 : y.cell? ⟨Q, 0, none⟩ = some (.slice fa i fk) := (HQY.out).cell rfl
                          have e1 : y.cell? ⟨Q, 1, none⟩ = some (.slice ga n gk) := (HQY.out).cell rfl
                          have e2 : y.cell? ⟨Q, 2, none⟩ = some (.int .i64 v0) := (HQY.out).cell rfl
                          have e3 : y.cell? ⟨Q, 3, none⟩ = some (.int .u64 v1) := (HQY.out).cell rfl
                          have e4 : y.cell? ⟨Q, 4, none⟩ = some (.int .u64 v2) := (HQY.out).cell rfl
                          have e5 : y.cell? ⟨Q, 5, none⟩ = some (.int .u64 v3) := (HQY.out).cell rfl
                          have e6 : y.cell? ⟨Q, 6, none⟩ = some (.int .u64 v4) := (HQY.out).cell rfl
                          clear HOK HRED HRN HOM ho
                          go_wp2
                          have HZ7 := eset7 HZY.out (.slice fa i fk) (.slice ga n gk) (.int .i64 v0) (.int .u64 v1) (.int .u64 v2) (.int .u64 v3) (.int .u64 v4)
                          refine bodyPost_ret (rread_results (e := 0) HZ7 _ rfl rfl) rfl ?_
                          have hg := gset7 y w.heap.size (.slice fa i fk) (.slice ga n gk) (.int .i64 v0) (.int .u64 v1) (.int .u64 v2) (.int .u64 v3) (.int .u64 v4)
                          have hfl : (fX zs n).length = n := fX_len _ _
                          have hre := HRE.out
                          rw [HRAW2.out] at hre
                          have hres := HRS.out ⟨d0, fX zs n, v0, v1, v2, v3, v4⟩ _ fa fk ga gk hre (by
                            show Zs _ fa d0.length fk d0
                            rw [HDN.out]
                            exact HSY.out.gb hg (fun a ha e => by
                              have h1 : a.block = w.heap.size := Option.some.inj e
                              have := HDB.out a ha
                              omega)) (by
                            show Fs _ ga (fX zs n).length gk (fX zs n)
                            rw [hfl]
                            exact (ownF_fsN (ownF_grown HOY.out hg (fun k hk => by have : w.heap.size = k := Option.some.inj hk; omega)) HFWN.out hfl).2) (HBY.out.grown hg HBY.out.size (fun k hk => by have : w.heap.size = k := Option.some.inj hk; omega))
                          simp only at hres
                          rw [HDN.out, hfl] at hres
                          exact hres
                        · have qo : (om != 0) = true := by simp [ho]
                          have HN := hide (HRN.out (red_none fun _ hm => ho (by rw [← HOM.out, ← HRAW2.out]; exact (mayB_iff _).1 hm)))
                          clear HOK HRED HRN HRS HOM
                          go_wp2
                          have HZ7 := eset7 (HZY.out) (.slice none 0 0) (.slice none 0 0) (.int .i64 0) (.int .u64 0) (.int .u64 0) (.int .u64 0) (.int .u64 0)
                          refine bodyPost_ret (rread_results (e := 3) HZ7 _ rfl rfl) rfl ?_
                          exact HN.out _ ((HBY.out).grown (gset7 _ w.heap.size _ _ _ _ _ _ _) (HBY.out).size (fun k hk => by have : w.heap.size = k := Option.some.inj hk; omega))
                      · have q : ((P : Int) != (s.size : Int)) = true := by simp; omega
                        have HN := hide (HRN.out (HEN.out (by rw [hst.out]; show 0 < (zs.drop P).length; rw [List.length_drop]; omega)))
                        have z0 : X.cell? ⟨w.heap.size, 0, none⟩ = some (.slice none 0 0) := (HZF.out).cell rfl
                        have y0 : X.frozen? ⟨w.heap.size, 0, none⟩ = false := (HZF.out).free 0
                        have z1 : X.cell? ⟨w.heap.size, 1, none⟩ = some (.slice none 0 0) := (HZF.out).cell rfl
                        have y1 : X.frozen? ⟨w.heap.size, 1, none⟩ = false := (HZF.out).free 1
                        have z2 : X.cell? ⟨w.heap.size, 2, none⟩ = some (.int .i64 0) := (HZF.out).cell rfl
                        have y2 : X.frozen? ⟨w.heap.size, 2, none⟩ = false := (HZF.out).free 2
                        have z3 : X.cell? ⟨w.heap.size, 3, none⟩ = some (.int .u64 0) := (HZF.out).cell rfl
                        have y3 : X.frozen? ⟨w.heap.size, 3, none⟩ = false := (HZF.out).free 3
                        have z4 : X.cell? ⟨w.heap.size, 4, none⟩ = some (.int .u64 0) := (HZF.out).cell rfl
                        have y4 : X.frozen? ⟨w.heap.size, 4, none⟩ = false := (HZF.out).free 4
                        have z5 : X.cell? ⟨w.heap.size, 5, none⟩ = some (.int .u64 0) := (HZF.out).cell rfl
                        have y5 : X.frozen? ⟨w.heap.size, 5, none⟩ = false := (HZF.out).free 5
                        have z6 : X.cell? ⟨w.heap.size, 6, none⟩ = some (.int .u64 0) := (HZF.out).cell rfl
                        have y6 : X.frozen? ⟨w.heap.size, 6, none⟩ = false := (HZF.out).free 6
                        clear HEN HOKR hst hPe HRED HRN HRS CM SF e0 e1 e2 e3 e4 e5 e6
                        go_wp2
                        have HZ7 := eset7 (HZF.out) (.slice none 0 0) (.slice none 0 0) (.int .i64 0) (.int .u64 0) (.int .u64 0) (.int .u64 0) (.int .u64 0)
                        refine bodyPost_ret (rread_results (e := 3) HZ7 _ rfl rfl) rfl ?_
                        exact HN.out _ ((HBF.out).grown (gset7 _ w.heap.size _ _ _ _ _ _ _) (HBF.out).size (fun k hk => by have : w.heap.size = k := Option.some.inj hk; omega))
        · have heb : (e0 != 0) = true := by simp [he0]
          have HN := hide (HRN.out (red_head (by unfold s1X rt; rw [HS0.out]; simp only; rw [HT.out]; simp only; rw [if_neg he0])))
          have z0 : x1.cell? ⟨w.heap.size, 0, none⟩ = some (.slice none 0 0) := (HZ.out).cell rfl
          have y0 : x1.frozen? ⟨w.heap.size, 0, none⟩ = false := (HZ.out).free 0
          have z1 : x1.cell? ⟨w.heap.size, 1, none⟩ = some (.slice none 0 0) := (HZ.out).cell rfl
          have y1 : x1.frozen? ⟨w.heap.size, 1, none⟩ = false := (HZ.out).free 1
          have z2 : x1.cell? ⟨w.heap.size, 2, none⟩ = some (.int .i64 0) := (HZ.out).cell rfl
          have y2 : x1.frozen? ⟨w.heap.size, 2, none⟩ = false := (HZ.out).free 2
          have z3 : x1.cell? ⟨w.heap.size, 3, none⟩ = some (.int .u64 0) := (HZ.out).cell rfl
          have y3 : x1.frozen? ⟨w.heap.size, 3, none⟩ = false := (HZ.out).free 3
          have z4 : x1.cell? ⟨w.heap.size, 4, none⟩ = some (.int .u64 0) := (HZ.out).cell rfl
          have y4 : x1.frozen? ⟨w.heap.size, 4, none⟩ = false := (HZ.out).free 4
          have z5 : x1.cell? ⟨w.heap.size, 5, none⟩ = some (.int .u64 0) := (HZ.out).cell rfl
          have y5 : x1.frozen? ⟨w.heap.size, 5, none⟩ = false := (HZ.out).free 5
          have z6 : x1.cell? ⟨w.heap.size, 6, none⟩ = some (.int .u64 0) := (HZ.out).cell rfl
          have y6 : x1.frozen? ⟨w.heap.size, 6, none⟩ = false := (HZ.out).free 6
          clear HRN HRS HD S0 he0
          go_wp2
          have HZ7 := eset7 (HZ.out) (.slice none 0 0) (.slice none 0 0) (.int .i64 0) (.int .u64 0) (.int .u64 0) (.int .u64 0) (.int .u64 0)
          refine bodyPost_ret (rread_results (e := 3) HZ7 _ rfl rfl) rfl ?_
          exact HN.out _ ((HB.out).grown (gset7 _ w.heap.size _ _ _ _ _ _ _) (HB.out).size (fun k hk => by have : w.heap.size = k := Option.some.inj hk; omega))
  · have HN := hide (HRN.out (HUE.out her))
    have q : (er != 0) = true := by simpa using her
    have z0 : w1.cell? ⟨w.heap.size, 0, none⟩ = some (.slice none 0 0) := (HZ1.out).cell rfl
    have y0 : w1.frozen? ⟨w.heap.size, 0, none⟩ = false := (HZ1.out).free 0
    have z1 : w1.cell? ⟨w.heap.size, 1, none⟩ = some (.slice none 0 0) := (HZ1.out).cell rfl
    have y1 : w1.frozen? ⟨w.heap.size, 1, none⟩ = false := (HZ1.out).free 1
    have z2 : w1.cell? ⟨w.heap.size, 2, none⟩ = some (.int .i64 0) := (HZ1.out).cell rfl
    have y2 : w1.frozen? ⟨w.heap.size, 2, none⟩ = false := (HZ1.out).free 2
    have z3 : w1.cell? ⟨w.heap.size, 3, none⟩ = some (.int .u64 0) := (HZ1.out).cell rfl
    have y3 : w1.frozen? ⟨w.heap.size, 3, none⟩ = false := (HZ1.out).free 3
    have z4 : w1.cell? ⟨w.heap.size, 4, none⟩ = some (.int .u64 0) := (HZ1.out).cell rfl
    have y4 : w1.frozen? ⟨w.heap.size, 4, none⟩ = false := (HZ1.out).free 4
    have z5 : w1.cell? ⟨w.heap.size, 5, none⟩ = some (.int .u64 0) := (HZ1.out).cell rfl
    have y5 : w1.frozen? ⟨w.heap.size, 5, none⟩ = false := (HZ1.out).free 5
    have z6 : w1.cell? ⟨w.heap.size, 6, none⟩ = some (.int .u64 0) := (HZ1.out).cell rfl
    have y6 : w1.frozen? ⟨w.heap.size, 6, none⟩ = false := (HZ1.out).free 6
    clear HRN HRS HUE HUP HUN HD HS0 her
    go_wp2
    have HZ7 := eset7 (HZ1.out) (.slice none 0 0) (.slice none 0 0) (.int .i64 0) (.int .u64 0) (.int .u64 0) (.int .u64 0) (.int .u64 0)
    refine bodyPost_ret (rread_results (e := 3) HZ7 _ rfl rfl) rfl ?_
    exact HN.out _ ((HB1.out).grown (gset7 _ w.heap.size _ _ _ _ _ _ _) (HB1.out).size (fun k hk => by have : w.heap.size = k := Option.some.inj hk; omega))

end Go.Proofs.Ytgopcaemgcnapaa.Clep

/- What edit.bodyOf does when called (a walk over the translated program): for any Edit that may be. -/
namespace Go.Proofs.Ytgopcaemgcnapaa.Clep
open Go.RowKit
set_option linter.unusedVariables false
set_option maxRecDepth 10000

theorem own_base9 {w : World} {B C : Nat} {v : Value} {zs : List Int} (h : Own w B v zs) (hc : C ≤ B) : Own w C v zs := by
  obtain ⟨hl, h | ⟨g, cap, cur, hv, hg, r⟩⟩ := h
  · exact ⟨hl, .inl h⟩
  · exact ⟨hl, .inr ⟨g, cap, cur, hv, Nat.le_trans hc hg, r⟩⟩
theorem own_keep9 {w w' : World} {B : Nat} {v : Value} {zs : List Int} (h : Own w B v zs) (hb : Below w.heap.size w w') : Own w' B v zs := by
  refine World.ownsRow.kept h (fgb_below hb none) ?_
  cases hv : v.ownBlock with
  | none => exact .inl rfl
  | some k => exact .inr (by simp)
theorem put_own (B : Nat) (v : Value) (zs : List Int) (w : World) (h : Own w B v zs) (hr : ByteL zs) (hl : zs.length ≤ 100000) (hB : B ≤ w.heap.size) (n : Int) (h0 : 0 ≤ n) (h1 : n ≤ 18446744073709551615) :
    Calls Try.prog 55 #[v, .int .u64 n] w fun e w' => ∃ v', e = .returned v' ∧ Own w' B v' (zs ++ pu n) ∧ Below w.heap.size w w' := by
  obtain ⟨ao, cap, rfl, _, hbs, _⟩ := own_bs h (range_of hr)
  exact (put_any ao zs.length cap zs w n h0 h1 (by omega) hbs).mono fun e w' ⟨v', he, ho, hb⟩ => ⟨v', he, own_base9 ho hB, hb⟩
theorem bytel_app {a b : List Int} (ha : ByteL a) (hb : ByteL b) : ByteL (a ++ b) := cat_range ha hb
theorem uz5 {w : World} {p : Nat} {x0 x1 x2 x3 x4 : Int} {T : TypeId} (h : Ek w p #[.int .u64 x0, .int .u64 x1, .int .u64 x2, .int .u64 x3, .int .u64 x4] T) : Uz w p [x0, x1, x2, x3, x4] := by
  intro i z hz
  match i, hz with
  | 0, hz => exact h.cell (by simpa using hz)
  | 1, hz => exact h.cell (by simpa using hz)
  | 2, hz => exact h.cell (by simpa using hz)
  | 3, hz => exact h.cell (by simpa using hz)
  | 4, hz => exact h.cell (by simpa using hz)
  | k + 5, hz => simp at hz
theorem rows_more {ns : List Int} {k : Nat} {z : Int} (h : ns[k]? = some z) : rows ns (k + 1) = rows ns k ++ pu z := by
  rw [rows_succ ns k (List.getElem?_eq_some_iff.1 h).1]
  simp [List.getD, h]

set_option maxHeartbeats 2000000 in
theorem bodyof_any (da : Option Addr) (dn dc : Nat) (aa : Option Addr) (an ac : Nat) (E : Ed) (w : World) (hd : Zs w da dn dc E.d) (ha : Fs w aa an ac E.a) (hm : emay E = 0) (hu : 0 ≤ E.fl ∧ 0 ≤ E.ct ∧ 0 ≤ E.at9 ∧ 0 ≤ E.ls) :
    Calls Try.prog 31 #[edV da dn dc aa an ac E] w fun e w' => ∃ v, e = .returned v ∧ Own w' w.heap.size v (ebd E) ∧ Below w.heap.size w w' := by
  have hld := hd.1
  have hla := ha.1
  have HD := hide (fun W (hW : Below w.heap.size w W) => hd.below hW (Nat.le_refl _))
  have HA := hide (fun W (hW : Below w.heap.size w W) => ha.below hW (Nat.le_refl _))
  have hp := emay_parts hm
  have HE := hide (show ebd E = li E.d ++ (pu (E.a.length : Int) ++ (fbs E.a ++ rest [E.lg, E.fl, E.ct, E.at9, E.ls] 0)) from rfl)
  generalize ebd E = R at *
  obtain ⟨d, a, lg, fl, ct, at9, ls⟩ := E
  unfold edV
  simp only at hld hla HD HA HE hp hu ⊢
  rw [hla] at HE
  obtain ⟨⟨hp1, hp2⟩, hp3, hp4, hp5, hp6, hp7, hp8, hp9⟩ := hp
  have hdn : dn ≤ 40 := by omega
  have han : an ≤ 40 := by omega
  have HP3 := hide hp3
  have HP4 := hide hp4
  have hrd : ByteL (li d) := li_range d (urange_of fun z hz => by have := hp3 z hz; omega) (by omega)
  have hlld := (li_len d (by omega)).2
  have HRD := hide hrd
  have hwlg : IntKind.u64.wrap lg = lg := by
    simp [IntKind.wrap, IntKind.bits, IntKind.signed]
    omega
  have hwan : IntKind.u64.wrap (an : Int) = (an : Int) := by
    simp [IntKind.wrap, IntKind.bits, IntKind.signed]
    omega
  clear hd ha hm hp3 hp4 hrd
  have A0 := (Below.refl w.heap.size w).alloc (Nat.le_refl _) (Obj.cells #[.slice da dn dc, .slice aa an ac, .int .i64 lg, .int .u64 fl, .int .u64 ct, .int .u64 at9, .int .u64 ls] 31)
  have HB0 := hide A0
  have hK := hide (show ∀ W, Below (w.heap.size + 1) (w.alloc (Obj.cells #[.slice da dn dc, .slice aa an ac, .int .i64 lg, .int .u64 fl, .int .u64 ct, .int .u64 at9, .int .u64 ls] 31)) W → Ek W w.heap.size #[.slice da dn dc, .slice aa an ac, .int .i64 lg, .int .u64 fl, .int .u64 ct, .int .u64 at9, .int .u64 ls] 31 from fun W hW => (ek_new w _ _).below hW (by omega))
  clear A0
  go_enter Try.func31, Try.ntmps31
  go_wp2_with fail
  generalize hwa : w.alloc (Obj.cells #[.slice da dn dc, .slice aa an ac, .int .i64 lg, .int .u64 fl, .int .u64 ct, .int .u64 at9, .int .u64 ls] 31) = wa at *
  have hsa : wa.heap.size = w.heap.size + 1 := by rw [← hwa]; simp
  clear hwa
  have HBW := hide (show ∀ W, Below (w.heap.size + 1) wa W → Below w.heap.size w W ∧ w.heap.size + 1 ≤ W.heap.size from fun W hW => ⟨HB0.out.trans (hW.mono (by omega)), by have := hW.size; omega⟩)
  go_loopw [3, 14] (fun v s wr => ∃ k : Nat, k ≤ dn ∧ s = .int .i64 k ∧ Hid (OwnU wr (w.heap.size + 1) v (d.take k)) ∧ Hid (Below (w.heap.size + 1) wa wr)) (fun _ s _ => dn - (intOf s).toNat)
  case atStart => exact ⟨0, by omega, rfl, hide (ownU_nil _ _), hide (Below.refl _ _)⟩
  case round =>
    obtain ⟨k, hk, rfl, hown, hbel⟩ := hrel
    by_cases hlt : k < dn
    · obtain ⟨z, b, off, hz, rfl, hc, hz1, hz2⟩ := zs_at (HD.out wr (HBW.out wr hbel.out).1) k hlt
      have hzr := HP3.out z (List.mem_of_getElem? hz)
      have hwz : IntKind.u64.wrap z = z := by
        simp [IntKind.wrap, IntKind.bits, IntKind.signed]
        omega
      have HT := hide (show d.take (k + 1) = d.take k ++ [z] from by rw [List.take_add_one, hz]; rfl)
      have HLT := hide (show (d.take k).length ≤ 100000 from by rw [List.length_take]; omega)
      have A1 := (Below.refl _ wr).alloc (Nat.le_refl _) (Obj.cells #[.int .u64 z] 24)
      have HO1 := hide (ownU_below hown.out A1)
      have HE1 := hide (ek_new wr #[.int .u64 z] 24)
      have HS1 := hide (Nat.le_trans (HBW.out wr hbel.out).2 A1.size)
      have HB1 := hide (hbel.out.trans (A1.mono (HBW.out wr hbel.out).2))
      clear hz hz1 hz2 A1
      go_wp2_with (first
        | (at_builtin; refine wpList_append_u rfl _ _ rfl (w.heap.size + 1) _ (d.take k) rfl HO1.out wr.heap.size z rfl HE1.out HLT.out HS1.out ?_; intro v2 w2 o2 g2 k2; have HO2 := hide o2; have HB2 := hide (HB1.out.grown g2 HS1.out k2); clear o2 g2 k2)
        | fail)
      go_roundw
      case rel => exact ⟨k + 1, by omega, by go_num, hide (by rw [HT.out]; exact HO2.out), HB2⟩
      case measure => simp [intOf]; omega
    · obtain rfl : k = dn := by omega
      have hown2 := hown.out
      rw [List.take_of_length_le (by omega)] at hown2
      obtain ⟨au, cu, hvu, hus⟩ := ownU_us hown2 (fun z hz => by have := HP3.out z hz; omega)
      rw [hld] at hvu hus
      subst hvu
      have HB1 := hide hbel.out
      have CL := hide (list_any none 0 0 [] au k cu d wr (by omega) (bs_nil wr) (by omega) hus)
      have HBB := hide (HBW.out wr hbel.out)
      clear hown hown2 hus hbel
      go_wp2_with fail
      refine CL.out.mono ?_
      rintro e w2 ⟨v2, rfl, ho2, hb2⟩
      rw [List.nil_append] at ho2
      have HB2 := hide (HB1.out.trans (hb2.mono HBB.out.2))
      have HO2 := hide (own_base9 ho2 HBB.out.2)
      have k1 : w2.cell? ⟨w.heap.size, 1, none⟩ = some (.slice aa an ac) := (hK.out w2 HB2.out).cell rfl
      have CP := hide (put_own (w.heap.size + 1) v2 (li d) w2 HO2.out HRD.out (by omega) (HBW.out w2 HB2.out).2 (an : Int) (by omega) (by omega))
      clear CL ho2 hb2 HB1 HBB
      go_wp2_with fail
      refine CP.out.mono ?_
      rintro e w3 ⟨v3, rfl, ho3, hb3⟩
      have HB3 := hide (HB2.out.trans (hb3.mono (HBW.out w2 HB2.out).2))
      have HO3 := hide ho3
      have hrp := pu_range (an : Int) (by omega) (by omega)
      have hlp := (pu_len (an : Int)).2
      have k1 : w3.cell? ⟨w.heap.size, 1, none⟩ = some (.slice aa an ac) := (hK.out w3 HB3.out).cell rfl
      obtain ⟨pre, hpre⟩ : ∃ pre, li d ++ pu (an : Int) = pre := ⟨_, rfl⟩
      have HPR := hide (show ByteL pre from by rw [← hpre]; exact bytel_app HRD.out hrp)
      have hpl : pre.length ≤ 420 := by rw [← hpre, List.length_append]; omega
      have HRR : Hid (R = pre ++ (fbs a ++ rest [lg, fl, ct, at9, ls] 0)) := hide (by rw [HE.out, ← hpre, List.append_assoc])
      rw [hpre] at HO3
      clear CP ho3 hb3 HB2 HO2 hpre hrp hlp HE HRD hlld
      go_wp2_with fail
      go_loopw [6, 35] (fun v s wr => ∃ j : Nat, j ≤ an ∧ s = .int .i64 j ∧ Hid (Own wr (w.heap.size + 1) v (pre ++ fbs (a.take j))) ∧ Hid (Below (w.heap.size + 1) wa wr)) (fun _ s _ => an - (intOf s).toNat)
      case atStart => exact ⟨0, by omega, rfl, hide (by simpa [fbs] using HO3.out), HB3⟩
      case round =>
        obtain ⟨j, hj, rfl, hown, hbel⟩ := hrel
        clear k1
        by_cases hlt2 : j < an
        · obtain ⟨f, b, off, hf, rfl, c0, c1, hfw⟩ := fs_at (HA.out _ (HBW.out _ hbel.out).1) j hlt2
          have hfr := HP4.out f (List.mem_of_getElem? hf)
          have HFT := hide (fbs_take hf)
          obtain ⟨fL, fN⟩ := f
          simp only at c0 c1 hfr HFT
          have hwL : IntKind.u64.wrap fL = fL := by
            simp [IntKind.wrap, IntKind.bits, IntKind.signed]
            omega
          have hwN : IntKind.u64.wrap fN = fN := by
            simp [IntKind.wrap, IntKind.bits, IntKind.signed]
            omega
          obtain ⟨pj, hpj⟩ : ∃ pj, pre ++ fbs (a.take j) = pj := ⟨_, rfl⟩
          have HPJ := hide hpj
          have hpjl : pj.length ≤ 2000 := by
            rw [← hpj, List.length_append]
            have := fbs_len (a.take j)
            rw [List.length_take] at this
            omega
          have HRJ := hide (show ByteL pj from by rw [← hpj]; exact bytel_app HPR.out (fbs_range _ fun g hg => HP4.out g (List.mem_of_mem_take hg)))
          rw [hpj] at hown
          have A1 := (Below.refl _ wr).alloc (Nat.le_refl _) (Obj.cells #[.int .i64 fL, .int .i64 fN] 29)
          have HB4 := hide (hbel.out.trans (A1.mono (HBW.out wr hbel.out).2))
          have HO4 := hide (own_keep9 hown.out A1)
          have C1 := hide (put_own (w.heap.size + 1) u6 pj _ HO4.out HRJ.out (by omega) (HBW.out _ HB4.out).2 fL (by omega) (by omega))
          clear hf hfw hpj A1
          go_wp2_with fail
          refine C1.out.mono ?_
          rintro e w4 ⟨v4, rfl, ho4, hb4⟩
          have HB5 := hide (HB4.out.trans (hb4.mono (HBW.out _ HB4.out).2))
          have hek : w4.cell? ⟨wr.heap.size, 1, none⟩ = some (.int .i64 fN) := ((ek_new wr #[.int .i64 fL, .int .i64 fN] 29).below hb4 (by simp)).cell rfl
          have hl1 := (pu_len fL).2
          have C2 := hide (put_own (w.heap.size + 1) v4 (pj ++ pu fL) w4 ho4 (bytel_app HRJ.out (pu_range fL (by omega) (by omega))) (by rw [List.length_append]; omega) (HBW.out _ HB5.out).2 fN (by omega) (by omega))
          clear C1 ho4 hb4 HO4
          go_wp2_with fail
          refine C2.out.mono ?_
          rintro e w5 ⟨v5, rfl, ho5, hb5⟩
          have HB6 := hide (HB5.out.trans (hb5.mono (HBW.out _ HB5.out).2))
          have HO5 := hide (show Own w5 (w.heap.size + 1) v5 (pre ++ fbs (a.take (j + 1))) from by rw [HFT.out, ← List.append_assoc, HPJ.out, ← List.append_assoc]; exact ho5)
          clear C2 ho5 hb5 hek c0 c1
          go_wp2
          go_roundw
          case rel => exact ⟨j + 1, by omega, by go_num, HO5, HB6⟩
          case measure => simp [intOf]; omega
        · obtain rfl : j = an := by omega
          have hown2 := hown.out
          rw [List.take_of_length_le (by omega)] at hown2
          obtain ⟨pj, hpj⟩ : ∃ pj, pre ++ fbs a = pj := ⟨_, rfl⟩
          have hpjl : pj.length ≤ 2000 := by
            rw [← hpj, List.length_append]
            have := fbs_len a
            omega
          have HRJ := hide (show ByteL pj from by rw [← hpj]; exact bytel_app HPR.out (fbs_range _ HP4.out))
          have HR2 : Hid (R = pj ++ rest [lg, fl, ct, at9, ls] 0) := hide (by rw [HRR.out, ← hpj, List.append_assoc])
          rw [hpj] at hown2
          have HO6 := hide hown2
          have HB6 := hide hbel.out
          have kk := hK.out _ hbel.out
          have k2 : wr.cell? ⟨w.heap.size, 2, none⟩ = some (.int .i64 lg) := kk.cell rfl
          have k3 : wr.cell? ⟨w.heap.size, 3, none⟩ = some (.int .u64 fl) := kk.cell rfl
          have k4 : wr.cell? ⟨w.heap.size, 4, none⟩ = some (.int .u64 ct) := kk.cell rfl
          have k5 : wr.cell? ⟨w.heap.size, 5, none⟩ = some (.int .u64 at9) := kk.cell rfl
          have k6 : wr.cell? ⟨w.heap.size, 6, none⟩ = some (.int .u64 ls) := kk.cell rfl
          have A1 := (Below.refl _ wr).alloc (Nat.le_refl _) (Obj.cells #[.int .u64 lg, .int .u64 fl, .int .u64 ct, .int .u64 at9, .int .u64 ls] 24)
          have HB7 := hide (hbel.out.trans (A1.mono (HBW.out wr hbel.out).2))
          have HO7 := hide (own_keep9 hown2 A1)
          have HUZ := hide (show ∀ W, Below (wr.heap.size + 1) (wr.alloc (Obj.cells #[.int .u64 lg, .int .u64 fl, .int .u64 ct, .int .u64 at9, .int .u64 ls] 24)) W → Uz W wr.heap.size [lg, fl, ct, at9, ls] from fun W hW => uz5 ((ek_new wr _ _).below hW (Nat.lt_succ_self _)))
          obtain ⟨ns, hns⟩ : ∃ ns, [lg, fl, ct, at9, ls] = ns := ⟨_, rfl⟩
          have hnl : ns.length = 5 := by rw [← hns]; rfl
          have HNR := hide (show ∀ z ∈ ns, 0 ≤ z ∧ z ≤ 18446744073709551615 from by
            rw [← hns]
            intro z hz
            simp at hz
            omega)
          rw [hns] at HUZ HR2
          clear kk hown hown2 hbel A1 hpj HO3 HB3 HRR HPR hpl HP4 HP3 hns
          go_wp2_with fail
          generalize hwb : wr.alloc (Obj.cells #[.int .u64 lg, .int .u64 fl, .int .u64 ct, .int .u64 at9, .int .u64 ls] 24) = wb at *
          have hsb : wb.heap.size = wr.heap.size + 1 := by rw [← hwb]; simp
          clear hwb k2 k3 k4 k5 k6
          obtain ⟨Bq, hBq⟩ : ∃ Bq, wr.heap.size = Bq := ⟨_, rfl⟩
          rw [hBq] at hsb HUZ
          have hBqw : w.heap.size + 1 ≤ Bq := by rw [← hBq]; exact (HBW.out _ HB6.out).2
          rw [hBq]
          clear hBq HO6 HB6
          go_loopw [6, 63] (fun v s wq => ∃ i : Nat, i ≤ 5 ∧ s = .int .i64 i ∧ Hid (Own wq (w.heap.size + 1) v (pj ++ rows ns i)) ∧ Hid (Below (Bq + 1) wb wq)) (fun _ s _ => 5 - (intOf s).toNat)
          case atStart => exact ⟨0, by omega, rfl, hide (by simpa [rows] using HO7.out), hide (Below.refl _ _)⟩
          case round =>
            obtain ⟨i, hi, rfl, hown, hbel⟩ := hrel
            have hbig := hide (show Below (w.heap.size + 1) wa _ from HB7.out.trans (hbel.out.mono (by omega)))
            by_cases hlt3 : i < 5
            · obtain ⟨z, hz⟩ : ∃ z, ns[i]? = some z := ⟨_, List.getElem?_eq_getElem (by rw [hnl]; exact hlt3)⟩
              have hcz := HUZ.out _ hbel.out i z hz
              have hzr := HNR.out z (List.mem_of_getElem? hz)
              have hq3 : (i : Int) < 5 := by omega
              have HRM := hide (rows_more hz)
              have hrl := rows_len ns i (by omega)
              have C1 := hide (put_own (w.heap.size + 1) u6 (pj ++ rows ns i) _ hown.out (bytel_app HRJ.out (rows_range ns (urange_of HNR.out) i)) (by rw [List.length_append]; omega) (HBW.out _ hbig.out).2 z (by omega) (by omega))
              clear hz
              go_wp2_with fail
              refine C1.out.mono ?_
              rintro e w7 ⟨v7, rfl, ho7, hb7⟩
              have HO8 := hide (show Own w7 (w.heap.size + 1) v7 (pj ++ rows ns (i + 1)) from by rw [HRM.out, ← List.append_assoc]; exact ho7)
              have HB8 := hide (hbel.out.trans (hb7.mono (by have := hbel.out.size; omega)))
              clear C1 ho7 hb7 hcz
              go_wp2
              go_roundw
              case rel => exact ⟨i + 1, by omega, by go_num, HO8, HB8⟩
              case measure => simp [intOf]; omega
            · have hi5 : i = 5 := by omega
              have hq4 : ¬ ((i : Int) < 5) := by omega
              have hown2 := hown.out
              rw [rows_all ns i (by omega), ← HR2.out] at hown2
              have HO9 := hide hown2
              clear hown hown2 hi5
              go_wp2
              go_ret
              exact ⟨_, rfl, own_base9 HO9.out (by omega), (HBW.out _ hbig.out).1⟩

end Go.Proofs.Ytgopcaemgcnapaa.Clep

/- What is put is read: the bytes of an Edit that may be are that Edit's. No conditions. -/
namespace Go.Proofs.Ytgopcaemgcnapaa.Clep
open Go.RowKit
set_option linter.unusedVariables false
set_option maxRecDepth 10000

theorem stN_flat (ns t : List Int) (h : ∀ z ∈ ns, 0 ≤ z ∧ z ≤ 18446744073709551615) : ∀ j, j ≤ ns.length → stN (ns.flatMap pu ++ t, false) j = ((ns.drop j).flatMap pu ++ t, false)
  | 0, _ => by simp [stN]
  | j + 1, hj => by
    have ih := stN_flat ns t h j (by omega)
    unfold stN
    rw [ih]
    have hjl : j < ns.length := by omega
    rw [List.drop_eq_getElem_cons hjl, List.flatMap_cons, List.append_assoc]
    have hz := h ns[j] (List.getElem_mem hjl)
    unfold rt
    simp only
    rw [tk_pu _ _ hz.1 hz.2]
    simp
theorem nr_flat (ns t : List Int) (h : ∀ z ∈ ns, 0 ≤ z ∧ z ≤ 18446744073709551615) (j : Nat) (hj : j < ns.length) : nr (ns.flatMap pu ++ t, false) j = ns[j] := by
  unfold nr
  rw [stN_flat ns t h j (by omega), List.drop_eq_getElem_cons hj, List.flatMap_cons, List.append_assoc]
  have hz := h ns[j] (List.getElem_mem hj)
  unfold rt
  simp only
  rw [tk_pu _ _ hz.1 hz.2]
  simp
def flatF (a : List Fi) : List Int := a.flatMap (fun f => [f.L, f.N])
theorem flatF_len : ∀ a : List Fi, (flatF a).length = 2 * a.length
  | [] => rfl
  | f :: r => by
    have := flatF_len r
    unfold flatF at this ⊢
    simp only [List.flatMap_cons, List.length_append, List.length_cons, List.length_nil]
    omega
theorem flatF_at : ∀ (a : List Fi) (i : Nat) (f : Fi), a[i]? = some f → (flatF a)[2 * i]? = some f.L ∧ (flatF a)[2 * i + 1]? = some f.N
  | [], i, f, h => by simp at h
  | g :: r, 0, f, h => by
    simp at h
    subst h
    exact ⟨rfl, rfl⟩
  | g :: r, i + 1, f, h => by
    simp at h
    have := flatF_at r i f h
    unfold flatF at this ⊢
    rw [List.flatMap_cons, show 2 * (i + 1) = (2 * i) + 2 from by omega]
    exact this
theorem fbs_flat : ∀ a : List Fi, fbs a = (flatF a).flatMap pu
  | [] => rfl
  | f :: r => by
    have := fbs_flat r
    unfold fbs flatF at this ⊢
    simp only [List.flatMap_cons, List.flatMap_append]
    rw [this]
    simp
theorem ebd_read {E : Ed} (hm : emay E = 0) (hu : 0 ≤ E.fl ∧ 0 ≤ E.ct ∧ 0 ≤ E.at9 ∧ 0 ≤ E.ls) : red (ebd E) = some E := by
  have hp := emay_parts hm
  have hul : ul (ebd E) 40 = (E.d, ((li E.d).length : Int), 0) := by
    unfold ebd
    exact ul_whole E.d _ (urange_of fun z hz => by have := hp.2.1 z hz; omega) (by omega) 40 (by omega)
  have hs0 : s0X (ebd E) = (pu (E.a.length : Int) ++ (fbs E.a ++ rest [E.lg, E.fl, E.ct, E.at9, E.ls] 0), false) := by
    unfold s0X
    rw [hul]
    simp only [Int.toNat_natCast]
    unfold ebd
    rw [List.drop_left]
  have hrt : rt (s0X (ebd E)) = ((E.a.length : Int), (fbs E.a ++ rest [E.lg, E.fl, E.ct, E.at9, E.ls] 0, false)) := by
    rw [hs0]
    unfold rt
    simp only
    rw [tk_pu _ _ (by omega) (by omega)]
    simp
  have hc : cX (ebd E) = (E.a.length : Int) := by unfold cX; rw [hrt]
  obtain ⟨ns, hns⟩ : ∃ ns, flatF E.a ++ [E.lg, E.fl, E.ct, E.at9, E.ls] = ns := ⟨_, rfl⟩
  have hs1 : s1X (ebd E) = (ns.flatMap pu ++ [], false) := by
    unfold s1X
    rw [hrt, ← hns, List.flatMap_append, fbs_flat, List.append_nil]
    rfl
  have hnr : ∀ z ∈ ns, 0 ≤ z ∧ z ≤ 18446744073709551615 := by
    rw [← hns]
    intro z hz
    rcases List.mem_append.1 hz with h | h
    · obtain ⟨f, hf, h⟩ := List.mem_flatMap.1 h
      have := hp.2.2.1 f hf
      simp at h
      rcases h with rfl | rfl <;> omega
    · simp at h
      omega
  have hnl : ns.length = 2 * E.a.length + 5 := by rw [← hns, List.length_append, flatF_len]; rfl
  have hn : ∀ j v, ns[j]? = some v → nr (s1X (ebd E)) j = v := fun j v hv => by
    obtain ⟨hj, rfl⟩ := List.getElem?_eq_some_iff.1 hv
    rw [hs1, nr_flat ns [] hnr j hj]
  have hst : stN (s1X (ebd E)) (2 * E.a.length + 5) = ([], false) := by
    rw [hs1, stN_flat ns [] hnr _ (by omega), List.drop_eq_nil_of_le (by omega)]
    rfl
  have hfive : ∀ j v, [E.lg, E.fl, E.ct, E.at9, E.ls][j]? = some v → ns[2 * E.a.length + j]? = some v := fun j v hv => by
    rw [← hns, List.getElem?_append_right (by rw [flatF_len]; omega), flatF_len, show 2 * E.a.length + j - 2 * E.a.length = j from by omega]
    exact hv
  have hraw : rawE (ebd E) = E := by
    have hfx : fX (ebd E) E.a.length = E.a := by
      apply List.ext_getElem?
      intro i
      by_cases hi : i < E.a.length
      · have hf : E.a[i]? = some E.a[i] := List.getElem?_eq_getElem hi
        have h2 := flatF_at E.a i _ hf
        have e1 : ns[2 * i]? = some E.a[i].L := by rw [← hns, List.getElem?_append_left (by rw [flatF_len]; omega)]; exact h2.1
        have e2 : ns[2 * i + 1]? = some E.a[i].N := by rw [← hns, List.getElem?_append_left (by rw [flatF_len]; omega)]; exact h2.2
        unfold fX
        rw [List.getElem?_map, List.getElem?_range hi, hf]
        simp only [Option.map_some]
        rw [hn _ _ e1, hn _ _ e2]
      · rw [List.getElem?_eq_none (by rw [fX_len]; omega), List.getElem?_eq_none (by omega)]
    unfold rawE
    rw [hul, hc]
    simp only [Int.toNat_natCast]
    rw [hfx, hn (2 * E.a.length) _ (hfive 0 _ rfl), hn _ _ (hfive 1 _ rfl), hn _ _ (hfive 2 _ rfl), hn _ _ (hfive 3 _ rfl), hn _ _ (hfive 4 _ rfl)]
  unfold red
  rw [hraw, (mayB_iff E).2 hm]
  have hok : okR (ebd E) = true := by
    unfold okR
    rw [hul, hc]
    simp only [Int.toNat_natCast, hst]
    simp
    omega
  rw [hok]
  rfl
theorem ebd_range {E : Ed} (hm : emay E = 0) (hu : 0 ≤ E.fl ∧ 0 ≤ E.ct ∧ 0 ≤ E.at9 ∧ 0 ≤ E.ls) : ByteL (ebd E) := by
  have hp := emay_parts hm
  unfold ebd
  refine bytel_app (li_range E.d (urange_of fun z hz => by have := hp.2.1 z hz; omega) (by omega)) (bytel_app (pu_range _ (by omega) (by omega)) (bytel_app (fbs_range E.a hp.2.2.1) ?_))
  have := rows_range [E.lg, E.fl, E.ct, E.at9, E.ls] (urange_of fun z hz => by simp at hz; omega) 5
  rw [rows_all _ 5 (by simp)] at this
  exact this
theorem fr_body (ys : List Int) (hn : ys.length ≤ 60000) : ((fr 6 ys).take (8 + ys.length)).drop 8 = ys := by
  have h1 := fr_ln 6 ys [] hn
  have h2 := fr_bo 6 ys [] hn
  rw [List.append_nil] at h1 h2
  have := bo_cut (fr 6 ys) 0 ys.length (by rw [List.drop_zero, h1]; simp)
  rw [List.drop_zero, h2] at this
  simpa using this

end Go.Proofs.Ytgopcaemgcnapaa.Clep

/- What a row of bytes says, frame behind frame, up to the first that is none. -/
namespace Go.Proofs.Ytgopcaemgcnapaa.Clep
open Go.RowKit
set_option linter.unusedVariables false
set_option maxRecDepth 10000

/-- Frames from the front on, at most f of them: kinds and bodies, where the last ends, why. -/
def sp : Nat → List Int → List (Int × List Int) × Nat × Int
  | 0, _ => ([], 0, 0)
  | f + 1, X => if X = [] then ([], 0, 0) else if ce X = 0 then
      ((kd X, bo X) :: (sp f (X.drop ((ln X).toNat + 12))).1, (ln X).toNat + 12 + (sp f (X.drop ((ln X).toNat + 12))).2.1, (sp f (X.drop ((ln X).toNat + 12))).2.2)
    else ([], 0, ce X)
def SP (X : List Int) : List (Int × List Int) × Nat × Int := sp X.length X

theorem sp_succ (f : Nat) (X : List Int) : sp (f + 1) X = if X = [] then ([], 0, 0) else if ce X = 0 then
      ((kd X, bo X) :: (sp f (X.drop ((ln X).toNat + 12))).1, (ln X).toNat + 12 + (sp f (X.drop ((ln X).toNat + 12))).2.1, (sp f (X.drop ((ln X).toNat + 12))).2.2)
    else ([], 0, ce X) := rfl
theorem sp_fuel : ∀ (f g : Nat) (X : List Int), X.length ≤ f → X.length ≤ g → sp f X = sp g X
  | 0, 0, _, _, _ => rfl
  | 0, g + 1, X, hf, _ => by
    have : X = [] := List.eq_nil_of_length_eq_zero (by omega)
    subst this; simp [sp]
  | f + 1, 0, X, _, hg => by
    have : X = [] := List.eq_nil_of_length_eq_zero (by omega)
    subst this; simp [sp]
  | f + 1, g + 1, X, hf, hg => by
    have ih : X ≠ [] → sp f (X.drop ((ln X).toNat + 12)) = sp g (X.drop ((ln X).toNat + 12)) := fun hx => by
      have : 0 < X.length := List.length_pos_iff.2 hx
      exact sp_fuel f g _ (by rw [List.length_drop]; omega) (by rw [List.length_drop]; omega)
    rw [sp_succ, sp_succ]
    split
    · rfl
    · rename_i hx
      rw [ih hx]
theorem SP_nil : SP [] = ([], 0, 0) := rfl
theorem SP_bad (X : List Int) (hx : X ≠ []) (hc : ce X ≠ 0) : SP X = ([], 0, ce X) := by
  unfold SP
  obtain ⟨f, hf⟩ : ∃ f, X.length = f + 1 := ⟨X.length - 1, by have := List.length_pos_iff.2 hx; omega⟩
  rw [hf, sp_succ, if_neg hx, if_neg hc]
theorem SP_good (X : List Int) (hc : ce X = 0) : SP X = ((kd X, bo X) :: (SP (X.drop ((ln X).toNat + 12))).1, (ln X).toNat + 12 + (SP (X.drop ((ln X).toNat + 12))).2.1, (SP (X.drop ((ln X).toNat + 12))).2.2) := by
  have hk := ce_ok X hc
  have hx : X ≠ [] := fun h => by subst h; simp at hk
  obtain ⟨f, hf⟩ : ∃ f, X.length = f + 1 := ⟨X.length - 1, by omega⟩
  have e : SP (X.drop ((ln X).toNat + 12)) = sp f (X.drop ((ln X).toNat + 12)) := sp_fuel _ f _ (Nat.le_refl _) (by rw [List.length_drop]; omega)
  rw [e]
  unfold SP
  rw [hf, sp_succ, if_neg hx, if_pos hc]
theorem SP_front (k : Int) (ys r : List Int) (hk : 1 ≤ k) (hk2 : k ≤ 100) (hn : ys.length ≤ 60000) (hy : ByteL ys) :
    SP (fr k ys ++ r) = ((k, ys) :: (SP r).1, ys.length + 12 + (SP r).2.1, (SP r).2.2) := by
  rw [SP_good _ (fr_ce k ys r hk hk2 hn hy), fr_kd, fr_bo k ys r hn, fr_ln k ys r hn, Int.toNat_natCast, drop_app (fr k ys) r _ (fr_len k ys)]

/-- Behind j frames the place is P. -/
def At (zs : List Int) (j P : Nat) : Prop := P ≤ zs.length ∧ j ≤ P ∧ (SP zs).1.drop j = (SP (zs.drop P)).1 ∧ j ≤ (SP zs).1.length ∧ (SP zs).2.1 = P + (SP (zs.drop P)).2.1 ∧ (SP zs).2.2 = (SP (zs.drop P)).2.2
theorem At.start (zs : List Int) : At zs 0 0 := ⟨by omega, by omega, by simp, by omega, by simp, by simp⟩
theorem At.end {zs : List Int} {j P : Nat} (h : At zs j P) (hP : P = zs.length) : (SP zs).1.length = j ∧ (SP zs).2.1 = P ∧ (SP zs).2.2 = 0 := by
  obtain ⟨_, _, h1, h2, h3, h4⟩ := h
  rw [hP, List.drop_length, SP_nil] at h1 h3 h4
  have := List.drop_eq_nil_iff.1 h1
  exact ⟨by omega, by rw [h3, hP]; rfl, h4⟩
theorem At.stop {zs : List Int} {j P : Nat} (h : At zs j P) (hP : P < zs.length) (hc : ce (zs.drop P) ≠ 0) : (SP zs).1.length = j ∧ (SP zs).2.1 = P ∧ (SP zs).2.2 = ce (zs.drop P) := by
  obtain ⟨_, _, h1, h2, h3, h4⟩ := h
  have hx : zs.drop P ≠ [] := fun h => by have := List.drop_eq_nil_iff.1 h; omega
  rw [SP_bad _ hx hc] at h1 h3 h4
  have := List.drop_eq_nil_iff.1 h1
  exact ⟨by omega, by rw [h3]; rfl, h4⟩
theorem At.step {zs : List Int} {j P : Nat} (h : At zs j P) (hc : ce (zs.drop P) = 0) : At zs (j + 1) (P + ((ln (zs.drop P)).toNat + 12)) ∧ j < (SP zs).1.length ∧ (SP zs).1.getD j (0, []) = (kd (zs.drop P), bo (zs.drop P)) := by
  obtain ⟨hP, hj, h1, h2, h3, h4⟩ := h
  have hk := ce_ok _ hc
  rw [List.length_drop] at hk
  rw [SP_good _ hc, List.drop_drop] at h1 h3 h4
  have hlt : j < (SP zs).1.length := by
    rcases Nat.lt_or_ge j (SP zs).1.length with h | h
    · exact h
    · rw [List.drop_eq_nil_of_le h] at h1; cases h1
  rw [List.drop_eq_getElem_cons hlt] at h1
  injection h1 with h5 h6
  refine ⟨⟨by omega, by omega, h6, by omega, by rw [h3]; simp only []; omega, h4⟩, hlt, ?_⟩
  rw [List.getD, List.getElem?_eq_getElem hlt, Option.getD_some, h5]
theorem At.more {zs : List Int} {j P : Nat} (h : At zs j P) (hj : j < (SP zs).1.length) : ce (zs.drop P) = 0 := by
  rcases Classical.em (ce (zs.drop P) = 0) with h0 | h0
  · exact h0
  · have hP := h.1
    rcases Nat.lt_or_ge P zs.length with hl | hl
    · have := (h.stop hl h0).1; omega
    · have := (h.end (by omega)).1; omega

end Go.Proofs.Ytgopcaemgcnapaa.Clep

/- Heads of frames. No conditions. -/
namespace Go.Proofs.Ytgopcaemgcnapaa.Clep
open Go.RowKit
set_option linter.unusedVariables false
set_option maxRecDepth 10000

theorem hd_kd (k : Int) (n : Nat) (r : List Int) : kd (sl (hd k n) ++ r) = k := by simp [kd, sl, hd]
theorem hd_ln (k : Int) (n : Nat) (r : List Int) (hn : n ≤ 60000) : ln (sl (hd k n) ++ r) = n := by
  simp only [ln, sl, hd, List.cons_append, List.nil_append, List.getD_cons_succ, List.getD_cons_zero]
  omega
theorem hd_he (k : Int) (n : Nat) (r : List Int) (hk : 1 ≤ k) (hk2 : k ≤ 100) (hn : n ≤ 60000) : he (sl (hd k n) ++ r) = 0 := by
  have hg : nn ((sl (hd k n)).drop 4) = crc ((sl (hd k n)).take 4) := good_sl (hd k n) (hd_range k n hk hk2 hn)
  unfold he
  rw [List.take_append_of_le_length (by rw [sl_len, hd_len]; omega), List.take_of_length_le (by rw [sl_len, hd_len]; omega), if_pos hg]
/-- A frame that is cut is torn. -/
theorem torn (k : Int) (ys : List Int) (t : Nat) (hk : 1 ≤ k) (hk2 : k ≤ 100) (hn : ys.length ≤ 60000) (ht : t < ys.length + 12) : ce ((fr k ys).take t) = 4 := by
  have hlen : ((fr k ys).take t).length = t := by rw [List.length_take, fr_len]; omega
  rcases Nat.lt_or_ge t 8 with h | h
  · unfold ce; rw [if_pos (by omega)]
  · have e : (fr k ys).take t = sl (hd k ys.length) ++ (sl ys).take (t - 8) := by
      unfold fr
      rw [List.take_append, List.take_of_length_le (by rw [sl_len, hd_len]; omega), sl_len, hd_len]
    unfold ce
    rw [if_neg (by omega), hlen, e, if_neg (by rw [hd_he _ _ _ hk hk2 hn]; simp), if_neg (by rw [hd_kd, hd_ln _ _ _ hn]; omega), if_pos (by rw [hd_ln _ _ _ hn]; omega)]


end Go.Proofs.Ytgopcaemgcnapaa.Clep

/- A log of Edits as a row of bytes: which View its frames make, also where it is cut. No conditions. -/
namespace Go.Proofs.Ytgopcaemgcnapaa.Clep
open Go.RowKit
set_option linter.unusedVariables false
set_option maxRecDepth 10000

/-- The View that frames make of V, one by one. -/
def fE (V : Vw) : List (Int × List Int) → Option Vw
  | [] => some V
  | x :: r => if x.1 = 6 then (match red x.2 with
    | none => none
    | some E => match appl V E with
      | none => none
      | some U => fE U r) else none
theorem fE_cons (V : Vw) (x : Int × List Int) (r : List (Int × List Int)) : fE V (x :: r) = if x.1 = 6 then (match red x.2 with
    | none => none
    | some E => match appl V E with
      | none => none
      | some U => fE U r) else none := rfl
theorem fE_app : ∀ (F G : List (Int × List Int)) (V : Vw), fE V (F ++ G) = (fE V F).bind (fun U => fE U G)
  | [], G, V => rfl
  | x :: F, G, V => by
    rw [List.cons_append, fE_cons, fE_cons]
    split
    · cases h1 : red x.2 with
      | none => rfl
      | some E =>
        cases h2 : appl V E with
        | none => simp only; rw [h2]; rfl
        | some U => simp only; rw [h2]; exact fE_app F G U
    · rfl
/-- What the Edit of a body makes of V. -/
def cgd (V : Vw) (X : List Int) : Option Vw := match red X with
  | none => none
  | some E => appl V E
theorem fE_one (V : Vw) (x : Int × List Int) : fE V [x] = if x.1 = 6 then cgd V x.2 else none := by
  unfold fE cgd
  split
  · cases h1 : red x.2 with
    | none => rfl
    | some E =>
      cases h2 : appl V E with
      | none => simp only; rw [h2]
      | some U => simp only; rw [h2]; rfl
  · rfl
theorem fE_next {F : List (Int × List Int)} {j : Nat} {V : Vw} (hj : j < F.length) (h : fE zV (F.take j) = some V) : fE zV (F.take (j + 1)) = if (F.getD j (0, [])).1 = 6 then cgd V (F.getD j (0, [])).2 else none := by
  have e : F.take (j + 1) = F.take j ++ [F.getD j (0, [])] := by
    rw [List.take_add_one, List.getElem?_eq_getElem hj]
    simp [List.getD, List.getElem?_eq_getElem hj]
  rw [e, fE_app, h]
  exact fE_one V _
theorem fE_bad {F : List (Int × List Int)} {j : Nat} (h : fE zV (F.take j) = none) : fE zV F = none := by
  conv => lhs; rw [← List.take_append_drop j F]
  rw [fE_app, h]
  rfl
/-- What Replay tells: the View, and where the last frame ends. -/
def rpE (X : List Int) : Option (Vw × Nat) := if ((SP X).2.2 = 0 ∨ (SP X).2.2 = 4) ∧ 0 < (SP X).1.length then (match fE zV (SP X).1 with
  | none => none
  | some V => some (V, (SP X).2.1)) else none
theorem rpE_bad {X : List Int} {j : Nat} (h : fE zV ((SP X).1.take j) = none) : rpE X = none := by
  unfold rpE
  rw [fE_bad h]
  split <;> rfl
theorem rpE_err {X : List Int} (h0 : (SP X).2.2 ≠ 0) (h4 : (SP X).2.2 ≠ 4) : rpE X = none := by
  unfold rpE
  rw [if_neg]
  rintro ⟨h | h, _⟩
  · exact h0 h
  · exact h4 h
theorem rpE_zero {X : List Int} (h : (SP X).1.length = 0) : rpE X = none := by
  unfold rpE
  rw [if_neg]
  rintro ⟨_, h2⟩
  omega
theorem rpE_some {X : List Int} {V : Vw} (h : (SP X).2.2 = 0 ∨ (SP X).2.2 = 4) (h0 : 0 < (SP X).1.length) (hf : fE zV (SP X).1 = some V) : rpE X = some (V, (SP X).2.1) := by
  unfold rpE
  rw [if_pos ⟨h, h0⟩, hf]
theorem appl_ok {V U : Vw} {E : Ed} (h : appl V E = some U) : vok U = true := by
  unfold appl at h
  split at h
  · cases h
  · split at h
    · rename_i hv
      injection h with h
      rw [← h]
      exact hv
    · cases h
theorem cgd_ok {V U : Vw} {X : List Int} (h : cgd V X = some U) : vok U = true := by
  unfold cgd at h
  split at h
  · cases h
  · exact appl_ok h
theorem fE_ok : ∀ (F : List (Int × List Int)) (V U : Vw), fE V F = some U → (F = [] ∧ U = V) ∨ vok U = true
  | [], V, U, h => .inl ⟨rfl, (Option.some.inj h).symm⟩
  | x :: r, V, U, h => by
    right
    unfold fE at h
    split at h
    · split at h
      · cases h
      · split at h
        · cases h
        · rename_i W hW
          rcases fE_ok r W U h with ⟨_, rfl⟩ | h2
          · exact appl_ok hW
          · exact h2
    · cases h
/-- An Edit that may be. -/
def Eg (E : Ed) : Prop := emay E = 0 ∧ (0 ≤ E.fl ∧ 0 ≤ E.ct ∧ 0 ≤ E.at9 ∧ 0 ≤ E.ls)
/-- The log of Edits. -/
def el (l : List Ed) : List Int := l.flatMap (fun E => fr 6 (ebd E))
theorem el_cons (E : Ed) (l : List Ed) : el (E :: l) = fr 6 (ebd E) ++ el l := List.flatMap_cons
theorem el_app (a b : List Ed) : el (a ++ b) = el a ++ el b := List.flatMap_append
theorem el_one (E : Ed) : el [E] = fr 6 (ebd E) := by rw [el_cons]; simp [el]
theorem el_range : ∀ (l : List Ed), (∀ E ∈ l, Eg E) → ByteL (el l)
  | [], _ => fun z hz => by simp [el] at hz
  | E :: l, h => by
    have he := h E (by simp)
    rw [el_cons]
    exact ByteL.append (fr_range 6 (ebd E) (by omega) (by omega) (by have := ebd_len he.1; omega) (ebd_range he.1 he.2)) (el_range l (fun x hx => h x (by simp [hx])))
theorem el_len : ∀ (l : List Ed), (∀ E ∈ l, Eg E) → (el l).length ≤ 1312 * l.length
  | [], _ => by simp [el]
  | E :: l, h => by
    have h1 := el_len l (fun x hx => h x (by simp [hx]))
    have h2 := ebd_len (h E (by simp)).1
    rw [el_cons, List.length_append, fr_len, List.length_cons]
    omega
theorem SP_el : ∀ (l : List Ed), (∀ E ∈ l, Eg E) → ∀ r : List Int, SP (el l ++ r) = (l.map (fun E => ((6 : Int), ebd E)) ++ (SP r).1, (el l).length + (SP r).2.1, (SP r).2.2)
  | [], _, r => by simp [el]
  | E :: l, h, r => by
    have he := h E (by simp)
    rw [el_cons, List.append_assoc, SP_front 6 (ebd E) _ (by omega) (by omega) (by have := ebd_len he.1; omega) (ebd_range he.1 he.2), SP_el l (fun x hx => h x (by simp [hx])) r]
    simp only [List.map_cons, List.cons_append, List.length_append, fr_len]
    refine Prod.ext rfl (Prod.ext ?_ rfl)
    show _ + _ + (_ + _) = _ + _ + _
    omega
/-- Edits one behind the other. -/
def apE (V : Vw) : List Ed → Option Vw
  | [] => some V
  | E :: l => match appl V E with
    | none => none
    | some U => apE U l
theorem apE_cons (V : Vw) (E : Ed) (l : List Ed) : apE V (E :: l) = match appl V E with
    | none => none
    | some U => apE U l := rfl
theorem apE_app : ∀ (a b : List Ed) (V : Vw), apE V (a ++ b) = (apE V a).bind (fun U => apE U b)
  | [], b, V => rfl
  | E :: a, b, V => by
    rw [List.cons_append, apE_cons, apE_cons]
    cases appl V E with
    | none => rfl
    | some U => exact apE_app a b U
theorem apE_snoc {l : List Ed} {V U : Vw} {E : Ed} (h : apE zV l = some V) (h2 : appl V E = some U) : apE zV (l ++ [E]) = some U := by
  rw [apE_app, h]
  show apE V [E] = some U
  unfold apE
  rw [h2]
  rfl
theorem fE_el : ∀ (l : List Ed), (∀ E ∈ l, Eg E) → ∀ V, fE V (l.map (fun E => ((6 : Int), ebd E))) = apE V l
  | [], _, V => rfl
  | E :: l, h, V => by
    have he := h E (by simp)
    rw [List.map_cons]
    unfold fE apE
    rw [if_pos rfl]
    simp only [ebd_read he.1 he.2]
    cases appl V E with
    | none => rfl
    | some U => exact fE_el l (fun x hx => h x (by simp [hx])) U
/-- Where the first k Edits end. -/
def een (l : List Ed) (k : Nat) : Nat := (el (l.take k)).length
theorem een_zero (l : List Ed) : een l 0 = 0 := rfl
theorem een_succ (l : List Ed) (k : Nat) (E : Ed) (h : l[k]? = some E) : een l (k + 1) = een l k + (ebd E).length + 12 := by
  unfold een
  rw [List.take_add_one, h, el_app, List.length_append]
  show _ + (el [E]).length = _
  rw [el_one, fr_len]
  omega
theorem el_split (l : List Ed) (k : Nat) : el l = el (l.take k) ++ el (l.drop k) := by rw [← el_app, List.take_append_drop]
theorem een_all (l : List Ed) (k : Nat) (h : l.length ≤ k) : een l k = (el l).length := by unfold een; rw [List.take_of_length_le h]
theorem een_le (l : List Ed) (k : Nat) : een l k ≤ (el l).length := by rw [el_split l k, List.length_append]; unfold een; omega
theorem rpE_all {l : List Ed} (h : ∀ E ∈ l, Eg E) {V : Vw} (hV : apE zV l = some V) : rpE (el l) = if l.length = 0 then none else some (V, (el l).length) := by
  have hs := SP_el l h []
  rw [List.append_nil, SP_nil, List.append_nil, Nat.add_zero] at hs
  have hn : (SP (el l)).1.length = l.length := by rw [hs]; simp
  split
  · rename_i h0
    exact rpE_zero (by omega)
  · rename_i h0
    rw [rpE_some (V := V) (by rw [hs]; exact .inl rfl) (by omega) (by rw [hs]; show fE zV (l.map _) = _; rw [fE_el l h, hV])]
    rw [hs]
/-- A log of Edits that is cut at K, n of them whole. -/
theorem rpE_cut {l : List Ed} (h : ∀ E ∈ l, Eg E) (n K : Nat) {V : Vw} (hV : apE zV (l.take n) = some V) (hn : n ≤ l.length) (hK : K ≤ (el l).length) (h1 : een l n ≤ K) (h2 : n < l.length → K < een l (n + 1)) : rpE ((el l).take K) = if n = 0 then none else some (V, een l n) := by
  have hg : ∀ E ∈ l.take n, Eg E := fun E hE => h E (List.mem_of_mem_take hE)
  have e : (el l).take K = el (l.take n) ++ (el (l.drop n)).take (K - een l n) := by
    conv => lhs; rw [el_split l n]
    rw [List.take_append, List.take_of_length_le (by unfold een at h1; omega)]
    rfl
  have hs := SP_el (l.take n) hg ((el (l.drop n)).take (K - een l n))
  rw [← e] at hs
  have hr : (SP ((el (l.drop n)).take (K - een l n))).1 = [] ∧ (SP ((el (l.drop n)).take (K - een l n))).2.1 = 0 ∧ ((SP ((el (l.drop n)).take (K - een l n))).2.2 = 0 ∨ (SP ((el (l.drop n)).take (K - een l n))).2.2 = 4) := by
    rcases Nat.eq_zero_or_pos (K - een l n) with h0 | h0
    · rw [h0, List.take_zero, SP_nil]; exact ⟨rfl, rfl, .inl rfl⟩
    rcases Nat.lt_or_ge n l.length with hl | hl
    · have hx : l[n]? = some l[n] := List.getElem?_eq_getElem hl
      have hd : l.drop n = l[n] :: l.drop (n + 1) := List.drop_eq_getElem_cons hl
      have h3 := een_succ l n _ hx
      have h4 := h2 hl
      have hg := h _ (List.getElem_mem hl)
      rw [hd, el_cons, List.take_append_of_le_length (by rw [fr_len]; omega)]
      have hc : ce ((fr 6 (ebd l[n])).take (K - een l n)) = 4 := torn 6 (ebd l[n]) _ (by omega) (by omega) (by have := ebd_len hg.1; omega) (by omega)
      have hx2 : (fr 6 (ebd l[n])).take (K - een l n) ≠ [] := fun e => by
        have := congrArg List.length e
        rw [List.length_take, List.length_nil, fr_len] at this
        omega
      rw [SP_bad _ hx2 (by rw [hc]; decide), hc]
      exact ⟨rfl, rfl, .inr rfl⟩
    · rw [List.drop_eq_nil_of_le hl]
      simp [el, SP_nil]
  rw [hr.1, hr.2.1, List.append_nil, Nat.add_zero] at hs
  have hm : (SP ((el l).take K)).1.length = n := by rw [hs]; simp; omega
  split
  · rename_i h0
    exact rpE_zero (by omega)
  · rename_i h0
    rw [rpE_some (V := V) (by rw [hs]; exact hr.2.2) (by omega) (by rw [hs]; show fE zV ((l.take n).map _) = _; rw [fE_el _ hg, hV])]
    rw [hs]
    rfl
/-- What Replay returns. -/
def RpA (r : Option (Vw × Nat)) (w : World) (e : Ending) (w' : World) : Prop := (match r with
  | none => e = .returned (.tuple #[vwV none 0 0 zV, .int .i64 0, .int .i64 9])
  | some x => ∃ a c, e = .returned (.tuple #[vwV a x.1.f.length c x.1, .int .i64 (x.2 : Nat), .int .i64 0]) ∧ Fs w' a x.1.f.length c x.1.f ∧ c ≤ 9223372036854775807) ∧ Below w.heap.size w w'
theorem rpa_form {r : Option (Vw × Nat)} {w : World} {e : Ending} {w' : World} (h : RpA r w e w') : ∃ a c V n k, r.getD (zV, 0) = (V, n) ∧ (k : Int) = (if r.isSome = true then 0 else 9) ∧ e = .returned (.tuple #[vwV a V.f.length c V, .int .i64 (n : Nat), .int .i64 k]) ∧ Fs w' a V.f.length c V.f ∧ c ≤ 9223372036854775807 ∧ Below w.heap.size w w' := by
  cases r with
  | none => exact ⟨none, 0, zV, 0, 9, rfl, rfl, h.1, fs_nil _, by omega, h.2⟩
  | some x =>
    obtain ⟨⟨a, c, h1, h2, h3⟩, h4⟩ := h
    exact ⟨a, c, x.1, x.2, 0, rfl, rfl, h1, h2, h3, h4⟩

end Go.Proofs.Ytgopcaemgcnapaa.Clep

/- What edit.Read does when called (a walk over the translated program): for any bytes of at most a million. -/
namespace Go.Proofs.Ytgopcaemgcnapaa.Clep
open Go.RowKit
set_option linter.unusedVariables false
set_option maxRecDepth 10000

section
attribute [local go_sem ↓] cut_l
set_option maxHeartbeats 4000000 in
theorem read_any (ao : Option Addr) (len cap : Nat) (zs : List Int) (w : World) (hm : len ≤ 1000000) (hcm : cap ≤ 9223372036854775807) (h : Bs w ao len cap zs) :
    Calls Try.prog 17 #[.slice ao len cap] w (RdA (red zs) w) := by
  have hzl := h.1
  have hbr := bs_range h
  have HB := hide h
  have HBR := hide (show ByteL zs from hbr)
  have HRF := hide (red_form zs)
  have HRN := hide (show red zs = none → ∀ W, Below w.heap.size w W → RdA (red zs) w (.returned (.tuple #[edV none 0 0 none 0 0 zE, .int .i64 3])) W from fun e W hW => by rw [e]; exact ⟨rfl, hW⟩)
  have HRS := hide (show ∀ E W da dc aa ac, red zs = some E → Zs W da E.d.length dc E.d → Fs W aa E.a.length ac E.a → Below w.heap.size w W → RdA (red zs) w (.returned (.tuple #[edV da E.d.length dc aa E.a.length ac E, .int .i64 0])) W from fun E W da dc aa ac e h1 h2 h3 => by rw [e]; exact ⟨⟨da, dc, aa, ac, rfl, h1, h2⟩, h3⟩)
  have HOK := hide (show okR zs = (decide ((ul zs 40).2.2 = 0) && (decide (cX zs ≤ 40) && (!(stN (s1X zs) (2 * (cX zs).toNat + 5)).2 && decide ((stN (s1X zs) (2 * (cX zs).toNat + 5)).1.length = 0)))) from rfl)
  have HUP := hide (ul_place zs 40)
  have HUN := hide (ul_nums zs 40 hbr (by omega))
  have HSM := hide (show smE (rawE zs) = ⟨(ul zs 40).1.map sm, (fX zs (cX zs).toNat).map smF, sm (nr (s1X zs) (2 * (cX zs).toNat)), nr (s1X zs) (2 * (cX zs).toNat + 1), nr (s1X zs) (2 * (cX zs).toNat + 2), nr (s1X zs) (2 * (cX zs).toNat + 3), nr (s1X zs) (2 * (cX zs).toNat + 4)⟩ from rfl)
  have CU := hide (fun W (hW : Below w.heap.size w W) => unlist_any ao len cap zs 40 W (by omega) hcm (h.below hW (Nat.le_refl _)) (by omega) (by omega) (ul zs 40) (hide rfl))
  have HS0 := hide (show s0X zs = (zs.drop (ul zs 40).2.1.toNat, false) from rfl)
  generalize RdA (red zs) w = RR at *
  obtain ⟨d0, sz, er, hu⟩ : ∃ d sz er, ul zs 40 = (d, sz, er) := ⟨_, _, _, rfl⟩
  rw [hu] at HOK HUP HUN HSM CU HS0
  simp only at HOK HUP HUN HSM CU HS0
  unfold edV zE at HRN
  unfold edV at HRS
  simp only at HRN
  clear h hbr hu
  have A0 := (Below.refl w.heap.size w).alloc (Nat.le_refl _) (Obj.cells #[.slice none 0 0, .slice none 0 0, .int .i64 0, .int .u64 0, .int .u64 0, .int .u64 0, .int .u64 0] 31)
  have HB0 := hide A0
  have HZ0 := hide (ek_new w #[.slice none 0 0, .slice none 0 0, .int .i64 0, .int .u64 0, .int .u64 0, .int .u64 0, .int .u64 0] 31)
  have HSA := hide (show (w.alloc (Obj.cells #[.slice none 0 0, .slice none 0 0, .int .i64 0, .int .u64 0, .int .u64 0, .int .u64 0, .int .u64 0] 31)).heap.size = w.heap.size + 1 by simp)
  clear A0
  go_enter Try.func17, Try.ntmps17
  go_wp2_with fail
  refine (CU.out _ HB0.out).mono ?_
  rintro e w1 ⟨v1, rfl, ho1, hb1⟩
  have HZ1 := hide (HZ0.out.below hb1 HZ0.out.lt)
  have HB1 := hide (HB0.out.trans (hb1.mono HB0.out.size))
  have HO1 := hide ho1
  have hl1 : w.heap.size + 1 ≤ w1.heap.size := by rw [← HSA.out]; exact hb1.size
  clear CU ho1 hb1 HB0 HZ0 HSA
  by_cases her : er = 0
  · subst her
    have hup := HUP.out rfl
    have hun := HUN.out
    have hdl : (d0.length : Int) ≤ 40 := hun.2 rfl
    rw [show decide ((0 : Int) = 0) = true from rfl, Bool.true_and] at HOK
    obtain ⟨sn, rfl⟩ := Int.eq_ofNat_of_zero_le hup.1
    simp only [Int.toNat_natCast] at HS0
    have hsn : (sn : Int) ≤ (len : Int) := by omega
    have hs0n : (0 : Int) ≤ (sn : Int) := by omega
    have HBW := hide (HB.out.below HB1.out (Nat.le_refl _))
    have HRD := hide (show Rdr (w1.alloc (Obj.cells #[.slice (cut ao cap sn) (len - sn) (cap - sn), .bool false] 88)) w.heap.size w1.heap.size (s0X zs) from by
      have hcut := HBW.out.cut sn len (by omega) (Nat.le_refl _)
      rw [List.take_of_length_le (by omega)] at hcut
      rw [HS0.out]
      refine ⟨_, _, _, ek_new w1 _ _, hcut.below ((Below.refl _ w1).alloc (Nat.le_refl _) _) (Nat.le_refl _), by omega, fun h0 a ha => ?_, by omega⟩
      obtain ⟨b, off, e1, hc⟩ := HB.out.2.2.2 (by omega)
      refine ecut_block (fun x hx => ?_) a ha
      rw [e1] at hx
      cases hx
      exact World.block_lt_of_cell? w _ (hc 0 (by omega)))
    have hA1 := (Below.refl _ w1).alloc (Nat.le_refl _) (Obj.cells #[.slice (cut ao cap sn) (len - sn) (cap - sn), .bool false] 88)
    have CS := hide (smalls_any v1 d0 _ _ (ownU_below HO1.out hA1) hun.1 (by omega))
    have HA1 := hide hA1
    have HSB := hide (show (w1.alloc (Obj.cells #[.slice (cut ao cap sn) (len - sn) (cap - sn), .bool false] 88)).heap.size = w1.heap.size + 1 by simp)
    have HDR := hide (show ∀ z ∈ d0.map sm, -9223372036854775808 ≤ z ∧ z ≤ 9223372036854775807 from fun z hz => by
      obtain ⟨y, hy, rfl⟩ := List.mem_map.1 hz
      have := sm_range (hun.1 y hy).1
      omega)
    clear HUP HUN hun hA1
    go_wp2_with fail
    refine CS.out.mono ?_
    rintro e w2 ⟨v2, rfl, ho2, hb2⟩
    obtain ⟨dd, dc, hv2, hdc, hzs2, hzb2⟩ := ownZ_zs ho2 HDR.out
    obtain ⟨dn, hdn⟩ : ∃ dn, (d0.map sm).length = dn := ⟨_, rfl⟩
    have HDN := hide hdn
    rw [hdn] at hv2 hzs2
    subst hv2
    have HB2 := hide ((HB1.out.trans (HA1.out.mono HB1.out.size)).trans (hb2.mono (by rw [HSB.out]; omega)))
    have hA2 := (Below.refl _ w2).alloc (Nat.le_refl _) (Obj.cells #[.slice dd dn dc, .slice none 0 0, .int .i64 0, .int .u64 0, .int .u64 0, .int .u64 0, .int .u64 0] 31)
    have hs2 : w1.heap.size + 1 ≤ w2.heap.size := by rw [← HSB.out]; exact hb2.size
    have ST := hide (show RS w w1.heap.size w2.heap.size dd dn dc (d0.map sm) (w2.alloc (Obj.cells #[.slice dd dn dc, .slice none 0 0, .int .i64 0, .int .u64 0, .int .u64 0, .int .u64 0, .int .u64 0] 31)) (s0X zs) #[.slice dd dn dc, .slice none 0 0, .int .i64 0, .int .u64 0, .int .u64 0, .int .u64 0, .int .u64 0] (.slice none 0 0) [] from
      ⟨(HRD.out.keep hb2).keep hA2, ek_new w2 _ _, ownF_nil _ _, hzs2.below hA2 (Nat.le_refl _), fun a ha => (by
        have h1 := World.ownsRow.lt ho2 a.block (by rw [ha]; rfl)
        rw [HSB.out] at h1
        omega), ((HZ1.out.below HA1.out HZ1.out.lt).below hb2 (Nat.lt_of_lt_of_le HZ1.out.lt HA1.out.size)).below hA2 (by omega), HB2.out.trans (hA2.mono HB2.out.size), by simp, by omega⟩)
    have CT := hide (rdtake_any w.heap.size w1.heap.size (s0X zs) _ ST.out.rd (by rw [HS0.out]; simp; omega))
    have hRQ : w1.heap.size < w2.heap.size := by omega
    clear CS ho2 hb2 hzs2 hzb2 hA2 HA1 HRD HBW HZ1 HO1 hdn
    go_wp2_with fail
    refine CT.out.mono ?_
    rintro e w3 ⟨rfl, hrd3, hg3⟩
    have ST3 := hide (ST.out.take hg3 hrd3)
    clear CT hrd3 hg3 ST
    have hcr := (rt_range (s0X zs) (by rw [HS0.out]; exact fun z hz => HBR.out z (List.mem_of_mem_drop hz))).1
    have HB3 := hide (show ByteL (s1X zs).1 from (rt_range (s0X zs) (by rw [HS0.out]; exact fun z hz => HBR.out z (List.mem_of_mem_drop hz))).2)
    have HL3 := hide (show (s1X zs).1.length ≤ 1000000 from Nat.le_trans (rt_len (s0X zs)) (by rw [HS0.out]; simp; omega))
    have HCX := hide (show (rt (s0X zs)).1 = cX zs from rfl)
    have HS1 := hide (show (rt (s0X zs)).2 = s1X zs from rfl)
    rw [HS1.out] at ST3
    rw [HCX.out] at hcr
    rw [HCX.out]
    clear HCX HS1 HS0
    have HFX := hide (show ∀ n, fX zs (n + 1) = fX zs n ++ [⟨nr (s1X zs) (2 * n), nr (s1X zs) (2 * n + 1)⟩] from fX_next zs)
    have HFW := hide (show ∀ n, ∀ x ∈ (fX zs n).map smF, x.wf from fun n x hx => by
      obtain ⟨f, hf, rfl⟩ := List.mem_map.1 hx
      obtain ⟨k, hk, rfl⟩ := List.mem_map.1 hf
      have h1 := sm_range (nr_range (s1X zs) HB3.out (2 * k)).1
      have h2 := sm_range (nr_range (s1X zs) HB3.out (2 * k + 1)).1
      unfold smF Fi.wf
      simp only
      omega)
    generalize s1X zs = s1 at *
    generalize hRR : w1.heap.size = R at *
    generalize hQQ : w2.heap.size = Q at *
    clear hRR hQQ
    obtain ⟨c, hc⟩ := Int.eq_ofNat_of_zero_le hcr.1
    have HC := hide hc
    rw [hc] at HOK HSM hcr
    simp only [Int.toNat_natCast] at HOK HSM
    rw [hc]
    by_cases hc40 : (c : Int) ≤ 40
    · have hcg : ¬ ((40 : Int) < (c : Int)) := by omega
      rw [show decide ((c : Int) ≤ 40) = true from decide_eq_true hc40, Bool.true_and] at HOK
      have HTK := hide (show ∀ (W : World) (s : List Int × Bool), Rdr W w.heap.size R s → s.1.length ≤ 1000000 → Calls Try.prog 42 #[.pointer (some ⟨R, 0, none⟩)] W fun e w' => e = .returned (.int .u64 (rt s).1) ∧ Rdr w' w.heap.size R (rt s).2 ∧ W.grownBy w' (some R) from fun W s h1 h2 => rdtake_any w.heap.size R s W h1 h2)
      have HLL := hide (show ∀ j, (stN s1 j).1.length ≤ 1000000 from fun j => Nat.le_trans (stN_len s1 j) HL3.out)
      have HNR := hide (fun j => nr_range s1 HB3.out j)
      clear hc
      go_wp2_with fail
      go_loopw [32] (fun s wr => ∃ i : Nat, i ≤ c ∧ s = .int .u64 i ∧ Hid (∃ a k, RS w R Q dd dn dc (d0.map sm) wr (stN s1 (2 * i)) #[.slice dd dn dc, .slice a i k, .int .i64 0, .int .u64 0, .int .u64 0, .int .u64 0, .int .u64 0] (.slice a i k) ((fX zs i).map smF))) (fun s _ => c - (intOf s).toNat)
      case atStart => exact ⟨0, by omega, rfl, hide ⟨none, 0, ST3.out⟩⟩
      case round =>
        obtain ⟨i, hi, rfl, hst⟩ := hrel
        obtain ⟨fa, fk, st⟩ := hst.out
        have S0 := hide st
        clear hst st ST3
        by_cases hlt : i < c
        · have C1 := hide (HTK.out wr _ S0.out.rd (HLL.out _))
          have hqi : (i : Int) < (c : Int) := by omega
          go_wp2_with fail
          refine C1.out.mono ?_
          rintro e w4 ⟨rfl, hrd4, hg4⟩
          have S4 := hide (S0.out.take hg4 hrd4)
          have HX1 := hide (show (rt (stN s1 (2 * i))).1 = nr s1 (2 * i) from rfl)
          have HX2 := hide (show (rt (stN s1 (2 * i))).2 = stN s1 (2 * i + 1) from rfl)
          rw [HX1.out]
          rw [HX2.out] at S4
          have C2 := hide (small_any (nr s1 (2 * i)) w4 (HNR.out _).1)
          clear C1 hrd4 hg4 S0 HX1 HX2
          go_wp2_with fail
          refine C2.out.mono ?_
          rintro e w5 ⟨rfl, hw5⟩
          subst hw5
          have C3 := hide (HTK.out w5.drew _ S4.out.drew.rd (HLL.out _))
          have q1 : w5.cell? ⟨Q, 1, none⟩ = some (.slice fa i fk) := S4.out.q.cell rfl
          have hQl : Q < w5.heap.size := S4.out.q.lt
          obtain ⟨lv, hlv⟩ : ∃ lv, sm (nr s1 (2 * i)) = lv := ⟨_, rfl⟩
          have HLV := hide hlv
          rw [hlv]
          obtain ⟨nm, hnm⟩ : ∃ nm, sm (nr s1 (2 * i + 1)) = nm := ⟨_, rfl⟩
          have HNM := hide hnm
          have HFN := hide (show (fX zs i).map smF ++ [⟨lv, nm⟩] = (fX zs (i + 1)).map smF from by rw [HFX.out, List.map_append, ← hlv, ← hnm]; rfl)
          have hl0 := sm_range (HNR.out (2 * i)).1
          have hl1' := sm_range (HNR.out (2 * i + 1)).1
          have HWF := hide (show Fi.wf ⟨lv, nm⟩ from by rw [← hlv, ← hnm]; unfold Fi.wf; simp only; omega)
          have HLE := hide (show ((fX zs i).map smF).length + 1 ≤ 3518437208883 from by rw [List.length_map, fX_len]; omega)
          have HL8 := hide (show ((fX zs (i + 1)).map smF).length = i + 1 from by rw [List.length_map, fX_len])
          have HWF8 := hide (show ∀ x ∈ (fX zs (i + 1)).map smF, x.wf from HFW.out (i + 1))
          clear C2 hlv hnm hl0 hl1'
          go_wp2_with fail
          go_region_law (first
            | (refine step_append_files rfl (.tmp 37) (.tmp 42) rfl (Q + 1) _ ((fX zs i).map smF) (by first | rfl | simp [Act.eval, Act.put]) HO7.out (some ⟨w7.heap.size, 0, none⟩) 1 1 [⟨lv, nm⟩] (by first | rfl | simp [Act.eval, Act.put]) HF7.out HLE.out HSZ7.out ?_; intro v8 w8 o8 g8 k8; have S8 := hide (S7.out.row g8 k8 o8); have o9 : OwnF w8 (Q + 1) v8 ((fX zs (i + 1)).map smF) := (HFN.out ▸ o8); obtain ⟨a8, c8, hv8, _, _, _⟩ := ownF_fs o9 HWF8.out; rw [HL8.out] at hv8; subst hv8; have q8 : w8.cell? ⟨Q, 1, none⟩ = some (.slice fa i fk) := S8.out.q.cell rfl; have f8 := S8.out.q.free 1; clear o8 g8 k8)
            | (go_simp; refine C3.out.mono ?_; rintro e w6 ⟨rfl, hrd6, hg6⟩; have S6 := hide (S4.out.drew.take hg6 hrd6); have C4 := hide (small_any _ w6 (HNR.out (2 * i + 1)).1); have q6 : w6.cell? ⟨Q, 1, none⟩ = some (.slice fa i fk) := S6.out.q.cell rfl; have hQ6 : Q < w6.heap.size := S6.out.q.lt; clear hrd6 hg6)
            | (go_simp; refine C4.out.mono ?_; rintro e w7 ⟨rfl, hw7⟩; subst hw7; rw [HNM.out]; have S7 := hide (S6.out.keep ((Below.refl _ w7).alloc (Nat.le_refl _) (Obj.cells #[.int .i64 lv, .int .i64 nm] 29))); have HO7 := hide S7.out.own; have HSZ7 := hide S7.out.sz; have HF7 := hide (fs_block HWF.out (fhpS w7 (Obj.cells #[.int .i64 lv, .int .i64 nm] 29) _ rfl))))
          all_goals
            clear q1 q6 C3 C4
            go_wp2
            go_roundw
            case rel => exact ⟨i + 1, by omega, by go_num, hide ⟨a8, c8, by have := S8.out.setq 1 (.slice a8 (i + 1) c8); rw [HFN.out] at this; exact this⟩⟩
            case measure => simp [intOf]; omega
        · obtain rfl : i = c := by omega
          have hqi : ¬ ((i : Int) < (i : Int)) := by omega
          have C0 := hide (HTK.out wr _ S0.out.rd (HLL.out _))
          go_wp2_with fail
          refine C0.out.mono ?_
          rintro e x1 ⟨rfl, hrd, hg⟩
          have T1 := hide (show RS w R Q dd dn dc (d0.map sm) x1 (stN s1 (2 * i + 1)) _ _ _ from S0.out.take hg hrd)
          rw [show (rt (stN s1 (2 * i))).1 = nr s1 (2 * i) from rfl]
          clear hrd hg C0 S0
          have q1 : x1.cell? ⟨Q, 2, none⟩ = some (.int .i64 0) := T1.out.q.cell rfl
          have f1 := T1.out.q.free 2
          have CS0 := hide (small_any (nr s1 (2 * i)) x1 (HNR.out _).1)
          go_wp2_with fail
          refine CS0.out.mono ?_
          rintro e x1b ⟨rfl, hx⟩
          subst hx
          clear CS0
          have S1 := hide (T1.out.setq 2 (.int .i64 (sm (nr s1 (2 * i)))))
          have C1 := hide (HTK.out _ _ S1.out.rd (HLL.out _))
          clear T1
          go_wp2_with fail
          refine C1.out.mono ?_
          rintro e x2 ⟨rfl, hrd, hg⟩
          have T2 := hide (show RS w R Q dd dn dc (d0.map sm) x2 (stN s1 (2 * i + 2)) _ _ _ from S1.out.take hg hrd)
          rw [show (rt (stN s1 (2 * i + 1))).1 = nr s1 (2 * i + 1) from rfl]
          clear hrd hg C1 S1
          have q2 : x2.cell? ⟨Q, 3, none⟩ = some (.int .u64 0) := T2.out.q.cell rfl
          have f2 := T2.out.q.free 3
          have S2 := hide (T2.out.setq 3 (.int .u64 (nr s1 (2 * i + 1))))
          have C2 := hide (HTK.out _ _ S2.out.rd (HLL.out _))
          clear T2
          go_wp2_with fail
          refine C2.out.mono ?_
          rintro e x3 ⟨rfl, hrd, hg⟩
          have T3 := hide (show RS w R Q dd dn dc (d0.map sm) x3 (stN s1 (2 * i + 3)) _ _ _ from S2.out.take hg hrd)
          rw [show (rt (stN s1 (2 * i + 2))).1 = nr s1 (2 * i + 2) from rfl]
          clear hrd hg C2 S2
          have q3 : x3.cell? ⟨Q, 4, none⟩ = some (.int .u64 0) := T3.out.q.cell rfl
          have f3 := T3.out.q.free 4
          have S3 := hide (T3.out.setq 4 (.int .u64 (nr s1 (2 * i + 2))))
          have C3 := hide (HTK.out _ _ S3.out.rd (HLL.out _))
          clear T3
          go_wp2_with fail
          refine C3.out.mono ?_
          rintro e x4 ⟨rfl, hrd, hg⟩
          have T4 := hide (show RS w R Q dd dn dc (d0.map sm) x4 (stN s1 (2 * i + 4)) _ _ _ from S3.out.take hg hrd)
          rw [show (rt (stN s1 (2 * i + 3))).1 = nr s1 (2 * i + 3) from rfl]
          clear hrd hg C3 S3
          have q4 : x4.cell? ⟨Q, 5, none⟩ = some (.int .u64 0) := T4.out.q.cell rfl
          have f4 := T4.out.q.free 5
          have S4 := hide (T4.out.setq 5 (.int .u64 (nr s1 (2 * i + 3))))
          have C4 := hide (HTK.out _ _ S4.out.rd (HLL.out _))
          clear T4
          go_wp2_with fail
          refine C4.out.mono ?_
          rintro e x5 ⟨rfl, hrd, hg⟩
          have T5 := hide (show RS w R Q dd dn dc (d0.map sm) x5 (stN s1 (2 * i + 5)) _ _ _ from S4.out.take hg hrd)
          rw [show (rt (stN s1 (2 * i + 4))).1 = nr s1 (2 * i + 4) from rfl]
          clear hrd hg C4 S4
          have q5 : x5.cell? ⟨Q, 6, none⟩ = some (.int .u64 0) := T5.out.q.cell rfl
          have f5 := T5.out.q.free 6
          have S5 := hide (T5.out.setq 6 (.int .u64 (nr s1 (2 * i + 4))))
          have SF := hide (show RS w R Q dd dn dc (d0.map sm) (x5.setCell ⟨Q, 6, none⟩ (.int .u64 (nr s1 (2 * i + 4)))) (stN s1 (2 * i + 5)) #[.slice dd dn dc, .slice fa i fk, .int .i64 (sm (nr s1 (2 * i))), .int .u64 (nr s1 (2 * i + 1)), .int .u64 (nr s1 (2 * i + 2)), .int .u64 (nr s1 (2 * i + 3)), .int .u64 (nr s1 (2 * i + 4))] (.slice fa i fk) ((fX zs i).map smF) from S5.out)
          clear T5 S5
          obtain ⟨la, ln, lc, hekR, hbsR, hlc, _, _⟩ := SF.out.rd
          have hlnl := hbsR.1
          obtain ⟨rf, hrf⟩ : ∃ rf, (stN s1 (2 * i + 5)).2 = rf := ⟨_, rfl⟩
          rw [hrf] at HOK hekR
          simp only [hlnl] at HOK
          have HEKR := hide hekR
          have HZF := hide SF.out.z
          have HBF := hide SF.out.bel
          clear hbsR hekR hrf hlc HTK HLL q1 f1 q2 f2 q3 f3 q4 f4
          have r1 : (x5.setCell ⟨Q, 6, none⟩ (.int .u64 (nr s1 (2 * i + 4)))).cell? ⟨R, 1, none⟩ = some (.bool rf) := HEKR.out.cell rfl
          have r0 : (x5.setCell ⟨Q, 6, none⟩ (.int .u64 (nr s1 (2 * i + 4)))).cell? ⟨R, 0, none⟩ = some (.slice la ln lc) := HEKR.out.cell rfl
          have z0 : (x5.setCell ⟨Q, 6, none⟩ (.int .u64 (nr s1 (2 * i + 4)))).cell? ⟨w.heap.size, 0, none⟩ = some (.slice none 0 0) := (HZF.out).cell rfl
          have y0 : (x5.setCell ⟨Q, 6, none⟩ (.int .u64 (nr s1 (2 * i + 4)))).frozen? ⟨w.heap.size, 0, none⟩ = false := (HZF.out).free 0
          have z1 : (x5.setCell ⟨Q, 6, none⟩ (.int .u64 (nr s1 (2 * i + 4)))).cell? ⟨w.heap.size, 1, none⟩ = some (.slice none 0 0) := (HZF.out).cell rfl
          have y1 : (x5.setCell ⟨Q, 6, none⟩ (.int .u64 (nr s1 (2 * i + 4)))).frozen? ⟨w.heap.size, 1, none⟩ = false := (HZF.out).free 1
          have z2 : (x5.setCell ⟨Q, 6, none⟩ (.int .u64 (nr s1 (2 * i + 4)))).cell? ⟨w.heap.size, 2, none⟩ = some (.int .i64 0) := (HZF.out).cell rfl
          have y2 : (x5.setCell ⟨Q, 6, none⟩ (.int .u64 (nr s1 (2 * i + 4)))).frozen? ⟨w.heap.size, 2, none⟩ = false := (HZF.out).free 2
          have z3 : (x5.setCell ⟨Q, 6, none⟩ (.int .u64 (nr s1 (2 * i + 4)))).cell? ⟨w.heap.size, 3, none⟩ = some (.int .u64 0) := (HZF.out).cell rfl
          have y3 : (x5.setCell ⟨Q, 6, none⟩ (.int .u64 (nr s1 (2 * i + 4)))).frozen? ⟨w.heap.size, 3, none⟩ = false := (HZF.out).free 3
          have z4 : (x5.setCell ⟨Q, 6, none⟩ (.int .u64 (nr s1 (2 * i + 4)))).cell? ⟨w.heap.size, 4, none⟩ = some (.int .u64 0) := (HZF.out).cell rfl
          have y4 : (x5.setCell ⟨Q, 6, none⟩ (.int .u64 (nr s1 (2 * i + 4)))).frozen? ⟨w.heap.size, 4, none⟩ = false := (HZF.out).free 4
          have z5 : (x5.setCell ⟨Q, 6, none⟩ (.int .u64 (nr s1 (2 * i + 4)))).cell? ⟨w.heap.size, 5, none⟩ = some (.int .u64 0) := (HZF.out).cell rfl
          have y5 : (x5.setCell ⟨Q, 6, none⟩ (.int .u64 (nr s1 (2 * i + 4)))).frozen? ⟨w.heap.size, 5, none⟩ = false := (HZF.out).free 5
          have z6 : (x5.setCell ⟨Q, 6, none⟩ (.int .u64 (nr s1 (2 * i + 4)))).cell? ⟨w.heap.size, 6, none⟩ = some (.int .u64 0) := (HZF.out).cell rfl
          have y6 : (x5.setCell ⟨Q, 6, none⟩ (.int .u64 (nr s1 (2 * i + 4)))).frozen? ⟨w.heap.size, 6, none⟩ = false := (HZF.out).free 6
          have e0 : (x5.setCell ⟨Q, 6, none⟩ (.int .u64 (nr s1 (2 * i + 4)))).cell? ⟨Q, 0, none⟩ = some (.slice dd dn dc) := SF.out.q.cell rfl
          have e1 : (x5.setCell ⟨Q, 6, none⟩ (.int .u64 (nr s1 (2 * i + 4)))).cell? ⟨Q, 1, none⟩ = some (.slice fa i fk) := SF.out.q.cell rfl
          have e2 : (x5.setCell ⟨Q, 6, none⟩ (.int .u64 (nr s1 (2 * i + 4)))).cell? ⟨Q, 2, none⟩ = some (.int .i64 (sm (nr s1 (2 * i)))) := SF.out.q.cell rfl
          have e3 : (x5.setCell ⟨Q, 6, none⟩ (.int .u64 (nr s1 (2 * i + 4)))).cell? ⟨Q, 3, none⟩ = some (.int .u64 (nr s1 (2 * i + 1))) := SF.out.q.cell rfl
          have e4 : (x5.setCell ⟨Q, 6, none⟩ (.int .u64 (nr s1 (2 * i + 4)))).cell? ⟨Q, 4, none⟩ = some (.int .u64 (nr s1 (2 * i + 2))) := SF.out.q.cell rfl
          have e5 : (x5.setCell ⟨Q, 6, none⟩ (.int .u64 (nr s1 (2 * i + 4)))).cell? ⟨Q, 5, none⟩ = some (.int .u64 (nr s1 (2 * i + 3))) := SF.out.q.cell rfl
          have e6 : (x5.setCell ⟨Q, 6, none⟩ (.int .u64 (nr s1 (2 * i + 4)))).cell? ⟨Q, 6, none⟩ = some (.int .u64 (nr s1 (2 * i + 4))) := SF.out.q.cell rfl
          have hQF := SF.out.q.lt
          have CM := hide (show ∀ x, x = (x5.setCell ⟨Q, 6, none⟩ (.int .u64 (nr s1 (2 * i + 4)))) → Calls Try.prog 29 #[.agg #[.slice dd dn dc, .slice fa i fk, .int .i64 (sm (nr s1 (2 * i))), .int .u64 (nr s1 (2 * i + 1)), .int .u64 (nr s1 (2 * i + 2)), .int .u64 (nr s1 (2 * i + 3)), .int .u64 (nr s1 (2 * i + 4))]] x fun e w' => e = .returned (.bool (mayB ⟨d0.map sm, (fX zs i).map smF, sm (nr s1 (2 * i)), nr s1 (2 * i + 1), nr s1 (2 * i + 2), nr s1 (2 * i + 3), nr s1 (2 * i + 4)⟩)) ∧ Below x.heap.size x w' from fun x hx => by
            subst hx
            have hfs := ownF_fsN SF.out.own (HFW.out i) (by rw [List.length_map, fX_len])
            exact maybe_any dd dn dc fa i fk ⟨d0.map sm, (fX zs i).map smF, sm (nr s1 (2 * i)), nr s1 (2 * i + 1), nr s1 (2 * i + 2), nr s1 (2 * i + 3), nr s1 (2 * i + 4)⟩ _ SF.out.zs hfs.2 (by have := HDN.out; rw [List.length_map] at this; omega) (by omega))
          have HOW := hide SF.out.own
          have HZS := hide SF.out.zs
          have HZB := hide SF.out.zb
          have HRQ := hide SF.out.rq
          have HQF := hide SF.out.q
          clear SF
          cases rf with
          | true =>
            have HN := hide (HRN.out (by rw [HRF.out, HOK.out]; rfl))
            clear HRF HOK HSM HRN HRS CM HOW HZS HZB HFX HFW HNR
            go_wp2
            have HZ7 := eset7 (HZF.out) (.slice none 0 0) (.slice none 0 0) (.int .i64 0) (.int .u64 0) (.int .u64 0) (.int .u64 0) (.int .u64 0)
            refine bodyPost_ret (read_results (e := 3) HZ7 _ rfl rfl) rfl ?_
            exact HN.out _ ((HBF.out).grown (gset7 _ w.heap.size _ _ _ _ _ _ _) (HBF.out).size (fun k hk => by have : w.heap.size = k := Option.some.inj hk; omega))
          | false =>
            by_cases hln : ln = 0
            · subst hln
              have hq0 : ¬ ((0 : Int) < ((0 : Nat) : Int)) := by omega
              go_wp2_with fail
              refine (CM.out _ rfl).mono ?_
              rintro e y ⟨rfl, hby⟩
              have HZY := hide (HZF.out.below hby HZF.out.lt)
              have HBY := hide (HBF.out.trans (hby.mono HBF.out.size))
              have HQY := hide (HQF.out.below hby HQF.out.lt)
              have HOY := hide (ownF_keep HOW.out hby)
              have HSY := hide (HZS.out.below hby (Nat.le_refl _))
              obtain ⟨om, hom⟩ : ∃ om, mayB ⟨d0.map sm, (fX zs i).map smF, sm (nr s1 (2 * i)), nr s1 (2 * i + 1), nr s1 (2 * i + 2), nr s1 (2 * i + 3), nr s1 (2 * i + 4)⟩ = om := ⟨_, rfl⟩
              have HOM := hide hom
              rw [hom]
              clear hom CM hby r0 r1 HEKR z0 z1 z2 z3 z4 z5 z6 y0 y1 y2 y3 y4 y5 y6 e0 e1 e2 e3 e4 e5 e6 hQF
              have z0 : y.cell? ⟨w.heap.size, 0, none⟩ = some (.slice none 0 0) := (HZY.out).cell rfl
              have y0 : y.frozen? ⟨w.heap.size, 0, none⟩ = false := (HZY.out).free 0
              have z1 : y.cell? ⟨w.heap.size, 1, none⟩ = some (.slice none 0 0) := (HZY.out).cell rfl
              have y1 : y.frozen? ⟨w.heap.size, 1, none⟩ = false := (HZY.out).free 1
              have z2 : y.cell? ⟨w.heap.size, 2, none⟩ = some (.int .i64 0) := (HZY.out).cell rfl
              have y2 : y.frozen? ⟨w.heap.size, 2, none⟩ = false := (HZY.out).free 2
              have z3 : y.cell? ⟨w.heap.size, 3, none⟩ = some (.int .u64 0) := (HZY.out).cell rfl
              have y3 : y.frozen? ⟨w.heap.size, 3, none⟩ = false := (HZY.out).free 3
              have z4 : y.cell? ⟨w.heap.size, 4, none⟩ = some (.int .u64 0) := (HZY.out).cell rfl
              have y4 : y.frozen? ⟨w.heap.size, 4, none⟩ = false := (HZY.out).free 4
              have z5 : y.cell? ⟨w.heap.size, 5, none⟩ = some (.int .u64 0) := (HZY.out).cell rfl
              have y5 : y.frozen? ⟨w.heap.size, 5, none⟩ = false := (HZY.out).free 5
              have z6 : y.cell? ⟨w.heap.size, 6, none⟩ = some (.int .u64 0) := (HZY.out).cell rfl
              have y6 : y.frozen? ⟨w.heap.size, 6, none⟩ = false := (HZY.out).free 6
              cases om with
              | false =>
                have HN := hide (HRN.out (by rw [HRF.out, HSM.out, HOM.out, Bool.and_false]; rfl))
                clear HRF HOK HSM HRN HRS
                go_wp2
                have HZ7 := eset7 (HZY.out) (.slice none 0 0) (.slice none 0 0) (.int .i64 0) (.int .u64 0) (.int .u64 0) (.int .u64 0) (.int .u64 0)
                refine bodyPost_ret (read_results (e := 3) HZ7 _ rfl rfl) rfl ?_
                exact HN.out _ ((HBY.out).grown (gset7 _ w.heap.size _ _ _ _ _ _ _) (HBY.out).size (fun k hk => by have : w.heap.size = k := Option.some.inj hk; omega))
              | true =>
                have hred : red zs = some ⟨d0.map sm, (fX zs i).map smF, sm (nr s1 (2 * i)), nr s1 (2 * i + 1), nr s1 (2 * i + 2), nr s1 (2 * i + 3), nr s1 (2 * i + 4)⟩ := by rw [HRF.out, HSM.out, HOK.out, HOM.out]; rfl
                have HRED := hide hred
                have e0 : y.cell? ⟨Q, 0, none⟩ = some (.slice dd dn dc) := HQY.out.cell rfl
                have e1 : y.cell? ⟨Q, 1, none⟩ = some (.slice fa i fk) := HQY.out.cell rfl
                have e2 : y.cell? ⟨Q, 2, none⟩ = some (.int .i64 (sm (nr s1 (2 * i)))) := HQY.out.cell rfl
                have e3 : y.cell? ⟨Q, 3, none⟩ = some (.int .u64 (nr s1 (2 * i + 1))) := HQY.out.cell rfl
                have e4 : y.cell? ⟨Q, 4, none⟩ = some (.int .u64 (nr s1 (2 * i + 2))) := HQY.out.cell rfl
                have e5 : y.cell? ⟨Q, 5, none⟩ = some (.int .u64 (nr s1 (2 * i + 3))) := HQY.out.cell rfl
                have e6 : y.cell? ⟨Q, 6, none⟩ = some (.int .u64 (nr s1 (2 * i + 4))) := HQY.out.cell rfl
                clear HRF HOK HSM HRN hred
                go_wp2
                have HZ7 := eset7 HZY.out (.slice dd dn dc) (.slice fa i fk) (.int .i64 (sm (nr s1 (2 * i)))) (.int .u64 (nr s1 (2 * i + 1))) (.int .u64 (nr s1 (2 * i + 2))) (.int .u64 (nr s1 (2 * i + 3))) (.int .u64 (nr s1 (2 * i + 4)))
                refine bodyPost_ret (read_results (e := 0) HZ7 _ rfl rfl) rfl ?_
                have hg := gset7 y w.heap.size (.slice dd dn dc) (.slice fa i fk) (.int .i64 (sm (nr s1 (2 * i)))) (.int .u64 (nr s1 (2 * i + 1))) (.int .u64 (nr s1 (2 * i + 2))) (.int .u64 (nr s1 (2 * i + 3))) (.int .u64 (nr s1 (2 * i + 4)))
                have hfl : ((fX zs i).map smF).length = i := by rw [List.length_map, fX_len]
                have hrq := HRQ.out
                have hres := HRS.out ⟨d0.map sm, (fX zs i).map smF, sm (nr s1 (2 * i)), nr s1 (2 * i + 1), nr s1 (2 * i + 2), nr s1 (2 * i + 3), nr s1 (2 * i + 4)⟩ _ dd dc fa fk HRED.out (by
                  show Zs _ dd (d0.map sm).length dc (d0.map sm)
                  rw [HDN.out]
                  exact HSY.out.gb hg (fun a ha e => by
                    have h1 : a.block = w.heap.size := Option.some.inj e
                    have := HZB.out a ha
                    omega)) (by
                  show Fs _ fa ((fX zs i).map smF).length fk ((fX zs i).map smF)
                  rw [hfl]
                  exact (ownF_fsN (ownF_grown HOY.out hg (fun k hk => by have : w.heap.size = k := Option.some.inj hk; omega)) (HFW.out i) hfl).2) (HBY.out.grown hg HBY.out.size (fun k hk => by have : w.heap.size = k := Option.some.inj hk; omega))
                simp only at hres
                rw [HDN.out, hfl] at hres
                exact hres
            · have hq0 : (0 : Int) < (ln : Int) := by omega
              have HN := hide (HRN.out (by rw [HRF.out, HOK.out, show decide (ln = 0) = false from decide_eq_false hln]; rfl))
              clear HRF HOK HSM HRN HRS CM HOW HZS HZB HFX HFW HNR hln
              go_wp2
              have HZ7 := eset7 (HZF.out) (.slice none 0 0) (.slice none 0 0) (.int .i64 0) (.int .u64 0) (.int .u64 0) (.int .u64 0) (.int .u64 0)
              refine bodyPost_ret (read_results (e := 3) HZ7 _ rfl rfl) rfl ?_
              exact HN.out _ ((HBF.out).grown (gset7 _ w.heap.size _ _ _ _ _ _ _) (HBF.out).size (fun k hk => by have : w.heap.size = k := Option.some.inj hk; omega))
    · have hcg : (40 : Int) < (c : Int) := by omega
      have HN := hide (HRN.out (by rw [HRF.out, HOK.out, show decide ((c : Int) ≤ 40) = false from decide_eq_false hc40]; rfl))
      have HZ3 := hide ST3.out.z
      have HB3' := hide ST3.out.bel
      have z0 : w3.cell? ⟨w.heap.size, 0, none⟩ = some (.slice none 0 0) := (HZ3.out).cell rfl
      have y0 : w3.frozen? ⟨w.heap.size, 0, none⟩ = false := (HZ3.out).free 0
      have z1 : w3.cell? ⟨w.heap.size, 1, none⟩ = some (.slice none 0 0) := (HZ3.out).cell rfl
      have y1 : w3.frozen? ⟨w.heap.size, 1, none⟩ = false := (HZ3.out).free 1
      have z2 : w3.cell? ⟨w.heap.size, 2, none⟩ = some (.int .i64 0) := (HZ3.out).cell rfl
      have y2 : w3.frozen? ⟨w.heap.size, 2, none⟩ = false := (HZ3.out).free 2
      have z3 : w3.cell? ⟨w.heap.size, 3, none⟩ = some (.int .u64 0) := (HZ3.out).cell rfl
      have y3 : w3.frozen? ⟨w.heap.size, 3, none⟩ = false := (HZ3.out).free 3
      have z4 : w3.cell? ⟨w.heap.size, 4, none⟩ = some (.int .u64 0) := (HZ3.out).cell rfl
      have y4 : w3.frozen? ⟨w.heap.size, 4, none⟩ = false := (HZ3.out).free 4
      have z5 : w3.cell? ⟨w.heap.size, 5, none⟩ = some (.int .u64 0) := (HZ3.out).cell rfl
      have y5 : w3.frozen? ⟨w.heap.size, 5, none⟩ = false := (HZ3.out).free 5
      have z6 : w3.cell? ⟨w.heap.size, 6, none⟩ = some (.int .u64 0) := (HZ3.out).cell rfl
      have y6 : w3.frozen? ⟨w.heap.size, 6, none⟩ = false := (HZ3.out).free 6
      clear HRF HOK HSM HRN HRS ST3 hc40
      go_wp2
      have HZ7 := eset7 (HZ3.out) (.slice none 0 0) (.slice none 0 0) (.int .i64 0) (.int .u64 0) (.int .u64 0) (.int .u64 0) (.int .u64 0)
      refine bodyPost_ret (read_results (e := 3) HZ7 _ rfl rfl) rfl ?_
      exact HN.out _ ((HB3'.out).grown (gset7 _ w.heap.size _ _ _ _ _ _ _) (HB3'.out).size (fun k hk => by have : w.heap.size = k := Option.some.inj hk; omega))
  · have HN := hide (HRN.out (by rw [HRF.out, HOK.out, show decide (er = 0) = false from decide_eq_false her]; rfl))
    have q : (er != 0) = true := by simpa using her
    have z0 : w1.cell? ⟨w.heap.size, 0, none⟩ = some (.slice none 0 0) := HZ1.out.cell rfl
    have y0 := HZ1.out.free 0
    have z1 : w1.cell? ⟨w.heap.size, 1, none⟩ = some (.slice none 0 0) := HZ1.out.cell rfl
    have y1 := HZ1.out.free 1
    have z2 : w1.cell? ⟨w.heap.size, 2, none⟩ = some (.int .i64 0) := HZ1.out.cell rfl
    have y2 := HZ1.out.free 2
    have z3 : w1.cell? ⟨w.heap.size, 3, none⟩ = some (.int .u64 0) := HZ1.out.cell rfl
    have y3 := HZ1.out.free 3
    have z4 : w1.cell? ⟨w.heap.size, 4, none⟩ = some (.int .u64 0) := HZ1.out.cell rfl
    have y4 := HZ1.out.free 4
    have z5 : w1.cell? ⟨w.heap.size, 5, none⟩ = some (.int .u64 0) := HZ1.out.cell rfl
    have y5 := HZ1.out.free 5
    have z6 : w1.cell? ⟨w.heap.size, 6, none⟩ = some (.int .u64 0) := HZ1.out.cell rfl
    have y6 := HZ1.out.free 6
    clear HRF HOK HUP HUN HSM HS0 HRN her
    have HRN := HN
    go_wp2
    have HZ7 := eset7 (HZ1.out) (.slice none 0 0) (.slice none 0 0) (.int .i64 0) (.int .u64 0) (.int .u64 0) (.int .u64 0) (.int .u64 0)
    refine bodyPost_ret (read_results (e := 3) HZ7 _ rfl rfl) rfl ?_
    exact HRN.out _ ((HB1.out).grown (gset7 _ w.heap.size _ _ _ _ _ _ _) (HB1.out).size (fun k hk => by have : w.heap.size = k := Option.some.inj hk; omega))
end

end Go.Proofs.Ytgopcaemgcnapaa.Clep
