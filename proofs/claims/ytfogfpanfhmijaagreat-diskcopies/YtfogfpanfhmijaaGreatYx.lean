/- A call of both Disks (the statements' own function Do), kind by kind: both answer the same, and stand alike behind it. -/
import Derived.Test.YtfogfpanfhmijaaGreatYw
namespace Go.Proofs.YtfogfpanfhmijaaGreat.Clep
open Go.RowKit Go.Maps
set_option linter.unusedVariables false

theorem Pair.progW {B : Nat} {w W : World} {R : Nat} {S : St} {Q : Nat} {T : RSt} (h : Pair B w R S Q T) (hb : Below w.heap.size w W) : ∃ F : Nat → Prop, Held F W R S ∧ (∀ i, i < B → F i) ∧ (∀ i, w.heap.size ≤ i → i < W.heap.size → F i) ∧ ∀ w' S', Held F w' R S' → Same F W w' → Pair B w' R S' Q T ∧ Below B W w' := by
  obtain ⟨P, h⟩ := h
  have h2 := (h.below hb).1
  exact ⟨_, h2.held, fun i hi => .inl hi, fun i hi hl => .inr ⟨h.top i hi, hl⟩, fun w' S' hd hs => h2.prog hd hs⟩
/-- Names that are no longer than they may be. -/
structure NmOk (T : RSt) : Prop where
  now : ∀ x ∈ T.now, x.1.size ≤ 16
  last : ∀ x ∈ T.last, x.1.size ≤ 16
  ops : ∀ o ∈ T.ops, o.a.size ≤ 16 ∧ o.b.size ≤ 16
theorem okName_size {s : ByteArray} (h : okName s = true) : s.size ≤ 16 := by
  unfold okName at h
  simp only [Bool.and_eq_true, decide_eq_true_eq] at h
  omega
theorem nm_call {T : RSt} (h : NmOk T) : NmOk (callT T).2 := ⟨h.now, h.last, h.ops⟩
theorem nm_ops {T : RSt} (h : NmOk T) {o : RO} (ha : o.a.size ≤ 16) (hb : o.b.size ≤ 16) : ∀ x ∈ T.ops ++ [o], x.a.size ≤ 16 ∧ x.b.size ≤ 16 := by
  intro x hx
  rcases List.mem_append.1 hx with hx | hx
  · exact h.ops x hx
  · simp only [List.mem_singleton] at hx
    subst hx
    exact ⟨ha, hb⟩
theorem nm_create {T : RSt} (h : NmOk T) (s : ByteArray) : NmOk (crT T s).2 := by
  unfold crT crB
  cases ho : okName s with
  | false => exact h
  | true =>
    have hs := okName_size ho
    have h1 := nm_call h
    simp only [if_true]
    split
    · exact h1
    · split
      · exact h1
      · split
        · exact h1
        · refine ⟨fun x hx => ?_, h1.last, nm_ops h1 hs (Nat.zero_le _)⟩
          rcases withF_mem hx with rfl | hx
          · exact hs
          · exact h1.now x hx
theorem nm_remove {T : RSt} (h : NmOk T) (s : ByteArray) : NmOk (rmT T s).2 := by
  unfold rmT rmB
  cases ho : okName s with
  | false => exact h
  | true =>
    have hs := okName_size ho
    have h1 := nm_call h
    simp only [if_true]
    split
    · exact h1
    · split
      · exact h1
      · exact ⟨fun x hx => h1.now x (woF_mem hx), h1.last, nm_ops h1 hs (Nat.zero_le _)⟩
theorem nm_rename {T : RSt} (h : NmOk T) (s t : ByteArray) : NmOk (rnT T s t).2 := by
  unfold rnT rnB
  cases ho : okName s with
  | false => exact h
  | true =>
    cases ho2 : okName t with
    | false => exact h
    | true =>
      have hs := okName_size ho
      have ht := okName_size ho2
      have h1 := nm_call h
      simp only [Bool.and_self, if_true]
      split
      · exact h1
      · split
        · exact h1
        · split
          · exact h1
          · refine ⟨fun x hx => ?_, h1.last, nm_ops h1 hs ht⟩
            rcases withF_mem (woF_mem hx) with rfl | hx
            · exact ht
            · exact h1.now x hx
theorem nm_sync {T : RSt} (h : NmOk T) (s : ByteArray) : NmOk (syncT T s).2 := by
  unfold syncT syncB
  have h1 := nm_call h
  split
  · split
    · exact h1
    · split
      · exact h1
      · exact ⟨h1.now, h1.last, h1.ops⟩
  · exact h
theorem nm_append {T : RSt} (h : NmOk T) (s t : ByteArray) : NmOk (appT T s t).2 := by
  unfold appT appB
  have h1 := nm_call h
  split
  · split
    · exact h1
    · split
      · exact h1
      · split
        · exact h1
        · split
          · exact h1
          · exact ⟨h1.now, h1.last, h1.ops⟩
  · exact h
theorem nm_syncDir {T : RSt} (h : NmOk T) : NmOk (sdT T).2 := by
  unfold sdT sdB
  have h1 := nm_call h
  split
  · exact h1
  · exact ⟨h1.now, h1.now, fun o ho => by cases ho⟩
theorem nm_doT {L : List (ByteArray × Int)} {o : RO} (h : ∀ x ∈ L, x.1.size ≤ 16) (ho : o.a.size ≤ 16 ∧ o.b.size ≤ 16) : ∀ x ∈ doT L o, x.1.size ≤ 16 := by
  intro x hx
  unfold doT at hx
  split at hx
  · rcases withF_mem hx with rfl | hx
    · exact ho.1
    · exact h x hx
  · split at hx
    · split at hx
      · exact h x hx
      · rcases withF_mem (woF_mem hx) with rfl | hx
        · exact ho.2
        · exact h x hx
    · exact h x (woF_mem hx)
theorem nm_opsAll {ks : List Int} : ∀ (l : List RO) (k : Nat) (L : List (ByteArray × Int)), (∀ x ∈ L, x.1.size ≤ 16) → (∀ o ∈ l, o.a.size ≤ 16 ∧ o.b.size ≤ 16) → ∀ x ∈ opsAll ks l k L, x.1.size ≤ 16
  | [], k, L, h, _ => h
  | o :: l, k, L, h, ho => by
    simp only [opsAll]
    split
    · exact nm_opsAll l (k + 1) L h (fun z hz => ho z (by simp [hz]))
    · exact nm_opsAll l (k + 1) (doT L o) (nm_doT h (ho o (by simp))) (fun z hz => ho z (by simp [hz]))
theorem nm_crash {T : RSt} (h : NmOk T) (ks : List Int) : NmOk (crashT T ks) :=
  ⟨nm_opsAll _ _ _ h.last h.ops, nm_opsAll _ _ _ h.last h.ops, fun o ho => by cases ho⟩
def opV (kd n : Int) (a b : ByteArray) (kv : Value) : Value := .agg #[.int .i64 kd, .int .i64 n, .string a, .string b, kv]
/-- What Do leaves. -/
def Done (B : Nat) (R Q : Nat) (T : RSt) (w w' : World) : Prop := ∃ S' T', Rel S' T' ∧ NmOk T' ∧ T'.calls ≤ T.calls + 1 ∧ Pair B w' R S' Q T' ∧ Below B w w'
theorem created_le (T : RSt) (s : ByteArray) : (crT T s).2.calls ≤ T.calls + 1 := by
  unfold crT crB
  split
  · split
    · exact Nat.le_refl _
    · split
      · exact Nat.le_refl _
      · split <;> exact Nat.le_refl _
  · exact Nat.le_succ _
theorem create_p {B : Nat} {w W : World} {R : Nat} {S : St} {Q : Nat} {T : RSt} (p : Pair B w R S Q T) (r : Rel S T) (hc : T.calls < 1000) (s : ByteArray) (hs : s.size ≤ 100) (hb : Below w.heap.size w W) :
    Calls Tryz.prog 11 #[.pointer (some ⟨R, 0, none⟩), .string s] W fun e w' => e = .returned (.int .i64 (crT T s).1) ∧ Pair B w' R (createS S s).2 Q T ∧ Below B W w' ∧ ∀ i, w.heap.size ≤ i → i < W.heap.size → w'.heap[i]? = W.heap[i]? := by
  obtain ⟨F, hd, hB, hN, cl⟩ := p.progW hb
  refine (create_h s (E := (createS S s).1) (S' := (createS S s).2) rfl hd (by rw [r.calls]; omega) (by omega)).mono ?_
  rintro e w' ⟨rfl, hh, hs⟩
  obtain ⟨p', b'⟩ := cl w' _ hh hs
  exact ⟨by rw [(create_rel r hc s).1], p', b', fun i h1 h2 => hs.block i (hN i h1 h2)⟩
theorem create_r {B : Nat} {w : World} {R : Nat} {S : St} {Q : Nat} {T : RSt} (p : Pair B w R S Q T) (hc : T.calls < 1000) (s : ByteArray) (hs : s.size ≤ 100) :
    Calls Tryz.prog 18 #[.pointer (some ⟨Q, 0, none⟩), .string s] w fun e w' => e = .returned (.int .i64 (crT T s).1) ∧ Pair B w' R S Q (crT T s).2 ∧ Below B w w' := by
  obtain ⟨P, fv, nv, lv, ov, rf, hP, _, cl⟩ := p.refd
  refine (crT_any Q T P fv nv lv ov s w rf hs hc hP).mono ?_
  rintro e w' ⟨rfl, hr, hg⟩
  exact ⟨rfl, cl w' _ hr hg⟩

set_option maxHeartbeats 4000000 in
set_option maxRecDepth 8000 in
theorem do0 {B : Nat} {w : World} {R : Nat} {S : St} {Q : Nat} {T : RSt} (p : Pair B w R S Q T) (r : Rel S T) (nm : NmOk T) (hc : T.calls < 1000) (n : Int) (a b : ByteArray) (ka : Option Addr) (kl kc : Nat) (ha : a.size ≤ 100) :
    Calls Tryz.prog 8 #[.pointer (some ⟨R, 0, none⟩), .pointer (some ⟨Q, 0, none⟩), opV 0 n a b (.slice ka kl kc)] w fun e w' => e = .returned (.bool true) ∧ Done B R Q T w w' := by
  have cP := hide (fun W (hb : Below w.heap.size w W) => create_p p r hc a ha hb)
  have cR := hide (fun W S' (p' : Pair B W R S' Q T) => create_r p' hc a ha)
  have FIN := hide (show ∀ w', Pair B w' R (createS S a).2 Q (crT T a).2 → Below B w w' → Done B R Q T w w' from fun w' p' b' => ⟨_, _, (create_rel r hc a).2, nm_create nm a, created_le T a, p', b'⟩)
  have hbase := p.base
  unfold opV
  generalize (crT T a).1 = E at *
  generalize (crT T a).2 = T' at *
  generalize (createS S a).2 = S' at *
  clear p
  go_enter Tryz.func8, Tryz.ntmps8
  have BX := hide ((Below.refl w.heap.size w).alloc (Nat.le_refl _) (.cells #[.int .i64 0, .int .i64 n, .string a, .string b, .slice ka kl kc] 30))
  have x2 : (w.alloc (.cells #[.int .i64 0, .int .i64 n, .string a, .string b, .slice ka kl kc] 30)).cell? ⟨w.heap.size, 2, none⟩ = some (.string a) := cell_of (MapKept.heap_alloc w _).1 rfl
  have hbx : w.heap.size < (w.alloc (.cells #[.int .i64 0, .int .i64 n, .string a, .string b, .slice ka kl kc] 30)).heap.size := by simp
  go_wp2_with fail
  generalize w.alloc (.cells #[.int .i64 0, .int .i64 n, .string a, .string b, .slice ka kl kc] 30) = wA at *
  have BD := hide BX.out.drew
  generalize hbb : w.heap.size = bx at *
  have KX := hide (show ∀ w1 : World, (∀ i, bx ≤ i → i < wA.drew.heap.size → w1.heap[i]? = wA.drew.heap[i]?) → w1.cell? ⟨bx, 2, none⟩ = some (.string a) from fun w1 k1 => (World.cell?_of_block (w := wA.drew) (k1 bx (Nat.le_refl _) hbx)).trans x2)
  go_region_with (first
    | (go_at_call 11; refine (cP.out _ BD.out).mono ?_; rintro e w1 ⟨rfl, p1, b1, k1⟩; have y2 := KX.out w1 k1)
    | (go_at_call 18; refine (cR.out _ _ p1).mono ?_; rintro e w2 ⟨rfl, p2, b2⟩))
  all_goals
    have HP2 := hide p2
    have HB2 := hide ((BD.out.mono hbase).trans (b1.trans b2))
    clear p1 p2 b1 b2 k1
    go_wp2
    go_ret
    exact ⟨rfl, FIN.out _ HP2.out HB2.out⟩

end Go.Proofs.YtfogfpanfhmijaaGreat.Clep
