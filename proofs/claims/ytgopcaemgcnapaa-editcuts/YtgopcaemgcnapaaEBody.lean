/- What edit.bodyOf does when called (a walk over the translated program): for any Edit that may be. The bytes of an Edit. -/
import Derived.Test.YtgopcaemgcnapaaEMayP
import Derived.Test.YtgopcaemgcnapaaNRefLists
namespace Go.Proofs.Ytgopcaemgcnapaa.Clep
open Go.RowKit
set_option linter.unusedVariables false
set_option maxRecDepth 10000

theorem wpList_append_u {w : World} {ops : Array Oper} {rest : List Oper} {o : Oper} {a : Act} {Q : Exit → Act → World → Prop} (hgd : o.guard = none) (s x : Operand)
    (ho : o.op = .call { callee := .builtin .append, args := #[s, x], argTypes := #[81, 81] })
    (base : Nat) (v : Value) (ns : List Int) (hs : a.eval s = v) (hown : OwnU w base v ns) (p : Nat) (z : Int) (hx : a.eval x = .slice (some ⟨p, 0, none⟩) 1 1) (hp : Ek w p #[.int .u64 z] 24)
    (hlen : ns.length ≤ 100000) (hbase : base ≤ w.heap.size)
    (h : ∀ v' w', OwnU w' base v' (ns ++ [z]) → w.grownBy w' v.ownBlock → (∀ k, v.ownBlock = some k → base ≤ k) → wpList Try.prog ops Q rest (a.put o.dst v') w') : wpList Try.prog ops Q (o :: rest) a w := by
  obtain ⟨i0, hi, hz0, hz1, hz2⟩ := info_parts info25
  refine wpList_append_own _ hgd s x 81 ho base 24 i0 (.int .u64 0) 1 8 Try.underlying81 hi hz0 hz1 hz2 rfl (by decide) v ns.length (uv ns) hs hown ⟨p, 0, none⟩ 1 1 [.int .u64 z] hx rfl ?_ ?_ (by unfold maxLen; omega) (by omega) hbase ?_
  · intro j u hu
    match j, hu with
    | 0, hu =>
      simp at hu
      subst hu
      exact hp.cell rfl
    | k + 1, hu => simp at hu
  · intro u hu
    simp at hu
    subst hu
    rfl
  · intro v' w' h1 h2 _
    exact h v' w' (ownU_snoc h1) h2 (fun k hk => (World.ownsRow.lt hown k hk).1)
def iv9 (ns : List Int) : List Value := ns.map (Value.int .i64)
/-- The slice value v owns the whole numbers ns. -/
def OwnZ (w : World) (B : Nat) (v : Value) (ns : List Int) : Prop := w.ownsRow B 3 1 v ns.length (iv9 ns)
theorem info_int : (Try.prog.info? 3).map (fun i => (i.zero, i.size, i.bytes)) = some (some (.int .i64 0), 1, 8) := by kernel_rfl
theorem ownZ_nil (w : World) (B : Nat) : OwnZ w B (.slice none 0 0) [] := World.ownsRow_nil _ _ _ _
theorem ownU_nil (w : World) (B : Nat) : OwnU w B (.slice none 0 0) [] := World.ownsRow_nil _ _ _ _
theorem wpList_append_z {w : World} {ops : Array Oper} {rest : List Oper} {o : Oper} {a : Act} {Q : Exit → Act → World → Prop} (hgd : o.guard = none) (s x : Operand)
    (ho : o.op = .call { callee := .builtin .append, args := #[s, x], argTypes := #[22, 22] })
    (base : Nat) (v : Value) (ns : List Int) (hs : a.eval s = v) (hown : OwnZ w base v ns) (p : Nat) (z : Int) (hx : a.eval x = .slice (some ⟨p, 0, none⟩) 1 1) (hp : Ek w p #[.int .i64 z] 3)
    (hlen : ns.length ≤ 100000) (hbase : base ≤ w.heap.size)
    (h : ∀ v' w', OwnZ w' base v' (ns ++ [z]) → w.grownBy w' v.ownBlock → (∀ k, v.ownBlock = some k → base ≤ k) → wpList Try.prog ops Q rest (a.put o.dst v') w') : wpList Try.prog ops Q (o :: rest) a w := by
  obtain ⟨i0, hi, hz0, hz1, hz2⟩ := info_parts info_int
  refine wpList_append_own _ hgd s x 22 ho base 3 i0 (.int .i64 0) 1 8 Try.underlying22 hi hz0 hz1 hz2 rfl (by decide) v ns.length (iv9 ns) hs hown ⟨p, 0, none⟩ 1 1 [.int .i64 z] hx rfl ?_ ?_ (by unfold maxLen; omega) (by omega) hbase ?_
  · intro j u hu
    match j, hu with
    | 0, hu =>
      simp at hu
      subst hu
      exact hp.cell rfl
    | k + 1, hu => simp at hu
  · intro u hu
    simp at hu
    subst hu
    rfl
  · intro v' w' h1 h2 _
    refine h v' w' ?_ h2 (fun k hk => (World.ownsRow.lt hown k hk).1)
    unfold OwnZ iv9
    simpa [iv9] using h1
theorem ownZ_zs {w : World} {B : Nat} {v : Value} {ns : List Int} (h : OwnZ w B v ns) (hz : ∀ z ∈ ns, -9223372036854775808 ≤ z ∧ z ≤ 9223372036854775807) :
    ∃ ao cap, v = .slice ao ns.length cap ∧ cap ≤ 9223372036854775807 ∧ Zs w ao ns.length cap ns ∧ ∀ a, ao = some a → B ≤ a.block := by
  obtain ⟨hl, ⟨rfl, hn⟩ | ⟨g, cap, cur, rfl, hg, hh, hnc, hcm, hcs, hx⟩⟩ := h
  · exact ⟨none, 0, by rw [hn], by omega, ⟨rfl, ⟨by omega, fun _ => ⟨hn, rfl⟩⟩, hz, fun h => by omega⟩, fun a h => by cases h⟩
  · refine ⟨some ⟨g, 0, none⟩, cap, rfl, by unfold maxLen at hcm; omega, ⟨rfl, ⟨hnc, fun h => by cases h⟩, hz, fun _ => ⟨g, 0, rfl, fun i z hi => ?_⟩⟩, fun a h => by cases h; exact hg⟩
    have hc := World.ownsRow.cells (w := w) (base := B) (e := 3) (size := 1) (v := .slice (some ⟨g, 0, none⟩) ns.length cap) (n := ns.length) (xs := iv9 ns)
      ⟨hl, .inr ⟨g, cap, cur, rfl, hg, hh, hnc, hcm, hcs, hx⟩⟩ (g := g) rfl i (.int .i64 z) (by simp [iv9, hi])
    rwa [add_plain] at hc
/-- The files as bytes. -/
def fbs (l : List Fi) : List Int := l.flatMap (fun f => pu f.L ++ pu f.N)
/-- An Edit's body. -/
def ebd (E : Ed) : List Int := li E.d ++ (pu (E.a.length : Int) ++ (fbs E.a ++ rest [E.lg, E.fl, E.ct, E.at9, E.ls] 0))
theorem emay_parts {E : Ed} (h : emay E = 0) : (E.d.length ≤ 40 ∧ E.a.length ≤ 40) ∧ (∀ z ∈ E.d, 1 ≤ z ∧ z ≤ 1073741824) ∧ (∀ f ∈ E.a, (0 ≤ f.L ∧ f.L ≤ 3) ∧ 1 ≤ f.N ∧ f.N ≤ 1073741824) ∧ (0 ≤ E.lg ∧ E.lg ≤ 1073741824) ∧ E.fl ≤ 281474976710656 ∧ E.ct ≤ 281474976710656 ∧ E.at9 ≤ 281474976710656 ∧ E.ls ≤ 281474976710656 := by
  unfold emay at h
  split at h
  · rename_i hh
    rw [Bool.and_eq_true, Bool.and_eq_true] at hh
    obtain ⟨h1, h2, h3⟩ := hh
    unfold edH at h1
    have h1 := of_decide_eq_true h1
    refine ⟨⟨h1.1, h1.2.1⟩, fun z hz => ?_, fun f hf => ?_, ⟨h1.2.2.1, h1.2.2.2.1⟩, h1.2.2.2.2⟩
    · have := List.all_eq_true.1 h2 z hz
      exact of_decide_eq_true this
    · have := List.all_eq_true.1 h3 f hf
      have := of_decide_eq_true this
      omega
  · cases h
theorem fbs_take {l : List Fi} {k : Nat} {f : Fi} (h : l[k]? = some f) : fbs (l.take (k + 1)) = fbs (l.take k) ++ (pu f.L ++ pu f.N) := by
  unfold fbs
  rw [List.take_add_one, h, List.flatMap_append]
  simp
theorem fbs_len : ∀ (l : List Fi), (fbs l).length ≤ 20 * l.length
  | [] => by simp [fbs]
  | f :: r => by
    have := fbs_len r
    have h1 := (pu_len f.L).2
    have h2 := (pu_len f.N).2
    unfold fbs at this ⊢
    simp only [List.flatMap_cons, List.length_append, List.length_cons]
    omega
theorem rest5_len (ns : List Int) (h : ns.length = 5) : (rest ns 0).length ≤ 50 := by
  have := rows_len ns 5 (by omega)
  rw [rows_all ns 5 (by omega)] at this
  omega
theorem fbs_range (l : List Fi) (h : ∀ f ∈ l, (0 ≤ f.L ∧ f.L ≤ 3) ∧ 1 ≤ f.N ∧ f.N ≤ 1073741824) : ByteL (fbs l) := by
  intro z hz
  obtain ⟨f, hf, hz⟩ := List.mem_flatMap.1 hz
  have := h f hf
  rcases List.mem_append.1 hz with e | e
  · exact pu_range f.L (by omega) (by omega) z e
  · exact pu_range f.N (by omega) (by omega) z e
def five (E : Ed) : List Int := [E.lg, E.fl, E.ct, E.at9, E.ls]
theorem ebd_len {E : Ed} (h : emay E = 0) : (ebd E).length ≤ 1300 := by
  have hp := emay_parts h
  have h1 := (li_len E.d (by omega)).2
  have h2 := (pu_len (E.a.length : Int)).2
  have h3 := fbs_len E.a
  have h4 := rest5_len [E.lg, E.fl, E.ct, E.at9, E.ls] rfl
  unfold ebd
  simp only [List.length_append]
  omega

end Go.Proofs.Ytgopcaemgcnapaa.Clep
