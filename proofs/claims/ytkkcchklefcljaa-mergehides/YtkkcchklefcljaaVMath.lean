/- Rising rows laid together, in whatever order and by whatever halves: at each place the one that wins; it is one list. No conditions. -/
import Derived.Test.YtkkcchklefcljaaJRowsW
namespace Go.Proofs.Ytkkcchklefcljaa.Clep
open Go.RowKit
set_option linter.unusedVariables false
set_option maxRecDepth 10000

/-- Of all that M says, at each place the one that wins. -/
def Bst (M : It → Prop) (l : List It) : Prop := Rise l ∧ (∀ x ∈ l, M x) ∧ ∀ x, M x → ∃ y ∈ l, y.same x = true ∧ x.wins y = false
theorem bst_mem {M : It → Prop} {l m : List It} (h : Bst M l) (h' : Bst M m) {x : It} (hx : x ∈ l) : x ∈ m := by
  obtain ⟨y, hy, hs, hw⟩ := h'.2.2 x (h.2.1 x hx)
  obtain ⟨z, hz, hs2, hw2⟩ := h.2.2 y (h'.2.1 y hy)
  have hzx : z = x := rise_same h.1 hz hx (by rw [same_iff] at *; omega)
  subst hzx
  have : y = z := by
    rw [same_iff] at hs hs2
    rw [nwins_iff] at hw hw2
    exact it_ext (by omega) (by omega) (by omega) (by omega) (by omega)
  rw [← this]; exact hy
theorem bst_unique {M : It → Prop} {l m : List It} (h : Bst M l) (h' : Bst M m) : l = m := rise_ext h.1 h'.1 fun x => ⟨fun hx => bst_mem h h' hx, fun hx => bst_mem h' h hx⟩
theorem bst_congr {M N : It → Prop} {l : List It} (h : Bst M l) (e : ∀ x, M x ↔ N x) : Bst N l := ⟨h.1, fun x hx => (e x).1 (h.2.1 x hx), fun x hx => h.2.2 x ((e x).2 hx)⟩
theorem wins_irrefl (x : It) : x.wins x = false := by rw [nwins_iff]; omega
theorem same_refl (x : It) : x.same x = true := by rw [same_iff]; omega
theorem bst_self {l : List It} (h : Rise l) : Bst (fun x => x ∈ l) l := ⟨h, fun x hx => hx, fun x hx => ⟨x, hx, same_refl x, wins_irrefl x⟩⟩
theorem mg_rise : ∀ (u l : List It), Rise u → Rise l → Rise (mg u l)
  | [], l, _, h => h
  | y :: r, l, hu, hl => by
    have hu' := List.pairwise_cons.1 (show List.Pairwise _ (y :: r) from hu)
    induction l with
    | nil => rw [mg_nil]; exact hu
    | cons x s ih =>
      have hl' := List.pairwise_cons.1 (show List.Pairwise _ (x :: s) from hl)
      rw [mg_cons]
      cases hs : y.same x with
      | true =>
        rw [if_pos rfl]
        refine List.pairwise_cons.2 ⟨fun z hz => ?_, mg_rise r s hu'.2 hl'.2⟩
        have hz' : y.less z = true := by
          rcases mg_mem r s z hz with e | e
          · exact hu'.1 z e
          · exact less_same hs (hl'.1 z e)
        split
        · exact less_same (by rw [same_iff] at *; omega) hz'
        · exact hz'
      | false =>
        rw [if_neg Bool.false_ne_true]
        cases hy : y.less x with
        | true =>
          rw [if_pos rfl]
          refine List.pairwise_cons.2 ⟨fun z hz => ?_, mg_rise r (x :: s) hu'.2 hl⟩
          rcases mg_mem r (x :: s) z hz with e | e
          · exact hu'.1 z e
          · rcases List.mem_cons.1 e with rfl | e
            · exact hy
            · exact less_trans hy (hl'.1 z e)
        | false =>
          rw [if_neg Bool.false_ne_true]
          have hxy := tri y x hs hy
          refine List.pairwise_cons.2 ⟨fun z hz => ?_, ih hl'.2⟩
          rcases mg_mem (y :: r) s z hz with e | e
          · rcases List.mem_cons.1 e with rfl | e
            · exact hxy
            · exact less_trans hxy (hu'.1 z e)
          · exact hl'.1 z e
theorem mg_cover : ∀ (u l : List It) (x : It), x ∈ u ∨ x ∈ l → ∃ y ∈ mg u l, y.same x = true ∧ x.wins y = false
  | [], l, x, h => ⟨x, by simpa [mg] using h, same_refl x, wins_irrefl x⟩
  | y :: r, l, z, h => by
    induction l with
    | nil => rw [mg_nil]; exact ⟨z, by simpa using h, same_refl z, wins_irrefl z⟩
    | cons x s ih =>
      rw [mg_cons]
      cases hs : y.same x with
      | true =>
        rw [if_pos rfl]
        have hh : z = y ∨ z = x ∨ (z ∈ r ∨ z ∈ s) := by
          rcases h with e | e <;> rcases List.mem_cons.1 e with e | e <;> simp [e]
        rcases hh with e | e | e
        · subst e
          refine ⟨_, List.mem_cons_self, ?_⟩
          cases hw : x.wins z with
          | true => rw [if_pos rfl]; rw [wins_iff] at hw; rw [nwins_iff]; rw [same_iff] at *; omega
          | false => rw [if_neg Bool.false_ne_true]; exact ⟨same_refl z, wins_irrefl z⟩
        · subst e
          refine ⟨_, List.mem_cons_self, ?_⟩
          cases hw : z.wins y with
          | true => rw [if_pos rfl]; exact ⟨same_refl z, wins_irrefl z⟩
          | false => rw [if_neg Bool.false_ne_true]; exact ⟨hs, hw⟩
        · obtain ⟨q, hq, h1, h2⟩ := mg_cover r s z e
          exact ⟨q, List.mem_cons_of_mem _ hq, h1, h2⟩
      | false =>
        rw [if_neg Bool.false_ne_true]
        cases hy : y.less x with
        | true =>
          rw [if_pos rfl]
          have hh : z = y ∨ (z ∈ r ∨ z ∈ x :: s) := by
            rcases h with e | e
            · rcases List.mem_cons.1 e with e | e <;> simp [e]
            · exact .inr (.inr e)
          rcases hh with e | e
          · subst e; exact ⟨_, List.mem_cons_self, same_refl _, wins_irrefl _⟩
          · obtain ⟨q, hq, h1, h2⟩ := mg_cover r (x :: s) z e
            exact ⟨q, List.mem_cons_of_mem _ hq, h1, h2⟩
        | false =>
          rw [if_neg Bool.false_ne_true]
          have hh : z = x ∨ (z ∈ y :: r ∨ z ∈ s) := by
            rcases h with e | e
            · exact .inr (.inl e)
            · rcases List.mem_cons.1 e with e | e <;> simp [e]
          rcases hh with e | e
          · subst e; exact ⟨_, List.mem_cons_self, same_refl _, wins_irrefl _⟩
          · obtain ⟨q, hq, h1, h2⟩ := ih e
            exact ⟨q, List.mem_cons_of_mem _ hq, h1, h2⟩
theorem bst_mg {M N : It → Prop} {a b : List It} (h : Bst M a) (k : Bst N b) : Bst (fun x => M x ∨ N x) (mg a b) := by
  refine ⟨mg_rise a b h.1 k.1, fun x hx => ?_, fun x hx => ?_⟩
  · rcases mg_mem a b x hx with e | e
    · exact .inl (h.2.1 x e)
    · exact .inr (k.2.1 x e)
  · have hc : ∃ y, (y ∈ a ∨ y ∈ b) ∧ y.same x = true ∧ x.wins y = false := by
      rcases hx with e | e
      · obtain ⟨y, hy, h1, h2⟩ := h.2.2 x e
        exact ⟨y, .inl hy, h1, h2⟩
      · obtain ⟨y, hy, h1, h2⟩ := k.2.2 x e
        exact ⟨y, .inr hy, h1, h2⟩
    obtain ⟨y, hy, h1, h2⟩ := hc
    obtain ⟨z, hz, h3, h4⟩ := mg_cover a b y hy
    refine ⟨z, hz, ?_, ?_⟩
    · rw [same_iff] at *; omega
    · rw [nwins_iff] at *; omega
/-- L is what comes of laying the rows ls together. -/
structure Mrg (ls : List (List It)) (L : List It) : Prop where
  mem : ∀ x ∈ L, ∃ l ∈ ls, x ∈ l
  len : L.length ≤ ls.flatten.length
  bst : (∀ l ∈ ls, Rise l) → Bst (fun x => ∃ l ∈ ls, x ∈ l) L
theorem mrg_nil : Mrg [] [] := ⟨by simp, by simp, fun _ => ⟨List.Pairwise.nil, by simp, by simp⟩⟩
theorem mrg_one (l : List It) : Mrg [l] l := ⟨fun x hx => ⟨l, by simp, hx⟩, by simp, fun h => bst_congr (bst_self (h l (by simp))) (by simp)⟩
theorem mrg_mg {ls ms : List (List It)} {a b : List It} (h : Mrg ls a) (k : Mrg ms b) : Mrg (ls ++ ms) (mg a b) := by
  refine ⟨fun x hx => ?_, ?_, fun hr => ?_⟩
  · rcases mg_mem a b x hx with e | e
    · obtain ⟨l, hl, hm⟩ := h.mem x e
      exact ⟨l, by simp [hl], hm⟩
    · obtain ⟨l, hl, hm⟩ := k.mem x e
      exact ⟨l, by simp [hl], hm⟩
  · have := mg_len a b
    have := h.len
    have := k.len
    rw [List.flatten_append, List.length_append]; omega
  · refine bst_congr (bst_mg (h.bst fun l hl => hr l (by simp [hl])) (k.bst fun l hl => hr l (by simp [hl]))) fun x => ?_
    constructor
    · rintro (⟨l, hl, hx⟩ | ⟨l, hl, hx⟩)
      · exact ⟨l, by simp [hl], hx⟩
      · exact ⟨l, by simp [hl], hx⟩
    · rintro ⟨l, hl, hx⟩
      rcases List.mem_append.1 hl with e | e
      · exact .inl ⟨l, e, hx⟩
      · exact .inr ⟨l, e, hx⟩
theorem fold_bst : ∀ (zs : List Sl) {M : It → Prop} {o : List It}, Bst M o → (∀ z ∈ zs, Rise z.l) → Bst (fun x => M x ∨ ∃ l ∈ zs.map Sl.l, x ∈ l) (zs.foldl (fun o z => mg o z.l) o)
  | [], M, o, h, _ => bst_congr h (by simp)
  | z :: zs, M, o, h, hr => by
    refine bst_congr (fold_bst zs (bst_mg h (bst_self (hr z (by simp)))) fun y hy => hr y (by simp [hy])) fun x => ?_
    simp [or_assoc]
/-- The document's own Rows. -/
theorem rowsL_bst (zs : List Sl) (h : ∀ z ∈ zs, Rise z.l) : Bst (fun x => ∃ l ∈ zs.map Sl.l, x ∈ l) (rowsL zs) :=
  bst_congr (fold_bst zs (M := fun _ => False) (o := []) ⟨List.Pairwise.nil, by simp, by simp⟩ h) (by simp)
theorem mrg_rowsL {zs : List Sl} {L : List It} (h : Mrg (zs.map Sl.l) L) (hr : ∀ z ∈ zs, Rise z.l) : L = rowsL zs :=
  bst_unique (h.bst fun l hl => by obtain ⟨z, hz, rfl⟩ := List.mem_map.1 hl; exact hr z hz) (rowsL_bst zs hr)

end Go.Proofs.Ytkkcchklefcljaa.Clep
