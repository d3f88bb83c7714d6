/- What List.Put does when called: of an item that may be and a height from 1 to 6, and of any other. Conditions: fewer than 2^40 items. -/
import Derived.Test.YtjpoahnecbefaaaDoorTHeld
namespace Go.Proofs.YtjpoahnecbefaaaDoor.Clep
open Go.RowKit
set_option linter.unusedVariables false

/-- The List S has become one that holds ws. -/
def Done (w : World) (S : Sk) (w' : World) (ws : List (It × Nat)) : Prop :=
  ∃ S' : Sk, S'.L = S.L ∧ Hp w' S' (S'.f :: S'.l) ∧ Pu S' ∧ S'.abs = ws ∧ (∀ b, S'.blk b → S.blk b ∨ (w.heap.size ≤ b ∧ b < w'.heap.size)) ∧ Ch S.blk w w'
theorem done_take {w w1 w' : World} {S : Sk} {b : Nat} {x : It} (hp : Pu S) (hb : b ∈ S.l) (hs : (S.x b).same x = true) (hw : x.wf) (h1 : Below w.heap.size w w1) (h : Hp w' (S.put b w1.heap.size x) (S.f :: S.l)) (hc : Ch (fun i => i = b) w1 w') (hlt : w1.heap.size < w'.heap.size) :
    Done w S w' (S.put b w1.heap.size x).abs := by
  have hbb : b ∈ S.f :: S.l := by simp [hb]
  refine ⟨S.put b w1.heap.size x, rfl, h, pu_put hp b _ x hs hw, rfl, fun c hc' => ?_, ?_⟩
  · rcases hc' with e | ⟨t, ht, e | e | e⟩
    · exact .inl (.inl e)
    · exact .inl (.inr ⟨t, ht, .inl e⟩)
    · exact .inl (.inr ⟨t, ht, .inr (.inl e)⟩)
    · by_cases htb : t = b
      · subst htb
        rw [show (S.put t w1.heap.size x).i t = w1.heap.size from up_same _ _ _] at e
        right
        rw [e]
        exact ⟨h1.size, hlt⟩
      · rw [show (S.put b w1.heap.size x).i t = S.i t from up_other _ _ _ htb] at e
        exact .inl (.inr ⟨t, ht, .inr (.inr e)⟩)
  · exact (Ch.of h1).trans (hc.mono fun i _ hi => .inr ⟨b, hbb, .inl hi⟩)
/-- A tower t of the list Z that has joined the levels 0 to q. -/
structure Clm (Z : Sk) (t q : Nat) (S : Sk) : Prop where
  pu : Pu S
  L : S.L = Z.L
  f : S.f = Z.f
  l : S.l = ins (Z.lt (Z.x t)) t Z.l
  k : S.k = Z.k
  i : S.i = Z.i
  m : S.m = Z.m
  x : S.x = Z.x
  gt : S.g t = q + 1
  go : ∀ s, s ≠ t → S.g s = Z.g s
theorem clm_zero {Z : Sk} {t : Nat} (hp : Pu Z) (ht : t ∉ Z.f :: Z.l) (hm : 1 ≤ Z.m t) (hw : (Z.x t).wf) (hs : ∀ s ∈ Z.l, (Z.x s).same (Z.x t) = false) : Clm Z t 0 (Z.in0 t) :=
  ⟨pu_in0 hp t ht hm hw hs, rfl, rfl, rfl, rfl, rfl, rfl, rfl, up_same _ _ _, fun s hs => up_other _ _ _ hs⟩
theorem Clm.mem {Z S : Sk} {t q : Nat} (h : Clm Z t q S) : t ∈ S.l := by rw [h.l, ins_mem]; exact .inl rfl
theorem Clm.up {Z S : Sk} {t q : Nat} (h : Clm Z t q S) (hq : q + 1 < Z.m t) : Clm Z t (q + 1) (S.inj t (q + 1)) := by
  refine ⟨pu_inj h.pu t (q + 1) (by omega) h.mem h.gt (by rw [h.m]; exact hq), h.L, h.f, h.l, h.k, h.i, h.m, h.x, up_same _ _ _, fun s hs => ?_⟩
  show Clep.up S.g t _ s = _
  rw [up_other _ _ _ hs]; exact h.go s hs
theorem Clm.free {Z S : Sk} {t q : Nat} (h : Clm Z t q S) : thereIs S (S.x t) (be (S.lt (S.x t)) (S.lev (q + 1))) = false := by
  unfold thereIs
  cases hb : be (S.lt (S.x t)) (S.lev (q + 1)) with
  | none => rfl
  | some b =>
    have h1 := lev_mem.1 (be_mem _ _ b hb).1
    show (S.x b).same (S.x t) = false
    cases hs : (S.x b).same (S.x t) with
    | false => rfl
    | true =>
      have e := rise_one h.pu h1.1 h.mem hs
      have h2 := h1.2
      rw [e, h.gt] at h2
      omega
theorem done_in {w w1 w' : World} {S Sx : Sk} {x : It} {m : Nat} (hm : 1 ≤ m ∧ m ≤ 6) (h1 : Below w.heap.size w w1) (h0 : Hp w1 S (S.f :: S.l)) (hp : Pu S) (ht : w1.heap.size + 2 ∉ S.f :: S.l)
    (hs : ∀ s ∈ S.l, (S.x s).same x = false) (hk : Clm (S.add (w1.heap.size + 2) (w1.heap.size + 1) w1.heap.size m x) (w1.heap.size + 2) (m - 1) Sx)
    (h : Hp w' Sx ((w1.heap.size + 2) :: S.f :: S.l)) (hc : Ch (fun b => S.blk b ∨ w.heap.size ≤ b) w w') : Done w S w' (putW x m S.abs).2 ∧ (putW x m S.abs).1 = true := by
  obtain ⟨t, et⟩ : ∃ t, t = w1.heap.size + 2 := ⟨_, rfl⟩
  obtain ⟨Z, eZ⟩ : ∃ Z, Z = S.add (w1.heap.size + 2) (w1.heap.size + 1) w1.heap.size m x := ⟨_, rfl⟩
  have hadd := pu_add hp (w1.heap.size + 2) (w1.heap.size + 1) w1.heap.size m x ht
  rw [← eZ] at hk hadd
  have hxt : Z.x t = x := by rw [eZ, et]; exact up_same _ _ _
  have hl : ∀ s ∈ S.l, s ≠ w1.heap.size + 2 := fun s hs e => ht (by rw [← e]; simp [hs])
  have hZl : Z.l = S.l := by rw [eZ]; rfl
  have hsz := h1.size
  rw [← et] at hk h ht
  have hab : putW x m S.abs = (true, Sx.abs) := by
    rw [← hadd.2]
    have := in_abs_go (S := Z) (x := x) m t Z.l (by rw [hZl]; exact fun e => ht (by simp [e])) (fun s hs' => by
      rw [hZl] at hs'
      have e : Z.x s = S.x s := by rw [eZ]; exact up_other _ _ _ (hl s hs')
      rw [e]; exact hs s hs')
    unfold Sk.abs
    rw [this, hk.l, hxt, hk.x]
    congr 1
    refine List.map_congr_left fun s hs' => ?_
    by_cases hst : s = t
    · subst hst
      rw [up_same, up_same, hk.gt, hxt, show m - 1 + 1 = m from by omega]
    · rw [up_other _ _ _ hst, up_other _ _ _ hst, hk.go s hst]
  have hmem : ∀ s, s ∈ Sx.f :: Sx.l ↔ s ∈ t :: S.f :: S.l := fun s => by
    rw [hk.l, hk.f, hZl]
    simp only [List.mem_cons, ins_mem]
    have ef : Z.f = S.f := by rw [eZ]; rfl
    rw [ef]
    constructor
    · rintro (e | e | e)
      · exact .inr (.inl e)
      · exact .inl e
      · exact .inr (.inr e)
    · rintro (e | e | e)
      · exact .inr (.inl e)
      · exact .inl e
      · exact .inr (.inr e)
  rw [hab]
  refine ⟨⟨Sx, by rw [hk.L, eZ]; rfl, h.sub (fun s hs' => (hmem s).1 hs') (fun s hs' j hj b hb => (hmem b).2 (h.tgt s ((hmem s).1 hs') j hj b hb)), hk.pu, rfl, fun c hc' => ?_, hc.mono fun i hi hq => ?_⟩, rfl⟩
  · rcases hc' with e | ⟨s, hs', e⟩
    · left; left; rw [e, hk.L, eZ]; rfl
    · have hss := (hmem s).1 hs'
      rcases List.mem_cons.1 hss with e1 | e1
      · right
        have htw := h.tw s hss
        rcases e with e | e | e
        · refine ⟨by rw [e, e1, et]; omega, by rw [e]; exact htw.tow.lt⟩
        · refine ⟨?_, by rw [e]; exact htw.lnk.lt⟩
          rw [e, hk.k, e1, eZ, et]
          show w.heap.size ≤ up S.k _ _ _
          rw [up_same]; omega
        · refine ⟨?_, by rw [e]; exact htw.itm.lt⟩
          rw [e, hk.i, e1, eZ, et]
          show w.heap.size ≤ up S.i _ _ _
          rw [up_same]; omega
      · left; right
        have hne : s ≠ w1.heap.size + 2 := fun e' => ht (by rw [et, ← e']; exact e1)
        refine ⟨s, e1, ?_⟩
        rcases e with e | e | e
        · exact .inl e
        · right; left
          rw [e, hk.k, eZ]
          exact up_other _ _ _ hne
        · right; right
          rw [e, hk.i, eZ]
          exact up_other _ _ _ hne
  · rcases hq with e | e
    · exact e
    · omega

end Go.Proofs.YtjpoahnecbefaaaDoor.Clep
