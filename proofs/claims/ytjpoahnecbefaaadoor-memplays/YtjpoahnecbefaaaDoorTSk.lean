/- A list with towers as a structure: links level by level, what a search finds, what joining a tower makes of a level. No conditions. -/
import Derived.Test.YtjpoahnecbefaaaDoorSMath
namespace Go.Proofs.YtjpoahnecbefaaaDoor.Clep
open Go.RowKit
set_option linter.unusedVariables false

/-- The links of the level j lead from a along the towers l, and end there. -/
def Chain (nx : Nat → Nat → Option Nat) (j : Nat) : Nat → List Nat → Prop
  | a, [] => nx a j = none
  | a, b :: r => nx a j = some b ∧ Chain nx j b r
/-- The last one ahead, and the first one that is not. -/
def ah (lt : Nat → Bool) : Nat → List Nat → Nat
  | a, [] => a
  | a, b :: r => if lt b then ah lt b r else a
def be (lt : Nat → Bool) : List Nat → Option Nat
  | [] => none
  | b :: r => if lt b then be lt r else some b
def ins (lt : Nat → Bool) (t : Nat) : List Nat → List Nat
  | [] => [t]
  | b :: r => if lt b then b :: ins lt t r else t :: b :: r
def up {α : Type} (f : Nat → α) (a : Nat) (v : α) : Nat → α := fun b => if b = a then v else f b
def up2 (nx : Nat → Nat → Option Nat) (a j : Nat) (v : Option Nat) : Nat → Nat → Option Nat := fun b i => if b = a ∧ i = j then v else nx b i
theorem up_same {α : Type} (f : Nat → α) (a : Nat) (v : α) : up f a v a = v := by simp [up]
theorem up_other {α : Type} (f : Nat → α) (a : Nat) (v : α) {b : Nat} (h : b ≠ a) : up f a v b = f b := by simp [up, h]
theorem up2_same (nx : Nat → Nat → Option Nat) (a j : Nat) (v : Option Nat) : up2 nx a j v a j = v := by simp [up2]
theorem up2_other (nx : Nat → Nat → Option Nat) (a j : Nat) (v : Option Nat) {b i : Nat} (h : b ≠ a ∨ i ≠ j) : up2 nx a j v b i = nx b i := by
  unfold up2; rw [if_neg]; omega
theorem chain_congr {nx nx' : Nat → Nat → Option Nat} {j : Nat} : ∀ {l : List Nat} {a : Nat}, (∀ t ∈ a :: l, nx' t j = nx t j) → Chain nx j a l → Chain nx' j a l
  | [], a, h, hc => (h a (by simp)).trans hc
  | b :: r, a, h, hc => ⟨(h a (by simp)).trans hc.1, chain_congr (fun t ht => h t (List.mem_cons_of_mem _ ht)) hc.2⟩
theorem ah_mem (lt : Nat → Bool) : ∀ (l : List Nat) (a : Nat), ah lt a l = a ∨ (ah lt a l ∈ l ∧ lt (ah lt a l) = true)
  | [], a => .inl rfl
  | b :: r, a => by
    unfold ah
    cases hb : lt b with
    | false => simp
    | true =>
      rw [if_pos rfl]
      rcases ah_mem lt r b with h | ⟨h1, h2⟩
      · right; rw [h]; exact ⟨by simp, hb⟩
      · right; exact ⟨by simp [h1], h2⟩
theorem ah_in (lt : Nat → Bool) (l : List Nat) (a : Nat) : ah lt a l ∈ a :: l := by
  rcases ah_mem lt l a with h | ⟨h1, h2⟩
  · rw [h]; simp
  · simp [h1]
theorem be_mem (lt : Nat → Bool) : ∀ (l : List Nat) (b : Nat), be lt l = some b → b ∈ l ∧ lt b = false
  | [], b, h => by cases h
  | c :: r, b, h => by
    unfold be at h
    cases hc : lt c with
    | false => rw [hc] at h; simp at h; subst h; exact ⟨by simp, hc⟩
    | true => rw [hc, if_pos rfl] at h; have := be_mem lt r b h; exact ⟨by simp [this.1], this.2⟩
theorem chain_ins (lt : Nat → Bool) (nx : Nat → Nat → Option Nat) (j t : Nat) : ∀ (l : List Nat) (a : Nat), Chain nx j a l → t ∉ a :: l → (a :: l).Nodup →
    Chain (up2 (up2 nx t j (be lt l)) (ah lt a l) j (some t)) j a (ins lt t l)
  | [], a, hc, ht, hn => by
    have hta : t ≠ a := fun h => ht (by simp [h])
    refine ⟨up2_same _ _ _ _, ?_⟩
    show up2 _ _ _ _ t j = none
    rw [show ah lt a [] = a from rfl, up2_other _ _ _ _ (.inl hta), up2_same]; rfl
  | b :: r, a, hc, ht, hn => by
    have hta : t ≠ a := fun h => ht (by simp [h])
    have htr : t ∉ b :: r := fun h => ht (List.mem_cons_of_mem _ h)
    have han : a ∉ b :: r := (List.nodup_cons.1 hn).1
    unfold ins ah be
    cases hb : lt b with
    | true =>
      simp only [if_true]
      refine ⟨?_, chain_ins lt nx j t r b hc.2 htr (List.nodup_cons.1 hn).2⟩
      have hne : a ≠ ah lt b r := fun h => han (h ▸ ah_in lt r b)
      rw [up2_other _ _ _ _ (.inl hne), up2_other _ _ _ _ (.inl (Ne.symm hta))]
      exact hc.1
    | false =>
      rw [if_neg (by simp), if_neg (by simp), if_neg (by simp)]
      refine ⟨up2_same _ _ _ _, ?_, ?_⟩
      · rw [up2_other _ _ _ _ (.inl hta), up2_same]
      · refine chain_congr (fun s hs => ?_) hc.2
        have h1 : s ≠ a := fun h => han (h ▸ hs)
        have h2 : s ≠ t := fun h => htr (h ▸ hs)
        rw [up2_other _ _ _ _ (.inl h1), up2_other _ _ _ _ (.inl h2)]
/-- Where one stands, none that follows one that is not ahead is ahead. -/
def Mono (lt : Nat → Bool) (l : List Nat) : Prop := l.Pairwise fun a b => lt b = true → lt a = true
theorem seek_step (lt : Nat → Bool) : ∀ (l : List Nat) (c : Nat), Mono lt l → c ∈ l → lt c = true →
    ∃ q, (∀ t ∈ q, t ∈ l) ∧ (∀ nx j f, Chain nx j f l → Chain nx j c q) ∧ (∀ f, ah lt f l = ah lt c q) ∧ be lt l = be lt q ∧ (l.Nodup → q.Nodup)
  | [], c, hm, hc, hl => by cases hc
  | b :: r, c, hm, hc, hl => by
    have hm' := List.pairwise_cons.1 hm
    rcases List.mem_cons.1 hc with rfl | hc'
    · refine ⟨r, fun t ht => by simp [ht], fun nx j f h => h.2, fun f => ?_, ?_⟩
      · show (if lt c then ah lt c r else f) = _
        rw [if_pos hl]
      · show (if lt c then be lt r else some c) = _ ∧ _
        rw [if_pos hl]
        exact ⟨rfl, fun hn => (List.nodup_cons.1 hn).2⟩
    · obtain ⟨q, h1, h2, h3, h4, h5⟩ := seek_step lt r c hm'.2 hc' hl
      have hb : lt b = true := hm'.1 c hc' hl
      refine ⟨q, fun t ht => by simp [h1 t ht], fun nx j f h => h2 nx j b h.2, fun f => ?_, ?_⟩
      · show (if lt b then ah lt b r else f) = _
        rw [if_pos hb]; exact h3 b
      · show (if lt b then be lt r else some b) = _ ∧ _
        rw [if_pos hb]; exact ⟨h4, fun hn => h5 (List.nodup_cons.1 hn).2⟩
theorem ins_mem (lt : Nat → Bool) (t : Nat) : ∀ (l : List Nat) (s : Nat), s ∈ ins lt t l ↔ s = t ∨ s ∈ l
  | [], s => by simp [ins]
  | b :: r, s => by
    unfold ins
    cases lt b with
    | true => simp only [if_true, List.mem_cons, ins_mem lt t r s]; constructor <;> (intro h; rcases h with h | h | h <;> simp [h])
    | false => simp
theorem ins_len (lt : Nat → Bool) (t : Nat) : ∀ (l : List Nat), (ins lt t l).length = l.length + 1
  | [] => rfl
  | b :: r => by
    unfold ins
    cases lt b with
    | true => simp [ins_len lt t r]
    | false => simp
theorem ins_nodup (lt : Nat → Bool) (t : Nat) : ∀ (l : List Nat), t ∉ l → l.Nodup → (ins lt t l).Nodup
  | [], h, hn => by simp [ins]
  | b :: r, h, hn => by
    unfold ins
    cases lt b with
    | true =>
      simp only [if_true]
      have hn' := List.nodup_cons.1 hn
      refine List.nodup_cons.2 ⟨fun hb => ?_, ins_nodup lt t r (fun h' => h (by simp [h'])) hn'.2⟩
      rcases (ins_mem lt t r b).1 hb with e | e
      · exact h (by simp [e])
      · exact hn'.1 e
    | false => exact List.nodup_cons.2 ⟨h, hn⟩
theorem ins_filter (lt P : Nat → Bool) (t : Nat) (hP : P t = false) : ∀ (l : List Nat), (ins lt t l).filter P = l.filter P
  | [] => by simp [ins, hP]
  | b :: r => by
    unfold ins
    cases lt b with
    | true => simp only [if_true, List.filter_cons, ins_filter lt P t hP r]
    | false => simp [List.filter_cons, hP]
theorem ins_of_split (lt : Nat → Bool) (t : Nat) : ∀ (p q : List Nat), (∀ s ∈ p, lt s = true) → (∀ s ∈ q, lt s = false) → ins lt t (p ++ q) = p ++ t :: q
  | [], [], _, _ => rfl
  | [], b :: q, _, hq => by simp [ins, hq b (by simp)]
  | a :: p, q, hp, hq => by
    show ins lt t (a :: (p ++ q)) = _
    unfold ins
    rw [if_pos (hp a (by simp)), ins_of_split lt t p q (fun s hs => hp s (by simp [hs])) hq]
    rfl

/-- The List as a structure. -/
structure Sk where
  L : Nat
  f : Nat
  n : Nat
  l : List Nat
  k : Nat → Nat
  m : Nat → Nat
  g : Nat → Nat
  i : Nat → Nat
  x : Nat → It
  nx : Nat → Nat → Option Nat
def Sk.lev (S : Sk) (j : Nat) : List Nat := S.l.filter fun t => decide (j < S.g t)
def Sk.lt (S : Sk) (x : It) (t : Nat) : Bool := (S.x t).less x
theorem lev_mem {S : Sk} {j t : Nat} : t ∈ S.lev j ↔ t ∈ S.l ∧ j < S.g t := by simp [Sk.lev]
theorem lev_up {S : Sk} {j t : Nat} (h : t ∈ S.lev (j + 1)) : t ∈ S.lev j := by
  rw [lev_mem] at *
  exact ⟨h.1, by omega⟩
structure Pu (S : Sk) : Prop where
  nodup : (S.f :: S.l).Nodup
  rise : S.l.Pairwise fun a b => (S.x a).less (S.x b) = true
  chain : ∀ j, j < 6 → Chain S.nx j S.f (S.lev j)
  g : ∀ t ∈ S.l, 1 ≤ S.g t ∧ S.g t ≤ S.m t
  wf : ∀ t ∈ S.l, (S.x t).wf
  mf : S.m S.f = 6
  len : S.n = S.l.length
theorem Pu.mono {S : Sk} (h : Pu S) (x : It) (j : Nat) : Mono (S.lt x) (S.lev j) :=
  (h.rise.imp (fun {a b} hab hb => less_trans hab hb)).sublist List.filter_sublist
theorem Pu.lnodup {S : Sk} (h : Pu S) (j : Nat) : (S.f :: S.lev j).Nodup := by
  have := List.nodup_cons.1 h.nodup
  exact List.nodup_cons.2 ⟨fun hm => this.1 (lev_mem.1 hm).1, this.2.sublist List.filter_sublist⟩
/-- A tower that stood beside the list has joined its lowest level. -/
def Sk.in0 (S : Sk) (t : Nat) : Sk := { S with l := ins (S.lt (S.x t)) t S.l, g := up S.g t 1, n := S.n + 1, nx := up2 (up2 S.nx t 0 (be (S.lt (S.x t)) (S.lev 0))) (ah (S.lt (S.x t)) S.f (S.lev 0)) 0 (some t) }
/-- A tower of the list has joined the level j too. -/
def Sk.inj (S : Sk) (t j : Nat) : Sk := { S with g := up S.g t (j + 1), nx := up2 (up2 S.nx t j (be (S.lt (S.x t)) (S.lev j))) (ah (S.lt (S.x t)) S.f (S.lev j)) j (some t) }
theorem lev0 {S : Sk} (h : Pu S) : S.lev 0 = S.l := by
  refine List.filter_eq_self.2 fun t ht => ?_
  have := (h.g t ht).1
  simp; omega
theorem ins_rise {S : Sk} (t : Nat) : ∀ (l : List Nat), l.Pairwise (fun a b => (S.x a).less (S.x b) = true) → (∀ s ∈ l, (S.x s).same (S.x t) = false) →
    (ins (S.lt (S.x t)) t l).Pairwise fun a b => (S.x a).less (S.x b) = true
  | [], _, _ => by simp [ins]
  | b :: r, h, hs => by
    have h' := List.pairwise_cons.1 h
    unfold ins
    cases hb : S.lt (S.x t) b with
    | true =>
      simp only [if_true]
      refine List.pairwise_cons.2 ⟨fun s hs' => ?_, ins_rise t r h'.2 fun s hs' => hs s (by simp [hs'])⟩
      rcases (ins_mem _ t r s).1 hs' with rfl | e
      · exact hb
      · exact h'.1 s e
    | false =>
      rw [if_neg (by simp)]
      have htb : (S.x t).less (S.x b) = true := tri _ _ (hs b (by simp)) hb
      refine List.pairwise_cons.2 ⟨fun s hs' => ?_, h⟩
      rcases List.mem_cons.1 hs' with rfl | e
      · exact htb
      · exact less_trans htb (h'.1 s e)
theorem be_none (lt : Nat → Bool) : ∀ (l : List Nat), be lt l = none → ∀ s ∈ l, lt s = true
  | [], _, s, hs => by cases hs
  | b :: r, h, s, hs => by
    unfold be at h
    cases hb : lt b with
    | false => rw [hb] at h; simp at h
    | true =>
      rw [hb, if_pos rfl] at h
      rcases List.mem_cons.1 hs with rfl | e
      · exact hb
      · exact be_none lt r h s e
/-- If the first one that is not ahead is not the Same, none is. -/
theorem none_same {S : Sk} {x : It} : ∀ (l : List Nat), l.Pairwise (fun a b => (S.x a).less (S.x b) = true) → (∀ b, be (S.lt x) l = some b → (S.x b).same x = false) → ∀ s ∈ l, (S.x s).same x = false
  | [], _, _, s, hs => by cases hs
  | b :: r, h, hb, s, hs => by
    have h' := List.pairwise_cons.1 h
    unfold be at hb
    cases hl : S.lt x b with
    | true =>
      rw [hl] at hb
      simp only [if_true] at hb
      rcases List.mem_cons.1 hs with rfl | e
      · have hl' : (S.x s).less x = true := hl
        rw [nsame_iff]; rw [less_iff] at hl'; omega
      · exact none_same r h'.2 hb s e
    | false =>
      rw [hl] at hb
      have hbs := hb b (by simp)
      rcases List.mem_cons.1 hs with rfl | e
      · exact hbs
      · have h1 := h'.1 s e
        have hl' : (S.x b).less x = false := hl
        rw [nsame_iff] at *; rw [less_iff] at h1; rw [nless_iff] at hl'; omega
theorem pu_in0 {S : Sk} (h : Pu S) (t : Nat) (ht : t ∉ S.f :: S.l) (hm : 1 ≤ S.m t) (hw : (S.x t).wf) (hs : ∀ s ∈ S.l, (S.x s).same (S.x t) = false) : Pu (S.in0 t) := by
  have hn := List.nodup_cons.1 h.nodup
  have htl : t ∉ S.l := fun e => ht (by simp [e])
  have htf : t ≠ S.f := fun e => ht (by simp [e])
  refine ⟨?_, ins_rise t S.l h.rise hs, fun j hj => ?_, fun s hs' => ?_, fun s hs' => ?_, h.mf, ?_⟩
  · refine List.nodup_cons.2 ⟨fun e => ?_, ins_nodup _ t _ htl hn.2⟩
    rcases (ins_mem _ t S.l S.f).1 e with e | e
    · exact htf e.symm
    · exact hn.1 e
  · by_cases hj0 : j = 0
    · subst hj0
      have e : (S.in0 t).lev 0 = ins (S.lt (S.x t)) t (S.lev 0) := by
        rw [lev0 h]
        refine List.filter_eq_self.2 fun s hs' => ?_
        rcases (ins_mem _ t S.l s).1 hs' with rfl | e
        · simp [Sk.in0, up]
        · have := (h.g s e).1
          have hne : s ≠ t := fun e' => htl (e' ▸ e)
          rw [show (S.in0 t).g s = S.g s from up_other _ _ _ hne]
          simp; omega
      rw [e]
      exact chain_ins _ S.nx 0 t (S.lev 0) S.f (h.chain 0 hj) (by rw [lev0 h]; exact ht) (h.lnodup 0)
    · have e : (S.in0 t).lev j = S.lev j := by
        show List.filter _ (ins _ t S.l) = _
        rw [ins_filter _ _ t (by simp [Sk.in0, up]; omega)]
        refine List.filter_congr fun s hs' => ?_
        have hne : s ≠ t := fun e' => htl (e' ▸ hs')
        rw [show (S.in0 t).g s = S.g s from up_other _ _ _ hne]
      rw [e]
      refine chain_congr (fun s hs' => ?_) (h.chain j hj)
      show up2 _ _ _ _ s j = _
      rw [up2_other _ _ _ _ (.inr hj0), up2_other _ _ _ _ (.inr hj0)]
  · rcases (ins_mem _ t S.l s).1 hs' with rfl | e
    · show 1 ≤ up S.g s 1 s ∧ up S.g s 1 s ≤ S.m s
      rw [up_same]; omega
    · show 1 ≤ up S.g t 1 s ∧ up S.g t 1 s ≤ S.m s
      have hne : s ≠ t := fun e' => htl (e' ▸ e)
      rw [up_other _ _ _ hne]; exact h.g s e
  · rcases (ins_mem _ t S.l s).1 hs' with rfl | e
    · exact hw
    · exact h.wf s e
  · show S.n + 1 = (ins _ t S.l).length
    rw [ins_len, h.len]
theorem pu_inj {S : Sk} (h : Pu S) (t j : Nat) (hj : 1 ≤ j) (ht : t ∈ S.l) (hg : S.g t = j) (hm : j < S.m t) : Pu (S.inj t j) := by
  have hn := List.nodup_cons.1 h.nodup
  refine ⟨h.nodup, h.rise, fun i hi => ?_, fun s hs' => ?_, h.wf, h.mf, h.len⟩
  · by_cases hij : i = j
    · subst hij
      have htn : t ∉ S.f :: S.lev i := by
        intro e
        rcases List.mem_cons.1 e with e | e
        · exact hn.1 (e ▸ ht)
        · have := (lev_mem.1 e).2; omega
      have e : (S.inj t i).lev i = ins (S.lt (S.x t)) t (S.lev i) := by
        obtain ⟨p, q, hpq⟩ := List.append_of_mem ht
        have hr := h.rise
        have hnd := hn.2
        rw [hpq] at hr hnd
        have hr' := List.pairwise_append.1 hr
        have hr2 := List.pairwise_cons.1 hr'.2.1
        have hnd' := List.nodup_append.1 hnd
        have htp : t ∉ p := fun e => hnd'.2.2 t e t (by simp) rfl
        have htq : t ∉ q := (List.nodup_cons.1 hnd'.2.1).1
        have e1 : (S.inj t i).lev i = p.filter (fun s => decide (i < S.g s)) ++ t :: q.filter (fun s => decide (i < S.g s)) := by
          show List.filter (fun s => decide (i < up S.g t (i + 1) s)) S.l = _
          rw [hpq, List.filter_append, List.filter_cons, if_pos (by simp [up])]
          rw [List.filter_congr (p := fun s => decide (i < up S.g t (i + 1) s)) (q := fun s => decide (i < S.g s)) (l := p) fun s hs' => by
              have hne : s ≠ t := fun e' => htp (e' ▸ hs')
              rw [up_other _ _ _ hne],
            List.filter_congr (p := fun s => decide (i < up S.g t (i + 1) s)) (q := fun s => decide (i < S.g s)) (l := q) fun s hs' => by
              have hne : s ≠ t := fun e' => htq (e' ▸ hs')
              rw [up_other _ _ _ hne]]
        have e2 : S.lev i = p.filter (fun s => decide (i < S.g s)) ++ q.filter (fun s => decide (i < S.g s)) := by
          show List.filter _ S.l = _
          rw [hpq, List.filter_append, List.filter_cons, if_neg (by simp; omega)]
        rw [e1, e2, ins_of_split]
        · intro s hs'
          exact hr'.2.2 s ((List.mem_filter.1 hs').1) t (by simp)
        · intro s hs'
          exact less_asymm (hr2.1 s ((List.mem_filter.1 hs').1))
      rw [e]
      exact chain_ins _ S.nx i t (S.lev i) S.f (h.chain i hi) htn (h.lnodup i)
    · have e : (S.inj t j).lev i = S.lev i := by
        refine List.filter_congr fun s hs' => ?_
        show decide (i < up S.g t (j + 1) s) = _
        by_cases hst : s = t
        · subst hst; rw [up_same, hg, decide_eq_decide]; omega
        · rw [up_other _ _ _ hst]
      rw [e]
      refine chain_congr (fun s hs' => ?_) (h.chain i hi)
      show up2 _ _ _ _ s i = _
      rw [up2_other _ _ _ _ (.inr hij), up2_other _ _ _ _ (.inr hij)]
  · show 1 ≤ up S.g t (j + 1) s ∧ up S.g t (j + 1) s ≤ S.m s
    by_cases hst : s = t
    · subst hst; rw [up_same]; omega
    · rw [up_other _ _ _ hst]; exact h.g s hs'
/-- Another item of the same place. -/
def Sk.put (S : Sk) (t b : Nat) (x : It) : Sk := { S with i := up S.i t b, x := up S.x t x }
theorem put_less {S : Sk} {t b : Nat} {x : It} (hs : (S.x t).same x = true) (s : Nat) : ((S.put t b x).x s).same (S.x s) = true := by
  show (up S.x t x s).same (S.x s) = true
  by_cases h : s = t
  · subst h; rw [up_same]; rw [same_iff] at *; omega
  · rw [up_other _ _ _ h, same_iff]; omega
theorem pu_put {S : Sk} (h : Pu S) (t b : Nat) (x : It) (hs : (S.x t).same x = true) (hw : x.wf) : Pu (S.put t b x) := by
  refine ⟨h.nodup, h.rise.imp fun {a c} hac => ?_, h.chain, h.g, fun s hs' => ?_, h.mf, h.len⟩
  · have h1 := put_less (b := b) hs a
    have h2 := put_less (b := b) hs c
    rw [same_iff] at h1 h2; rw [less_iff] at *; omega
  · show (up S.x t x s).wf
    by_cases hst : s = t
    · subst hst; rw [up_same]; exact hw
    · rw [up_other _ _ _ hst]; exact h.wf s hs'

end Go.Proofs.YtjpoahnecbefaaaDoor.Clep
