/- What a state is: which items hold of all that were told; it is one list, whatever the order; the document's own Add, its loop. No conditions. -/
import Derived.Test.YtkkcchklefcljaaSRow
namespace Go.Proofs.Ytkkcchklefcljaa.Clep
open Go.RowKit
set_option linter.unusedVariables false
set_option maxRecDepth 10000

def It.less (a b : It) : Bool := lessI a.S a.K a.T b.S b.K b.T
def It.same (a b : It) : Bool := sameI a.S a.K a.T b.S b.K b.T
def It.wins (a b : It) : Bool := winsI a.V a.X b.V b.X
def It.hides (a b : It) : Bool := hidesI a.S a.K a.V b.S b.K b.V
theorem less_iff {a b : It} : a.less b = true ↔ (a.S < b.S ∨ a.S = b.S ∧ (a.K < b.K ∨ a.K = b.K ∧ a.T < b.T)) := by simp [It.less, lessI]
theorem same_iff {a b : It} : a.same b = true ↔ (a.S = b.S ∧ a.K = b.K ∧ a.T = b.T) := by simp [It.same, sameI]
theorem wins_iff {a b : It} : a.wins b = true ↔ (b.V < a.V ∨ a.V = b.V ∧ b.X < a.X) := by simp [It.wins, winsI]
theorem hides_iff {a b : It} : a.hides b = true ↔ (a.K = 1 ∧ b.K = 2 ∧ a.S = b.S ∧ b.V ≤ a.V) := by simp [It.hides, hidesI]
theorem ok_iff {a : It} : a.ok = true ↔ (0 ≤ a.S ∧ a.S ≤ 255 ∧ 1 ≤ a.V ∧ a.V ≤ 281474976710656 ∧ ((a.K = 1 ∧ a.T = 0 ∧ a.X = 0) ∨ (a.K = 2 ∧ a.T ≤ 1099511627776))) := by simp [It.ok, okI]
theorem nless_iff {a b : It} : a.less b = false ↔ ¬ (a.S < b.S ∨ a.S = b.S ∧ (a.K < b.K ∨ a.K = b.K ∧ a.T < b.T)) := by rw [← less_iff]; simp
theorem nwins_iff {a b : It} : a.wins b = false ↔ ¬ (b.V < a.V ∨ a.V = b.V ∧ b.X < a.X) := by rw [← wins_iff]; simp
theorem nhides_iff {a b : It} : a.hides b = false ↔ ¬ (a.K = 1 ∧ b.K = 2 ∧ a.S = b.S ∧ b.V ≤ a.V) := by rw [← hides_iff]; simp
theorem nsame_iff {a b : It} : a.same b = false ↔ ¬ (a.S = b.S ∧ a.K = b.K ∧ a.T = b.T) := by rw [← same_iff]; simp
theorem it_ext {a b : It} (h0 : a.S = b.S) (h1 : a.K = b.K) (h2 : a.T = b.T) (h3 : a.V = b.V) (h4 : a.X = b.X) : a = b := by
  cases a; cases b; simp at *; exact ⟨h0, h1, h2, h3, h4⟩
theorem less_irrefl (a : It) : a.less a = false := by rw [nless_iff]; omega
theorem less_trans {a b c : It} (h1 : a.less b = true) (h2 : b.less c = true) : a.less c = true := by rw [less_iff] at *; omega
theorem less_asymm {a b : It} (h1 : a.less b = true) : b.less a = false := by rw [nless_iff]; rw [less_iff] at h1; omega
theorem less_same {a b c : It} (h1 : a.same b = true) (h2 : b.less c = true) : a.less c = true := by rw [less_iff] at *; rw [same_iff] at h1; omega
theorem tri (a b : It) (h1 : a.same b = false) (h2 : a.less b = false) : b.less a = true := by rw [nsame_iff] at h1; rw [nless_iff] at h2; rw [less_iff]; omega
/-- y stands for x: in its place and not beaten, or hiding it. -/
def dom (y x : It) : Prop := (y.same x = true ∧ x.wins y = false) ∨ y.hides x = true
theorem dom_iff {y x : It} : dom y x ↔ ((y.S = x.S ∧ y.K = x.K ∧ y.T = x.T) ∧ ¬ (y.V < x.V ∨ x.V = y.V ∧ y.X < x.X)) ∨ (y.K = 1 ∧ x.K = 2 ∧ y.S = x.S ∧ x.V ≤ y.V) := by
  unfold dom; rw [same_iff, nwins_iff, hides_iff]
theorem dom_refl (x : It) : dom x x := by rw [dom_iff]; omega
theorem dom_trans {a b c : It} (h1 : dom a b) (h2 : dom b c) : dom a c := by rw [dom_iff] at *; omega
theorem dom_series {a b : It} (h : dom a b) : a.S = b.S := by rw [dom_iff] at h; omega
theorem dom_anti {a b : It} (h1 : dom a b) (h2 : dom b a) : a = b := by
  rw [dom_iff] at *; exact it_ext (by omega) (by omega) (by omega) (by omega) (by omega)
abbrev Rise (l : List It) : Prop := l.Pairwise (fun a b => a.less b = true)
/-- The list l is the state of what M says. -/
def Sta (M : It → Prop) (l : List It) : Prop := Rise l ∧ (∀ x ∈ l, M x) ∧ (∀ t ∈ l, ∀ x ∈ l, t.hides x = false) ∧ ∀ x, M x → ∃ y ∈ l, dom y x
theorem rise_same {l : List It} (h : Rise l) {x y : It} (hx : x ∈ l) (hy : y ∈ l) (hs : x.same y = true) : x = y := by
  induction l with
  | nil => simp at hx
  | cons a r ih =>
    rw [Rise, List.pairwise_cons] at h
    rcases List.mem_cons.1 hx with rfl | hx' <;> rcases List.mem_cons.1 hy with rfl | hy'
    · rfl
    · have := h.1 y hy'; rw [less_iff] at this; rw [same_iff] at hs; omega
    · have := h.1 x hx'; rw [less_iff] at this; rw [same_iff] at hs; omega
    · exact ih h.2 hx' hy'
theorem sta_dom {M : It → Prop} {l : List It} (h : Sta M l) {x y : It} (hx : x ∈ l) (hy : y ∈ l) (hd : dom y x) : y = x := by
  rcases hd with ⟨hs, _⟩ | hh
  · exact rise_same h.1 hy hx hs
  · rw [h.2.2.1 y hy x hx] at hh; cases hh
theorem sta_mem {M : It → Prop} {l m : List It} (h : Sta M l) (h' : Sta M m) {x : It} (hx : x ∈ l) : x ∈ m := by
  obtain ⟨y, hy, hyx⟩ := h'.2.2.2 x (h.2.1 x hx)
  obtain ⟨z, hz, hzy⟩ := h.2.2.2 y (h'.2.1 y hy)
  have e := sta_dom h hx hz (dom_trans hzy hyx)
  subst e
  rw [dom_anti hzy hyx]; exact hy
theorem rise_ext : ∀ {l m : List It}, Rise l → Rise m → (∀ x, x ∈ l ↔ x ∈ m) → l = m
  | [], [], _, _, _ => rfl
  | [], b :: _, _, _, h => by have := (h b).2 (by simp); simp at this
  | a :: _, [], _, _, h => by have := (h a).1 (by simp); simp at this
  | a :: r, b :: s, h1, h2, h => by
    rw [Rise, List.pairwise_cons] at h1 h2
    have e : a = b := by
      rcases List.mem_cons.1 ((h a).1 (by simp)) with e | ha
      · exact e
      · rcases List.mem_cons.1 ((h b).2 (by simp)) with e | hb
        · exact e.symm
        · have p := h2.1 a ha; have q := h1.1 b hb
          rw [less_iff] at p q; omega
    subst e
    rw [rise_ext h1.2 h2.2 fun x => ?_]
    constructor
    · intro hx
      rcases List.mem_cons.1 ((h x).1 (by simp [hx])) with e | hx'
      · subst e; have := h1.1 x hx; rw [less_irrefl] at this; cases this
      · exact hx'
    · intro hx
      rcases List.mem_cons.1 ((h x).2 (by simp [hx])) with e | hx'
      · subst e; have := h2.1 x hx; rw [less_irrefl] at this; cases this
      · exact hx'
theorem sta_unique {M : It → Prop} {l m : List It} (h : Sta M l) (h' : Sta M m) : l = m :=
  rise_ext h.1 h'.1 fun _ => ⟨sta_mem h h', sta_mem h' h⟩
theorem sta_congr {M N : It → Prop} {l : List It} (h : Sta M l) (e : ∀ x, M x ↔ N x) : Sta N l :=
  ⟨h.1, fun x hx => (e x).1 (h.2.1 x hx), h.2.2.1, fun x hx => h.2.2.2 x ((e x).2 hx)⟩
theorem sta_more {M N : It → Prop} {l q : List It} (h : Sta M l) (h' : Sta (fun x => x ∈ l ∨ N x) q) : Sta (fun x => M x ∨ N x) q := by
  refine ⟨h'.1, fun x hx => ?_, h'.2.2.1, fun x hx => ?_⟩
  · rcases h'.2.1 x hx with hl | hn
    · exact .inl (h.2.1 x hl)
    · exact .inr hn
  · rcases hx with hm | hn
    · obtain ⟨y, hy, hyx⟩ := h.2.2.2 x hm
      obtain ⟨z, hz, hzy⟩ := h'.2.2.2 y (.inl hy)
      exact ⟨z, hz, dom_trans hzy hyx⟩
    · exact h'.2.2.2 x (.inr hn)
theorem sta_nil : Sta (fun _ => False) [] := ⟨List.Pairwise.nil, by simp, by simp, fun _ h => h.elim⟩
/-- Add of the document, its loop: none: the list stays. -/
def addGo (x : It) : List It → List It → Bool → Option (List It)
  | [], out, put => some (if put then out else out ++ [x])
  | y :: r, out, put => if y.hides x then none else if x.same y then (if x.wins y then addGo x r out put else none) else
      addGo x r ((if !put && x.less y then out ++ [x] else out) ++ (if x.hides y then [] else [y])) (put || x.less y)
def addL (l : List It) (x : It) : List It := (addGo x l [] false).getD l
theorem addGo_none (x : It) : ∀ (l out : List It) (put : Bool), addGo x l out put = none → ∃ y ∈ l, dom y x
  | [], out, put, h => by simp [addGo] at h
  | y :: r, out, put, h => by
    unfold addGo at h
    by_cases h1 : y.hides x = true
    · exact ⟨y, by simp, .inr h1⟩
    · rw [if_neg h1] at h
      by_cases h2 : x.same y = true
      · rw [if_pos h2] at h
        by_cases h3 : x.wins y = true
        · rw [if_pos h3] at h
          obtain ⟨z, hz, hd⟩ := addGo_none x r out put h
          exact ⟨z, by simp [hz], hd⟩
        · refine ⟨y, by simp, .inl ⟨?_, by simpa using h3⟩⟩
          rw [same_iff] at *; omega
      · rw [if_neg h2] at h
        obtain ⟨z, hz, hd⟩ := addGo_none x r _ _ h
        exact ⟨z, by simp [hz], hd⟩
theorem addGo_some (x : It) : ∀ (l out : List It) (put : Bool) (q : List It), addGo x l out put = some q → (put = true → x ∈ out) →
    (∀ z, z ∈ q ↔ z ∈ out ∨ z = x ∨ (z ∈ l ∧ x.same z = false ∧ x.hides z = false)) ∧ (∀ y ∈ l, y.hides x = false ∧ (x.same y = true → x.wins y = true))
  | [], out, put, q, h, hp => by
    simp only [addGo, Option.some.injEq] at h
    subst h
    refine ⟨fun z => ?_, by simp⟩
    cases put with
    | true => simp; intro e; subst e; exact hp rfl
    | false => simp
  | y :: r, out, put, q, h, hp => by
    unfold addGo at h
    by_cases h1 : y.hides x = true
    · rw [if_pos h1] at h; cases h
    · rw [if_neg h1] at h
      have h1' : y.hides x = false := by simpa using h1
      by_cases h2 : x.same y = true
      · rw [if_pos h2] at h
        by_cases h3 : x.wins y = true
        · rw [if_pos h3] at h
          obtain ⟨hm, ha⟩ := addGo_some x r out put q h hp
          refine ⟨fun z => ?_, fun w hw => ?_⟩
          · rw [hm z]
            constructor
            · rintro (h | h | ⟨h, h'⟩)
              · exact .inl h
              · exact .inr (.inl h)
              · exact .inr (.inr ⟨by simp [h], h'⟩)
            · rintro (h | h | ⟨h, h', h''⟩)
              · exact .inl h
              · exact .inr (.inl h)
              · rcases List.mem_cons.1 h with e | h
                · subst e; rw [h2] at h'; cases h'
                · exact .inr (.inr ⟨h, h', h''⟩)
          · rcases List.mem_cons.1 hw with e | hw
            · subst e; exact ⟨h1', fun _ => h3⟩
            · exact ha w hw
        · rw [if_neg h3] at h; cases h
      · rw [if_neg h2] at h
        have h2' : x.same y = false := by simpa using h2
        have hp' : (put || x.less y) = true → x ∈ (if !put && x.less y then out ++ [x] else out) ++ (if x.hides y then [] else [y]) := by
          intro e
          cases hput : put with
          | true => simp [hp hput]
          | false =>
            rw [hput] at e
            simp at e
            simp [e]
        obtain ⟨hm, ha⟩ := addGo_some x r _ _ q h hp'
        refine ⟨fun z => ?_, fun w hw => ?_⟩
        · rw [hm z]
          constructor
          · rintro (h | h | ⟨h, h'⟩)
            · rcases List.mem_append.1 h with h | h
              · split at h
                · rcases List.mem_append.1 h with h | h
                  · exact .inl h
                  · exact .inr (.inl (by simpa using h))
                · exact .inl h
              · split at h
                · simp at h
                · rename_i hh
                  have e : z = y := by simpa using h
                  subst e
                  exact .inr (.inr ⟨by simp, h2', by simpa using hh⟩)
            · exact .inr (.inl h)
            · exact .inr (.inr ⟨by simp [h], h'⟩)
          · rintro (h | h | ⟨h, h', h''⟩)
            · refine .inl (List.mem_append_left _ ?_)
              split
              · exact List.mem_append_left _ h
              · exact h
            · exact .inr (.inl h)
            · rcases List.mem_cons.1 h with e | h
              · subst e
                refine .inl (List.mem_append_right _ ?_)
                rw [if_neg (by simp [h''])]; simp
              · exact .inr (.inr ⟨h, h', h''⟩)
        · rcases List.mem_cons.1 hw with e | hw
          · subst e; exact ⟨h1', fun e => absurd e h2⟩
          · exact ha w hw
theorem addGo_rise (x : It) : ∀ (l out : List It) (put : Bool) (q : List It), addGo x l out put = some q → Rise l → Rise out → (put = false → ∀ o ∈ out, o.less x = true) → (∀ o ∈ out, ∀ r ∈ l, o.less r = true) → (put = true → ∀ r ∈ l, x.less r = true) → Rise q
  | [], out, put, q, h, _, ho, h1, _, _ => by
    simp only [addGo, Option.some.injEq] at h
    subst h
    cases put with
    | true => exact ho
    | false =>
      refine List.pairwise_append.2 ⟨ho, by simp, fun a ha b hb => ?_⟩
      rw [List.mem_singleton.1 hb]; exact h1 rfl a ha
  | y :: r, out, put, q, h, hl, ho, h1, h2, h3 => by
    unfold addGo at h
    rw [Rise, List.pairwise_cons] at hl
    split at h
    · cases h
    · split at h
      · rename_i hs
        split at h
        · refine addGo_rise x r out put q h hl.2 ho h1 (fun o ho r' hr => h2 o ho r' (by simp [hr])) (fun hp r' hr => h3 hp r' (by simp [hr]))
        · cases h
      · rename_i hs
        have hs' : x.same y = false := by simpa using hs
        have hyo : ∀ o ∈ out, o.less y = true := fun o ho => h2 o ho y (by simp)
        have hM : Rise (if !put && x.less y then out ++ [x] else out) ∧ (∀ o ∈ (if !put && x.less y then out ++ [x] else out), o.less y = true) := by
          split
          · rename_i hc
            simp at hc
            refine ⟨List.pairwise_append.2 ⟨ho, by simp, fun a ha b hb => ?_⟩, fun o ho => ?_⟩
            · rw [List.mem_singleton.1 hb]; exact h1 hc.1 a ha
            · rcases List.mem_append.1 ho with h | h
              · exact hyo o h
              · rw [List.mem_singleton.1 h]; exact hc.2
          · exact ⟨ho, hyo⟩
        have hY : ∀ o ∈ (if x.hides y then ([] : List It) else [y]), o = y := by
          intro o ho; split at ho
          · simp at ho
          · simpa using ho
        refine addGo_rise x r _ _ q h hl.2 (List.pairwise_append.2 ⟨hM.1, by split <;> simp, fun a ha b hb => ?_⟩) (fun hp => ?_) (fun o ho r' hr => ?_) (fun hp r' hr => ?_)
        · rw [hY b hb]; exact hM.2 a ha
        · simp at hp
          intro o ho
          rcases List.mem_append.1 ho with h | h
          · rw [if_neg (by simp [hp.2])] at h
            exact h1 hp.1 o h
          · rw [hY o h]; exact tri _ _ hs' hp.2
        · rcases List.mem_append.1 ho with h | h
          · exact less_trans (hM.2 o h) (hl.1 r' hr)
          · rw [hY o h]; exact hl.1 r' hr
        · cases hput : put with
          | true => exact h3 hput r' (by simp [hr])
          | false =>
            rw [hput] at hp
            simp at hp
            exact less_trans hp (hl.1 r' hr)
theorem addL_sta {M : It → Prop} {l : List It} (h : Sta M l) (x : It) : Sta (fun z => M z ∨ z = x) (addL l x) := by
  unfold addL
  cases hq : addGo x l [] false with
  | none =>
    obtain ⟨y, hy, hd⟩ := addGo_none x l [] false hq
    refine ⟨h.1, fun z hz => .inl (h.2.1 z hz), h.2.2.1, fun z hz => ?_⟩
    rcases hz with hz | rfl
    · exact h.2.2.2 z hz
    · exact ⟨y, hy, hd⟩
  | some q =>
    obtain ⟨hm, ha⟩ := addGo_some x l [] false q hq (by simp)
    have hr := addGo_rise x l [] false q hq h.1 (by simp) (by simp) (by simp) (by simp)
    have hm' : ∀ z, z ∈ q ↔ z = x ∨ (z ∈ l ∧ x.same z = false ∧ x.hides z = false) := fun z => by rw [hm z]; simp
    have hx : x ∈ q := (hm' x).2 (.inl rfl)
    refine ⟨hr, fun z hz => ?_, fun t ht z hz => ?_, fun z hz => ?_⟩
    · rcases (hm' z).1 hz with rfl | ⟨hz, _⟩
      · exact .inr rfl
      · exact .inl (h.2.1 z hz)
    · rcases (hm' t).1 ht with rfl | ⟨ht', _, _⟩ <;> rcases (hm' z).1 hz with rfl | ⟨hz', _, hh⟩
      · rw [nhides_iff]; omega
      · exact hh
      · exact (ha t ht').1
      · exact h.2.2.1 t ht' z hz'
    · rcases hz with hz | rfl
      · obtain ⟨y, hy, hd⟩ := h.2.2.2 z hz
        by_cases c : y ∈ q
        · exact ⟨y, c, hd⟩
        · refine ⟨x, hx, dom_trans ?_ hd⟩
          have hn : ¬ (y = x ∨ (y ∈ l ∧ x.same y = false ∧ x.hides y = false)) := fun hh => c ((hm' y).2 hh)
          by_cases c1 : x.same y = true
          · refine .inl ⟨c1, ?_⟩
            have := (ha y hy).2 c1
            rw [wins_iff] at this; rw [nwins_iff]; omega
          · by_cases c2 : x.hides y = true
            · exact .inr c2
            · exact absurd (.inr ⟨hy, by simpa using c1, by simpa using c2⟩) hn
      · exact ⟨z, hx, dom_refl z⟩
def addOk (l : List It) (x : It) : List It := if x.ok then addL l x else l
def ofL (l : List It) : List It := l.foldl addOk []
theorem fold_sta : ∀ (b : List It) {M : It → Prop} {l : List It}, Sta M l → Sta (fun z => M z ∨ (z ∈ b ∧ z.ok = true)) (b.foldl addOk l)
  | [], M, l, h => by simpa using h
  | x :: b, M, l, h => by
    rw [List.foldl_cons]
    by_cases hx : x.ok = true
    · have h1 : Sta (fun z => M z ∨ z = x) (addOk l x) := by unfold addOk; rw [if_pos hx]; exact addL_sta h x
      refine sta_congr (fold_sta b h1) fun z => ?_
      constructor
      · rintro ((h | rfl) | ⟨h, h'⟩)
        · exact .inl h
        · exact .inr ⟨by simp, hx⟩
        · exact .inr ⟨by simp [h], h'⟩
      · rintro (h | ⟨h, h'⟩)
        · exact .inl (.inl h)
        · rcases List.mem_cons.1 h with rfl | h
          · exact .inl (.inr rfl)
          · exact .inr ⟨h, h'⟩
    · have h1 : addOk l x = l := by unfold addOk; rw [if_neg hx]
      rw [h1]
      refine sta_congr (fold_sta b h) fun z => ?_
      constructor
      · rintro (h | ⟨h, h'⟩)
        · exact .inl h
        · exact .inr ⟨by simp [h], h'⟩
      · rintro (h | ⟨h, h'⟩)
        · exact .inl h
        · rcases List.mem_cons.1 h with rfl | h
          · exact absurd h' hx
          · exact .inr ⟨h, h'⟩
theorem ofL_sta (l : List It) : Sta (fun z => z ∈ l ∧ z.ok = true) (ofL l) := sta_congr (fold_sta l sta_nil) (by simp)
theorem ofL_uniq {l q : List It} (h : Sta (fun z => z ∈ l ∧ z.ok = true) q) : q = ofL l := sta_unique h (ofL_sta l)
theorem ofL_congr {l m : List It} (h : ∀ z, z.ok = true → (z ∈ l ↔ z ∈ m)) : ofL l = ofL m :=
  sta_unique (ofL_sta l) (sta_congr (ofL_sta m) fun z => ⟨fun ⟨a, b⟩ => ⟨(h z b).2 a, b⟩, fun ⟨a, b⟩ => ⟨(h z b).1 a, b⟩⟩)
/-- l is a state. -/
def stP (l : List It) : Prop := Rise l ∧ (∀ x ∈ l, x.ok = true) ∧ ∀ t ∈ l, ∀ x ∈ l, t.hides x = false
theorem stP_sta {l : List It} (h : stP l) : Sta (fun z => z ∈ l ∧ z.ok = true) l := ⟨h.1, fun x hx => ⟨hx, h.2.1 x hx⟩, h.2.2, fun x hx => ⟨x, hx.1, dom_refl x⟩⟩
theorem ofL_self {l : List It} (h : stP l) : ofL l = l := (ofL_uniq (stP_sta h)).symm
theorem ofL_ok (l : List It) : ∀ x ∈ ofL l, x ∈ l ∧ x.ok = true := (ofL_sta l).2.1
theorem ofL_stP (l : List It) : stP (ofL l) := ⟨(ofL_sta l).1, fun x hx => (ofL_ok l x hx).2, (ofL_sta l).2.2.1⟩
theorem ofL_join (l b : List It) : b.foldl addOk (ofL l) = ofL (l ++ b) := by
  refine ofL_uniq (sta_congr (fold_sta b (ofL_sta l)) fun z => ?_)
  simp only [List.mem_append]
  constructor
  · rintro (⟨h, h'⟩ | ⟨h, h'⟩)
    · exact ⟨.inl h, h'⟩
    · exact ⟨.inr h, h'⟩
  · rintro ⟨h | h, h'⟩
    · exact .inl ⟨h, h'⟩
    · exact .inr ⟨h, h'⟩
theorem ofL_of (l b : List It) : ofL (ofL l ++ b) = ofL (l ++ b) := by
  rw [← ofL_join, ← ofL_join, ofL_self (ofL_stP l)]
theorem ofL_of2 (l b : List It) : ofL (l ++ ofL b) = ofL (l ++ b) := by
  rw [ofL_congr (m := ofL b ++ l) (by intro z _; simp [or_comm]), ofL_of]
  exact ofL_congr (by intro z _; simp [or_comm])
theorem ofL_same (l : List It) : ofL (ofL l) = ofL l := ofL_self (ofL_stP l)

end Go.Proofs.Ytkkcchklefcljaa.Clep
