/- One walk through items in order, each hidden, there already, or kept: what is kept is the state. An append of an item to a beginning of a row that the call made, in its place. No conditions. -/
import Derived.Test.YtkkcchklefcljaaSThere
import Derived.Test.YtkkcchklefcljaaSSort
namespace Go.Proofs.Ytkkcchklefcljaa.Clep
open Go.RowKit
set_option linter.unusedVariables false
set_option maxRecDepth 10000

def it0 : It := ⟨0, 0, 0, 0, 0⟩
/-- One item more: hidden, there already, or kept. -/
def scan1 (s : List It × It) (x : It) : List It × It := if s.2.hides x || isTh s.1 x then s else (s.1 ++ [x], if x.K = 1 then x else s.2)
/-- What of the items so far is kept, and the last delete. -/
def scanS (l : List It) : List It × It := l.foldl scan1 ([], it0)
theorem scanS_snoc (l : List It) (x : It) : scanS (l ++ [x]) = scan1 (scanS l) x := by simp [scanS]
theorem scan_len (l : List It) : (scanS l).1.length ≤ l.length := by
  have h : ∀ (m : List It) (s : List It × It), (m.foldl scan1 s).1.length ≤ s.1.length + m.length := by
    intro m
    induction m with
    | nil => intro s; simp
    | cons x r ih =>
      intro s
      rw [List.foldl_cons]
      have h1 := ih (scan1 s x)
      have h2 : (scan1 s x).1.length ≤ s.1.length + 1 := by unfold scan1; split <;> simp
      simp; omega
  have := h l ([], it0)
  simpa [scanS] using this
def Sc (p : List It) (s : List It × It) : Prop := Sta (fun z => z ∈ p) s.1 ∧ (s.2.K = 1 → s.2 ∈ s.1) ∧ ∀ t ∈ s.1, t.K = 1 → s.2.K = 1 ∧ t.S ≤ s.2.S
theorem last_mem {l : List It} {y : It} (h : l.getLast? = some y) : y ∈ l := List.mem_of_getLast? h
theorem rise_last : ∀ {l : List It} {y z : It}, Rise l → l.getLast? = some z → y ∈ l → y = z ∨ y.less z = true := by
  intro l y z hr hz hy
  obtain ⟨r, rfl⟩ : ∃ r, l = r ++ [z] := by
    have hne : l ≠ [] := by intro e; subst e; simp at hz
    refine ⟨l.dropLast, ?_⟩
    have := List.dropLast_concat_getLast hne
    rw [List.getLast?_eq_some_getLast hne] at hz
    simp only [Option.some.injEq] at hz
    rw [hz] at this; exact this.symm
  rcases List.mem_append.1 hy with h | h
  · exact .inr ((List.pairwise_append.1 hr).2.2 y h z (by simp))
  · exact .inl (by simpa using h)
theorem scan_step {p : List It} {s : List It × It} {x : It} (h : Sc p s) (hp : ∀ y ∈ p, y.ok = true ∧ x.less y = false ∧ (x.same y = true → x.wins y = false)) (hx : x.ok = true) : Sc (p ++ [x]) (scan1 s x) := by
  obtain ⟨kept, gone⟩ := s
  obtain ⟨⟨hR, hM, hH, hD⟩, hg, ht⟩ := h
  simp only at hR hM hH hD hg ht
  unfold scan1
  by_cases h1 : gone.hides x = true
  · simp only [h1, Bool.true_or, if_true]
    have hgk : gone ∈ kept := hg (by rw [hides_iff] at h1; exact h1.1)
    refine ⟨⟨hR, fun z hz => by simp [hM z hz], hH, fun z hz => ?_⟩, hg, ht⟩
    rcases List.mem_append.1 hz with h | h
    · exact hD z h
    · rw [List.mem_singleton.1 h]; exact ⟨gone, hgk, .inr h1⟩
  · by_cases h2 : isTh kept x = true
    · simp only [h2, Bool.or_true, if_true]
      obtain ⟨y, hy, hs⟩ : ∃ y, kept.getLast? = some y ∧ y.same x = true := by
        unfold isTh at h2
        cases hq : kept.getLast? with
        | none => rw [hq] at h2; cases h2
        | some y => rw [hq] at h2; exact ⟨y, rfl, h2⟩
      have hyk := last_mem hy
      refine ⟨⟨hR, fun z hz => by simp [hM z hz], hH, fun z hz => ?_⟩, hg, ht⟩
      rcases List.mem_append.1 hz with h | h
      · exact hD z h
      · rw [List.mem_singleton.1 h]
        refine ⟨y, hyk, .inl ⟨hs, (hp y (hM y hyk)).2.2 ?_⟩⟩
        rw [same_iff] at *; omega
    · have h1' : gone.hides x = false := by simpa using h1
      have h2' : isTh kept x = false := by simpa using h2
      simp only [h1', h2', Bool.or_self, Bool.false_eq_true, if_false]
      have hnew : ∀ y ∈ kept, y.less x = true := by
        intro y hy
        have hyp := hp y (hM y hy)
        refine tri x y ?_ hyp.2.1
        cases hsm : x.same y with
        | false => rfl
        | true =>
          exfalso
          cases hq : kept.getLast? with
          | none => rw [List.getLast?_eq_none_iff] at hq; subst hq; simp at hy
          | some z =>
            have hz := hp z (hM z (last_mem hq))
            rcases rise_last hR hq hy with e | hl
            · subst e
              unfold isTh at h2'
              rw [hq] at h2'
              simp only at h2'
              rw [nsame_iff] at h2'; rw [same_iff] at hsm; omega
            · have := less_same hsm hl
              rw [hz.2.1] at this; cases this
      have hgx : gone.K = 1 → gone.less x = true := fun e => hnew gone (hg e)
      refine ⟨⟨?_, ?_, ?_, ?_⟩, ?_, ?_⟩
      · exact List.pairwise_append.2 ⟨hR, by simp, fun a ha b hb => by rw [List.mem_singleton.1 hb]; exact hnew a ha⟩
      · intro z hz
        rcases List.mem_append.1 hz with h | h
        · simp [hM z h]
        · simp [List.mem_singleton.1 h]
      · intro t htm z hz
        rcases List.mem_append.1 htm with h | h <;> rcases List.mem_append.1 hz with h' | h'
        · exact hH t h z h'
        · rw [List.mem_singleton.1 h', nhides_iff]
          rintro ⟨a1, a2, a3, a4⟩
          obtain ⟨b1, b2⟩ := ht t h a1
          have c1 := hgx b1
          have c2 := (hp gone (hM gone (hg b1))).1
          have c3 := (hp t (hM t h)).1
          have e : t = gone := rise_same hR h (hg b1) (by rw [same_iff]; rw [less_iff] at c1; rw [ok_iff] at c2 c3; omega)
          rw [nhides_iff] at h1'
          subst e
          exact h1' ⟨a1, a2, a3, a4⟩
        · rw [List.mem_singleton.1 h, nhides_iff]
          have := hnew z h'
          rw [less_iff] at this
          omega
        · rw [List.mem_singleton.1 h, List.mem_singleton.1 h', nhides_iff]; omega
      · intro z hz
        rcases List.mem_append.1 hz with h | h
        · obtain ⟨y, hy, hd⟩ := hD z h
          exact ⟨y, by simp [hy], hd⟩
        · rw [List.mem_singleton.1 h]; exact ⟨x, by simp, dom_refl x⟩
      · show (if x.K = 1 then x else gone).K = 1 → _
        split
        · intro _; simp
        · intro e; simp [hg e]
      · intro t htm hk
        show (if x.K = 1 then x else gone).K = 1 ∧ t.S ≤ (if x.K = 1 then x else gone).S
        rcases List.mem_append.1 htm with h | h
        · split
          · rename_i e
            have := hnew t h
            rw [less_iff] at this
            exact ⟨e, by omega⟩
          · exact ht t h hk
        · rw [List.mem_singleton.1 h] at hk ⊢
          rw [if_pos hk]; exact ⟨hk, by omega⟩
theorem scan_sta : ∀ (l p : List It) (s : List It × It), Sc p s → (p ++ l).Pairwise (fun a b => b.less a = false ∧ (b.same a = true → b.wins a = false)) → (∀ x ∈ p ++ l, x.ok = true) → Sc (p ++ l) (l.foldl scan1 s)
  | [], p, s, h, _, _ => by simpa using h
  | x :: l, p, s, h, hs, ho => by
    rw [List.foldl_cons, show p ++ x :: l = (p ++ [x]) ++ l from by simp] at *
    refine scan_sta l (p ++ [x]) _ (scan_step h (fun y hy => ⟨ho y (by simp [hy]), ?_⟩) (ho x (by simp))) hs ho
    have := (List.pairwise_append.1 (List.pairwise_append.1 hs).1).2.2 y hy x (by simp)
    exact this
theorem sc_nil : Sc [] ([], it0) := ⟨⟨List.Pairwise.nil, by simp, by simp, by simp⟩, by simp [it0], by simp⟩

theorem scan_of {l d : List It} (hp : d.Perm (l.filter It.ok)) (hs : d.Pairwise (fun a b => ltOf cmpI b a = false)) : (scanS d).1 = ofL l := by
  have hmem : ∀ x, x ∈ d ↔ x ∈ l ∧ x.ok = true := fun x => by rw [hp.mem_iff]; simp
  have h := scan_sta d [] _ sc_nil (by
    rw [List.nil_append]
    refine hs.imp fun {a b} h => ?_
    rw [cmp_nlt] at h
    constructor
    · cases e : b.less a with
      | false => rfl
      | true => exact absurd (.inl e) h
    · intro h2
      cases e : b.wins a with
      | false => rfl
      | true => exact absurd (.inr ⟨h2, e⟩) h) (fun x hx => ((hmem x).1 (by simpa using hx)).2)
  exact ofL_uniq (sta_congr h.1 fun z => by simpa using hmem z)
theorem cvs_app (a b : List It) : cvs (a ++ b) = cvs a ++ cvs b := by simp [cvs]
theorem cvs_take (l : List It) (k : Nat) : cvs (l.take k) = (cvs l).take (k * 5) := by
  by_cases h : k ≤ l.length
  · have e : cvs l = cvs (l.take k) ++ cvs (l.drop k) := by rw [← cvs_app, List.take_append_drop]
    rw [e, List.take_left' (by rw [cvs_len, List.length_take, Nat.min_eq_left h])]
  · rw [List.take_of_length_le (by omega), List.take_of_length_le (by rw [cvs_len]; omega)]
theorem cvs_drop (l : List It) (k : Nat) : cvs (l.drop k) = (cvs l).drop (k * 5) := by
  by_cases h : k ≤ l.length
  · have e : cvs l = cvs (l.take k) ++ cvs (l.drop k) := by rw [← cvs_app, List.take_append_drop]
    rw [e, List.drop_left' (by rw [cvs_len, List.length_take, Nat.min_eq_left h])]
  · rw [List.drop_of_length_le (by omega), List.drop_of_length_le (by rw [cvs_len]; omega)]; rfl
theorem cvs_set (l : List It) (j : Nat) (y : It) (h : j < l.length) : cvs (l.set j y) = (cvs l).take (j * 5) ++ cv y ++ (cvs l).drop (j * 5 + 5) := by
  rw [List.set_eq_take_append_cons_drop, if_pos h, cvs_app, cvs_take, show y :: l.drop (j + 1) = [y] ++ l.drop (j + 1) from rfl, cvs_app, cvs_drop, show (j + 1) * 5 = j * 5 + 5 from by omega, ← List.append_assoc]
  simp [cvs]
theorem take_splice {c M v : List Value} {a N : Nat} (hM : c.take N = M) (hN : M.length = N) (hv : v.length = 5) (ha : a + 5 ≤ N) : (c.take a ++ v ++ c.drop (a + 5)).take N = M.take a ++ v ++ M.drop (a + 5) := by
  have hc : c = M ++ c.drop N := by rw [← hM, List.take_append_drop]
  generalize c.drop N = t at hc
  subst hc
  have e1 : (M ++ t).take a = M.take a := List.take_append_of_le_length (by omega)
  have e2 : (M ++ t).drop (a + 5) = M.drop (a + 5) ++ t := List.drop_append_of_le_length (by omega)
  rw [e1, e2, ← List.append_assoc, List.take_left' (by simp; omega)]

/-- An append of one item to the first j of a row of the call's own that has more: in its place. -/
theorem wpList_append_row {w : World} {ops : Array Oper} {rest : List Oper} {o : Oper} {a : Act} {Q : Exit → Act → World → Prop} (hgd : o.guard = none) (s x : Operand)
    (ho : o.op = .call { callee := .builtin .append, args := #[s, x], argTypes := #[25, 25] })
    (B g n cap j : Nat) (m : List It) (hs : a.eval s = .slice (some ⟨g, 0, none⟩) j cap) (hown : OwnI w B (.slice (some ⟨g, 0, none⟩) n cap) m) (hj : j < n) (ad : Addr) (c : Nat) (y : It) (hx : a.eval x = .slice (some ad) 1 c) (hb : Is w (some ad) 1 c [y])
    (h : ∀ w', OwnI w' B (.slice (some ⟨g, 0, none⟩) n cap) (m.set j y) → w.grownBy w' (some g) → wpList Try.prog ops Q rest (a.put o.dst (.slice (some ⟨g, 0, none⟩) (j + 1) cap)) w') : wpList Try.prog ops Q (o :: rest) a w := by
  obtain ⟨i0, hi, hz0, hz1, hz2⟩ := info_parts infoI
  obtain ⟨hl, ⟨e0, _⟩ | ⟨g', cap', cur, e0, hg, hh, hnc, hcm, hcs, ht⟩⟩ := hown
  · cases e0
  cases e0
  have hf : j * 5 + 5 ≤ m.length * 5 := by omega
  have hf2 : m.length * 5 ≤ cap * 5 := Nat.mul_le_mul_right _ hnc
  have hr := run_append_room (P := Try.prog) w 25 o.type 36 i0 Try.underlying25 hi g j cap cur hh ad 1 c (cv y) (by rw [hz1]; rfl) (by
      intro k u hu
      obtain ⟨b, off, e, hc⟩ := hb.2.2.2 (by omega)
      cases e
      have g0 := hc 0 y rfl
      unfold Vt Vi at g0
      rw [add_plain]
      have hk : k < 5 := by have := (List.getElem?_eq_some_iff.1 hu).1; simpa [cv] using this
      rw [Nat.zero_mul, Nat.add_zero] at g0
      match k, hk with
      | 0, _ => simp [cv] at hu; subst hu; exact g0.1
      | 1, _ => simp [cv] at hu; subst hu; exact g0.2.1
      | 2, _ => simp [cv] at hu; subst hu; exact g0.2.2.1
      | 3, _ => simp [cv] at hu; subst hu; exact g0.2.2.2.1
      | 4, _ => simp [cv] at hu; subst hu; exact g0.2.2.2.2)
    (fun u hu => by simp only [cv, List.mem_cons, List.not_mem_nil, or_false] at hu; rcases hu with rfl | rfl | rfl | rfl | rfl <;> rfl)
    (by omega) (by rw [hz1, hcs]; simp [cv]; omega)
  rw [hz1] at hr
  refine wpList_plain hgd fun _ hK => ?_
  unfold Oper.wp execOp
  simp only [ho, resolve, invoke, builtin, Sem.run_bind, Sem.run_pure, Result.andThen_ok, List.map_toArray, List.map_cons, List.map_nil, hs, hx, hr]
  refine hK _ _ (h _ ⟨by rw [cvs_len], .inr ⟨g, cap, _, by rw [List.length_set], hg, setRow_heap w g cur _ 36 _ hh, by rw [List.length_set]; exact hnc, hcm, ?_, ?_⟩⟩ ⟨rfl, rfl, rfl, by simp, fun k _ hk => setRow_other w g k _ (fun e => hk (by simp [e]))⟩)
  · simp only [List.size_toArray, List.length_append, List.length_take, List.length_drop, Array.length_toList]
    simp [cv]; omega
  · rw [List.length_set, cvs_set m j y (by omega)]
    exact take_splice ht (by rw [cvs_len]) rfl hf

end Go.Proofs.Ytkkcchklefcljaa.Clep
