/- What slices.Equal and the document's own Equal do when called: for any two rows of items. No conditions. -/
import Derived.Test.YtdldpdllhnpdaaaGreatZe
import Derived.Laws.StructEq
import Derived.BigRegion
import Derived.Test.YtdldpdllhnpdaaaGreatZf
import Derived.Deep.SlicePairs
import Derived.Laws.AppendOwn
import Derived.OwnWalk
import Derived.Maps.AppendAt
import Derived.Laws.AppendOwnNone
namespace Go.Proofs.YtdldpdllhnpdaaaGreat.Clep
open Go.RowKit
set_option linter.unusedVariables false
set_option maxRecDepth 10000

set_option maxHeartbeats 2000000 in
theorem refequal_any (a b : Option Addr) (n c n' c' : Nat) (l m : List It) (w : World) (h0 : Is w a n c l) (h1 : Is w b n' c' m) (hn : n ≤ 9223372036854775807) (hn' : n' ≤ 9223372036854775807) :
    Calls Tryz.prog 41 #[.slice a n c, .slice b n' c'] w fun e w' => ∃ o, e = .returned (.bool o) ∧ (o = true ↔ l = m) ∧ Below w.heap.size w w' := by
  have hl := h0.1
  have hl' := h1.1
  by_cases hlen : n = n'
  · subst hlen
    have H0 := hide (fun W (hW : Below w.heap.size w W) => h0.below hW (Nat.le_refl _))
    have H1 := hide (fun W (hW : Below w.heap.size w W) => h1.below hW (Nat.le_refl _))
    have HL := hide hl
    have HL' := hide hl'
    have hnn : ((n : Int) != (n : Int)) = false := by simp
    clear h0 h1
    go_enter Tryz.func41, Tryz.ntmps41
    go_wp2_with fail
    go_loopw [5] (fun i wr => ∃ k : Nat, k ≤ n ∧ i = .int .i64 k ∧ Hid (l.take k = m.take k) ∧ Hid (Below w.heap.size w wr)) (fun i _ => n - (intOf i).toNat)
    case atStart => exact ⟨0, by omega, rfl, hide (by simp), hide (Below.refl _ _)⟩
    case round =>
      obtain ⟨k, hk, rfl, heq, hbel⟩ := hrel
      by_cases hlt : k < n
      · have hI0 := H0.out _ hbel.out
        have hI1 := H1.out _ hbel.out
        obtain ⟨b0, off, ea, hc⟩ := hI0.2.2.2 (by omega)
        obtain ⟨b1, off', eb, hc'⟩ := hI1.2.2.2 (by omega)
        subst ea eb
        obtain ⟨x, hx⟩ : ∃ x, l[k]? = some x := ⟨_, List.getElem?_eq_getElem (by rw [hl]; exact hlt)⟩
        obtain ⟨y, hy⟩ : ∃ y, m[k]? = some y := ⟨_, List.getElem?_eq_getElem (by rw [hl']; exact hlt)⟩
        have hv := hc k x hx
        have hu := hc' k y hy
        have HX := hide hx
        have HY := hide hy
        obtain ⟨S, K, T, V, X⟩ := x
        obtain ⟨S', K', T', V', X'⟩ := y
        unfold Vt Vi at hv hu
        simp only at hv hu
        obtain ⟨v0, v1, v2, v3, v4⟩ := hv
        obtain ⟨u0, u1, u2, u3, u4⟩ := hu
        have hno : Hid (¬ (S = S' ∧ K = K' ∧ T = T' ∧ V = V' ∧ X = X') → ¬ l = m) := hide (fun h e => by
          subst e
          rw [hx] at hy
          simp at hy
          exact h hy)
        clear hI0 hI1 hc hc' hx hy
        by_cases e0 : S = S'
        · subst e0
          by_cases e1 : K = K'
          · subst e1
            by_cases e2 : T = T'
            · subst e2
              by_cases e3 : V = V'
              · subst e3
                by_cases e4 : X = X'
                · subst e4
                  go_wp2_with fail
                  go_region
                  go_wp2
                  go_roundw
                  case rel => exact ⟨k + 1, by omega, by go_num, hide (by rw [List.take_add_one, List.take_add_one, HX.out, HY.out, heq.out]), hide hbel.out.drew⟩
                  case measure => simp [intOf]; omega
                · have hno2 := hide (hno.out (by simp [e4]))
                  have q : (X == X') = false := by simpa using e4
                  clear e4 hno
                  go_wp2_with fail
                  go_region
                  go_wp2
                  go_ret
                  exact ⟨false, rfl, by simp [hno2.out], hbel.out.drew⟩
              · have hno2 := hide (hno.out (by simp [e3]))
                have q : (V == V') = false := by simpa using e3
                clear e3 hno
                go_wp2_with fail
                go_region
                go_wp2
                go_ret
                exact ⟨false, rfl, by simp [hno2.out], hbel.out.drew⟩
            · have hno2 := hide (hno.out (by simp [e2]))
              have q : (T == T') = false := by simpa using e2
              clear e2 hno
              go_wp2_with fail
              go_region
              go_wp2
              go_ret
              exact ⟨false, rfl, by simp [hno2.out], hbel.out.drew⟩
          · have hno2 := hide (hno.out (by simp [e1]))
            have q : (K == K') = false := by simpa using e1
            clear e1 hno
            go_wp2_with fail
            go_region
            go_wp2
            go_ret
            exact ⟨false, rfl, by simp [hno2.out], hbel.out.drew⟩
        · have hno2 := hide (hno.out (by simp [e0]))
          have q : (S == S') = false := by simpa using e0
          clear e0 hno
          go_wp2_with fail
          go_region
          go_wp2
          go_ret
          exact ⟨false, rfl, by simp [hno2.out], hbel.out.drew⟩
      · obtain rfl : k = n := by omega
        have HE := hide (show l = m by
          have := heq.out
          rwa [show l.take k = l from by rw [← HL.out]; exact List.take_length, show m.take k = m from by rw [← HL'.out]; exact List.take_length] at this)
        go_wp2
        go_ret
        exact ⟨true, rfl, by simp [HE.out], hbel.out⟩
  · have hno : Hid (¬ l = m) := hide (fun e => hlen (by rw [← hl, ← hl', e]))
    have hnn : ((n : Int) != (n' : Int)) = true := by simp; omega
    clear h0 h1
    go_enter Tryz.func41, Tryz.ntmps41
    go_wp2
    go_ret
    exact ⟨false, rfl, by simp [hno.out], Below.refl _ _⟩

end Go.Proofs.YtdldpdllhnpdaaaGreat.Clep

/- Rows of items laid together: what the document's own Rows comes to; a row of rows in memory. No conditions. -/
namespace Go.Proofs.YtdldpdllhnpdaaaGreat.Clep
open Go.RowKit Go.ChangeShapes Go.WideShapes Go.Deep
set_option linter.unusedVariables false

/-- What Put makes of the items alone. -/
def putL (x : It) : List It → List It
  | [] => [x]
  | y :: r => if y.less x then y :: putL x r else if y.same x then (if x.wins y then x :: r else y :: r) else x :: y :: r
theorem putL_mem (x : It) : ∀ (l : List It) (z : It), z ∈ putL x l → z = x ∨ z ∈ l
  | [], z, h => by simp [putL] at h; exact .inl h
  | y :: r, z, h => by
    unfold putL at h
    cases hy : y.less x with
    | true =>
      rw [hy, if_pos rfl] at h
      rcases List.mem_cons.1 h with e | e
      · exact .inr (by simp [e])
      · rcases putL_mem x r z e with e | e
        · exact .inl e
        · exact .inr (by simp [e])
    | false =>
      rw [hy, if_neg Bool.false_ne_true] at h
      cases hs : y.same x with
      | true =>
        rw [hs, if_pos rfl] at h
        cases hw : x.wins y with
        | true =>
          rw [hw, if_pos rfl] at h
          rcases List.mem_cons.1 h with e | e
          · exact .inl e
          · exact .inr (by simp [e])
        | false =>
          rw [hw, if_neg Bool.false_ne_true] at h
          exact .inr h
      | false =>
        rw [hs, if_neg Bool.false_ne_true] at h
        rcases List.mem_cons.1 h with e | e
        · exact .inl e
        · exact .inr e
theorem putL_len (x : It) : ∀ (l : List It), (putL x l).length ≤ l.length + 1
  | [] => by simp [putL]
  | y :: r => by
    unfold putL
    have := putL_len x r
    split
    · simp; omega
    · split
      · split <;> simp
      · simp
theorem putL_rise (x : It) : ∀ (l : List It), Rise l → Rise (putL x l)
  | [], h => by unfold putL Rise; simp
  | y :: r, h => by
    have h' := List.pairwise_cons.1 (show List.Pairwise _ (y :: r) from h)
    unfold putL
    cases hy : y.less x with
    | true =>
      rw [if_pos rfl]
      refine List.pairwise_cons.2 ⟨fun z hz => ?_, putL_rise x r h'.2⟩
      rcases putL_mem x r z hz with rfl | e
      · exact hy
      · exact h'.1 z e
    | false =>
      rw [if_neg Bool.false_ne_true]
      cases hs : y.same x with
      | true =>
        rw [if_pos rfl]
        cases hw : x.wins y with
        | true =>
          rw [if_pos rfl]
          refine List.pairwise_cons.2 ⟨fun z hz => ?_, h'.2⟩
          refine less_same (b := y) ?_ (h'.1 z hz)
          rw [same_iff] at *; omega
        | false => rw [if_neg Bool.false_ne_true]; exact h
      | false =>
        rw [if_neg Bool.false_ne_true]
        have hxy : x.less y = true := tri y x hs hy
        refine List.pairwise_cons.2 ⟨fun z hz => ?_, h⟩
        rcases List.mem_cons.1 hz with rfl | e
        · exact hxy
        · exact less_trans hxy (h'.1 z e)
/-- The answer is a row of the call's own. -/
def AnsO (l : List It) (w : World) (e : Ending) (w' : World) : Prop := ∃ a c, e = .returned (.slice a l.length c) ∧ Is w' a l.length c l ∧ c ≤ 9223372036854775807 ∧ Below w.heap.size w w' ∧ OwnI w' w.heap.size (.slice a l.length c) l
def mgIn (y : It) (r : List It) (rec : List It → List It) : List It → List It
  | [] => y :: r
  | x :: s => if y.same x then (if x.wins y then x else y) :: rec s else if y.less x then y :: rec (x :: s) else x :: mgIn y r rec s
/-- Two rows laid together. -/
def mg : List It → List It → List It
  | [], l => l
  | y :: r, l => mgIn y r (mg r) l
theorem mg_nil : ∀ u : List It, mg u [] = u
  | [] => rfl
  | y :: r => rfl
theorem mg_cons (y x : It) (r s : List It) : mg (y :: r) (x :: s) = if y.same x then (if x.wins y then x else y) :: mg r s else if y.less x then y :: mg r (x :: s) else x :: mg (y :: r) s := rfl
theorem mg_one (x : It) : ∀ u : List It, mg u [x] = putL x u
  | [] => rfl
  | y :: r => by
    rw [mg_cons, mg_nil, mg_one x r, mg_nil]
    show _ = if y.less x then y :: putL x r else if y.same x then (if x.wins y then x :: r else y :: r) else x :: y :: r
    cases hs : y.same x with
    | true =>
      have hl : y.less x = false := by
        rw [same_iff] at hs
        cases h : y.less x with
        | false => rfl
        | true => rw [less_iff] at h; omega
      rw [hl, if_pos rfl, if_neg Bool.false_ne_true, if_pos rfl]
      cases x.wins y with
      | true => rfl
      | false => rfl
    | false =>
      rw [if_neg Bool.false_ne_true]
      cases y.less x with
      | true => rfl
      | false => rfl
theorem mg_len : ∀ (u l : List It), (mg u l).length ≤ u.length + l.length
  | [], l => by simp [mg]
  | y :: r, l => by
    induction l with
    | nil => rw [mg_nil]; simp
    | cons x s ih =>
      rw [mg_cons]
      split
      · have := mg_len r s; simp; omega
      · split
        · have := mg_len r (x :: s); simp at *; omega
        · simp at *; omega
theorem mg_mem : ∀ (u l : List It) (z : It), z ∈ mg u l → z ∈ u ∨ z ∈ l
  | [], l, z, h => .inr h
  | y :: r, l, z, h => by
    induction l with
    | nil => rw [mg_nil] at h; exact .inl h
    | cons x s ih =>
      rw [mg_cons] at h
      split at h
      · rcases List.mem_cons.1 h with e | e
        · split at e
          · exact .inr (by simp [e])
          · exact .inl (by simp [e])
        · rcases mg_mem r s z e with e | e
          · exact .inl (by simp [e])
          · exact .inr (by simp [e])
      · split at h
        · rcases List.mem_cons.1 h with e | e
          · exact .inl (by simp [e])
          · rcases mg_mem r (x :: s) z e with e | e
            · exact .inl (by simp [e])
            · exact .inr e
        · rcases List.mem_cons.1 h with e | e
          · exact .inr (by simp [e])
          · rcases ih e with e | e
            · exact .inl e
            · exact .inr (by simp [e])

/-- A slice of items, and what it leads to. -/
structure Sl where
  a : Option Addr
  n : Nat
  c : Nat
  l : List It
/-- The slice value (ao, len, cap) leads to slices of items. -/
def Rws (w : World) (ao : Option Addr) (len cap : Nat) (zs : List Sl) : Prop :=
  zs.length = len ∧ (len ≤ cap ∧ (ao = none → len = 0 ∧ cap = 0)) ∧ (∀ z ∈ zs, Is w z.a z.n z.c z.l ∧ z.n ≤ 9223372036854775807) ∧
    (0 < len → ∃ b off, ao = some ⟨b, off, none⟩ ∧ ∀ i z, zs[i]? = some z → w.cell? ⟨b, off + i, none⟩ = some (.slice z.a z.n z.c))
theorem Rws.below {w w' : World} {B : Nat} {ao : Option Addr} {len cap : Nat} {zs : List Sl} (h : Rws w ao len cap zs) (hb : Below B w w') (hB : w.heap.size ≤ B) : Rws w' ao len cap zs := by
  refine ⟨h.1, h.2.1, fun z hz => ⟨(h.2.2.1 z hz).1.below hb hB, (h.2.2.1 z hz).2⟩, fun h0 => ?_⟩
  obtain ⟨b, off, ho, hc⟩ := h.2.2.2 h0
  refine ⟨b, off, ho, fun i z hi => ?_⟩
  have hlt := World.block_lt_of_cell? w _ (hc i z hi)
  exact (hb.cell (p := ⟨b, off + i, none⟩) (Nat.lt_of_lt_of_le hlt hB)).trans (hc i z hi)
/-- All rows laid together. -/
def rowsL (zs : List Sl) : List It := zs.foldl (fun o z => mg o z.l) []
theorem rowsL_take (zs : List Sl) (i : Nat) (z : Sl) (h : zs[i]? = some z) : rowsL (zs.take (i + 1)) = mg (rowsL (zs.take i)) z.l := by
  unfold rowsL
  rw [List.take_add_one, h, List.foldl_append]
  rfl
def sumL (zs : List Sl) : Nat := (zs.map fun z => z.l.length).sum
theorem sumL_take (zs : List Sl) (i : Nat) (z : Sl) (h : zs[i]? = some z) : sumL (zs.take (i + 1)) = sumL (zs.take i) + z.l.length := by
  unfold sumL
  rw [List.take_add_one, h]
  simp
theorem sumL_le (zs : List Sl) (i : Nat) : sumL (zs.take i) ≤ sumL zs := by
  unfold sumL
  conv => rhs; rw [← List.take_append_drop i zs, List.map_append, List.sum_append]
  omega

section
variable {H : Type} {enc : TypeId × Value → H} {W : World} {base : Nat} {spare : Nat → Bool} {held : Bool}
set_option maxRecDepth 100000 in
theorem open_rows {a : Option Addr} {len cap : Nat} {d : DataW H} {p : List MemPlace} (h : DataW.Trod enc Tryz.prog W base spare held 22 (.slice a len cap) d p) :
    ∃ zs, Rws W a len cap zs ∧ len ≤ 9223372036854775807 := by
  haveI : Inhabited Sl := ⟨⟨none, 0, 0, []⟩⟩
  have hce : Tryz.prog.cellsOf 34 = 1 := by kernel_rfl
  obtain ⟨fuel, hf⟩ := h
  rcases open_slice Tryz.underlying22 hf with ⟨hcs, _⟩ | ⟨x, l, c, m, n, D, Pl, hcs, _, hl, hm, hmm, _, hx⟩
  · simp [Value.cells] at hcs
    obtain ⟨rfl, rfl, rfl⟩ := hcs
    exact ⟨[], ⟨rfl, ⟨Nat.le_refl _, fun _ => ⟨rfl, rfl⟩⟩, by simp, fun h => by omega⟩, by omega⟩
  · simp [Value.cells] at hcs
    obtain ⟨rfl, rfl, rfl⟩ := hcs
    have hlm : len ≤ m := by rw [hmm]; split <;> omega
    have each : ∀ i, i < len → ∃ z : Sl, (Is W z.a z.n z.c z.l ∧ z.n ≤ 9223372036854775807) ∧ W.cell? (x.add i) = some (.slice z.a z.n z.c) := by
      intro i hi
      obtain ⟨cs', h1, h2⟩ := hx i (by omega)
      rw [hce] at h1
      obtain ⟨_, hlen, hc⟩ := World.cells?_some h1
      obtain ⟨v, rfl⟩ := List.length_eq_one_iff.1 hlen
      have hv := hc 0 (by omega)
      obtain ⟨s, n', c', rfl⟩ : ∃ s n' c', v = .slice s n' c' := by
        rcases open_slice Tryz.underlying34 h2 with ⟨hcs, _⟩ | ⟨x', l', c', m', n'', D', Pl', hcs, _⟩
        · exact ⟨none, 0, 0, by simpa using hcs⟩
        · exact ⟨some x', l', c', by simpa using hcs⟩
      obtain ⟨l, hI, hn⟩ := open_items (a := s) (len := n') (cap := c') (H := H) (enc := enc) (W := W) (base := base) (spare := spare) (held := held) ⟨_, h2⟩
      refine ⟨⟨s, n', c', l⟩, ⟨hI, hn⟩, ?_⟩
      rw [Nat.mul_one] at hv
      simpa [Addr.add] using hv
    obtain ⟨q, hq⟩ := choose_lt each
    refine ⟨(List.range len).map q, ⟨by simp, ⟨hl, fun h => by cases h⟩, ?_, fun h0 => ?_⟩, by unfold maxLen at hm; omega⟩
    · intro z hz
      obtain ⟨i, hi, rfl⟩ := List.mem_map.1 hz
      exact (hq i (List.mem_range.1 hi)).1
    · obtain ⟨b, off, spot⟩ := x
      have hc := (hq 0 h0).2
      have hspot : spot = none := by simpa [Addr.add] using World.cell?_spot hc
      subst hspot
      refine ⟨b, off, rfl, fun i z hi => ?_⟩
      have hil : i < len := by
        have := (List.getElem?_eq_some_iff.1 hi).1
        simpa using this
      have : q i = z := by simpa [hil] using hi
      subst this
      have g := (hq i hil).2
      simpa only [add_plain] using g
end

end Go.Proofs.YtdldpdllhnpdaaaGreat.Clep

/- What the document's own Rows does when called: for any rows of items. Conditions: at most 2^41 items in all. -/
namespace Go.Proofs.YtdldpdllhnpdaaaGreat.Clep
open Go.RowKit
set_option linter.unusedVariables false

/-- Two rows, laid together so far as j of the one and k of the other. -/
structure Mg (W1 wr : World) (v : Value) (acc out l : List It) (j k : Nat) : Prop where
  own : OwnI wr W1.heap.size v acc
  eq : acc ++ mg (out.drop j) (l.drop k) = mg out l
  bel : Below W1.heap.size W1 wr
  len : acc.length ≤ j + k
theorem drop_it (l : List It) (k : Nat) (x : It) (h : l[k]? = some x) : l.drop k = x :: l.drop (k + 1) := by
  obtain ⟨hk, he⟩ := List.getElem?_eq_some_iff.1 h
  rw [List.drop_eq_getElem_cons hk, he]
theorem mg_s1 {acc out l : List It} {j k : Nat} {x y : It} (h : acc ++ mg (out.drop j) (l.drop k) = mg out l) (hy : out[j]? = some y) (hx : l[k]? = some x) (hs : y.same x = true) : (acc ++ [if x.wins y then x else y]) ++ mg (out.drop (j + 1)) (l.drop (k + 1)) = mg out l := by
  rw [drop_it out j y hy, drop_it l k x hx, mg_cons, hs, if_pos rfl] at h
  rw [← h]; simp
theorem mg_s2 {acc out l : List It} {j k : Nat} {x y : It} (h : acc ++ mg (out.drop j) (l.drop k) = mg out l) (hy : out[j]? = some y) (hx : l[k]? = some x) (hs : y.same x = false) (hl : y.less x = true) : (acc ++ [y]) ++ mg (out.drop (j + 1)) (l.drop k) = mg out l := by
  rw [drop_it out j y hy, drop_it l k x hx, mg_cons, hs, if_neg Bool.false_ne_true, hl, if_pos rfl] at h
  rw [← h, drop_it l k x hx]; simp
theorem mg_s3 {acc out l : List It} {j k : Nat} {x y : It} (h : acc ++ mg (out.drop j) (l.drop k) = mg out l) (hy : out[j]? = some y) (hx : l[k]? = some x) (hs : y.same x = false) (hl : y.less x = false) : (acc ++ [x]) ++ mg (out.drop j) (l.drop (k + 1)) = mg out l := by
  rw [drop_it out j y hy, drop_it l k x hx, mg_cons, hs, if_neg Bool.false_ne_true, hl, if_neg Bool.false_ne_true] at h
  rw [← h, drop_it out j y hy]; simp
theorem mg_s4 {acc out l : List It} {j k : Nat} {y : It} (h : acc ++ mg (out.drop j) (l.drop k) = mg out l) (hy : out[j]? = some y) (hk : l.drop k = []) : (acc ++ [y]) ++ mg (out.drop (j + 1)) (l.drop k) = mg out l := by
  rw [drop_it out j y hy, hk, mg_nil] at h
  rw [← h, hk, mg_nil]; simp
theorem mg_s5 {acc out l : List It} {j k : Nat} {x : It} (h : acc ++ mg (out.drop j) (l.drop k) = mg out l) (hx : l[k]? = some x) (hj : out.drop j = []) : (acc ++ [x]) ++ mg (out.drop j) (l.drop (k + 1)) = mg out l := by
  rw [drop_it l k x hx, hj] at h
  rw [← h, hj]
  show _ ++ l.drop (k + 1) = _ ++ (x :: l.drop (k + 1))
  simp
theorem ownI_other {w w' : World} {B R : Nat} {v : Value} {l : List It} (h : OwnI w B v l) (hg : w.grownBy w' (some R)) (hR : w.heap.size ≤ R ∨ v.ownBlock ≠ some R) : OwnI w' B v l := by
  refine World.ownsRow.kept h hg (.inr fun e => ?_)
  rcases hR with hR | hR
  · have := (World.ownsRow.lt h R e).2; omega
  · exact hR e
theorem ownI_ne {w : World} {B R : Nat} {v : Value} {l : List It} (h : OwnI w B v l) (hR : w.heap.size ≤ R) : v.ownBlock ≠ some R := fun e => by
  have := (World.ownsRow.lt h R e).2; omega
theorem mg_end {acc out l : List It} {j k : Nat} (h : acc ++ mg (out.drop j) (l.drop k) = mg out l) (hj : out.drop j = []) (hk : l.drop k = []) : acc = mg out l := by
  rw [hj, hk] at h
  simpa [mg] using h

/-- The rows laid together so far. -/
structure Ro (w wr : World) (ao : Option Addr) (no co : Nat) (m : List It) : Prop where
  is : Is wr ao no co m
  cap : co ≤ 9223372036854775807
  own : OwnI wr w.heap.size (.slice ao no co) m
  bel : Below w.heap.size w wr

end Go.Proofs.YtdldpdllhnpdaaaGreat.Clep

/- Slices of slices of items: where they lie, and what they lead to; rows of such slices that a call made. No conditions but the bounds. -/
namespace Go.Proofs.YtdldpdllhnpdaaaGreat.Clep
open Go.RowKit
set_option linter.unusedVariables false
set_option maxRecDepth 10000

/-- Where a slice of (a, cap) from l on lies. -/
def icut (a : Option Addr) (cap l : Nat) : Option Addr := if cap = l then a else a.map (·.add (l * 5))
theorem icut_eq (a : Option Addr) (l h cap : Nat) : sliced a l h cap 5 = .slice (icut a cap l) (h - l) (cap - l) := by
  unfold sliced icut
  rfl
theorem sizeof_it (w : World) : (sizeOf (Tryz.prog.elem 34)).run Tryz.prog w = .ok 5 w := by
  go_simp
theorem under_items : Tryz.prog.underlying 34 = some (.slice (Tryz.prog.elem 34)) := by kernel_rfl
theorem icut_h (w : World) (a : Option Addr) (len cap : Nat) (k : IntKind) (h : Int) (h0 : 0 ≤ h) (h2 : h ≤ cap) :
    (Instr.sliceAt 34 (.slice a len cap) none (some (.int k h)) none).run Tryz.prog w = .ok (.slice (icut a cap 0) h.toNat cap) w := by
  rw [run_sliceAt_slice _ _ _ _ _ _ under_items, run_slice_h _ _ _ _ _ under_items k h h0 h2, sizeof_it]
  simp only [Result.andThen, icut_eq, Nat.sub_zero]
theorem icut_l (w : World) (a : Option Addr) (len cap : Nat) (k : IntKind) (l : Int) (h0 : 0 ≤ l) (h1 : l ≤ len) :
    (Instr.sliceAt 34 (.slice a len cap) (some (.int k l)) none none).run Tryz.prog w = .ok (.slice (icut a cap l.toNat) (len - l.toNat) (cap - l.toNat)) w := by
  rw [run_sliceAt_slice _ _ _ _ _ _ under_items, run_slice_l _ _ _ _ _ under_items k l h0 h1, sizeof_it]
  simp only [Result.andThen, icut_eq]
theorem icut_lh (w : World) (a : Option Addr) (len cap : Nat) (k k' : IntKind) (l h : Int) (h0 : 0 ≤ l) (h1 : l ≤ h) (h2 : h ≤ cap) :
    (Instr.sliceAt 34 (.slice a len cap) (some (.int k l)) (some (.int k' h)) none).run Tryz.prog w = .ok (.slice (icut a cap l.toNat) (h.toNat - l.toNat) (cap - l.toNat)) w := by
  rw [run_sliceAt_slice _ _ _ _ _ _ under_items, run_slice_lh _ _ _ _ _ under_items k k' l h h0 h1 h2, sizeof_it]
  simp only [Result.andThen, icut_eq]
theorem Is.cut {w : World} {a : Option Addr} {len cap : Nat} {m : List It} (hb : Is w a len cap m) (l h : Nat) (h1 : l ≤ h) (h2 : h ≤ len) : Is w (icut a cap l) (h - l) (cap - l) ((m.take h).drop l) := by
  have hl : ((m.take h).drop l).length = h - l := by rw [List.length_drop, List.length_take, hb.1]; omega
  have hc := hb.2.1.1
  refine ⟨hl, ⟨by omega, fun hn => ?_⟩, fun x hx => hb.2.2.1 x (List.mem_of_mem_take (List.mem_of_mem_drop hx)), fun h0 => ?_⟩
  · have : a = none := by
      cases a with
      | none => rfl
      | some x => unfold icut at hn; split at hn <;> cases hn
    have := hb.2.1.2 this
    omega
  · obtain ⟨b, off, rfl, hcell⟩ := hb.2.2.2 (by omega)
    refine ⟨b, off + l * 5, ?_, fun i x hi => ?_⟩
    · unfold icut
      rw [if_neg (by omega)]
      simp [add_plain]
    · have hx : m[l + i]? = some x := by
        rw [List.getElem?_drop] at hi
        rw [List.getElem?_take] at hi
        split at hi
        · exact hi
        · cases hi
      have := hcell (l + i) x hx
      rwa [show off + (l + i) * 5 = off + l * 5 + i * 5 by omega] at this

def sv (zs : List Sl) : List Value := zs.map fun z => Value.slice z.a z.n z.c
/-- The slice value v owns the slices zs, in a row of the call's own from block B on. -/
def OwnS (w : World) (B : Nat) (v : Value) (zs : List Sl) : Prop := w.ownsRow B 34 1 v zs.length (sv zs)
theorem infoS : (Tryz.prog.info? 34).map (fun i => (i.zero, i.size, i.bytes)) = some (some (.slice none 0 0), 1, 24) := by kernel_rfl
theorem ownS_rws {w : World} {B : Nat} {v : Value} {zs : List Sl} (h : OwnS w B v zs) (hz : ∀ z ∈ zs, Is w z.a z.n z.c z.l ∧ z.n ≤ 9223372036854775807) :
    ∃ a c, v = .slice a zs.length c ∧ Rws w a zs.length c zs ∧ c ≤ 9223372036854775807 := by
  obtain ⟨hl, ⟨rfl, hn⟩ | ⟨g, cap, cur, rfl, hg, hh, hnc, hcm, hcs, hx⟩⟩ := h
  · exact ⟨none, 0, by rw [hn], ⟨rfl, ⟨by omega, fun _ => ⟨hn, rfl⟩⟩, hz, fun h => by omega⟩, by omega⟩
  · refine ⟨some ⟨g, 0, none⟩, cap, rfl, ⟨rfl, ⟨hnc, fun h => by cases h⟩, hz, fun _ => ⟨g, 0, rfl, fun i z hi => ?_⟩⟩, by unfold maxLen at hcm; omega⟩
    have hc := World.ownsRow.cells (w := w) (base := B) (e := 34) (size := 1) (v := .slice (some ⟨g, 0, none⟩) zs.length cap) (n := zs.length) (xs := sv zs)
      ⟨hl, .inr ⟨g, cap, cur, rfl, hg, hh, hnc, hcm, hcs, hx⟩⟩ (g := g) rfl i (.slice z.a z.n z.c) (by simp [sv, hi])
    rwa [add_plain] at hc
theorem ownS_grown {w w' : World} {B : Nat} {v : Value} {l : List Sl} {row : Option Nat} (h : OwnS w B v l) (hg : w.grownBy w' row) (hne : ∀ k, row = some k → k < B) : OwnS w' B v l := by
  refine World.ownsRow.kept h hg ?_
  cases hv : v.ownBlock with
  | none => exact .inl rfl
  | some k =>
    refine .inr fun e => ?_
    have := (World.ownsRow.lt h k hv).1
    have := hne k e.symm
    omega
theorem ownS_keep {w w' : World} {B : Nat} {v : Value} {l : List Sl} (h : OwnS w B v l) (hb : Below w.heap.size w w') : OwnS w' B v l := ownS_grown h (gb_below hb none) (by simp)
theorem ownS_snoc {w : World} {B : Nat} {v : Value} {zs : List Sl} {z : Sl} (h : w.ownsRow B 34 1 v (zs.length + 1) (sv zs ++ [.slice z.a z.n z.c])) : OwnS w B v (zs ++ [z]) := by
  unfold OwnS sv; simpa [sv] using h

/-- What the document's own Rows makes of the items that may be, each a row. -/
def qL (l : List It) : List It := (l.filter It.ok).foldl (fun o x => putL x o) []
theorem fold_putL (P : It → Prop) : ∀ (l o : List It), (∀ x ∈ l, P x) → (∀ x ∈ o, P x) → ∀ x ∈ l.foldl (fun o x => putL x o) o, P x
  | [], o, _, ho => ho
  | y :: r, o, hl, ho => fold_putL P r (putL y o) (fun x hx => hl x (by simp [hx])) (fun x hx => by
    rcases putL_mem y o x hx with rfl | h
    · exact hl _ (by simp)
    · exact ho x h)
theorem qL_all (P : It → Prop) (l : List It) (h : ∀ x ∈ l, P x) : ∀ x ∈ qL l, P x := fold_putL P _ [] (fun x hx => h x ((List.mem_filter.1 hx).1)) (by simp)
theorem qL_ok (l : List It) : ∀ x ∈ qL l, x.ok = true := fold_putL (fun x => x.ok = true) _ [] (fun x hx => (List.mem_filter.1 hx).2) (by simp)
theorem fold_rise : ∀ (l o : List It), Rise o → Rise (l.foldl (fun o x => putL x o) o)
  | [], o, h => h
  | y :: r, o, h => fold_rise r (putL y o) (putL_rise y o h)
theorem qL_rise (l : List It) : Rise (qL l) := fold_rise _ [] List.Pairwise.nil
theorem fold_len : ∀ (l o : List It), (l.foldl (fun o x => putL x o) o).length ≤ o.length + l.length
  | [], o => by simp
  | y :: r, o => by
    have h1 := fold_len r (putL y o)
    have h2 := putL_len y o
    simp only [List.foldl_cons, List.length_cons]; omega
theorem qL_len (l : List It) : (qL l).length ≤ l.length := by
  have h1 := fold_len (l.filter It.ok) []
  have h2 := List.length_filter_le It.ok l
  unfold qL; simp at h1; omega
theorem rows_fold : ∀ (zs : List Sl) (m o : List It), zs.map Sl.l = m.map (fun x => [x]) → zs.foldl (fun o z => mg o z.l) o = m.foldl (fun o x => putL x o) o
  | [], [], o, _ => rfl
  | [], _ :: _, o, h => by simp at h
  | _ :: _, [], o, h => by simp at h
  | z :: zs, x :: m, o, h => by
    simp only [List.map_cons, List.cons.injEq] at h
    simp only [List.foldl_cons]
    rw [h.1, mg_one]
    exact rows_fold zs m (putL x o) h.2
theorem rows_q (zs : List Sl) (l : List It) (h : zs.map Sl.l = (l.filter It.ok).map (fun x => [x])) : rowsL zs = qL l := rows_fold zs _ [] h
theorem sum_q : ∀ (zs : List Sl) (m : List It), zs.map Sl.l = m.map (fun x => [x]) → sumL zs = m.length
  | [], [], _ => rfl
  | [], _ :: _, h => by simp at h
  | _ :: _, [], h => by simp at h
  | z :: zs, x :: m, h => by
    simp only [List.map_cons, List.cons.injEq] at h
    have := sum_q zs m h.2
    unfold sumL at *
    simp only [List.map_cons, List.sum_cons, this, h.1, List.length_cons, List.length_nil]
    omega

end Go.Proofs.YtdldpdllhnpdaaaGreat.Clep

/- Rows of rows of items that a call makes: where they lie, how one more comes behind them, how they are cut and laid together. Conditions: fewer than a million rows. -/
namespace Go.Proofs.YtdldpdllhnpdaaaGreat.Clep
open Go.RowKit
set_option linter.unusedVariables false
set_option maxRecDepth 10000

theorem is_grown' {w w' : World} {row : Option Nat} {a : Option Addr} {len cap : Nat} {l : List It} (h : Is w a len cap l) (hg : w.grownBy w' row) (hne : 0 < len → ∀ x, a = some x → some x.block ≠ row) : Is w' a len cap l := by
  refine ⟨h.1, h.2.1, h.2.2.1, fun h0 => ?_⟩
  obtain ⟨b, off, e, hc⟩ := h.2.2.2 h0
  exact ⟨b, off, e, fun i x hx => (hc i x hx).grown hg (hne h0 _ e)⟩
theorem cell_newS (w : World) (v : Value) (T : TypeId) : ∀ j u, [v][j]? = some u → (w.alloc (.cells #[v] T)).cell? ((⟨w.heap.size, 0, none⟩ : Addr).add j) = some u := by
  intro j u hu
  cases j with
  | zero =>
    simp only [List.getElem?_cons_zero, Option.some.injEq] at hu
    subst hu
    rw [add_plain, World.cell?_alloc_at _ _ _ _ (by simp)]; rfl
  | succ j => simp at hu
/-- A row of rows that the call makes. -/
structure Ors (w : World) (B : Nat) (v : Value) (ys : List Sl) : Prop where
  own : OwnS w B v ys
  is : ∀ z ∈ ys, Is w z.a z.n z.c z.l ∧ z.n ≤ 9223372036854775807
  apart : ∀ z ∈ ys, 0 < z.n → ∀ x, z.a = some x → v.ownBlock ≠ some x.block
theorem Ors.keep {w w' : World} {B : Nat} {v : Value} {ys : List Sl} (h : Ors w B v ys) (hb : Below w.heap.size w w') : Ors w' B v ys :=
  ⟨ownS_keep h.own hb, fun z hz => ⟨(h.is z hz).1.below hb (Nat.le_refl _), (h.is z hz).2⟩, h.apart⟩
theorem ors_nil (w : World) (B : Nat) : Ors w B (.slice none 0 0) [] := ⟨World.ownsRow_nil _ _ _ _, by simp, by simp⟩
theorem is_lt {w : World} {a : Option Addr} {n c : Nat} {l : List It} (h : Is w a n c l) (h0 : 0 < n) (x : Addr) (hx : a = some x) : x.block < w.heap.size := by
  obtain ⟨b, off, e, hc⟩ := h.2.2.2 h0
  rw [hx] at e
  injection e with e
  subst e
  obtain ⟨y, hy⟩ : ∃ y, l[0]? = some y := ⟨_, List.getElem?_eq_getElem (by rw [h.1]; exact h0)⟩
  exact World.block_lt_of_cell? w _ (hc 0 y hy).1
theorem Ors.snoc {w w' : World} {B : Nat} {v v' : Value} {ys : List Sl} {z : Sl} (h : Ors w B v ys) (hz : Is w z.a z.n z.c z.l) (hzn : z.n ≤ 9223372036854775807) (hza : 0 < z.n → ∀ x, z.a = some x → v.ownBlock ≠ some x.block)
    (ho : OwnS w' B v' (ys ++ [z])) (hg : w.grownBy w' v.ownBlock) (hl : v'.ownBlock = v.ownBlock ∨ v'.ownBlock = some w.heap.size) : Ors w' B v' (ys ++ [z]) := by
  have hall : ∀ y ∈ ys ++ [z], Is w y.a y.n y.c y.l ∧ y.n ≤ 9223372036854775807 ∧ (0 < y.n → ∀ x, y.a = some x → v.ownBlock ≠ some x.block) := fun y hy => by
    rcases List.mem_append.1 hy with e | e
    · exact ⟨(h.is y e).1, (h.is y e).2, h.apart y e⟩
    · rw [List.mem_singleton.1 e]; exact ⟨hz, hzn, hza⟩
  refine ⟨ho, fun y hy => ⟨is_grown' (hall y hy).1 hg (fun h0 x hx e => (hall y hy).2.2 h0 x hx e.symm), (hall y hy).2.1⟩, fun y hy h0 x hx => ?_⟩
  rcases hl with e | e
  · rw [e]; exact (hall y hy).2.2 h0 x hx
  · rw [e]
    have := is_lt (hall y hy).1 h0 x hx
    intro e2
    injection e2 with e2
    omega
theorem Ors.rws {w : World} {B : Nat} {v : Value} {ys : List Sl} (h : Ors w B v ys) : ∃ a c, v = .slice a ys.length c ∧ Rws w a ys.length c ys ∧ c ≤ 9223372036854775807 := ownS_rws h.own h.is
theorem Ors.grown {w w' : World} {B : Nat} {v : Value} {ys : List Sl} {row : Option Nat} (h : Ors w B v ys) (hg : w.grownBy w' row) (hv : v.ownBlock = none ∨ v.ownBlock ≠ row) (hz : ∀ z ∈ ys, 0 < z.n → ∀ x, z.a = some x → some x.block ≠ row) : Ors w' B v ys :=
  ⟨World.ownsRow.kept h.own hg hv, fun z hm => ⟨is_grown' (h.is z hm).1 hg (hz z hm), (h.is z hm).2⟩, h.apart⟩
/-- One row more behind a row of rows. -/
theorem wpList_append_row {w w0 : World} {ops : Array Oper} {rest : List Oper} {o : Oper} {a : Act} {Q : Exit → Act → World → Prop} (hgd : o.guard = none) (s x : Operand)
    (ho : o.op = .call { callee := .builtin .append, args := #[s, x], argTypes := #[22, 22] })
    (base : Nat) (v : Value) (ys : List Sl) (hs : a.eval s = v) (hO : Ors w0 base v ys) (z : Sl) (hx : a.eval x = .slice (some ⟨w0.heap.size, 0, none⟩) 1 1) (hw : w = w0.alloc (Obj.cells #[Value.slice z.a z.n z.c] 34))
    (hz : Is w0 z.a z.n z.c z.l) (hzn : z.n ≤ 9223372036854775807) (hza : 0 < z.n → ∀ x, z.a = some x → v.ownBlock ≠ some x.block) (hlen : ys.length ≤ 1000000) (hbase : base ≤ w0.heap.size)
    (h : ∀ v' w', Ors w' base v' (ys ++ [z]) → w0.grownBy w' v.ownBlock → Below base w0 w' → (v'.ownBlock = v.ownBlock ∨ v'.ownBlock = some (w0.heap.size + 1)) → wpList Tryz.prog ops Q rest (a.put o.dst v') w') : wpList Tryz.prog ops Q (o :: rest) a w := by
  obtain ⟨iS, hiS, hzS0, hzS1, hzS2⟩ := info_parts infoS
  have A0 := (Below.refl w0.heap.size w0).alloc (Nat.le_refl _) (Obj.cells #[Value.slice z.a z.n z.c] 34)
  have hO2 := hO.keep A0
  subst hw
  refine wpList_append_own_at _ hgd s x 22 ho base 34 iS (.slice none 0 0) 1 24 Tryz.underlying22 hiS hzS0 hzS1 hzS2 rfl (by decide) v ys.length (sv ys) hs hO2.own ⟨w0.heap.size, 0, none⟩ 1 1 [.slice z.a z.n z.c] hx rfl ?_ ?_ ?_ ?_ ?_ ?_
  · exact cell_newS _ _ _
  · intro u hu; simp at hu; subst hu; rfl
  · unfold maxLen; omega
  · omega
  · have := A0.size; omega
  · intro v' w' ho' hg' _ hl'
    have hsz : (w0.alloc (Obj.cells #[Value.slice z.a z.n z.c] 34)).heap.size = w0.heap.size + 1 := by simp
    have hR := hO2.snoc (hz.below A0 (Nat.le_refl _)) hzn hza (ownS_snoc ho') hg' hl'
    rw [hsz] at hl'
    refine h v' w' hR ?_ ?_ hl'
    · exact ⟨hg'.os, hg'.tape, hg'.output, Nat.le_trans A0.size hg'.size, fun i hi hne => (hg'.block i (by omega) hne).trans (A0.block i hi)⟩
    · exact (A0.mono hbase).grown hg' (by omega) (fun k hk => (World.ownsRow.lt hO.own k hk).1)

/-- Rows laid behind a row of rows. -/
theorem run_append_rows {w : World} (ty : TypeId) (base : Nat) (v : Value) (ys : List Sl) (hO : Ors w base v ys) (ao : Option Addr) (len cap : Nat) (zs : List Sl) (hR : Rws w ao len cap zs)
    (hap : ∀ z ∈ zs, 0 < z.n → ∀ x, z.a = some x → v.ownBlock ≠ some x.block) (hlen : ys.length + len ≤ 1000000) (hbase : base ≤ w.heap.size) :
    ∃ v' w', (Builtin.append_ #[22, 22] ty #[v, .slice ao len cap]).run Tryz.prog w = .ok v' w' ∧ Ors w' base v' (ys ++ zs) ∧ w.grownBy w' v.ownBlock ∧ Below base w w' := by
  obtain ⟨iS, hiS, hzS0, hzS1, hzS2⟩ := info_parts infoS
  cases ao with
  | none =>
    obtain ⟨rfl, rfl⟩ := hR.2.1.2 rfl
    have hz : zs = [] := List.eq_nil_of_length_eq_zero hR.1
    subst hz
    exact ⟨v, w, run_append_owned_none (P := Tryz.prog) (w := w) base 22 ty 34 iS 1 Tryz.underlying22 hiS v ys.length (sv ys) hO.own, by rw [List.append_nil]; exact hO, ⟨rfl, rfl, rfl, Nat.le_refl _, fun _ _ _ => rfl⟩, Below.refl _ _⟩
  | some ad =>
    have hnews : ∀ j u, (sv zs)[j]? = some u → w.cell? (ad.add j) = some u := fun j u hu => by
      unfold sv at hu
      rw [List.getElem?_map] at hu
      cases hz : zs[j]? with
      | none => rw [hz] at hu; cases hu
      | some z =>
        rw [hz] at hu
        have hj : j < len := by rw [← hR.1]; exact (List.getElem?_eq_some_iff.1 hz).1
        obtain ⟨b, off, e, hc⟩ := hR.2.2.2 (by omega)
        injection e with e
        subst e
        rw [add_plain, hc j z hz]
        exact hu
    obtain ⟨v', w', hr, h2, h3, _, h5⟩ := run_append_own_at (P := Tryz.prog) w base 22 ty 34 iS (.slice none 0 0) 1 24 Tryz.underlying22 hiS hzS0 hzS1 hzS2 rfl (by decide) v ys.length (sv ys) hO.own ad len cap (sv zs)
      (by unfold sv; rw [List.length_map, hR.1]; omega) hnews (by intro u hu; unfold sv at hu; obtain ⟨z, _, rfl⟩ := List.mem_map.1 hu; rfl) (by unfold maxLen; omega) (by omega) hbase
    have hall : ∀ z ∈ ys ++ zs, Is w z.a z.n z.c z.l ∧ z.n ≤ 9223372036854775807 ∧ (0 < z.n → ∀ x, z.a = some x → v.ownBlock ≠ some x.block) := fun z hz => by
      rcases List.mem_append.1 hz with e | e
      · exact ⟨(hO.is z e).1, (hO.is z e).2, hO.apart z e⟩
      · exact ⟨(hR.2.2.1 z e).1, (hR.2.2.1 z e).2, hap z e⟩
    refine ⟨v', w', hr, ⟨?_, fun z hz => ⟨is_grown' (hall z hz).1 h3 (fun h0 x hx e => (hall z hz).2.2 h0 x hx e.symm), (hall z hz).2.1⟩, fun z hz h0 x hx => ?_⟩, h3, (Below.refl _ _).grown h3 hbase (fun k hk => (World.ownsRow.lt hO.own k hk).1)⟩
    · unfold OwnS
      rw [List.length_append, hR.1, show sv (ys ++ zs) = sv ys ++ sv zs from by simp [sv]]
      exact h2
    · rcases h5 with e | e
      · rw [e]; exact (hall z hz).2.2 h0 x hx
      · rw [e]
        have := is_lt (hall z hz).1 h0 x hx
        intro e2
        injection e2 with e2
        omega
/-- An append whose outcome is known, whatever guards it. -/
theorem wpList_append_known {w : World} {ops : Array Oper} {rest : List Oper} {o : Oper} {a : Act} {Q : Exit → Act → World → Prop} (hw : Region.wanted o (yielded ops a.tmps) = true) (s x : Operand) (t : TypeId)
    (ho : o.op = .call { callee := .builtin .append, args := #[s, x], argTypes := #[t, t] }) (v x' v' : Value) (w' : World) (hs : a.eval s = v) (hx : a.eval x = x') (hr : (Builtin.append_ #[t, t] o.type #[v, x']).run Tryz.prog w = .ok v' w')
    (h : wpList Tryz.prog ops Q rest (a.put o.dst v') w') : wpList Tryz.prog ops Q (o :: rest) a w := by
  refine wpList_step fun K hK => ?_
  rw [if_pos hw]
  unfold Oper.wp execOp
  simp only [ho, resolve, invoke, builtin, Sem.run_bind, Sem.run_pure, Result.andThen_ok, List.map_toArray, List.map_cons, List.map_nil, hs, hx, hr]
  exact hK _ _ h
/-- A beginning of a row of rows. -/
theorem Rws.take {w : World} {ao : Option Addr} {len cap : Nat} {zs : List Sl} (h : Rws w ao len cap zs) (k : Nat) (hk : k ≤ len) : Rws w ao k cap (zs.take k) := by
  refine ⟨by rw [List.length_take, h.1]; omega, ⟨by have := h.2.1.1; omega, fun e => by have := h.2.1.2 e; omega⟩, fun z hz => h.2.2.1 z (List.mem_of_mem_take hz), fun h0 => ?_⟩
  obtain ⟨b, off, e, hc⟩ := h.2.2.2 (by omega)
  refine ⟨b, off, e, fun i z hi => hc i z ?_⟩
  rw [List.getElem?_take] at hi
  split at hi
  · exact hi
  · cases hi
theorem rws_nil (w : World) : Rws w none 0 0 [] := ⟨rfl, ⟨Nat.le_refl _, fun _ => ⟨rfl, rfl⟩⟩, by simp, fun h => by omega⟩
theorem rws_at {w : World} {ao : Option Addr} {len cap : Nat} {zs : List Sl} (h : Rws w ao len cap zs) (k : Nat) (hk : k < len) : ∃ z b off, zs[k]? = some z ∧ ao = some ⟨b, off, none⟩ ∧ w.cell? ⟨b, off + k, none⟩ = some (.slice z.a z.n z.c) ∧ Is w z.a z.n z.c z.l ∧ z.n ≤ 9223372036854775807 := by
  obtain ⟨b, off, e, hc⟩ := h.2.2.2 (by omega)
  obtain ⟨z, hz⟩ : ∃ z, zs[k]? = some z := ⟨_, List.getElem?_eq_getElem (by rw [h.1]; exact hk)⟩
  have := h.2.2.1 z (List.mem_of_getElem? hz)
  exact ⟨z, b, off, hz, e, hc k z hz, this.1, this.2⟩
theorem rws_wf {w : World} {ao : Option Addr} {len cap : Nat} {zs : List Sl} (h : Rws w ao len cap zs) : ∀ l ∈ zs.map Sl.l, ∀ x ∈ l, x.wf := by
  intro l hl
  obtain ⟨z, hz, rfl⟩ := List.mem_map.1 hl
  exact (h.2.2.1 z hz).1.2.2.1

end Go.Proofs.YtdldpdllhnpdaaaGreat.Clep
