/- What SkipPlays holds beside the List: a row of items and a row of heights; what Put makes of the List and what the statement makes of its rows is the same. No conditions. -/
import Derived.Test.YtakpapgjdpnedaaTAt
import Derived.Test.YtakpapgjdpnedaaSEqual
import Derived.Test.YtakpapgjdpnedaaSLaw
import Derived.Laws.OwnMore
namespace Go.Proofs.Ytakpapgjdpnedaa.Clep
open Go.RowKit
set_option linter.unusedVariables false

def fsts (us : List (It × Nat)) : List It := us.map Prod.fst
def snds (us : List (It × Nat)) : List Int := us.map fun p => (p.2 : Int)
def nz (zs : List Int) : List Value := zs.map (Value.int .i64)
def OwnZ (w : World) (B : Nat) (v : Value) (zs : List Int) : Prop := w.ownsRow B 3 1 v zs.length (nz zs)
theorem infoZ : (Try.prog.info? 3).map (fun i => (i.zero, i.size, i.bytes)) = some (some (.int .i64 0), 1, 8) := by kernel_rfl
/-- A row that a call made, where another's change is not its block. -/
theorem owns_ch {P : Nat → Prop} {w w' : World} {B e sz n : Nat} {v : Value} {xs : List Value} (h : w.ownsRow B e sz v n xs) (hc : Ch P w w') (hn : ∀ k, v.ownBlock = some k → ¬ P k) : w'.ownsRow B e sz v n xs := by
  obtain ⟨hl, ⟨rfl, hn0⟩ | ⟨g, cap, cur, rfl, hg, hh, r1, r2, r3, r4⟩⟩ := h
  · exact ⟨hl, .inl ⟨rfl, hn0⟩⟩
  · exact ⟨hl, .inr ⟨g, cap, cur, rfl, hg, by rw [hc.block g (Array.getElem?_eq_some_iff.1 hh).1 (hn g rfl)]; exact hh, r1, r2, r3, r4⟩⟩
theorem owns_below {w w' : World} {B e sz n : Nat} {v : Value} {xs : List Value} (h : w.ownsRow B e sz v n xs) (hb : Below w.heap.size w w') : w'.ownsRow B e sz v n xs := owns_ch h (Ch.of (P := fun _ => False) hb) (fun _ _ h => h)
theorem owns_base {w : World} {B C e sz n : Nat} {v : Value} {xs : List Value} (h : w.ownsRow B e sz v n xs) (hc : C ≤ B) : w.ownsRow C e sz v n xs := by
  obtain ⟨hl, ⟨rfl, hn⟩ | ⟨g, cap, cur, rfl, hg, r⟩⟩ := h
  · exact ⟨hl, .inl ⟨rfl, hn⟩⟩
  · exact ⟨hl, .inr ⟨g, cap, cur, rfl, Nat.le_trans hc hg, r⟩⟩
/-- The List holds ws, the rows us. -/
structure Pl (w wr : World) (L : Nat) (ws us : List (It × Nat)) (v8 v9 : Value) : Prop where
  ex : ∃ B, Held wr L B ws ∧ (∀ b, B b → w.heap.size ≤ b) ∧ (∀ k, v8.ownBlock = some k ∨ v9.ownBlock = some k → ¬ B k)
  o8 : OwnI wr w.heap.size v8 (fsts us)
  o9 : OwnZ wr w.heap.size v9 (snds us)
  ne : ∀ k, v8.ownBlock = some k → v9.ownBlock ≠ some k
  wf : ∀ p ∈ us, p.1.wf ∧ 1 ≤ p.2 ∧ p.2 ≤ 6
  bel : Below w.heap.size w wr
theorem Pl.keep {w wr w' : World} {L : Nat} {ws us : List (It × Nat)} {v8 v9 : Value} (h : Pl w wr L ws us v8 v9) (hb : Below wr.heap.size wr w') : Pl w w' L ws us v8 v9 := by
  obtain ⟨B, h1, h2, h3⟩ := h.ex
  exact ⟨⟨B, h1.keep hb, h2, h3⟩, owns_below h.o8 hb, owns_below h.o9 hb, h.ne, h.wf, bmore h.bel hb⟩
theorem Pl.drew {w wr : World} {L : Nat} {ws us : List (It × Nat)} {v8 v9 : Value} (h : Pl w wr L ws us v8 v9) : Pl w wr.drew L ws us v8 v9 := h.keep (Below.refl _ _).drew
theorem Pl.is {w wr : World} {L : Nat} {ws us : List (It × Nat)} {v8 v9 : Value} (h : Pl w wr L ws us v8 v9) : ∃ ao cap, v8 = .slice ao us.length cap ∧ cap ≤ 9223372036854775807 ∧ Is wr ao us.length cap (fsts us) ∧ ∀ a, ao = some a → w.heap.size ≤ a.block := by
  have := ownI_is h.o8 (fun x hx => by
    obtain ⟨p, hp, rfl⟩ := List.mem_map.1 hx
    exact (h.wf p hp).1)
  rwa [show (fsts us).length = us.length from by simp [fsts]] at this
theorem Pl.form {w wr : World} {L : Nat} {ws us : List (It × Nat)} {v8 v9 : Value} (h : Pl w wr L ws us v8 v9) : ∃ ao cap, v8 = .slice ao us.length cap ∧ cap ≤ 9223372036854775807 ∧ us.length ≤ cap ∧ Is wr ao us.length cap (fsts us) ∧ ((ao = none ∧ us.length = 0 ∧ cap = 0) ∨ ∃ g, ao = some ⟨g, 0, none⟩) := by
  obtain ⟨ao, cap, e, h1, h2, h3⟩ := h.is
  refine ⟨ao, cap, e, h1, h2.2.1.1, h2, ?_⟩
  obtain ⟨hl, ⟨e', hn⟩ | ⟨g, cap', cur, e', r⟩⟩ := h.o8
  · rw [e] at e'
    injection e' with q1 q2 q3
    exact .inl ⟨q1, q2, q3⟩
  · rw [e] at e'
    injection e' with q1 q2 q3
    exact .inr ⟨g, q1⟩
theorem Pl.form9 {w wr : World} {L : Nat} {ws us : List (It × Nat)} {v8 v9 : Value} (h : Pl w wr L ws us v8 v9) : ∃ ao cap, v9 = .slice ao us.length cap ∧ cap ≤ 9223372036854775807 ∧ us.length ≤ cap ∧ ((ao = none ∧ us.length = 0 ∧ cap = 0) ∨ ∃ g, ao = some ⟨g, 0, none⟩ ∧ ∀ i, i < us.length → wr.cell? ⟨g, i, none⟩ = some (.int .i64 ((snds us).getD i 0))) := by
  have ho := h.o9
  have hlen : (snds us).length = us.length := by simp [snds]
  unfold OwnZ at ho
  rw [hlen] at ho
  have h0 := ho
  obtain ⟨hl, ⟨e', hn⟩ | ⟨g, cap', cur, e', q1, q2, q3, q4, q5, q6⟩⟩ := ho
  · refine ⟨none, 0, by rw [e', hn], by omega, by omega, .inl ⟨rfl, hn, rfl⟩⟩
  · refine ⟨_, cap', e', by unfold maxLen at q4; omega, q3, .inr ⟨g, rfl, fun i hi => ?_⟩⟩
    have hc := World.ownsRow.cells h0 (g := g) (by rw [e']; rfl) i (.int .i64 ((snds us).getD i 0)) (by
      unfold nz
      rw [List.getElem?_map, List.getElem?_eq_getElem (by rw [hlen]; exact hi)]
      simp [List.getD, List.getElem?_eq_getElem (show i < (snds us).length by rw [hlen]; exact hi)])
    rwa [add_plain, Nat.zero_add] at hc
/-- Put, an item of whose variable R is kept beside it. -/
theorem pl_put (w wr w1 : World) (L : Nat) (ws us : List (It × Nat)) (v8 v9 : Value) (S K T V X n : Int) (R : Nat) (h : Pl w wr L ws us v8 v9) (hR : R = wr.heap.size) (hb : Below wr.heap.size wr w1) (hv : Vi w1 R 0 S K T V X) (hw : It.wf ⟨S, K, T, V, X⟩) (hl : ws.length < 1099511627776) :
    Calls Try.prog 8 #[.pointer (some ⟨L, 0, none⟩), .agg #[.int .i64 S, .int .i64 K, .int .u64 T, .int .u64 V, .int .i64 X], .int .i64 n] w1 fun e w' =>
      e = .returned (.tuple #[.bool (putA ⟨S, K, T, V, X⟩ n ws).1.1, .int .i64 (putA ⟨S, K, T, V, X⟩ n ws).1.2]) ∧ Pl w w' L (putA ⟨S, K, T, V, X⟩ n ws).2 us v8 v9 ∧ Vi w' R 0 S K T V X := by
  obtain ⟨B, h1, h2, h3⟩ := h.ex
  refine (put_h w1 L B ws S K T V X n (h1.keep hb) hw hl).mono ?_
  rintro e w' ⟨rfl, q1, q2⟩
  have hlt := h1.lt
  have hs1 := hb.size
  have hl8 := fun k (hk : v8.ownBlock = some k) => (World.ownsRow.lt h.o8 k hk).2
  have hl9 := fun k (hk : v9.ownBlock = some k) => (World.ownsRow.lt h.o9 k hk).2
  refine ⟨rfl, ⟨⟨_, q1, fun b hb' => ?_, fun k hk hb' => ?_⟩, owns_ch (owns_below h.o8 hb) q2 fun k hk => h3 k (.inl hk), owns_ch (owns_below h.o9 hb) q2 fun k hk => h3 k (.inr hk), h.ne, h.wf, ?_⟩, hv.ch q2 fun hb' => ?_⟩
  · rcases hb' with e | e
    · exact h2 b e
    · have := h.bel.size; omega
  · rcases hb' with e | e
    · exact h3 k hk e
    · rcases hk with e1 | e1
      · have := hl8 k e1; omega
      · have := hl9 k e1; omega
  · exact Below.ch (bmore h.bel hb) q2 (bmore h.bel hb).size h2
  · have := hlt R hb'; omega
/-- Rows made anew. -/
theorem pl_rows {w wr w3 w4 : World} {L : Nat} {ws us us' : List (It × Nat)} {v8 v9 u8 u9 : Value} (h : Pl w wr L ws us v8 v9) (b3 : Below wr.heap.size wr w3) (o3 : OwnI w3 wr.heap.size u8 (fsts us')) (b4 : Below w3.heap.size w3 w4) (o4 : OwnZ w4 w3.heap.size u9 (snds us')) (hw : ∀ p ∈ us', p.1.wf ∧ 1 ≤ p.2 ∧ p.2 ≤ 6) : Pl w w4 L ws us' u8 u9 := by
  obtain ⟨B, h1, h2, h3⟩ := h.ex
  have hlt := h1.lt
  have hs := h.bel.size
  have hs3 := b3.size
  have l8 := fun k (hk : u8.ownBlock = some k) => World.ownsRow.lt o3 k hk
  have l9 := fun k (hk : u9.ownBlock = some k) => World.ownsRow.lt o4 k hk
  refine ⟨⟨B, (h1.keep b3).keep b4, h2, fun k hk hb => ?_⟩, owns_base (owns_below o3 b4) hs, owns_base o4 (by omega), fun k hk e => ?_, hw, bmore (bmore h.bel b3) b4⟩
  · have := hlt k hb
    rcases hk with e | e
    · have := l8 k e; omega
    · have := l9 k e; omega
  · have := l8 k hk
    have := l9 k e
    omega
/-- An item stored into the row. -/
theorem cvs_set (l : List It) (k : Nat) (x : It) (hk : k < l.length) : cvs (l.set k x) = (((((cvs l).set (k * 5) (.int .i64 x.S)).set (k * 5 + 1) (.int .i64 x.K)).set (k * 5 + 2) (.int .u64 x.T)).set (k * 5 + 3) (.int .u64 x.V)).set (k * 5 + 4) (.int .i64 x.X) := by
  obtain ⟨p, y, q, rfl, hp⟩ : ∃ p y q, l = p ++ y :: q ∧ p.length = k := ⟨l.take k, l[k], l.drop (k + 1), by rw [← List.drop_eq_getElem_cons hk, List.take_append_drop], by rw [List.length_take]; omega⟩
  have e1 : (p ++ y :: q).set k x = p ++ x :: q := by rw [← hp, List.set_append_right _ _ (Nat.le_refl _)]; simp
  have e2 : ∀ z, cvs (p ++ z :: q) = cvs p ++ (cv z ++ cvs q) := fun z => by simp [cvs]
  have hP : (cvs p).length = k * 5 := by rw [cvs_len, hp]
  rw [e1, e2, e2]
  generalize cvs p = P at *
  generalize cvs q = Q at *
  simp [hP, cv]
def set5 (w : World) (g o : Nat) (x : It) : World := ((((w.setCell ⟨g, o, none⟩ (.int .i64 x.S)).setCell ⟨g, o + 1, none⟩ (.int .i64 x.K)).setCell ⟨g, o + 2, none⟩ (.int .u64 x.T)).setCell ⟨g, o + 3, none⟩ (.int .u64 x.V)).setCell ⟨g, o + 4, none⟩ (.int .i64 x.X)
theorem set5_own {w : World} {B g n cap : Nat} {l : List It} (h : OwnI w B (.slice (some ⟨g, 0, none⟩) n cap) l) (hn : l.length = n) (k : Nat) (x : It) (hk : k < l.length) : OwnI (set5 w g (k * 5) x) B (.slice (some ⟨g, 0, none⟩) n cap) (l.set k x) := by
  unfold OwnI at *
  rw [List.length_set, cvs_set l k x hk, hn]
  rw [hn] at h
  exact ((((h.stored (k * 5) _).1.stored (k * 5 + 1) _).1.stored (k * 5 + 2) _).1.stored (k * 5 + 3) _).1.stored (k * 5 + 4) _ |>.1
theorem set5_ch (w : World) (g o : Nat) (x : It) : Ch (fun b => b = g) w (set5 w g o x) :=
  Ch.trans (Ch.set w _ _ rfl) (Ch.trans (Ch.set _ _ _ rfl) (Ch.trans (Ch.set _ _ _ rfl) (Ch.trans (Ch.set _ _ _ rfl) (Ch.set _ _ _ rfl))))
theorem fsts_set (us : List (It × Nat)) (k : Nat) (x : It) (g : Nat) : fsts (us.set k (x, g)) = (fsts us).set k x := by simp [fsts, List.map_set]
theorem snds_set (us : List (It × Nat)) (k : Nat) (x y : It) (g : Nat) (h : us[k]? = some (y, g)) : snds (us.set k (x, g)) = snds us := by
  unfold snds
  rw [List.map_set]
  apply List.ext_getElem?
  intro i
  by_cases hik : k = i
  · subst hik
    have hk := (List.getElem?_eq_some_iff.1 h).1
    rw [List.getElem?_set_self (by simpa using hk), List.getElem?_map, h]; rfl
  · rw [List.getElem?_set_ne hik]
theorem pl_set {w wr : World} {L g n cap k hh : Nat} {ws us : List (It × Nat)} {v9 : Value} {x y : It} (h : Pl w wr L ws us (.slice (some ⟨g, 0, none⟩) n cap) v9) (hy : us[k]? = some (y, hh)) (hx : x.wf) : Pl w (set5 wr g (k * 5) x) L ws (us.set k (x, hh)) (.slice (some ⟨g, 0, none⟩) n cap) v9 := by
  obtain ⟨B, h1, h2, h3⟩ := h.ex
  have hk := (List.getElem?_eq_some_iff.1 hy).1
  have hc := set5_ch wr g (k * 5) x
  have hg := h3 g (.inl rfl)
  have hgb : w.heap.size ≤ g := (World.ownsRow.lt h.o8 g rfl).1
  refine ⟨⟨B, h1.ch hc fun b hb e => hg (e ▸ hb), h2, h3⟩, ?_, ?_, h.ne, fun p hp => ?_, Below.ch h.bel hc h.bel.size (fun i hi => by rw [hi]; exact hgb)⟩
  · rw [fsts_set]
    exact set5_own h.o8 (by
      obtain ⟨hl, ⟨e, _⟩ | ⟨g', cap', cur, e, _⟩⟩ := h.o8
      · cases e
      · cases e; rfl) k x (by simpa [fsts] using hk)
  · rw [snds_set us k x y hh hy]
    exact owns_ch h.o9 hc fun k' hk' e => h.ne g rfl (by rw [← e]; exact hk')
  · rcases List.mem_or_eq_of_mem_set hp with e | e
    · exact h.wf p e
    · have := h.wf _ (List.mem_of_getElem? hy)
      rw [e]; exact ⟨hx, this.2⟩
theorem putW_is (x : It) (h : Nat) : ∀ (us : List (It × Nat)), isL x (fsts us) = true → ∃ y g, us[posL x (fsts us)]? = some (y, g) ∧ y.same x = true ∧ putW x h us = if x.wins y then (true, us.set (posL x (fsts us)) (x, g)) else (false, us)
  | [], hi => by simp [isL, fsts] at hi
  | (y, g) :: r, hi => by
    have hp : posL x (fsts ((y, g) :: r)) = if y.less x then posL x (fsts r) + 1 else 0 := rfl
    have hw : putW x h ((y, g) :: r) = if y.less x then ((putW x h r).1, (y, g) :: (putW x h r).2) else if y.same x then (if x.wins y then (true, (x, g) :: r) else (false, (y, g) :: r)) else (true, (x, h) :: (y, g) :: r) := rfl
    unfold isL at hi
    rw [hp] at hi ⊢
    rw [hw]
    cases hy : y.less x with
    | true =>
      rw [hy] at hi
      simp only [if_true] at hi ⊢
      obtain ⟨y1, g1, q1, q2, q3⟩ := putW_is x h r (by unfold isL; simpa [fsts] using hi)
      refine ⟨y1, g1, by simpa using q1, q2, ?_⟩
      rw [q3]
      cases x.wins y1 with
      | true => rfl
      | false => rfl
    | false =>
      rw [hy] at hi
      simp only [Bool.false_eq_true, if_false] at hi ⊢
      have hs : y.same x = true := by simpa [fsts] using hi
      refine ⟨y, g, rfl, hs, ?_⟩
      rw [hs, if_pos rfl]
      rfl
theorem putW_not (x : It) (h : Nat) : ∀ (us : List (It × Nat)), isL x (fsts us) = false → putW x h us = (true, us.take (posL x (fsts us)) ++ (x, h) :: us.drop (posL x (fsts us)))
  | [], hi => rfl
  | (y, g) :: r, hi => by
    have hp : posL x (fsts ((y, g) :: r)) = if y.less x then posL x (fsts r) + 1 else 0 := rfl
    have hw : putW x h ((y, g) :: r) = if y.less x then ((putW x h r).1, (y, g) :: (putW x h r).2) else if y.same x then (if x.wins y then (true, (x, g) :: r) else (false, (y, g) :: r)) else (true, (x, h) :: (y, g) :: r) := rfl
    unfold isL at hi
    rw [hp] at hi ⊢
    rw [hw]
    cases hy : y.less x with
    | true =>
      rw [hy] at hi
      simp only [if_true] at hi ⊢
      rw [putW_not x h r (by unfold isL; simpa [fsts] using hi)]
      rfl
    | false =>
      rw [hy] at hi
      simp only [Bool.false_eq_true, if_false] at hi ⊢
      have hs : y.same x = false := by simpa [fsts] using hi
      rw [hs]
      simp
theorem from_at (x : It) : ∀ (us : List (It × Nat)), fromW x us = (fsts us)[posL x (fsts us)]?
  | [] => rfl
  | (y, g) :: r => by
    have hp : posL x (fsts ((y, g) :: r)) = if y.less x then posL x (fsts r) + 1 else 0 := rfl
    have ih := from_at x r
    unfold fromW at ih ⊢
    rw [hp, List.find?_cons]
    show Option.map _ (match (!(y.less x)) with | true => _ | false => _) = _
    cases hy : y.less x with
    | true => simp only [Bool.not_true, if_true]; rw [ih]; simp [fsts]
    | false => simp [fsts]
theorem get_at (x : It) (us : List (It × Nat)) : getW x us = if isL x (fsts us) then (fsts us)[posL x (fsts us)]? else none := by
  unfold getW isL
  rw [from_at]
  cases (fsts us)[posL x (fsts us)]? with
  | none => simp
  | some y =>
    have e : x.same y = y.same x := by
      rw [Bool.eq_iff_iff, same_iff, same_iff]; omega
    simp only [e]
theorem lev_want (us : List (It × Nat)) (n : Nat) (hn : 1 ≤ n ∧ n ≤ 7) (hw : ∀ p ∈ us, p.2 ≤ 6) : levW n us = fsts (us.filter fun p => decide (n ≤ p.2)) := by
  unfold levW
  by_cases h6 : n ≤ 6
  · rw [if_pos (by omega)]
    unfold fsts
    congr 1
    refine List.filter_congr fun p _ => ?_
    rw [decide_eq_decide]; omega
  · rw [if_neg (by omega), List.filter_eq_nil_iff.2]
    · rfl
    · intro p hp
      have := hw p hp
      simp; omega
theorem Is.cut {w : World} {g n cap : Nat} {l : List It} (h : Is w (some ⟨g, 0, none⟩) n cap l) (k : Nat) (hk : k ≤ n) : Is w (some ⟨g, 0, none⟩) k cap (l.take k) := by
  refine ⟨by rw [List.length_take, h.1]; omega, ⟨by have := h.2.1.1; omega, fun e => by cases e⟩, fun x hx => h.2.2.1 x (List.mem_of_mem_take hx), fun h0 => ?_⟩
  obtain ⟨b, off, e, hc⟩ := h.2.2.2 (by omega)
  refine ⟨b, off, e, fun i x hi => hc i x ?_⟩
  have hik : i < k := by
    have := (List.getElem?_eq_some_iff.1 hi).1
    rw [List.length_take] at this
    omega
  rwa [List.getElem?_take_of_lt hik] at hi
theorem Is.past {w : World} {g n cap : Nat} {l : List It} (h : Is w (some ⟨g, 0, none⟩) n cap l) (k : Nat) (hk : k ≤ n) : Is w (some ⟨g, k * 5, none⟩) (n - k) (cap - k) (l.drop k) := by
  refine ⟨by rw [List.length_drop, h.1], ⟨by have := h.2.1.1; omega, fun e => by cases e⟩, fun x hx => h.2.2.1 x (List.mem_of_mem_drop hx), fun h0 => ?_⟩
  obtain ⟨b, off, e, hc⟩ := h.2.2.2 (by omega)
  cases e
  refine ⟨g, k * 5, rfl, fun i x hi => ?_⟩
  rw [List.getElem?_drop] at hi
  have := hc (k + i) x hi
  rwa [show 0 + (k + i) * 5 = k * 5 + i * 5 from by omega] at this
theorem is_zero (w : World) (ao : Option Addr) (cap : Nat) (hn : ao = none → cap = 0) : Is w ao 0 cap [] := ⟨rfl, ⟨by omega, fun h => ⟨rfl, hn h⟩⟩, by simp, fun h => by omega⟩
/-- What a slice of ints leads to. -/
def Zr (w : World) (ao : Option Addr) (len cap : Nat) (m : List Int) : Prop := m.length = len ∧ (ao = none → len = 0 ∧ cap = 0) ∧ (∀ b off, ao = some ⟨b, off, none⟩ → ∀ i, i < len → w.cell? ⟨b, off + i, none⟩ = some (.int .i64 (m.getD i 0))) ∧ ∀ ad, ao = some ad → ad.spot = none
theorem Zr.below {w w' : World} {ao : Option Addr} {len cap : Nat} {m : List Int} (h : Zr w ao len cap m) (hb : Below w.heap.size w w') : Zr w' ao len cap m :=
  ⟨h.1, h.2.1, fun b off e i hi => (hb.cell (p := ⟨b, off + i, none⟩) (World.block_lt_of_cell? w _ (h.2.2.1 b off e i hi))).trans (h.2.2.1 b off e i hi), h.2.2.2⟩
theorem zr_zero (w : World) (ao : Option Addr) (cap : Nat) (hn : ao = none → cap = 0) (hs : ∀ ad, ao = some ad → ad.spot = none) : Zr w ao 0 cap [] := ⟨rfl, fun h => ⟨rfl, hn h⟩, fun b off e i hi => by omega, hs⟩
theorem zr_block {w : World} {p : Nat} {z : Int} (h : w.heap[p]? = some (.cells #[.int .i64 z] 3)) : Zr w (some ⟨p, 0, none⟩) 1 1 [z] := by
  refine ⟨rfl, fun e => (by cases e), fun b off e i hi => ?_, fun ad e => (by cases e; rfl)⟩
  cases e
  obtain rfl : i = 0 := by omega
  simp [World.cell?, h]
theorem zr_cut {w : World} {g n : Nat} {m : List Int} (hm : m.length = n) (h : ∀ i, i < n → w.cell? ⟨g, i, none⟩ = some (.int .i64 (m.getD i 0))) (k cap : Nat) (hk : k ≤ n) : Zr w (some ⟨g, 0, none⟩) k cap (m.take k) := by
  refine ⟨by rw [List.length_take]; omega, fun e => (by cases e), fun b off e i hi => ?_, fun ad e => (by cases e; rfl)⟩
  cases e
  rw [Nat.zero_add, h i (by omega)]
  simp [List.getD, List.getElem?_take_of_lt hi]
theorem zr_past {w : World} {g n : Nat} {m : List Int} (hm : m.length = n) (h : ∀ i, i < n → w.cell? ⟨g, i, none⟩ = some (.int .i64 (m.getD i 0))) (k cap : Nat) (hk : k ≤ n) : Zr w (some ⟨g, k, none⟩) (n - k) cap (m.drop k) := by
  refine ⟨by rw [List.length_drop, hm], fun e => (by cases e), fun b off e i hi => ?_, fun ad e => (by cases e; rfl)⟩
  cases e
  rw [h (k + i) (by omega)]
  simp [List.getD]
/-- An append of ints to a row of the call's own, at a step. -/
theorem step_append_ints {w : World} {ops : Array Oper} {o : Oper} {a : Act} {K : Act → World → Prop} {Q : Exit → Act → World → Prop} {E : Prop} (hgd : o.guard = none) (s x : Operand)
    (ho : o.op = .call { callee := .builtin .append, args := #[s, x], argTypes := #[23, 23] })
    (base : Nat) (v : Value) (l : List Int) (hs : a.eval s = v) (hown : OwnZ w base v l) (ao : Option Addr) (len cap : Nat) (m : List Int) (hx : a.eval x = .slice ao len cap) (hb : Zr w ao len cap m)
    (hlen : l.length + len ≤ 1099511627776) (hbase : base ≤ w.heap.size)
    (h : ∀ v' w', OwnZ w' base v' (l ++ m) → w.grownBy w' v.ownBlock → (∀ k, v.ownBlock = some k → base ≤ k) → K (a.put o.dst v') w') :
    if Region.wanted o (yielded ops a.tmps) = true then Oper.wp Try.prog o a w K Q else E := by
  have hw : Region.wanted o (yielded ops a.tmps) = true := by simp [Region.wanted, hgd]
  rw [if_pos hw]
  have hbk : ∀ k, v.ownBlock = some k → base ≤ k := fun k hk => (World.ownsRow.lt hown k hk).1
  obtain ⟨i0, hi, hz0, hz1, hz2⟩ := info_parts infoZ
  cases ao with
  | none =>
    obtain ⟨rfl, rfl⟩ := hb.2.1 rfl
    have hy : m = [] := List.eq_nil_of_length_eq_zero hb.1
    subst hy
    have hr := run_append_owned_none (P := Try.prog) (w := w) base 23 o.type 3 i0 1 Try.underlying23 hi v l.length (nz l) hown
    unfold Oper.wp
    simp [execOp, ho, resolve, invoke, builtin, hs, hx, hr, Result.andThen]
    exact h v w (by rwa [List.append_nil]) (gb_below (Below.refl _ _) _) hbk
  | some ad =>
    obtain ⟨b, off, sp⟩ := ad
    have e : sp = none := hb.2.2.2 _ rfl
    subst e
    refine wp_append_own _ s x 23 ho base 3 i0 _ 1 8 Try.underlying23 hi hz0 hz1 hz2 rfl (by decide) v l.length (nz l) hs hown ⟨b, off, none⟩ len cap (nz m) hx (by simp [nz, hb.1]) ?_ ?_
      (by unfold maxLen; omega) (by omega) hbase ?_
    · intro j u hu
      have hj : j < len := by
        have := (List.getElem?_eq_some_iff.1 hu).1
        simp [nz, hb.1] at this
        exact this
      rw [add_plain, hb.2.2.1 b off rfl j hj]
      unfold nz at hu
      rw [List.getElem?_map, List.getElem?_eq_getElem (by rw [hb.1]; exact hj)] at hu
      simp only [Option.map_some] at hu
      rw [← hu]
      simp [List.getD, List.getElem?_eq_getElem (show j < m.length by rw [hb.1]; exact hj)]
    · intro u hu
      obtain ⟨z, _, rfl⟩ := List.mem_map.1 hu
      rfl
    intro v' w' h1 h2 _
    refine h v' w' ?_ h2 hbk
    unfold OwnZ
    rw [List.length_append, hb.1, show nz (l ++ m) = nz l ++ nz m from by simp [nz]]
    exact h1
theorem ownZ_empty {w : World} {B g : Nat} (h : w.heap[g]? = some (.cells #[] 3)) (hg : B ≤ g) : OwnZ w B (.slice (some ⟨g, 0, none⟩) 0 0) [] :=
  ⟨rfl, .inr ⟨g, 0, #[], rfl, hg, h, Nat.le_refl _, by unfold maxLen; omega, rfl, rfl⟩⟩
theorem ownZ_keep {w w' : World} {B : Nat} {v : Value} {l : List Int} (h : OwnZ w B v l) (hb : Below w.heap.size w w') : OwnZ w' B v l := owns_below h hb
theorem lev_zero (us : List (It × Nat)) : levW 0 us = [] := by unfold levW; rw [if_neg (by omega)]
theorem snds_ins (us : List (It × Nat)) (k : Nat) (x : It) (h : Nat) : snds (us.take k ++ (x, h) :: us.drop k) = (snds us).take k ++ [(h : Int)] ++ (snds us).drop k := by simp [snds, List.map_take, List.map_drop]
theorem fsts_ins (us : List (It × Nat)) (k : Nat) (x : It) (h : Nat) : fsts (us.take k ++ (x, h) :: us.drop k) = (fsts us).take k ++ [x] ++ (fsts us).drop k := by simp [fsts, List.map_take, List.map_drop]

end Go.Proofs.Ytakpapgjdpnedaa.Clep
