/- Names in order, and the map of a Disk's names: the same, as numbers and texts. No conditions. -/
import Derived.Test.YtfogfpanfhmijaaGreatYq
import Derived.Test.YtfogfpanfhmijaaGreatYt
import Derived.Test.YtfogfpanfhmijaaGreatYj
import Derived.Test.YtfogfpanfhmijaaGreatYl
import Derived.Test.YtfogfpanfhmijaaGreatYr
import Derived.Test.YtfogfpanfhmijaaGreatYs
import Derived.Test.YtfogfpanfhmijaaGreatYn
namespace Go.Proofs.YtfogfpanfhmijaaGreat.Clep
open Go.RowKit Go.Maps
set_option linter.unusedVariables false

theorem less_irrefl : ∀ a : List UInt8, Op.bytesLess a a = false
  | [] => rfl
  | x :: a => by simp [Op.bytesLess, less_irrefl a]
theorem less_asymm : ∀ a b : List UInt8, Op.bytesLess a b = true → Op.bytesLess b a = false
  | _, [], h => by simp [Op.bytesLess] at h
  | [], _ :: _, _ => rfl
  | x :: a, y :: b, h => by
    simp only [Op.bytesLess, Bool.or_eq_true, decide_eq_true_eq, Bool.and_eq_true, beq_iff_eq] at h
    simp only [Op.bytesLess, Bool.or_eq_false_iff, decide_eq_false_iff_not, Bool.and_eq_false_iff, beq_eq_false_iff_ne]
    rcases h with h | ⟨rfl, h⟩
    · exact ⟨fun e => absurd (UInt8.lt_trans h e) (UInt8.lt_irrefl _), .inl (fun e => by subst e; exact UInt8.lt_irrefl _ h)⟩
    · exact ⟨UInt8.lt_irrefl _, .inr (less_asymm a b h)⟩
theorem less_trans : ∀ a b c : List UInt8, Op.bytesLess a b = true → Op.bytesLess b c = true → Op.bytesLess a c = true
  | _, [], _, h, _ => by simp [Op.bytesLess] at h
  | _, _ :: _, [], _, h => by simp [Op.bytesLess] at h
  | [], _ :: _, _ :: _, _, _ => rfl
  | x :: a, y :: b, z :: c, h, k => by
    simp only [Op.bytesLess, Bool.or_eq_true, decide_eq_true_eq, Bool.and_eq_true, beq_iff_eq] at h k ⊢
    rcases h with h | ⟨rfl, h⟩
    · rcases k with k | ⟨rfl, k⟩
      · exact .inl (UInt8.lt_trans h k)
      · exact .inl h
    · rcases k with k | ⟨rfl, k⟩
      · exact .inl k
      · exact .inr ⟨rfl, less_trans a b c h k⟩
theorem less_total : ∀ a b : List UInt8, a ≠ b → Op.bytesLess a b = false → Op.bytesLess b a = true
  | [], [], h, _ => absurd rfl h
  | x :: a, [], _, _ => rfl
  | [], _ :: _, _, h => by simp [Op.bytesLess] at h
  | x :: a, y :: b, h, k => by
    simp only [Op.bytesLess, Bool.or_eq_false_iff, decide_eq_false_iff_not, Bool.and_eq_false_iff, beq_eq_false_iff_ne] at k
    simp only [Op.bytesLess, Bool.or_eq_true, decide_eq_true_eq, Bool.and_eq_true, beq_iff_eq]
    obtain ⟨k1, k2⟩ := k
    by_cases e : x = y
    · subst e
      right
      refine ⟨rfl, less_total a b (fun e => h (by rw [e])) ?_⟩
      rcases k2 with k2 | k2
      · exact absurd rfl k2
      · exact k2
    · left
      rcases UInt8.lt_or_lt_of_ne e with h1 | h1
      · exact absurd h1 k1
      · exact h1
theorem before_less : ∀ a b : List UInt8, bytesBefore a b = Op.bytesLess a b
  | [], [] => rfl
  | _ :: _, [] => rfl
  | [], _ :: _ => rfl
  | x :: a, y :: b => by
    simp only [bytesBefore, Op.bytesLess, before_less a b]
def ent (x : ByteArray × Int) : Lit × DataW Unit := (key x.1, i64L (x.2 + 1))
/-- The map of names whose files are numbered from 1. -/
def mp (L : List (ByteArray × Int)) : DataW Unit := .map (L.map ent)
def Srt (L : List (ByteArray × Int)) : Prop := L.Pairwise fun x y => ltS x.1 y.1 = true
theorem toL (a : ByteArray) : a.toList = a.data.toList := ByteArray.toList_eq a
theorem key_before (a b : ByteArray) : (key a).before (key b) = ltS a b := by
  show bytesBefore a.data.toList b.data.toList = Op.bytesLess a.toList b.toList
  rw [before_less, toL, toL]
theorem key_same (a b : ByteArray) : (key a).sameKey (key b) = decide (a = b) := by
  show (a.data.toList == b.data.toList) = _
  by_cases h : a = b
  · subst h; simp
  · rw [decide_eq_false h, beq_eq_false_iff_ne]
    intro e
    apply h
    cases a; cases b
    congr 1
    exact Array.toList_inj.1 e
theorem lt_ne {a b : ByteArray} (h : ltS a b = true) : a ≠ b := by
  intro e
  subst e
  unfold ltS at h
  rw [less_irrefl] at h
  cases h
theorem lt_asymm' {a b : ByteArray} (h : ltS a b = true) : ltS b a = false := less_asymm _ _ h
theorem lt_total {a b : ByteArray} (h : a ≠ b) (k : ltS a b = false) : ltS b a = true := by
  refine less_total _ _ (fun e => h ?_) k
  rw [toL, toL] at e
  cases a; cases b
  congr 1
  exact Array.toList_inj.1 e
theorem filter_keep {r : List (ByteArray × Int)} {s : ByteArray} (h : ∀ y ∈ r, y.1 ≠ s) : (r.map ent).filter (fun p => !p.1.sameKey (key s)) = r.map ent := by
  rw [List.filter_eq_self]
  intro p hp
  obtain ⟨y, hy, rfl⟩ := List.mem_map.1 hp
  show (!(key y.1).sameKey (key s)) = true
  rw [key_same, decide_eq_false (h y hy)]
  rfl
theorem withF_cons_lt {x : ByteArray × Int} {r : List (ByteArray × Int)} {s : ByteArray} {f : Int} (h : ltS x.1 s = true) : withF (x :: r) s f = x :: withF r s f := by
  unfold withF
  have e : kF (x :: r) s = kF r s + 1 := by show (if ltS x.1 s then _ else _) = _; rw [if_pos h]
  rw [e]
  rfl
theorem withF_cons_ge {x : ByteArray × Int} {r : List (ByteArray × Int)} {s : ByteArray} {f : Int} (h : ltS x.1 s = false) : withF (x :: r) s f = (s, f) :: (if x.1 = s then r else x :: r) := by
  unfold withF
  have e : kF (x :: r) s = 0 := by show (if ltS x.1 s then _ else _) = _; rw [if_neg (by rw [h]; simp)]
  rw [e]
  rfl
theorem put_mp (s : ByteArray) (f : Int) : ∀ (L : List (ByteArray × Int)), Srt L → DataW.insert (key s, i64L (f + 1)) ((L.map ent).filter fun p => !p.1.sameKey (key s)) = (withF L s f).map ent
  | [], _ => rfl
  | x :: r, h => by
    obtain ⟨h1, h2⟩ := List.pairwise_cons.1 h
    cases hx : ltS x.1 s with
    | true =>
      rw [withF_cons_lt hx, List.map_cons, List.filter_cons]
      have : (!(ent x).1.sameKey (key s)) = true := by show (!(key x.1).sameKey (key s)) = true; rw [key_same, decide_eq_false (lt_ne hx)]; rfl
      rw [if_pos this, List.map_cons]
      show (if (key s).before (key x.1) then _ else _) = _
      rw [key_before, lt_asymm' hx, if_neg (by simp), put_mp s f r h2]
    | false =>
      rw [withF_cons_ge hx]
      by_cases he : x.1 = s
      · rw [if_pos he, List.map_cons, List.filter_cons]
        have : ¬ ((!(ent x).1.sameKey (key s)) = true) := by show ¬ ((!(key x.1).sameKey (key s)) = true); rw [key_same, decide_eq_true he]; simp
        rw [if_neg this, filter_keep (fun y hy => by rw [← he]; exact fun e => lt_ne (h1 y hy) e.symm)]
        cases r with
        | nil => rfl
        | cons y r' =>
          show (if (key s).before (key y.1) then _ else _) = _
          rw [key_before, ← he, h1 y (by simp), if_pos rfl]
          subst he
          rfl
      · have hsx := lt_total he hx
        rw [if_neg he, List.map_cons, List.filter_cons]
        have : (!(ent x).1.sameKey (key s)) = true := by show (!(key x.1).sameKey (key s)) = true; rw [key_same, decide_eq_false he]; rfl
        rw [if_pos this, filter_keep (fun y hy => fun e => lt_ne (less_trans _ _ _ hsx (h1 y hy)) e.symm)]
        show (if (key s).before (key x.1) then _ else _) = _
        rw [key_before, hsx, if_pos rfl]
        rfl
theorem mp_with {L : List (ByteArray × Int)} (h : Srt L) (s : ByteArray) (f : Int) : (mp L).put (key s) (i64L (f + 1)) = mp (withF L s f) := by
  show DataW.map _ = DataW.map _
  rw [put_mp s f L h]
theorem srt_with {s : ByteArray} {f : Int} : ∀ {L : List (ByteArray × Int)}, Srt L → Srt (withF L s f)
  | [], _ => by unfold withF; simp [Srt, kF, pastF]
  | x :: r, h => by
    obtain ⟨h1, h2⟩ := List.pairwise_cons.1 h
    cases hx : ltS x.1 s with
    | true =>
      rw [withF_cons_lt hx]
      refine List.pairwise_cons.2 ⟨fun y hy => ?_, srt_with h2⟩
      rcases withF_mem hy with rfl | hy
      · exact hx
      · exact h1 y hy
    | false =>
      rw [withF_cons_ge hx]
      by_cases he : x.1 = s
      · rw [if_pos he]
        exact List.pairwise_cons.2 ⟨fun y hy => by rw [← he]; exact h1 y hy, h2⟩
      · have hsx := lt_total he hx
        rw [if_neg he]
        refine List.pairwise_cons.2 ⟨fun y hy => ?_, h⟩
        rcases List.mem_cons.1 hy with rfl | hy
        · exact hsx
        · exact less_trans _ _ _ hsx (h1 y hy)
theorem atF_shift (s : ByteArray) : ∀ (l : List (ByteArray × Int)) (n : Nat), atF l s (n + 1) = if atF l s n < 0 then -1 else atF l s n + 1
  | [], n => rfl
  | x :: r, n => by
    unfold atF
    by_cases h : x.1 = s
    · rw [if_pos h, if_pos h, if_neg (by omega)]
      rfl
    · rw [if_neg h, if_neg h, atF_shift s r (n + 1)]
theorem woF_cons (x : ByteArray × Int) (r : List (ByteArray × Int)) (s : ByteArray) : woF (x :: r) s = if x.1 = s then r else x :: woF r s := by
  by_cases h : x.1 = s
  · rw [if_pos h]
    unfold woF
    have e : atF (x :: r) s 0 = 0 := by show (if x.1 = s then _ else _) = _; rw [if_pos h]; rfl
    rw [e]
    simp
  · rw [if_neg h]
    have e : atF (x :: r) s 0 = atF r s 1 := by show (if x.1 = s then _ else _) = _; rw [if_neg h]
    unfold woF
    rw [e, atF_shift s r 0]
    rcases atF_cases s r 0 with hA | ⟨k, hk, hA⟩
    · rw [hA]
      simp
    · rw [hA, Nat.zero_add]
      have e2 : ((k : Int) + 1).toNat = k + 1 := by omega
      rw [if_neg (show ¬ ((k : Int) < 0) by omega), if_neg (show ¬ ((k : Int) + 1 < 0) by omega), if_neg (show ¬ ((k : Int) < 0) by omega), e2, Int.toNat_natCast]
      rfl
theorem mp_wo : ∀ {L : List (ByteArray × Int)}, Srt L → ∀ (s : ByteArray), (mp L).del (key s) = mp (woF L s)
  | [], _, s => rfl
  | x :: r, h, s => by
    obtain ⟨h1, h2⟩ := List.pairwise_cons.1 h
    have ih := mp_wo h2 s
    have ih' : (r.map ent).filter (fun p => !p.1.sameKey (key s)) = (woF r s).map ent := by
      have := ih
      simp only [mp, DataW.del] at this
      exact DataW.map.inj this
    show DataW.map _ = DataW.map _
    congr 1
    rw [woF_cons, List.map_cons, List.filter_cons]
    by_cases he : x.1 = s
    · have : ¬ ((!(ent x).1.sameKey (key s)) = true) := by show ¬ ((!(key x.1).sameKey (key s)) = true); rw [key_same, decide_eq_true he]; simp
      rw [if_neg this, if_pos he, filter_keep (fun y hy => by rw [← he]; exact fun e => lt_ne (h1 y hy) e.symm)]
    · have : (!(ent x).1.sameKey (key s)) = true := by show (!(key x.1).sameKey (key s)) = true; rw [key_same, decide_eq_false he]; rfl
      rw [if_pos this, if_neg he, ih']
      rfl
theorem srt_wo : ∀ {L : List (ByteArray × Int)}, Srt L → ∀ (s : ByteArray), Srt (woF L s)
  | [], h, s => h
  | x :: r, h, s => by
    obtain ⟨h1, h2⟩ := List.pairwise_cons.1 h
    rw [woF_cons]
    split
    · exact h2
    · exact List.pairwise_cons.2 ⟨fun y hy => h1 y (woF_mem hy), srt_wo h2 s⟩
/-- Looking a name up, in the map and in the row. -/
theorem look_mp (s : ByteArray) : ∀ (L : List (ByteArray × Int)), (atF L s 0 = -1 → Maps.has (mp L) (key s) = false ∧ lk (mp L) s = 0) ∧ ∀ k (hk : k < L.length), atF L s 0 = (k : Int) → Maps.has (mp L) (key s) = true ∧ lk (mp L) s = (L[k]'hk).2 + 1
  | [] => ⟨fun _ => ⟨rfl, rfl⟩, fun k hk => by simp at hk⟩
  | x :: r => by
    obtain ⟨i1, i2⟩ := look_mp s r
    by_cases h : x.1 = s
    · have e : atF (x :: r) s 0 = 0 := by show (if x.1 = s then _ else _) = _; rw [if_pos h]; rfl
      have hs : (ent x).1.sameKey (key s) = true := by show (key x.1).sameKey (key s) = true; rw [key_same, decide_eq_true h]
      refine ⟨fun hA => absurd (e.symm.trans hA) (by decide), fun k hk hA => ?_⟩
      obtain rfl : k = 0 := by rw [e] at hA; omega
      refine ⟨?_, ?_⟩
      · unfold mp
        rw [List.map_cons, Maps.has_eq, List.any_cons, hs]
        rfl
      · unfold lk mp
        rw [List.map_cons]
        simp only [DataW.atKey]
        rw [List.find?_cons, hs]
        rfl
    · have e : atF (x :: r) s 0 = atF r s 1 := by show (if x.1 = s then _ else _) = _; rw [if_neg h]
      have hs : (ent x).1.sameKey (key s) = false := by show (key x.1).sameKey (key s) = false; rw [key_same, decide_eq_false h]
      have ha : Maps.has (mp (x :: r)) (key s) = Maps.has (mp r) (key s) := by
        unfold mp
        rw [List.map_cons, Maps.has_eq, Maps.has_eq, List.any_cons, hs]
        rfl
      have hl : lk (mp (x :: r)) s = lk (mp r) s := by
        unfold lk mp
        rw [List.map_cons]
        simp only [DataW.atKey]
        rw [List.find?_cons, hs]
      rw [ha, hl, e, atF_shift s r 0]
      rcases atF_cases s r 0 with hA | ⟨k', hk', hA⟩
      · rw [hA]
        refine ⟨fun _ => i1 hA, fun k hk hB => by simp at hB⟩
      · rw [Nat.zero_add] at hA
        rw [hA, if_neg (by omega)]
        refine ⟨fun hB => by omega, fun k hk hB => ?_⟩
        obtain rfl : k = k' + 1 := by omega
        obtain ⟨j1, j2⟩ := i2 k' hk' hA
        exact ⟨j1, by rw [j2]; rfl⟩

end Go.Proofs.YtfogfpanfhmijaaGreat.Clep

/- How a Disk and the document's own Disk stand to each other. No conditions. -/
namespace Go.Proofs.YtfogfpanfhmijaaGreat.Clep
open Go.RowKit Go.Maps
set_option linter.unusedVariables false

def bsOf (d : ByteArray) : List Int := d.data.toList.map fun b => (b.toNat : Int)
theorem bsOf_len (d : ByteArray) : (bsOf d).length = d.size := by
  unfold bsOf
  rw [List.length_map, Array.length_toList]
  rfl
theorem bsOf_app (d t : ByteArray) : bsOf (d ++ t) = bsOf d ++ bsOf t := by
  unfold bsOf
  rw [ByteArray.data_append, Array.toList_append, List.map_append]
theorem bsOf_cut (d : ByteArray) (m : Nat) : bsOf (cutB d m) = (bsOf d).take m := by
  unfold bsOf cutB
  rw [ByteArray.data_extract]
  simp
theorem bsOf_str (d : ByteArray) : strOfNums (bsOf d) = d := by
  cases d with
  | mk a =>
    have e : (List.map ((fun n : Int => UInt8.ofNat n.toNat) ∘ fun b : UInt8 => (b.toNat : Int)) a.toList) = a.toList := by
      conv => rhs; rw [← List.map_id a.toList]
      apply List.map_congr_left
      intro b _
      show UInt8.ofNat ((b.toNat : Int)).toNat = b
      rw [Int.toNat_natCast, UInt8.ofNat_toNat]
    simp only [strOfNums, bsOf, List.map_map]
    rw [e]
/-- The files that something leads to, numbered from 1. -/
def flFrom (p : Int → Bool) : List (ByteArray × Nat) → Nat → List Fl
  | [], _ => []
  | x :: r, i => if p (i : Int) then ⟨i + 1, bsOf x.1, x.2⟩ :: flFrom p r (i + 1) else flFrom p r (i + 1)
theorem flFrom_mem {p : Int → Bool} : ∀ {fs : List (ByteArray × Nat)} {i : Nat} {f : Fl}, f ∈ flFrom p fs i → i + 1 ≤ f.num
  | [], i, f, h => by simp [flFrom] at h
  | x :: r, i, f, h => by
    unfold flFrom at h
    split at h
    · rcases List.mem_cons.1 h with rfl | h
      · exact Nat.le_refl _
      · exact Nat.le_of_succ_le (flFrom_mem h)
    · exact Nat.le_of_succ_le (flFrom_mem h)
theorem fileAt_no {fs : List Fl} {n : Int} (h : ∀ f ∈ fs, (f.num : Int) ≠ n) : fileAt fs n = none := by
  unfold fileAt
  rw [List.find?_eq_none]
  intro f hf
  simp
  exact h f hf
theorem fileAt_zero (p : Int → Bool) (fs : List (ByteArray × Nat)) : fileAt (flFrom p fs 0) 0 = none := fileAt_no fun f hf => by have := flFrom_mem hf; omega
theorem fileAt_from {p : Int → Bool} : ∀ {fs : List (ByteArray × Nat)} {i j : Nat} {x : ByteArray × Nat}, fs[j]? = some x → p ((i + j : Nat) : Int) = true → fileAt (flFrom p fs i) ((i + j : Nat) + 1 : Int) = some ⟨i + j + 1, bsOf x.1, x.2⟩
  | [], i, j, x, h, _ => by simp at h
  | y :: r, i, 0, x, h, hp => by
    simp only [List.getElem?_cons_zero, Option.some.injEq] at h
    subst h
    unfold flFrom
    rw [if_pos (by simpa using hp)]
    unfold fileAt
    rw [List.find?_cons]
    simp
  | y :: r, i, j + 1, x, h, hp => by
    have h' : r[j]? = some x := by simpa using h
    have e : i + (j + 1) = i + 1 + j := by omega
    rw [e] at hp ⊢
    have ih := fileAt_from (i := i + 1) h' hp
    unfold flFrom
    split
    · unfold fileAt at ih ⊢
      rw [List.find?_cons]
      have : (((⟨i + 1, bsOf y.1, y.2⟩ : Fl).num : Int) == ((i + 1 + j : Nat) : Int) + 1) = false := by simp; omega
      rw [this]
      exact ih
    · exact ih
theorem flFrom_snoc (p : Int → Bool) (x : ByteArray × Nat) : ∀ (fs : List (ByteArray × Nat)) (i : Nat), flFrom p (fs ++ [x]) i = flFrom p fs i ++ (if p ((i + fs.length : Nat) : Int) then [⟨i + fs.length + 1, bsOf x.1, x.2⟩] else [])
  | [], i => by
    show (if p (i : Int) then _ else _) = _
    split <;> simp_all [flFrom]
  | y :: r, i => by
    rw [List.cons_append]
    have e : i + (y :: r).length = i + 1 + r.length := by simp; omega
    rw [e]
    unfold flFrom
    rw [flFrom_snoc p x r (i + 1)]
    split <;> rfl
theorem flFrom_congr {p p' : Int → Bool} : ∀ {fs : List (ByteArray × Nat)} {i : Nat}, (∀ j, i ≤ j → j < i + fs.length → p (j : Int) = p' (j : Int)) → flFrom p fs i = flFrom p' fs i
  | [], i, _ => rfl
  | y :: r, i, h => by
    unfold flFrom
    rw [h i (Nat.le_refl _) (by simp), flFrom_congr (fs := r) (i := i + 1) (fun j h1 h2 => h j (by omega) (by simp; omega))]
theorem flFrom_filter {p p' : Int → Bool} {q : Fl → Bool} : ∀ {fs : List (ByteArray × Nat)} {i : Nat}, (∀ j, i ≤ j → j < i + fs.length → (p' (j : Int) = true → p (j : Int) = true) ∧ ∀ (b : List Int) (l : Nat), p (j : Int) = true → q ⟨j + 1, b, l⟩ = p' (j : Int)) → (flFrom p fs i).filter q = flFrom p' fs i
  | [], i, _ => rfl
  | y :: r, i, h => by
    have ih := flFrom_filter (fs := r) (i := i + 1) (q := q) (p := p) (p' := p') (fun j h1 h2 => h j (by omega) (by simp; omega))
    obtain ⟨h1, h2⟩ := h i (Nat.le_refl _) (by simp)
    unfold flFrom
    cases hp : p (i : Int) with
    | true =>
      rw [if_pos rfl, List.filter_cons, h2 _ _ hp, ih]
    | false =>
      have hp' : p' (i : Int) = false := by
        cases e : p' (i : Int) with
        | false => rfl
        | true => rw [h1 e] at hp; cases hp
      rw [if_neg (by simp), hp', if_neg (by simp), ih]
theorem upd_from {p : Int → Bool} {g : Fl → Fl} {x x' : ByteArray × Nat} (hg : ∀ n, g ⟨n, bsOf x.1, x.2⟩ = ⟨n, bsOf x'.1, x'.2⟩) : ∀ {fs : List (ByteArray × Nat)} {i j : Nat}, fs[j]? = some x → updF (flFrom p fs i) (i + j + 1) g = flFrom p (fs.set j x') i
  | [], i, j, h => by simp at h
  | y :: r, i, 0, h => by
    simp only [List.getElem?_cons_zero, Option.some.injEq] at h
    subst h
    rw [List.set_cons_zero]
    have hr : ∀ (l : List Fl), (∀ f ∈ l, i + 2 ≤ f.num) → updF l (i + 0 + 1) g = l := fun l hl => by
      unfold updF
      conv => rhs; rw [← List.map_id l]
      apply List.map_congr_left
      intro f hf
      rw [if_neg (by have := hl f hf; omega)]
      rfl
    have hm : ∀ f ∈ flFrom p r (i + 1), i + 2 ≤ f.num := fun f hf => flFrom_mem hf
    unfold flFrom
    split
    · show (if (i + 1) = i + 0 + 1 then _ else _) :: updF (flFrom p r (i + 1)) (i + 0 + 1) g = _
      rw [if_pos rfl, hg, hr _ hm]
    · exact hr _ hm
  | y :: r, i, j + 1, h => by
    have h' : r[j]? = some x := by simpa using h
    have ih := upd_from (p := p) hg (i := i + 1) h'
    rw [show i + 1 + j + 1 = i + (j + 1) + 1 by omega] at ih
    rw [List.set_cons_succ]
    unfold flFrom
    split
    · show (if (i + 1) = i + (j + 1) + 1 then _ else _) :: updF (flFrom p r (i + 1)) (i + (j + 1) + 1) g = _
      rw [if_neg (by omega), ih]
    · exact ih
def chOf (o : RO) : Ch := ⟨o.kind, o.a, o.b, if o.kind = 0 then o.file + 1 else 0⟩
/-- What leads to a file, but for the names of now. -/
def baseT (T : RSt) (f : Int) : Bool := (T.last.any fun x => x.2 == f) || (T.ops.any fun o => o.kind == 0 && (o.file : Int) == f)
structure Rel (S : St) (T : RSt) : Prop where
  q : S.q = T.q
  calls : S.calls = T.calls
  dead : S.dead = T.dead
  stop : (S.stop : Int) = max T.left 0
  fail : (S.fail : Int) = T.fail
  made : S.made = T.files.length
  names : S.names = mp T.now
  lasting : S.lasting = mp T.last
  since : S.since = T.ops.map chOf
  files : S.files = flFrom (leadsT T) T.files 0
  sn : Srt T.now
  sl : Srt T.last
  cov : ∀ x ∈ T.now, baseT T x.2 = true
  rne : ∀ o ∈ T.ops, o.kind = 1 → o.a ≠ o.b
  ok : ROk T
theorem Rel.leads {S : St} {T : RSt} (h : Rel S T) (f : Int) : leadsT T f = baseT T f := by
  unfold leadsT
  rw [Bool.or_assoc]
  show ((T.now.any fun x => x.2 == f) || baseT T f) = baseT T f
  cases hb : baseT T f with
  | true => simp
  | false =>
    rw [Bool.or_false, List.any_eq_false]
    intro x hx e
    have := h.cov x hx
    rw [beq_iff_eq.1 e, hb] at this
    cases this
theorem rel_new (q : Nat) (hq : q ≤ 9223372036854775807) : Rel (newS q) ⟨q, [], [], [], [], 0, -1, 0, false⟩ :=
  ⟨rfl, rfl, rfl, rfl, rfl, rfl, rfl, rfl, rfl, rfl, List.Pairwise.nil, List.Pairwise.nil, fun x hx => (by cases hx), fun x hx => (by cases hx), ⟨by show 0 ≤ 1000; omega, Nat.le_refl _, Nat.le_refl _, Nat.le_refl _, Nat.le_refl _, fun x hx => (by cases hx), fun x hx => (by cases hx), fun x hx => (by cases hx), fun x hx => (by cases hx), ⟨by show (-1 : Int) ≤ -1; omega, by show (-1 : Int) ≤ 9223372036854775807; omega⟩, ⟨by show (0 : Int) ≤ 0; omega, by show (0 : Int) ≤ 9223372036854775807; omega⟩, hq⟩⟩
theorem begin_rel {S : St} {T : RSt} (h : Rel S T) (hc : T.calls < 1000) : ((beginS S).1 : Int) = (callT T).1 ∧ Rel (beginS S).2 (callT T).2 := by
  have hf := h.fail
  have hs := h.stop
  have hd := h.dead
  have ok := callT_ok h.ok hc
  have hl := h.ok.lft
  have hfa := h.ok.fai
  unfold beginS callT callF at *
  rw [hd]
  cases hdd : T.dead with
  | true =>
    rw [hdd] at ok
    exact ⟨rfl, h.q, by show S.calls + 1 = T.calls + 1; rw [h.calls], rfl, h.stop, h.fail, h.made, h.names, h.lasting, h.since, h.files, h.sn, h.sl, h.cov, h.rne, ok⟩
  | false =>
    rw [hdd] at ok
    refine ⟨?_, h.q, by show S.calls + 1 = T.calls + 1; rw [h.calls], ?_, ?_, ?_, h.made, h.names, h.lasting, h.since, h.files, h.sn, h.sl, h.cov, h.rne, ok⟩
    · show (((if S.fail = 1 then 15 else 0 : Nat)) : Int) = if T.fail = 1 then 15 else 0
      by_cases e : S.fail = 1
      · rw [if_pos e, if_pos (by omega)]
        rfl
      · rw [if_neg e, if_neg (by omega)]
        rfl
    · show decide (S.stop = 1) = if 0 < T.left then decide (T.left = 1) else false
      by_cases e : 0 < T.left
      · rw [if_pos e]
        by_cases e1 : S.stop = 1
        · rw [decide_eq_true e1, decide_eq_true (by omega)]
        · rw [decide_eq_false e1, decide_eq_false (by omega)]
      · rw [if_neg e, decide_eq_false (by omega)]
    · show ((S.stop - 1 : Nat) : Int) = max (if 0 < T.left then T.left - 1 else T.left) 0
      split <;> omega
    · show ((S.fail - 1 : Nat) : Int) = if 0 < T.fail then T.fail - 1 else T.fail
      split <;> omega

end Go.Proofs.YtfogfpanfhmijaaGreat.Clep

/- The calls of a Disk and of the document's own Disk do the same. No conditions but the bound of a thousand calls. -/
namespace Go.Proofs.YtfogfpanfhmijaaGreat.Clep
open Go.RowKit Go.Maps
set_option linter.unusedVariables false

theorem Rel.named {S : St} {T : RSt} (h : Rel S T) {x : ByteArray × Int} (hx : x ∈ T.now) : leadsT T x.2 = true := by rw [h.leads]; exact h.cov x hx
theorem Rel.lookN {S : St} {T : RSt} (h : Rel S T) {s : ByteArray} (hA : atF T.now s 0 = -1) : nmT T s = none ∧ fileAt S.files (lk S.names s) = none := by
  refine ⟨nmT_none hA, ?_⟩
  rw [h.names, ((look_mp s T.now).1 hA).2, h.files]
  exact fileAt_zero _ _
theorem Rel.lookS {S : St} {T : RSt} (h : Rel S T) {s : ByteArray} {k : Nat} (hk : k < T.now.length) (hA : atF T.now s 0 = (k : Int)) :
    ∃ (j : Nat) (x : ByteArray × Nat), (T.now[k]'hk).2 = (j : Int) ∧ T.files[j]? = some x ∧ nmT T s = some j ∧ datT T j = x ∧ fileAt S.files (lk S.names s) = some ⟨j + 1, bsOf x.1, x.2⟩ := by
  have hm := h.ok.fnw _ (List.getElem_mem hk)
  obtain ⟨j, hj⟩ := Int.eq_ofNat_of_zero_le hm.1
  have hjl : j < T.files.length := by have := hm.2; rw [hj] at this; omega
  obtain ⟨x, hx⟩ : ∃ x, T.files[j]? = some x := ⟨_, List.getElem?_eq_getElem hjl⟩
  refine ⟨j, x, hj, hx, nmT_some hA hk hj, by unfold datT; rw [hx], ?_⟩
  rw [h.names, ((look_mp s T.now).2 k hk hA).2, hj, h.files]
  have := fileAt_from (p := leadsT T) (i := 0) hx (by rw [Nat.zero_add, ← hj]; exact h.named (List.getElem_mem hk))
  simpa using this
theorem used_rel {S : St} {T : RSt} (h : Rel S T) : usedS S = usedT T := by
  unfold usedS usedT
  rw [h.names]
  show ((T.now.map ent).map _).sum = _
  rw [List.map_map]
  congr 1
  apply List.map_congr_left
  intro x hx
  have hm := h.ok.fnw _ hx
  obtain ⟨j, hj⟩ := Int.eq_ofNat_of_zero_le hm.1
  have hjl : j < T.files.length := by have := hm.2; rw [hj] at this; omega
  obtain ⟨y, hy⟩ : ∃ y, T.files[j]? = some y := ⟨_, List.getElem?_eq_getElem hjl⟩
  have hf := fileAt_from (p := leadsT T) (i := 0) hy (by rw [Nat.zero_add, ← hj]; exact h.named hx)
  show flen S.files (x.2 + 1) = szT T.files x.2
  unfold flen szT
  rw [h.files, hj, Int.toNat_natCast, hy]
  have hf' : fileAt (flFrom (leadsT T) T.files 0) ((j : Int) + 1) = some ⟨j + 1, bsOf y.1, y.2⟩ := by simpa using hf
  rw [hf']
  exact bsOf_len _
theorem read_rel {S : St} {T : RSt} (h : Rel S T) (s : ByteArray) : ((readS S s).1 : Int) = (readT T s).2 ∧ strOfNums (readS S s).2 = (readT T s).1 := by
  have e0 : strOfNums [] = ⟨#[]⟩ := rfl
  unfold readS readT
  cases hok : okName s with
  | false => exact ⟨rfl, e0⟩
  | true =>
    rw [h.dead]
    cases T.dead with
    | true => exact ⟨rfl, e0⟩
    | false =>
      rcases atF_cases s T.now 0 with hA | ⟨k, hk, hA⟩
      · obtain ⟨n1, n2⟩ := h.lookN hA
        simp only [n1, n2]
        exact ⟨rfl, e0⟩
      · rw [Nat.zero_add] at hA
        obtain ⟨j, x, _, _, n1, n2, n3⟩ := h.lookS hk hA
        simp only [n1, n2, n3]
        exact ⟨rfl, bsOf_str _⟩
theorem sync_rel {S : St} {T : RSt} (h : Rel S T) (hc : T.calls < 1000) (s : ByteArray) : ((syncS S s).1 : Int) = (syncT T s).1 ∧ Rel (syncS S s).2 (syncT T s).2 := by
  obtain ⟨b1, b2⟩ := begin_rel h hc
  unfold syncS syncT syncB
  cases hok : okName s with
  | false => exact ⟨rfl, h⟩
  | true =>
    rw [if_neg (by simp), if_pos rfl]
    by_cases he : (beginS S).1 = 0
    · have he' : (callT T).1 = 0 := by rw [← b1, he]; rfl
      rw [if_neg (by simpa using he), if_neg (by simpa using he')]
      generalize (beginS S).2 = S1 at *
      generalize (callT T).2 = T1 at *
      rcases atF_cases s T1.now 0 with hA | ⟨k, hk, hA⟩
      · obtain ⟨n1, n2⟩ := b2.lookN hA
        simp only [n1, n2]
        exact ⟨rfl, b2⟩
      · rw [Nat.zero_add] at hA
        obtain ⟨j, x, hj, hx, n1, n2, n3⟩ := b2.lookS hk hA
        simp only [n1, n2, n3]
        have hsz := b2.ok.siz _ (List.mem_of_getElem? hx)
        refine ⟨rfl, b2.q, b2.calls, b2.dead, b2.stop, b2.fail, by simpa using b2.made, b2.names, b2.lasting, b2.since, ?_, b2.sn, b2.sl, b2.cov, b2.rne, set_ok b2.ok hx hsz.1 (Nat.le_refl _)⟩
        show updF S1.files (j + 1) lastF = _
        rw [b2.files]
        have := upd_from (p := leadsT T1) (g := lastF) (x := x) (x' := (x.1, x.1.size)) (fun n => by unfold lastF; simp [bsOf_len]) (i := 0) hx
        rw [Nat.zero_add] at this
        exact this
    · have he' : (callT T).1 ≠ 0 := by rw [← b1]; omega
      rw [if_pos (by simpa using he), if_pos (by simpa using he')]
      exact ⟨b1, b2⟩
theorem append_rel {S : St} {T : RSt} (h : Rel S T) (hc : T.calls < 1000) (s t : ByteArray) : ((appendS S s (bsOf t)).1 : Int) = (appT T s t).1 ∧ Rel (appendS S s (bsOf t)).2 (appT T s t).2 := by
  obtain ⟨b1, b2⟩ := begin_rel h hc
  unfold appendS appT appB
  cases hok : okName s with
  | false => exact ⟨rfl, h⟩
  | true =>
    rw [if_neg (by simp), if_pos rfl]
    by_cases he : (beginS S).1 = 0
    · have he' : (callT T).1 = 0 := by rw [← b1, he]; rfl
      rw [if_neg (by simpa using he), if_neg (by simpa using he')]
      generalize (beginS S).2 = S1 at *
      generalize (callT T).2 = T1 at *
      rcases atF_cases s T1.now 0 with hA | ⟨k, hk, hA⟩
      · obtain ⟨n1, n2⟩ := b2.lookN hA
        simp only [n1, n2]
        exact ⟨rfl, b2⟩
      · rw [Nat.zero_add] at hA
        obtain ⟨j, x, hj, hx, n1, n2, n3⟩ := b2.lookS hk hA
        simp only [n1, n2, n3]
        have hsz := b2.ok.siz _ (List.mem_of_getElem? hx)
        rw [bsOf_len, bsOf_len, used_rel b2, b2.q]
        by_cases hl : 250000 < x.1.size + t.size
        · rw [if_pos hl, if_pos (show 250000 - (x.1.size : Int) < (t.size : Int) by omega)]
          exact ⟨rfl, b2⟩
        · rw [if_neg hl, if_neg (show ¬ (250000 - (x.1.size : Int) < (t.size : Int)) by omega)]
          by_cases hq : T1.q < usedT T1 + t.size
          · rw [if_pos hq, if_pos (show (T1.q : Int) - (usedT T1 : Int) < (t.size : Int) by omega)]
            exact ⟨rfl, b2⟩
          · rw [if_neg hq, if_neg (show ¬ ((T1.q : Int) - (usedT T1 : Int) < (t.size : Int)) by omega)]
            have hts : (x.1 ++ t).size = x.1.size + t.size := ByteArray.size_append
            refine ⟨rfl, rfl, b2.calls, b2.dead, b2.stop, b2.fail, by simpa using b2.made, b2.names, b2.lasting, b2.since, ?_, b2.sn, b2.sl, b2.cov, b2.rne, set_ok b2.ok hx (by rw [hts]; omega) (by rw [hts]; omega)⟩
            show updF S1.files (j + 1) (growF (bsOf t)) = _
            rw [b2.files]
            have := upd_from (p := leadsT T1) (g := growF (bsOf t)) (x := x) (x' := (x.1 ++ t, x.2)) (fun n => by unfold growF; simp [bsOf_app]) (i := 0) hx
            rw [Nat.zero_add] at this
            exact this
    · have he' : (callT T).1 ≠ 0 := by rw [← b1]; omega
      rw [if_pos (by simpa using he), if_pos (by simpa using he')]
      exact ⟨b1, b2⟩
theorem mem_with {s : ByteArray} {f : Int} : ∀ {L : List (ByteArray × Int)}, Srt L → ∀ x, x ∈ withF L s f ↔ x = (s, f) ∨ (x ∈ L ∧ x.1 ≠ s)
  | [], _, x => by unfold withF; simp [kF, pastF]
  | y :: r, h, x => by
    obtain ⟨h1, h2⟩ := List.pairwise_cons.1 h
    cases hy : ltS y.1 s with
    | true =>
      rw [withF_cons_lt hy, List.mem_cons, mem_with h2 x, List.mem_cons]
      constructor
      · rintro (rfl | h | h)
        · exact .inr ⟨.inl rfl, lt_ne hy⟩
        · exact .inl h
        · exact .inr ⟨.inr h.1, h.2⟩
      · rintro (h | ⟨rfl | h, h'⟩)
        · exact .inr (.inl h)
        · exact .inl rfl
        · exact .inr (.inr ⟨h, h'⟩)
    | false =>
      rw [withF_cons_ge hy, List.mem_cons]
      by_cases he : y.1 = s
      · rw [if_pos he, List.mem_cons]
        constructor
        · rintro (h | h)
          · exact .inl h
          · exact .inr ⟨.inr h, fun e => lt_ne (h1 x h) (he.trans e.symm)⟩
        · rintro (h | ⟨rfl | h, h'⟩)
          · exact .inl h
          · exact absurd he h'
          · exact .inr h
      · have hsy := lt_total he hy
        rw [if_neg he]
        constructor
        · rintro (h | h)
          · exact .inl h
          · refine .inr ⟨h, ?_⟩
            rcases List.mem_cons.1 h with rfl | h
            · exact he
            · exact fun e => lt_ne (less_trans _ _ _ hsy (h1 x h)) e.symm
        · rintro (h | h)
          · exact .inl h
          · exact .inr h.1
theorem mem_wo {s : ByteArray} : ∀ {L : List (ByteArray × Int)}, Srt L → ∀ x, x ∈ woF L s ↔ x ∈ L ∧ x.1 ≠ s
  | [], _, x => by unfold woF; simp [atF]
  | y :: r, h, x => by
    obtain ⟨h1, h2⟩ := List.pairwise_cons.1 h
    rw [woF_cons]
    by_cases he : y.1 = s
    · rw [if_pos he, List.mem_cons]
      constructor
      · exact fun h => ⟨.inr h, fun e => lt_ne (h1 x h) (he.trans e.symm)⟩
      · rintro ⟨rfl | h, h'⟩
        · exact absurd he h'
        · exact h
    · rw [if_neg he, List.mem_cons, mem_wo h2 x, List.mem_cons]
      constructor
      · rintro (rfl | h)
        · exact ⟨.inl rfl, he⟩
        · exact ⟨.inr h.1, h.2⟩
      · rintro ⟨rfl | h, h'⟩
        · exact .inl rfl
        · exact .inr ⟨h, h'⟩
theorem rmv_rel {S : St} {T : RSt} (h : Rel S T) (hc : T.calls < 1000) (s : ByteArray) : ((rmvS S s).1 : Int) = (rmT T s).1 ∧ Rel (rmvS S s).2 (rmT T s).2 := by
  obtain ⟨b1, b2⟩ := begin_rel h hc
  have rm := callT_room h.ok
  unfold rmvS rmT rmB
  cases hok : okName s with
  | false => exact ⟨rfl, h⟩
  | true =>
    rw [if_neg (by simp), if_pos rfl]
    by_cases he : (beginS S).1 = 0
    · have he' : (callT T).1 = 0 := by rw [← b1, he]; rfl
      rw [if_neg (show ¬ ((beginS S).1 ≠ 0) by simpa using he), if_neg (show ¬ ((callT T).1 ≠ 0) by simpa using he')]
      generalize (beginS S).2 = S1 at *
      generalize (callT T).2 = T1 at *
      rcases atF_cases s T1.now 0 with hA | ⟨k, hk, hA⟩
      · obtain ⟨n1, n2⟩ := b2.lookN hA
        simp only [n1, n2]
        exact ⟨rfl, b2⟩
      · rw [Nat.zero_add] at hA
        obtain ⟨j, x, hj, hx, n1, n2, n3⟩ := b2.lookS hk hA
        simp only [n1, n3]
        have hbase : ∀ f, baseT { T1 with now := woF T1.now s, ops := T1.ops ++ [⟨2, 0, s, ⟨#[]⟩⟩] } f = baseT T1 f := fun f => by
          unfold baseT
          rw [List.any_append]
          simp
        have hcov : ∀ x ∈ woF T1.now s, baseT { T1 with now := woF T1.now s, ops := T1.ops ++ [⟨2, 0, s, ⟨#[]⟩⟩] } x.2 = true := fun x hx => by rw [hbase]; exact b2.cov x (woF_mem hx)
        have hok2 := rm_ok (s := s) b2.ok rm
        have R0 : Rel { S1 with names := mp (woF T1.now s), since := (T1.ops ++ [(⟨2, 0, s, ⟨#[]⟩⟩ : RO)]).map chOf, files := flFrom (leadsT { T1 with now := woF T1.now s, ops := T1.ops ++ [⟨2, 0, s, ⟨#[]⟩⟩] }) T1.files 0 } { T1 with now := woF T1.now s, ops := T1.ops ++ [⟨2, 0, s, ⟨#[]⟩⟩] } :=
          ⟨b2.q, b2.calls, b2.dead, b2.stop, b2.fail, b2.made, rfl, b2.lasting, rfl, rfl, srt_wo b2.sn s, b2.sl, hcov, fun o ho => (by rcases List.mem_append.1 ho with ho | ho; exact b2.rne o ho; simp only [List.mem_singleton] at ho; subst ho; intro e; cases e), hok2⟩
        have hfs : flFrom (leadsT { T1 with now := woF T1.now s, ops := T1.ops ++ [⟨2, 0, s, ⟨#[]⟩⟩] }) T1.files 0 = S1.files := by
          rw [b2.files]
          refine flFrom_congr fun j _ _ => ?_
          rw [R0.leads, hbase, b2.leads]
        refine ⟨rfl, ?_⟩
        have e : ({ S1 with names := doS S1.names ⟨2, s, ⟨#[]⟩, 0⟩, since := S1.since ++ [⟨2, s, ⟨#[]⟩, 0⟩] } : St) = { S1 with names := mp (woF T1.now s), since := (T1.ops ++ [(⟨2, 0, s, ⟨#[]⟩⟩ : RO)]).map chOf, files := flFrom (leadsT { T1 with now := woF T1.now s, ops := T1.ops ++ [⟨2, 0, s, ⟨#[]⟩⟩] }) T1.files 0 } := by
          rw [hfs, List.map_append, ← b2.since, ← mp_wo b2.sn s, ← b2.names]
          rfl
        show Rel { S1 with names := doS S1.names ⟨2, s, ⟨#[]⟩, 0⟩, since := S1.since ++ [⟨2, s, ⟨#[]⟩, 0⟩] } _
        rw [e]
        exact R0
    · have he' : (callT T).1 ≠ 0 := by rw [← b1]; omega
      rw [if_pos (show (beginS S).1 ≠ 0 from he), if_pos he']
      exact ⟨b1, b2⟩

end Go.Proofs.YtfogfpanfhmijaaGreat.Clep

/- The calls of a Disk and of the document's own Disk do the same: Create, Rename, SyncDir, Stop, Fail. No conditions but the bound of a thousand calls. -/
namespace Go.Proofs.YtfogfpanfhmijaaGreat.Clep
open Go.RowKit Go.Maps
set_option linter.unusedVariables false

theorem any_iff {α : Type} {l l' : List α} {p q : α → Bool} (h : (∃ x ∈ l, p x = true) ↔ (∃ x ∈ l', q x = true)) : l.any p = l'.any q := by
  rw [Bool.eq_iff_iff, List.any_eq_true, List.any_eq_true]
  exact h
theorem has_of {S : St} {T : RSt} (h : Rel S T) {s : ByteArray} {k : Nat} (hk : k < T.now.length) (hA : atF T.now s 0 = (k : Int)) : Maps.has S.names (key s) = true := by rw [h.names]; exact ((look_mp s T.now).2 k hk hA).1
theorem size_rel {S : St} {T : RSt} (h : Rel S T) : Maps.size S.names = T.now.length := by rw [h.names]; show (T.now.map ent).length = _; rw [List.length_map]
/-- A name taken away and another laid, and the other way round. -/
theorem srt_ext {L L' : List (ByteArray × Int)} (h : Srt L) (h' : Srt L') (e : ∀ x, x ∈ L ↔ x ∈ L') : L = L' := by
  induction L generalizing L' with
  | nil =>
    cases L' with
    | nil => rfl
    | cons y r => exact absurd ((e y).2 (by simp)) (by simp)
  | cons x r ih =>
    cases L' with
    | nil => exact absurd ((e x).1 (by simp)) (by simp)
    | cons y r' =>
      obtain ⟨h1, h2⟩ := List.pairwise_cons.1 h
      obtain ⟨k1, k2⟩ := List.pairwise_cons.1 h'
      have hxy : x = y := by
        rcases List.mem_cons.1 ((e x).1 (by simp)) with rfl | hx
        · rfl
        · rcases List.mem_cons.1 ((e y).2 (by simp)) with rfl | hy
          · rfl
          · have a := h1 y hy
            rw [lt_asymm' (k1 x hx)] at a
            cases a
      subst hxy
      congr 1
      refine ih h2 k2 fun z => ?_
      constructor
      · intro hz
        rcases List.mem_cons.1 ((e z).1 (List.mem_cons_of_mem _ hz)) with rfl | h3
        · exact absurd rfl (lt_ne (h1 z hz))
        · exact h3
      · intro hz
        rcases List.mem_cons.1 ((e z).2 (List.mem_cons_of_mem _ hz)) with rfl | h3
        · exact absurd rfl (lt_ne (k1 z hz))
        · exact h3
theorem swap_wo {L : List (ByteArray × Int)} (h : Srt L) {s t : ByteArray} (hst : s ≠ t) (f : Int) : withF (woF L s) t f = woF (withF L t f) s := by
  refine srt_ext (srt_with (srt_wo h s)) (srt_wo (srt_with h) s) fun x => ?_
  rw [mem_with (srt_wo h s), mem_wo h, mem_wo (srt_with h), mem_with h]
  constructor
  · rintro (rfl | ⟨⟨h1, h2⟩, h3⟩)
    · exact ⟨.inl rfl, fun e => hst e.symm⟩
    · exact ⟨.inr ⟨h1, h3⟩, h2⟩
  · rintro ⟨rfl | ⟨h1, h2⟩, h3⟩
    · exact .inl rfl
    · exact .inr ⟨⟨h1, h3⟩, h2⟩
theorem do_mp {L : List (ByteArray × Int)} (hs : Srt L) {s t : ByteArray} {k j : Nat} (hk : k < L.length) (hA : atF L s 0 = (k : Int)) (hj : (L[k]'hk).2 = (j : Int)) (hst : s ≠ t) : doS (mp L) ⟨1, s, t, 0⟩ = mp (woF (withF L t (j : Int)) s) := by
  obtain ⟨l1, l2⟩ := (look_mp s L).2 k hk hA
  unfold doS
  simp only [show ¬ ((1 : Nat) = 0) by omega, if_false, if_true]
  rw [l1, if_pos rfl, l2, mp_wo hs s, mp_with (srt_wo hs s) t, hj, swap_wo hs hst]
theorem do_ren {S : St} {T : RSt} (h : Rel S T) {s t : ByteArray} {k j : Nat} (hk : k < T.now.length) (hA : atF T.now s 0 = (k : Int)) (hj : (T.now[k]'hk).2 = (j : Int)) (hst : s ≠ t) : doS S.names ⟨1, s, t, 0⟩ = mp (woF (withF T.now t (j : Int)) s) := by
  rw [h.names]
  exact do_mp h.sn hk hA hj hst
theorem create_rel {S : St} {T : RSt} (h : Rel S T) (hc : T.calls < 1000) (s : ByteArray) : ((createS S s).1 : Int) = (crT T s).1 ∧ Rel (createS S s).2 (crT T s).2 := by
  obtain ⟨b1, b2⟩ := begin_rel h hc
  have rm := callT_room h.ok
  unfold createS crT crB
  cases hok : okName s with
  | false => exact ⟨rfl, h⟩
  | true =>
    rw [if_neg (by simp), if_pos rfl]
    by_cases he : (beginS S).1 = 0
    · have he' : (callT T).1 = 0 := by rw [← b1, he]; rfl
      rw [if_neg (show ¬ ((beginS S).1 ≠ 0) by simpa using he), if_neg (show ¬ ((callT T).1 ≠ 0) by simpa using he')]
      generalize (beginS S).2 = S1 at *
      generalize (callT T).2 = T1 at *
      rcases atF_cases s T1.now 0 with hA | ⟨k, hk, hA⟩
      · obtain ⟨n1, n2⟩ := b2.lookN hA
        simp only [n1, n2, Option.isSome_none, Bool.false_eq_true, if_false]
        rw [size_rel b2]
        by_cases h64 : 64 ≤ T1.now.length
        · rw [if_pos h64, if_pos h64]
          exact ⟨rfl, b2⟩
        · rw [if_neg h64, if_neg h64]
          refine ⟨rfl, ?_⟩
          have hbase : ∀ f, baseT { T1 with files := T1.files ++ [(⟨#[]⟩, 0)], now := withF T1.now s T1.files.length, ops := T1.ops ++ [⟨0, T1.files.length, s, ⟨#[]⟩⟩] } f = (baseT T1 f || ((T1.files.length : Int) == f)) := fun f => by
            unfold baseT
            rw [List.any_append, Bool.or_assoc]
            simp
          have hcov : ∀ x ∈ withF T1.now s T1.files.length, baseT { T1 with files := T1.files ++ [(⟨#[]⟩, 0)], now := withF T1.now s T1.files.length, ops := T1.ops ++ [⟨0, T1.files.length, s, ⟨#[]⟩⟩] } x.2 = true := fun x hx => by
            rw [hbase]
            rcases withF_mem hx with rfl | hx
            · simp
            · rw [b2.cov x hx]
              rfl
          have R0 : Rel { S1 with made := S1.made + 1, names := mp (withF T1.now s T1.files.length), since := (T1.ops ++ [(⟨0, T1.files.length, s, ⟨#[]⟩⟩ : RO)]).map chOf, files := flFrom (leadsT { T1 with files := T1.files ++ [(⟨#[]⟩, 0)], now := withF T1.now s T1.files.length, ops := T1.ops ++ [⟨0, T1.files.length, s, ⟨#[]⟩⟩] }) (T1.files ++ [(⟨#[]⟩, 0)]) 0 } { T1 with files := T1.files ++ [(⟨#[]⟩, 0)], now := withF T1.now s T1.files.length, ops := T1.ops ++ [⟨0, T1.files.length, s, ⟨#[]⟩⟩] } :=
            ⟨b2.q, b2.calls, b2.dead, b2.stop, b2.fail, by show S1.made + 1 = _; rw [b2.made]; simp, rfl, b2.lasting, rfl, rfl, srt_with b2.sn, b2.sl, hcov, fun o ho => (by rcases List.mem_append.1 ho with ho | ho; exact b2.rne o ho; simp only [List.mem_singleton] at ho; subst ho; intro e; cases e), cr_ok3 b2.ok rm⟩
          have hfs : flFrom (leadsT { T1 with files := T1.files ++ [(⟨#[]⟩, 0)], now := withF T1.now s T1.files.length, ops := T1.ops ++ [⟨0, T1.files.length, s, ⟨#[]⟩⟩] }) (T1.files ++ [(⟨#[]⟩, 0)]) 0 = S1.files ++ [⟨S1.made + 1, [], 0⟩] := by
            rw [flFrom_snoc, b2.files, b2.made, Nat.zero_add]
            have e1 : leadsT { T1 with files := T1.files ++ [(⟨#[]⟩, 0)], now := withF T1.now s T1.files.length, ops := T1.ops ++ [⟨0, T1.files.length, s, ⟨#[]⟩⟩] } (T1.files.length : Int) = true := by rw [R0.leads, hbase]; simp
            rw [e1, if_pos rfl]
            congr 1
            refine flFrom_congr fun j _ hj => ?_
            rw [R0.leads, hbase, b2.leads]
            have : ((T1.files.length : Int) == (j : Int)) = false := by simp; omega
            rw [this, Bool.or_false]
          have e : addS S1 s = { S1 with made := S1.made + 1, names := mp (withF T1.now s T1.files.length), since := (T1.ops ++ [(⟨0, T1.files.length, s, ⟨#[]⟩⟩ : RO)]).map chOf, files := flFrom (leadsT { T1 with files := T1.files ++ [(⟨#[]⟩, 0)], now := withF T1.now s T1.files.length, ops := T1.ops ++ [⟨0, T1.files.length, s, ⟨#[]⟩⟩] }) (T1.files ++ [(⟨#[]⟩, 0)]) 0 } := by
            rw [hfs, List.map_append, ← b2.since, ← mp_with b2.sn s T1.files.length, ← b2.names, ← b2.made]
            unfold addS newCh doS
            simp [chOf, b2.made]
          show Rel (addS S1 s) _
          rw [e]
          exact R0
      · rw [Nat.zero_add] at hA
        obtain ⟨j, x, hj, hx, n1, n2, n3⟩ := b2.lookS hk hA
        simp only [n1, n3, Option.isSome_some, if_true]
        exact ⟨rfl, b2⟩
    · have he' : (callT T).1 ≠ 0 := by rw [← b1]; omega
      rw [if_pos (show (beginS S).1 ≠ 0 from he), if_pos he']
      exact ⟨b1, b2⟩
theorem ren_rel {S : St} {T : RSt} (h : Rel S T) (hc : T.calls < 1000) (s t : ByteArray) : ((renS S s t).1 : Int) = (rnT T s t).1 ∧ Rel (renS S s t).2 (rnT T s t).2 := by
  obtain ⟨b1, b2⟩ := begin_rel h hc
  have rm := callT_room h.ok
  unfold renS rnT rnB
  cases hok : okName s with
  | false => rw [if_pos (.inl rfl)]; exact ⟨rfl, h⟩
  | true =>
    cases hot : okName t with
    | false => rw [if_pos (.inr rfl)]; exact ⟨rfl, h⟩
    | true =>
      rw [if_neg (by simp), if_pos (show (true && true) = true from rfl)]
      by_cases he : (beginS S).1 = 0
      · have he' : (callT T).1 = 0 := by rw [← b1, he]; rfl
        rw [if_neg (show ¬ ((beginS S).1 ≠ 0) by simpa using he), if_neg (show ¬ ((callT T).1 ≠ 0) by simpa using he')]
        generalize (beginS S).2 = S1 at *
        generalize (callT T).2 = T1 at *
        rcases atF_cases s T1.now 0 with hA | ⟨k, hk, hA⟩
        · obtain ⟨n1, n2⟩ := b2.lookN hA
          simp only [n1, n2]
          exact ⟨rfl, b2⟩
        · rw [Nat.zero_add] at hA
          obtain ⟨j, x, hj, hx, n1, n2, n3⟩ := b2.lookS hk hA
          have hjl : j < T1.files.length := by
            rcases Nat.lt_or_ge j T1.files.length with h | h
            · exact h
            · rw [List.getElem?_eq_none h] at hx; cases hx
          simp only [n1, n3]
          rw [if_neg (by simp)]
          by_cases hst : s = t
          · rw [if_pos hst, if_pos hst]
            exact ⟨rfl, b2⟩
          · rw [if_neg hst, if_neg hst]
            refine ⟨rfl, ?_⟩
            have hbase : ∀ f, baseT { T1 with now := woF (withF T1.now t (j : Int)) s, ops := T1.ops ++ [⟨1, 0, s, t⟩] } f = baseT T1 f := fun f => by
              unfold baseT
              rw [List.any_append]
              simp
            have hcov : ∀ x ∈ woF (withF T1.now t (j : Int)) s, baseT { T1 with now := woF (withF T1.now t (j : Int)) s, ops := T1.ops ++ [⟨1, 0, s, t⟩] } x.2 = true := fun x hx => by
              rw [hbase]
              rcases withF_mem (woF_mem hx) with rfl | hx
              · have := b2.cov _ (List.getElem_mem hk)
                rw [hj] at this
                exact this
              · exact b2.cov x hx
            have R0 : Rel { S1 with names := mp (woF (withF T1.now t (j : Int)) s), since := (T1.ops ++ [(⟨1, 0, s, t⟩ : RO)]).map chOf, files := flFrom (leadsT { T1 with now := woF (withF T1.now t (j : Int)) s, ops := T1.ops ++ [⟨1, 0, s, t⟩] }) T1.files 0 } { T1 with now := woF (withF T1.now t (j : Int)) s, ops := T1.ops ++ [⟨1, 0, s, t⟩] } :=
              ⟨b2.q, b2.calls, b2.dead, b2.stop, b2.fail, b2.made, rfl, b2.lasting, rfl, rfl, srt_wo (srt_with b2.sn) s, b2.sl, hcov, fun o ho => (by rcases List.mem_append.1 ho with ho | ho; exact b2.rne o ho; simp only [List.mem_singleton] at ho; subst ho; exact fun _ => hst), rn_ok2 b2.ok rm hjl⟩
            have hfs : flFrom (leadsT { T1 with now := woF (withF T1.now t (j : Int)) s, ops := T1.ops ++ [⟨1, 0, s, t⟩] }) T1.files 0 = S1.files := by
              rw [b2.files]
              refine flFrom_congr fun j _ _ => ?_
              rw [R0.leads, hbase, b2.leads]
            have hdo : doS S1.names ⟨1, s, t, 0⟩ = mp (woF (withF T1.now t (j : Int)) s) := do_ren b2 hk hA hj hst
            have e : ({ S1 with names := doS S1.names ⟨1, s, t, 0⟩, since := S1.since ++ [⟨1, s, t, 0⟩] } : St) = { S1 with names := mp (woF (withF T1.now t (j : Int)) s), since := (T1.ops ++ [(⟨1, 0, s, t⟩ : RO)]).map chOf, files := flFrom (leadsT { T1 with now := woF (withF T1.now t (j : Int)) s, ops := T1.ops ++ [⟨1, 0, s, t⟩] }) T1.files 0 } := by
              rw [hfs, List.map_append, ← b2.since, hdo]
              rfl
            show Rel { S1 with names := doS S1.names ⟨1, s, t, 0⟩, since := S1.since ++ [⟨1, s, t, 0⟩] } _
            rw [e]
            exact R0
      · have he' : (callT T).1 ≠ 0 := by rw [← b1]; omega
        rw [if_pos (show (beginS S).1 ≠ 0 from he), if_pos he']
        exact ⟨b1, b2⟩

end Go.Proofs.YtfogfpanfhmijaaGreat.Clep

/- The calls of a Disk and of the document's own Disk do the same: SyncDir, Stop, Fail, Crash. No conditions but the bound of a thousand calls. -/
namespace Go.Proofs.YtfogfpanfhmijaaGreat.Clep
open Go.RowKit Go.Maps
set_option linter.unusedVariables false

theorem isNamed_mp (L : List (ByteArray × Int)) (k : Int) : isNamed (mp L) (fun _ => false) (k + 1) = L.any fun x => x.2 == k := by
  unfold isNamed
  show (L.map ent).any _ = _
  rw [List.any_map]
  congr 1
  funext x
  show (!false && numOf (i64L (x.2 + 1)) == k + 1) = (x.2 == k)
  have : numOf (i64L (x.2 + 1)) = x.2 + 1 := rfl
  rw [this]
  by_cases e : x.2 = k
  · subst e; simp
  · rw [show (x.2 == k) = false from by simpa using e]
    simp
    omega
theorem settle_files {p : Int → Bool} {fs : List (ByteArray × Nat)} {L : List (ByteArray × Int)} (hp : ∀ x ∈ L, p x.2 = true) : (flFrom p fs 0).filter (fun f => isNamed (mp L) (fun _ => false) f.num) = flFrom (fun f => L.any fun x => x.2 == f) fs 0 := by
  refine flFrom_filter fun j _ _ => ⟨fun h => ?_, fun b l _ => ?_⟩
  · obtain ⟨x, hx, e⟩ := List.any_eq_true.1 h
    have := hp x hx
    rw [beq_iff_eq.1 e] at this
    exact this
  · show isNamed (mp L) (fun _ => false) ((j + 1 : Nat) : Int) = _
    exact isNamed_mp L (j : Int)
theorem leads_settled (T : RSt) (fs : List (ByteArray × Nat)) (L : List (ByteArray × Int)) (c : Nat) (a b : Int) (d : Bool) : leadsT ⟨T.q, fs, L, L, [], c, a, b, d⟩ = fun f => L.any fun x => x.2 == f := by
  funext f
  unfold leadsT
  simp
theorem syncDir_rel {S : St} {T : RSt} (h : Rel S T) (hc : T.calls < 1000) : ((syncDirS S).1 : Int) = (sdT T).1 ∧ Rel (syncDirS S).2 (sdT T).2 := by
  obtain ⟨b1, b2⟩ := begin_rel h hc
  unfold syncDirS sdT sdB
  by_cases he : (beginS S).1 = 0
  · have he' : (callT T).1 = 0 := by rw [← b1, he]; rfl
    rw [if_neg (show ¬ ((beginS S).1 ≠ 0) by simpa using he), if_neg (show ¬ ((callT T).1 ≠ 0) by simpa using he')]
    generalize (beginS S).2 = S1 at *
    generalize (callT T).2 = T1 at *
    refine ⟨rfl, b2.q, b2.calls, b2.dead, b2.stop, b2.fail, b2.made, b2.names, b2.names, rfl, ?_, b2.sn, b2.sn, fun x hx => ?_, fun o ho => (by cases ho), ⟨b2.ok.cal, b2.ok.nfl, Nat.zero_le _, b2.ok.nnw, by have := b2.ok.nnw; simpa using this, b2.ok.fnw, b2.ok.fnw, fun o ho => (by cases ho), b2.ok.siz, b2.ok.lft, b2.ok.fai, b2.ok.quo⟩⟩
    · show S1.files.filter (fun f => isNamed S1.names (fun _ => false) f.num) = flFrom (leadsT ⟨T1.q, T1.files, T1.now, T1.now, [], T1.calls, T1.left, T1.fail, T1.dead⟩) T1.files 0
      rw [leads_settled, b2.files, b2.names]
      exact settle_files fun x hx => b2.named hx
    · show ((T1.now.any fun y => y.2 == x.2) || _) = true
      rw [List.any_eq_true.2 ⟨x, hx, by simp⟩]
      rfl
  · have he' : (callT T).1 ≠ 0 := by rw [← b1]; omega
    rw [if_pos (show (beginS S).1 ≠ 0 from he), if_pos he']
    exact ⟨b1, b2⟩
theorem mod_eq (z : Int) (n : Nat) : ((z.tmod ((n : Int) + 1) + n + 1).tmod ((n : Int) + 1)) = z % ((n : Int) + 1) := by
  have h1 : z.tmod ((n : Int) + 1) < (n : Int) + 1 := Int.tmod_lt_of_pos z (by omega)
  have h2 := Int.lt_tmod_of_pos z (show (0 : Int) < (n : Int) + 1 by omega)
  have e : z.tmod ((n : Int) + 1) + n + 1 = z.tmod ((n : Int) + 1) + ((n : Int) + 1) := by omega
  rw [e, Int.tmod_eq_emod_of_nonneg (by omega), Int.add_emod_right]
  have : z.tmod ((n : Int) + 1) = z - ((n : Int) + 1) * z.tdiv ((n : Int) + 1) := Int.tmod_def z _
  rw [this, Int.sub_mul_emod_self_left]
theorem drop_cons {ks : List Int} {k : Nat} (h : k < ks.length) : ks.drop k = ks.getD k 0 :: ks.drop (k + 1) := drop_get ks k h
theorem crash_files (T : RSt) (ks : List Int) : ∀ (fs : List (ByteArray × Nat)) (i k : Nat), (∀ x ∈ fs, x.2 ≤ x.1.size) → crashAll (flFrom (leadsT T) fs i) (ks.drop k) = (flFrom (leadsT T) (crS T ks fs i k).1 i, ks.drop (crS T ks fs i k).2)
  | [], i, k, _ => rfl
  | x :: r, i, k, h => by
    have hx := h x (by simp)
    have hr := fun k' => crash_files T ks r (i + 1) k' (fun y hy => h y (by simp [hy]))
    simp only [crS]
    cases hp : leadsT T (i : Int) with
    | false =>
      have e : crStep T ks i x k = ((cutB x.1 (x.2 + (x.1.size - x.2)), x.2 + (x.1.size - x.2)), k) := by unfold crStep; rw [if_neg (fun h => by rw [hp] at h; cases h.2)]
      rw [e]
      unfold flFrom
      rw [hp, if_neg (by simp), if_neg (by simp)]
      exact hr k
    | true =>
      unfold flFrom
      rw [hp, if_pos rfl, if_pos rfl]
      by_cases hn : x.1.size = x.2
      · have e : crStep T ks i x k = ((cutB x.1 (x.2 + (x.1.size - x.2)), x.2 + (x.1.size - x.2)), k) := by unfold crStep; rw [if_neg (fun h => by omega)]
        have k0 : keepN ⟨i + 1, bsOf x.1, x.2⟩ (ks.drop k) = 0 := by unfold keepN; rw [if_pos (by rw [bsOf_len]; exact hn)]
        have k1 : restK ⟨i + 1, bsOf x.1, x.2⟩ (ks.drop k) = ks.drop k := by unfold restK; rw [if_pos (by rw [bsOf_len]; exact hn)]
        rw [e]
        simp only [crashAll, k1, hr k]
        refine Prod.ext ?_ rfl
        show crashF _ _ :: _ = _ :: _
        congr 1
        unfold crashF
        rw [k0, bsOf_cut, show x.1.size - x.2 = 0 by omega]
      · have e : crStep T ks i x k = ((cutB x.1 (x.2 + cutN (x.1.size - x.2) ks k), x.2 + cutN (x.1.size - x.2) ks k), k + 1) := by unfold crStep; rw [if_pos ⟨by omega, hp⟩]
        have k0 : keepN ⟨i + 1, bsOf x.1, x.2⟩ (ks.drop k) = cutN (x.1.size - x.2) ks k := by
          unfold keepN cutN
          rw [if_neg (by rw [bsOf_len]; exact hn)]
          by_cases hk : k < ks.length
          · rw [drop_cons hk, if_pos hk, mod_eq, bsOf_len]
          · rw [List.drop_eq_nil_of_le (by omega), if_neg hk, bsOf_len]
        have k1 : restK ⟨i + 1, bsOf x.1, x.2⟩ (ks.drop k) = ks.drop (k + 1) := by
          unfold restK
          rw [if_neg (by rw [bsOf_len]; exact hn), List.tail_drop]
        rw [e]
        simp only [crashAll, k1, hr (k + 1)]
        refine Prod.ext ?_ rfl
        show crashF _ _ :: _ = _ :: _
        congr 1
        unfold crashF
        rw [k0, bsOf_cut]
theorem and_one' (z : Int) : bits .and .i64 z 1 = z % 2 := and_one z
theorem even_skip (ks : List Int) (k : Nat) : evenK (ks.drop k) = !skipK ks k := by
  unfold skipK
  by_cases hk : k < ks.length
  · rw [drop_cons hk, decide_eq_true hk, Bool.true_and, and_one']
    show ((ks.getD k 0).tmod 2 == 0) = _
    generalize ks.getD k 0 = z
    have h1 : z.tmod 2 = 0 ↔ z % 2 = 0 := by
      rw [← Int.dvd_iff_tmod_eq_zero, Int.dvd_iff_emod_eq_zero]
    by_cases e : z % 2 = 0
    · rw [show (z.tmod 2 == 0) = true from by simpa using h1.2 e, show (z % 2 == 1) = false from by simp; omega]
      rfl
    · rw [show (z.tmod 2 == 0) = false from by simpa using fun h => e (h1.1 h), show (z % 2 == 1) = true from by simp; omega]
      rfl
  · rw [List.drop_eq_nil_of_le (by omega), decide_eq_false hk]
    rfl
theorem do_op {L : List (ByteArray × Int)} (hs : Srt L) (hL : ∀ x ∈ L, 0 ≤ x.2) {o : RO} (hk : o.kind ≤ 2) (hne : o.kind = 1 → o.a ≠ o.b) : doS (mp L) (chOf o) = mp (doT L o) ∧ Srt (doT L o) := by
  obtain ⟨kd, fl, a, b⟩ := o
  simp only at hk hne
  rcases (show kd = 0 ∨ kd = 1 ∨ kd = 2 by omega) with rfl | rfl | rfl
  · exact ⟨mp_with hs a (fl : Int), srt_with hs⟩
  · unfold doT
    simp only [show ¬ ((1 : Nat) = 0) by omega, if_false, if_true]
    rcases atF_cases a L 0 with hA | ⟨k, hk', hA⟩
    · rw [hA, if_pos (by omega)]
      refine ⟨?_, hs⟩
      show doS (mp L) ⟨1, a, b, 0⟩ = _
      unfold doS
      simp only [show ¬ ((1 : Nat) = 0) by omega, if_false, if_true]
      rw [((look_mp a L).1 hA).1, if_neg (by simp)]
    · rw [Nat.zero_add] at hA
      obtain ⟨j, hj⟩ := Int.eq_ofNat_of_zero_le (hL _ (List.getElem_mem hk'))
      rw [hA, if_neg (by omega), Int.toNat_natCast, List.getD_eq_getElem?_getD, List.getElem?_eq_getElem hk', Option.getD_some, hj]
      exact ⟨do_mp hs hk' hA hj (hne rfl), srt_wo (srt_with hs) a⟩
  · exact ⟨mp_wo hs a, srt_wo hs a⟩
theorem do_ops {ks : List Int} {n : Nat} : ∀ (l : List RO) (k : Nat) (L : List (ByteArray × Int)), Srt L → (∀ x ∈ L, 0 ≤ x.2 ∧ x.2 < (n : Int)) → (∀ o ∈ l, o.kind ≤ 2 ∧ (o.kind = 0 → o.file < n) ∧ (o.kind = 1 → o.a ≠ o.b)) →
    doAll (l.map chOf) (mp L) (ks.drop k) = mp (opsAll ks l k L) ∧ Srt (opsAll ks l k L)
  | [], k, L, hs, _, _ => ⟨rfl, hs⟩
  | o :: l, k, L, hs, hL, ho => by
    obtain ⟨o1, o2, o3⟩ := ho o (by simp)
    obtain ⟨d1, d2⟩ := do_op hs (fun x hx => (hL x hx).1) o1 o3
    simp only [List.map_cons, doAll, opsAll]
    rw [even_skip, List.tail_drop]
    cases skipK ks k with
    | true => exact do_ops l (k + 1) L hs hL (fun z hz => ho z (by simp [hz]))
    | false =>
      have := do_ops (ks := ks) l (k + 1) (doT L o) d2 (doT_mem hL o2) (fun z hz => ho z (by simp [hz]))
      simp only [Bool.not_false, if_true, d1, Bool.false_eq_true, if_false]
      exact this
theorem doT_pred {p : Int → Bool} {L : List (ByteArray × Int)} {o : RO} (h : ∀ x ∈ L, p x.2 = true) (ho : o.kind = 0 → p (o.file : Int) = true) : ∀ x ∈ doT L o, p x.2 = true := by
  intro x hx
  unfold doT at hx
  split at hx
  · rename_i hk
    rcases withF_mem hx with rfl | hx
    · exact ho hk
    · exact h x hx
  · split at hx
    · split at hx
      · exact h x hx
      · rcases withF_mem (woF_mem hx) with rfl | hx
        · rename_i _ _ ha
          rcases atF_cases o.a L 0 with e | ⟨k, hk, e⟩
          · rw [e] at ha
            omega
          · rw [e, Nat.zero_add, Int.toNat_natCast, List.getD_eq_getElem?_getD, List.getElem?_eq_getElem hk]
            have := h (L[k]'hk) (List.getElem_mem hk)
            exact this
        · exact h x hx
    · exact h x (woF_mem hx)
theorem opsAll_pred {ks : List Int} {p : Int → Bool} : ∀ (l : List RO) (k : Nat) (L : List (ByteArray × Int)), (∀ x ∈ L, p x.2 = true) → (∀ o ∈ l, o.kind = 0 → p (o.file : Int) = true) → ∀ x ∈ opsAll ks l k L, p x.2 = true
  | [], k, L, h, _ => h
  | o :: l, k, L, h, ho => by
    simp only [opsAll]
    split
    · exact opsAll_pred l (k + 1) L h (fun z hz => ho z (by simp [hz]))
    · exact opsAll_pred l (k + 1) (doT L o) (doT_pred h (ho o (by simp))) (fun z hz => ho z (by simp [hz]))
theorem crash_ok' {T : RSt} (h : ROk T) (ks : List Int) : ROk (crashT T ks) := by
  have hb := opsAll_bounds (ks := ks) (n := T.files.length) T.ops (crS T ks T.files 0 0).2 T.last h.fls (fun o ho => (h.fop o ho).2.2)
  have hl := crS_len T ks T.files 0 0
  have h3 := h.nls
  refine ⟨h.cal, by show (crS T ks T.files 0 0).1.length ≤ _; rw [hl]; exact h.nfl, Nat.zero_le _, Nat.le_trans hb.1 h3, Nat.le_trans hb.1 h3, by show ∀ x ∈ opsAll ks T.ops (crS T ks T.files 0 0).2 T.last, _ ∧ x.2 < ((crS T ks T.files 0 0).1.length : Int); rw [hl]; exact hb.2, by show ∀ x ∈ opsAll ks T.ops (crS T ks T.files 0 0).2 T.last, _ ∧ x.2 < ((crS T ks T.files 0 0).1.length : Int); rw [hl]; exact hb.2, fun o ho => (by cases ho), crS_siz T ks T.files 0 0 h.siz, ⟨by show (-1 : Int) ≤ -1; omega, by show (-1 : Int) ≤ 9223372036854775807; omega⟩, ⟨by show (0 : Int) ≤ 0; omega, by show (0 : Int) ≤ 9223372036854775807; omega⟩, h.quo⟩
theorem crash_rel {S : St} {T : RSt} (h : Rel S T) (ks : List Int) : Rel (crashS S ks) (crashT T ks) := by
  have cf := crash_files T ks T.files 0 0 (fun x hx => (h.ok.siz x hx).2)
  rw [List.drop_zero, ← h.files] at cf
  obtain ⟨dp, ds⟩ := do_ops (ks := ks) (n := T.files.length) T.ops (crS T ks T.files 0 0).2 T.last h.sl h.ok.fls (fun o ho => ⟨(h.ok.fop o ho).1, (h.ok.fop o ho).2.2, h.rne o ho⟩)
  have hD : doAll S.since S.lasting (crashAll S.files ks).2 = mp (opsAll ks T.ops (crS T ks T.files 0 0).2 T.last) := by rw [cf, h.since, h.lasting]; exact dp
  have hpr : ∀ x ∈ opsAll ks T.ops (crS T ks T.files 0 0).2 T.last, leadsT T x.2 = true := by
    refine opsAll_pred T.ops _ T.last (fun x hx => ?_) (fun o ho hk => ?_)
    · unfold leadsT
      rw [show (T.last.any fun y => y.2 == x.2) = true from List.any_eq_true.2 ⟨x, hx, by simp⟩]
      simp
    · unfold leadsT
      rw [show (T.ops.any fun y => y.kind == 0 && (y.file : Int) == (o.file : Int)) = true from List.any_eq_true.2 ⟨o, ho, by simp [hk]⟩]
      simp
  unfold crashS crashT settleS
  rw [hD]
  refine ⟨h.q, h.calls, rfl, rfl, rfl, ?_, rfl, rfl, rfl, ?_, ds, ds, fun x hx => ?_, fun o ho => (by cases ho), ?_⟩
  · show S.made = (crS T ks T.files 0 0).1.length
    rw [crS_len, h.made]
  · show (crashAll S.files ks).1.filter (fun f => isNamed (mp _) (fun _ => false) f.num) = flFrom (leadsT ⟨T.q, (crS T ks T.files 0 0).1, opsAll ks T.ops (crS T ks T.files 0 0).2 T.last, opsAll ks T.ops (crS T ks T.files 0 0).2 T.last, [], T.calls, -1, 0, false⟩) (crS T ks T.files 0 0).1 0
    rw [leads_settled, cf]
    exact settle_files hpr
  · show ((_ : Bool) || _) = true
    rw [show ((opsAll ks T.ops (crS T ks T.files 0 0).2 T.last).any fun y => y.2 == x.2) = true from List.any_eq_true.2 ⟨x, hx, by simp⟩]
    rfl
  · exact crash_ok' h.ok ks

end Go.Proofs.YtfogfpanfhmijaaGreat.Clep
