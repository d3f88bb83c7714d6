/- Plain mathematics of lists of numbers as bytes: what is put is taken again; what is cut is torn. No conditions. -/
import Derived.Test.YtcahlmneancapaaGreatDoorFv19
import Derived.Test.YtcahlmneancapaaGreatDoorFv18
namespace Go.Proofs.YtcahlmneancapaaGreatDoor.Clep
open Go.RowKit
set_option linter.unusedVariables false
set_option maxRecDepth 10000

theorem tk_take (n : Int) (r : List Int) (K : Nat) (h0 : 0 ≤ n) (h1 : n ≤ 18446744073709551615) : tk ((pu n ++ r).take K) 0 0 = if K < (pu n).length then (0, 0, 4) else (n, ((pu n).length : Int), 0) := by
  split
  · rename_i hK
    rw [List.take_append_of_le_length (by omega)]
    obtain ⟨hi, last, e, hh, _, _, hl⟩ := enc_split 9 n h0 (u64_fuel n h1)
    have e' : pu n = hi ++ [last] := e
    rw [e'] at hK ⊢
    simp only [List.length_append, List.length_cons, List.length_nil] at hK
    rw [List.take_append_of_le_length (by omega)]
    obtain ⟨n', e2⟩ := tk_highs (hi.take K) [] 0 0 (fun z hz => (hh z (List.mem_of_mem_take hz)).1) (by rw [List.length_take]; omega)
    rw [List.append_nil] at e2
    rw [e2]; rfl
  · rename_i hK
    rw [show (pu n ++ r).take K = pu n ++ r.take (K - (pu n).length) from by rw [List.take_append]; congr 1; exact List.take_of_length_le (by omega)]
    exact tk_pu n _ h0 h1

theorem rest_len (ns : List Int) (j : Nat) (h : j < ns.length) : (rest ns j).length = (pu (ns.getD j 0)).length + (rest ns (j + 1)).length := by
  rw [rest_at ns j h, List.length_append]

/-- A list that is whole from place P on. -/
theorem uls_whole (ns : List Int) (hz : ∀ i, 0 ≤ ns.getD i 0 ∧ ns.getD i 0 ≤ 18446744073709551615) (zs tail : List Int) : ∀ (c j P : Nat) (acc : List Int), j + c = ns.length → zs.drop P = rest ns j ++ tail →
    uls c zs P acc = (acc ++ ns.drop j, ((P + (rest ns j).length : Nat) : Int), 0)
  | 0, j, P, acc, hj, _ => by
    rw [uls, rest_end ns j (by omega), List.drop_eq_nil_of_le (by omega)]; simp
  | c + 1, j, P, acc, hj, hd => by
    have hlt : j < ns.length := by omega
    have ht : tk (zs.drop P) 0 0 = (ns.getD j 0, ((pu (ns.getD j 0)).length : Int), 0) := by
      rw [hd, rest_at ns j hlt, List.append_assoc]; exact tk_pu _ _ (hz j).1 (hz j).2
    rw [uls_yes c zs P acc _ _ _ ht rfl, uls_whole ns hz zs tail c (j + 1) _ _ (by omega)]
    · rw [rest_len ns j hlt, drop_get ns j hlt]
      simp
      omega
    · rw [Int.toNat_natCast, ← List.drop_drop, hd, rest_at ns j hlt, List.append_assoc, List.drop_left]

/-- A list that is cut ends torn. -/
theorem uls_cut (ns : List Int) (hz : ∀ i, 0 ≤ ns.getD i 0 ∧ ns.getD i 0 ≤ 18446744073709551615) (zs : List Int) (K : Nat) : ∀ (c j P : Nat) (acc : List Int), j + c = ns.length → zs.drop P = (rest ns j).take (K - P) → P ≤ K → K < P + (rest ns j).length →
    uls c zs P acc = ([], 0, 4)
  | 0, j, P, acc, hj, _, h1, h2 => by
    rw [rest_end ns j (by omega)] at h2
    simp at h2
    omega
  | c + 1, j, P, acc, hj, hd, h1, h2 => by
    have hlt : j < ns.length := by omega
    have ht := tk_take (ns.getD j 0) (rest ns (j + 1)) (K - P) (hz j).1 (hz j).2
    rw [← rest_at ns j hlt, ← hd] at ht
    rw [rest_len ns j hlt] at h2
    by_cases hK : K - P < (pu (ns.getD j 0)).length
    · rw [if_pos hK] at ht
      exact uls_no c zs P acc _ _ _ ht (by omega)
    · rw [if_neg hK] at ht
      rw [uls_yes c zs P acc _ _ _ ht rfl]
      rw [Int.toNat_natCast]
      refine uls_cut ns hz zs K c (j + 1) _ _ (by omega) ?_ (by omega) (by omega)
      rw [← List.drop_drop, hd, rest_at ns j hlt, List.take_append, List.drop_append]
      rw [List.drop_eq_nil_of_le (by rw [List.length_take]; omega), List.nil_append]
      rw [show K - P - (pu (ns.getD j 0)).length = K - (P + (pu (ns.getD j 0)).length) from by omega]
      rw [List.length_take, Nat.min_eq_right (by omega), Nat.sub_self, List.drop_zero]

theorem li_tk (ns tail : List Int) (hl : ns.length ≤ 100000) : tk (li ns ++ tail) 0 0 = ((ns.length : Int), ((pu (ns.length : Int)).length : Int), 0) := by
  unfold li; rw [List.append_assoc]; exact tk_pu _ _ (by omega) (by omega)
theorem ul_whole (ns tail : List Int) (hz : ∀ i, 0 ≤ ns.getD i 0 ∧ ns.getD i 0 ≤ 18446744073709551615) (hl : ns.length ≤ 100000) (most : Int) (hm : (ns.length : Int) ≤ most) : ul (li ns ++ tail) most = (ns, ((li ns).length : Int), 0) := by
  unfold ul
  rw [li_tk ns tail hl]
  simp only
  rw [if_pos trivial, if_neg (by omega), Int.toNat_natCast, Int.toNat_natCast, uls_whole ns hz _ tail ns.length 0 _ [] (by omega) (by unfold li; rw [List.append_assoc, List.drop_left])]
  simp [li]
theorem ul_short (ns : List Int) (hz : ∀ i, 0 ≤ ns.getD i 0 ∧ ns.getD i 0 ≤ 18446744073709551615) (hl : ns.length ≤ 100000) (h0 : 0 < ns.length) : ul (li ns) ((ns.length : Int) - 1) = ([], 0, 2) := by
  have := li_tk ns [] hl
  rw [List.append_nil] at this
  unfold ul
  rw [this]
  simp only
  rw [if_pos trivial, if_pos (by omega)]
theorem ul_cut (ns : List Int) (hz : ∀ i, 0 ≤ ns.getD i 0 ∧ ns.getD i 0 ≤ 18446744073709551615) (hl : ns.length ≤ 100000) (most : Int) (hm : (ns.length : Int) ≤ most) (K : Nat) (hK : K < (li ns).length) : ul ((li ns).take K) most = ([], 0, 4) := by
  have ht := tk_take (ns.length : Int) (rest ns 0) K (by omega) (by omega)
  have hll : (li ns).length = (pu (ns.length : Int)).length + (rest ns 0).length := by unfold li; rw [List.length_append]
  change tk ((li ns).take K) 0 0 = _ at ht
  unfold ul
  by_cases h : K < (pu (ns.length : Int)).length
  · rw [if_pos h] at ht
    rw [ht]
    simp only
    rw [if_neg (by omega)]
  · rw [if_neg h] at ht
    rw [ht]
    simp only
    rw [if_pos trivial, if_neg (by omega), Int.toNat_natCast, Int.toNat_natCast]
    refine uls_cut ns hz _ K ns.length 0 _ [] (by omega) ?_ (by omega) (by omega)
    rw [List.drop_take]
    unfold li; rw [List.drop_left]
theorem li_len (ns : List Int) (h : ns.length ≤ 100000) : 1 ≤ (li ns).length ∧ (li ns).length ≤ 10 + 10 * ns.length := by
  have h1 := pu_len (ns.length : Int)
  have h2 := rows_len ns ns.length (Nat.le_refl _)
  rw [rows_all ns _ (Nat.le_refl _)] at h2
  unfold li; rw [List.length_append]; omega
theorem li_range (ns : List Int) (hz : ∀ i, 0 ≤ ns.getD i 0 ∧ ns.getD i 0 ≤ 18446744073709551615) (hl : ns.length ≤ 100000) : ∀ z ∈ li ns, 0 ≤ z ∧ z < 256 := by
  unfold li
  refine cat_range (pu_range _ (by omega) (by omega)) ?_
  rw [← rows_all ns ns.length (Nat.le_refl _)]; exact rows_range ns hz _

end Go.Proofs.YtcahlmneancapaaGreatDoor.Clep

/- What the document's own List and Unlist (package clepsydraref1), and the statements' own Same, do when called: for rows up to 100000 numbers, any text up to 2^40. -/
namespace Go.Proofs.YtcahlmneancapaaGreatDoor.Clep
open Go.RowKit
set_option linter.unusedVariables false
set_option maxRecDepth 10000

theorem ownU_us {w : World} {B : Nat} {v : Value} {ns : List Int} (h : OwnU w B v ns) (hz : ∀ z ∈ ns, 0 ≤ z ∧ z ≤ 18446744073709551615) :
    ∃ ao cap, v = .slice ao ns.length cap ∧ Us w ao ns.length cap ns := by
  obtain ⟨hl, ⟨rfl, hn⟩ | ⟨g, cap, cur, rfl, hg, hh, hnc, hcm, hcs, hx⟩⟩ := h
  · exact ⟨none, 0, by rw [hn], ⟨rfl, ⟨by omega, fun _ => ⟨hn, rfl⟩⟩, urange_of hz, fun h => by omega⟩⟩
  · refine ⟨some ⟨g, 0, none⟩, cap, rfl, ⟨rfl, ⟨hnc, fun h => by cases h⟩, urange_of hz, fun _ => ⟨g, 0, rfl, fun i hi => ?_⟩⟩⟩
    have hc := World.ownsRow.cells (w := w) (base := B) (e := 29) (size := 1) (v := .slice (some ⟨g, 0, none⟩) ns.length cap) (n := ns.length) (xs := uv ns)
      ⟨hl, .inr ⟨g, cap, cur, rfl, hg, hh, hnc, hcm, hcs, hx⟩⟩ (g := g) rfl i (.int .u64 (ns.getD i 0)) (by simp [uv, List.getD, List.getElem?_eq_getElem hi])
    rwa [add_plain] at hc

end Go.Proofs.YtcahlmneancapaaGreatDoor.Clep

/- What edit.bodyOf does when called (a walk over the translated program): for any Edit that may be. The bytes of an Edit. -/
namespace Go.Proofs.YtcahlmneancapaaGreatDoor.Clep
open Go.RowKit
set_option linter.unusedVariables false
set_option maxRecDepth 10000

theorem wpList_append_u {w : World} {ops : Array Oper} {rest : List Oper} {o : Oper} {a : Act} {Q : Exit → Act → World → Prop} (hgd : o.guard = none) (s x : Operand)
    (ho : o.op = .call { callee := .builtin .append, args := #[s, x], argTypes := #[160, 160] })
    (base : Nat) (v : Value) (ns : List Int) (hs : a.eval s = v) (hown : OwnU w base v ns) (p : Nat) (z : Int) (hx : a.eval x = .slice (some ⟨p, 0, none⟩) 1 1) (hp : Ek w p #[.int .u64 z] 29)
    (hlen : ns.length ≤ 100000) (hbase : base ≤ w.heap.size)
    (h : ∀ v' w', OwnU w' base v' (ns ++ [z]) → w.grownBy w' v.ownBlock → (∀ k, v.ownBlock = some k → base ≤ k) → wpList Tryz.prog ops Q rest (a.put o.dst v') w') : wpList Tryz.prog ops Q (o :: rest) a w := by
  obtain ⟨i0, hi, hz0, hz1, hz2⟩ := info_parts info25
  refine wpList_append_own _ hgd s x 160 ho base 29 i0 (.int .u64 0) 1 8 Tryz.underlying160 hi hz0 hz1 hz2 rfl (by decide) v ns.length (uv ns) hs hown ⟨p, 0, none⟩ 1 1 [.int .u64 z] hx rfl ?_ ?_ (by unfold maxLen; omega) (by omega) hbase ?_
  · intro j u hu
    match j, hu with
    | 0, hu =>
      simp at hu
      subst hu
      exact hp.cell rfl
    | k + 1, hu => simp at hu
  · intro u hu
    simp at hu
    subst hu
    rfl
  · intro v' w' h1 h2 _
    exact h v' w' (ownU_snoc h1) h2 (fun k hk => (World.ownsRow.lt hown k hk).1)
def iv9 (ns : List Int) : List Value := ns.map (Value.int .i64)
/-- The slice value v owns the whole numbers ns. -/
def OwnZ (w : World) (B : Nat) (v : Value) (ns : List Int) : Prop := w.ownsRow B 3 1 v ns.length (iv9 ns)
theorem info_int : (Tryz.prog.info? 3).map (fun i => (i.zero, i.size, i.bytes)) = some (some (.int .i64 0), 1, 8) := by kernel_rfl
theorem ownZ_nil (w : World) (B : Nat) : OwnZ w B (.slice none 0 0) [] := World.ownsRow_nil _ _ _ _
theorem ownU_nil (w : World) (B : Nat) : OwnU w B (.slice none 0 0) [] := World.ownsRow_nil _ _ _ _
theorem wpList_append_z {w : World} {ops : Array Oper} {rest : List Oper} {o : Oper} {a : Act} {Q : Exit → Act → World → Prop} (hgd : o.guard = none) (s x : Operand)
    (ho : o.op = .call { callee := .builtin .append, args := #[s, x], argTypes := #[32, 32] })
    (base : Nat) (v : Value) (ns : List Int) (hs : a.eval s = v) (hown : OwnZ w base v ns) (p : Nat) (z : Int) (hx : a.eval x = .slice (some ⟨p, 0, none⟩) 1 1) (hp : Ek w p #[.int .i64 z] 3)
    (hlen : ns.length ≤ 100000) (hbase : base ≤ w.heap.size)
    (h : ∀ v' w', OwnZ w' base v' (ns ++ [z]) → w.grownBy w' v.ownBlock → (∀ k, v.ownBlock = some k → base ≤ k) → wpList Tryz.prog ops Q rest (a.put o.dst v') w') : wpList Tryz.prog ops Q (o :: rest) a w := by
  obtain ⟨i0, hi, hz0, hz1, hz2⟩ := info_parts info_int
  refine wpList_append_own _ hgd s x 32 ho base 3 i0 (.int .i64 0) 1 8 Tryz.underlying32 hi hz0 hz1 hz2 rfl (by decide) v ns.length (iv9 ns) hs hown ⟨p, 0, none⟩ 1 1 [.int .i64 z] hx rfl ?_ ?_ (by unfold maxLen; omega) (by omega) hbase ?_
  · intro j u hu
    match j, hu with
    | 0, hu =>
      simp at hu
      subst hu
      exact hp.cell rfl
    | k + 1, hu => simp at hu
  · intro u hu
    simp at hu
    subst hu
    rfl
  · intro v' w' h1 h2 _
    refine h v' w' ?_ h2 (fun k hk => (World.ownsRow.lt hown k hk).1)
    unfold OwnZ iv9
    simpa [iv9] using h1
theorem ownZ_zs {w : World} {B : Nat} {v : Value} {ns : List Int} (h : OwnZ w B v ns) (hz : ∀ z ∈ ns, -9223372036854775808 ≤ z ∧ z ≤ 9223372036854775807) :
    ∃ ao cap, v = .slice ao ns.length cap ∧ cap ≤ 9223372036854775807 ∧ Zs w ao ns.length cap ns ∧ ∀ a, ao = some a → B ≤ a.block := by
  obtain ⟨hl, ⟨rfl, hn⟩ | ⟨g, cap, cur, rfl, hg, hh, hnc, hcm, hcs, hx⟩⟩ := h
  · exact ⟨none, 0, by rw [hn], by omega, ⟨rfl, ⟨by omega, fun _ => ⟨hn, rfl⟩⟩, hz, fun h => by omega⟩, fun a h => by cases h⟩
  · refine ⟨some ⟨g, 0, none⟩, cap, rfl, by unfold maxLen at hcm; omega, ⟨rfl, ⟨hnc, fun h => by cases h⟩, hz, fun _ => ⟨g, 0, rfl, fun i z hi => ?_⟩⟩, fun a h => by cases h; exact hg⟩
    have hc := World.ownsRow.cells (w := w) (base := B) (e := 3) (size := 1) (v := .slice (some ⟨g, 0, none⟩) ns.length cap) (n := ns.length) (xs := iv9 ns)
      ⟨hl, .inr ⟨g, cap, cur, rfl, hg, hh, hnc, hcm, hcs, hx⟩⟩ (g := g) rfl i (.int .i64 z) (by simp [iv9, hi])
    rwa [add_plain] at hc
/-- The files as bytes. -/
def fbs (l : List Fi) : List Int := l.flatMap (fun f => pu f.L ++ pu f.N)
/-- An Edit's body. -/
def ebd (E : Ed) : List Int := li E.d ++ (pu (E.a.length : Int) ++ (fbs E.a ++ rest [E.lg, E.fl, E.ct, E.at9, E.ls] 0))
theorem emay_parts {E : Ed} (h : emay E = 0) : (E.d.length ≤ 40 ∧ E.a.length ≤ 40) ∧ (∀ z ∈ E.d, 1 ≤ z ∧ z ≤ 1073741824) ∧ (∀ f ∈ E.a, (0 ≤ f.L ∧ f.L ≤ 3) ∧ 1 ≤ f.N ∧ f.N ≤ 1073741824) ∧ (0 ≤ E.lg ∧ E.lg ≤ 1073741824) ∧ E.fl ≤ 281474976710656 ∧ E.ct ≤ 281474976710656 ∧ E.at9 ≤ 281474976710656 ∧ E.ls ≤ 281474976710656 := by
  unfold emay at h
  split at h
  · rename_i hh
    rw [Bool.and_eq_true, Bool.and_eq_true] at hh
    obtain ⟨h1, h2, h3⟩ := hh
    unfold edH at h1
    have h1 := of_decide_eq_true h1
    refine ⟨⟨h1.1, h1.2.1⟩, fun z hz => ?_, fun f hf => ?_, ⟨h1.2.2.1, h1.2.2.2.1⟩, h1.2.2.2.2⟩
    · have := List.all_eq_true.1 h2 z hz
      exact of_decide_eq_true this
    · have := List.all_eq_true.1 h3 f hf
      have := of_decide_eq_true this
      omega
  · cases h
theorem fbs_take {l : List Fi} {k : Nat} {f : Fi} (h : l[k]? = some f) : fbs (l.take (k + 1)) = fbs (l.take k) ++ (pu f.L ++ pu f.N) := by
  unfold fbs
  rw [List.take_add_one, h, List.flatMap_append]
  simp
theorem fbs_len : ∀ (l : List Fi), (fbs l).length ≤ 20 * l.length
  | [] => by simp [fbs]
  | f :: r => by
    have := fbs_len r
    have h1 := (pu_len f.L).2
    have h2 := (pu_len f.N).2
    unfold fbs at this ⊢
    simp only [List.flatMap_cons, List.length_append, List.length_cons]
    omega
theorem rest5_len (ns : List Int) (h : ns.length = 5) : (rest ns 0).length ≤ 50 := by
  have := rows_len ns 5 (by omega)
  rw [rows_all ns 5 (by omega)] at this
  omega
theorem fbs_range (l : List Fi) (h : ∀ f ∈ l, (0 ≤ f.L ∧ f.L ≤ 3) ∧ 1 ≤ f.N ∧ f.N ≤ 1073741824) : ByteL (fbs l) := by
  intro z hz
  obtain ⟨f, hf, hz⟩ := List.mem_flatMap.1 hz
  have := h f hf
  rcases List.mem_append.1 hz with e | e
  · exact pu_range f.L (by omega) (by omega) z e
  · exact pu_range f.N (by omega) (by omega) z e
def five (E : Ed) : List Int := [E.lg, E.fl, E.ct, E.at9, E.ls]
theorem ebd_len {E : Ed} (h : emay E = 0) : (ebd E).length ≤ 1300 := by
  have hp := emay_parts h
  have h1 := (li_len E.d (by omega)).2
  have h2 := (pu_len (E.a.length : Int)).2
  have h3 := fbs_len E.a
  have h4 := rest5_len [E.lg, E.fl, E.ct, E.at9, E.ls] rfl
  unfold ebd
  simp only [List.length_append]
  omega

end Go.Proofs.YtcahlmneancapaaGreatDoor.Clep

/- Reading an Edit: number by number, as Lean's own functions. No conditions. -/
namespace Go.Proofs.YtcahlmneancapaaGreatDoor.Clep
open Go.RowKit
set_option linter.unusedVariables false
set_option maxRecDepth 10000

/-- One number more: what is left, and whether one was refused. -/
def rt (s : List Int × Bool) : Int × (List Int × Bool) := if (tk s.1 0 0).2.2 = 0 then ((tk s.1 0 0).1, (s.1.drop (tk s.1 0 0).2.1.toNat, s.2)) else (0, (s.1, true))
def stN (s : List Int × Bool) : Nat → List Int × Bool
  | 0 => s
  | j + 1 => (rt (stN s j)).2
def nr (s : List Int × Bool) (j : Nat) : Int := (rt (stN s j)).1
theorem rt_range (s : List Int × Bool) (h : ByteL s.1) : (0 ≤ (rt s).1 ∧ (rt s).1 ≤ 18446744073709551615) ∧ ByteL (rt s).2.1 := by
  unfold rt
  split
  · have := tk_facts s.1 0 0 (by omega) h (by omega) (by simp)
    exact ⟨⟨this.1, this.2.1⟩, fun z hz => h z (List.mem_of_mem_drop hz)⟩
  · exact ⟨by simp, h⟩
theorem stN_byte (s : List Int × Bool) (h : ByteL s.1) : ∀ j, ByteL (stN s j).1
  | 0 => h
  | j + 1 => (rt_range _ (stN_byte s h j)).2
theorem nr_range (s : List Int × Bool) (h : ByteL s.1) (j : Nat) : 0 ≤ nr s j ∧ nr s j ≤ 18446744073709551615 := (rt_range _ (stN_byte s h j)).1
theorem rt_bad (s : List Int × Bool) (h : s.2 = true) : (rt s).2.2 = true := by unfold rt; split <;> simp [h]
theorem stN_bad (s : List Int × Bool) : ∀ (j k : Nat), (stN s j).2 = true → (stN s (j + k)).2 = true
  | j, 0, h => h
  | j, k + 1, h => rt_bad _ (stN_bad s j k h)
theorem rt_len (s : List Int × Bool) : (rt s).2.1.length ≤ s.1.length := by
  unfold rt
  split
  · simp
  · exact Nat.le_refl _
theorem stN_len (s : List Int × Bool) : ∀ j, (stN s j).1.length ≤ s.1.length
  | 0 => Nat.le_refl _
  | j + 1 => Nat.le_trans (rt_len _) (stN_len s j)
def sm (n : Int) : Int := if n > 1073741824 then -1 else n
/-- Behind the numbers of Drop. -/
def s0X (X : List Int) : List Int × Bool := (X.drop (ul X 40).2.1.toNat, false)
def cX (X : List Int) : Int := (rt (s0X X)).1
def s1X (X : List Int) : List Int × Bool := (rt (s0X X)).2
def fX (X : List Int) (n : Nat) : List Fi := (List.range n).map (fun i => ⟨nr (s1X X) (2 * i), nr (s1X X) (2 * i + 1)⟩)
/-- The Edit that the bytes would be. -/
def rawE (X : List Int) : Ed := ⟨(ul X 40).1, fX X (cX X).toNat, nr (s1X X) (2 * (cX X).toNat), nr (s1X X) (2 * (cX X).toNat + 1), nr (s1X X) (2 * (cX X).toNat + 2), nr (s1X X) (2 * (cX X).toNat + 3), nr (s1X X) (2 * (cX X).toNat + 4)⟩
def okR (X : List Int) : Bool := decide ((ul X 40).2.2 = 0) && (decide (cX X ≤ 40) && (!(stN (s1X X) (2 * (cX X).toNat + 5)).2 && decide ((stN (s1X X) (2 * (cX X).toNat + 5)).1.length = 0)))
/-- What Read answers. -/
def red (X : List Int) : Option Ed := if (okR X && mayB (rawE X)) = true then some (rawE X) else none
def smF (f : Fi) : Fi := ⟨sm f.L, sm f.N⟩
/-- The Edit with each number that is too great as -1. -/
def smE (E : Ed) : Ed := ⟨E.d.map sm, E.a.map smF, sm E.lg, E.fl, E.ct, E.at9, E.ls⟩
theorem sm_id {n : Int} (h : n ≤ 1073741824) : sm n = n := by unfold sm; rw [if_neg (by omega)]
theorem sm_pos {n : Int} (h : 0 ≤ sm n) : sm n = n := by
  unfold sm at h ⊢
  split at h
  · omega
  · rename_i hh; rw [if_neg hh]
theorem map_id_of {α : Type} {f : α → α} : ∀ {l : List α}, (∀ x ∈ l, f x = x) → l.map f = l
  | [], _ => rfl
  | x :: r, h => by rw [List.map_cons, h x (List.mem_cons_self ..), map_id_of (fun y hy => h y (List.mem_cons_of_mem _ hy))]
theorem smE_may {E : Ed} (h : mayB E = true) : smE E = E := by
  have hp := emay_parts ((mayB_iff E).1 h)
  obtain ⟨d, a, lg, fl, ct, at9, ls⟩ := E
  unfold smE
  simp only at hp ⊢
  rw [map_id_of (fun z hz => sm_id (hp.2.1 z hz).2), map_id_of (fun f hf => ?_), sm_id hp.2.2.2.1.2]
  have := hp.2.2.1 f hf
  unfold smF
  rw [sm_id (by omega), sm_id (by omega)]
theorem may_smE {E : Ed} (h : mayB (smE E) = true) : smE E = E := by
  have hp := emay_parts ((mayB_iff _).1 h)
  obtain ⟨d, a, lg, fl, ct, at9, ls⟩ := E
  unfold smE at hp ⊢
  simp only at hp ⊢
  rw [map_id_of (fun z hz => sm_pos (by have := (hp.2.1 (sm z) (List.mem_map.2 ⟨z, hz, rfl⟩)).1; omega)), map_id_of (fun f hf => ?_), sm_pos hp.2.2.2.1.1]
  have := hp.2.2.1 (smF f) (List.mem_map.2 ⟨f, hf, rfl⟩)
  unfold smF at this ⊢
  simp only at this
  rw [sm_pos (by omega), sm_pos (by omega)]
theorem mayB_smE (E : Ed) : mayB (smE E) = mayB E := by
  cases h1 : mayB E with
  | true => rw [smE_may h1, h1]
  | false =>
    cases h2 : mayB (smE E) with
    | false => rfl
    | true => rw [may_smE h2] at h2; rw [h2] at h1; cases h1
theorem red_form (X : List Int) : red X = if (okR X && mayB (smE (rawE X))) = true then some (smE (rawE X)) else none := by
  rw [mayB_smE]
  unfold red
  split
  · rename_i h
    rw [Bool.and_eq_true] at h
    rw [smE_may h.2]
  · rfl
theorem red_may {X : List Int} {E : Ed} (h : red X = some E) : emay E = 0 := by
  unfold red at h
  split at h
  · rename_i hh
    rw [Bool.and_eq_true] at hh
    injection h with h
    rw [← h]
    exact (mayB_iff _).1 hh.2
  · cases h
theorem fX_next (X : List Int) (n : Nat) : fX X (n + 1) = fX X n ++ [⟨nr (s1X X) (2 * n), nr (s1X X) (2 * n + 1)⟩] := by
  unfold fX
  rw [List.range_succ, List.map_append]
  rfl
theorem fX_len (X : List Int) (n : Nat) : (fX X n).length = n := by unfold fX; simp

end Go.Proofs.YtcahlmneancapaaGreatDoor.Clep

/- What edit.bodyOf does when called (a walk over the translated program): for any Edit that may be. -/
namespace Go.Proofs.YtcahlmneancapaaGreatDoor.Clep
open Go.RowKit
set_option linter.unusedVariables false
set_option maxRecDepth 10000

theorem own_base9 {w : World} {B C : Nat} {v : Value} {zs : List Int} (h : Own w B v zs) (hc : C ≤ B) : Own w C v zs := by
  obtain ⟨hl, h | ⟨g, cap, cur, hv, hg, r⟩⟩ := h
  · exact ⟨hl, .inl h⟩
  · exact ⟨hl, .inr ⟨g, cap, cur, hv, Nat.le_trans hc hg, r⟩⟩
theorem own_keep9 {w w' : World} {B : Nat} {v : Value} {zs : List Int} (h : Own w B v zs) (hb : Below w.heap.size w w') : Own w' B v zs := by
  refine World.ownsRow.kept h (fgb_below hb none) ?_
  cases hv : v.ownBlock with
  | none => exact .inl rfl
  | some k => exact .inr (by simp)
theorem put_own (B : Nat) (v : Value) (zs : List Int) (w : World) (h : Own w B v zs) (hr : ByteL zs) (hl : zs.length ≤ 100000) (hB : B ≤ w.heap.size) (n : Int) (h0 : 0 ≤ n) (h1 : n ≤ 18446744073709551615) :
    Calls Tryz.prog 107 #[v, .int .u64 n] w fun e w' => ∃ v', e = .returned v' ∧ Own w' B v' (zs ++ pu n) ∧ Below w.heap.size w w' := by
  obtain ⟨ao, cap, rfl, _, hbs, _⟩ := own_bs h (range_of hr)
  exact (put_any ao zs.length cap zs w n h0 h1 (by omega) hbs).mono fun e w' ⟨v', he, ho, hb⟩ => ⟨v', he, own_base9 ho hB, hb⟩
theorem bytel_app {a b : List Int} (ha : ByteL a) (hb : ByteL b) : ByteL (a ++ b) := cat_range ha hb
theorem uz5 {w : World} {p : Nat} {x0 x1 x2 x3 x4 : Int} {T : TypeId} (h : Ek w p #[.int .u64 x0, .int .u64 x1, .int .u64 x2, .int .u64 x3, .int .u64 x4] T) : Uz w p [x0, x1, x2, x3, x4] := by
  intro i z hz
  match i, hz with
  | 0, hz => exact h.cell (by simpa using hz)
  | 1, hz => exact h.cell (by simpa using hz)
  | 2, hz => exact h.cell (by simpa using hz)
  | 3, hz => exact h.cell (by simpa using hz)
  | 4, hz => exact h.cell (by simpa using hz)
  | k + 5, hz => simp at hz
theorem rows_more {ns : List Int} {k : Nat} {z : Int} (h : ns[k]? = some z) : rows ns (k + 1) = rows ns k ++ pu z := by
  rw [rows_succ ns k (List.getElem?_eq_some_iff.1 h).1]
  simp [List.getD, h]

set_option maxHeartbeats 2000000 in
theorem bodyof_any (da : Option Addr) (dn dc : Nat) (aa : Option Addr) (an ac : Nat) (E : Ed) (w : World) (hd : Zs w da dn dc E.d) (ha : Fs w aa an ac E.a) (hm : emay E = 0) (hu : 0 ≤ E.fl ∧ 0 ≤ E.ct ∧ 0 ≤ E.at9 ∧ 0 ≤ E.ls) :
    Calls Tryz.prog 78 #[edV da dn dc aa an ac E] w fun e w' => ∃ v, e = .returned v ∧ Own w' w.heap.size v (ebd E) ∧ Below w.heap.size w w' := by
  have hld := hd.1
  have hla := ha.1
  have HD := hide (fun W (hW : Below w.heap.size w W) => hd.below hW (Nat.le_refl _))
  have HA := hide (fun W (hW : Below w.heap.size w W) => ha.below hW (Nat.le_refl _))
  have hp := emay_parts hm
  have HE := hide (show ebd E = li E.d ++ (pu (E.a.length : Int) ++ (fbs E.a ++ rest [E.lg, E.fl, E.ct, E.at9, E.ls] 0)) from rfl)
  generalize ebd E = R at *
  obtain ⟨d, a, lg, fl, ct, at9, ls⟩ := E
  unfold edV
  simp only at hld hla HD HA HE hp hu ⊢
  rw [hla] at HE
  obtain ⟨⟨hp1, hp2⟩, hp3, hp4, hp5, hp6, hp7, hp8, hp9⟩ := hp
  have hdn : dn ≤ 40 := by omega
  have han : an ≤ 40 := by omega
  have HP3 := hide hp3
  have HP4 := hide hp4
  have hrd : ByteL (li d) := li_range d (urange_of fun z hz => by have := hp3 z hz; omega) (by omega)
  have hlld := (li_len d (by omega)).2
  have HRD := hide hrd
  have hwlg : IntKind.u64.wrap lg = lg := by
    simp [IntKind.wrap, IntKind.bits, IntKind.signed]
    omega
  have hwan : IntKind.u64.wrap (an : Int) = (an : Int) := by
    simp [IntKind.wrap, IntKind.bits, IntKind.signed]
    omega
  clear hd ha hm hp3 hp4 hrd
  have A0 := (Below.refl w.heap.size w).alloc (Nat.le_refl _) (Obj.cells #[.slice da dn dc, .slice aa an ac, .int .i64 lg, .int .u64 fl, .int .u64 ct, .int .u64 at9, .int .u64 ls] 34)
  have HB0 := hide A0
  have hK := hide (show ∀ W, Below (w.heap.size + 1) (w.alloc (Obj.cells #[.slice da dn dc, .slice aa an ac, .int .i64 lg, .int .u64 fl, .int .u64 ct, .int .u64 at9, .int .u64 ls] 34)) W → Ek W w.heap.size #[.slice da dn dc, .slice aa an ac, .int .i64 lg, .int .u64 fl, .int .u64 ct, .int .u64 at9, .int .u64 ls] 34 from fun W hW => (ek_new w _ _).below hW (by omega))
  clear A0
  go_enter Tryz.func78, Tryz.ntmps78
  go_wp2_with fail
  generalize hwa : w.alloc (Obj.cells #[.slice da dn dc, .slice aa an ac, .int .i64 lg, .int .u64 fl, .int .u64 ct, .int .u64 at9, .int .u64 ls] 34) = wa at *
  have hsa : wa.heap.size = w.heap.size + 1 := by rw [← hwa]; simp
  clear hwa
  have HBW := hide (show ∀ W, Below (w.heap.size + 1) wa W → Below w.heap.size w W ∧ w.heap.size + 1 ≤ W.heap.size from fun W hW => ⟨HB0.out.trans (hW.mono (by omega)), by have := hW.size; omega⟩)
  go_loopw [3, 14] (fun v s wr => ∃ k : Nat, k ≤ dn ∧ s = .int .i64 k ∧ Hid (OwnU wr (w.heap.size + 1) v (d.take k)) ∧ Hid (Below (w.heap.size + 1) wa wr)) (fun _ s _ => dn - (intOf s).toNat)
  case atStart => exact ⟨0, by omega, rfl, hide (ownU_nil _ _), hide (Below.refl _ _)⟩
  case round =>
    obtain ⟨k, hk, rfl, hown, hbel⟩ := hrel
    by_cases hlt : k < dn
    · obtain ⟨z, b, off, hz, rfl, hc, hz1, hz2⟩ := zs_at (HD.out wr (HBW.out wr hbel.out).1) k hlt
      have hzr := HP3.out z (List.mem_of_getElem? hz)
      have hwz : IntKind.u64.wrap z = z := by
        simp [IntKind.wrap, IntKind.bits, IntKind.signed]
        omega
      have HT := hide (show d.take (k + 1) = d.take k ++ [z] from by rw [List.take_add_one, hz]; rfl)
      have HLT := hide (show (d.take k).length ≤ 100000 from by rw [List.length_take]; omega)
      have A1 := (Below.refl _ wr).alloc (Nat.le_refl _) (Obj.cells #[.int .u64 z] 29)
      have HO1 := hide (ownU_below hown.out A1)
      have HE1 := hide (ek_new wr #[.int .u64 z] 29)
      have HS1 := hide (Nat.le_trans (HBW.out wr hbel.out).2 A1.size)
      have HB1 := hide (hbel.out.trans (A1.mono (HBW.out wr hbel.out).2))
      clear hz hz1 hz2 A1
      go_wp2_with (first
        | (at_builtin; refine wpList_append_u rfl _ _ rfl (w.heap.size + 1) _ (d.take k) rfl HO1.out wr.heap.size z rfl HE1.out HLT.out HS1.out ?_; intro v2 w2 o2 g2 k2; have HO2 := hide o2; have HB2 := hide (HB1.out.grown g2 HS1.out k2); clear o2 g2 k2)
        | fail)
      go_roundw
      case rel => exact ⟨k + 1, by omega, by go_num, hide (by rw [HT.out]; exact HO2.out), HB2⟩
      case measure => simp [intOf]; omega
    · obtain rfl : k = dn := by omega
      have hown2 := hown.out
      rw [List.take_of_length_le (by omega)] at hown2
      obtain ⟨au, cu, hvu, hus⟩ := ownU_us hown2 (fun z hz => by have := HP3.out z hz; omega)
      rw [hld] at hvu hus
      subst hvu
      have HB1 := hide hbel.out
      have CL := hide (list_any none 0 0 [] au k cu d wr (by omega) (bs_nil wr) (by omega) hus)
      have HBB := hide (HBW.out wr hbel.out)
      clear hown hown2 hus hbel
      go_wp2_with fail
      refine CL.out.mono ?_
      rintro e w2 ⟨v2, rfl, ho2, hb2⟩
      rw [List.nil_append] at ho2
      have HB2 := hide (HB1.out.trans (hb2.mono HBB.out.2))
      have HO2 := hide (own_base9 ho2 HBB.out.2)
      have k1 : w2.cell? ⟨w.heap.size, 1, none⟩ = some (.slice aa an ac) := (hK.out w2 HB2.out).cell rfl
      have CP := hide (put_own (w.heap.size + 1) v2 (li d) w2 HO2.out HRD.out (by omega) (HBW.out w2 HB2.out).2 (an : Int) (by omega) (by omega))
      clear CL ho2 hb2 HB1 HBB
      go_wp2_with fail
      refine CP.out.mono ?_
      rintro e w3 ⟨v3, rfl, ho3, hb3⟩
      have HB3 := hide (HB2.out.trans (hb3.mono (HBW.out w2 HB2.out).2))
      have HO3 := hide ho3
      have hrp := pu_range (an : Int) (by omega) (by omega)
      have hlp := (pu_len (an : Int)).2
      have k1 : w3.cell? ⟨w.heap.size, 1, none⟩ = some (.slice aa an ac) := (hK.out w3 HB3.out).cell rfl
      obtain ⟨pre, hpre⟩ : ∃ pre, li d ++ pu (an : Int) = pre := ⟨_, rfl⟩
      have HPR := hide (show ByteL pre from by rw [← hpre]; exact bytel_app HRD.out hrp)
      have hpl : pre.length ≤ 420 := by rw [← hpre, List.length_append]; omega
      have HRR : Hid (R = pre ++ (fbs a ++ rest [lg, fl, ct, at9, ls] 0)) := hide (by rw [HE.out, ← hpre, List.append_assoc])
      rw [hpre] at HO3
      clear CP ho3 hb3 HB2 HO2 hpre hrp hlp HE HRD hlld
      go_wp2_with fail
      go_loopw [6, 35] (fun v s wr => ∃ j : Nat, j ≤ an ∧ s = .int .i64 j ∧ Hid (Own wr (w.heap.size + 1) v (pre ++ fbs (a.take j))) ∧ Hid (Below (w.heap.size + 1) wa wr)) (fun _ s _ => an - (intOf s).toNat)
      case atStart => exact ⟨0, by omega, rfl, hide (by simpa [fbs] using HO3.out), HB3⟩
      case round =>
        obtain ⟨j, hj, rfl, hown, hbel⟩ := hrel
        clear k1
        by_cases hlt2 : j < an
        · obtain ⟨f, b, off, hf, rfl, c0, c1, hfw⟩ := fs_at (HA.out _ (HBW.out _ hbel.out).1) j hlt2
          have hfr := HP4.out f (List.mem_of_getElem? hf)
          have HFT := hide (fbs_take hf)
          obtain ⟨fL, fN⟩ := f
          simp only at c0 c1 hfr HFT
          have hwL : IntKind.u64.wrap fL = fL := by
            simp [IntKind.wrap, IntKind.bits, IntKind.signed]
            omega
          have hwN : IntKind.u64.wrap fN = fN := by
            simp [IntKind.wrap, IntKind.bits, IntKind.signed]
            omega
          obtain ⟨pj, hpj⟩ : ∃ pj, pre ++ fbs (a.take j) = pj := ⟨_, rfl⟩
          have HPJ := hide hpj
          have hpjl : pj.length ≤ 2000 := by
            rw [← hpj, List.length_append]
            have := fbs_len (a.take j)
            rw [List.length_take] at this
            omega
          have HRJ := hide (show ByteL pj from by rw [← hpj]; exact bytel_app HPR.out (fbs_range _ fun g hg => HP4.out g (List.mem_of_mem_take hg)))
          rw [hpj] at hown
          have A1 := (Below.refl _ wr).alloc (Nat.le_refl _) (Obj.cells #[.int .i64 fL, .int .i64 fN] 99)
          have HB4 := hide (hbel.out.trans (A1.mono (HBW.out wr hbel.out).2))
          have HO4 := hide (own_keep9 hown.out A1)
          have C1 := hide (put_own (w.heap.size + 1) u6 pj _ HO4.out HRJ.out (by omega) (HBW.out _ HB4.out).2 fL (by omega) (by omega))
          clear hf hfw hpj A1
          go_wp2_with fail
          refine C1.out.mono ?_
          rintro e w4 ⟨v4, rfl, ho4, hb4⟩
          have HB5 := hide (HB4.out.trans (hb4.mono (HBW.out _ HB4.out).2))
          have hek : w4.cell? ⟨wr.heap.size, 1, none⟩ = some (.int .i64 fN) := ((ek_new wr #[.int .i64 fL, .int .i64 fN] 99).below hb4 (by simp)).cell rfl
          have hl1 := (pu_len fL).2
          have C2 := hide (put_own (w.heap.size + 1) v4 (pj ++ pu fL) w4 ho4 (bytel_app HRJ.out (pu_range fL (by omega) (by omega))) (by rw [List.length_append]; omega) (HBW.out _ HB5.out).2 fN (by omega) (by omega))
          clear C1 ho4 hb4 HO4
          go_wp2_with fail
          refine C2.out.mono ?_
          rintro e w5 ⟨v5, rfl, ho5, hb5⟩
          have HB6 := hide (HB5.out.trans (hb5.mono (HBW.out _ HB5.out).2))
          have HO5 := hide (show Own w5 (w.heap.size + 1) v5 (pre ++ fbs (a.take (j + 1))) from by rw [HFT.out, ← List.append_assoc, HPJ.out, ← List.append_assoc]; exact ho5)
          clear C2 ho5 hb5 hek c0 c1
          go_wp2
          go_roundw
          case rel => exact ⟨j + 1, by omega, by go_num, HO5, HB6⟩
          case measure => simp [intOf]; omega
        · obtain rfl : j = an := by omega
          have hown2 := hown.out
          rw [List.take_of_length_le (by omega)] at hown2
          obtain ⟨pj, hpj⟩ : ∃ pj, pre ++ fbs a = pj := ⟨_, rfl⟩
          have hpjl : pj.length ≤ 2000 := by
            rw [← hpj, List.length_append]
            have := fbs_len a
            omega
          have HRJ := hide (show ByteL pj from by rw [← hpj]; exact bytel_app HPR.out (fbs_range _ HP4.out))
          have HR2 : Hid (R = pj ++ rest [lg, fl, ct, at9, ls] 0) := hide (by rw [HRR.out, ← hpj, List.append_assoc])
          rw [hpj] at hown2
          have HO6 := hide hown2
          have HB6 := hide hbel.out
          have kk := hK.out _ hbel.out
          have k2 : wr.cell? ⟨w.heap.size, 2, none⟩ = some (.int .i64 lg) := kk.cell rfl
          have k3 : wr.cell? ⟨w.heap.size, 3, none⟩ = some (.int .u64 fl) := kk.cell rfl
          have k4 : wr.cell? ⟨w.heap.size, 4, none⟩ = some (.int .u64 ct) := kk.cell rfl
          have k5 : wr.cell? ⟨w.heap.size, 5, none⟩ = some (.int .u64 at9) := kk.cell rfl
          have k6 : wr.cell? ⟨w.heap.size, 6, none⟩ = some (.int .u64 ls) := kk.cell rfl
          have A1 := (Below.refl _ wr).alloc (Nat.le_refl _) (Obj.cells #[.int .u64 lg, .int .u64 fl, .int .u64 ct, .int .u64 at9, .int .u64 ls] 29)
          have HB7 := hide (hbel.out.trans (A1.mono (HBW.out wr hbel.out).2))
          have HO7 := hide (own_keep9 hown2 A1)
          have HUZ := hide (show ∀ W, Below (wr.heap.size + 1) (wr.alloc (Obj.cells #[.int .u64 lg, .int .u64 fl, .int .u64 ct, .int .u64 at9, .int .u64 ls] 29)) W → Uz W wr.heap.size [lg, fl, ct, at9, ls] from fun W hW => uz5 ((ek_new wr _ _).below hW (Nat.lt_succ_self _)))
          obtain ⟨ns, hns⟩ : ∃ ns, [lg, fl, ct, at9, ls] = ns := ⟨_, rfl⟩
          have hnl : ns.length = 5 := by rw [← hns]; rfl
          have HNR := hide (show ∀ z ∈ ns, 0 ≤ z ∧ z ≤ 18446744073709551615 from by
            rw [← hns]
            intro z hz
            simp at hz
            omega)
          rw [hns] at HUZ HR2
          clear kk hown hown2 hbel A1 hpj HO3 HB3 HRR HPR hpl HP4 HP3 hns
          go_wp2_with fail
          generalize hwb : wr.alloc (Obj.cells #[.int .u64 lg, .int .u64 fl, .int .u64 ct, .int .u64 at9, .int .u64 ls] 29) = wb at *
          have hsb : wb.heap.size = wr.heap.size + 1 := by rw [← hwb]; simp
          clear hwb k2 k3 k4 k5 k6
          obtain ⟨Bq, hBq⟩ : ∃ Bq, wr.heap.size = Bq := ⟨_, rfl⟩
          rw [hBq] at hsb HUZ
          have hBqw : w.heap.size + 1 ≤ Bq := by rw [← hBq]; exact (HBW.out _ HB6.out).2
          rw [hBq]
          clear hBq HO6 HB6
          go_loopw [6, 63] (fun v s wq => ∃ i : Nat, i ≤ 5 ∧ s = .int .i64 i ∧ Hid (Own wq (w.heap.size + 1) v (pj ++ rows ns i)) ∧ Hid (Below (Bq + 1) wb wq)) (fun _ s _ => 5 - (intOf s).toNat)
          case atStart => exact ⟨0, by omega, rfl, hide (by simpa [rows] using HO7.out), hide (Below.refl _ _)⟩
          case round =>
            obtain ⟨i, hi, rfl, hown, hbel⟩ := hrel
            have hbig := hide (show Below (w.heap.size + 1) wa _ from HB7.out.trans (hbel.out.mono (by omega)))
            by_cases hlt3 : i < 5
            · obtain ⟨z, hz⟩ : ∃ z, ns[i]? = some z := ⟨_, List.getElem?_eq_getElem (by rw [hnl]; exact hlt3)⟩
              have hcz := HUZ.out _ hbel.out i z hz
              have hzr := HNR.out z (List.mem_of_getElem? hz)
              have hq3 : (i : Int) < 5 := by omega
              have HRM := hide (rows_more hz)
              have hrl := rows_len ns i (by omega)
              have C1 := hide (put_own (w.heap.size + 1) u6 (pj ++ rows ns i) _ hown.out (bytel_app HRJ.out (rows_range ns (urange_of HNR.out) i)) (by rw [List.length_append]; omega) (HBW.out _ hbig.out).2 z (by omega) (by omega))
              clear hz
              go_wp2_with fail
              refine C1.out.mono ?_
              rintro e w7 ⟨v7, rfl, ho7, hb7⟩
              have HO8 := hide (show Own w7 (w.heap.size + 1) v7 (pj ++ rows ns (i + 1)) from by rw [HRM.out, ← List.append_assoc]; exact ho7)
              have HB8 := hide (hbel.out.trans (hb7.mono (by have := hbel.out.size; omega)))
              clear C1 ho7 hb7 hcz
              go_wp2
              go_roundw
              case rel => exact ⟨i + 1, by omega, by go_num, HO8, HB8⟩
              case measure => simp [intOf]; omega
            · have hi5 : i = 5 := by omega
              have hq4 : ¬ ((i : Int) < 5) := by omega
              have hown2 := hown.out
              rw [rows_all ns i (by omega), ← HR2.out] at hown2
              have HO9 := hide hown2
              clear hown hown2 hi5
              go_wp2
              go_ret
              exact ⟨_, rfl, own_base9 HO9.out (by omega), (HBW.out _ hbig.out).1⟩

end Go.Proofs.YtcahlmneancapaaGreatDoor.Clep
