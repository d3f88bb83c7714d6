/- What merge.Rows does when called: for any rows of items, they are laid together by halves. Conditions: at most a thousand rows, a hundred thousand items. -/
import Derived.Test.YtkkcchklefcljaaVPairW
namespace Go.Proofs.Ytkkcchklefcljaa.Clep
open Go.RowKit
set_option linter.unusedVariables false

/-- The slice (a, n, c) leads to the rows ls laid together. -/
structure Rs (w : World) (a : Option Addr) (n c : Nat) (ls : List (List It)) (L : List It) : Prop where
  mrg : Mrg ls L
  is : Is w a n c L
  cap : c ≤ 9223372036854775807
/-- The answer is a row of the call's own: the rows ls laid together. -/
def AnsM (ls : List (List It)) (w : World) (e : Ending) (w' : World) : Prop := ∃ L a n c, e = .returned (.slice a n c) ∧ Rs w' a n c ls L ∧ Below w.heap.size w w' ∧ OwnI w' w.heap.size (.slice a n c) L
theorem ansM_own {ls : List (List It)} {L : List It} {w w' : World} {v : Value} (ho : OwnI w' w.heap.size v L) (hw : ∀ x ∈ L, x.wf) (hm : Mrg ls L) (hb : Below w.heap.size w w') : AnsM ls w (.returned v) w' := by
  obtain ⟨a, c, rfl, hc, hi, _⟩ := ownI_is ho hw
  exact ⟨L, a, L.length, c, rfl, ⟨hm, hi, hc⟩, hb, ho⟩
/-- A call of merge.Rows that lays ls together. -/
def Rq (w : World) (a : Option Addr) (n c : Nat) (ls : List (List It)) : Prop := ∀ W, Below w.heap.size w W → Calls Try.prog 10 #[.slice a n c] W (AnsM ls W)
theorem pair_m {W1 W2 W : World} {a b : Option Addr} {n c m d : Nat} {ls ms : List (List It)} {L M : List It} (h1 : Rs W1 a n c ls L) (h2 : Rs W2 b m d ms M) (hl : (ls ++ ms).flatten.length ≤ 100000) (hb1 : Below W1.heap.size W1 W) (hb2 : Below W2.heap.size W2 W) :
    Calls Try.prog 26 #[.slice a n c, .slice b m d] W (AnsM (ls ++ ms) W) := by
  rw [List.flatten_append, List.length_append] at hl
  have l1 := h1.mrg.len
  have l2 := h2.mrg.len
  have n1 := h1.is.1
  have n2 := h2.is.1
  refine (pair_any a b n c m d L M W (h1.is.below hb1 (Nat.le_refl _)) (h2.is.below hb2 (Nat.le_refl _)) (by omega) (by omega) h1.cap h2.cap).mono ?_
  rintro e w' ⟨v, rfl, ho, hb⟩
  refine ansM_own ho (fun x hx => ?_) (mrg_mg h1.mrg h2.mrg) hb
  rcases mg_mem L M x hx with e | e
  · exact h1.is.2.2.1 x e
  · exact h2.is.2.2.1 x e
theorem flat_len (zs : List Sl) : (zs.map Sl.l).flatten.length = sumL zs := by
  unfold sumL
  rw [List.length_flatten, List.map_map]
  rfl
set_option maxRecDepth 100000 in
set_option maxHeartbeats 2000000 in
theorem mrows_any : ∀ (N : Nat) (a : Option Addr) (n c : Nat) (zs : List Sl) (w : World), n ≤ N → Rws w a n c zs → c ≤ 9223372036854775807 → n ≤ 1000 → sumL zs ≤ 100000 → Calls Try.prog 10 #[.slice a n c] w (AnsM (zs.map Sl.l) w) := by
  intro N
  induction N with
  | zero =>
    intro a n c zs w hN h hc hn hs
    obtain rfl : n = 0 := by omega
    have hz : zs = [] := List.eq_nil_of_length_eq_zero h.1
    subst hz
    clear h
    go_enter Try.func10, Try.ntmps10
    go_wp2
    go_ret
    exact ⟨[], none, 0, 0, rfl, ⟨mrg_nil, is_nil _, by omega⟩, Below.refl _ _, ownI_nil _ _⟩
  | succ N ih =>
    intro a n c zs w hN h hc hn hs
    by_cases h0 : n = 0
    · exact ih a n c zs w (by omega) h hc hn hs
    · obtain ⟨b0, off, ea, hcell⟩ := h.2.2.2 (by omega)
      subst ea
      by_cases h1 : n = 1
      · subst h1
        obtain ⟨z, hz⟩ : ∃ z, zs = [z] := List.length_eq_one_iff.1 h.1
        subst hz
        have hz := hcell 0 z rfl
        have hzi := h.2.2.1 z (by simp)
        rw [Nat.add_zero] at hz
        have hzl : z.l.length ≤ 100000 := by simpa [sumL] using hs
        have hzn := hzi.1.1
        have CC := hide (clone_all z.a z.n z.c z.l w hzi.1 (by omega))
        have HWF := hide hzi.1.2.2.1
        obtain ⟨za, zn, zc, zl⟩ := z
        simp only at hz CC HWF
        clear hzi h hcell ih hs
        go_enter Try.func10, Try.ntmps10
        go_wp2_with fail
        refine CC.out.mono ?_
        rintro e w1 ⟨v, rfl, ho, hb⟩
        have HA := hide (ansM_own ho HWF.out (mrg_one zl) hb)
        clear ho hb CC
        go_wp2
        go_ret
        exact HA.out
      · have hh : n / 2 < n ∧ 1 ≤ n / 2 ∧ n - n / 2 < n := by omega
        have c1 := h.cut 0 (n / 2) (by omega) (by omega)
        have c2 := h.cut (n / 2) n (by omega) (Nat.le_refl _)
        have hlc := h.2.1.1
        rw [List.take_of_length_le (by rw [h.1]; omega)] at c2
        rw [List.drop_zero, Nat.sub_zero, Nat.sub_zero] at c1
        have hsum : sumL (zs.take (n / 2)) + sumL (zs.drop (n / 2)) = sumL zs := by
          unfold sumL
          conv => rhs; rw [← List.take_append_drop (n / 2) zs, List.map_append, List.sum_append]
        have R1 : Rq w (scut (some ⟨b0, off, none⟩) c 0) (n / 2) c ((zs.take (n / 2)).map Sl.l) := fun W hW => ih _ _ _ _ W (by omega) (c1.below hW (Nat.le_refl _)) hc (by omega) (by omega)
        have R2 : Rq w (scut (some ⟨b0, off, none⟩) c (n / 2)) (n - n / 2) (c - n / 2) ((zs.drop (n / 2)).map Sl.l) := fun W hW => ih _ _ _ _ W (by omega) (c2.below hW (Nat.le_refl _)) (by omega) (by omega) (by omega)
        have E1 : Hid ((zs.take (n / 2)).map Sl.l ++ (zs.drop (n / 2)).map Sl.l = zs.map Sl.l) := hide (by rw [← List.map_append, List.take_append_drop])
        obtain ⟨H, hH⟩ : ∃ H, n / 2 = H := ⟨_, rfl⟩
        have s1 := fun W => scut_h W (some ⟨b0, off, none⟩) n c .i64 (H : Int) (by omega) (by omega)
        have s2 := fun W => scut_l W (some ⟨b0, off, none⟩) n c .i64 (H : Int) (by omega) (by omega)
        rw [hH] at R1 R2 E1
        rw [show ((H : Int)).toNat = H by omega] at s1 s2
        have hdv : (n : Int) / 2 = (H : Int) := by omega
        have hfl : Hid ((zs.map Sl.l).flatten.length ≤ 100000) := hide (by rw [flat_len]; exact hs)
        generalize scut (some ⟨b0, off, none⟩) c 0 = A1 at *
        generalize scut (some ⟨b0, off, none⟩) c H = A2 at *
        generalize n - H = H2 at *
        generalize c - H = C2 at *
        generalize (zs.take H).map Sl.l = l1 at *
        generalize (zs.drop H).map Sl.l = l2 at *
        generalize zs.map Sl.l = lz at *
        clear c1 c2 hsum ih h hs hcell hH hh
        go_enter Try.func10, Try.ntmps10
        go_wp2_with fail
        have hb0 : Below w.heap.size w w.drew := (Below.refl _ _).drew
        have HT := hide (fun W1 W2 (h1 : Below w.heap.size w W1) (h2 : Below W1.heap.size W1 W2) => bmore h1 h2)
        have P9 := hide (fun W1 W2 L1 L2 a1 a2 m1 m2 k1 k2 (h1 : Rs W1 a1 m1 k1 l1 L1) (h2 : Rs W2 a2 m2 k2 l2 L2) (hb : Below W1.heap.size W1 W2) => pair_m h1 h2 (by rw [E1.out]; exact hfl.out) hb (Below.refl _ _))
        go_region_held_law (fun W => Below w.heap.size w W)
          (with_reducible assumption)
          (first
          | (go_at_call 10; refine (R2 _ k5).mono ?_; rintro e w6 ⟨L6, a6, n6, c6, rfl, rs6, hb6, ho6⟩; clear ho6; have k6 := HT.out _ _ k5 hb6)
          | (go_at_call 10; refine (R1 _ hb0).mono ?_; rintro e w5 ⟨L5, a5, n5, c5, rfl, rs5, hb5, ho5⟩; clear ho5; have k5 := HT.out _ _ hb0 hb5)
          | (go_at_call 26; refine (P9.out _ _ _ _ _ _ _ _ _ _ rs5 rs6 hb6).mono ?_; rintro e w9 ⟨L9, a9, n9, c9, rfl, rs9, hb9, ho9⟩; have k9 := HT.out _ _ k6 hb9))
        have HA := hide (show AnsM lz w (.returned (.slice a9 n9 c9)) w9 from ⟨L9, a9, n9, c9, rfl, by rw [← E1.out]; exact rs9, k9, ownI_base ho9 k6.size⟩)
        clear R1 R2 P9 rs5 rs6 rs9 hb5 hb6 hb9 ho9 k5 k6 k9
        go_wp2
        go_ret
        exact HA.out

end Go.Proofs.Ytkkcchklefcljaa.Clep
