/- What the function in merge.Clean, slices.IndexFunc and slices.DeleteFunc by it do when called: what is hidden is struck from a row of the call's own. Conditions: at most a million items. -/
import Derived.Test.YtkkcchklefcljaaVDel
import Derived.Laws.OwnMore
import Derived.Laws.IdiomCopy
import Derived.Deep.Upon
namespace Go.Proofs.Ytkkcchklefcljaa.Clep
open Go.RowKit
set_option linter.unusedVariables false

theorem cvs_set5 (l : List It) (k : Nat) (x : It) (hk : k < l.length) : cvs (l.set k x) = (((((cvs l).set (k * 5) (.int .i64 x.S)).set (k * 5 + 1) (.int .i64 x.K)).set (k * 5 + 2) (.int .u64 x.T)).set (k * 5 + 3) (.int .u64 x.V)).set (k * 5 + 4) (.int .i64 x.X) := by
  obtain ⟨p, y, q, rfl, hp⟩ : ∃ p y q, l = p ++ y :: q ∧ p.length = k := ⟨l.take k, l[k], l.drop (k + 1), by rw [← List.drop_eq_getElem_cons hk, List.take_append_drop], by rw [List.length_take]; omega⟩
  have e1 : (p ++ y :: q).set k x = p ++ x :: q := by rw [← hp, List.set_append_right _ _ (Nat.le_refl _)]; simp
  have e2 : ∀ z, cvs (p ++ z :: q) = cvs p ++ (cv z ++ cvs q) := fun z => by simp [cvs]
  have hP : (cvs p).length = k * 5 := by rw [cvs_len, hp]
  rw [e1, e2, e2]
  generalize cvs p = P at *
  generalize cvs q = Q at *
  simp [hP, cv]
def set5 (w : World) (g o : Nat) (x : It) : World := ((((w.setCell ⟨g, o, none⟩ (.int .i64 x.S)).setCell ⟨g, o + 1, none⟩ (.int .i64 x.K)).setCell ⟨g, o + 2, none⟩ (.int .u64 x.T)).setCell ⟨g, o + 3, none⟩ (.int .u64 x.V)).setCell ⟨g, o + 4, none⟩ (.int .i64 x.X)
theorem set5_own {w : World} {B g n cap : Nat} {l : List It} (h : OwnI w B (.slice (some ⟨g, 0, none⟩) n cap) l) (hn : l.length = n) (k : Nat) (x : It) (hk : k < l.length) : OwnI (set5 w g (k * 5) x) B (.slice (some ⟨g, 0, none⟩) n cap) (l.set k x) := by
  unfold OwnI at *
  rw [List.length_set, cvs_set5 l k x hk, hn]
  rw [hn] at h
  exact ((((h.stored (k * 5) _).1.stored (k * 5 + 1) _).1.stored (k * 5 + 2) _).1.stored (k * 5 + 3) _).1.stored (k * 5 + 4) _ |>.1
theorem set5_gb (w : World) (g o : Nat) (x : It) : w.grownBy (set5 w g o x) (some g) :=
  ((((gb_set w ⟨g, o, none⟩ _).trans (gb_set _ ⟨g, o + 1, none⟩ _)).trans (gb_set _ ⟨g, o + 2, none⟩ _)).trans (gb_set _ ⟨g, o + 3, none⟩ _)).trans (gb_set _ ⟨g, o + 4, none⟩ _)
theorem setCells_gb (b : Nat) : ∀ (vs : List Value) (o : Nat) (w : World), w.grownBy (w.setCells b o vs) (some b)
  | [], o, w => gb_below (Below.refl _ _) _
  | v :: r, o, w => (gb_set w ⟨b, o, none⟩ v).trans (setCells_gb b r (o + 1) _)
set_option maxRecDepth 100000 in
set_option maxHeartbeats 1000000 in
theorem clean1_any (P B n : Nat) (g : Int → It) (x : It) (w : World) (hc : w.cell? ⟨P, 0, none⟩ = some (.map (some B))) (hM : Mpg w B n g) (hx : x.wf) :
    Calls Try.prog 31 #[.agg #[.int .i64 x.S, .int .i64 x.K, .int .u64 x.T, .int .u64 x.V, .int .i64 x.X], .pointer (some ⟨P, 0, none⟩)] w fun e w' => e = .returned (.bool ((g x.S).hides x)) ∧ Below w.heap.size w w' := by
  have A1 := (Below.refl _ w).alloc (Nat.le_refl _) (Obj.cells #[.int .i64 x.S, .int .i64 x.K, .int .u64 x.T, .int .u64 x.V, .int .i64 x.X] 36)
  have hlook := (hM.keep A1).look hx.1
  have hlt := World.block_lt_of_cell? w _ hc
  have hc1 := (A1.cell (p := ⟨P, 0, none⟩) hlt).trans hc
  obtain ⟨y, hy⟩ : ∃ y, g x.S = y := ⟨_, rfl⟩
  rw [hy] at hlook ⊢
  unfold ivL at hlook
  have HH := hide (fun W => hides_any y.S y.K y.T y.V y.X x.S x.K x.T x.V x.X W)
  have HA := hide A1
  obtain ⟨S, K, T, V, X⟩ := x
  obtain ⟨gS, gK, gT, gV, gX⟩ := y
  simp only at hlook hc1 HH HA
  obtain ⟨o, ho⟩ : ∃ o, hidesI gS gK gV S K V = o := ⟨_, rfl⟩
  rw [ho] at HH
  have HO := hide (show It.hides ⟨gS, gK, gT, gV, gX⟩ ⟨S, K, T, V, X⟩ = o from ho)
  clear A1 hM hx hy ho hc hlt
  go_enter Try.func31, Try.ntmps31
  go_wp2_with (first | (go_at_call 32; refine (HH.out _).mono ?_; rintro e w1 ⟨rfl, hb1⟩; have B1 := hide (bmore HA.out hb1)))
  go_ret
  exact ⟨by rw [HO.out]; rfl, B1.out⟩
/-- The function in merge.Clean says p of the items of l, also where the block row has changed. -/
def Pdl (w : World) (P : Nat) (p : It → Bool) (l : List It) (row : Option Nat) : Prop := ∀ W, w.grownBy W row → ∀ x ∈ l, Calls Try.prog 31 #[.agg #[.int .i64 x.S, .int .i64 x.K, .int .u64 x.T, .int .u64 x.V, .int .i64 x.X], .pointer (some ⟨P, 0, none⟩)] W fun e w' => e = .returned (.bool (p x)) ∧ Below W.heap.size W w'
theorem pdl_of {w : World} {P B n : Nat} {g : Int → It} {l : List It} {row : Option Nat} (hc : w.cell? ⟨P, 0, none⟩ = some (.map (some B))) (hM : Mpg w B n g) (hl : ∀ x ∈ l, x.wf) (h1 : some P ≠ row) (h2 : some B ≠ row) : Pdl w P (fun x => (g x.S).hides x) l row :=
  fun W hW x hx => clean1_any P B n g x W (gb_cell hW _ hc h1) (hM.kept hW h2) (hl x hx)
set_option maxRecDepth 100000 in
set_option maxHeartbeats 1000000 in
theorem indexf_any (a : Option Addr) (n c P : Nat) (l : List It) (p : It → Bool) (row : Option Nat) (w : World) (h : Is w a n c l) (hn : n ≤ 1000000) (hp : Pdl w P p l row) :
    Calls Try.prog 41 #[.slice a n c, .func (.func 31) #[] #[.pointer (some ⟨P, 0, none⟩)]] w fun e w' => Below w.heap.size w w' ∧ ((e = .returned (.int .i64 (-1)) ∧ ∀ x ∈ l, p x = false) ∨ ∃ k x, e = .returned (.int .i64 ((k : Nat) : Int)) ∧ k < n ∧ l[k]? = some x ∧ p x = true ∧ ∀ y ∈ l.take k, p y = false) := by
  have hl := h.1
  have H0 := hide (fun W (hW : Below w.heap.size w W) => h.below hW (Nat.le_refl _))
  have HP := hide (fun W (hW : Below w.heap.size w W) => hp W (gb_below hW _))
  clear h hp
  go_enter Try.func41, Try.ntmps41
  go_wp2_with fail
  go_loopw [5, 8] (fun s5 s8 wr => ∃ k : Nat, k ≤ n ∧ s8 = .int .i64 k ∧ Hid (Below w.heap.size w wr) ∧ Hid (∀ y ∈ l.take k, p y = false)) (fun _ s8 _ => n - (intOf s8).toNat)
  case atStart => exact ⟨0, by omega, rfl, hide (Below.refl _ _), hide (by simp)⟩
  case round =>
    obtain ⟨k, hk, rfl, hB, hY⟩ := hrel
    by_cases hlt : k < n
    · obtain ⟨b0, off, ea, hc⟩ := (H0.out _ hB.out).2.2.2 (by omega)
      subst ea
      obtain ⟨x, hx⟩ : ∃ x, l[k]? = some x := ⟨_, List.getElem?_eq_getElem (by rw [hl]; exact hlt)⟩
      have hv := hc k x hx
      have HX := hide hx
      have hxm := List.mem_of_getElem? hx
      have CP := hide (fun W hW => HP.out W hW x hxm)
      have HT := hide (show l.take (k + 1) = l.take k ++ [x] by rw [List.take_add_one, hx]; rfl)
      obtain ⟨o, ho⟩ : ∃ o, p x = o := ⟨_, rfl⟩
      rw [ho] at CP
      have HO := hide ho
      obtain ⟨S, K, T, V, X⟩ := x
      unfold Vt Vi at hv
      simp only at hv CP
      obtain ⟨v0, v1, v2, v3, v4⟩ := hv
      clear hc hx hxm ho
      cases o with
      | false =>
        go_wp2_with (first | (go_at_call 31; refine (CP.out _ hB.out).mono ?_; rintro e w1 ⟨rfl, hb1⟩))
        have B1 := hide (bmore hB.out hb1)
        go_roundw
        case rel => exact ⟨k + 1, by omega, by go_num, B1, hide (by
          rw [HT.out]
          intro y hy
          rcases List.mem_append.1 hy with e | e
          · exact hY.out y e
          · rw [List.mem_singleton.1 e]; exact HO.out)⟩
        case measure => simp [intOf]; omega
      | true =>
        go_wp2_with (first | (go_at_call 31; refine (CP.out _ hB.out).mono ?_; rintro e w1 ⟨rfl, hb1⟩))
        have B1 := hide (bmore hB.out hb1)
        go_ret
        exact ⟨B1.out, .inr ⟨k, _, rfl, hlt, HX.out, HO.out, hY.out⟩⟩
    · obtain rfl : k = n := by omega
      have HE := hide (show l.take k = l by rw [← hl]; exact List.take_length)
      rw [HE.out] at hY
      go_wp2
      go_ret
      exact ⟨hB.out, .inl ⟨rfl, hY.out⟩⟩

end Go.Proofs.Ytkkcchklefcljaa.Clep
