/- A map of items by their series; what merge.deletes does when called: of each series the delete that hides most. Conditions: at most a million items. -/
import Derived.Test.YtkkcchklefcljaaVRows
import Derived.Maps.OwnSet
import Derived.Maps.OwnOps
import Derived.Maps.Views
import Derived.WalkSpells
namespace Go.Proofs.Ytkkcchklefcljaa.Clep
open Go.RowKit Go.Maps
set_option linter.unusedVariables false

/-- An item of a map, as a datum. -/
def itD (x : It) : DataW Unit := .agg [.lit (.int .i64 x.S), .lit (.int .i64 x.K), .lit (.int .u64 x.T), .lit (.int .u64 x.V), .lit (.int .i64 x.X)]
def itR : Value → Option (DataW Unit × List MemPlace)
  | .agg a => match a.toList with
    | [.int .i64 S, .int .i64 K, .int .u64 T, .int .u64 V, .int .i64 X] => some (itD ⟨S, K, T, V, X⟩, [])
    | _ => none
  | _ => none
theorem itR_mk (x : It) : itR (ivL x) = some (itD x, []) := rfl
theorem itR_inv {v : Value} {z : DataW Unit × List MemPlace} (h : itR v = some z) : ∃ x : It, v = ivL x ∧ z = (itD x, []) := by
  unfold itR at h
  split at h
  · rename_i a
    split at h
    · rename_i S K T V X e
      injection h with h
      refine ⟨⟨S, K, T, V, X⟩, ?_, h.symm⟩
      unfold ivL
      rw [← Array.toArray_toList (xs := a), e]
    · cases h
  · cases h
theorem itD_inj {x y : It} (h : itD x = itD y) : x = y := by
  unfold itD at h
  simp only [DataW.agg.injEq, List.cons.injEq, DataW.lit.injEq, Lit.int.injEq, true_and, and_true] at h
  exact it_ext h.1 h.2.1 h.2.2.1 h.2.2.2.1 h.2.2.2.2
theorem field_V (w : World) (S K T V X : Int) : (Instr.field 36 (.agg #[.int .i64 S, .int .i64 K, .int .u64 T, .int .u64 V, .int .i64 X]) 3).run Try.prog w = .ok (.int .u64 V) w := by kernel_rfl
theorem lawK : Keyed Try.prog 3 := int_keyed Try.underlying3
def zI : It := ⟨0, 0, 0, 0, 0⟩
theorem zeroI (w : World) : (zeroValue 36).run Try.prog w = .ok (ivL zI) w := by kernel_rfl
/-- Block B is a map of items that says g. -/
def Mpg (w : World) (B n : Nat) (g : Int → It) : Prop := ∃ D : DataW Unit, w.ownsMap Try.prog 3 itR B n D ∧ ∀ s : Int, D.atKey (.int .i64 s) (itD zI) = itD (g s)
theorem Mpg.kept {w w' : World} {row : Option Nat} {B n : Nat} {g : Int → It} (h : Mpg w B n g) (hg : w.grownBy w' row) (hne : some B ≠ row) : Mpg w' B n g := by
  obtain ⟨D, ho, hD⟩ := h
  exact ⟨D, ho.kept hg hne, hD⟩
theorem Mpg.keep {w w' : World} {B n : Nat} {g : Int → It} (h : Mpg w B n g) (hb : Below w.heap.size w w') : Mpg w' B n g := h.kept (gb_below hb none) (by simp)
theorem Mpg.lt {w : World} {B n : Nat} {g : Int → It} (h : Mpg w B n g) : B < w.heap.size := by
  obtain ⟨D, ho, _⟩ := h
  exact ho.lt
theorem mpg_new (w : World) : Mpg (w.alloc (.map #[] 0)) w.heap.size 0 (fun _ => zI) := ⟨.map [], World.ownsMap_made _ _ _ _, fun s => rfl⟩
theorem i64_wf {s : Int} (h : -9223372036854775808 ≤ s ∧ s ≤ 9223372036854775807) : (Lit.int .i64 s).wf = true := by
  simp only [Lit.wf, IntKind.min, IntKind.max, IntKind.signed, IntKind.bits, Bool.and_eq_true, decide_eq_true_eq, if_true]
  omega
theorem Mpg.look {w : World} {B n : Nat} {g : Int → It} (h : Mpg w B n g) {s : Int} (hs : -9223372036854775808 ≤ s ∧ s ≤ 9223372036854775807) :
    (Instr.lookup 47 (.map (some B)) (.int .i64 s) false).run Try.prog w = .ok (ivL (g s)) w := by
  obtain ⟨D, ho, hD⟩ := h
  obtain ⟨v, ps, hrun, hv⟩ := ho.lookup lawK Try.underlying47 (zeroI w) (itR_mk zI) (keyOf_int_mk Try.underlying3 (i64_wf hs))
  obtain ⟨x, rfl, hx⟩ := itR_inv hv
  rw [hD s] at hx
  have hx' : itD (g s) = itD x := congrArg Prod.fst hx
  exact hrun.trans (by rw [itD_inj hx'])
/-- What g says behind x. -/
def gset (g : Int → It) (x : It) : Int → It := fun s => if s = x.S then x else g s
theorem mpg_put {w' : World} {B n : Nat} {g : Int → It} {D : DataW Unit} {x : It} (hD : ∀ s : Int, D.atKey (.int .i64 s) (itD zI) = itD (g s)) (hm : IsMap D) (ho : w'.ownsMap Try.prog 3 itR B n (D.put (.int .i64 x.S) (itD x))) : Mpg w' B n (gset g x) := by
  refine ⟨_, ho, fun s => ?_⟩
  unfold gset
  split
  · rename_i e
    rw [e]
    exact atKey_put_same hm (show WideAt.IsKeyLit (.int .i64 x.S) from trivial) _ _
  · rename_i e
    rw [atKey_put_other (fun h => e (by injection h)) _ _]
    exact hD s
/-- What is told of the deletes, one item more. -/
def gup (g : Int → It) (x : It) : Int → It := if x.K = 1 ∧ (g x.S).V ≤ x.V then gset g x else g
/-- Of each series the delete that hides most. -/
def gonL (l : List It) : Int → It := l.foldl gup (fun _ => zI)
theorem gonL_snoc (l : List It) (k : Nat) (x : It) (h : l[k]? = some x) : gonL (l.take (k + 1)) = gup (gonL (l.take k)) x := by
  unfold gonL
  rw [List.take_add_one, h, List.foldl_append]
  rfl
def Gsp (l : List It) (g : Int → It) : Prop := ∀ s, (g s = zI ∧ ∀ t ∈ l, t.K = 1 → t.S ≠ s) ∨ (g s ∈ l ∧ (g s).K = 1 ∧ (g s).S = s ∧ ∀ t ∈ l, t.K = 1 → t.S = s → t.V ≤ (g s).V)
theorem gsp_step {l : List It} {g : Int → It} (h : Gsp l g) (x : It) (hx : 0 ≤ x.V) : Gsp (l ++ [x]) (gup g x) := by
  intro s
  have hm : ∀ t ∈ l ++ [x], t ∈ l ∨ t = x := fun t ht => by
    rcases List.mem_append.1 ht with e | e
    · exact .inl e
    · exact .inr (List.mem_singleton.1 e)
  unfold gup
  by_cases hc : x.K = 1 ∧ (g x.S).V ≤ x.V
  · rw [if_pos hc]
    unfold gset
    by_cases hs : s = x.S
    · rw [if_pos hs]
      refine .inr ⟨by simp, hc.1, hs.symm, fun t ht hk hts => ?_⟩
      rcases hm t ht with e | e
      · rcases h x.S with h1 | h1
        · exact absurd (hts.trans hs) (h1.2 t e hk)
        · exact Int.le_trans (h1.2.2.2 t e hk (hts.trans hs)) hc.2
      · rw [e]; exact Int.le_refl _
    · rw [if_neg hs]
      rcases h s with h1 | h1
      · refine .inl ⟨h1.1, fun t ht hk hts => ?_⟩
        rcases hm t ht with e | e
        · exact h1.2 t e hk hts
        · rw [e] at hts; exact hs hts.symm
      · refine .inr ⟨List.mem_append_left _ h1.1, h1.2.1, h1.2.2.1, fun t ht hk hts => ?_⟩
        rcases hm t ht with e | e
        · exact h1.2.2.2 t e hk hts
        · rw [e] at hts; exact absurd hts.symm hs
  · rw [if_neg hc]
    rcases h s with h1 | h1
    · refine .inl ⟨h1.1, fun t ht hk hts => ?_⟩
      rcases hm t ht with e | e
      · exact h1.2 t e hk hts
      · subst e
        refine hc ⟨hk, ?_⟩
        rw [hts, h1.1]; exact hx
    · refine .inr ⟨List.mem_append_left _ h1.1, h1.2.1, h1.2.2.1, fun t ht hk hts => ?_⟩
      rcases hm t ht with e | e
      · exact h1.2.2.2 t e hk hts
      · subst e
        rcases Int.lt_or_le t.V (g s).V with e2 | e2
        · exact Int.le_of_lt e2
        · exact absurd ⟨hk, by rw [hts]; exact e2⟩ hc
theorem gsp_fold : ∀ (m l : List It) (g : Int → It), Gsp l g → (∀ x ∈ m, 0 ≤ x.V) → Gsp (l ++ m) (m.foldl gup g)
  | [], l, g, h, _ => by simpa using h
  | x :: m, l, g, h, hw => by
    have := gsp_fold m (l ++ [x]) (gup g x) (gsp_step h x (hw x (by simp))) (fun y hy => hw y (by simp [hy]))
    simpa using this
theorem gonL_sp (l : List It) (hw : ∀ x ∈ l, x.wf) : Gsp l (gonL l) := by
  unfold gonL
  have := gsp_fold l [] (fun _ => zI) (fun s => .inl ⟨rfl, by simp⟩) (fun x hx => (hw x hx).2.2.2.1.1)
  simpa using this
/-- Is x hidden by one of l? -/
def hidB (l : List It) (x : It) : Bool := l.any fun t => t.hides x
theorem gonL_hid (l : List It) (hw : ∀ x ∈ l, x.wf) (x : It) : (gonL l x.S).hides x = hidB l x := by
  unfold hidB
  cases ha : l.any (fun t => t.hides x) with
  | true =>
    obtain ⟨t, ht, hh⟩ := List.any_eq_true.1 ha
    rw [hides_iff] at hh
    rcases gonL_sp l hw x.S with h1 | h1
    · exact absurd hh.2.2.1 (h1.2 t ht hh.1)
    · rw [hides_iff]
      exact ⟨h1.2.1, hh.2.1, h1.2.2.1, Int.le_trans hh.2.2.2 (h1.2.2.2 t ht hh.1 hh.2.2.1)⟩
  | false =>
    rcases gonL_sp l hw x.S with h1 | h1
    · rw [h1.1, nhides_iff]
      intro h
      exact absurd h.1 (by decide)
    · have := List.any_eq_false.1 ha _ h1.1
      simpa using this
set_option maxRecDepth 100000 in
set_option maxHeartbeats 2000000 in
theorem deletes_any (a : Option Addr) (n c : Nat) (l : List It) (w : World) (h : Is w a n c l) (hn : n ≤ 1000000) :
    Calls Try.prog 29 #[.slice a n c] w fun e w' => e = .returned (.map (some w.heap.size)) ∧ Mpg w' w.heap.size n (gonL l) ∧ Below w.heap.size w w' := by
  have hmm := @run_makeMap Try.prog
  have hfl := field_V
  have hl := h.1
  have H0 := hide (fun W (hW : Below w.heap.size w W) => h.below hW (Nat.le_refl _))
  have HW := hide h.2.2.1
  clear h
  go_enter Try.func29, Try.ntmps29
  go_wp2_with fail
  go_loopw [9] (fun s9 wr => ∃ k : Nat, k ≤ n ∧ s9 = .int .i64 k ∧ Hid (Mpg wr w.heap.size k (gonL (l.take k))) ∧ Hid (Below w.heap.size w wr)) (fun s9 _ => n - (intOf s9).toNat)
  case atStart => exact ⟨0, by omega, rfl, hide (mpg_new w), hide ((Below.refl _ w).alloc (Nat.le_refl _) _)⟩
  case round =>
    obtain ⟨k, hk, rfl, hM, hB⟩ := hrel
    by_cases hlt : k < n
    · obtain ⟨b0, off, ea, hc⟩ := (H0.out _ hB.out).2.2.2 (by omega)
      subst ea
      obtain ⟨x, hx⟩ : ∃ x, l[k]? = some x := ⟨_, List.getElem?_eq_getElem (by rw [hl]; exact hlt)⟩
      have hv := hc k x hx
      have HX := hide (gonL_snoc l k x hx)
      have hxw := HW.out x (List.mem_of_getElem? hx)
      have A1 := (Below.refl _ wr).alloc (Nat.le_refl _) (Obj.cells #[.int .i64 x.S, .int .i64 x.K, .int .u64 x.T, .int .u64 x.V, .int .i64 x.X] 36)
      have hM1 := hM.out.keep A1
      have hlook := hM1.look hxw.1
      obtain ⟨G, hG⟩ : ∃ G, gonL (l.take k) = G := ⟨_, rfl⟩
      rw [hG] at hlook hM1 HX hM
      unfold ivL at hlook
      have B1 := hide (bmore hB.out A1)
      obtain ⟨D, hD1, hD2⟩ := hM1
      have HD1 := hide hD1
      have HD2 := hide hD2
      have hkey := hide (keyOf_int_mk (P := Try.prog) Try.underlying3 (i64_wf hxw.1))
      have hkm : k < maxLen := by unfold maxLen; omega
      have hkn : Hid (w.heap.size ≤ w.heap.size) := hide (Nat.le_refl _)
      have HM1 := hide (hM.out.keep A1)
      have hcond := hide (show gup G x = if x.K = 1 ∧ (G x.S).V ≤ x.V then gset G x else G from rfl)
      have hval := hide (itR_mk x)
      obtain ⟨S, K, T, V, X⟩ := x
      unfold Vt Vi at hv
      simp only at hv hlook hkey hcond hD1 HD1
      unfold ivL at hval
      simp only at hval
      obtain ⟨v0, v1, v2, v3, v4⟩ := hv
      obtain ⟨y, hy⟩ : ∃ y, G S = y := ⟨_, rfl⟩
      rw [hy] at hlook hcond
      obtain ⟨gS, gK, gT, gV, gX⟩ := y
      simp only at hlook hcond
      clear hc hx hG hD1 hD2 A1 hxw hy hkn
      by_cases hK : K = 1
      · subst hK
        by_cases hV : gV ≤ V
        · have HS : Hid (gup G ⟨S, 1, T, V, X⟩ = gset G ⟨S, 1, T, V, X⟩) := hide (by rw [hcond.out, if_pos ⟨rfl, hV⟩])
          clear hcond
          go_wp2_with (first
            | (at_mapUpdate; refine wpList_mapUpdate_own _ rfl _ _ _ 47 rfl 3 36 lawK Try.underlying47 itR w.heap.size k D rfl HD1.out hkm _ _ _ rfl rfl hkey.out _ [] hval.out ?_; intro w2 ho2 hg2))
          have HO2 := hide (mpg_put (x := ⟨S, 1, T, V, X⟩) HD2.out HD1.out.isMap ho2)
          have HB2 := hide (B1.out.grown hg2 B1.out.size (fun j hj => by cases hj; exact Nat.le_refl _))
          go_roundw
          case rel => exact ⟨k + 1, by omega, by go_num, hide (by rw [HX.out, HS.out]; exact HO2.out), HB2⟩
          case measure => simp [intOf]; omega
        · have HS : Hid (gup G ⟨S, 1, T, V, X⟩ = G) := hide (by rw [hcond.out, if_neg (fun h => hV h.2)])
          clear hcond
          go_wp2_with fail
          go_roundw
          case rel => exact ⟨k + 1, by omega, by go_num, hide (by rw [HX.out, HS.out]; obtain ⟨D', h1, h2⟩ := HM1.out; exact ⟨D', h1.mono (by omega), h2⟩), B1⟩
          case measure => simp [intOf]; omega
      · have HS : Hid (gup G ⟨S, K, T, V, X⟩ = G) := hide (by rw [hcond.out, if_neg (fun h => hK h.1)])
        have hKb : (K == 1) = false := by simp [hK]
        clear hcond
        go_wp2_with fail
        go_roundw
        case rel => exact ⟨k + 1, by omega, by go_num, hide (by rw [HX.out, HS.out]; obtain ⟨D', h1, h2⟩ := HM1.out; exact ⟨D', h1.mono (by omega), h2⟩), B1⟩
        case measure => simp [intOf]; omega
    · obtain rfl : k = n := by omega
      have HE := hide (show l.take k = l by rw [← hl]; exact List.take_length)
      rw [HE.out] at hM
      go_wp2
      go_ret
      exact ⟨rfl, hM.out, hB.out⟩

end Go.Proofs.Ytkkcchklefcljaa.Clep
