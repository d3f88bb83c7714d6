/- What strings.Clone and names.do do when called (walks over the translated program): for any text, any change of names. -/
import Derived.Test.YthmfkfiblaamfabDBegin
namespace Go.Proofs.Ythmfkfiblaamfab.Clep
open Go.RowKit Go.Maps
set_option linter.unusedVariables false

theorem strClone_any (s : ByteArray) (w : World) (hs : s.size ≤ 70368744177664) :
    Calls Try.prog 39 #[.string s] w fun e w' => e = .returned (.string s) ∧ Below w.heap.size w w' := by
  have c := Any.stringslite_Clone Try.strCloneA s w (by omega)
  change Calls Try.prog 51 _ _ _ at c
  go_enter Try.func39, Try.ntmps39
  go_wp2_with fail
  refine c.mono ?_
  rintro e w' ⟨rfl, hb⟩
  go_wp2
  go_ret
  exact ⟨rfl, hb⟩

def chV (c : Ch) : Value := .agg #[.int .i64 c.kind, .string c.name, .string c.to, .int .i64 c.file]
theorem grown_cell {w w' : World} {row : Option Nat} (hg : w.grownBy w' row) {p : Addr} (hb : p.block < w.heap.size) (hne : some p.block ≠ row) : w'.cell? p = w.cell? p := World.cell?_of_block (hg.block p.block hb hne)
theorem grown_frozen {w w' : World} {row : Option Nat} (hg : w.grownBy w' row) {p : Addr} (hb : p.block < w.heap.size) (hne : some p.block ≠ row) : w'.frozen? p = w.frozen? p := World.frozen?_of_block (hg.block p.block hb hne)
set_option maxRecDepth 4000 in
set_option maxHeartbeats 400000 in
theorem do_any (b : Nat) (D : DataW Unit) (c : Ch) (w : World) (h : w.ownsMap Try.prog 9 (plainElem Try.prog 3) b (Maps.size D) D) (hz : Maps.size D + 1 ≤ 1099511627777) (h1 : c.name.size ≤ 70368744177664) (h2 : c.to.size ≤ 70368744177664) (h3 : c.kind ≤ 2) (h4 : c.file ≤ 1099511627777) :
    Calls Try.prog 35 #[.map (some b), chV c] w fun e w' => e = .returned (.tuple #[]) ∧ w.grownBy w' (some b) ∧ w'.ownsMap Try.prog 9 (plainElem Try.prog 3) b (Maps.size (doS D c)) (doS D c) ∧ Maps.size (doS D c) ≤ Maps.size D + 1 := by
  have HO := hide h
  have ga := World.grownBy_alloc w (.cells #[.int .i64 c.kind, .string c.name, .string c.to, .int .i64 c.file] 65) (some b)
  have HA := hide (h.alloc (.cells #[.int .i64 c.kind, .string c.name, .string c.to, .int .i64 c.file] 65))
  have k1 := hide (key_str h1)
  have k2 := hide (key_str h2)
  have HG := hide ga
  have hdo : ∀ k, c.kind = k → doS D c = doS D { c with kind := k } := fun k hk => by rw [← hk]
  clear ga h
  obtain ⟨kind, name, to, file⟩ := c
  unfold chV
  simp only at *
  have hT := hide (HO.out.tidy lawS)
  rcases (show kind = 0 ∨ kind = 1 ∨ kind = 2 by omega) with rfl | rfl | rfl
  · go_enter Try.func35, Try.ntmps35
    go_wp2_with (first
      | (at_mapUpdate; refine wpList_mapUpdate_own _ rfl _ _ _ 49 rfl 9 3 lawS Try.underlying49 _ b _ _ rfl HA.out (by unfold maxLen; omega) _ _ _ rfl rfl k1.out (i64L file) [] (plainElem_int Try.underlying3 (WalkArith.wf_i64 (by omega))) ?_; intro w1 o1 g1)
      | go_in)
    go_end0
    have hs := Maps.size_put hT.out (k := key name) (i64L file)
    exact ⟨rfl, HG.out.trans g1, tight o1, by show Maps.size (D.put (key name) (i64L file)) ≤ _; split at hs <;> omega⟩
  · by_cases hh : Maps.has D (key name) = true
    · have hq := hide (show ∀ w1 : World, (w.alloc (.cells #[.int .i64 1, .string name, .string to, .int .i64 file] 65)).grownBy w1 (some b) → w1.cell? ⟨w.heap.size, 2, none⟩ = some (.string to) from fun w1 g1 => by
        rw [grown_cell g1 (by simp) (by have := HO.out.lt; simp; omega)]
        simp [go_sem])
      go_enter Try.func35, Try.ntmps35
      go_wp2_with (first
        | (at_lookup; refine wpList_lookup_own_ok_int _ rfl _ _ 49 rfl 9 3 .i64 lawS Try.underlying49 Try.underlying3 (zeroI _) b _ _ rfl HA.out _ _ rfl k1.out ?_; intro c hat hwc)
        | (at_delete; refine wpList_delete_own _ rfl _ _ 49 9 rfl 3 lawS Try.underlying49 _ b _ _ rfl HA.out _ _ rfl k1.out ?_; intro w1 o1 t1; have q2 := hq.out w1 t1.grown)
        | (at_mapUpdate; refine wpList_mapUpdate_own _ rfl _ _ _ 49 rfl 9 3 lawS Try.underlying49 _ b _ _ rfl o1 (by unfold maxLen; omega) _ _ _ rfl rfl k2.out (i64L c) [] (plainElem_int Try.underlying3 hwc) ?_; intro w2 o2 g2)
        | go_in)
      go_end0
      have e : doS D ⟨1, name, to, file⟩ = (D.del (key name)).put (key to) (i64L c) := by unfold doS lk; rw [if_neg (by simp), if_pos rfl, if_pos hh, show i64L 0 = .lit (.int .i64 0) from rfl, hat]; rfl
      have hs := Maps.size_put (hT.out.del (key name)) (k := key to) (i64L c)
      have hs2 := Maps.size_del hT.out (k := key name)
      rw [e]
      exact ⟨rfl, HG.out.trans (t1.grown.trans g2), tight o2, by split at hs <;> split at hs2 <;> omega⟩
    · rw [Bool.not_eq_true] at hh
      go_enter Try.func35, Try.ntmps35
      go_wp2_with (first
        | (at_lookup; refine wpList_lookup_own_ok_int _ rfl _ _ 49 rfl 9 3 .i64 lawS Try.underlying49 Try.underlying3 (zeroI _) b _ _ rfl HA.out _ _ rfl k1.out ?_; intro c hat hwc)
        | go_in)
      go_end0
      have e : doS D ⟨1, name, to, file⟩ = D := by unfold doS; rw [if_neg (by simp), if_pos rfl, if_neg (by rw [hh]; simp)]
      rw [e]
      exact ⟨rfl, HG.out, HA.out, by omega⟩
  · go_enter Try.func35, Try.ntmps35
    go_wp2_with (first
      | (at_delete; refine wpList_delete_own _ rfl _ _ 49 9 rfl 3 lawS Try.underlying49 _ b _ _ rfl HA.out _ _ rfl k1.out ?_; intro w1 o1 t1)
      | go_in)
    go_end0
    have e : doS D ⟨2, name, to, file⟩ = D.del (key name) := by simp [doS]
    have hs2 := Maps.size_del hT.out (k := key name)
    rw [e]
    exact ⟨rfl, HG.out.trans t1.grown, tight o1, by split at hs2 <;> omega⟩

end Go.Proofs.Ythmfkfiblaamfab.Clep
