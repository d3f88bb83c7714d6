/- What merge.New does when called: an Iter that is not yet opened, with rows of its own. Conditions: at most a thousand rows, a hundred thousand items. -/
import Derived.Test.YtkkcchklefcljaaVIterW
import Derived.Laws.OwnMore
namespace Go.Proofs.Ytkkcchklefcljaa.Clep
open Go.RowKit
set_option linter.unusedVariables false

/-- The rows copied so far. -/
structure Nw (w wr : World) (n : Nat) (ys : List Sl) (k : Nat) : Prop where
  ex : ∃ ts : List Sl, ts.length = n ∧ OwnS wr w.heap.size (.slice (some ⟨w.heap.size, 0, none⟩) n n) ts ∧ (∀ z ∈ ts, Is wr z.a z.n z.c z.l ∧ z.n ≤ 9223372036854775807 ∧ (0 < z.n → ∀ x, z.a = some x → w.heap.size < x.block)) ∧ (ts.take k).map Sl.l = (ys.take k).map Sl.l
  bel : Below w.heap.size w wr
theorem sv_set (ts : List Sl) (k : Nat) (z : Sl) : sv (ts.set k z) = (sv ts).set k (.slice z.a z.n z.c) := by simp [sv, List.map_set]
theorem Nw.put {w wr w2 : World} {n : Nat} {ys : List Sl} {k : Nat} {y z : Sl} (h : Nw w wr n ys k) (hb : Below wr.heap.size wr w2) (hy : ys[k]? = some y) (hk : k < n) (hz : Is w2 z.a z.n z.c z.l) (hzn : z.n ≤ 9223372036854775807) (hzl : z.l = y.l) (hza : 0 < z.n → ∀ x, z.a = some x → w.heap.size < x.block) :
    Nw w (w2.setCell ⟨w.heap.size, k, none⟩ (.slice z.a z.n z.c)) n ys (k + 1) := by
  obtain ⟨ts, h1, h2, h3, h4⟩ := h.ex
  have hg := gb_set w2 ⟨w.heap.size, k, none⟩ (.slice z.a z.n z.c)
  refine ⟨⟨ts.set k z, by rw [List.length_set]; exact h1, ?_, fun u hu => ?_, ?_⟩, ?_⟩
  · have h5 := ownS_keep h2 hb
    unfold OwnS at h5 ⊢
    rw [List.length_set, sv_set, h1]
    rw [h1] at h5
    exact (h5.stored k _).1
  · rcases List.mem_or_eq_of_mem_set hu with e | e
    · obtain ⟨i1, i2, i3⟩ := h3 u e
      exact ⟨is_grown' (i1.below hb (Nat.le_refl _)) hg (fun h0 x hx e => by have := i3 h0 x hx; injection e with e; simp only at e; omega), i2, i3⟩
    · rw [e]
      exact ⟨is_grown' hz hg (fun h0 x hx e => by have := hza h0 x hx; injection e with e; simp only at e; omega), hzn, hza⟩
  · rw [List.take_add_one, List.getElem?_set_self (by omega), List.take_set_of_le (Nat.le_refl _), List.take_add_one (l := ys), hy, List.map_append, List.map_append, h4]
    simp [hzl]
  · exact (bmore h.bel hb).grown hg (bmore h.bel hb).size (fun j hj => by cases hj; exact Nat.le_refl _)
set_option maxRecDepth 100000 in
set_option maxHeartbeats 2000000 in
theorem new_any (a : Option Addr) (n c : Nat) (ys : List Sl) (w : World) (h : Rws w a n c ys) (hn : n ≤ 1000) (hs : sumL ys ≤ 100000) :
    Calls Try.prog 19 #[.slice a n c] w fun e w' => ∃ M, e = .returned (.pointer (some ⟨M, 0, none⟩)) ∧ w.heap.size ≤ M ∧ M < w'.heap.size ∧ ItU w' M (ys.map Sl.l) ∧ Below w.heap.size w w' := by
  obtain ⟨iS, hiS, hzS0, hzS1, hzS2⟩ := info_parts infoS
  obtain ⟨w1, hmk, ho1, hg1⟩ := run_make_full (P := Try.prog) w w.heap.size 22 25 iS _ 1 Try.underlying22 hiS hzS0 hzS1 .i64 .i64 n (by rw [hzS2]; omega) (by unfold maxLen; omega) (Nat.le_refl _)
  have hb1 : Below w.heap.size w w1 := (Below.refl _ w).grown hg1 (Nat.le_refl _) (by simp)
  have N0 : Hid (Nw w w1 n ys 0) := hide ⟨⟨List.replicate n ⟨none, 0, 0, []⟩, by simp, by
      unfold OwnS
      rw [List.length_replicate, show sv (List.replicate n ⟨none, 0, 0, []⟩) = List.replicate n (.slice none 0 0) by simp [sv]]
      have e : (madeCells (Value.slice none 0 0).cells (n * 1)).toList = List.replicate n (.slice none 0 0) := by
        rw [Nat.mul_one]; exact toList_madeCells_one (.slice none 0 0) n
      rw [e] at ho1
      exact ho1, fun z hz => by
      rw [List.eq_of_mem_replicate hz]
      exact ⟨is_nil _, by show 0 ≤ _; omega, fun h0 => absurd h0 (by show ¬ (0 < 0); omega)⟩, by simp⟩, hb1⟩
  have hl := h.1
  have H0 := hide (fun W (hW : Below w.heap.size w W) => h.below hW (Nat.le_refl _))
  have hlz : Hid (∀ y ∈ ys, y.l.length ≤ 100000) := hide fun y hy => by
    have := (List.sublist_flatten_of_mem (List.mem_map.2 ⟨y, hy, rfl⟩ : y.l ∈ ys.map Sl.l)).length_le
    rw [flat_len] at this
    omega
  clear h ho1 hg1 hb1
  go_enter Try.func19, Try.ntmps19
  go_wp2_with fail
  clear hmk
  go_loopw [4, 5, 11] (fun s4 s5 s11 wr => ∃ k : Nat, k ≤ n ∧ s11 = .int .i64 k ∧ Hid (Nw w wr n ys k)) (fun _ _ s11 _ => n - (intOf s11).toNat)
  case atStart => exact ⟨0, by omega, rfl, N0⟩
  case round =>
    obtain ⟨k, hk, rfl, hN⟩ := hrel
    by_cases hlt : k < n
    · obtain ⟨y, hy⟩ : ∃ y, ys[k]? = some y := ⟨_, List.getElem?_eq_getElem (by rw [hl]; exact hlt)⟩
      have hRw := H0.out _ hN.out.bel
      obtain ⟨b1, off1, ea, hcell⟩ := hRw.2.2.2 (by omega)
      subst ea
      have hck := hcell k y hy
      have hym := List.mem_of_getElem? hy
      have hyi := (hRw.2.2.1 y hym).1
      have hyn : y.n ≤ 100000 := by rw [← hyi.1]; exact hlz.out y hym
      have CC := hide (clone_all y.a y.n y.c y.l wr hyi (by omega))
      have HWF := hide hyi.2.2.1
      have HY := hide hy
      have HYN := hide hyi.1
      obtain ⟨ts, t1, t2, t3, t4⟩ := hN.out.ex
      obtain ⟨z0, hz0⟩ : ∃ z, ts[k]? = some z := ⟨_, List.getElem?_eq_getElem (by omega)⟩
      have HT := hide (show wr.cell? ⟨w.heap.size, k, none⟩ = some (.slice z0.a z0.n z0.c) by
        have := World.ownsRow.cells t2 (g := w.heap.size) rfl k (.slice z0.a z0.n z0.c) (by simp [sv, hz0])
        rwa [add_plain, Nat.zero_add] at this)
      have HF := hide (show wr.frozen? ⟨w.heap.size, k, none⟩ = false from World.ownsRow.frozenAt (by unfold OwnS at t2; rw [t1] at t2; exact t2) k)
      obtain ⟨ya, yn, yc, yl⟩ := y
      simp only at hck CC HWF hyn HYN
      have hlk : (k : Int) < (n : Int) := by omega
      clear hRw hcell hy hym hyi t1 t2 t3 t4 hz0
      go_wp2_with fail
      refine CC.out.mono ?_
      rintro e w2 ⟨v, rfl, ho2, hb2⟩
      have ho2' := ho2
      obtain ⟨a9, c9, rfl, hc9, hI9, hloc⟩ := ownI_is ho2 HWF.out
      have hlt2 := World.block_lt_of_cell? wr _ HT.out
      have g0 := (hb2.cell (p := ⟨w.heap.size, k, none⟩) hlt2).trans HT.out
      have g1 := (hb2.frozen (p := ⟨w.heap.size, k, none⟩) hlt2).trans HF.out
      rw [HYN.out] at hI9 ⊢
      have N2 := hide (hN.out.put (z := ⟨a9, yn, c9, yl⟩) hb2 HY.out hlt hI9 (by show yn ≤ _; omega) rfl (fun h0 x hx => by
        have := hloc x hx
        simp only at hlt2
        omega))
      simp only at N2
      clear CC ho2 ho2' hb2 hI9 hloc HT HF hN
      go_wp2_with fail
      go_roundw
      case rel => exact ⟨k + 1, by omega, by go_num, N2⟩
      case measure => simp [intOf]; omega
    · obtain rfl : k = n := by omega
      obtain ⟨ts, t1, t2, t3, t4⟩ := hN.out.ex
      rw [show ts.take k = ts by rw [← t1]; exact List.take_length, show ys.take k = ys by rw [← hl]; exact List.take_length] at t4
      obtain ⟨a9, c9, e9, hr9, hc9⟩ := ownS_rws t2 (fun z hz => ⟨(t3 z hz).1, (t3 z hz).2.1⟩)
      rw [t1] at e9 hr9
      injection e9 with e1 _ e3
      subst e1 e3
      have A1 := (Below.refl _ wr).alloc (Nat.le_refl _) (Obj.cells (itrV (.slice (some ⟨w.heap.size, 0, none⟩) k k) 0 0 (.slice none 0 0) 0) 64)
      have K1 := hpS wr (Obj.cells (itrV (.slice (some ⟨w.heap.size, 0, none⟩) k k) 0 0 (.slice none 0 0) 0) 64) wr.heap.size rfl
      have hsum : sumL ts ≤ 100000 := by rw [← flat_len, t4, flat_len]; exact hs
      have hGl : w.heap.size < wr.heap.size := (World.ownsRow.lt t2 w.heap.size rfl).2
      have HU := hide (show ItU (wr.alloc (Obj.cells (itrV (.slice (some ⟨w.heap.size, 0, none⟩) k k) 0 0 (.slice none 0 0) 0) 64)) wr.heap.size (ys.map Sl.l) from ⟨_, k, k, ts, K1, hr9.below A1 (Nat.le_refl _), t4, hc9, hn, hsum, fun _ x hx e => by cases hx; simp only at e; omega, fun z hz h0 x hx e => by have := is_lt (t3 z hz).1 h0 x hx; omega⟩)
      have HB := hide (bmore hN.out.bel A1)
      have hsz : (wr.alloc (Obj.cells (itrV (.slice (some ⟨w.heap.size, 0, none⟩) k k) 0 0 (.slice none 0 0) 0) 64)).heap.size = wr.heap.size + 1 := by simp
      have HS := hide hsz
      unfold itrV at HU HB HS
      clear t2 t3 t4 hr9 A1 K1 hN hsz
      go_wp2_with fail
      go_ret
      exact ⟨_, rfl, by omega, by rw [HS.out]; omega, HU.out, HB.out⟩

end Go.Proofs.Ytkkcchklefcljaa.Clep
