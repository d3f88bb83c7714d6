/- What Filter.Bytes does when called. No conditions but that the Filter lies in memory. -/
import Derived.Test.YtjphnflahpcaiaaBAdd
import Derived.Test.YtjphnflahpcaiaaNPut
import Derived.Deep.RegionHeldLaw
namespace Go.Proofs.Ytjphnflahpcaiaa.Clep
open Go.RowKit
set_option linter.unusedVariables false

/-- The first m bytes of all bits. -/
def bys (N m : Nat) : List Int := (List.range m).map fun i => (by8 N i : Int)
theorem bys_succ (N m : Nat) : bys N (m + 1) = bys N m ++ [(by8 N m : Int)] := by simp [bys, List.range_succ]
theorem bys_len (N m : Nat) : (bys N m).length = m := by simp [bys]
theorem bys_range (N m : Nat) : ∀ z ∈ bys N m, 0 ≤ z ∧ z < 256 := by
  intro z hz
  simp only [bys, List.mem_map] at hz
  obtain ⟨i, _, rfl⟩ := hz
  have := by8_lt N i
  omega
/-- What Bytes answers. -/
def fb (k sz N : Nat) : List Int := (pu k ++ pu sz) ++ bys N sz
theorem fb_range (k sz N : Nat) (hk : k ≤ 14) (hs : sz ≤ 25000) : ∀ z ∈ fb k sz N, 0 ≤ z ∧ z < 256 :=
  cat_range (cat_range (pu_range k (by omega) (by omega)) (pu_range sz (by omega) (by omega))) (bys_range N sz)
theorem fb_len (k sz N : Nat) : (fb k sz N).length = (pu k).length + (pu sz).length + sz := by simp [fb, bys_len]; omega

theorem own_blk {w w' : World} {B : Nat} {v : Value} {zs : List Int} (h : Own w B v zs) (hb : ∀ g, B ≤ g → g < w.heap.size → w'.heap[g]? = w.heap[g]?) : Own w' B v zs := by
  obtain ⟨hl, ⟨rfl, hn⟩ | ⟨g, cap, cur, rfl, hg, hh, hnc, hcm, hcs, hx⟩⟩ := h
  · exact ⟨hl, .inl ⟨rfl, hn⟩⟩
  · refine ⟨hl, .inr ⟨g, cap, cur, rfl, hg, ?_, hnc, hcm, hcs, hx⟩⟩
    rw [hb g hg (Array.getElem?_eq_some_iff.1 hh).1]
    exact hh
/-- A row of bytes is not the block of the words. -/
theorem own_ne {w : World} {B : Nat} {v : Value} {zs : List Int} {D : Nat} {cs : Array Value} (h : Own w B v zs) (hD : Blk w D cs 65) : ∀ g, v.ownBlock = some g → B ≤ g ∧ g ≠ D := by
  intro g hg
  refine ⟨(World.ownsRow.lt h g hg).1, ?_⟩
  obtain ⟨hl, ⟨rfl, hn⟩ | ⟨g', cap, cur, rfl, hg', hh, hnc, hcm, hcs, hx⟩⟩ := h
  · cases hg
  · simp only [Value.ownBlock, Option.some.injEq] at hg
    rintro rfl
    subst hg
    unfold Blk at hD
    rw [hh] at hD
    cases hD
theorem append_ch {w w2 wr w3 : World} {M D k sz N : Nat} {v : Value} {ys : List Int} {o : Obj} (hL : Lf wr M D k sz N) (hO : Own wr w.heap.size v ys) (hC : Ch (fun b => w.heap.size ≤ b ∧ b ≠ D) w2 wr) (hs : w.heap.size ≤ wr.heap.size) (hM : M < w.heap.size) (hg : (wr.alloc o).grownBy w3 v.ownBlock) :
    Lf w3 M D k sz N ∧ Ch (fun b => w.heap.size ≤ b ∧ b ≠ D) w2 w3 := by
  have hne := own_ne hO hL.words
  have h1 : Ch (fun b => w.heap.size ≤ b ∧ b ≠ D) wr w3 := by
    have ha := (Below.refl wr.heap.size wr).alloc (Nat.le_refl _) o
    refine ⟨hg.os.trans ha.os, hg.tape.trans ha.tape, hg.output.trans ha.output, Nat.le_trans ha.size hg.size, fun b hb hnb => ?_⟩
    rw [hg.block b (Nat.lt_of_lt_of_le hb ha.size) (fun e => hnb (hne b e.symm)), ha.block b hb]
  exact ⟨hL.ch h1 (fun e => by omega) (fun e => e.2 rfl), hC.trans h1⟩
set_option maxRecDepth 100000 in
set_option maxHeartbeats 1600000 in
theorem bytes_g (w : World) (M k sz N : Nat) (hk : 1 ≤ k ∧ k ≤ 14) (hs : 8 ≤ sz ∧ sz ≤ 25000) (hM0 : w.cell? ⟨M, 0, none⟩ = some (.int .i64 k)) (hM1 : w.cell? ⟨M, 1, none⟩ = some (.int .i64 sz)) (Q : World → World → Nat → Prop) (c1 : ∀ W, Below w.heap.size w W → LaidTo W M k sz N (Q W)) (hQ : ∀ W W' D, Q W W' D → W.heap.size ≤ W'.heap.size ∧ ∀ g, w.heap.size ≤ g → g < W.heap.size → W'.heap[g]? = W.heap[g]?) :
    Calls Try.prog 11 #[.pointer (some ⟨M, 0, none⟩)] w fun e w' => ∃ v, e = .returned v ∧ Own w' w.heap.size v (fb k sz N) ∧ ∃ w1 w2 D, Below w.heap.size w w1 ∧ Q w1 w2 D ∧ Lf w' M D k sz N ∧ Ch (fun b => w.heap.size ≤ b ∧ b ≠ D) w2 w' := by
  have c24 : Hid (∀ W ao len cap zs (x : Nat), Below w.heap.size w W → Bs W ao len cap zs → len ≤ 100 → x ≤ 100000 → Calls Try.prog 24 #[.slice ao len cap, .int .u64 (IntKind.u64.wrap (x : Int))] W fun e w' => ∃ a l c, e = .returned (.slice a l c) ∧ l ≤ len + 10 ∧ Own w' w.heap.size (.slice a l c) (zs ++ pu x) ∧ Bs w' a l c (zs ++ pu x) ∧ Below w.heap.size w w') := hide fun W ao len cap zs x hW hz hl hx =>
    by
      rw [wrap_u64 x (by omega)]
      refine (put_any ao len cap zs W x (by omega) (by omega) (by omega) hz).mono fun e w' ⟨v, h1, h2, h3⟩ => ?_
      obtain ⟨a, c, rfl, hc, hb, _⟩ := own_bs h2 (range_of (cat_range (bs_range hz) (pu_range x (by omega) (by omega))))
      refine ⟨a, _, c, h1, ?_, own_base h2 hW.size, hb, hW.trans (h3.mono hW.size)⟩
      have := pu_len x
      rw [List.length_append, hz.1]; omega
  have HC : Hid (∀ W, Below w.heap.size w W → Below w.heap.size w W ∧ W.cell? ⟨M, 0, none⟩ = some (.int .i64 k) ∧ W.cell? ⟨M, 1, none⟩ = some (.int .i64 sz)) := hide fun W hW =>
    ⟨hW, (hW.cell (p := ⟨M, 0, none⟩) (World.block_lt_of_cell? w _ hM0)).trans hM0, (hW.cell (p := ⟨M, 1, none⟩) (World.block_lt_of_cell? w _ hM1)).trans hM1⟩
  have C1 := hide c1
  have HQ := hide hQ
  have HMlt : Hid (M < w.heap.size) := hide (World.block_lt_of_cell? w _ hM0)
  obtain ⟨i0, Hi0, hz0, hz1, hz2⟩ := info_parts info5
  have hb0 : Below w.heap.size w w := Below.refl _ _
  have hn0 : ∀ W, Bs W none 0 0 [] := bs_nil
  clear c1 hQ
  go_enter Try.func11, Try.ntmps11
  go_wp2_with fail
  go_region_held_law (fun W => Below w.heap.size w W ∧ W.cell? ⟨M, 0, none⟩ = some (.int .i64 k) ∧ W.cell? ⟨M, 1, none⟩ = some (.int .i64 sz))
    (first | exact HC.out _ (by assumption) | exact HC.out _ (Below.drew (by assumption)))
    (first
    | (go_at_call 24; refine (c24.out _ _ _ _ _ _ (And.left (by assumption)) (by first | exact hn0 _ | assumption) (by omega) (by omega)).mono ?_; rintro e w1 ⟨a, l, c, rfl, hl, hown, hbs, hb⟩))
  clear hn0 hM0 c24
  have HOW := hide hown
  have HB1 := hide hb
  have HCC := hide (HC.out _ hb)
  clear hown hbs hb
  go_wp2_with fail
  refine Calls.mono (C1.out w1 HB1.out) ?_
  rintro e w2 ⟨D, rfl, hL, hQ⟩
  have HL := hide hL
  have HQ2 := hide hQ
  have HOW2 := hide (own_blk HOW.out (HQ.out _ _ _ hQ).2)
  have c1 : w2.cell? ⟨M, 1, none⟩ = some (.int .i64 sz) := hL.head.cell rfl
  clear hL hQ
  go_wp2
  go_loopw [3, 24] (fun v u wr => ∃ (i : Nat) (ys : List Int), u = .int .i64 i ∧ i ≤ sz ∧ Hid (ys = (pu k ++ pu sz) ++ bys N i) ∧ Hid (Own wr w.heap.size v ys) ∧ Hid (Lf wr M D k sz N) ∧ Hid (Ch (fun b => w.heap.size ≤ b ∧ b ≠ D) w2 wr)) (fun _ u _ => sz - (intOf u).toNat)
  case atStart => exact ⟨0, _, rfl, by omega, hide rfl, hide (by simpa [bys] using HOW2.out), HL, hide (Ch.of (Below.refl _ _))⟩
  case round =>
    obtain ⟨i, ys, rfl, hi, hY, hO, hLr, hCr⟩ := hrel
    by_cases hlt : i < sz
    · have hn1 : i / 8 < nw sz := by unfold nw; omega
      have cD : wr.cell? ⟨D, i / 8, none⟩ = some (.int .u64 (wd N (i / 8) : Nat)) := hLr.out.words.cell (wv_get _ _ _ hn1)
      have hX := wd_lt N (i / 8)
      have hnw : nw sz ≤ 4000 := by unfold nw; omega
      have hV : (wd N (i / 8) : Int) / 2 ^ (i % 8 * 8) % 256 = (by8 N i : Nat) := by rw [← by8_wd N i, Int.natCast_emod, Int.natCast_ediv, Int.natCast_pow]; rfl
      have HV := hide hV
      clear hV
      have hsz := hide (show w.heap.size ≤ wr.heap.size from Nat.le_trans HB1.out.size (Nat.le_trans (HQ.out _ _ _ HQ2.out).1 hCr.out.size))
      have hol : Hid (ys.length ≤ 100000) := hide (by rw [hY.out]; have := pu_len k; have := pu_len sz; simp [bys_len]; omega)
      generalize wd N (i / 8) = X at *
      go_wp2_with (first
        | (at_builtin; refine wpList_append_own _ rfl _ _ 27 rfl w.heap.size 5 i0 (.int .u8 0) 1 1 Try.underlying27 Hi0 hz0 hz1 hz2 rfl (by decide) _ _ _ rfl (hO.out.alloc _) ⟨wr.heap.size, 0, none⟩ 1 1 [.int .u8 ((X : Int) / 2 ^ (i % 8 * 8) % 256)] rfl rfl ?c1 ?c2 ?c3 ?c4 ?c5 ?_)
        | fail)
      case c1 => exact cell_one_new _ _ _
      case c2 => intro u hu; simp at hu; subst hu; rfl
      case c3 => have := hol.out; unfold maxLen; omega
      case c4 => have := hol.out; omega
      case c5 => have := hsz.out; simp; omega
      intro v' w3 hown' hgrow _
      rw [HV.out] at hown'
      have HW := hide hown'
      have HW2 := hide (append_ch hLr.out hO.out hCr.out hsz.out HMlt.out hgrow)
      clear hown' hgrow
      go_wp2
      go_round
      case rel => exact ⟨i + 1, ys ++ [(by8 N i : Int)], by go_num, by omega, hide (by rw [bys_succ, ← List.append_assoc, hY.out]), hide (own_snoc HW.out), hide HW2.out.1, hide HW2.out.2⟩
      case measure => simp [intOf]; omega
    · have h8 : i = sz := by omega
      subst h8
      go_wp2
      go_ret
      exact ⟨_, rfl, by have := hO.out; rw [hY.out] at this; exact this, w1, w2, D, HB1.out, HQ2.out, hLr.out, hCr.out⟩

theorem Fl.cells {w : World} {M : Nat} {B : Nat → Prop} {k sz N : Nat} (h : Fl w M B k sz N) : w.cell? ⟨M, 0, none⟩ = some (.int .i64 k) ∧ w.cell? ⟨M, 1, none⟩ = some (.int .i64 sz) := by
  rcases h.ex with ⟨h1, h2⟩ | ⟨D, h1, h2⟩
  · exact ⟨h1.cell rfl, h1.cell rfl⟩
  · exact ⟨h1.head.cell rfl, h1.head.cell rfl⟩
theorem bytes_h (w : World) (M : Nat) (B : Nat → Prop) (k sz N : Nat) (h : Fl w M B k sz N) :
    Calls Try.prog 11 #[.pointer (some ⟨M, 0, none⟩)] w fun e w' => ∃ v, e = .returned v ∧ Own w' w.heap.size v (fb k sz N) ∧ Fl w' M (fun b => B b ∨ (w.heap.size ≤ b ∧ b < w'.heap.size)) k sz N ∧ Ch (fun b => b = M) w w' ∧ ∃ D, Lf w' M D k sz N := by
  refine (bytes_g w M k sz N h.kb h.sb h.cells.1 h.cells.2 (fun W W' D => (B D ∨ W.heap.size ≤ D) ∧ Ch (fun b => b = M) W W') (fun W hW => laidTo_h W M B k sz N (h.keep hW)) ?_).mono ?_
  · rintro W W' D ⟨h1, h2⟩
    exact ⟨h2.size, fun g hg hg2 => h2.block g hg2 fun e => by have := h.lt M h.base; omega⟩
  · rintro e w' ⟨v, h1, h2, w1, w2, D, h3, ⟨h4, h5⟩, h6, h7⟩
    have hsz := Nat.le_trans h3.size (Nat.le_trans h5.size h7.size)
    have hD : B D ∨ w.heap.size ≤ D := h4.elim .inl fun e => .inr (Nat.le_trans h3.size e)
    refine ⟨v, h1, h2, h6.fl h.lt h.base hsz hD h.kb h.sb h.nb, ?_, D, h6⟩
    have h7' : Ch (fun b => w.heap.size ≤ b ∧ b ≠ D) w1 w1 := Ch.of (Below.refl _ _)
    refine ⟨h7.os.trans (h5.os.trans h3.os), h7.tape.trans (h5.tape.trans h3.tape), h7.output.trans (h5.output.trans h3.output), hsz, fun b hb hnb => ?_⟩
    have e1 := Nat.lt_of_lt_of_le hb h3.size
    rw [h7.block b (Nat.lt_of_lt_of_le e1 h5.size) (fun e => by omega), h5.block b e1 hnb, h3.block b hb]
theorem bytes_l (w : World) (M D k sz N : Nat) (h : Lf w M D k sz N) (hk : 1 ≤ k ∧ k ≤ 14) (hs : 8 ≤ sz ∧ sz ≤ 25000) :
    Calls Try.prog 11 #[.pointer (some ⟨M, 0, none⟩)] w fun e w' => ∃ v, e = .returned v ∧ Own w' w.heap.size v (fb k sz N) ∧ Below w.heap.size w w' := by
  refine (bytes_g w M k sz N hk hs (h.head.cell rfl) (h.head.cell rfl) (fun W W' D1 => D1 = D ∧ Below W.heap.size W W') (fun W hW => laid_l W M D k sz N (h.keep hW)) ?_).mono ?_
  · rintro W W' D ⟨h1, h2⟩
    exact ⟨h2.size, fun g hg hg2 => h2.block g hg2⟩
  · rintro e w' ⟨v, h1, h2, w1, w2, D1, h3, ⟨rfl, h5⟩, h6, h7⟩
    exact ⟨v, h1, h2, (bmore h3 h5).trans (h7.below (Nat.le_trans h3.size h5.size) fun i e => e.1)⟩

end Go.Proofs.Ytjphnflahpcaiaa.Clep
