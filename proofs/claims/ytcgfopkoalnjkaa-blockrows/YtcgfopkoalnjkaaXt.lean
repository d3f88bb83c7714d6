/- What the statement BlockRows does when called: true. Conditions: none but what a call brings. -/
import Derived.Test.YtcgfopkoalnjkaaZx
import Derived.Test.YtcgfopkoalnjkaaZa
import Derived.Test.YtcgfopkoalnjkaaZo
namespace Go.Proofs.Ytcgfopkoalnjkaa.Clep
open Go.RowKit
set_option linter.unusedVariables false

/-- The first k blocks, one behind the other. -/
def bbs (f : Nat → List It) : Nat → List Int
  | 0 => []
  | k + 1 => bbs f k ++ bkb (f k)
theorem bbs_split (f : Nat → List It) (k : Nat) : ∀ d, ∃ r, bbs f (k + d) = bbs f k ++ r
  | 0 => ⟨[], by simp⟩
  | d + 1 => by
    obtain ⟨r, hr⟩ := bbs_split f k d
    exact ⟨r ++ bkb (f (k + d)), by show bbs f (k + d) ++ _ = _; rw [hr, List.append_assoc]; rfl⟩
theorem bbs_at (f : Nat → List It) (k n : Nat) (h : k < n) : ∃ r, (bbs f n).drop (bbs f k).length = bkb (f k) ++ r := by
  obtain ⟨r, hr⟩ := bbs_split f (k + 1) (n - (k + 1))
  rw [show k + 1 + (n - (k + 1)) = n by omega] at hr
  refine ⟨r, ?_⟩
  rw [hr]
  show ((bbs f k ++ bkb (f k)) ++ r).drop _ = _
  rw [List.append_assoc]; exact List.drop_left
theorem cnr_gt {s n k : Nat} (hs : 1 ≤ s) (h : k < cnr s n) : k * s < n := by
  rcases Nat.lt_or_ge (k * s) n with e | e
  · exact e
  · have := cnr_le hs e; omega
/-- A row of a rising list that may be is a block's. -/
theorem ck_fit {m : List It} {s k : Nat} (hr : Rise m) (hk : ∀ x ∈ m, x.ok = true) (hw : ∀ x ∈ m, x.wf) (hs : 1 ≤ s ∧ s ≤ 100) (h : k < cnr s m.length) :
    fit (ck s m k) = true ∧ (ck s m k).all It.ok = true ∧ (∀ x ∈ ck s m k, x.wf) ∧ (ck s m k).length ≤ 100 := by
  have hlt := cnr_gt hs.1 h
  have hmem : ∀ x ∈ ck s m k, x ∈ m := fun x hx => List.mem_of_mem_drop (List.mem_of_mem_take hx)
  have hl : (ck s m k).length = min s (m.length - k * s) := by unfold ck; rw [List.length_take, List.length_drop]
  have hl2 : (ck s m k).length ≤ 100 := by omega
  refine ⟨fit_iff.2 ⟨by omega, hl2, ?_⟩, List.all_eq_true.2 fun x hx => hk x (hmem x hx), fun x hx => hw x (hmem x hx), hl2⟩
  exact List.Pairwise.sublist ((List.take_sublist _ _).trans (List.drop_sublist _ _)) hr
theorem bbs_len (f : Nat → List It) (n : Nat) (h : ∀ k, k < n → (f k).length ≤ 100) : ∀ k, k ≤ n → (bbs f k).length ≤ 4000 * k
  | 0, _ => by simp [bbs]
  | k + 1, hk => by
    have h1 := bbs_len f n h k (by omega)
    have h2 := (ibn_few (f k) (h k (by omega))).2
    have h3 := bkb_len (f k)
    show (bbs f k ++ bkb (f k)).length ≤ _
    rw [List.length_append]; omega
theorem bbs_range (f : Nat → List It) (n : Nat) (h : ∀ k, k < n → (f k).length ≤ 100 ∧ ∀ x ∈ f k, x.wf) : ∀ k, k ≤ n → ByteL (bbs f k)
  | 0, _ => by intro z hz; simp [bbs] at hz
  | k + 1, hk => ByteL.append (bbs_range f n h k (by omega)) (bkb_range (f k) (h k (by omega)).2 (h k (by omega)).1)
theorem infoInt : (Try.prog.info? 3).map (fun i => (i.zero, i.size, i.bytes)) = some (some (.int .i64 0), 1, 8) := by kernel_rfl
/-- Where the blocks begin. -/
def evs (f : Nat → List It) (k : Nat) : List Value := (List.range k).map fun i => Value.int .i64 ((bbs f i).length : Nat)
/-- k blocks written, and where each begins. -/
structure Rb (w3 wr : World) (f : Nat → List It) (k : Nat) (a8 : Option Addr) (L8 c8 : Nat) (v9 : Value) : Prop where
  bel : Below w3.heap.size w3 wr
  bs : Bs wr a8 L8 c8 (bbs f k)
  len : L8 = (bbs f k).length
  ends : wr.ownsRow w3.heap.size 3 1 v9 k (evs f k)
  ne : 0 < L8 → ∀ x, a8 = some x → v9.ownBlock ≠ some x.block
theorem bs_grown' {w w' : World} {row : Option Nat} {ao : Option Addr} {len cap : Nat} {zs : List Int} (h : Bs w ao len cap zs) (hg : w.grownBy w' row) (hne : 0 < len → ∀ a, ao = some a → some a.block ≠ row) : Bs w' ao len cap zs := by
  refine ⟨h.1, h.2.1, h.2.2.1, fun h0 => ?_⟩
  obtain ⟨b, off, ho, hc⟩ := h.2.2.2 h0
  exact ⟨b, off, ho, fun i hi => gb_cell hg _ (hc i hi) (hne h0 ⟨b, off, none⟩ ho)⟩

theorem rows_long (a0 : Option Addr) (len0 cap0 : Nat) (most at9 : Int) (w : World) (m0 : len0 ≤ 9223372036854775807) (h : 100 < len0) :
    Calls Try.prog 6 #[.slice a0 len0 cap0, .int .i64 most, .int .i64 at9] w fun e w' => e = .returned (.bool true) ∧ Below w.heap.size w w' := by
  go_enter Try.func6, Try.ntmps6
  go_wp2_with (first | (go_at_call 8; refine (awake_any _).mono ?_; rintro e w1 ⟨rfl, hb⟩))
  go_ret
  exact ⟨rfl, hb⟩
set_option maxRecDepth 100000 in
set_option maxHeartbeats 8000000 in
theorem rows_go (a0 : Option Addr) (len0 cap0 : Nat) (l : List It) (most at9 : Int) (w : World) (h0 : Is w a0 len0 cap0 l) (hc0 : cap0 ≤ 9223372036854775807) (m0 : len0 ≤ 100) :
    Calls Try.prog 6 #[.slice a0 len0 cap0, .int .i64 most, .int .i64 at9] w fun e w' => e = .returned (.bool true) ∧ Below w.heap.size w w' := by
  have hll := h0.1
  have hO := hide (lone_any a0 len0 cap0 l w h0 (by omega) hc0)
  have HLL := hide (show l.length ≤ 3518437208880 by omega)
  have hql : (qL l).length ≤ 100 := by have := qL_len l; omega
  have HR := hide (qL_rise l)
  have HK := hide (qL_ok l)
  have HW := hide (qL_all It.wf l h0.2.2.1)
  have hand := and_mask most 7 (by omega)
  have hmo0 : 0 ≤ bits BinOp.and IntKind.i64 most 7 := hand.1
  have hmo1 : bits BinOp.and IntKind.i64 most 7 ≤ 7 := hand.2
  obtain ⟨iI, hiI, hzI0, hzI1, hzI2⟩ := info_parts infoInt
  clear h0 hll hand
  go_enter Try.func6, Try.ntmps6
  go_wp2_with fail
  refine hO.out.mono ?_
  rintro e w1 ⟨v1, rfl, hb1, zz, ho1, hz1, hm1⟩
  have hq := hide (q_any v1 zz l w.heap.size w1 hb1.size ho1 (fun z hz => ⟨(hz1 z hz).1.below hb1 (Nat.le_refl _), (hz1 z hz).2⟩) hm1 HLL.out)
  have B1 := hide hb1
  clear hO ho1 hz1 hm1 hb1
  go_wp2_with fail
  refine hq.out.mono ?_
  rintro e w2 ⟨aq, cq, rfl, hIq, hcq, hb2, -⟩
  have B2 := hide (bmore B1.out hb2)
  generalize qL l = m at *
  have hC := hide (rcut_any aq m.length cq m (bits BinOp.and IntKind.i64 most 7 + 1) w2 hIq (by omega) hcq)
  obtain ⟨s, hs⟩ : ∃ s, csz (bits BinOp.and IntKind.i64 most 7 + 1) = s := ⟨_, rfl⟩
  have hs1 := csz_rng (bits BinOp.and IntKind.i64 most 7 + 1)
  rw [hs] at hC hs1
  obtain ⟨nr, hnr⟩ : ∃ nr, cnr s m.length = nr := ⟨_, rfl⟩
  have hnr1 : nr ≤ 100 := by have := @cnr_n s m.length hs1.1; omega
  have HF := hide (fun k (hk : k < nr) => ck_fit (s := s) (k := k) HR.out HK.out HW.out hs1 (by rw [hnr]; exact hk))
  rw [hnr] at hC
  obtain ⟨nq, hnq⟩ : ∃ nq, m.length = nq := ⟨_, rfl⟩
  rw [hnq] at hC ⊢
  clear hq hb2 hIq B1 hs hnr hnq hql
  go_wp2_with fail
  refine hC.out.mono ?_
  rintro e w3 ⟨a3, c3, rfl, hb3, z3, hr3, hz3⟩
  have B3 := hide (bmore B2.out hb3)
  have HRW := hide (fun W (hW : Below w3.heap.size w3 W) => hr3.below hW (Nat.le_refl _))
  have HZ3 := hide hz3
  generalize hf : (fun i => ck s m i) = f at *
  have HFF := hide (fun k (hk : k < nr) => show fit (f k) = true ∧ (f k).all It.ok = true ∧ (∀ x ∈ f k, x.wf) ∧ (f k).length ≤ 100 by rw [← hf]; exact HF.out k hk)
  have HZ := hide (fun i z (hi : z3[i]? = some z) => show z.l = f i by rw [← hf]; exact HZ3.out i z hi)
  have HLE := hide (bbs_len f nr (fun k hk => (HFF.out k hk).2.2.2))
  have HRG := hide (bbs_range f nr (fun k hk => ⟨(HFF.out k hk).2.2.2, (HFF.out k hk).2.2.1⟩))
  have R0 : Hid (Rb w3 w3 f 0 none 0 0 (.slice none 0 0)) := hide ⟨Below.refl _ _, bs_nil _, rfl, World.ownsRow_nil _ _ _ _, fun h => by omega⟩
  clear hC hb3 hr3 hz3 HZ3 HF hf B2
  go_wp2_with fail
  go_loopw [8, 9, 10] (fun s8 s9 s10 wr => ∃ (k : Nat) (a8 : Option Addr) (L8 c8 : Nat), k ≤ nr ∧ s10 = .int .i64 k ∧ s8 = .slice a8 L8 c8 ∧ c8 ≤ 9223372036854775807 ∧ Hid (Rb w3 wr f k a8 L8 c8 s9)) (fun _ _ s10 _ => nr - (intOf s10).toNat)
  case atStart => exact ⟨0, none, 0, 0, by omega, rfl, rfl, by omega, R0⟩
  case round =>
    obtain ⟨k, a8, L8, c8, hk, rfl, rfl, hc8, hRb⟩ := hrel
    by_cases hlt : k < nr
    · have hL8 : L8 ≤ 400000 := by have := hRb.out.len; have := HLE.out k hk; omega
      have A4 := (Below.refl _ wr).alloc (Nat.le_refl _) (Obj.cells #[.int .i64 (L8 : Int)] 3)
      have hE := hide (World.ownsRow.alloc hRb.out.ends (Obj.cells #[.int .i64 (L8 : Int)] 3))
      have hsz : Hid (w3.heap.size ≤ (wr.alloc (Obj.cells #[.int .i64 (L8 : Int)] 3)).heap.size) := hide (Nat.le_trans hRb.out.bel.size A4.size)
      have HA4 := hide A4
      clear A4
      go_wp2_with (first
        | (at_builtin; refine wpList_append_own _ rfl _ _ 47 rfl w3.heap.size 3 iI (.int .i64 0) 1 8 Try.underlying47 hiI hzI0 hzI1 hzI2 rfl (by decide) _ k (evs f k) rfl hE.out ⟨wr.heap.size, 0, none⟩ 1 1 [.int .i64 (L8 : Int)] rfl rfl ?e1 ?e2 ?e3 ?e4 hsz.out ?_)
        | fail)
      case e1 => exact cell_newS _ _ _
      case e2 => intro u hu; simp at hu; subst hu; rfl
      case e3 => unfold maxLen; omega
      case e4 => omega
      intro v9 w4 ho9 hg9 _
      have hB4 := (hRb.out.bel.trans (HA4.out.mono hRb.out.bel.size)).grown hg9 hsz.out (fun j hj => (World.ownsRow.lt hRb.out.ends j hj).1)
      have hbs4 := bs_grown' (hRb.out.bs.below HA4.out (Nat.le_refl _)) hg9 (fun h9 x hx e => hRb.out.ne h9 x hx e.symm)
      have hev : Hid (w4.ownsRow w3.heap.size 3 1 v9 (k + 1) (evs f (k + 1))) := hide (by
        have e : evs f (k + 1) = evs f k ++ [.int .i64 (L8 : Int)] := by
          unfold evs
          rw [List.range_succ, List.map_append, hRb.out.len]; rfl
        rw [e]; exact ho9)
      have g3 := HRW.out w4 hB4
      obtain ⟨y3, hy3⟩ : ∃ y, z3[k]? = some y := ⟨_, List.getElem?_eq_getElem (by rw [g3.1]; exact hlt)⟩
      have l3 := HZ.out k y3 hy3
      have i3 := g3.2.2.1 y3 (List.mem_of_getElem? hy3)
      obtain ⟨p3, o3, e3, hc3⟩ := g3.2.2.2 (by omega)
      have u3 := hc3 k y3 hy3
      obtain ⟨x3, n3, d3, m3⟩ := y3
      simp only at l3 i3 u3
      subst l3 e3
      have hfk := HFF.out k hlt
      have hP := hide (bput_any a8 x3 L8 c8 n3 d3 (bbs f k) (f k) w4 (by omega) i3.2 hbs4 i3.1)
      have hbz := hide (bme_of hfk.1 hfk.2.1)
      have HB4 := hide hB4
      have hltz : (k : Int) < (nr : Int) := by omega
      clear g3 hy3 i3 hc3 hB4 hbs4 ho9 hg9 hE hfk
      go_wp2_with fail
      refine hP.out.mono ?_
      rintro e w5 ⟨hb5, ⟨h9, -⟩ | ⟨-, v, rfl, ho⟩⟩
      · exact absurd hbz.out h9
      obtain ⟨a5, c5, rfl, hc5, hbs5, hwh⟩ := own_bs ho (range_of (HRG.out (k + 1) (by omega)))
      unfold maxLen at hc5
      have hR5 : Hid (Rb w3 w5 f (k + 1) a5 (bbs f k ++ bkb (f k)).length c5 v9) := hide ⟨bmore HB4.out hb5, hbs5, rfl, World.ownsRow.kept hev.out (gb_below hb5 none) (by
          cases hv : v9.ownBlock with
          | none => exact .inl rfl
          | some j => exact .inr (by simp)), fun h9 x hx e => by
          obtain ⟨bb, oo, e9, hcc⟩ := hbs5.2.2.2 h9
          rw [e9] at hx; cases hx
          have h1 := (hwh bb oo e9).1
          have h2 := (World.ownsRow.lt hev.out _ e).2
          simp only at h2; omega⟩
      generalize hL9 : (bbs f k ++ bkb (f k)).length = L9 at *
      clear hP ho hbs5 hwh u3 hb5
      go_wp2
      go_roundw
      case rel => exact ⟨k + 1, a5, L9, c5, by omega, by go_num, rfl, by omega, hR5⟩
      case measure => simp [intOf]; omega
    · obtain rfl : k = nr := by omega
      have hL8 : L8 ≤ 400000 := by have := hRb.out.len; have := HLE.out k (Nat.le_refl _); omega
      have HB := hide (bmore B3.out hRb.out.bel)
      have HBS := hide (fun W (hW : Below wr.heap.size wr W) => hRb.out.bs.below hW (Nat.le_refl _))
      have HLN := hide hRb.out.len
      have HRW2 := hide (fun W (hW : Below wr.heap.size wr W) => HRW.out W (bmore hRb.out.bel hW))
      have HEV : Hid (∃ g9 c9, u9 = .slice g9 k c9 ∧ (0 < k → ∃ G, g9 = some ⟨G, 0, none⟩ ∧ ∀ i, i < k → wr.cell? ⟨G, i, none⟩ = some (.int .i64 ((bbs f i).length : Nat)))) := hide (by
        have ho := hRb.out.ends
        obtain ⟨hl, ⟨e, hn⟩ | ⟨g, cap, cur, e, hg, hh, hnc, hcm, hcs, hx⟩⟩ := ho
        · exact ⟨none, 0, by rw [e, hn], fun h => by omega⟩
        · refine ⟨_, cap, e, fun _ => ⟨g, rfl, fun i hi => ?_⟩⟩
          have hc := World.ownsRow.cells hRb.out.ends (g := g) (by rw [e]; rfl) i (.int .i64 ((bbs f i).length : Nat)) (by simp [evs, hi])
          rwa [add_plain, Nat.zero_add] at hc)
      obtain ⟨g9, c9, hu9, hev⟩ := HEV.out
      subst hu9
      have HEV2 := hide hev
      generalize wr = w6 at *
      clear HEV hev hRb HRW R0 hc8
      go_wp2_with fail
      go_loopw [13, 14] (fun s13 s14 wq => ∃ j : Nat, j ≤ k ∧ s14 = .int .i64 j ∧ s13 = .int .i64 ((bbs f j).length : Nat) ∧ Hid (Below w6.heap.size w6 wq)) (fun _ s14 _ => k - (intOf s14).toNat)
      case atStart => exact ⟨0, by omega, rfl, rfl, hide (Below.refl _ _)⟩
      case round =>
        obtain ⟨j, hj, rfl, rfl, hB⟩ := hrel
        by_cases hjt : j < k
        · have hfj := HFF.out j hjt
          obtain ⟨r, hr⟩ := bbs_at f j k hjt
          have hbk := isB_bkb (f j) r hfj.2.2.1 hfj.1 hfj.2.1
          have hEl : (bbs f j).length ≤ L8 := by
            obtain ⟨r2, hr2⟩ := bbs_split f j (k - j)
            rw [show j + (k - j) = k by omega] at hr2
            rw [HLN.out, hr2, List.length_append]; omega
          have hT := btake_any a8 L8 c8 (bbs f k) (bbs f j).length wr (by omega) (HBS.out wr hB.out) hEl (bkb (f j) ++ r) hr.symm
          rw [hbk.2.2, hbk.2.1, hbk.1] at hT
          have hnx : ((bbs f j).length : Int) + 12 + ((ibn (f j)).length : Int) = ((bbs f (j + 1)).length : Nat) := by
            show _ = (((bbs f j ++ bkb (f j)).length : Nat) : Int)
            rw [List.length_append, bkb_len]; omega
          rw [hnx] at hT
          have HT := hide hT
          have hwf := hide hfj.2.2.1
          have g3 := HRW2.out wr hB.out
          obtain ⟨y3, hy3⟩ : ∃ y, z3[j]? = some y := ⟨_, List.getElem?_eq_getElem (by rw [g3.1]; exact hjt)⟩
          have l3 := HZ.out j y3 hy3
          have i3 := g3.2.2.1 y3 (List.mem_of_getElem? hy3)
          obtain ⟨p3, o3, e3, hc3⟩ := g3.2.2.2 (by omega)
          have u3 := hc3 j y3 hy3
          obtain ⟨x3, n3, d3, m3⟩ := y3
          simp only at l3 i3 u3
          subst l3 e3
          have hn3 : (f j).length = n3 := i3.1.1
          have hm3 := i3.2
          have HI3 := hide i3.1
          have U3 := hide u3
          obtain ⟨G, hG, hcG⟩ := HEV2.out (by omega)
          subst hG
          have C9 := hide ((hB.out.cell (p := ⟨G, j, none⟩) (World.block_lt_of_cell? w6 _ (hcG j hjt))).trans (hcG j hjt))
          obtain ⟨E, hE⟩ : ∃ E, (bbs f j).length = E := ⟨_, rfl⟩
          obtain ⟨E', hE'⟩ : ∃ E', (bbs f (j + 1)).length = E' := ⟨_, rfl⟩
          rw [hE, hE'] at HT
          rw [hE] at C9 hEl
          rw [hE]
          have HE' := hide hE'
          have hEE : ((E : Int) != (E : Int)) = false := by simp
          have hjz : (j : Int) < (k : Int) := by omega
          clear hfj hr hbk hT hnx g3 hy3 i3 hc3 u3 hcG hE hE'
          go_wp2_with fail
          refine HT.out.mono ?_
          rintro e w7 ⟨hb7, ⟨h9, -⟩ | ⟨-, v, rfl, ho⟩⟩
          · cases h9
          obtain ⟨a7, c7, rfl, hc7, hI7, -⟩ := ownI_is ho hwf.out
          rw [hn3] at hI7 ⊢
          have hEq := hide (equal_same a7 x3 n3 c7 d3 (f j) w7 hm3 hI7 (HI3.out.below hb7 (Nat.le_refl _)))
          have u7 := (hb7.cell (p := ⟨p3, o3 + j, none⟩) (World.block_lt_of_cell? wr _ U3.out)).trans U3.out
          have u8 := (hb7.cell (p := ⟨G, j, none⟩) (World.block_lt_of_cell? wr _ C9.out)).trans C9.out
          have HB7 := hide (bmore hB.out hb7)
          clear HT ho hI7 hb7 hn3
          go_wp2_with (first | (go_at_call 15; refine hEq.out.mono ?_; rintro e w8 ⟨rfl, hb8⟩))
          go_roundw
          case rel => exact ⟨j + 1, by omega, by go_num, by rw [HE'.out], hide (bmore HB7.out hb8)⟩
          case measure => simp [intOf]; omega
        · obtain rfl : j = k := by omega
          have hT := btake_any a8 L8 c8 (bbs f j) L8 wr (by omega) (HBS.out wr hB.out) (Nat.le_refl _) [] (by rw [HLN.out]; exact (List.drop_length).symm)
          rw [isB_nil] at hT
          have HT := hide hT
          have HT2 := hide (fun W => btake_arg a8 L8 c8 (-1) W (by omega) (.inl (by omega)))
          have hLL : ((L8 : Int) == (L8 : Int)) = true := by simp
          rw [← HLN.out]
          clear hT HEV2 HRW2
          go_wp2_with fail
          refine HT.out.mono ?_
          rintro e w7 ⟨hb7, ⟨-, rfl⟩ | ⟨h9, -⟩⟩
          case inr => cases h9
          have HB7 := hide (bmore hB.out hb7)
          clear HT hb7
          go_wp2_with (first
            | (go_at_call 13; refine (HT2.out _).mono ?_; rintro e w8 ⟨rfl, hw8⟩; subst hw8)
            | (go_at_call 8; refine (awake_any _).mono ?_; rintro e w9 ⟨rfl, hb9⟩))
          go_ret
          exact ⟨rfl, bmore (bmore HB.out HB7.out) hb9⟩
theorem rows_walk (a0 : Option Addr) (len0 cap0 : Nat) (l : List It) (most at9 : Int) (w : World) (h0 : Is w a0 len0 cap0 l) (hl0 : len0 ≤ 9223372036854775807) (hc0 : cap0 ≤ 9223372036854775807) :
    Calls Try.prog 6 #[.slice a0 len0 cap0, .int .i64 most, .int .i64 at9] w fun e w' => e = .returned (.bool true) ∧ Below w.heap.size w w' := by
  by_cases h : 100 < len0
  · exact rows_long a0 len0 cap0 most at9 w hl0 h
  · exact rows_go a0 len0 cap0 l most at9 w h0 hc0 (by omega)

end Go.Proofs.Ytcgfopkoalnjkaa.Clep
