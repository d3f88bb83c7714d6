/- What the document's own Unlist (package clepsydraref1) does when called: any text up to 2^40, any bound. -/
import Derived.Test.YtgopcaemgcnapaaNRefLists
import Derived.Test.YtgopcaemgcnapaaWp
import Derived.Test.YtgopcaemgcnapaaFMath
import Derived.Test.YtgopcaemgcnapaaRefFrame
import Derived.Test.YtgopcaemgcnapaaEAst
import Derived.Test.YtgopcaemgcnapaaEWholeM
import Derived.Test.YtgopcaemgcnapaaEEdits
import Derived.Test.YtgopcaemgcnapaaEApplyP
import Derived.Maps.AppendAt
import Derived.Test.YtgopcaemgcnapaaFTake
import Derived.Test.YtgopcaemgcnapaaEAwake
import Derived.BigRegion
import Derived.Test.YtgopcaemgcnapaaBase
import Derived.Deep.CutRange
namespace Go.Proofs.Ytgopcaemgcnapaa.Clep
open Go.RowKit
set_option linter.unusedVariables false
set_option maxRecDepth 10000

theorem sz_drop {s : ByteArray} {zs : List Int} (h : Sz s zs) (P : Nat) (hP : P ≤ s.size) : Sz (s.extract P s.size) (zs.drop P) := by
  refine ⟨by rw [ByteArray.size_extract, List.length_drop, h.1]; omega, fun k hk => ?_⟩
  have hk2 : P + k < s.size := by rw [ByteArray.size_extract] at hk; omega
  have := h.2 (P + k) hk2
  rw [ByteArray.getElem_extract]
  rw [this]
  simp [List.getD]

set_option maxHeartbeats 2000000 in
theorem refunlist_any (s : ByteArray) (len : Nat) (zs : List Int) (most : Int) (w : World) (hlen : s.size = len) (hm : len ≤ 1099511627776) (hs : Sz s zs) (hzr0 : ∀ z ∈ zs, 0 ≤ z ∧ z < 256) (hmo : most ≤ 9223372036854775807) (hmo2 : -9223372036854775808 ≤ most) (r : List Int × Int × Int) (hr : Hid (ul zs most = r)) :
    Calls Try.prog 44 #[.string s, .int .i64 most] w fun e w' => ∃ v, e = .returned (.tuple #[v, .int .i64 r.2.1, .int .i64 r.2.2]) ∧ OwnU w' w.heap.size v r.1 ∧ Below w.heap.size w w' := by
  obtain ⟨i0, hi, hz0, hz1, hz2⟩ := info_parts info25
  have HS := hide hs
  have hzr := hide hzr0
  have hzl : Hid (zs.length = len) := hide (by rw [← hs.1]; exact hlen)
  have HL := hide hlen
  have hsz0 : s.size ≤ 1099511627776 := by omega
  have hlen2 : len ≤ s.size ∧ s.size ≤ len := by omega
  clear hs hzr0 hlen
  go_enter Try.func44, Try.ntmps44
  go_wp2_with fail
  have hf := tk_facts zs 0 0 (by omega) hzr.out (by omega) (by simp)
  have hsz := tk_size zs 0 0 (by omega)
  obtain ⟨C, S0, E, hT⟩ : ∃ C S0 E, tk zs 0 0 = (C, S0, E) := ⟨_, _, _, rfl⟩
  rw [hT] at hf hsz
  have HT := hide hT
  clear hT
  simp only at hf hsz
  refine (reftake_any s zs w (by omega) HS.out (range_of hzr.out)).mono ?_
  rw [HT.out]
  rintro e w1 ⟨rfl, rfl⟩
  unfold tup
  obtain ⟨P0, hP0⟩ : ∃ P0 : Nat, S0 = (P0 : Int) := ⟨S0.toNat, by omega⟩
  rw [hP0]
  have hP0l : P0 ≤ len := by have := hzl.out; omega
  have HP0 : Hid (P0 = S0.toNat) := hide (by omega)
  clear hP0
  by_cases hE : E = 0
  · have hEb : (E != 0) = false := by simp [hE]
    have HE := hide hE
    clear hE
    have hC0 := hf.1
    have hC1 := hf.2.1
    by_cases hC : max most 0 < C
    · have HRR : Hid (r = ([], 0, 2)) := hide (by rw [← hr.out]; unfold ul; rw [HT.out]; simp only; rw [if_pos HE.out, if_pos hC])
      by_cases hq : most < 0
      · have hCC : 0 < C := by omega
        clear hC
        go_wp2
        go_ret3
        rw [HRR.out]
        exact ⟨_, rfl, World.ownsRow_nil _ _ _ _, Below.refl _ _⟩
      · have hCC : most < C := by omega
        have hq0 : 0 ≤ most := by omega
        clear hC
        go_wp2
        go_ret3
        rw [HRR.out]
        exact ⟨_, rfl, World.ownsRow_nil _ _ _ _, Below.refl _ _⟩
    · have HRR : Hid (uls C.toNat zs P0 [] = r) := hide (by rw [← hr.out]; unfold ul; rw [HT.out]; simp only; rw [if_pos HE.out, if_neg hC, HP0.out])
      by_cases hq : most < 0
      · have hCC : C ≤ 0 := by omega
        clear hC hf hsz HP0
        go_wp2_with fail
        go_loopw [8, 10, 11] (fun t u i wr => ∃ (k P : Nat) (acc : List Int), t = .int .i64 P ∧ i = .int .u64 k ∧ (k : Int) ≤ C ∧ acc.length ≤ P ∧ P ≤ len ∧ Hid (uls (C.toNat - k) zs P acc = r) ∧ Hid (OwnU wr w1.heap.size u acc) ∧ Hid (Below w1.heap.size w1 wr)) (fun _ _ i _ => (C - intOf i).toNat)
        case atStart => exact ⟨0, P0, [], rfl, rfl, hC0, by simp, hP0l, HRR, hide (World.ownsRow_nil _ _ _ _), hide (Below.refl _ _)⟩
        case round =>
          obtain ⟨k, P, acc, rfl, rfl, hk, hacc, hP, hu, hown, hR⟩ := hrel
          by_cases hlt : (k : Int) < C
          · exact absurd hlt (by omega)
          · have HRR2 : Hid (r = (acc, (P : Int), 0)) := hide (by rw [← hu.out, show C.toNat - k = 0 from by omega]; rfl)
            go_wp2
            go_ret3
            rw [HRR2.out]
            exact ⟨_, rfl, hown.out, hR.out⟩
      · have hCC : C ≤ most := by omega
        have hq0 : 0 ≤ most := by omega
        clear hC hf hsz HP0
        go_wp2_with fail
        go_loopw [8, 10, 11] (fun t u i wr => ∃ (k P : Nat) (acc : List Int), t = .int .i64 P ∧ i = .int .u64 k ∧ (k : Int) ≤ C ∧ acc.length ≤ P ∧ P ≤ len ∧ Hid (uls (C.toNat - k) zs P acc = r) ∧ Hid (OwnU wr w1.heap.size u acc) ∧ Hid (Below w1.heap.size w1 wr)) (fun _ _ i _ => (C - intOf i).toNat)
        case atStart => exact ⟨0, P0, [], rfl, rfl, hC0, by simp, hP0l, HRR, hide (World.ownsRow_nil _ _ _ _), hide (Below.refl _ _)⟩
        case round =>
          obtain ⟨k, P, acc, rfl, rfl, hk, hacc, hP, hu, hown, hR⟩ := hrel
          by_cases hlt : (k : Int) < C
          · have hPs : P ≤ s.size := by omega
            have hf := tk_facts (zs.drop P) 0 0 (by omega) (fun z hz => hzr.out z (List.mem_of_mem_drop hz)) (by omega) (by simp)
            have hsz := tk_size (zs.drop P) 0 0 (by omega)
            obtain ⟨x, t, e, hT⟩ : ∃ x t e, tk (zs.drop P) 0 0 = (x, t, e) := ⟨_, _, _, rfl⟩
            rw [hT] at hf hsz
            have HT2 := hide hT
            clear hT
            simp only at hf hsz
            rw [List.length_drop] at hsz
            obtain ⟨q, hq'⟩ : ∃ q : Nat, t = (q : Int) := ⟨t.toNat, by omega⟩
            subst hq'
            go_wp2_with fail
            refine (reftake_any (s.extract P s.size) (zs.drop P) wr (by rw [ByteArray.size_extract]; omega) (sz_drop HS.out P hPs) (range_of fun z hz => hzr.out z (List.mem_of_mem_drop hz))).mono ?_
            rw [HT2.out]
            rintro en w2 ⟨rfl, rfl⟩
            unfold tup
            have hQl : P + q ≤ len := by have := hzl.out; omega
            have HF := hide hf
            have hx := hf.1
            have hx1 := hf.2.1
            clear hsz hf
            by_cases he : e = 0
            · have heb : (e != 0) = false := by simp [he]
              have hQP : 1 ≤ q := by have := HF.out.2.2 he; omega
              have HU2 : Hid (uls (C.toNat - (k + 1)) zs (P + q) (acc ++ [x]) = r) := hide (by rw [← hu.out, show C.toNat - k = (C.toNat - (k + 1)) + 1 from by omega, uls_yes _ zs P acc x _ e HT2.out he, Int.toNat_natCast])
              clear he
              have hszw := hide hR.out.size
              go_wp2_with (first
                | (at_builtin; refine wpList_append_own _ rfl _ _ 81 rfl w1.heap.size 24 i0 (.int .u64 0) 1 8 Try.underlying81 hi hz0 hz1 hz2 rfl (by decide) _ _ _ rfl (hown.out.alloc _) ⟨w2.heap.size, 0, none⟩ 1 1 [.int .u64 x] rfl rfl ?d1 ?d2 ?d3 ?d4 ?d5 ?_)
                | fail)
              case d1 => exact cell_one_new _ _ _
              case d2 => intro u hu; simp at hu; subst hu; rfl
              case d3 => unfold maxLen; omega
              case d4 => omega
              case d5 => have := hszw.out; simp; omega
              intro v' w3 hown' hgrow _
              have HW := hide (ownU_snoc hown')
              have HR3 : Hid (Below w1.heap.size w1 w3) := hide ((hR.out.alloc hszw.out _).grown hgrow (by have := hszw.out; simp; omega) (fun j hj => (World.ownsRow.lt hown.out j hj).1))
              clear hown' hgrow
              go_wp2
              go_roundw
              case rel => exact ⟨k + 1, P + q, acc ++ [x], by go_num, by go_num, by omega, by simp; omega, hQl, HU2, HW, HR3⟩
              case measure => simp [intOf]; omega
            · have heb : (e != 0) = true := by simp [he]
              have HRR2 : Hid (r = ([], 0, e)) := hide (by rw [← hu.out, show C.toNat - k = (C.toNat - (k + 1)) + 1 from by omega, uls_no _ zs P acc x _ e HT2.out he])
              clear he
              go_wp2
              go_ret3
              rw [HRR2.out]
              exact ⟨_, rfl, World.ownsRow_nil _ _ _ _, hR.out⟩
          · have HRR2 : Hid (r = (acc, (P : Int), 0)) := hide (by rw [← hu.out, show C.toNat - k = 0 from by omega]; rfl)
            go_wp2
            go_ret3
            rw [HRR2.out]
            exact ⟨_, rfl, hown.out, hR.out⟩
  · have hEb : (E != 0) = true := by simp [hE]
    have HRR : Hid (r = ([], 0, E)) := hide (by rw [← hr.out]; unfold ul; rw [HT.out]; simp only; rw [if_neg hE])
    clear hE
    go_wp2
    go_ret3
    rw [HRR.out]
    exact ⟨_, rfl, World.ownsRow_nil _ _ _ _, Below.refl _ _⟩

end Go.Proofs.Ytgopcaemgcnapaa.Clep

/- What the document's own ReadEdit does when called: what its blocks hold between its steps; when the bytes are no Edit. No conditions. -/
namespace Go.Proofs.Ytgopcaemgcnapaa.Clep
open Go.RowKit
set_option linter.unusedVariables false
set_option maxRecDepth 10000

theorem red_none {X : List Int} (h : okR X = true → mayB (rawE X) = true → False) : red X = none := by
  unfold red
  rw [if_neg]
  intro hh
  rw [Bool.and_eq_true] at hh
  exact h hh.1 hh.2
theorem red_drop {X : List Int} (z : Int) (hz : z ∈ (ul X 40).1) (hb : 1073741824 < z) : red X = none := red_none fun _ hm => by
  have := ((emay_parts ((mayB_iff _).1 hm)).2.1 z hz).2
  omega
theorem okR_parts {X : List Int} (h : okR X = true) : (ul X 40).2.2 = 0 ∧ cX X ≤ 40 ∧ (stN (s1X X) (2 * (cX X).toNat + 5)).2 = false ∧ (stN (s1X X) (2 * (cX X).toNat + 5)).1.length = 0 := by
  unfold okR at h
  simp only [Bool.and_eq_true, decide_eq_true_eq, Bool.not_eq_true'] at h
  exact ⟨h.1, h.2.1, h.2.2.1, h.2.2.2⟩
theorem red_head {X : List Int} (h : (s1X X).2 = true) : red X = none := red_none fun ho _ => by
  have h1 := stN_bad (s1X X) 0 (2 * (cX X).toNat + 5) h
  rw [Nat.zero_add, (okR_parts ho).2.2.1] at h1
  cases h1
theorem red_count {X : List Int} (h : 40 < cX X) : red X = none := red_none fun ho _ => by
  have := (okR_parts ho).2.1
  omega
theorem red_stop {X : List Int} (j : Nat) (hj : j ≤ 2 * (cX X).toNat + 5) (h : (stN (s1X X) j).2 = true) : red X = none := red_none fun ho _ => by
  have h1 := stN_bad (s1X X) j (2 * (cX X).toNat + 5 - j) h
  rw [show j + (2 * (cX X).toNat + 5 - j) = 2 * (cX X).toNat + 5 from by omega, (okR_parts ho).2.2.1] at h1
  cases h1
theorem red_end {X : List Int} (h : 0 < (stN (s1X X) (2 * (cX X).toNat + 5)).1.length) : red X = none := red_none fun ho _ => by
  have := (okR_parts ho).2.2.2
  omega
theorem red_great {X : List Int} (j : Nat) (hj : j < 2 * (cX X).toNat + 5) (h : 281474976710656 < nr (s1X X) j) : red X = none := red_none fun _ hm => by
  have hp := emay_parts ((mayB_iff _).1 hm)
  unfold rawE at hp
  simp only at hp
  obtain ⟨_, _, hf, hl, h1, h2, h3, h4⟩ := hp
  rcases Nat.lt_or_ge j (2 * (cX X).toNat) with hlt | hge
  · have hmem : (⟨nr (s1X X) (2 * (j / 2)), nr (s1X X) (2 * (j / 2) + 1)⟩ : Fi) ∈ fX X (cX X).toNat := List.mem_map.2 ⟨j / 2, List.mem_range.2 (by omega), rfl⟩
    have hq := hf _ hmem
    simp only at hq
    rcases Nat.mod_two_eq_zero_or_one j with hm2 | hm2
    · rw [show 2 * (j / 2) = j from by omega] at hq
      omega
    · rw [show 2 * (j / 2) + 1 = j from by omega] at hq
      omega
  · obtain ⟨t, rfl⟩ : ∃ t, j = 2 * (cX X).toNat + t := ⟨j - 2 * (cX X).toNat, by omega⟩
    have ht : t = 0 ∨ t = 1 ∨ t = 2 ∨ t = 3 ∨ t = 4 := by omega
    generalize nr (s1X X) = N at *
    generalize 2 * (cX X).toNat = M at *
    rcases ht with rfl | rfl | rfl | rfl | rfl
    · rw [Nat.add_zero] at h; omega
    · omega
    · omega
    · omega
    · omega
/-- Between the steps of the document's ReadEdit. -/
structure RT (w : World) (Q : Nat) (W : World) (cs : Array Value) : Prop where
  z : Ek W w.heap.size zE7 31
  q : Ek W Q cs 31
  bel : Below w.heap.size w W
  lt : w.heap.size < Q
section
variable {w W W' : World} {Q : Nat} {cs : Array Value}
theorem RT.drew (h : RT w Q W cs) : RT w Q W.drew cs := ⟨h.z.drew, h.q.drew, h.bel.drew, h.lt⟩
theorem RT.keep (h : RT w Q W cs) (hb : Below W.heap.size W W') : RT w Q W' cs := ⟨h.z.below hb h.z.lt, h.q.below hb h.q.lt, h.bel.trans (hb.mono h.bel.size), h.lt⟩
theorem RT.row (h : RT w Q W cs) {row : Option Nat} (hg : W.grownBy W' row) (hk : ∀ k, row = some k → Q + 1 ≤ k) : RT w Q W' cs := by
  have hl := h.lt
  refine ⟨h.z.gb hg (fun e => ?_), h.q.gb hg (fun e => ?_), h.bel.grown hg h.bel.size (fun k e => ?_), hl⟩
  · have := hk _ e.symm; omega
  · have := hk _ e.symm; omega
  · have := hk _ e; omega
theorem RT.setq (h : RT w Q W cs) (k : Nat) (u : Value) : RT w Q (W.setCell ⟨Q, k, none⟩ u) (cs.setIfInBounds k u) := by
  have hl := h.lt
  have hg := fgb_set W ⟨Q, k, none⟩ u
  refine ⟨h.z.gb hg (fun e => ?_), h.q.set k u, h.bel.grown hg h.bel.size (fun k e => ?_), hl⟩
  · have : w.heap.size = Q := Option.some.inj e; omega
  · have : Q = k := Option.some.inj e; omega
theorem RT.sz (h : RT w Q W cs) : Q + 1 ≤ W.heap.size := h.q.lt
end
theorem Us.gb {w w' : World} {row : Option Nat} {ao : Option Addr} {n c : Nat} {l : List Int} (h : Us w ao n c l) (hg : w.grownBy w' row) (hne : ∀ a, ao = some a → some a.block ≠ row) : Us w' ao n c l := by
  refine ⟨h.1, h.2.1, h.2.2.1, fun h0 => ?_⟩
  obtain ⟨b, off, e, hc⟩ := h.2.2.2 h0
  refine ⟨b, off, e, fun i hi => ?_⟩
  have := hc i hi
  exact gb_cells hg (World.block_lt_of_cell? w _ this) (by have := hne _ e; exact this) _ _ this
theorem ownZ_grown {w w' : World} {B : Nat} {v : Value} {l : List Int} {row : Option Nat} (h : OwnZ w B v l) (hg : w.grownBy w' row) (hne : ∀ k, row = some k → k < B) : OwnZ w' B v l := by
  refine World.ownsRow.kept h hg ?_
  cases hv : v.ownBlock with
  | none => exact .inl rfl
  | some k =>
    refine .inr (fun e => ?_)
    have h1 := World.ownsRow.lt h k hv
    have := hne k e.symm
    omega
theorem ownU_grown {w w' : World} {B : Nat} {v : Value} {l : List Int} {row : Option Nat} (h : OwnU w B v l) (hg : w.grownBy w' row) (hne : ∀ k, row = some k → k < B) : OwnU w' B v l := by
  refine World.ownsRow.kept h hg ?_
  cases hv : v.ownBlock with
  | none => exact .inl rfl
  | some k =>
    refine .inr (fun e => ?_)
    have h1 := World.ownsRow.lt h k hv
    have := hne k e.symm
    omega
theorem step_append_z {w : World} {ops : Array Oper} {o : Oper} {a : Act} {K : Act → World → Prop} {Q : Exit → Act → World → Prop} {E : Prop} (hgd : o.guard = none) (s x : Operand)
    (ho : o.op = .call { callee := .builtin .append, args := #[s, x], argTypes := #[22, 22] })
    (base : Nat) (v : Value) (ns : List Int) (hs : a.eval s = v) (hown : OwnZ w base v ns) (p : Nat) (z : Int) (hx : a.eval x = .slice (some ⟨p, 0, none⟩) 1 1) (hp : Ek w p #[.int .i64 z] 3)
    (hlen : ns.length ≤ 100000) (hbase : base ≤ w.heap.size)
    (h : ∀ v' w', OwnZ w' base v' (ns ++ [z]) → w.grownBy w' v.ownBlock → (∀ k, v.ownBlock = some k → base ≤ k) → K (a.put o.dst v') w') :
    if Region.wanted o (yielded ops a.tmps) = true then Oper.wp Try.prog o a w K Q else E := by
  have hw : Region.wanted o (yielded ops a.tmps) = true := by simp [Region.wanted, hgd]
  rw [if_pos hw]
  obtain ⟨i0, hi, hz0, hz1, hz2⟩ := info_parts info_int
  refine wp_append_own _ s x 22 ho base 3 i0 (.int .i64 0) 1 8 Try.underlying22 hi hz0 hz1 hz2 rfl (by decide) v ns.length (iv9 ns) hs hown ⟨p, 0, none⟩ 1 1 [.int .i64 z] hx rfl ?_ ?_ (by unfold maxLen; omega) (by omega) hbase ?_
  · intro j u hu
    match j, hu with
    | 0, hu =>
      simp at hu
      subst hu
      exact hp.cell rfl
    | k + 1, hu => simp at hu
  · intro u hu
    simp at hu
    subst hu
    rfl
  · intro v' w' h1 h2 _
    refine h v' w' ?_ h2 (fun k hk => (World.ownsRow.lt hown k hk).1)
    unfold OwnZ iv9
    simpa [iv9] using h1
/-- Between the rounds of the last loop of the document's ReadEdit. -/
structure RV (w : World) (Q B : Nat) (dd : Option Addr) (dn dc : Nat) (ds : List Int) (la : Option Addr) (ln lc : Nat) (ls : List Int) (W : World) (cs : Array Value) (fv : Value) (fl : List Fi) : Prop where
  rt : RT w Q W cs
  own : OwnF W B fv fl
  d : Zs W dd dn dc ds
  l : Us W la ln lc ls
  db : ∀ a, dd = some a → Q < a.block ∧ a.block < B
  lb : ∀ a, la = some a → Q < a.block ∧ a.block < B
  sz : B ≤ W.heap.size
  qb : Q < B
section
variable {w W W' : World} {Q B : Nat} {dd : Option Addr} {dn dc : Nat} {ds : List Int} {la : Option Addr} {ln lc : Nat} {ls : List Int} {cs : Array Value} {fv fv' : Value} {fl fl' : List Fi}
theorem RV.keep (h : RV w Q B dd dn dc ds la ln lc ls W cs fv fl) (hb : Below W.heap.size W W') : RV w Q B dd dn dc ds la ln lc ls W' cs fv fl :=
  ⟨h.rt.keep hb, ownF_keep h.own hb, h.d.below hb (Nat.le_refl _), h.l.below hb (Nat.le_refl _), h.db, h.lb, Nat.le_trans h.sz hb.size, h.qb⟩
theorem RV.drew (h : RV w Q B dd dn dc ds la ln lc ls W cs fv fl) : RV w Q B dd dn dc ds la ln lc ls W.drew cs fv fl := h.keep (Below.refl _ W).drew
theorem RV.row (h : RV w Q B dd dn dc ds la ln lc ls W cs fv fl) {row : Option Nat} (hg : W.grownBy W' row) (hk : ∀ k, row = some k → B ≤ k) (ho : OwnF W' B fv' fl') : RV w Q B dd dn dc ds la ln lc ls W' cs fv' fl' := by
  have hq := h.qb
  refine ⟨h.rt.row hg (fun k e => by have := hk k e; omega), ho, h.d.gb hg (fun a ha e => ?_), h.l.gb hg (fun a ha e => ?_), h.db, h.lb, Nat.le_trans h.sz hg.size, hq⟩
  · have := h.db a ha; have := hk _ e.symm; omega
  · have := h.lb a ha; have := hk _ e.symm; omega
theorem RV.setq (h : RV w Q B dd dn dc ds la ln lc ls W cs fv fl) (k : Nat) (u : Value) : RV w Q B dd dn dc ds la ln lc ls (W.setCell ⟨Q, k, none⟩ u) (cs.setIfInBounds k u) fv fl := by
  have hq := h.qb
  have hg := fgb_set W ⟨Q, k, none⟩ u
  refine ⟨h.rt.setq k u, ownF_grown h.own hg (fun k e => ?_), h.d.gb hg (fun a ha e => ?_), h.l.gb hg (fun a ha e => ?_), h.db, h.lb, Nat.le_trans h.sz hg.size, hq⟩
  · have : Q = k := Option.some.inj e; omega
  · have := h.db a ha; have : a.block = Q := Option.some.inj e; omega
  · have := h.lb a ha; have : a.block = Q := Option.some.inj e; omega
end
theorem map_range_get (f : Nat → Int) (n i : Nat) (h : i < n) : ((List.range n).map f).getD i 0 = f i := by
  simp [List.getD, h]

end Go.Proofs.Ytgopcaemgcnapaa.Clep

/- What a row of bytes says, frame behind frame, up to the first that is none. -/
namespace Go.Proofs.Ytgopcaemgcnapaa.Clep
open Go.RowKit
set_option linter.unusedVariables false
set_option maxRecDepth 10000

/-- Frames from the front on, at most f of them: kinds and bodies, where the last ends, why. -/
def sp : Nat → List Int → List (Int × List Int) × Nat × Int
  | 0, _ => ([], 0, 0)
  | f + 1, X => if X = [] then ([], 0, 0) else if ce X = 0 then
      ((kd X, bo X) :: (sp f (X.drop ((ln X).toNat + 12))).1, (ln X).toNat + 12 + (sp f (X.drop ((ln X).toNat + 12))).2.1, (sp f (X.drop ((ln X).toNat + 12))).2.2)
    else ([], 0, ce X)
def SP (X : List Int) : List (Int × List Int) × Nat × Int := sp X.length X

theorem sp_succ (f : Nat) (X : List Int) : sp (f + 1) X = if X = [] then ([], 0, 0) else if ce X = 0 then
      ((kd X, bo X) :: (sp f (X.drop ((ln X).toNat + 12))).1, (ln X).toNat + 12 + (sp f (X.drop ((ln X).toNat + 12))).2.1, (sp f (X.drop ((ln X).toNat + 12))).2.2)
    else ([], 0, ce X) := rfl
theorem sp_fuel : ∀ (f g : Nat) (X : List Int), X.length ≤ f → X.length ≤ g → sp f X = sp g X
  | 0, 0, _, _, _ => rfl
  | 0, g + 1, X, hf, _ => by
    have : X = [] := List.eq_nil_of_length_eq_zero (by omega)
    subst this; simp [sp]
  | f + 1, 0, X, _, hg => by
    have : X = [] := List.eq_nil_of_length_eq_zero (by omega)
    subst this; simp [sp]
  | f + 1, g + 1, X, hf, hg => by
    have ih : X ≠ [] → sp f (X.drop ((ln X).toNat + 12)) = sp g (X.drop ((ln X).toNat + 12)) := fun hx => by
      have : 0 < X.length := List.length_pos_iff.2 hx
      exact sp_fuel f g _ (by rw [List.length_drop]; omega) (by rw [List.length_drop]; omega)
    rw [sp_succ, sp_succ]
    split
    · rfl
    · rename_i hx
      rw [ih hx]
theorem SP_nil : SP [] = ([], 0, 0) := rfl
theorem SP_bad (X : List Int) (hx : X ≠ []) (hc : ce X ≠ 0) : SP X = ([], 0, ce X) := by
  unfold SP
  obtain ⟨f, hf⟩ : ∃ f, X.length = f + 1 := ⟨X.length - 1, by have := List.length_pos_iff.2 hx; omega⟩
  rw [hf, sp_succ, if_neg hx, if_neg hc]
theorem SP_good (X : List Int) (hc : ce X = 0) : SP X = ((kd X, bo X) :: (SP (X.drop ((ln X).toNat + 12))).1, (ln X).toNat + 12 + (SP (X.drop ((ln X).toNat + 12))).2.1, (SP (X.drop ((ln X).toNat + 12))).2.2) := by
  have hk := ce_ok X hc
  have hx : X ≠ [] := fun h => by subst h; simp at hk
  obtain ⟨f, hf⟩ : ∃ f, X.length = f + 1 := ⟨X.length - 1, by omega⟩
  have e : SP (X.drop ((ln X).toNat + 12)) = sp f (X.drop ((ln X).toNat + 12)) := sp_fuel _ f _ (Nat.le_refl _) (by rw [List.length_drop]; omega)
  rw [e]
  unfold SP
  rw [hf, sp_succ, if_neg hx, if_pos hc]
theorem SP_front (k : Int) (ys r : List Int) (hk : 1 ≤ k) (hk2 : k ≤ 100) (hn : ys.length ≤ 60000) (hy : ByteL ys) :
    SP (fr k ys ++ r) = ((k, ys) :: (SP r).1, ys.length + 12 + (SP r).2.1, (SP r).2.2) := by
  rw [SP_good _ (fr_ce k ys r hk hk2 hn hy), fr_kd, fr_bo k ys r hn, fr_ln k ys r hn, Int.toNat_natCast, drop_app (fr k ys) r _ (fr_len k ys)]

/-- Behind j frames the place is P. -/
def At (zs : List Int) (j P : Nat) : Prop := P ≤ zs.length ∧ j ≤ P ∧ (SP zs).1.drop j = (SP (zs.drop P)).1 ∧ j ≤ (SP zs).1.length ∧ (SP zs).2.1 = P + (SP (zs.drop P)).2.1 ∧ (SP zs).2.2 = (SP (zs.drop P)).2.2
theorem At.start (zs : List Int) : At zs 0 0 := ⟨by omega, by omega, by simp, by omega, by simp, by simp⟩
theorem At.end {zs : List Int} {j P : Nat} (h : At zs j P) (hP : P = zs.length) : (SP zs).1.length = j ∧ (SP zs).2.1 = P ∧ (SP zs).2.2 = 0 := by
  obtain ⟨_, _, h1, h2, h3, h4⟩ := h
  rw [hP, List.drop_length, SP_nil] at h1 h3 h4
  have := List.drop_eq_nil_iff.1 h1
  exact ⟨by omega, by rw [h3, hP]; rfl, h4⟩
theorem At.stop {zs : List Int} {j P : Nat} (h : At zs j P) (hP : P < zs.length) (hc : ce (zs.drop P) ≠ 0) : (SP zs).1.length = j ∧ (SP zs).2.1 = P ∧ (SP zs).2.2 = ce (zs.drop P) := by
  obtain ⟨_, _, h1, h2, h3, h4⟩ := h
  have hx : zs.drop P ≠ [] := fun h => by have := List.drop_eq_nil_iff.1 h; omega
  rw [SP_bad _ hx hc] at h1 h3 h4
  have := List.drop_eq_nil_iff.1 h1
  exact ⟨by omega, by rw [h3]; rfl, h4⟩
theorem At.step {zs : List Int} {j P : Nat} (h : At zs j P) (hc : ce (zs.drop P) = 0) : At zs (j + 1) (P + ((ln (zs.drop P)).toNat + 12)) ∧ j < (SP zs).1.length ∧ (SP zs).1.getD j (0, []) = (kd (zs.drop P), bo (zs.drop P)) := by
  obtain ⟨hP, hj, h1, h2, h3, h4⟩ := h
  have hk := ce_ok _ hc
  rw [List.length_drop] at hk
  rw [SP_good _ hc, List.drop_drop] at h1 h3 h4
  have hlt : j < (SP zs).1.length := by
    rcases Nat.lt_or_ge j (SP zs).1.length with h | h
    · exact h
    · rw [List.drop_eq_nil_of_le h] at h1; cases h1
  rw [List.drop_eq_getElem_cons hlt] at h1
  injection h1 with h5 h6
  refine ⟨⟨by omega, by omega, h6, by omega, by rw [h3]; simp only []; omega, h4⟩, hlt, ?_⟩
  rw [List.getD, List.getElem?_eq_getElem hlt, Option.getD_some, h5]
theorem At.more {zs : List Int} {j P : Nat} (h : At zs j P) (hj : j < (SP zs).1.length) : ce (zs.drop P) = 0 := by
  rcases Classical.em (ce (zs.drop P) = 0) with h0 | h0
  · exact h0
  · have hP := h.1
    rcases Nat.lt_or_ge P zs.length with hl | hl
    · have := (h.stop hl h0).1; omega
    · have := (h.end (by omega)).1; omega

end Go.Proofs.Ytgopcaemgcnapaa.Clep

/- Heads of frames. No conditions. -/
namespace Go.Proofs.Ytgopcaemgcnapaa.Clep
open Go.RowKit
set_option linter.unusedVariables false
set_option maxRecDepth 10000

theorem hd_kd (k : Int) (n : Nat) (r : List Int) : kd (sl (hd k n) ++ r) = k := by simp [kd, sl, hd]
theorem hd_ln (k : Int) (n : Nat) (r : List Int) (hn : n ≤ 60000) : ln (sl (hd k n) ++ r) = n := by
  simp only [ln, sl, hd, List.cons_append, List.nil_append, List.getD_cons_succ, List.getD_cons_zero]
  omega
theorem hd_he (k : Int) (n : Nat) (r : List Int) (hk : 1 ≤ k) (hk2 : k ≤ 100) (hn : n ≤ 60000) : he (sl (hd k n) ++ r) = 0 := by
  have hg : nn ((sl (hd k n)).drop 4) = crc ((sl (hd k n)).take 4) := good_sl (hd k n) (hd_range k n hk hk2 hn)
  unfold he
  rw [List.take_append_of_le_length (by rw [sl_len, hd_len]; omega), List.take_of_length_le (by rw [sl_len, hd_len]; omega), if_pos hg]
/-- A frame that is cut is torn. -/
theorem torn (k : Int) (ys : List Int) (t : Nat) (hk : 1 ≤ k) (hk2 : k ≤ 100) (hn : ys.length ≤ 60000) (ht : t < ys.length + 12) : ce ((fr k ys).take t) = 4 := by
  have hlen : ((fr k ys).take t).length = t := by rw [List.length_take, fr_len]; omega
  rcases Nat.lt_or_ge t 8 with h | h
  · unfold ce; rw [if_pos (by omega)]
  · have e : (fr k ys).take t = sl (hd k ys.length) ++ (sl ys).take (t - 8) := by
      unfold fr
      rw [List.take_append, List.take_of_length_le (by rw [sl_len, hd_len]; omega), sl_len, hd_len]
    unfold ce
    rw [if_neg (by omega), hlen, e, if_neg (by rw [hd_he _ _ _ hk hk2 hn]; simp), if_neg (by rw [hd_kd, hd_ln _ _ _ hn]; omega), if_pos (by rw [hd_ln _ _ _ hn]; omega)]


end Go.Proofs.Ytgopcaemgcnapaa.Clep

/- A log of Edits as a row of bytes: which View its frames make, also where it is cut. No conditions. -/
namespace Go.Proofs.Ytgopcaemgcnapaa.Clep
open Go.RowKit
set_option linter.unusedVariables false
set_option maxRecDepth 10000

/-- The View that frames make of V, one by one. -/
def fE (V : Vw) : List (Int × List Int) → Option Vw
  | [] => some V
  | x :: r => if x.1 = 6 then (match red x.2 with
    | none => none
    | some E => match appl V E with
      | none => none
      | some U => fE U r) else none
theorem fE_cons (V : Vw) (x : Int × List Int) (r : List (Int × List Int)) : fE V (x :: r) = if x.1 = 6 then (match red x.2 with
    | none => none
    | some E => match appl V E with
      | none => none
      | some U => fE U r) else none := rfl
theorem fE_app : ∀ (F G : List (Int × List Int)) (V : Vw), fE V (F ++ G) = (fE V F).bind (fun U => fE U G)
  | [], G, V => rfl
  | x :: F, G, V => by
    rw [List.cons_append, fE_cons, fE_cons]
    split
    · cases h1 : red x.2 with
      | none => rfl
      | some E =>
        cases h2 : appl V E with
        | none => simp only; rw [h2]; rfl
        | some U => simp only; rw [h2]; exact fE_app F G U
    · rfl
/-- What the Edit of a body makes of V. -/
def cgd (V : Vw) (X : List Int) : Option Vw := match red X with
  | none => none
  | some E => appl V E
theorem fE_one (V : Vw) (x : Int × List Int) : fE V [x] = if x.1 = 6 then cgd V x.2 else none := by
  unfold fE cgd
  split
  · cases h1 : red x.2 with
    | none => rfl
    | some E =>
      cases h2 : appl V E with
      | none => simp only; rw [h2]
      | some U => simp only; rw [h2]; rfl
  · rfl
theorem fE_next {F : List (Int × List Int)} {j : Nat} {V : Vw} (hj : j < F.length) (h : fE zV (F.take j) = some V) : fE zV (F.take (j + 1)) = if (F.getD j (0, [])).1 = 6 then cgd V (F.getD j (0, [])).2 else none := by
  have e : F.take (j + 1) = F.take j ++ [F.getD j (0, [])] := by
    rw [List.take_add_one, List.getElem?_eq_getElem hj]
    simp [List.getD, List.getElem?_eq_getElem hj]
  rw [e, fE_app, h]
  exact fE_one V _
theorem fE_bad {F : List (Int × List Int)} {j : Nat} (h : fE zV (F.take j) = none) : fE zV F = none := by
  conv => lhs; rw [← List.take_append_drop j F]
  rw [fE_app, h]
  rfl
/-- What Replay tells: the View, and where the last frame ends. -/
def rpE (X : List Int) : Option (Vw × Nat) := if ((SP X).2.2 = 0 ∨ (SP X).2.2 = 4) ∧ 0 < (SP X).1.length then (match fE zV (SP X).1 with
  | none => none
  | some V => some (V, (SP X).2.1)) else none
theorem rpE_bad {X : List Int} {j : Nat} (h : fE zV ((SP X).1.take j) = none) : rpE X = none := by
  unfold rpE
  rw [fE_bad h]
  split <;> rfl
theorem rpE_err {X : List Int} (h0 : (SP X).2.2 ≠ 0) (h4 : (SP X).2.2 ≠ 4) : rpE X = none := by
  unfold rpE
  rw [if_neg]
  rintro ⟨h | h, _⟩
  · exact h0 h
  · exact h4 h
theorem rpE_zero {X : List Int} (h : (SP X).1.length = 0) : rpE X = none := by
  unfold rpE
  rw [if_neg]
  rintro ⟨_, h2⟩
  omega
theorem rpE_some {X : List Int} {V : Vw} (h : (SP X).2.2 = 0 ∨ (SP X).2.2 = 4) (h0 : 0 < (SP X).1.length) (hf : fE zV (SP X).1 = some V) : rpE X = some (V, (SP X).2.1) := by
  unfold rpE
  rw [if_pos ⟨h, h0⟩, hf]
theorem appl_ok {V U : Vw} {E : Ed} (h : appl V E = some U) : vok U = true := by
  unfold appl at h
  split at h
  · cases h
  · split at h
    · rename_i hv
      injection h with h
      rw [← h]
      exact hv
    · cases h
theorem cgd_ok {V U : Vw} {X : List Int} (h : cgd V X = some U) : vok U = true := by
  unfold cgd at h
  split at h
  · cases h
  · exact appl_ok h
theorem fE_ok : ∀ (F : List (Int × List Int)) (V U : Vw), fE V F = some U → (F = [] ∧ U = V) ∨ vok U = true
  | [], V, U, h => .inl ⟨rfl, (Option.some.inj h).symm⟩
  | x :: r, V, U, h => by
    right
    unfold fE at h
    split at h
    · split at h
      · cases h
      · split at h
        · cases h
        · rename_i W hW
          rcases fE_ok r W U h with ⟨_, rfl⟩ | h2
          · exact appl_ok hW
          · exact h2
    · cases h
/-- An Edit that may be. -/
def Eg (E : Ed) : Prop := emay E = 0 ∧ (0 ≤ E.fl ∧ 0 ≤ E.ct ∧ 0 ≤ E.at9 ∧ 0 ≤ E.ls)
/-- The log of Edits. -/
def el (l : List Ed) : List Int := l.flatMap (fun E => fr 6 (ebd E))
theorem el_cons (E : Ed) (l : List Ed) : el (E :: l) = fr 6 (ebd E) ++ el l := List.flatMap_cons
theorem el_app (a b : List Ed) : el (a ++ b) = el a ++ el b := List.flatMap_append
theorem el_one (E : Ed) : el [E] = fr 6 (ebd E) := by rw [el_cons]; simp [el]
theorem el_range : ∀ (l : List Ed), (∀ E ∈ l, Eg E) → ByteL (el l)
  | [], _ => fun z hz => by simp [el] at hz
  | E :: l, h => by
    have he := h E (by simp)
    rw [el_cons]
    exact ByteL.append (fr_range 6 (ebd E) (by omega) (by omega) (by have := ebd_len he.1; omega) (ebd_range he.1 he.2)) (el_range l (fun x hx => h x (by simp [hx])))
theorem el_len : ∀ (l : List Ed), (∀ E ∈ l, Eg E) → (el l).length ≤ 1312 * l.length
  | [], _ => by simp [el]
  | E :: l, h => by
    have h1 := el_len l (fun x hx => h x (by simp [hx]))
    have h2 := ebd_len (h E (by simp)).1
    rw [el_cons, List.length_append, fr_len, List.length_cons]
    omega
theorem SP_el : ∀ (l : List Ed), (∀ E ∈ l, Eg E) → ∀ r : List Int, SP (el l ++ r) = (l.map (fun E => ((6 : Int), ebd E)) ++ (SP r).1, (el l).length + (SP r).2.1, (SP r).2.2)
  | [], _, r => by simp [el]
  | E :: l, h, r => by
    have he := h E (by simp)
    rw [el_cons, List.append_assoc, SP_front 6 (ebd E) _ (by omega) (by omega) (by have := ebd_len he.1; omega) (ebd_range he.1 he.2), SP_el l (fun x hx => h x (by simp [hx])) r]
    simp only [List.map_cons, List.cons_append, List.length_append, fr_len]
    refine Prod.ext rfl (Prod.ext ?_ rfl)
    show _ + _ + (_ + _) = _ + _ + _
    omega
/-- Edits one behind the other. -/
def apE (V : Vw) : List Ed → Option Vw
  | [] => some V
  | E :: l => match appl V E with
    | none => none
    | some U => apE U l
theorem apE_cons (V : Vw) (E : Ed) (l : List Ed) : apE V (E :: l) = match appl V E with
    | none => none
    | some U => apE U l := rfl
theorem apE_app : ∀ (a b : List Ed) (V : Vw), apE V (a ++ b) = (apE V a).bind (fun U => apE U b)
  | [], b, V => rfl
  | E :: a, b, V => by
    rw [List.cons_append, apE_cons, apE_cons]
    cases appl V E with
    | none => rfl
    | some U => exact apE_app a b U
theorem apE_snoc {l : List Ed} {V U : Vw} {E : Ed} (h : apE zV l = some V) (h2 : appl V E = some U) : apE zV (l ++ [E]) = some U := by
  rw [apE_app, h]
  show apE V [E] = some U
  unfold apE
  rw [h2]
  rfl
theorem fE_el : ∀ (l : List Ed), (∀ E ∈ l, Eg E) → ∀ V, fE V (l.map (fun E => ((6 : Int), ebd E))) = apE V l
  | [], _, V => rfl
  | E :: l, h, V => by
    have he := h E (by simp)
    rw [List.map_cons]
    unfold fE apE
    rw [if_pos rfl]
    simp only [ebd_read he.1 he.2]
    cases appl V E with
    | none => rfl
    | some U => exact fE_el l (fun x hx => h x (by simp [hx])) U
/-- Where the first k Edits end. -/
def een (l : List Ed) (k : Nat) : Nat := (el (l.take k)).length
theorem een_zero (l : List Ed) : een l 0 = 0 := rfl
theorem een_succ (l : List Ed) (k : Nat) (E : Ed) (h : l[k]? = some E) : een l (k + 1) = een l k + (ebd E).length + 12 := by
  unfold een
  rw [List.take_add_one, h, el_app, List.length_append]
  show _ + (el [E]).length = _
  rw [el_one, fr_len]
  omega
theorem el_split (l : List Ed) (k : Nat) : el l = el (l.take k) ++ el (l.drop k) := by rw [← el_app, List.take_append_drop]
theorem een_all (l : List Ed) (k : Nat) (h : l.length ≤ k) : een l k = (el l).length := by unfold een; rw [List.take_of_length_le h]
theorem een_le (l : List Ed) (k : Nat) : een l k ≤ (el l).length := by rw [el_split l k, List.length_append]; unfold een; omega
theorem rpE_all {l : List Ed} (h : ∀ E ∈ l, Eg E) {V : Vw} (hV : apE zV l = some V) : rpE (el l) = if l.length = 0 then none else some (V, (el l).length) := by
  have hs := SP_el l h []
  rw [List.append_nil, SP_nil, List.append_nil, Nat.add_zero] at hs
  have hn : (SP (el l)).1.length = l.length := by rw [hs]; simp
  split
  · rename_i h0
    exact rpE_zero (by omega)
  · rename_i h0
    rw [rpE_some (V := V) (by rw [hs]; exact .inl rfl) (by omega) (by rw [hs]; show fE zV (l.map _) = _; rw [fE_el l h, hV])]
    rw [hs]
/-- A log of Edits that is cut at K, n of them whole. -/
theorem rpE_cut {l : List Ed} (h : ∀ E ∈ l, Eg E) (n K : Nat) {V : Vw} (hV : apE zV (l.take n) = some V) (hn : n ≤ l.length) (hK : K ≤ (el l).length) (h1 : een l n ≤ K) (h2 : n < l.length → K < een l (n + 1)) : rpE ((el l).take K) = if n = 0 then none else some (V, een l n) := by
  have hg : ∀ E ∈ l.take n, Eg E := fun E hE => h E (List.mem_of_mem_take hE)
  have e : (el l).take K = el (l.take n) ++ (el (l.drop n)).take (K - een l n) := by
    conv => lhs; rw [el_split l n]
    rw [List.take_append, List.take_of_length_le (by unfold een at h1; omega)]
    rfl
  have hs := SP_el (l.take n) hg ((el (l.drop n)).take (K - een l n))
  rw [← e] at hs
  have hr : (SP ((el (l.drop n)).take (K - een l n))).1 = [] ∧ (SP ((el (l.drop n)).take (K - een l n))).2.1 = 0 ∧ ((SP ((el (l.drop n)).take (K - een l n))).2.2 = 0 ∨ (SP ((el (l.drop n)).take (K - een l n))).2.2 = 4) := by
    rcases Nat.eq_zero_or_pos (K - een l n) with h0 | h0
    · rw [h0, List.take_zero, SP_nil]; exact ⟨rfl, rfl, .inl rfl⟩
    rcases Nat.lt_or_ge n l.length with hl | hl
    · have hx : l[n]? = some l[n] := List.getElem?_eq_getElem hl
      have hd : l.drop n = l[n] :: l.drop (n + 1) := List.drop_eq_getElem_cons hl
      have h3 := een_succ l n _ hx
      have h4 := h2 hl
      have hg := h _ (List.getElem_mem hl)
      rw [hd, el_cons, List.take_append_of_le_length (by rw [fr_len]; omega)]
      have hc : ce ((fr 6 (ebd l[n])).take (K - een l n)) = 4 := torn 6 (ebd l[n]) _ (by omega) (by omega) (by have := ebd_len hg.1; omega) (by omega)
      have hx2 : (fr 6 (ebd l[n])).take (K - een l n) ≠ [] := fun e => by
        have := congrArg List.length e
        rw [List.length_take, List.length_nil, fr_len] at this
        omega
      rw [SP_bad _ hx2 (by rw [hc]; decide), hc]
      exact ⟨rfl, rfl, .inr rfl⟩
    · rw [List.drop_eq_nil_of_le hl]
      simp [el, SP_nil]
  rw [hr.1, hr.2.1, List.append_nil, Nat.add_zero] at hs
  have hm : (SP ((el l).take K)).1.length = n := by rw [hs]; simp; omega
  split
  · rename_i h0
    exact rpE_zero (by omega)
  · rename_i h0
    rw [rpE_some (V := V) (by rw [hs]; exact hr.2.2) (by omega) (by rw [hs]; show fE zV ((l.take n).map _) = _; rw [fE_el _ hg, hV])]
    rw [hs]
    rfl
/-- What Replay returns. -/
def RpA (r : Option (Vw × Nat)) (w : World) (e : Ending) (w' : World) : Prop := (match r with
  | none => e = .returned (.tuple #[vwV none 0 0 zV, .int .i64 0, .int .i64 9])
  | some x => ∃ a c, e = .returned (.tuple #[vwV a x.1.f.length c x.1, .int .i64 (x.2 : Nat), .int .i64 0]) ∧ Fs w' a x.1.f.length c x.1.f ∧ c ≤ 9223372036854775807) ∧ Below w.heap.size w w'
theorem rpa_form {r : Option (Vw × Nat)} {w : World} {e : Ending} {w' : World} (h : RpA r w e w') : ∃ a c V n k, r.getD (zV, 0) = (V, n) ∧ (k : Int) = (if r.isSome = true then 0 else 9) ∧ e = .returned (.tuple #[vwV a V.f.length c V, .int .i64 (n : Nat), .int .i64 k]) ∧ Fs w' a V.f.length c V.f ∧ c ≤ 9223372036854775807 ∧ Below w.heap.size w w' := by
  cases r with
  | none => exact ⟨none, 0, zV, 0, 9, rfl, rfl, h.1, fs_nil _, by omega, h.2⟩
  | some x =>
    obtain ⟨⟨a, c, h1, h2, h3⟩, h4⟩ := h
    exact ⟨a, c, x.1, x.2, 0, rfl, rfl, h1, h2, h3, h4⟩

end Go.Proofs.Ytgopcaemgcnapaa.Clep

/- The Edits of the statement EditCuts, made of numbers: each is applied; what the View is like then. No conditions. -/
namespace Go.Proofs.Ytgopcaemgcnapaa.Clep
open Go.RowKit
set_option linter.unusedVariables false
set_option maxRecDepth 10000

theorem zs_row {w : World} {a : Option Addr} {len cap : Nat} {zs : List Int}
    (h : (a = none ∧ len = 0 ∧ cap = 0 ∧ zs = []) ∨ ∃ x, a = some x ∧ len ≤ cap ∧ cap ≤ maxLen ∧ zs.length = cap ∧ (∀ i, i < zs.length → w.cell? (x.add i) = some (.int .i64 (zs.getD i 0))) ∧ ∀ n ∈ zs, (Lit.int .i64 n).wf = true) :
    Zs w a len cap (zs.take len) ∧ len ≤ 9223372036854775807 := by
  rcases h with ⟨rfl, rfl, rfl, rfl⟩ | ⟨x, rfl, hl, hm, hz, hcell, hwz⟩
  · exact ⟨zs_nil w, by omega⟩
  · refine ⟨⟨by rw [List.length_take]; omega, ⟨hl, fun h => by cases h⟩, fun z hz' => i64_bounds (hwz z (List.mem_of_mem_take hz')), fun h0 => ?_⟩, by unfold maxLen at hm; omega⟩
    obtain ⟨b, off, spot⟩ := x
    have hc := hcell 0 (by omega)
    have hspot : spot = none := by simpa [Addr.add] using World.cell?_spot hc
    subst hspot
    refine ⟨b, off, rfl, fun i z hi => ?_⟩
    have hil : i < len := by have := (List.getElem?_eq_some_iff.1 hi).1; rw [List.length_take] at this; omega
    have := hcell i (by omega)
    rw [add_plain] at this
    rw [this]
    rw [List.getElem?_take_of_lt hil] at hi
    simp [List.getD, hi]
/-- The View behind i of the statement's Edits. -/
structure GI (V : Vw) (i : Nat) : Prop where
  on : once V.f = true
  mem : ∀ x ∈ V.f, (0 ≤ x.L ∧ x.L ≤ 3) ∧ 10 ≤ x.N ∧ x.N < (i : Int) + 10
  len : V.f.length ≤ i
  low : i ≤ 3 → V.f.length = i
  more : 3 ≤ i → 3 ≤ V.f.length
  lg : V.lg = (i : Int)
  fl : 0 ≤ V.fl ∧ V.fl ≤ 255
  z1 : V.ct = 0
  z2 : V.at9 = 0
  z3 : V.ls = 0
theorem gi_zero : GI zV 0 := ⟨rfl, fun x hx => (by cases hx), Nat.le_refl _, fun _ => rfl, fun h => by omega, rfl, by decide, rfl, rfl, rfl⟩
theorem atN_first (x : Fi) (r : List Fi) : atN (x :: r) x.N = 0 := by unfold atN; rw [List.findIdx_cons]; simp
theorem dropN_first (x : Fi) (r : List Fi) : dropN (x :: r) [x.N] = some r := by
  show (if atN (x :: r) x.N = (x :: r).length then none else dropN (wo (x :: r) (atN (x :: r) x.N)) []) = _
  rw [atN_first, if_neg (by simp)]
  simp [wo, dropN]
/-- The statement's Edit of the round i. -/
def cE (d : List Int) (L f : Int) (i : Nat) : Ed := ⟨d, [⟨L, (i : Int) + 10⟩], (i : Int) + 1, f, 0, 0, 0⟩
theorem cE_good (d : List Int) (L f : Int) (i : Nat) (hL : 0 ≤ L ∧ L ≤ 3) (hf : 0 ≤ f ∧ f ≤ 255) (hi : i < 12) (hd : d.length ≤ 1 ∧ ∀ z ∈ d, 1 ≤ z ∧ z ≤ 1000) : Eg (cE d L f i) := by
  refine ⟨?_, hf.1, by simp [cE], by simp [cE], by simp [cE]⟩
  unfold emay
  rw [if_pos]
  have h1 : edH (cE d L f i) = true := by
    unfold edH cE
    simp only [decide_eq_true_eq, List.length_cons, List.length_nil]
    have := hd.1
    omega
  have h2 : (cE d L f i).d.all okN = true := by
    rw [List.all_eq_true]
    intro z hz
    have := hd.2 z hz
    unfold okN
    rw [decide_eq_true_eq]
    omega
  have h3 : (cE d L f i).a.all Fi.ok = true := by
    unfold cE
    simp only [List.all_cons, List.all_nil, Bool.and_true]
    unfold Fi.ok
    simp
    omega
  rw [h1, h2, h3]
  rfl
theorem gi_step {V : Vw} {i : Nat} (h : GI V i) (d : List Int) (L f : Int) (m : List Fi) (hL : 0 ≤ L ∧ L ≤ 3) (hf : 0 ≤ f ∧ f ≤ 255) (hi : i < 12) (hdr : dropN V.f d = some m) (hsub : (d = [] ∧ m = V.f) ∨ (3 ≤ i ∧ ∃ x, V.f = x :: m ∧ d = [x.N])) :
    ∃ U, appl V (cE d L f i) = some U ∧ GI U (i + 1) := by
  have hm : (∀ x ∈ m, x ∈ V.f) ∧ once m = true ∧ m.length ≤ V.f.length ∧ (i < 3 → m.length = V.f.length) ∧ V.f.length ≤ m.length + 1 := by
    rcases hsub with ⟨rfl, rfl⟩ | ⟨h3, x, hx, rfl⟩
    · exact ⟨fun x hx => hx, h.on, Nat.le_refl _, fun _ => rfl, by omega⟩
    · have ho := h.on
      rw [hx] at ho ⊢
      unfold once at ho
      rw [Bool.and_eq_true] at ho
      exact ⟨fun y hy => List.mem_cons_of_mem _ hy, ho.2, by simp, fun h => by omega, by simp⟩
  have hlen := h.len
  have hon : once (m ++ [⟨L, (i : Int) + 10⟩]) = true := by
    rw [once_end, hm.2.1, Bool.true_and, List.all_eq_true]
    intro g hg
    have := (h.mem g (hm.1 g hg)).2.2
    have hne : g.N ≠ (i : Int) + 10 := by omega
    simpa using hne
  have hmem : ∀ x ∈ m ++ [(⟨L, (i : Int) + 10⟩ : Fi)], (0 ≤ x.L ∧ x.L ≤ 3) ∧ 10 ≤ x.N ∧ x.N < ((i + 1 : Nat) : Int) + 10 := by
    intro x hx
    rcases List.mem_append.1 hx with e | e
    · have := h.mem x (hm.1 x e); omega
    · rw [List.mem_singleton.1 e]; exact ⟨hL, by simp only; omega, by simp only; omega⟩
  have hp1 : put0 V.lg ((i : Int) + 1) = ((i + 1 : Nat) : Int) := by unfold put0; rw [if_neg (by omega)]; omega
  have hp2 : 0 ≤ put0 V.fl f ∧ put0 V.fl f ≤ 255 := by
    have := h.fl
    unfold put0
    split <;> omega
  have hp3 : ∀ x : Int, put0 x 0 = x := fun x => by unfold put0; rw [if_pos rfl]
  refine ⟨after V (cE d L f i) m, ?_, ?_⟩
  · unfold appl
    rw [show (cE d L f i).d = d from rfl, hdr]
    simp only
    rw [if_pos]
    unfold vok
    rw [Bool.and_eq_true, Bool.and_eq_true]
    refine ⟨?_, ?_, hon⟩
    · unfold vwH after cE
      simp only [decide_eq_true_eq, hp1, hp3, h.z1, h.z2, h.z3, List.length_append, List.length_cons, List.length_nil]
      have := hm.2.2.1
      omega
    · rw [List.all_eq_true]
      intro x hx
      have := hmem x hx
      unfold Fi.ok
      simp
      omega
  · refine ⟨hon, hmem, ?_, ?_, ?_, hp1, hp2, by unfold after cE; simp only [hp3, h.z1], by unfold after cE; simp only [hp3, h.z2], by unfold after cE; simp only [hp3, h.z3]⟩
    · have := hm.2.2.1
      show (m ++ [_]).length ≤ _
      rw [List.length_append]
      simp only [List.length_cons, List.length_nil]
      omega
    · intro h3
      have h4 := hm.2.2.2.1 (by omega)
      have h5 := h.low (by omega)
      show (m ++ [_]).length = _
      rw [List.length_append]
      simp only [List.length_cons, List.length_nil]
      omega
    · intro h3
      show 3 ≤ (m ++ [_]).length
      rw [List.length_append]
      simp only [List.length_cons, List.length_nil]
      rcases Nat.lt_or_ge i 3 with h4 | h4
      · have h5 := h.low (by omega)
        have h6 := hm.2.2.2.1 h4
        omega
      · have h5 := h.more h4
        have h6 := hm.2.2.2.2
        omega
theorem gi_first {V : Vw} {i : Nat} (h : GI V i) (h3 : 3 ≤ i) (hi : i < 12) : ∃ x m, V.f = x :: m ∧ dropN V.f [x.N] = some m ∧ 1 ≤ x.N ∧ x.N ≤ 1000 ∧ x.wf := by
  cases hf : V.f with
  | nil => have := h.more h3; rw [hf] at this; simp at this
  | cons x m =>
    have := h.mem x (by rw [hf]; simp)
    have hl := h.len
    refine ⟨x, m, rfl, dropN_first x m, by omega, by omega, ?_⟩
    unfold Fi.wf
    omega
/-- Where the Edits end, as the statement's row tells. -/
def ends (l : List Ed) : List Int := (List.range (l.length + 1)).map (fun k => (een l k : Int))
theorem een_app (l : List Ed) (E : Ed) (k : Nat) (hk : k ≤ l.length) : een (l ++ [E]) k = een l k := by unfold een; rw [List.take_append_of_le_length hk]
theorem ends_snoc (l : List Ed) (E : Ed) : ends (l ++ [E]) = ends l ++ [((el (l ++ [E])).length : Int)] := by
  unfold ends
  rw [List.length_append, List.length_singleton, List.range_succ, List.map_append]
  congr 1
  · refine List.map_congr_left fun k hk => ?_
    rw [een_app l E k (by have := List.mem_range.1 hk; omega)]
  · rw [List.map_singleton, een_all _ _ (by simp)]
theorem ends_len (l : List Ed) : (ends l).length = l.length + 1 := by unfold ends; simp
theorem ends_at (l : List Ed) (k : Nat) (hk : k ≤ l.length) : (ends l)[k]? = some (een l k : Int) := by
  unfold ends
  rw [List.getElem?_map, List.getElem?_range (by omega)]
  rfl
theorem el_snoc (l : List Ed) (E : Ed) : el (l ++ [E]) = el l ++ fr 6 (ebd E) := by rw [el_app, el_one]

end Go.Proofs.Ytgopcaemgcnapaa.Clep

/- What edit.changed does when called (a walk over the translated program): for any View that has no number twice, any bytes. Written by wip/tools/gen15replay.py. -/
namespace Go.Proofs.Ytgopcaemgcnapaa.Clep
open Go.RowKit
set_option linter.unusedVariables false
set_option maxRecDepth 10000

theorem changed_results {w : World} {R : Nat} {A B C D E : Int} {v : Value} {b : Bool} (h : Ek w R #[.int .i64 A, v, .int .u64 B, .int .u64 C, .int .u64 D, .int .u64 E] 26) (ts : Array Value) (h2 : ts.getD 4 undef = .pointer (some ⟨R, 0, none⟩)) (h3 : ts.getD 5 undef = .bool b) :
    (results Try.f33 ts).run Try.prog w = .ok (.tuple #[.agg #[.int .i64 A, v, .int .u64 B, .int .u64 C, .int .u64 D, .int .u64 E], .bool b]) w := by
  have c0 := h.cell (o := 0) rfl
  have c1 := h.cell (o := 1) rfl
  have c2 := h.cell (o := 2) rfl
  have c3 := h.cell (o := 3) rfl
  have c4 := h.cell (o := 4) rfl
  have c5 := h.cell (o := 5) rfl
  rw [Array.getD_eq_getD_getElem?] at h2 h3
  simp [results, Try.results33, go_sem, c0, c1, c2, c3, c4, c5, h2, h3]
/-- A store of six cells. -/
def set6 (W : World) (R : Nat) (u0 u1 u2 u3 u4 u5 : Value) : World := (((((W.setCell ⟨R, 0, none⟩ u0).setCell ⟨R, 1, none⟩ u1).setCell ⟨R, 2, none⟩ u2).setCell ⟨R, 3, none⟩ u3).setCell ⟨R, 4, none⟩ u4).setCell ⟨R, 5, none⟩ u5
theorem gset6 (W : World) (R : Nat) (u0 u1 u2 u3 u4 u5 : Value) : W.grownBy (set6 W R u0 u1 u2 u3 u4 u5) (some R) :=
  egrow (k := 5) (u := u5) (egrow (k := 4) (u := u4) (egrow (k := 3) (u := u3) (egrow (k := 2) (u := u2) (egrow (k := 1) (u := u1) (fgb_set W ⟨R, 0, none⟩ u0)))))
theorem red_lens {X : List Int} {E : Ed} (h : red X = some E) : E.d.length ≤ 40 ∧ E.a.length ≤ 40 := (emay_parts (red_may h)).1

set_option maxHeartbeats 1000000 in
theorem changed_any (fa : Option Addr) (fn fc : Nat) (V : Vw) (ao : Option Addr) (len cap : Nat) (X : List Int) (w : World) (hv : Fs w fa fn fc V.f) (hfn : fn ≤ 1000) (hon : once V.f = true) (hb : Bs w ao len cap X) (hl : len ≤ 1000000) (hc : cap ≤ 9223372036854775807) :
    Calls Try.prog 33 #[vwV fa fn fc V, .slice ao len cap] w fun e w' => ApR (cgd V X) w e w' := by
  have HV := hide (fun W (hW : Below w.heap.size w W) => hv.below hW (Nat.le_refl _))
  have CR := hide (fun W (hW : Below w.heap.size w W) => read_any ao len cap X W hl hc (hb.below hW (Nat.le_refl _)))
  have CA := hide (fun E (he : red X = some E) W (hW : Below w.heap.size w W) da dc aa ac (h1 : Zs W da E.d.length dc E.d) (h2 : Fs W aa E.a.length ac E.a) => apply_any fa da aa fn fc E.d.length dc E.a.length ac V E W (HV.out W hW) h1 h2 hfn (by have := red_lens he; omega) (by have := red_lens he; omega) hon)
  have HCG := hide (show ∀ E, red X = some E → cgd V X = appl V E from fun E he => by unfold cgd; rw [he])
  have HCN := hide (show red X = none → cgd V X = none from fun he => by unfold cgd; rw [he])
  generalize cgd V X = r at *
  have A0 := (Below.refl w.heap.size w).alloc (Nat.le_refl _) (Obj.cells #[.int .i64 V.lg, .slice fa fn fc, .int .u64 V.fl, .int .u64 V.ct, .int .u64 V.at9, .int .u64 V.ls] 26)
  have A1 := (Below.refl _ (w.alloc (Obj.cells #[.int .i64 V.lg, .slice fa fn fc, .int .u64 V.fl, .int .u64 V.ct, .int .u64 V.at9, .int .u64 V.ls] 26))).alloc (Nat.le_refl _) (Obj.cells #[.int .i64 0, .slice none 0 0, .int .u64 0, .int .u64 0, .int .u64 0, .int .u64 0] 26)
  have k0 := (ek_new w #[.int .i64 V.lg, .slice fa fn fc, .int .u64 V.fl, .int .u64 V.ct, .int .u64 V.at9, .int .u64 V.ls] 26).below A1 (ek_new w _ _).lt
  have k1 := ek_new (w.alloc (Obj.cells #[.int .i64 V.lg, .slice fa fn fc, .int .u64 V.fl, .int .u64 V.ct, .int .u64 V.at9, .int .u64 V.ls] 26)) #[.int .i64 0, .slice none 0 0, .int .u64 0, .int .u64 0, .int .u64 0, .int .u64 0] 26
  have hsz : (w.alloc (Obj.cells #[.int .i64 V.lg, .slice fa fn fc, .int .u64 V.fl, .int .u64 V.ct, .int .u64 V.at9, .int .u64 V.ls] 26)).heap.size = w.heap.size + 1 := by simp
  rw [hsz] at k1
  have HB0 := hide (A0.trans (A1.mono (by simp)))
  have HSA := hide (show ((w.alloc (Obj.cells #[.int .i64 V.lg, .slice fa fn fc, .int .u64 V.fl, .int .u64 V.ct, .int .u64 V.at9, .int .u64 V.ls] 26)).alloc (Obj.cells #[.int .i64 0, .slice none 0 0, .int .u64 0, .int .u64 0, .int .u64 0, .int .u64 0] 26)).heap.size = w.heap.size + 2 by simp)
  have HK := hide (show ∀ W, Below (w.heap.size + 2) ((w.alloc (Obj.cells #[.int .i64 V.lg, .slice fa fn fc, .int .u64 V.fl, .int .u64 V.ct, .int .u64 V.at9, .int .u64 V.ls] 26)).alloc (Obj.cells #[.int .i64 0, .slice none 0 0, .int .u64 0, .int .u64 0, .int .u64 0, .int .u64 0] 26)) W → Ek W w.heap.size #[.int .i64 V.lg, .slice fa fn fc, .int .u64 V.fl, .int .u64 V.ct, .int .u64 V.at9, .int .u64 V.ls] 26 ∧ Ek W (w.heap.size + 1) #[.int .i64 0, .slice none 0 0, .int .u64 0, .int .u64 0, .int .u64 0, .int .u64 0] 26 from fun W hW => ⟨k0.below hW (by omega), k1.below hW (by omega)⟩)
  clear hv hb A0 A1 k0 k1 hsz hl hc hon
  unfold vwV
  unfold vwV at CA
  go_enter Try.func33, Try.ntmps33
  go_wp2_with fail
  generalize (w.alloc (Obj.cells #[.int .i64 V.lg, .slice fa fn fc, .int .u64 V.fl, .int .u64 V.ct, .int .u64 V.at9, .int .u64 V.ls] 26)).alloc (Obj.cells #[.int .i64 0, .slice none 0 0, .int .u64 0, .int .u64 0, .int .u64 0, .int .u64 0] 26) = wa at *
  refine (CR.out _ HB0.out).mono ?_
  rintro e w1 hr1
  obtain ⟨R, hR⟩ : ∃ R, red X = R := ⟨_, rfl⟩
  have hr2 := hr1
  rw [hR] at hr2
  clear hr1
  cases R with
  | none =>
    obtain ⟨rfl, hb1⟩ := hr2
    obtain rfl := HCN.out hR
    have A2 := (Below.refl _ w1).alloc (Nat.le_refl _) (Obj.cells #[.slice none 0 0, .slice none 0 0, .int .i64 0, .int .u64 0, .int .u64 0, .int .u64 0, .int .u64 0] 31)
    have hB2 := hb1.trans (A2.mono hb1.size)
    obtain ⟨k0, k1⟩ := HK.out _ (hB2.mono (by rw [HSA.out]; exact Nat.le_refl _))
    have HB2 := hide (HB0.out.trans (hB2.mono HB0.out.size))
    have HK1 := hide k1
    have c0 : (w1.alloc (Obj.cells #[.slice none 0 0, .slice none 0 0, .int .i64 0, .int .u64 0, .int .u64 0, .int .u64 0, .int .u64 0] 31)).cell? ⟨w.heap.size + 1, 0, none⟩ = some (.int .i64 0) := (k1).cell rfl
    have c1 : (w1.alloc (Obj.cells #[.slice none 0 0, .slice none 0 0, .int .i64 0, .int .u64 0, .int .u64 0, .int .u64 0, .int .u64 0] 31)).cell? ⟨w.heap.size + 1, 1, none⟩ = some (.slice none 0 0) := (k1).cell rfl
    have c2 : (w1.alloc (Obj.cells #[.slice none 0 0, .slice none 0 0, .int .i64 0, .int .u64 0, .int .u64 0, .int .u64 0, .int .u64 0] 31)).cell? ⟨w.heap.size + 1, 2, none⟩ = some (.int .u64 0) := (k1).cell rfl
    have c3 : (w1.alloc (Obj.cells #[.slice none 0 0, .slice none 0 0, .int .i64 0, .int .u64 0, .int .u64 0, .int .u64 0, .int .u64 0] 31)).cell? ⟨w.heap.size + 1, 3, none⟩ = some (.int .u64 0) := (k1).cell rfl
    have c4 : (w1.alloc (Obj.cells #[.slice none 0 0, .slice none 0 0, .int .i64 0, .int .u64 0, .int .u64 0, .int .u64 0, .int .u64 0] 31)).cell? ⟨w.heap.size + 1, 4, none⟩ = some (.int .u64 0) := (k1).cell rfl
    have c5 : (w1.alloc (Obj.cells #[.slice none 0 0, .slice none 0 0, .int .i64 0, .int .u64 0, .int .u64 0, .int .u64 0, .int .u64 0] 31)).cell? ⟨w.heap.size + 1, 5, none⟩ = some (.int .u64 0) := (k1).cell rfl
    have f0 : (w1.alloc (Obj.cells #[.slice none 0 0, .slice none 0 0, .int .i64 0, .int .u64 0, .int .u64 0, .int .u64 0, .int .u64 0] 31)).frozen? ⟨w.heap.size + 1, 0, none⟩ = false := (k1).free 0
    have f1 : (w1.alloc (Obj.cells #[.slice none 0 0, .slice none 0 0, .int .i64 0, .int .u64 0, .int .u64 0, .int .u64 0, .int .u64 0] 31)).frozen? ⟨w.heap.size + 1, 1, none⟩ = false := (k1).free 1
    have f2 : (w1.alloc (Obj.cells #[.slice none 0 0, .slice none 0 0, .int .i64 0, .int .u64 0, .int .u64 0, .int .u64 0, .int .u64 0] 31)).frozen? ⟨w.heap.size + 1, 2, none⟩ = false := (k1).free 2
    have f3 : (w1.alloc (Obj.cells #[.slice none 0 0, .slice none 0 0, .int .i64 0, .int .u64 0, .int .u64 0, .int .u64 0, .int .u64 0] 31)).frozen? ⟨w.heap.size + 1, 3, none⟩ = false := (k1).free 3
    have f4 : (w1.alloc (Obj.cells #[.slice none 0 0, .slice none 0 0, .int .i64 0, .int .u64 0, .int .u64 0, .int .u64 0, .int .u64 0] 31)).frozen? ⟨w.heap.size + 1, 4, none⟩ = false := (k1).free 4
    have f5 : (w1.alloc (Obj.cells #[.slice none 0 0, .slice none 0 0, .int .i64 0, .int .u64 0, .int .u64 0, .int .u64 0, .int .u64 0] 31)).frozen? ⟨w.heap.size + 1, 5, none⟩ = false := (k1).free 5
    have hl1 : w.heap.size + 1 < (w1.alloc (Obj.cells #[.slice none 0 0, .slice none 0 0, .int .i64 0, .int .u64 0, .int .u64 0, .int .u64 0, .int .u64 0] 31)).heap.size := k1.lt
    unfold edV zE
    simp only
    clear k0 k1 hb1 A2 hB2 CR CA HCG HCN hR
    go_wp2
    have HZS := zset HK1.out HB2.out (by omega) (.int .i64 0) (.slice none 0 0) (.int .u64 0) (.int .u64 0) (.int .u64 0) (.int .u64 0)
    refine bodyPost_ret (changed_results (b := false) HZS.1 _ rfl rfl) rfl ?_
    exact ⟨rfl, HZS.2⟩
  | some E =>
    obtain ⟨⟨da, dc, aa, ac, rfl, hz1, hf1⟩, hb1⟩ := hr2
    obtain rfl := (HCG.out E hR).symm
    have A2 := (Below.refl _ w1).alloc (Nat.le_refl _) (Obj.cells #[.slice da E.d.length dc, .slice aa E.a.length ac, .int .i64 E.lg, .int .u64 E.fl, .int .u64 E.ct, .int .u64 E.at9, .int .u64 E.ls] 31)
    have hB2 := hb1.trans (A2.mono hb1.size)
    obtain ⟨k0, k1⟩ := HK.out _ (hB2.mono (by rw [HSA.out]; exact Nat.le_refl _))
    have ke := ek_new w1 #[.slice da E.d.length dc, .slice aa E.a.length ac, .int .i64 E.lg, .int .u64 E.fl, .int .u64 E.ct, .int .u64 E.at9, .int .u64 E.ls] 31
    have HB2 := hide (HB0.out.trans (hB2.mono HB0.out.size))
    have HK1 := hide k1
    have c0 : (w1.alloc (Obj.cells #[.slice da E.d.length dc, .slice aa E.a.length ac, .int .i64 E.lg, .int .u64 E.fl, .int .u64 E.ct, .int .u64 E.at9, .int .u64 E.ls] 31)).cell? ⟨w.heap.size, 0, none⟩ = some (.int .i64 V.lg) := (k0).cell rfl
    have c1 : (w1.alloc (Obj.cells #[.slice da E.d.length dc, .slice aa E.a.length ac, .int .i64 E.lg, .int .u64 E.fl, .int .u64 E.ct, .int .u64 E.at9, .int .u64 E.ls] 31)).cell? ⟨w.heap.size, 1, none⟩ = some (.slice fa fn fc) := (k0).cell rfl
    have c2 : (w1.alloc (Obj.cells #[.slice da E.d.length dc, .slice aa E.a.length ac, .int .i64 E.lg, .int .u64 E.fl, .int .u64 E.ct, .int .u64 E.at9, .int .u64 E.ls] 31)).cell? ⟨w.heap.size, 2, none⟩ = some (.int .u64 V.fl) := (k0).cell rfl
    have c3 : (w1.alloc (Obj.cells #[.slice da E.d.length dc, .slice aa E.a.length ac, .int .i64 E.lg, .int .u64 E.fl, .int .u64 E.ct, .int .u64 E.at9, .int .u64 E.ls] 31)).cell? ⟨w.heap.size, 3, none⟩ = some (.int .u64 V.ct) := (k0).cell rfl
    have c4 : (w1.alloc (Obj.cells #[.slice da E.d.length dc, .slice aa E.a.length ac, .int .i64 E.lg, .int .u64 E.fl, .int .u64 E.ct, .int .u64 E.at9, .int .u64 E.ls] 31)).cell? ⟨w.heap.size, 4, none⟩ = some (.int .u64 V.at9) := (k0).cell rfl
    have c5 : (w1.alloc (Obj.cells #[.slice da E.d.length dc, .slice aa E.a.length ac, .int .i64 E.lg, .int .u64 E.fl, .int .u64 E.ct, .int .u64 E.at9, .int .u64 E.ls] 31)).cell? ⟨w.heap.size, 5, none⟩ = some (.int .u64 V.ls) := (k0).cell rfl
    have e0 : (w1.alloc (Obj.cells #[.slice da E.d.length dc, .slice aa E.a.length ac, .int .i64 E.lg, .int .u64 E.fl, .int .u64 E.ct, .int .u64 E.at9, .int .u64 E.ls] 31)).cell? ⟨w1.heap.size, 0, none⟩ = some (.slice da E.d.length dc) := (ke).cell rfl
    have e1 : (w1.alloc (Obj.cells #[.slice da E.d.length dc, .slice aa E.a.length ac, .int .i64 E.lg, .int .u64 E.fl, .int .u64 E.ct, .int .u64 E.at9, .int .u64 E.ls] 31)).cell? ⟨w1.heap.size, 1, none⟩ = some (.slice aa E.a.length ac) := (ke).cell rfl
    have e2 : (w1.alloc (Obj.cells #[.slice da E.d.length dc, .slice aa E.a.length ac, .int .i64 E.lg, .int .u64 E.fl, .int .u64 E.ct, .int .u64 E.at9, .int .u64 E.ls] 31)).cell? ⟨w1.heap.size, 2, none⟩ = some (.int .i64 E.lg) := (ke).cell rfl
    have e3 : (w1.alloc (Obj.cells #[.slice da E.d.length dc, .slice aa E.a.length ac, .int .i64 E.lg, .int .u64 E.fl, .int .u64 E.ct, .int .u64 E.at9, .int .u64 E.ls] 31)).cell? ⟨w1.heap.size, 3, none⟩ = some (.int .u64 E.fl) := (ke).cell rfl
    have e4 : (w1.alloc (Obj.cells #[.slice da E.d.length dc, .slice aa E.a.length ac, .int .i64 E.lg, .int .u64 E.fl, .int .u64 E.ct, .int .u64 E.at9, .int .u64 E.ls] 31)).cell? ⟨w1.heap.size, 4, none⟩ = some (.int .u64 E.ct) := (ke).cell rfl
    have e5 : (w1.alloc (Obj.cells #[.slice da E.d.length dc, .slice aa E.a.length ac, .int .i64 E.lg, .int .u64 E.fl, .int .u64 E.ct, .int .u64 E.at9, .int .u64 E.ls] 31)).cell? ⟨w1.heap.size, 5, none⟩ = some (.int .u64 E.at9) := (ke).cell rfl
    have e6 : (w1.alloc (Obj.cells #[.slice da E.d.length dc, .slice aa E.a.length ac, .int .i64 E.lg, .int .u64 E.fl, .int .u64 E.ct, .int .u64 E.at9, .int .u64 E.ls] 31)).cell? ⟨w1.heap.size, 6, none⟩ = some (.int .u64 E.ls) := (ke).cell rfl
    have CA2 := hide (CA.out E hR _ HB2.out da dc aa ac (hz1.below A2 (Nat.le_refl _)) (hf1.below A2 (Nat.le_refl _)))
    have hl1 : w.heap.size + 1 < (w1.alloc (Obj.cells #[.slice da E.d.length dc, .slice aa E.a.length ac, .int .i64 E.lg, .int .u64 E.fl, .int .u64 E.ct, .int .u64 E.at9, .int .u64 E.ls] 31)).heap.size := k1.lt
    have hl2 : w.heap.size < (w1.alloc (Obj.cells #[.slice da E.d.length dc, .slice aa E.a.length ac, .int .i64 E.lg, .int .u64 E.fl, .int .u64 E.ct, .int .u64 E.at9, .int .u64 E.ls] 31)).heap.size := k0.lt
    have hl3 : w1.heap.size < (w1.alloc (Obj.cells #[.slice da E.d.length dc, .slice aa E.a.length ac, .int .i64 E.lg, .int .u64 E.fl, .int .u64 E.ct, .int .u64 E.at9, .int .u64 E.ls] 31)).heap.size := ke.lt
    unfold edV
    unfold edV at CA2
    clear k0 k1 ke hb1 A2 hB2 CR CA HCG HCN hR hz1 hf1
    go_wp2_with fail
    refine CA2.out.mono ?_
    rintro e w3 hr3
    obtain ⟨a, c, rfl, hcm, ho3, hw3, hb3⟩ := apr_any hr3
    have hk := HK1.out.below hb3 HK1.out.lt
    have HK3 := hide hk
    have HB3 := hide (HB2.out.trans (hb3.mono HB2.out.size))
    have hgr := hr3
    clear hr3
    have z0 : w3.cell? ⟨w.heap.size + 1, 0, none⟩ = some (.int .i64 0) := (hk).cell rfl
    have z1 : w3.cell? ⟨w.heap.size + 1, 1, none⟩ = some (.slice none 0 0) := (hk).cell rfl
    have z2 : w3.cell? ⟨w.heap.size + 1, 2, none⟩ = some (.int .u64 0) := (hk).cell rfl
    have z3 : w3.cell? ⟨w.heap.size + 1, 3, none⟩ = some (.int .u64 0) := (hk).cell rfl
    have z4 : w3.cell? ⟨w.heap.size + 1, 4, none⟩ = some (.int .u64 0) := (hk).cell rfl
    have z5 : w3.cell? ⟨w.heap.size + 1, 5, none⟩ = some (.int .u64 0) := (hk).cell rfl
    have y0 : w3.frozen? ⟨w.heap.size + 1, 0, none⟩ = false := (hk).free 0
    have y1 : w3.frozen? ⟨w.heap.size + 1, 1, none⟩ = false := (hk).free 1
    have y2 : w3.frozen? ⟨w.heap.size + 1, 2, none⟩ = false := (hk).free 2
    have y3 : w3.frozen? ⟨w.heap.size + 1, 3, none⟩ = false := (hk).free 3
    have y4 : w3.frozen? ⟨w.heap.size + 1, 4, none⟩ = false := (hk).free 4
    have y5 : w3.frozen? ⟨w.heap.size + 1, 5, none⟩ = false := (hk).free 5
    have hl4 : w.heap.size + 1 < w3.heap.size := hk.lt
    have HO3 := hide ho3
    have HSZ := hide HB2.out.size
    unfold vwV
    obtain ⟨ok, hok⟩ : ∃ ok, (appl V E).isSome = ok := ⟨_, rfl⟩
    have HOK := hide hok
    rw [hok]
    obtain ⟨U, hU⟩ : ∃ U, apv (appl V E) = U := ⟨_, rfl⟩
    have HU := hide hU
    rw [hU] at hw3 ⊢
    rw [hok, hU] at hgr
    have HGR := hide hgr
    clear CA2 hb3 hgr ho3 hk HK1 hok hU c0 c1 c2 c3 c4 c5 e0 e1 e2 e3 e4 e5 e6
    go_wp2
    have HZS := zset HK3.out HB3.out (by omega) (.int .i64 U.lg) (.slice a U.f.length c) (.int .u64 U.fl) (.int .u64 U.ct) (.int .u64 U.at9) (.int .u64 U.ls)
    refine bodyPost_ret (changed_results (b := ok) HZS.1 _ rfl rfl) rfl ?_
    have hg := gset6 w3 (w.heap.size + 1) (.int .i64 U.lg) (.slice a U.f.length c) (.int .u64 U.fl) (.int .u64 U.ct) (.int .u64 U.at9) (.int .u64 U.ls)
    have hgr := HGR.out
    cases hr : appl V E with
    | none =>
      rw [hr] at hgr
      exact ⟨hgr.1, HZS.2⟩
    | some T =>
      rw [hr] at hgr
      have hok := HOK.out
      rw [hr] at hok
      have hU := HU.out
      rw [hr] at hU
      have hU' : T = U := hU
      subst hU'
      obtain ⟨⟨a', c', h1, h2, h3⟩, h4⟩ := hgr
      have hok' : true = ok := hok
      subst hok'
      have h5 := Ending.returned.inj h1
      unfold vwV at h5
      simp only [Value.tuple.injEq, Value.agg.injEq, Array.mk.injEq, List.cons.injEq, Value.slice.injEq, and_true, true_and] at h5
      obtain ⟨rfl, rfl⟩ := h5
      have hn : ∀ k, (some (w.heap.size + 1) : Option Nat) = some k → k < (w1.alloc (Obj.cells #[.slice da E.d.length dc, .slice aa E.a.length ac, .int .i64 E.lg, .int .u64 E.fl, .int .u64 E.ct, .int .u64 E.at9, .int .u64 E.ls] 31)).heap.size := fun k hk => by have := Option.some.inj hk; omega
      have h6 := ownF_base (ownF_grown h2 hg hn) HSZ.out
      obtain ⟨a8, c8, e8, _, hf8, _⟩ := ownF_fs h6 hw3
      injection e8 with e8 _ e9
      subst e8 e9
      exact ⟨⟨_, _, rfl, h6, hf8⟩, HZS.2⟩

end Go.Proofs.Ytgopcaemgcnapaa.Clep

/- The rows that the statement EditCuts makes: Views, and where Edits end. No conditions. -/
namespace Go.Proofs.Ytgopcaemgcnapaa.Clep
open Go.RowKit
set_option linter.unusedVariables false
set_option maxRecDepth 10000

/-- A View by value: which, and where its files are. -/
structure Vr where
  V : Vw
  a : Option Addr
  c : Nat
def Vr.cs (x : Vr) : List Value := [.int .i64 x.V.lg, .slice x.a x.V.f.length x.c, .int .u64 x.V.fl, .int .u64 x.V.ct, .int .u64 x.V.at9, .int .u64 x.V.ls]
def vcs (l : List Vr) : List Value := l.flatMap Vr.cs
theorem vcs_len (l : List Vr) : (vcs l).length = l.length * 6 := by
  induction l with
  | nil => rfl
  | cons x r ih => simp [vcs, Vr.cs] at ih ⊢; omega
theorem vcs_get (l : List Vr) : ∀ (i j : Nat) (x : Vr), l[i]? = some x → j < 6 → (vcs l)[i * 6 + j]? = x.cs[j]? := by
  induction l with
  | nil => intro i j x h; simp at h
  | cons y r ih =>
    intro i j x h hj
    have e : vcs (y :: r) = y.cs ++ vcs r := by simp [vcs]
    rw [e]
    cases i with
    | zero =>
      simp at h; subst h
      rw [Nat.zero_mul, Nat.zero_add, List.getElem?_append_left (by simp [Vr.cs]; omega)]
    | succ i =>
      simp at h
      rw [List.getElem?_append_right (by simp [Vr.cs]; omega), show (i + 1) * 6 + j - y.cs.length = i * 6 + j from by simp [Vr.cs]; omega]
      exact ih i j x h hj
/-- The slice value v owns the Views l. -/
def OwnV (w : World) (B : Nat) (v : Value) (l : List Vr) : Prop := w.ownsRow B 26 6 v l.length (vcs l)
theorem infoVw : (Try.prog.info? 26).map (fun i => (i.zero, i.size, i.bytes)) = some (some (.agg #[.int .i64 0, .slice none 0 0, .int .u64 0, .int .u64 0, .int .u64 0, .int .u64 0]), 6, 64) := by kernel_rfl
/-- One View more behind a row of Views; where the row then is. -/
theorem wpList_append_v {w : World} {ops : Array Oper} {rest : List Oper} {o : Oper} {a : Act} {Q : Exit → Act → World → Prop} (hgd : o.guard = none) (s x : Operand)
    (ho : o.op = .call { callee := .builtin .append, args := #[s, x], argTypes := #[27, 27] })
    (base : Nat) (v : Value) (l : List Vr) (hs : a.eval s = v) (hown : OwnV w base v l) (p : Nat) (z : Vr) (hx : a.eval x = .slice (some ⟨p, 0, none⟩) 1 1) (hp : Ek w p z.cs.toArray 26)
    (hlen : l.length ≤ 100000) (hbase : base ≤ w.heap.size)
    (h : ∀ v' w', OwnV w' base v' (l ++ [z]) → w.grownBy w' v.ownBlock → (∀ k, v.ownBlock = some k → base ≤ k) → (v'.ownBlock = v.ownBlock ∨ v'.ownBlock = some w.heap.size) → wpList Try.prog ops Q rest (a.put o.dst v') w') : wpList Try.prog ops Q (o :: rest) a w := by
  obtain ⟨i0, hi, hz0, hz1, hz2⟩ := info_parts infoVw
  refine wpList_append_own_at _ hgd s x 27 ho base 26 i0 _ 6 64 Try.underlying27 hi hz0 hz1 hz2 rfl (by decide) v l.length (vcs l) hs hown ⟨p, 0, none⟩ 1 1 z.cs hx rfl ?_ ?_ (by unfold maxLen; omega) (by omega) hbase ?_
  · intro j u hu
    rw [add_plain, Nat.zero_add]
    exact hp.cell (by simpa using hu)
  · intro u hu
    simp only [Vr.cs, List.mem_cons, List.not_mem_nil, or_false] at hu
    rcases hu with rfl | rfl | rfl | rfl | rfl | rfl <;> rfl
  · intro v' w' h1 h2 _ h3
    refine h v' w' ?_ h2 (fun k hk => (World.ownsRow.lt hown k hk).1) h3
    unfold OwnV
    rw [List.length_append, show vcs (l ++ [z]) = vcs l ++ z.cs from by simp [vcs]]
    exact h1
/-- One number more; where the row then is. -/
theorem wpList_append_zz {w : World} {ops : Array Oper} {rest : List Oper} {o : Oper} {a : Act} {Q : Exit → Act → World → Prop} (hgd : o.guard = none) (s x : Operand)
    (ho : o.op = .call { callee := .builtin .append, args := #[s, x], argTypes := #[22, 22] })
    (base : Nat) (v : Value) (ns : List Int) (hs : a.eval s = v) (hown : OwnZ w base v ns) (p : Nat) (z : Int) (hx : a.eval x = .slice (some ⟨p, 0, none⟩) 1 1) (hp : Ek w p #[.int .i64 z] 3)
    (hlen : ns.length ≤ 100000) (hbase : base ≤ w.heap.size)
    (h : ∀ v' w', OwnZ w' base v' (ns ++ [z]) → w.grownBy w' v.ownBlock → (∀ k, v.ownBlock = some k → base ≤ k) → (v'.ownBlock = v.ownBlock ∨ v'.ownBlock = some w.heap.size) → wpList Try.prog ops Q rest (a.put o.dst v') w') : wpList Try.prog ops Q (o :: rest) a w := by
  obtain ⟨i0, hi, hz0, hz1, hz2⟩ := info_parts info_int
  refine wpList_append_own_at _ hgd s x 22 ho base 3 i0 (.int .i64 0) 1 8 Try.underlying22 hi hz0 hz1 hz2 rfl (by decide) v ns.length (iv9 ns) hs hown ⟨p, 0, none⟩ 1 1 [.int .i64 z] hx rfl ?_ ?_ (by unfold maxLen; omega) (by omega) hbase ?_
  · intro j u hu
    match j, hu with
    | 0, hu =>
      simp at hu
      subst hu
      exact hp.cell rfl
    | k + 1, hu => simp at hu
  · intro u hu
    simp at hu
    subst hu
    rfl
  · intro v' w' h1 h2 _ h3
    refine h v' w' ?_ h2 (fun k hk => (World.ownsRow.lt hown k hk).1) h3
    unfold OwnZ iv9
    simpa [iv9] using h1
/-- A row that is one block, made at once. -/
theorem own_one {w : World} {B p size : Nat} {e : TypeId} {cs : Array Value} (h : w.heap[p]? = some (.cells cs e (0, 0))) (hB : B ≤ p) (hs : cs.size = size) : w.ownsRow B e size (.slice (some ⟨p, 0, none⟩) 1 1) 1 cs.toList :=
  ⟨by rw [Array.length_toList]; omega, .inr ⟨p, 1, cs, rfl, hB, h, Nat.le_refl _, by decide, by omega, by rw [List.take_of_length_le]; rw [Array.length_toList]; omega⟩⟩
theorem row_keep {w w' : World} {B size n : Nat} {e : TypeId} {v : Value} {xs : List Value} (h : w.ownsRow B e size v n xs) (hb : Below w.heap.size w w') : w'.ownsRow B e size v n xs :=
  World.ownsRow.kept h (fgb_below hb none) (by cases v.ownBlock <;> simp)
/-- What the statement EditCuts holds between its steps: the View, the row of Views, the row of ends. -/
structure Cw (w W : World) (v6 v7 : Value) (x : Vr) (vs : List Vr) (ns : List Int) : Prop where
  z : Ek W w.heap.size x.cs.toArray 26
  o6 : OwnV W (w.heap.size + 1) v6 vs
  o7 : OwnZ W (w.heap.size + 1) v7 ns
  ne : v6.ownBlock = none ∨ v6.ownBlock ≠ v7.ownBlock
  fs : ∀ y, y = x ∨ y ∈ vs → Fs W y.a y.V.f.length y.c y.V.f ∧ y.c ≤ 9223372036854775807
  far : ∀ y, y = x ∨ y ∈ vs → ∀ p, y.a = some p → w.heap.size + 1 ≤ p.block ∧ p.block < W.heap.size ∧ v6.ownBlock ≠ some p.block ∧ v7.ownBlock ≠ some p.block
  bel : Below w.heap.size w W
  sz : w.heap.size + 1 ≤ W.heap.size
section
variable {w W W' : World} {v6 v7 v' : Value} {x x' : Vr} {vs : List Vr} {ns : List Int}
theorem Cw.keep (h : Cw w W v6 v7 x vs ns) (hb : Below W.heap.size W W') : Cw w W' v6 v7 x vs ns :=
  ⟨h.z.below hb h.z.lt, row_keep h.o6 hb, row_keep h.o7 hb, h.ne, fun y hy => ⟨(h.fs y hy).1.below hb (Nat.le_refl _), (h.fs y hy).2⟩, fun y hy p hp => by have h1 := h.far y hy p hp; have := hb.size; exact ⟨h1.1, by omega, h1.2.2⟩, h.bel.trans (hb.mono h.bel.size), Nat.le_trans h.sz hb.size⟩
/-- Another View in the variable. -/
theorem Cw.cur (h : Cw w W v6 v7 x vs ns) (hf : Fs W x'.a x'.V.f.length x'.c x'.V.f ∧ x'.c ≤ 9223372036854775807) (hp : ∀ p, x'.a = some p → w.heap.size + 1 ≤ p.block ∧ p.block < W.heap.size ∧ v6.ownBlock ≠ some p.block ∧ v7.ownBlock ≠ some p.block) :
    Cw w (set6 W w.heap.size (.int .i64 x'.V.lg) (.slice x'.a x'.V.f.length x'.c) (.int .u64 x'.V.fl) (.int .u64 x'.V.ct) (.int .u64 x'.V.at9) (.int .u64 x'.V.ls)) v6 v7 x' vs ns := by
  have hg := gset6 W w.heap.size (.int .i64 x'.V.lg) (.slice x'.a x'.V.f.length x'.c) (.int .u64 x'.V.fl) (.int .u64 x'.V.ct) (.int .u64 x'.V.at9) (.int .u64 x'.V.ls)
  have hz := zset h.z h.bel (Nat.le_refl _) (.int .i64 x'.V.lg) (.slice x'.a x'.V.f.length x'.c) (.int .u64 x'.V.fl) (.int .u64 x'.V.ct) (.int .u64 x'.V.at9) (.int .u64 x'.V.ls)
  have hn : ∀ {v : Value} {B n size : Nat} {e : TypeId} {xs : List Value}, W.ownsRow B e size v n xs → w.heap.size + 1 ≤ B → v.ownBlock = none ∨ v.ownBlock ≠ some w.heap.size := fun {v B n size e xs} ho hB => by
    cases hv : v.ownBlock with
    | none => exact .inl rfl
    | some k =>
      right
      intro e2
      have h1 := (World.ownsRow.lt ho k hv).1
      have h2 := Option.some.inj e2
      omega
  have hall : ∀ y, y = x' ∨ y ∈ vs → (Fs W y.a y.V.f.length y.c y.V.f ∧ y.c ≤ 9223372036854775807) ∧ ∀ p, y.a = some p → w.heap.size + 1 ≤ p.block ∧ p.block < W.heap.size ∧ v6.ownBlock ≠ some p.block ∧ v7.ownBlock ≠ some p.block := fun y hy => by
    rcases hy with rfl | hy
    · exact ⟨hf, hp⟩
    · exact ⟨h.fs y (.inr hy), h.far y (.inr hy)⟩
  refine ⟨hz.1, World.ownsRow.kept h.o6 hg (hn h.o6 (Nat.le_refl _)), World.ownsRow.kept h.o7 hg (hn h.o7 (Nat.le_refl _)), h.ne, fun y hy => ⟨(hall y hy).1.1.gb hg (fun p e e2 => ?_), (hall y hy).1.2⟩, fun y hy p e => ?_, hz.2, Nat.le_trans h.sz hg.size⟩
  · have h1 := (hall y hy).2 p e
    have h2 := Option.some.inj e2
    omega
  · have h1 := (hall y hy).2 p e
    have := hg.size
    exact ⟨h1.1, Nat.lt_of_lt_of_le h1.2.1 this, h1.2.2⟩
/-- The View behind the row of Views. -/
theorem Cw.push6 (h : Cw w W v6 v7 x vs ns) (ho : OwnV W' (w.heap.size + 1) v' (vs ++ [x])) (hg : W.grownBy W' v6.ownBlock) (hl : v'.ownBlock = v6.ownBlock ∨ v'.ownBlock = some W.heap.size) : Cw w W' v' v7 x (vs ++ [x]) ns := by
  have hk : ∀ k, v6.ownBlock = some k → w.heap.size + 1 ≤ k := fun k hk => (World.ownsRow.lt h.o6 k hk).1
  have h7 : ∀ k, v7.ownBlock = some k → k < W.heap.size := fun k hk => (World.ownsRow.lt h.o7 k hk).2
  have hall : ∀ y, y = x ∨ y ∈ vs ++ [x] → y = x ∨ y ∈ vs := fun y hy => by
    rcases hy with e | e
    · exact .inl e
    · rcases List.mem_append.1 e with e | e
      · exact .inr e
      · exact .inl (List.mem_singleton.1 e)
  refine ⟨h.z.gb hg (fun e => ?_), ho, World.ownsRow.kept h.o7 hg ?_, ?_, fun y hy => ⟨(h.fs y (hall y hy)).1.gb hg (fun p e e2 => (h.far y (hall y hy) p e).2.2.1 e2.symm), (h.fs y (hall y hy)).2⟩, fun y hy p e => ?_, h.bel.grown hg h.bel.size (fun k e => ?_), Nat.le_trans h.sz hg.size⟩
  · have := hk _ e.symm; omega
  · rcases h.ne with e | e
    · rw [e]; cases v7.ownBlock <;> simp
    · exact .inr (fun e2 => e e2.symm)
  · rcases hl with e | e
    · rw [e]; exact h.ne
    · right
      rw [e]
      intro e2
      have := h7 _ e2.symm
      omega
  · have h1 := h.far y (hall y hy) p e
    have := hg.size
    refine ⟨h1.1, by omega, ?_, h1.2.2.2⟩
    rcases hl with e | e
    · rw [e]; exact h1.2.2.1
    · rw [e]; intro e2; have := Option.some.inj e2; omega
  · have := hk k e; omega
theorem Cw.push7 {n : Int} (h : Cw w W v6 v7 x vs ns) (ho : OwnZ W' (w.heap.size + 1) v' (ns ++ [n])) (hg : W.grownBy W' v7.ownBlock) (hl : v'.ownBlock = v7.ownBlock ∨ v'.ownBlock = some W.heap.size) : Cw w W' v6 v' x vs (ns ++ [n]) := by
  have hk : ∀ k, v7.ownBlock = some k → w.heap.size + 1 ≤ k := fun k hk => (World.ownsRow.lt h.o7 k hk).1
  have h6 : ∀ k, v6.ownBlock = some k → k < W.heap.size := fun k hk => (World.ownsRow.lt h.o6 k hk).2
  refine ⟨h.z.gb hg (fun e => ?_), World.ownsRow.kept h.o6 hg h.ne, ho, ?_, fun y hy => ⟨(h.fs y hy).1.gb hg (fun p e e2 => (h.far y hy p e).2.2.2 e2.symm), (h.fs y hy).2⟩, fun y hy p e => ?_, h.bel.grown hg h.bel.size (fun k e => ?_), Nat.le_trans h.sz hg.size⟩
  · have := hk _ e.symm; omega
  · rcases h.ne with e | e
    · exact .inl e
    · rcases hl with e2 | e2
      · rw [e2]; exact .inr e
      · rw [e2]
        right
        intro e3
        have := h6 _ e3
        omega
  · have h1 := h.far y hy p e
    have := hg.size
    refine ⟨h1.1, by omega, h1.2.2.1, ?_⟩
    rcases hl with e | e
    · rw [e]; exact h1.2.2.2
    · rw [e]; intro e2; have := Option.some.inj e2; omega
  · have := hk k e; omega
/-- A new block is no row's. -/
theorem Cw.new (h : Cw w W v6 v7 x vs ns) {p : Nat} (hp : W.heap.size ≤ p) : v6.ownBlock ≠ some p ∧ v7.ownBlock ≠ some p := ⟨fun e => by have := (World.ownsRow.lt h.o6 p e).2; omega, fun e => by have := (World.ownsRow.lt h.o7 p e).2; omega⟩
end
/-- The Edits so far, and the Views that they made. -/
structure Cp (l : List Ed) (vs : List Vr) (x : Vr) : Prop where
  len : vs.length = l.length + 1
  at' : ∀ k y, vs[k]? = some y → apE zV (l.take k) = some y.V
  last : apE zV l = some x.V
  eg : ∀ E ∈ l, Eg E
theorem Cp.snoc {l : List Ed} {vs : List Vr} {x x' : Vr} {E : Ed} (h : Cp l vs x) (ha : appl x.V E = some x'.V) (he : Eg E) : Cp (l ++ [E]) (vs ++ [x']) x' := by
  refine ⟨by rw [List.length_append, List.length_append, h.len]; rfl, fun k y hk => ?_, apE_snoc h.last ha, fun F hF => ?_⟩
  · rcases Nat.lt_or_ge k vs.length with hlt | hge
    · rw [List.getElem?_append_left hlt] at hk
      rw [List.take_append_of_le_length (by have := h.len; omega)]
      exact h.at' k y hk
    · rw [List.getElem?_append_right hge] at hk
      have hk0 : k - vs.length = 0 := by
        rcases Nat.eq_zero_or_pos (k - vs.length) with e | e
        · exact e
        · rw [List.getElem?_eq_none (by simp; omega)] at hk; cases hk
      rw [hk0] at hk
      simp at hk
      rw [← hk, List.take_of_length_le (by rw [List.length_append, List.length_singleton]; have := h.len; omega)]
      exact apE_snoc h.last ha
  · rcases List.mem_append.1 hF with e | e
    · exact h.eg F e
    · rw [List.mem_singleton.1 e]; exact he

theorem ends_bound (l : List Ed) (hl : l.length ≤ 12) (h : ∀ E ∈ l, Eg E) : ∀ z ∈ ends l, -9223372036854775808 ≤ z ∧ z ≤ 9223372036854775807 := by
  intro z hz
  unfold ends at hz
  obtain ⟨k, _, rfl⟩ := List.mem_map.1 hz
  have h1 := een_le l k
  have h2 := el_len l h
  omega
/-- What a row of Views is like. -/
theorem ownV_form {w : World} {B : Nat} {v : Value} {l : List Vr} (h : OwnV w B v l) (h0 : 0 < l.length) : ∃ g c, v = .slice (some ⟨g, 0, none⟩) l.length c ∧ c ≤ 9223372036854775807 ∧ ∀ (i : Nat) (y : Vr) (j : Nat) (u : Value), l[i]? = some y → y.cs[j]? = some u → w.cell? ⟨g, i * 6 + j, none⟩ = some u := by
  have h1 := h
  obtain ⟨hl, ⟨rfl, hn⟩ | ⟨g, cap, cur, rfl, hg, hh, hnc, hcm, hcs, hx⟩⟩ := h1
  · omega
  · refine ⟨g, cap, rfl, by unfold maxLen at hcm; omega, fun i y j u hi hj => ?_⟩
    have hj6 : j < 6 := by have := (List.getElem?_eq_some_iff.1 hj).1; simpa [Vr.cs] using this
    have hc := World.ownsRow.cells (w := w) (base := B) (e := 26) (size := 6) (v := .slice (some ⟨g, 0, none⟩) l.length cap) (n := l.length) (xs := vcs l) h (g := g) rfl (i * 6 + j) u (by rw [vcs_get l i j y hi hj6]; exact hj)
    rwa [add_plain, Nat.zero_add] at hc
/-- The statement's Edit, as it is made: its block, its file. -/
def Ce0 (wr W : World) (i : Nat) (L f : Int) (s : Value) : Prop := ∃ D p : Nat, s = .pointer (some ⟨D, 0, none⟩) ∧ wr.heap.size ≤ D ∧ Ek W D #[.slice none 0 0, .slice (some ⟨p, 0, none⟩) 1 1, .int .i64 ((i : Int) + 1), .int .u64 f, .int .u64 0, .int .u64 0, .int .u64 0] 31 ∧
  Fs W (some ⟨p, 0, none⟩) 1 1 [⟨L, (i : Int) + 10⟩] ∧ Below wr.heap.size wr W ∧ D ≠ p
/-- The statement's Edit, with what it drops. -/
def Ce (wr W : World) (V : Vw) (i : Nat) (L f : Int) (D p : Nat) : Prop := ∃ (da : Option Addr) (dc : Nat) (dl : List Int) (m : List Fi), Ek W D #[.slice da dl.length dc, .slice (some ⟨p, 0, none⟩) 1 1, .int .i64 ((i : Int) + 1), .int .u64 f, .int .u64 0, .int .u64 0, .int .u64 0] 31 ∧
  Zs W da dl.length dc dl ∧ Fs W (some ⟨p, 0, none⟩) 1 1 [⟨L, (i : Int) + 10⟩] ∧ Below wr.heap.size wr W ∧ dropN V.f dl = some m ∧ ((dl = [] ∧ m = V.f) ∨ (3 ≤ i ∧ ∃ x, V.f = x :: m ∧ dl = [x.N])) ∧ (dl.length ≤ 1 ∧ ∀ z ∈ dl, 1 ≤ z ∧ z ≤ 1000)

end Go.Proofs.Ytgopcaemgcnapaa.Clep

/- What edit.Replay does when called (a walk over the translated program): for any bytes of at most a million. Written by wip/tools/gen15replay.py. -/
namespace Go.Proofs.Ytgopcaemgcnapaa.Clep
open Go.RowKit
set_option linter.unusedVariables false
set_option maxRecDepth 10000

theorem fload_any (R : Nat) (p : Int) (w : World) (h0 : w.cell? ⟨R, 0, none⟩ = some (.int .i64 p)) :
    Calls Try.prog 35 #[.pointer (some ⟨R, 0, none⟩)] w fun e w' => e = .returned (.int .i64 p) ∧ w' = w := by
  have hld := run_call_load (P := Try.prog) Try.func60 (by kernel_rfl) (by kernel_rfl) (by kernel_rfl) .i64 (by kernel_rfl) h0
  go_enter Try.func35, Try.ntmps35
  go_wp2
  go_ret
  exact ⟨rfl, rfl⟩
theorem fadd_any (R : Nat) (p : Int) (w : World) (h0 : w.cell? ⟨R, 0, none⟩ = some (.int .i64 p)) (hf : w.frozen? ⟨R, 0, none⟩ = false) (h1 : 0 ≤ p) (h2 : p ≤ 4611686018427387904) :
    Calls Try.prog 34 #[.pointer (some ⟨R, 0, none⟩), .int .i64 1] w fun e w' => e = .returned (.int .i64 (p + 1)) ∧ w' = w.setCell ⟨R, 0, none⟩ (.int .i64 (p + 1)) := by
  have hadd := run_call_add (P := Try.prog) Try.func59 (by kernel_rfl) (by kernel_rfl) (by kernel_rfl) .i64 (by kernel_rfl) (y := 1) (s := p + 1) h0 hf (by
    simp [go_sem, IntKind.wrap, IntKind.bits, IntKind.signed]
    omega)
  go_enter Try.func34, Try.ntmps34
  go_wp2
  go_ret
  exact ⟨rfl, rfl⟩
theorem ce_nil4 : ce [] = 4 := by unfold ce; rw [if_pos (by simp)]
theorem At.halt {zs : List Int} {j P : Nat} (h : At zs j P) (hc : ce (zs.drop P) ≠ 0) : (SP zs).1.length = j ∧ (SP zs).2.1 = P ∧ (((SP zs).2.2 = 0 ∧ ce (zs.drop P) = 4) ∨ (SP zs).2.2 = ce (zs.drop P)) := by
  have hP := h.1
  rcases Nat.lt_or_ge P zs.length with hl | hl
  · have := h.stop hl hc
    exact ⟨this.1, this.2.1, .inr this.2.2⟩
  · have := h.end (by omega)
    exact ⟨this.1, this.2.1, .inl ⟨this.2.2, by rw [List.drop_eq_nil_of_le hl]; exact ce_nil4⟩⟩
theorem vok_once {V : Vw} (h : vok V = true) : once V.f = true ∧ V.f.length ≤ 40 := by
  have hp := vok_parts2 h
  have h1 := hp.1
  unfold vwH at h1
  have h2 := of_decide_eq_true h1
  exact ⟨hp.2.2, h2.2.2.1⟩
theorem fE_once {F : List (Int × List Int)} {V : Vw} (h : fE zV F = some V) : once V.f = true ∧ V.f.length ≤ 40 := by
  rcases fE_ok F zV V h with ⟨_, rfl⟩ | h2
  · exact ⟨rfl, by decide⟩
  · exact vok_once h2
theorem replay_results {w : World} {R : Nat} {A B C D E n e : Int} {v : Value} (h : Ek w R #[.int .i64 A, v, .int .u64 B, .int .u64 C, .int .u64 D, .int .u64 E] 26) (ts : Array Value) (h2 : ts.getD 2 undef = .pointer (some ⟨R, 0, none⟩)) (h3 : ts.getD 3 undef = .int .i64 n) (h4 : ts.getD 4 undef = .int .i64 e) :
    (results Try.f11 ts).run Try.prog w = .ok (.tuple #[.agg #[.int .i64 A, v, .int .u64 B, .int .u64 C, .int .u64 D, .int .u64 E], .int .i64 n, .int .i64 e]) w := by
  have c0 := h.cell (o := 0) rfl
  have c1 := h.cell (o := 1) rfl
  have c2 := h.cell (o := 2) rfl
  have c3 := h.cell (o := 3) rfl
  have c4 := h.cell (o := 4) rfl
  have c5 := h.cell (o := 5) rfl
  rw [Array.getD_eq_getD_getElem?] at h2 h3 h4
  simp [results, Try.results11, go_sem, c0, c1, c2, c3, c4, c5, h2, h3, h4]
/-- Between the rounds of Replay. -/
structure Ry (w W : World) (V : Vw) (a : Option Addr) (c j : Nat) : Prop where
  z : Ek W w.heap.size #[.int .i64 V.lg, .slice a V.f.length c, .int .u64 V.fl, .int .u64 V.ct, .int .u64 V.at9, .int .u64 V.ls] 26
  n : Ek W (w.heap.size + 1) #[.int .i64 (j : Nat)] 74
  f : OwnF W (w.heap.size + 2) (.slice a V.f.length c) V.f
  wf : ∀ x ∈ V.f, x.wf
  bel : Below w.heap.size w W
  sz : w.heap.size + 2 ≤ W.heap.size
theorem Ry.keep {w W W' : World} {V : Vw} {a : Option Addr} {c j : Nat} (h : Ry w W V a c j) (hb : Below W.heap.size W W') : Ry w W' V a c j :=
  ⟨h.z.below hb h.z.lt, h.n.below hb h.n.lt, ownF_keep h.f hb, h.wf, h.bel.trans (hb.mono h.bel.size), Nat.le_trans h.sz hb.size⟩
theorem Ry.fs {w W : World} {V : Vw} {a : Option Addr} {c j : Nat} (h : Ry w W V a c j) : c ≤ 9223372036854775807 ∧ Fs W a V.f.length c V.f := by
  obtain ⟨a8, c8, e8, hc, hf, _⟩ := ownF_fs h.f h.wf
  injection e8 with e8 _ e9
  subst e8 e9
  exact ⟨hc, hf⟩
/-- One more is counted. -/
theorem Ry.add {w W : World} {V : Vw} {a : Option Addr} {c j : Nat} (h : Ry w W V a c j) : Ry w (W.setCell ⟨w.heap.size + 1, 0, none⟩ (.int .i64 ((j : Int) + 1))) V a c (j + 1) := by
  have hg := fgb_set W ⟨w.heap.size + 1, 0, none⟩ (.int .i64 ((j : Int) + 1))
  refine ⟨h.z.gb hg (fun e => ?_), ?_, ownF_grown h.f hg (fun k hk => ?_), h.wf, h.bel.grown hg h.bel.size (fun k hk => ?_), Nat.le_trans h.sz hg.size⟩
  · have : w.heap.size = w.heap.size + 1 := Option.some.inj e; omega
  · have := h.n.set 0 (.int .i64 ((j : Int) + 1)); rw [show ((j : Int) + 1) = ((j + 1 : Nat) : Int) from by omega] at this ⊢; exact this
  · have : w.heap.size + 1 = k := Option.some.inj hk; omega
  · have : w.heap.size + 1 = k := Option.some.inj hk; omega
/-- Another View in its place. -/
theorem Ry.put {w W : World} {V U : Vw} {a a' : Option Addr} {c c' j : Nat} (h : Ry w W V a c j) (hf : OwnF W (w.heap.size + 2) (.slice a' U.f.length c') U.f) (hw : ∀ x ∈ U.f, x.wf) : Ry w (set6 W w.heap.size (.int .i64 U.lg) (.slice a' U.f.length c') (.int .u64 U.fl) (.int .u64 U.ct) (.int .u64 U.at9) (.int .u64 U.ls)) U a' c' j := by
  have hg := gset6 W w.heap.size (.int .i64 U.lg) (.slice a' U.f.length c') (.int .u64 U.fl) (.int .u64 U.ct) (.int .u64 U.at9) (.int .u64 U.ls)
  refine ⟨(zset h.z h.bel (Nat.le_refl _) (.int .i64 U.lg) (.slice a' U.f.length c') (.int .u64 U.fl) (.int .u64 U.ct) (.int .u64 U.at9) (.int .u64 U.ls)).1, h.n.gb hg (fun e => ?_), ownF_grown hf hg (fun k hk => ?_), hw, (zset h.z h.bel (Nat.le_refl _) (.int .i64 U.lg) (.slice a' U.f.length c') (.int .u64 U.fl) (.int .u64 U.ct) (.int .u64 U.at9) (.int .u64 U.ls)).2, Nat.le_trans h.sz hg.size⟩
  · have : w.heap.size + 1 = w.heap.size := Option.some.inj e; omega
  · have : w.heap.size = k := Option.some.inj hk; omega

set_option maxHeartbeats 4000000 in
theorem ereplay_any (ao : Option Addr) (len cap : Nat) (zs : List Int) (w : World) (hm : len ≤ 1000000) (h : Bs w ao len cap zs) :
    Calls Try.prog 11 #[.slice ao len cap] w (RpA (rpE zs) w) := by
  have hzl := h.1
  have HB := hide (fun W (hW : Below w.heap.size w W) => h.below hW (Nat.le_refl _))
  have HBR := hide (bs_range h)
  have HLN := hide hzl
  have HER := hide (show ∀ W, rpE zs = none → Below w.heap.size w W → RpA (rpE zs) w (.returned (.tuple #[vwV none 0 0 zV, .int .i64 0, .int .i64 9])) W from fun W e hW => by rw [e]; exact ⟨rfl, hW⟩)
  have HGO := hide (show ∀ W a c V n, rpE zs = some (V, n) → Fs W a V.f.length c V.f → c ≤ 9223372036854775807 → Below w.heap.size w W → RpA (rpE zs) w (.returned (.tuple #[vwV a V.f.length c V, .int .i64 (n : Nat), .int .i64 0])) W from fun W a c V n e h1 h2 h3 => by rw [e]; exact ⟨⟨a, c, rfl, h1, h2⟩, h3⟩)
  have HRB := hide (fun j => @rpE_bad zs j)
  have HRE := hide (@rpE_err zs)
  have HRZ := hide (@rpE_zero zs)
  have HRS := hide (fun V => @rpE_some zs V)
  generalize hRR : RpA (rpE zs) w = RR at *
  clear hRR h hzl
  unfold vwV at HER HGO
  simp only [zV] at HER
  have A0 := (Below.refl w.heap.size w).alloc (Nat.le_refl _) (Obj.cells #[.int .i64 0, .slice none 0 0, .int .u64 0, .int .u64 0, .int .u64 0, .int .u64 0] 26)
  have A1 := (Below.refl _ (w.alloc (Obj.cells #[.int .i64 0, .slice none 0 0, .int .u64 0, .int .u64 0, .int .u64 0, .int .u64 0] 26))).alloc (Nat.le_refl _) (Obj.cells #[.int .i64 0] 74)
  have k0 := (ek_new w #[.int .i64 0, .slice none 0 0, .int .u64 0, .int .u64 0, .int .u64 0, .int .u64 0] 26).below A1 (ek_new w _ _).lt
  have k1 := ek_new (w.alloc (Obj.cells #[.int .i64 0, .slice none 0 0, .int .u64 0, .int .u64 0, .int .u64 0, .int .u64 0] 26)) #[.int .i64 0] 74
  have hsz : (w.alloc (Obj.cells #[.int .i64 0, .slice none 0 0, .int .u64 0, .int .u64 0, .int .u64 0, .int .u64 0] 26)).heap.size = w.heap.size + 1 := by simp
  rw [hsz] at k1
  have R0 := hide (show Ry w ((w.alloc (Obj.cells #[.int .i64 0, .slice none 0 0, .int .u64 0, .int .u64 0, .int .u64 0, .int .u64 0] 26)).alloc (Obj.cells #[.int .i64 0] 74)) zV none 0 0 from ⟨k0, k1, ownF_nil _ _, by simp [zV], A0.trans (A1.mono (by simp)), by simp⟩)
  clear A0 A1 k0 k1 hsz
  go_enter Try.func11, Try.ntmps11
  go_wp2_with fail
  generalize (w.alloc (Obj.cells #[.int .i64 0, .slice none 0 0, .int .u64 0, .int .u64 0, .int .u64 0, .int .u64 0] 26)).alloc (Obj.cells #[.int .i64 0] 74) = wa at *
  go_loopw [3] (fun t wr => ∃ j P : Nat, P ≤ len ∧ t = .int .i64 P ∧ Hid (j ≤ P ∧ At zs j P) ∧ Hid (∃ V a c, fE zV ((SP zs).1.take j) = some V ∧ Ry w wr V a c j)) (fun t _ => len - (intOf t).toNat)
  case atStart => exact ⟨0, 0, by omega, rfl, hide ⟨Nat.le_refl _, At.start zs⟩, hide ⟨zV, none, 0, rfl, R0.out⟩⟩
  case round =>
    obtain ⟨j, P, hP, rfl, hat, hst⟩ := hrel
    obtain ⟨V, a, c, hfE, hry⟩ := hst.out
    have HFE := hide hfE
    have RY := hide hry
    have hon := fE_once hfE
    have hst0 := hide (fun hc => hat.out.2.halt hc)
    have hgo := hide (fun hc => hat.out.2.step hc)
    have hbw := HB.out wr hry.bel
    by_cases hc : ce (zs.drop P) = 0
    · have U := hide (ftake_good ao len cap zs P wr (by omega) hbw hP (zs.drop P) rfl hc)
      have hk := ce_ok (zs.drop P) hc
      rw [List.length_drop, HLN.out] at hk
      have hg := hgo.out hc
      have HAT := hide hg.1
      have hjl := hg.2.1
      have HNX := hide (fE_next hjl hfE)
      rw [hg.2.2] at HNX
      have hbr : ByteL (bo (zs.drop P)) := ByteL.take (ByteL.drop (ByteL.take (ByteL.drop HBR.out P) _) _) _
      have hbl := bo_len _ hc
      have hrl := ln_range (zs.drop P) (range_of (ByteL.drop HBR.out P))
      clear hgo hg hst0 hc hst hfE hry hbw
      generalize bo (zs.drop P) = Y at *
      generalize kd (zs.drop P) = K at *
      generalize ln (zs.drop P) = L at *
      obtain ⟨N, rfl⟩ := Int.eq_ofNat_of_zero_le hrl.1
      simp only [Int.toNat_natCast] at hk hbl HAT
      have HBY := hide hbr
      have hPN : P + (N + 12) ≤ len := by omega
      have hjle := hat.out.1
      clear hbr hrl
      go_wp2_with fail
      refine U.out.mono ?_
      rintro e w1 ⟨v1, rfl, ho1, hb1⟩
      obtain ⟨a1, c1, rfl, hc1, hbs1, _⟩ := own_bs ho1 (range_of HBY.out)
      obtain ⟨n1, hn1⟩ : ∃ n, Y.length = n := ⟨_, rfl⟩
      rw [hn1] at hbs1 ⊢
      have RY1 := hide (RY.out.keep hb1)
      have hcc := RY1.out.fs
      have hc1m : c1 ≤ 9223372036854775807 := by unfold maxLen at hc1; omega
      have CC := hide (changed_any a V.f.length c V a1 n1 c1 Y w1 hcc.2 (by omega) hon.1 hbs1 (by omega) hc1m)
      have hz := RY1.out.z
      have cc0 : w1.cell? ⟨w.heap.size, 0, none⟩ = some (.int .i64 V.lg) := (hz).cell rfl
      have cc1 : w1.cell? ⟨w.heap.size, 1, none⟩ = some (.slice a V.f.length c) := (hz).cell rfl
      have cc2 : w1.cell? ⟨w.heap.size, 2, none⟩ = some (.int .u64 V.fl) := (hz).cell rfl
      have cc3 : w1.cell? ⟨w.heap.size, 3, none⟩ = some (.int .u64 V.ct) := (hz).cell rfl
      have cc4 : w1.cell? ⟨w.heap.size, 4, none⟩ = some (.int .u64 V.at9) := (hz).cell rfl
      have cc5 : w1.cell? ⟨w.heap.size, 5, none⟩ = some (.int .u64 V.ls) := (hz).cell rfl
      clear U ho1 hb1 hbs1 hz hcc
      by_cases hK : K = 6
      · subst hK
        have q6 : ((6 : Int) != 6) = false := by decide
        unfold vwV at CC
        go_wp2_with fail
        refine CC.out.mono ?_
        rintro e w2 hr2
        obtain ⟨r, hr⟩ : ∃ r, cgd V Y = r := ⟨_, rfl⟩
        rw [hr] at hr2
        have HNR := hide (show fE zV ((SP zs).1.take (j + 1)) = r from by rw [HNX.out]; simp only [if_true]; exact hr)
        have hvr := show ∀ U, r = some U → vok U = true from fun U e => cgd_ok (hr.trans e)
        clear hr HNX CC cc0 cc1 cc2 cc3 cc4 cc5
        cases r with
        | none =>
          obtain ⟨rfl, hb2⟩ := hr2
          have A2 := (Below.refl _ w2).alloc (Nat.le_refl _) (Obj.cells #[.int .i64 0, .slice none 0 0, .int .u64 0, .int .u64 0, .int .u64 0, .int .u64 0] 26)
          have RY2 := hide ((RY1.out.keep hb2).keep A2)
          have hz := RY2.out.z
          have cc0 : (w2.alloc (Obj.cells #[.int .i64 0, .slice none 0 0, .int .u64 0, .int .u64 0, .int .u64 0, .int .u64 0] 26)).cell? ⟨w.heap.size, 0, none⟩ = some (.int .i64 V.lg) := (hz).cell rfl
          have cc1 : (w2.alloc (Obj.cells #[.int .i64 0, .slice none 0 0, .int .u64 0, .int .u64 0, .int .u64 0, .int .u64 0] 26)).cell? ⟨w.heap.size, 1, none⟩ = some (.slice a V.f.length c) := (hz).cell rfl
          have cc2 : (w2.alloc (Obj.cells #[.int .i64 0, .slice none 0 0, .int .u64 0, .int .u64 0, .int .u64 0, .int .u64 0] 26)).cell? ⟨w.heap.size, 2, none⟩ = some (.int .u64 V.fl) := (hz).cell rfl
          have cc3 : (w2.alloc (Obj.cells #[.int .i64 0, .slice none 0 0, .int .u64 0, .int .u64 0, .int .u64 0, .int .u64 0] 26)).cell? ⟨w.heap.size, 3, none⟩ = some (.int .u64 V.ct) := (hz).cell rfl
          have cc4 : (w2.alloc (Obj.cells #[.int .i64 0, .slice none 0 0, .int .u64 0, .int .u64 0, .int .u64 0, .int .u64 0] 26)).cell? ⟨w.heap.size, 4, none⟩ = some (.int .u64 V.at9) := (hz).cell rfl
          have cc5 : (w2.alloc (Obj.cells #[.int .i64 0, .slice none 0 0, .int .u64 0, .int .u64 0, .int .u64 0, .int .u64 0] 26)).cell? ⟨w.heap.size, 5, none⟩ = some (.int .u64 V.ls) := (hz).cell rfl
          have cf0 : (w2.alloc (Obj.cells #[.int .i64 0, .slice none 0 0, .int .u64 0, .int .u64 0, .int .u64 0, .int .u64 0] 26)).frozen? ⟨w.heap.size, 0, none⟩ = false := (hz).free 0
          have cf1 : (w2.alloc (Obj.cells #[.int .i64 0, .slice none 0 0, .int .u64 0, .int .u64 0, .int .u64 0, .int .u64 0] 26)).frozen? ⟨w.heap.size, 1, none⟩ = false := (hz).free 1
          have cf2 : (w2.alloc (Obj.cells #[.int .i64 0, .slice none 0 0, .int .u64 0, .int .u64 0, .int .u64 0, .int .u64 0] 26)).frozen? ⟨w.heap.size, 2, none⟩ = false := (hz).free 2
          have cf3 : (w2.alloc (Obj.cells #[.int .i64 0, .slice none 0 0, .int .u64 0, .int .u64 0, .int .u64 0, .int .u64 0] 26)).frozen? ⟨w.heap.size, 3, none⟩ = false := (hz).free 3
          have cf4 : (w2.alloc (Obj.cells #[.int .i64 0, .slice none 0 0, .int .u64 0, .int .u64 0, .int .u64 0, .int .u64 0] 26)).frozen? ⟨w.heap.size, 4, none⟩ = false := (hz).free 4
          have cf5 : (w2.alloc (Obj.cells #[.int .i64 0, .slice none 0 0, .int .u64 0, .int .u64 0, .int .u64 0, .int .u64 0] 26)).frozen? ⟨w.heap.size, 5, none⟩ = false := (hz).free 5
          have HN := hide (HER.out · (HRB.out (j + 1) HNR.out))
          have hlz := hz.lt
          unfold vwV zV
          clear hz hb2 A2 HGO HRB HRE HRZ HRS hvr HNR
          go_wp2
          have HZS := zset RY2.out.z RY2.out.bel (Nat.le_refl _) (.int .i64 0) (.slice none 0 0) (.int .u64 0) (.int .u64 0) (.int .u64 0) (.int .u64 0)
          refine bodyPost_ret (replay_results (e := 9) HZS.1 _ rfl rfl rfl) rfl ?_
          exact HN.out _ HZS.2
        | some U2 =>
          obtain ⟨a2, c2, rfl, hc2, ho2, hf2, hb2⟩ := apr_some hr2
          have A2 := (Below.refl _ w2).alloc (Nat.le_refl _) (Obj.cells #[.int .i64 U2.lg, .slice a2 U2.f.length c2, .int .u64 U2.fl, .int .u64 U2.ct, .int .u64 U2.at9, .int .u64 U2.ls] 26)
          have RY2 := hide ((RY1.out.keep hb2).keep A2)
          have HO2 := hide (ownF_base (ownF_keep ho2 A2) RY1.out.sz)
          have HW2 := hide hf2.2.2.1
          have hnn := RY2.out.n
          have n0 := hnn.cell (o := 0) rfl
          have nf := hnn.free 0
          have CAD := hide (fadd_any (w.heap.size + 1) (j : Nat) (w2.alloc (Obj.cells #[.int .i64 U2.lg, .slice a2 U2.f.length c2, .int .u64 U2.fl, .int .u64 U2.ct, .int .u64 U2.at9, .int .u64 U2.ls] 26)) n0 nf (by omega) (by omega))
          have ke := hide (ek_new w2 #[.int .i64 U2.lg, .slice a2 U2.f.length c2, .int .u64 U2.fl, .int .u64 U2.ct, .int .u64 U2.at9, .int .u64 U2.ls] 26)
          have hsw : w2.heap.size ≥ w.heap.size + 2 := Nat.le_trans RY1.out.sz hb2.size
          unfold vwV
          clear hnn n0 nf hb2 A2 ho2 hf2 hr2
          go_wp2_with fail
          refine CAD.out.mono ?_
          rintro e w4 ⟨rfl, hw4⟩
          have hg4 := fgb_set (w2.alloc (Obj.cells #[.int .i64 U2.lg, .slice a2 U2.f.length c2, .int .u64 U2.fl, .int .u64 U2.ct, .int .u64 U2.at9, .int .u64 U2.ls] 26)) ⟨w.heap.size + 1, 0, none⟩ (.int .i64 ((j : Int) + 1))
          rw [← hw4] at hg4
          have RY4 := hide (show Ry w w4 V a c (j + 1) from by rw [hw4]; exact RY2.out.add)
          have k4 := ke.out.gb hg4 (fun e => by have : w2.heap.size = w.heap.size + 1 := Option.some.inj e; omega)
          have HO4 := hide (ownF_grown HO2.out hg4 (fun k hk => by have : w.heap.size + 1 = k := Option.some.inj hk; omega))
          have hz := RY4.out.z
          have hlz := hz.lt
          have hl4 := k4.lt
          have cc0 : w4.cell? ⟨w.heap.size, 0, none⟩ = some (.int .i64 V.lg) := (hz).cell rfl
          have cc1 : w4.cell? ⟨w.heap.size, 1, none⟩ = some (.slice a V.f.length c) := (hz).cell rfl
          have cc2 : w4.cell? ⟨w.heap.size, 2, none⟩ = some (.int .u64 V.fl) := (hz).cell rfl
          have cc3 : w4.cell? ⟨w.heap.size, 3, none⟩ = some (.int .u64 V.ct) := (hz).cell rfl
          have cc4 : w4.cell? ⟨w.heap.size, 4, none⟩ = some (.int .u64 V.at9) := (hz).cell rfl
          have cc5 : w4.cell? ⟨w.heap.size, 5, none⟩ = some (.int .u64 V.ls) := (hz).cell rfl
          have cf0 : w4.frozen? ⟨w.heap.size, 0, none⟩ = false := (hz).free 0
          have cf1 : w4.frozen? ⟨w.heap.size, 1, none⟩ = false := (hz).free 1
          have cf2 : w4.frozen? ⟨w.heap.size, 2, none⟩ = false := (hz).free 2
          have cf3 : w4.frozen? ⟨w.heap.size, 3, none⟩ = false := (hz).free 3
          have cf4 : w4.frozen? ⟨w.heap.size, 4, none⟩ = false := (hz).free 4
          have cf5 : w4.frozen? ⟨w.heap.size, 5, none⟩ = false := (hz).free 5
          have ck0 : w4.cell? ⟨w2.heap.size, 0, none⟩ = some (.int .i64 U2.lg) := (k4).cell rfl
          have ck1 : w4.cell? ⟨w2.heap.size, 1, none⟩ = some (.slice a2 U2.f.length c2) := (k4).cell rfl
          have ck2 : w4.cell? ⟨w2.heap.size, 2, none⟩ = some (.int .u64 U2.fl) := (k4).cell rfl
          have ck3 : w4.cell? ⟨w2.heap.size, 3, none⟩ = some (.int .u64 U2.ct) := (k4).cell rfl
          have ck4 : w4.cell? ⟨w2.heap.size, 4, none⟩ = some (.int .u64 U2.at9) := (k4).cell rfl
          have ck5 : w4.cell? ⟨w2.heap.size, 5, none⟩ = some (.int .u64 U2.ls) := (k4).cell rfl
          have RY5 := hide (RY4.out.put HO4.out HW2.out)
          unfold set6 at RY5
          clear hz CAD k4 hg4 hw4 HO4
          go_wp2
          go_roundw
          case rel => exact ⟨j + 1, P + (N + 12), hPN, by rw [show (P : Int) + 12 + (N : Int) = ((P + (N + 12) : Nat) : Int) from by omega], hide ⟨by omega, HAT.out⟩, hide ⟨U2, a2, c2, HNR.out, RY5.out⟩⟩
          case measure => simp [intOf]; omega
      · have q6 : (K != 6) = true := by simpa using hK
        have HN := hide (HER.out · (HRB.out (j + 1) (by rw [HNX.out, if_neg hK])))
        have hz := RY1.out.z
        have hlz := hz.lt
        have cf0 : w1.frozen? ⟨w.heap.size, 0, none⟩ = false := (hz).free 0
        have cf1 : w1.frozen? ⟨w.heap.size, 1, none⟩ = false := (hz).free 1
        have cf2 : w1.frozen? ⟨w.heap.size, 2, none⟩ = false := (hz).free 2
        have cf3 : w1.frozen? ⟨w.heap.size, 3, none⟩ = false := (hz).free 3
        have cf4 : w1.frozen? ⟨w.heap.size, 4, none⟩ = false := (hz).free 4
        have cf5 : w1.frozen? ⟨w.heap.size, 5, none⟩ = false := (hz).free 5
        clear hz HGO HRB HRE HRZ HRS CC HNX hK
        go_wp2
        have HZS := zset RY1.out.z RY1.out.bel (Nat.le_refl _) (.int .i64 0) (.slice none 0 0) (.int .u64 0) (.int .u64 0) (.int .u64 0) (.int .u64 0)
        refine bodyPost_ret (replay_results (e := 9) HZS.1 _ rfl rfl rfl) rfl ?_
        exact HN.out _ HZS.2
    · have U := hide (ftake_bad ao len cap zs P wr (by omega) hbw hP hc)
      have hs := hst0.out hc
      have hjle := hat.out.1
      clear hgo hst0 hbw hst hry
      obtain ⟨E, hE⟩ : ∃ E, ce (zs.drop P) = E := ⟨_, rfl⟩
      rw [hE] at U hc hs
      by_cases h4 : E = 4
      · subst h4
        have hF : (SP zs).1.take j = (SP zs).1 := List.take_of_length_le (by omega)
        rw [hF] at HFE
        have HSE := hide (show (SP zs).2.2 = 0 ∨ (SP zs).2.2 = 4 from by rcases hs.2.2 with h | h; exact .inl h.1; exact .inr h)
        go_wp2_with fail
        refine U.out.mono ?_
        rintro e w1 ⟨rfl, hb1⟩
        have RY1 := hide (RY.out.keep hb1)
        have CL := hide (fload_any (w.heap.size + 1) (j : Nat) w1 (RY1.out.n.cell (o := 0) rfl))
        clear U hb1
        by_cases hj0 : j = 0
        · have qj : ((j : Int) == 0) = true := by simp [hj0]
          have HN := hide (HER.out · (HRZ.out (by omega)))
          have hz := RY1.out.z
          have hlz := hz.lt
          have cc0 : w1.cell? ⟨w.heap.size, 0, none⟩ = some (.int .i64 V.lg) := (hz).cell rfl
          have cc1 : w1.cell? ⟨w.heap.size, 1, none⟩ = some (.slice a V.f.length c) := (hz).cell rfl
          have cc2 : w1.cell? ⟨w.heap.size, 2, none⟩ = some (.int .u64 V.fl) := (hz).cell rfl
          have cc3 : w1.cell? ⟨w.heap.size, 3, none⟩ = some (.int .u64 V.ct) := (hz).cell rfl
          have cc4 : w1.cell? ⟨w.heap.size, 4, none⟩ = some (.int .u64 V.at9) := (hz).cell rfl
          have cc5 : w1.cell? ⟨w.heap.size, 5, none⟩ = some (.int .u64 V.ls) := (hz).cell rfl
          have cf0 : w1.frozen? ⟨w.heap.size, 0, none⟩ = false := (hz).free 0
          have cf1 : w1.frozen? ⟨w.heap.size, 1, none⟩ = false := (hz).free 1
          have cf2 : w1.frozen? ⟨w.heap.size, 2, none⟩ = false := (hz).free 2
          have cf3 : w1.frozen? ⟨w.heap.size, 3, none⟩ = false := (hz).free 3
          have cf4 : w1.frozen? ⟨w.heap.size, 4, none⟩ = false := (hz).free 4
          have cf5 : w1.frozen? ⟨w.heap.size, 5, none⟩ = false := (hz).free 5
          clear hz HGO HRB HRE HRZ HRS HFE HSE hs hF hj0 hE hc hfE
          go_wp2_with fail
          refine CL.out.mono ?_
          rintro e y ⟨rfl, hy⟩
          have hy' := hy.symm
          subst hy'
          clear CL
          go_wp2
          have HZS := zset RY1.out.z RY1.out.bel (Nat.le_refl _) (.int .i64 0) (.slice none 0 0) (.int .u64 0) (.int .u64 0) (.int .u64 0) (.int .u64 0)
          refine bodyPost_ret (replay_results (e := 9) HZS.1 _ rfl rfl rfl) rfl ?_
          exact HN.out _ HZS.2
        · have qj : ((j : Int) == 0) = false := by simp [hj0]
          have hres := HRS.out V HSE.out (by omega) HFE.out
          rw [hs.2.1] at hres
          have HN := hide hres
          have hz := RY1.out.z
          have hlz := hz.lt
          have cc0 : w1.cell? ⟨w.heap.size, 0, none⟩ = some (.int .i64 V.lg) := (hz).cell rfl
          have cc1 : w1.cell? ⟨w.heap.size, 1, none⟩ = some (.slice a V.f.length c) := (hz).cell rfl
          have cc2 : w1.cell? ⟨w.heap.size, 2, none⟩ = some (.int .u64 V.fl) := (hz).cell rfl
          have cc3 : w1.cell? ⟨w.heap.size, 3, none⟩ = some (.int .u64 V.ct) := (hz).cell rfl
          have cc4 : w1.cell? ⟨w.heap.size, 4, none⟩ = some (.int .u64 V.at9) := (hz).cell rfl
          have cc5 : w1.cell? ⟨w.heap.size, 5, none⟩ = some (.int .u64 V.ls) := (hz).cell rfl
          have cf0 : w1.frozen? ⟨w.heap.size, 0, none⟩ = false := (hz).free 0
          have cf1 : w1.frozen? ⟨w.heap.size, 1, none⟩ = false := (hz).free 1
          have cf2 : w1.frozen? ⟨w.heap.size, 2, none⟩ = false := (hz).free 2
          have cf3 : w1.frozen? ⟨w.heap.size, 3, none⟩ = false := (hz).free 3
          have cf4 : w1.frozen? ⟨w.heap.size, 4, none⟩ = false := (hz).free 4
          have cf5 : w1.frozen? ⟨w.heap.size, 5, none⟩ = false := (hz).free 5
          clear hz HER HRB HRE HRZ HRS HFE HSE hs hF hj0 hE hc hres hfE
          go_wp2_with fail
          refine CL.out.mono ?_
          rintro e y ⟨rfl, hy⟩
          have hy' := hy.symm
          subst hy'
          clear CL
          go_wp2
          have RY5 := RY1.out.put RY1.out.f RY1.out.wf
          refine bodyPost_ret (replay_results (e := 0) RY5.z _ rfl rfl rfl) rfl ?_
          exact HGO.out _ a c V P HN.out RY5.fs.2 RY5.fs.1 RY5.bel
      · have q0 : (E != 0) = true := by simpa using hc
        have q4 : (E == 4) = false := by simpa using h4
        have HN := hide (HER.out · (HRE.out (by rcases hs.2.2 with h | h; exact absurd h.2 h4; rw [h]; exact hc) (by rcases hs.2.2 with h | h; exact absurd h.2 h4; rw [h]; exact h4)))
        clear HGO HRB HRE HRZ HRS HFE hs hE hc h4 hfE
        go_wp2_with fail
        refine U.out.mono ?_
        rintro e w1 ⟨rfl, hb1⟩
        have RY1 := hide (RY.out.keep hb1)
        have hz := RY1.out.z
        have hlz := hz.lt
        have cc0 : w1.cell? ⟨w.heap.size, 0, none⟩ = some (.int .i64 V.lg) := (hz).cell rfl
        have cc1 : w1.cell? ⟨w.heap.size, 1, none⟩ = some (.slice a V.f.length c) := (hz).cell rfl
        have cc2 : w1.cell? ⟨w.heap.size, 2, none⟩ = some (.int .u64 V.fl) := (hz).cell rfl
        have cc3 : w1.cell? ⟨w.heap.size, 3, none⟩ = some (.int .u64 V.ct) := (hz).cell rfl
        have cc4 : w1.cell? ⟨w.heap.size, 4, none⟩ = some (.int .u64 V.at9) := (hz).cell rfl
        have cc5 : w1.cell? ⟨w.heap.size, 5, none⟩ = some (.int .u64 V.ls) := (hz).cell rfl
        have cf0 : w1.frozen? ⟨w.heap.size, 0, none⟩ = false := (hz).free 0
        have cf1 : w1.frozen? ⟨w.heap.size, 1, none⟩ = false := (hz).free 1
        have cf2 : w1.frozen? ⟨w.heap.size, 2, none⟩ = false := (hz).free 2
        have cf3 : w1.frozen? ⟨w.heap.size, 3, none⟩ = false := (hz).free 3
        have cf4 : w1.frozen? ⟨w.heap.size, 4, none⟩ = false := (hz).free 4
        have cf5 : w1.frozen? ⟨w.heap.size, 5, none⟩ = false := (hz).free 5
        clear hz U hb1
        go_wp2
        have HZS := zset RY1.out.z RY1.out.bel (Nat.le_refl _) (.int .i64 0) (.slice none 0 0) (.int .u64 0) (.int .u64 0) (.int .u64 0) (.int .u64 0)
        refine bodyPost_ret (replay_results (e := 9) HZS.1 _ rfl rfl rfl) rfl ?_
        exact HN.out _ HZS.2

end Go.Proofs.Ytgopcaemgcnapaa.Clep

/- What the document's own Unframe (package clepsydraref1) does when called: for any text of at most a million bytes, any place. -/
namespace Go.Proofs.Ytgopcaemgcnapaa.Clep
open Go.RowKit
set_option linter.unusedVariables false
set_option maxRecDepth 10000

theorem str_cut (zs : List Int) (a b : Nat) (h : b ≤ zs.length) : (strOfNums zs).extract a b = strOfNums ((zs.take b).drop a) := by
  apply ByteArray.ext
  simp [strOfNums, List.map_take, List.map_drop, List.drop_take]

theorem unframe_arg (s : ByteArray) (p : Int) (w : World) (hm : s.size ≤ 1000000) (hp : p < 0 ∨ (s.size : Int) < p) :
    Calls Try.prog 51 #[.string s, .int .i64 p] w fun e w' => e = .returned (.tuple #[.int .i64 0, .string ⟨#[]⟩, .int .i64 0, .int .i64 1]) ∧ w' = w := by
  go_enter Try.func51, Try.ntmps51
  rcases hp with hp | hp
  · go_wp2
    refine bodyPost_ret (by simp [results, Try.results51, go_sem]) rfl ⟨rfl, rfl⟩
  · have hp2 : ¬ p < 0 := by omega
    go_wp2
    refine bodyPost_ret (by simp [results, Try.results51, go_sem]) rfl ⟨rfl, rfl⟩
theorem unframe_short (s : ByteArray) (P : Nat) (w : World) (hm : s.size ≤ 1000000) (hp : P ≤ s.size) (h8 : s.size < P + 8) :
    Calls Try.prog 51 #[.string s, .int .i64 P] w fun e w' => e = .returned (.tuple #[.int .i64 0, .string ⟨#[]⟩, .int .i64 0, .int .i64 4]) ∧ w' = w := by
  go_enter Try.func51, Try.ntmps51
  go_wp2
  refine bodyPost_ret (by simp [results, Try.results51, go_sem]) rfl ⟨rfl, rfl⟩

theorem refopen_err (Y : List Int) (w : World) (n : Nat) (hn : Y.length = n + 4) (hm : n ≤ 1000000) (hr : ByteL Y) :
    Calls Try.prog 65 #[.string (strOfNums Y)] w fun e w' => Below w.heap.size w w' ∧ e = .returned (.tuple #[.string (if nn (Y.drop n) = crc (Y.take n) then strOfNums (Y.take n) else ⟨#[]⟩), .int .i64 (if nn (Y.drop n) = crc (Y.take n) then 0 else 5)]) := by
  refine (refopen_long (strOfNums Y) Y w n rfl hn hm hr).mono ?_
  rintro e w1 ⟨hb, ⟨hg, he⟩ | ⟨hg, he⟩⟩
  · exact ⟨hb, by rw [he, if_pos (show nn (Y.drop n) = crc (Y.take n) from hg), if_pos (show nn (Y.drop n) = crc (Y.take n) from hg)]⟩
  · exact ⟨hb, by rw [he, if_neg (show ¬ nn (Y.drop n) = crc (Y.take n) from hg), if_neg (show ¬ nn (Y.drop n) = crc (Y.take n) from hg)]⟩

/-- What Unframe tells of the frame that X begins with. -/
def un (X : List Int) (P : Nat) : Value := if ce X = 0 then .tuple #[.int .i64 (kd X), .string (strOfNums (bo X)), .int .i64 (P + 12 + ln X), .int .i64 0] else .tuple #[.int .i64 0, .string ⟨#[]⟩, .int .i64 0, .int .i64 (ce X)]

set_option maxHeartbeats 400000 in
theorem unframe_long (zs : List Int) (P : Nat) (w : World) (hm : zs.length ≤ 1000000) (hr : ByteL zs) (h8 : P + 8 ≤ zs.length) (X : List Int) (hX : X = zs.drop P) :
    Calls Try.prog 51 #[.string (strOfNums zs), .int .i64 P] w fun e w' => e = .returned (un X P) ∧ Below w.heap.size w w' := by
  have hs : (strOfNums zs).size = zs.length := str_size zs
  have hXl : X.length = zs.length - P := by rw [hX, List.length_drop]
  have hXr : ByteL X := by rw [hX]; exact ByteL.drop hr P
  have hlr := ln_range X (range_of hXr)
  have hn8 : ¬ X.length < 8 := by omega
  have hce : ce X = if he X ≠ 0 then he X else if kd X < 1 ∨ 100 < kd X ∨ 60000 < ln X then 3 else if X.length < (ln X).toNat + 12 then 4 else be X := by unfold ce; rw [if_neg hn8]
  have HC := hide hce
  have e1 : (strOfNums zs).extract P (P + 8) = strOfNums (X.take 8) := by
    rw [str_cut zs P (P + 8) h8, List.drop_take, show P + 8 - P = 8 from by omega, hX]
  have C1 := hide (fun W => refopen_err (X.take 8) W 4 (by rw [List.length_take]; omega) (by omega) (ByteL.take hXr 8))
  rw [show (if nn ((X.take 8).drop 4) = crc ((X.take 8).take 4) then (0 : Int) else 5) = he X from rfl] at C1
  have hT := sz_of ((X.take 8).take 4) (range_of (ByteL.take (ByteL.take hXr 8) 4))
  have ht4 : (strOfNums ((X.take 8).take 4)).size = 4 := by rw [str_size, List.length_take, List.length_take]; omega
  have v0 : ((X.take 8).take 4).getD 0 0 = kd X := by unfold kd; simp [List.getD]
  have v1 : ((X.take 8).take 4).getD 1 0 = X.getD 1 0 := by simp [List.getD]
  have v2 : ((X.take 8).take 4).getD 2 0 = X.getD 2 0 := by simp [List.getD]
  have v3 : ((X.take 8).take 4).getD 3 0 = X.getD 3 0 := by simp [List.getD]
  have r1 := range_of hXr 1
  have r2 := range_of hXr 2
  have r3 := range_of hXr 3
  have r0 := range_of hXr 0
  have hbits := head_bits _ _ _ r1 r2 r3
  rw [show X.getD 1 0 * 65536 + X.getD 2 0 * 256 + X.getD 3 0 = ln X from rfl] at hbits
  by_cases h1 : he X = 0
  · have hq : (if nn ((X.take 8).drop 4) = crc ((X.take 8).take 4) then strOfNums ((X.take 8).take 4) else ⟨#[]⟩) = strOfNums ((X.take 8).take 4) := by
      rcases Classical.em (nn ((X.take 8).drop 4) = crc ((X.take 8).take 4)) with h | h
      · rw [if_pos h]
      · unfold he at h1; rw [if_neg h] at h1; cases h1
    rw [hq, h1] at C1
    have HC1 := hide (show ce X = if kd X < 1 ∨ 100 < kd X ∨ 60000 < ln X then 3 else if X.length < (ln X).toNat + 12 then 4 else be X by rw [HC.out, if_neg (by simp [h1])])
    have r0' : 0 ≤ kd X ∧ kd X < 256 := r0
    clear r0
    have cK := hide (fun W => frameok_any (kd X) (ln X) W)
    have C3 : (ln X).toNat + 12 ≤ zs.length - P → Hid (∀ W, Calls Try.prog 65 #[.string (strOfNums (bd X))] W fun e w' => Below W.heap.size W w' ∧ e = .returned (.tuple #[.string (if be X = 0 then strOfNums (bo X) else ⟨#[]⟩), .int .i64 (be X)])) := fun hl => hide fun W => by
      have := refopen_err (bd X) W (ln X).toNat (by unfold bd; rw [List.length_drop, List.length_take]; omega) (by omega) (by unfold bd; exact ByteL.drop (ByteL.take hXr _) _)
      have e5 : (if be X = 0 then strOfNums (bo X) else ⟨#[]⟩) = (if nn ((bd X).drop (ln X).toNat) = crc ((bd X).take (ln X).toNat) then strOfNums ((bd X).take (ln X).toNat) else ⟨#[]⟩) := by
        unfold be bo
        split
        · exact if_pos rfl
        · exact if_neg (by decide)
      rw [e5]
      exact this
    have E3 : (ln X).toNat + 12 ≤ zs.length - P → (strOfNums zs).extract (P + 8) (P + 12 + (ln X).toNat) = strOfNums (bd X) := fun hl => by
      rw [str_cut zs _ _ (by omega)]
      congr 1
      unfold bd
      rw [hX, ← List.drop_drop, List.drop_take, show P + 12 + (ln (zs.drop P)).toNat - P = (ln (zs.drop P)).toNat + 12 from by omega]
    clear HC hq hX h1 hr hce
    generalize strOfNums ((X.take 8).take 4) = H4 at *
    have g0 := hT.2 0 (by rw [ht4]; omega)
    have g1 := hT.2 1 (by rw [ht4]; omega)
    have g2 := hT.2 2 (by rw [ht4]; omega)
    have g3 := hT.2 3 (by rw [ht4]; omega)
    rw [v0] at g0
    rw [v1] at g1
    rw [v2] at g2
    rw [v3] at g3
    clear hT v0 v1 v2 v3
    generalize strOfNums (X.take 8) = S8 at *
    generalize strOfNums (bd X) = SD at *
    generalize hbo : strOfNums (bo X) = SO at *
    generalize strOfNums zs = S at *
    generalize X.getD 1 0 = z1 at *
    generalize X.getD 2 0 = z2 at *
    generalize X.getD 3 0 = z3 at *
    by_cases hk : kd X < 1 ∨ 100 < kd X ∨ 60000 < ln X
    · have H5 := hide (show ce X = 3 by rw [HC1.out, if_pos hk])
      have HU := hide (show un X P = .tuple #[.int .i64 0, .string ⟨#[]⟩, .int .i64 0, .int .i64 3] by unfold un; rw [if_neg (by rw [H5.out]; decide), H5.out])
      have hfk : fk (kd X) (ln X) = 1 ∨ fk (kd X) (ln X) = 2 := by
        unfold fk; split
        · exact .inl rfl
        · rename_i h; rw [if_pos (by omega)]; exact .inr rfl
      generalize fk (kd X) (ln X) = FK at *
      have hfk0 : ¬ FK = 0 := by omega
      generalize kd X = KD at *
      generalize ln X = LN at *
      clear C3 E3 HC1 hk hfk
      go_enter Try.func51, Try.ntmps51
      go_wp2_with fail
      refine (C1.out _).mono ?_
      rintro e w1 ⟨hb, rfl⟩
      have HB := hide hb
      clear hb C1
      go_wp2_with fail
      go_region
      go_wp2_with fail
      refine (cK.out _).mono ?_
      rintro e w2 ⟨rfl, hw2⟩
      have HB2 := hide (show Below w.heap.size w w2 by rw [hw2]; exact HB.out.drew)
      clear hw2
      go_wp2
      refine bodyPost_ret (by simp [results, Try.results51, go_sem]; rfl) rfl ⟨by rw [HU.out], HB2.out⟩
    · have HC2 := hide (show ce X = if X.length < (ln X).toNat + 12 then 4 else be X by rw [HC1.out, if_neg hk])
      have hk1 : ¬ kd X < 1 := by omega
      have hk2 : ¬ 100 < kd X := by omega
      have hk3 : ¬ 60000 < ln X := by omega
      rw [show fk (kd X) (ln X) = 0 from by unfold fk; rw [if_neg (by omega), if_neg hk3]] at cK
      clear HC1 hk
      by_cases hl : X.length < (ln X).toNat + 12
      · have H5 := hide (show ce X = 4 by rw [HC2.out, if_pos hl])
        have HU := hide (show un X P = .tuple #[.int .i64 0, .string ⟨#[]⟩, .int .i64 0, .int .i64 4] by unfold un; rw [if_neg (by rw [H5.out]; decide), H5.out])
        clear C3 E3 HC2
        have hlt : (zs.length : Int) - (P : Int) - 8 < ln X + 4 := by omega
        generalize kd X = KD at *
        generalize ln X = LN at *
        go_enter Try.func51, Try.ntmps51
        go_wp2_with fail
        refine (C1.out _).mono ?_
        rintro e w1 ⟨hb, rfl⟩
        have HB := hide hb
        clear hb C1
        go_wp2_with fail
        go_region
        go_wp2_with fail
        refine (cK.out _).mono ?_
        rintro e w2 ⟨rfl, hw2⟩
        have HB2 := hide (show Below w.heap.size w w2 by rw [hw2]; exact HB.out.drew)
        clear hw2 HB cK
        go_wp2
        refine bodyPost_ret (by simp [results, Try.results51, go_sem]; rfl) rfl ⟨by rw [HU.out], HB2.out⟩
      · have H5 := hide (show ce X = be X by rw [HC2.out, if_neg hl])
        have c3 := C3 (by omega)
        have e3 := E3 (by omega)
        have HU := hide (show un X P = if be X = 0 then .tuple #[.int .i64 (kd X), .string SO, .int .i64 (P + 12 + ln X), .int .i64 0] else .tuple #[.int .i64 0, .string ⟨#[]⟩, .int .i64 0, .int .i64 (be X)] by unfold un; rw [H5.out, hbo])
        clear C3 E3 HC2 H5 hbo
        generalize be X = E at *
        generalize kd X = KD at *
        generalize ln X = LN at *
        obtain ⟨N, rfl⟩ := Int.eq_ofNat_of_zero_le hlr.1
        simp only [Int.toNat_natCast] at e3 hl
        have hge : ¬ (zs.length : Int) - (P : Int) - 8 < (N : Int) + 4 := by omega
        have hPN : P + 12 + N ≤ zs.length := by omega
        by_cases hE : E = 0
        · rw [if_pos hE] at HU c3
          subst hE
          go_enter Try.func51, Try.ntmps51
          go_wp2_with fail
          refine (C1.out _).mono ?_
          rintro e w1 ⟨hb, rfl⟩
          have HB := hide hb
          clear hb C1
          go_wp2_with fail
          go_region
          go_wp2_with fail
          refine (cK.out _).mono ?_
          rintro e w2 ⟨rfl, hw2⟩
          have HB2 := hide (show Below w.heap.size w w2 by rw [hw2]; exact HB.out.drew)
          clear hw2 HB cK
          go_wp2_with fail
          refine (c3.out _).mono ?_
          rintro e w3 ⟨hb3, rfl⟩
          have HB3 := hide (HB2.out.trans (hb3.mono HB2.out.size))
          clear hb3 c3
          go_wp2
          refine bodyPost_ret (by simp [results, Try.results51, go_sem]; rfl) rfl ⟨by rw [HU.out], HB3.out⟩
        · rw [if_neg hE] at HU c3
          go_enter Try.func51, Try.ntmps51
          go_wp2_with fail
          refine (C1.out _).mono ?_
          rintro e w1 ⟨hb, rfl⟩
          have HB := hide hb
          clear hb C1
          go_wp2_with fail
          go_region
          go_wp2_with fail
          refine (cK.out _).mono ?_
          rintro e w2 ⟨rfl, hw2⟩
          have HB2 := hide (show Below w.heap.size w w2 by rw [hw2]; exact HB.out.drew)
          clear hw2 HB cK
          go_wp2_with fail
          refine (c3.out _).mono ?_
          rintro e w3 ⟨hb3, rfl⟩
          have HB3 := hide (HB2.out.trans (hb3.mono HB2.out.size))
          clear hb3 c3
          go_wp2
          refine bodyPost_ret (by simp [results, Try.results51, go_sem]; rfl) rfl ⟨by rw [HU.out], HB3.out⟩
  · have hu : un X P = .tuple #[.int .i64 0, .string ⟨#[]⟩, .int .i64 0, .int .i64 (he X)] := by
      have h5 : ce X = he X := by rw [HC.out, if_pos h1]
      unfold un; rw [if_neg (by rw [h5]; exact h1), h5]
    have HU := hide hu
    have hq : (if nn ((X.take 8).drop 4) = crc ((X.take 8).take 4) then strOfNums ((X.take 8).take 4) else ⟨#[]⟩) = ⟨#[]⟩ := by
      rw [if_neg (fun h => h1 (by unfold he; rw [if_pos h]))]
    rw [hq] at C1
    clear hu hq hbits v0 v1 v2 v3 hT ht4 HC hce
    generalize he X = E at *
    generalize strOfNums (X.take 8) = S8 at *
    generalize strOfNums zs = S at *
    go_enter Try.func51, Try.ntmps51
    go_wp2_with fail
    refine (C1.out _).mono ?_
    rintro e w1 ⟨hb, rfl⟩
    have HB := hide hb
    clear hb C1
    go_wp2
    refine bodyPost_ret (by simp [results, Try.results51, go_sem]; rfl) rfl ⟨by rw [HU.out], HB.out⟩

theorem unframe_any (zs : List Int) (P : Nat) (w : World) (hm : zs.length ≤ 1000000) (hr : ByteL zs) (hP : P ≤ zs.length) :
    Calls Try.prog 51 #[.string (strOfNums zs), .int .i64 P] w fun e w' => e = .returned (un (zs.drop P) P) ∧ Below w.heap.size w w' := by
  by_cases h8 : zs.length < P + 8
  · have hc : ce (zs.drop P) = 4 := by unfold ce; rw [if_pos (by rw [List.length_drop]; omega)]
    have hu : un (zs.drop P) P = .tuple #[.int .i64 0, .string ⟨#[]⟩, .int .i64 0, .int .i64 4] := by unfold un; rw [if_neg (by rw [hc]; decide), hc]
    rw [hu]
    refine (unframe_short (strOfNums zs) P w (by rw [str_size]; omega) (by rw [str_size]; omega) (by rw [str_size]; omega)).mono ?_
    rintro e w1 ⟨he, rfl⟩
    exact ⟨he, Below.refl _ _⟩
  · exact unframe_long zs P w hm hr (by omega) _ rfl

end Go.Proofs.Ytgopcaemgcnapaa.Clep

/- Numbers that are masked, and places within a row. No conditions but the kinds' own bounds. -/
namespace Go.Proofs.Ytgopcaemgcnapaa.Clep
open Go.RowKit
set_option linter.unusedVariables false
set_option maxRecDepth 10000

theorem and_mask (a : Int) (m : Nat) (hm : m < 9223372036854775808) : 0 ≤ bits .and .i64 a (m : Int) ∧ bits .and .i64 a (m : Int) ≤ m := by
  have e : bits .and .i64 a (m : Int) = IntKind.i64.wrap ((BitVec.ofInt 64 a &&& BitVec.ofInt 64 (m : Int)).toNat : Int) := rfl
  have hle : (BitVec.ofInt 64 a &&& BitVec.ofInt 64 (m : Int)).toNat ≤ m := by
    rw [BitVec.toNat_and]
    refine Nat.le_trans Nat.and_le_right ?_
    rw [BitVec.toNat_ofInt]
    omega
  rw [e]
  generalize (BitVec.ofInt 64 a &&& BitVec.ofInt 64 (m : Int)).toNat = k at *
  simp [IntKind.wrap, IntKind.bits, IntKind.signed]
  omega
/-- A place within a row: what is masked, and what is left of it. -/
theorem place_of (a : Int) (m : Nat) (hm : m < 9223372036854775808) (d : Int) (D : Nat) (hd : d = (D : Int)) (h0 : 0 < D) : ∃ P : Nat, (bits .and .i64 a (m : Int)).tmod d = (P : Int) ∧ P < D := by
  obtain ⟨h1, h2⟩ := and_mask a m hm
  obtain ⟨x, hx⟩ := Int.eq_ofNat_of_zero_le h1
  rw [hx, hd]
  exact ⟨x % D, by rw [Int.ofNat_tmod], Nat.mod_lt _ h0⟩

end Go.Proofs.Ytgopcaemgcnapaa.Clep

/- The statement EditCuts, walked: for any numbers, any cut. No conditions. Written by wip/tools/gen15cuts.py. -/
namespace Go.Proofs.Ytgopcaemgcnapaa.Clep
open Go.RowKit
set_option linter.unusedVariables false
set_option maxRecDepth 10000

def zvr : Vr := ⟨zV, none, 0⟩
theorem cw_start (w : World) : Cw w (((w.alloc (Obj.cells #[.int .i64 0, .slice none 0 0, .int .u64 0, .int .u64 0, .int .u64 0, .int .u64 0] 26)).alloc (Obj.cells #[.int .i64 0, .slice none 0 0, .int .u64 0, .int .u64 0, .int .u64 0, .int .u64 0] 26)).alloc (Obj.cells #[.int .i64 0] 3)) (.slice (some ⟨w.heap.size + 1, 0, none⟩) 1 1) (.slice (some ⟨w.heap.size + 1 + 1, 0, none⟩) 1 1) zvr [zvr] [0] := by
  have A0 := (Below.refl w.heap.size w).alloc (Nat.le_refl _) (Obj.cells #[.int .i64 0, .slice none 0 0, .int .u64 0, .int .u64 0, .int .u64 0, .int .u64 0] 26)
  have A1 := A0.alloc A0.size (Obj.cells #[.int .i64 0, .slice none 0 0, .int .u64 0, .int .u64 0, .int .u64 0, .int .u64 0] 26)
  have A2 := A1.alloc A1.size (Obj.cells #[.int .i64 0] 3)
  have B1 := (Below.refl _ (w.alloc (Obj.cells #[.int .i64 0, .slice none 0 0, .int .u64 0, .int .u64 0, .int .u64 0, .int .u64 0] 26))).alloc (Nat.le_refl _) (Obj.cells #[.int .i64 0, .slice none 0 0, .int .u64 0, .int .u64 0, .int .u64 0, .int .u64 0] 26)
  have B2 := (Below.refl _ ((w.alloc (Obj.cells #[.int .i64 0, .slice none 0 0, .int .u64 0, .int .u64 0, .int .u64 0, .int .u64 0] 26)).alloc (Obj.cells #[.int .i64 0, .slice none 0 0, .int .u64 0, .int .u64 0, .int .u64 0, .int .u64 0] 26))).alloc (Nat.le_refl _) (Obj.cells #[.int .i64 0] 3)
  have k0 := ((ek_new w #[.int .i64 0, .slice none 0 0, .int .u64 0, .int .u64 0, .int .u64 0, .int .u64 0] 26).below B1 (by simp)).below B2 (by simp; omega)
  have k1 := (fhpS (w.alloc (Obj.cells #[.int .i64 0, .slice none 0 0, .int .u64 0, .int .u64 0, .int .u64 0, .int .u64 0] 26)) (Obj.cells #[.int .i64 0, .slice none 0 0, .int .u64 0, .int .u64 0, .int .u64 0, .int .u64 0] 26) (w.heap.size + 1) (by simp))
  have k1' : Ek (((w.alloc (Obj.cells #[.int .i64 0, .slice none 0 0, .int .u64 0, .int .u64 0, .int .u64 0, .int .u64 0] 26)).alloc (Obj.cells #[.int .i64 0, .slice none 0 0, .int .u64 0, .int .u64 0, .int .u64 0, .int .u64 0] 26)).alloc (Obj.cells #[.int .i64 0] 3)) (w.heap.size + 1) #[.int .i64 0, .slice none 0 0, .int .u64 0, .int .u64 0, .int .u64 0, .int .u64 0] 26 := Ek.below (show Ek _ _ _ _ from k1) B2 (by simp)
  have k2 := (fhpS ((w.alloc (Obj.cells #[.int .i64 0, .slice none 0 0, .int .u64 0, .int .u64 0, .int .u64 0, .int .u64 0] 26)).alloc (Obj.cells #[.int .i64 0, .slice none 0 0, .int .u64 0, .int .u64 0, .int .u64 0, .int .u64 0] 26)) (Obj.cells #[.int .i64 0] 3) (w.heap.size + 1 + 1) (by simp))
  refine ⟨k0, own_one (show _ = _ from k1') (Nat.le_refl _) rfl, own_one k2 (by omega) rfl, .inr (by simp [Value.ownBlock]), fun y hy => ?_, fun y hy p e => ?_, A2, by simp⟩
  · have : y = zvr := by rcases hy with e | e; exact e; exact List.mem_singleton.1 e
    subst this
    exact ⟨fs_nil _, by decide⟩
  · have : y = zvr := by rcases hy with e | e; exact e; exact List.mem_singleton.1 e
    subst this
    cases e
theorem cp_start : Cp [] [zvr] zvr := ⟨rfl, fun k y hk => by
  cases k with
  | zero => simp at hk; rw [← hk]; rfl
  | succ k => simp at hk, rfl, by simp⟩
theorem ends_nil : ends [] = [0] := rfl

set_option maxHeartbeats 4000000 in
theorem cuts_walk (a0 : Option Addr) (n0 c0 : Nat) (zs : List Int) (t1 : Int) (w : World) (h0 : Zs w a0 n0 c0 zs) (hn0 : n0 ≤ 9223372036854775807) :
    Calls Try.prog 3 #[.slice a0 n0 c0, .int .i64 t1] w fun e w' => e = .returned (.bool true) ∧ Below w.heap.size w w' := by
  have HA := hide awake_any
  have HZ := hide (fun W (hW : Below w.heap.size w W) => h0.below hW (Nat.le_refl _))
  have HZL := hide h0.1
  clear h0
  have C0 := hide (cw_start w)
  go_enter Try.func3, Try.ntmps3
  go_wp2_with fail
  generalize ((w.alloc (Obj.cells #[.int .i64 0, .slice none 0 0, .int .u64 0, .int .u64 0, .int .u64 0, .int .u64 0] 26)).alloc (Obj.cells #[.int .i64 0, .slice none 0 0, .int .u64 0, .int .u64 0, .int .u64 0, .int .u64 0] 26)).alloc (Obj.cells #[.int .i64 0] 3) = wa at *
  go_loopw [6, 7, 8, 9] (fun v6 v7 s ti wr => ∃ (i : Nat) (S : ByteArray), ti = .int .i64 i ∧ i ≤ n0 ∧ i ≤ 12 ∧ s = .string S ∧ Hid (∃ l vs x, l.length = i ∧ Cw w wr v6 v7 x vs (ends l) ∧ Cp l vs x ∧ GI x.V i ∧ S = strOfNums (el l))) (fun _ _ _ ti _ => 12 - (intOf ti).toNat)
  case atStart => exact ⟨0, _, rfl, by omega, by omega, rfl, hide ⟨[], [zvr], zvr, rfl, C0.out, cp_start, gi_zero, rfl⟩⟩
  case round =>
    obtain ⟨i, S, rfl, hin, hi12, rfl, hst⟩ := hrel
    clear C0
    obtain ⟨l, vs, x, hll, hcw, hcp, hgi, hS⟩ := hst.out
    have CW := hide hcw
    have CP := hide hcp
    have GI0 := hide hgi
    have HLL := hide hll
    have HS := hide hS
    obtain ⟨wA, hwA⟩ : ∃ x, x = wr := ⟨_, rfl⟩
    subst hwA
    go_upto_region 6 with fail
    go_cut [31] from 24 to 100 (fun s31 wx => s31 = .bool (decide (i < n0 ∧ i < 12)) ∧ wA = wx)
    case first =>
      clear hst hcw hcp hgi hS hll CW CP GI0 HLL HS HA HZ HZL
      by_cases hlt : i < n0
      · have q1 : (i : Int) < (n0 : Int) := by omega
        by_cases hl2 : i < 12
        · have q2 : (i : Int) < 12 := by omega
          go_wp2_with fail
          go_meet
          case rel => exact ⟨by simp [hlt, hl2], rfl⟩
        · have q2 : ¬ (i : Int) < 12 := by omega
          go_wp2_with fail
          go_meet
          case rel => exact ⟨by simp [hl2], rfl⟩
      · have q1 : ¬ ((i : Int) < (n0 : Int)) := by omega
        go_wp2_with fail
        go_meet
        case rel => exact ⟨by simp [hlt], rfl⟩
    case rest =>
      obtain ⟨rfl, hwc⟩ := hcut
      obtain ⟨wr, hwr⟩ : ∃ x, x = wA := ⟨_, rfl⟩
      subst hwr
      subst hwc
      obtain ⟨q, hq⟩ : ∃ q, decide (i < n0 ∧ i < 12) = q := ⟨_, rfl⟩
      rw [hq]
      cases q with
      | true =>
        obtain ⟨hlt, hl2⟩ := of_decide_eq_true hq
        have q1 : (i : Int) < (n0 : Int) := by omega
        have q2 : (i : Int) < 12 := by omega
        obtain ⟨z, b, off, hz, hab, hzc, hz1, hz2⟩ := zs_at (HZ.out wr hcw.bel) i hlt
        have m1 := and_mask z 255 (by decide)
        have m2 := and_mask z 3 (by decide)
        have hxb := hcw.z.lt
        have hbl : b < wr.heap.size := World.block_lt_of_cell? wr _ hzc
        subst hab
        replace m1 : 0 ≤ bits BinOp.and IntKind.i64 z 255 ∧ bits BinOp.and IntKind.i64 z 255 ≤ 255 := m1
        replace m2 : 0 ≤ bits BinOp.and IntKind.i64 z 3 ∧ bits BinOp.and IntKind.i64 z 3 ≤ 3 := m2
        have hw1 : IntKind.i64.wrap ((i : Int) + 1) = (i : Int) + 1 := by simp [IntKind.wrap, IntKind.bits, IntKind.signed]; omega
        have hw2 : IntKind.i64.wrap ((i : Int) + 10) = (i : Int) + 10 := by simp [IntKind.wrap, IntKind.bits, IntKind.signed]; omega
        have hw3 : IntKind.u64.wrap (bits BinOp.and IntKind.i64 z 255) = bits BinOp.and IntKind.i64 z 255 := by simp [IntKind.wrap, IntKind.bits, IntKind.signed]; omega
        clear hst hcw hcp hgi hS hll hz
        obtain ⟨w0, hw0⟩ : ∃ x, x = wr := ⟨_, rfl⟩
        subst hw0
        go_upto_region 8 with fail
        go_cut [10] from 24 to 100 (fun s10 wx => Hid (Ce0 w0 wx i (bits BinOp.and IntKind.i64 z 3) (bits BinOp.and IntKind.i64 z 255) s10))
        case first =>
          clear CW CP GI0 HLL HS HA HZ HZL
          go_region
          all_goals (go_wp2_with fail; go_meet)
          case rel =>
            have A1 := (Below.refl _ w0).alloc (Nat.le_refl _) (Obj.cells #[.int .i64 (bits BinOp.and IntKind.i64 z 3), .int .i64 ((i : Int) + 10)] 29)
            have A2 := A1.alloc A1.size (Obj.cells #[.slice none 0 0, .slice (some ⟨w0.heap.size, 0, none⟩) 1 1, .int .i64 ((i : Int) + 1), .int .u64 (bits BinOp.and IntKind.i64 z 255), .int .u64 0, .int .u64 0, .int .u64 0] 31)
            have hk := ek_new (w0.alloc (Obj.cells #[.int .i64 (bits BinOp.and IntKind.i64 z 3), .int .i64 ((i : Int) + 10)] 29)) #[.slice none 0 0, .slice (some ⟨w0.heap.size, 0, none⟩) 1 1, .int .i64 ((i : Int) + 1), .int .u64 (bits BinOp.and IntKind.i64 z 255), .int .u64 0, .int .u64 0, .int .u64 0] 31
            have hff := (fs_block (w := w0.alloc (Obj.cells #[.int .i64 (bits BinOp.and IntKind.i64 z 3), .int .i64 ((i : Int) + 10)] 29)) (p := w0.heap.size) (L := bits BinOp.and IntKind.i64 z 3) (N := (i : Int) + 10) (by unfold Fi.wf; simp only; omega) (fhpS _ _ _ rfl)).below ((Below.refl _ (w0.alloc (Obj.cells #[.int .i64 (bits BinOp.and IntKind.i64 z 3), .int .i64 ((i : Int) + 10)] 29))).alloc (Nat.le_refl _) (Obj.cells #[.slice none 0 0, .slice (some ⟨w0.heap.size, 0, none⟩) 1 1, .int .i64 ((i : Int) + 1), .int .u64 (bits BinOp.and IntKind.i64 z 255), .int .u64 0, .int .u64 0, .int .u64 0] 31)) (Nat.le_refl _)
            rw [show (w0.alloc (Obj.cells #[.int .i64 (bits BinOp.and IntKind.i64 z 3), .int .i64 ((i : Int) + 10)] 29)).heap.size = w0.heap.size + 1 from by simp] at hk
            exact hide ⟨w0.heap.size + 1, w0.heap.size, rfl, by omega, hk.drew, hff.below (Below.refl _ _).drew (Nat.le_refl _), A2.drew, by omega⟩
          case rel =>
            have A1 := (Below.refl _ w0).alloc (Nat.le_refl _) (Obj.cells #[.slice none 0 0, .slice (some ⟨w0.heap.size + 1, 0, none⟩) 1 1, .int .i64 ((i : Int) + 1), .int .u64 (bits BinOp.and IntKind.i64 z 255), .int .u64 0, .int .u64 0, .int .u64 0] 31)
            have A2 := A1.alloc A1.size (Obj.cells #[.int .i64 (bits BinOp.and IntKind.i64 z 3), .int .i64 ((i : Int) + 10)] 29)
            have hk1 := ek_new w0 #[.slice none 0 0, .slice (some ⟨w0.heap.size + 1, 0, none⟩) 1 1, .int .i64 ((i : Int) + 1), .int .u64 (bits BinOp.and IntKind.i64 z 255), .int .u64 0, .int .u64 0, .int .u64 0] 31
            have hk := hk1.below ((Below.refl _ (w0.alloc (Obj.cells #[.slice none 0 0, .slice (some ⟨w0.heap.size + 1, 0, none⟩) 1 1, .int .i64 ((i : Int) + 1), .int .u64 (bits BinOp.and IntKind.i64 z 255), .int .u64 0, .int .u64 0, .int .u64 0] 31))).alloc (Nat.le_refl _) (Obj.cells #[.int .i64 (bits BinOp.and IntKind.i64 z 3), .int .i64 ((i : Int) + 10)] 29)) hk1.lt
            have hff := fs_block (w := (w0.alloc (Obj.cells #[.slice none 0 0, .slice (some ⟨w0.heap.size + 1, 0, none⟩) 1 1, .int .i64 ((i : Int) + 1), .int .u64 (bits BinOp.and IntKind.i64 z 255), .int .u64 0, .int .u64 0, .int .u64 0] 31)).alloc (Obj.cells #[.int .i64 (bits BinOp.and IntKind.i64 z 3), .int .i64 ((i : Int) + 10)] 29)) (p := w0.heap.size + 1) (L := bits BinOp.and IntKind.i64 z 3) (N := (i : Int) + 10) (by unfold Fi.wf; simp only; omega) (fhpS _ _ _ (by simp))
            exact hide ⟨w0.heap.size, w0.heap.size + 1, rfl, by omega, hk.drew, hff.below (Below.refl _ _).drew (Nat.le_refl _), A2.drew, by omega⟩
        case rest =>
          obtain ⟨D, p, rfl, hD, hek, hfs, hb1, hDp⟩ := hcut.out
          obtain ⟨w1, hw1⟩ : ∃ x, x = wc := ⟨_, rfl⟩
          subst hw1
          have CW1 := hide (CW.out.keep hb1)
          have HEK := hide hek
          have HFS := hide hfs
          have HB1 := hide hb1
          have hbx := hb1.size
          have hzc1 : w1.cell? ⟨b, off + i, none⟩ = some (.int .i64 z) := (hb1.cell (p := ⟨b, off + i, none⟩) hbl).trans hzc
          generalize bits BinOp.and IntKind.i64 z 3 = Lz at *
          generalize bits BinOp.and IntKind.i64 z 255 = fz at *
          clear hcut hek hfs hb1 hzc
          go_upto_region 9 with fail
          go_cut [62] from 24 to 100 (fun s62 wx => ∃ q : Bool, s62 = .bool q ∧ (q = true → 2 < i) ∧ w1 = wx)
          case first =>
            clear CW CW1 CP GI0 HLL HS HA HZ HZL HEK HFS HB1
            by_cases h3 : 2 < i
            · have q3 : (2 : Int) < (i : Int) := by omega
              obtain ⟨q, hq⟩ : ∃ q, (bits BinOp.and IntKind.i64 (z / 256) 1 == 1) = q := ⟨_, rfl⟩
              cases q
              all_goals
                go_wp2_with fail
                go_meet
                case rel => exact ⟨_, rfl, fun _ => h3, rfl⟩
            · have q3 : ¬ (2 : Int) < (i : Int) := by omega
              go_wp2_with fail
              go_meet
              case rel => exact ⟨false, rfl, fun e => (by cases e), rfl⟩
          case rest =>
            obtain ⟨q, rfl, hq3, rfl⟩ := hcut
            go_upto_if 62 with fail
            go_cut [10] from 24 to 100 (fun s10 wx => s10 = .pointer (some ⟨D, 0, none⟩) ∧ Hid (Ce w0 wx x.V i Lz fz D p))
            case first =>
              cases q with
              | false =>
                go_wp2_with fail
                go_meet
                case rel => exact ⟨rfl, hide ⟨none, 0, [], x.V.f, HEK.out, zs_nil _, HFS.out, HB1.out, rfl, .inl ⟨rfl, rfl⟩, by simp⟩⟩
              | true =>
                obtain ⟨y, m, hy, hdr, hn1, hn2, hyw⟩ := gi_first GI0.out (by have := hq3 rfl; omega) hl2
                have h3i := hq3 rfl
                have hx1 : w1.cell? ⟨w.heap.size, 1, none⟩ = some (.slice x.a x.V.f.length x.c) := CW1.out.z.cell rfl
                have hfx := (CW1.out.fs x (.inl rfl)).1
                have hfl0 : 0 < x.V.f.length := by rw [hy]; simp
                obtain ⟨f0, g, fo, hf0, hax, hc0, hc1, _⟩ := fs_at hfx 0 hfl0
                have hfy : f0 = y := by rw [hy] at hf0; simpa using hf0.symm
                subst hfy
                rw [hax] at hx1
                rw [Nat.zero_mul, Nat.add_zero] at hc1
                obtain ⟨NF, hNF⟩ : ∃ n, x.V.f.length = n := ⟨_, rfl⟩
                rw [hNF] at hx1 hfl0
                have hfi : (0 : Int) < (NF : Int) := by omega
                have hlD : D < w1.heap.size := HEK.out.lt
                have A3 := (Below.refl _ w1).alloc (Nat.le_refl _) (Obj.cells #[.int .i64 f0.N] 3)
                have k3 := HEK.out.below A3 hlD
                have d0 : (w1.alloc (Obj.cells #[.int .i64 f0.N] 3)).cell? ⟨D, 0, none⟩ = some (.slice none 0 0) := k3.cell rfl
                have g0 := k3.free 0
                have hxs : w.heap.size < w1.heap.size := CW1.out.z.lt
                have HY := hide (show x.V.f = f0 :: m ∧ dropN x.V.f [f0.N] = some m ∧ 1 ≤ f0.N ∧ f0.N ≤ 1000 from ⟨hy, hdr, hn1, hn2⟩)
                have K3 := hide k3
                have HA3 := hide A3
                clear hfx hy hdr hf0 hax hNF A3 k3
                go_wp2_with fail
                go_meet
                case rel =>
                  have hg := fgb_set w1 ⟨D, 0, none⟩ (.slice (some ⟨w1.heap.size, 0, none⟩) 1 1)
                  have hsz : (w1.setCell ⟨D, 0, none⟩ (.slice (some ⟨w1.heap.size, 0, none⟩) 1 1)).heap.size = w1.heap.size := by simp [World.setCell]
                  have A4 := (Below.refl _ (w1.setCell ⟨D, 0, none⟩ (.slice (some ⟨w1.heap.size, 0, none⟩) 1 1))).alloc (Nat.le_refl _) (Obj.cells #[.int .i64 f0.N] 3)
                  have hz := zs_block (w := (w1.setCell ⟨D, 0, none⟩ (.slice (some ⟨w1.heap.size, 0, none⟩) 1 1)).alloc (Obj.cells #[.int .i64 f0.N] 3)) (p := w1.heap.size) (N := f0.N) (by omega) (fhpS _ _ _ hsz.symm)
                  have hb2 := HB1.out.grown hg HB1.out.size (fun k hk => by have : D = k := Option.some.inj hk; omega)
                  have hk := HEK.out.set 0 (.slice (some ⟨w1.heap.size, 0, none⟩) 1 1)
                  exact ⟨rfl, hide ⟨some ⟨w1.heap.size, 0, none⟩, 1, [f0.N], m, hk.below A4 hk.lt, hz, (HFS.out.gb hg (fun a ha e => by cases ha; have : p = D := Option.some.inj e; omega)).below A4 (Nat.le_refl _), hb2.trans (A4.mono hb2.size), HY.out.2.1, .inr ⟨by omega, f0, HY.out.1, rfl⟩, by simp; omega⟩⟩
            case rest =>
              obtain ⟨rfl, hce⟩ := hcut
              clear HEK HFS HB1 CW1 hDp hzc1 hbx
              obtain ⟨w2, hw2⟩ : ∃ x, x = wc := ⟨_, rfl⟩
              subst hw2
              obtain ⟨da, dc, dl, m, hek, hzs, hfs, hb2, hdr, hsub, hdl⟩ := hce.out
              obtain ⟨U, hap, hgu⟩ := gi_step GI0.out dl Lz fz m m2 m1 hl2 hdr hsub
              have heg := cE_good dl Lz fz i m2 m1 hl2 hdl
              have hxl := GI0.out.len
              have CW2 := hide (CW.out.keep hb2)
              have hxf := CW2.out.fs x (.inl rfl)
              have CA := hide (apply_any x.a da (some ⟨p, 0, none⟩) x.V.f.length x.c dl.length dc 1 1 x.V (cE dl Lz fz i) w2 hxf.1 hzs hfs (by omega) (by omega) (by omega) GI0.out.on)
              rw [hap] at CA
              have HEK := hide hek
              have HZS := hide hzs
              have HFS := hide hfs
              have HB2 := hide hb2
              have HAP := hide hap
              have HGU := hide hgu
              have HEG := hide heg
              have hdn := hdl.1
              obtain ⟨dn, hdn9⟩ : ∃ n, dl.length = n := ⟨_, rfl⟩
              have HDN := hide hdn9
              rw [hdn9] at CA hdn
              have hz2 := CW2.out.z
              have cx0 : w2.cell? ⟨w.heap.size, 0, none⟩ = some (.int .i64 x.V.lg) := (hz2).cell rfl
              have cx1 : w2.cell? ⟨w.heap.size, 1, none⟩ = some (.slice x.a x.V.f.length x.c) := (hz2).cell rfl
              have cx2 : w2.cell? ⟨w.heap.size, 2, none⟩ = some (.int .u64 x.V.fl) := (hz2).cell rfl
              have cx3 : w2.cell? ⟨w.heap.size, 3, none⟩ = some (.int .u64 x.V.ct) := (hz2).cell rfl
              have cx4 : w2.cell? ⟨w.heap.size, 4, none⟩ = some (.int .u64 x.V.at9) := (hz2).cell rfl
              have cx5 : w2.cell? ⟨w.heap.size, 5, none⟩ = some (.int .u64 x.V.ls) := (hz2).cell rfl
              rw [hdn9] at hek
              have cd0 : w2.cell? ⟨D, 0, none⟩ = some (.slice da dn dc) := (hek).cell rfl
              have cd1 : w2.cell? ⟨D, 1, none⟩ = some (.slice (some ⟨p, 0, none⟩) 1 1) := (hek).cell rfl
              have cd2 : w2.cell? ⟨D, 2, none⟩ = some (.int .i64 ((i : Int) + 1)) := (hek).cell rfl
              have cd3 : w2.cell? ⟨D, 3, none⟩ = some (.int .u64 fz) := (hek).cell rfl
              have cd4 : w2.cell? ⟨D, 4, none⟩ = some (.int .u64 0) := (hek).cell rfl
              have cd5 : w2.cell? ⟨D, 5, none⟩ = some (.int .u64 0) := (hek).cell rfl
              have cd6 : w2.cell? ⟨D, 6, none⟩ = some (.int .u64 0) := (hek).cell rfl
              have hlx := hz2.lt
              have hlD := hek.lt
              unfold vwV edV cE at CA
              simp only at CA
              clear hce hek hzs hfs hb2 hdr hsub hdl hap hgu heg hxf hz2 hxl hdn9
              go_wp2_with fail
              refine CA.out.mono ?_
              rintro e w3 hr3
              obtain ⟨a3, c3, rfl, hc3, ho3, hf3, hb3⟩ := apr_some hr3
              have A4 := (Below.refl _ w3).alloc (Nat.le_refl _) (Obj.cells #[.int .i64 U.lg, .slice a3 U.f.length c3, .int .u64 U.fl, .int .u64 U.ct, .int .u64 U.at9, .int .u64 U.ls] 26)
              have hB4 := hb3.trans (A4.mono hb3.size)
              have k4 := ek_new w3 #[.int .i64 U.lg, .slice a3 U.f.length c3, .int .u64 U.fl, .int .u64 U.ct, .int .u64 U.at9, .int .u64 U.ls] 26
              have hek := HEK.out.below hB4 HEK.out.lt
              rw [HDN.out] at hek
              have cg0 : (w3.alloc (Obj.cells #[.int .i64 U.lg, .slice a3 U.f.length c3, .int .u64 U.fl, .int .u64 U.ct, .int .u64 U.at9, .int .u64 U.ls] 26)).cell? ⟨D, 0, none⟩ = some (.slice da dn dc) := (hek).cell rfl
              have cg1 : (w3.alloc (Obj.cells #[.int .i64 U.lg, .slice a3 U.f.length c3, .int .u64 U.fl, .int .u64 U.ct, .int .u64 U.at9, .int .u64 U.ls] 26)).cell? ⟨D, 1, none⟩ = some (.slice (some ⟨p, 0, none⟩) 1 1) := (hek).cell rfl
              have cg2 : (w3.alloc (Obj.cells #[.int .i64 U.lg, .slice a3 U.f.length c3, .int .u64 U.fl, .int .u64 U.ct, .int .u64 U.at9, .int .u64 U.ls] 26)).cell? ⟨D, 2, none⟩ = some (.int .i64 ((i : Int) + 1)) := (hek).cell rfl
              have cg3 : (w3.alloc (Obj.cells #[.int .i64 U.lg, .slice a3 U.f.length c3, .int .u64 U.fl, .int .u64 U.ct, .int .u64 U.at9, .int .u64 U.ls] 26)).cell? ⟨D, 3, none⟩ = some (.int .u64 fz) := (hek).cell rfl
              have cg4 : (w3.alloc (Obj.cells #[.int .i64 U.lg, .slice a3 U.f.length c3, .int .u64 U.fl, .int .u64 U.ct, .int .u64 U.at9, .int .u64 U.ls] 26)).cell? ⟨D, 4, none⟩ = some (.int .u64 0) := (hek).cell rfl
              have cg5 : (w3.alloc (Obj.cells #[.int .i64 U.lg, .slice a3 U.f.length c3, .int .u64 U.fl, .int .u64 U.ct, .int .u64 U.at9, .int .u64 U.ls] 26)).cell? ⟨D, 5, none⟩ = some (.int .u64 0) := (hek).cell rfl
              have cg6 : (w3.alloc (Obj.cells #[.int .i64 U.lg, .slice a3 U.f.length c3, .int .u64 U.fl, .int .u64 U.ct, .int .u64 U.at9, .int .u64 U.ls] 26)).cell? ⟨D, 6, none⟩ = some (.int .u64 0) := (hek).cell rfl
              have CP1 := hide (eput_any none 0 0 [] da dn dc (some ⟨p, 0, none⟩) 1 1 (cE dl Lz fz i) (w3.alloc (Obj.cells #[.int .i64 U.lg, .slice a3 U.f.length c3, .int .u64 U.fl, .int .u64 U.ct, .int .u64 U.at9, .int .u64 U.ls] 26)) (bs_nil _) (by omega) (by rw [← HDN.out]; exact HZS.out.below hB4 (Nat.le_refl _)) (HFS.out.below hB4 (Nat.le_refl _)) (by omega) (by omega) HEG.out.2)
              have hlE := ebd_len HEG.out.1
              have HFR := hide (fr_range 6 (ebd (cE dl Lz fz i)) (by omega) (by omega) (by omega) (ebd_range HEG.out.1 HEG.out.2))
              obtain ⟨FL, hFL⟩ : ∃ n, (fr 6 (ebd (cE dl Lz fz i))).length = n := ⟨_, rfl⟩
              have hF13 : FL ≤ 1312 := by rw [← hFL, fr_len]; omega
              have K4 := hide k4
              have HB4 := hide hB4
              have HO3 := hide ho3
              have HF3 := hide (hf3.below A4 (Nat.le_refl _))
              have hB3s : w2.heap.size ≤ w3.heap.size := hb3.size
              have hlD4 : D < (w3.alloc (Obj.cells #[.int .i64 U.lg, .slice a3 U.f.length c3, .int .u64 U.fl, .int .u64 U.ct, .int .u64 U.at9, .int .u64 U.ls] 26)).heap.size := hek.lt
              unfold vwV
              unfold edV cE at CP1
              simp only at CP1
              clear CA hb3 hf3 ho3 A4 hB4 k4 hek cx0 cx1 cx2 cx3 cx4 cx5 cd0 cd1 cd2 cd3 cd4 cd5 cd6 hr3
              go_wp2_with fail
              generalize hw4 : w3.alloc (Obj.cells #[.int .i64 U.lg, .slice a3 U.f.length c3, .int .u64 U.fl, .int .u64 U.ct, .int .u64 U.at9, .int .u64 U.ls] 26) = w4 at *
              have hs34 : w3.heap.size < w4.heap.size := by rw [← hw4]; simp
              clear hw4
              refine CP1.out.mono ?_
              rintro e w5 ⟨hr5, hb5⟩
              rw [show emay ⟨dl, [⟨Lz, (i : Int) + 10⟩], (i : Int) + 1, fz, 0, 0, 0⟩ = 0 from HEG.out.1, if_pos rfl] at hr5
              obtain ⟨v5, rfl, ho5⟩ := hr5
              have ho5 : Own w5 w4.heap.size v5 (fr 6 (ebd (cE dl Lz fz i))) := ho5
              have CW5 := hide ((CW2.out.keep HB4.out).keep hb5)
              have hz5 := CW5.out.z
              have k5 := K4.out.below hb5 hs34
              have hlz5 := hz5.lt
              have hlk5 := k5.lt
              have hw0s : w0.heap.size ≤ w2.heap.size := HB2.out.size
              have cx0 : w5.cell? ⟨w.heap.size, 0, none⟩ = some (.int .i64 x.V.lg) := (hz5).cell rfl
              have cx1 : w5.cell? ⟨w.heap.size, 1, none⟩ = some (.slice x.a x.V.f.length x.c) := (hz5).cell rfl
              have cx2 : w5.cell? ⟨w.heap.size, 2, none⟩ = some (.int .u64 x.V.fl) := (hz5).cell rfl
              have cx3 : w5.cell? ⟨w.heap.size, 3, none⟩ = some (.int .u64 x.V.ct) := (hz5).cell rfl
              have cx4 : w5.cell? ⟨w.heap.size, 4, none⟩ = some (.int .u64 x.V.at9) := (hz5).cell rfl
              have cx5 : w5.cell? ⟨w.heap.size, 5, none⟩ = some (.int .u64 x.V.ls) := (hz5).cell rfl
              have cf0 : w5.frozen? ⟨w.heap.size, 0, none⟩ = false := (hz5).free 0
              have cf1 : w5.frozen? ⟨w.heap.size, 1, none⟩ = false := (hz5).free 1
              have cf2 : w5.frozen? ⟨w.heap.size, 2, none⟩ = false := (hz5).free 2
              have cf3 : w5.frozen? ⟨w.heap.size, 3, none⟩ = false := (hz5).free 3
              have cf4 : w5.frozen? ⟨w.heap.size, 4, none⟩ = false := (hz5).free 4
              have cf5 : w5.frozen? ⟨w.heap.size, 5, none⟩ = false := (hz5).free 5
              have ck0 : w5.cell? ⟨w3.heap.size, 0, none⟩ = some (.int .i64 U.lg) := (k5).cell rfl
              have ck1 : w5.cell? ⟨w3.heap.size, 1, none⟩ = some (.slice a3 U.f.length c3) := (k5).cell rfl
              have ck2 : w5.cell? ⟨w3.heap.size, 2, none⟩ = some (.int .u64 U.fl) := (k5).cell rfl
              have ck3 : w5.cell? ⟨w3.heap.size, 3, none⟩ = some (.int .u64 U.ct) := (k5).cell rfl
              have ck4 : w5.cell? ⟨w3.heap.size, 4, none⟩ = some (.int .u64 U.at9) := (k5).cell rfl
              have ck5 : w5.cell? ⟨w3.heap.size, 5, none⟩ = some (.int .u64 U.ls) := (k5).cell rfl
              have hfar : ∀ q, a3 = some q → w2.heap.size ≤ q.block ∧ q.block < w3.heap.size := fun q hq => by
                have := World.ownsRow.lt HO3.out q.block (by rw [hq]; rfl)
                exact this
              have hs45 : w4.heap.size ≤ w5.heap.size := hb5.size
              have hxw : w.heap.size + 1 ≤ w2.heap.size := CW2.out.sz
              have CW6 := hide (CW5.out.cur (x' := ⟨U, a3, c3⟩) ⟨HF3.out.below hb5 (Nat.le_refl _), hc3⟩ (fun q hq => by
                have h1 := hfar q hq
                have h2 := CW.out.new (p := q.block) (by omega)
                exact ⟨by omega, by omega, h2.1, h2.2⟩))
              unfold set6 at CW6
              simp only at CW6
              have ho6 : Own ((((((w5.setCell ⟨w.heap.size, 0, none⟩ (.int .i64 U.lg)).setCell ⟨w.heap.size, 1, none⟩ (.slice a3 U.f.length c3)).setCell ⟨w.heap.size, 2, none⟩ (.int .u64 U.fl)).setCell ⟨w.heap.size, 3, none⟩ (.int .u64 U.ct)).setCell ⟨w.heap.size, 4, none⟩ (.int .u64 U.at9)).setCell ⟨w.heap.size, 5, none⟩ (.int .u64 U.ls)) w4.heap.size v5 (fr 6 (ebd (cE dl Lz fz i))) := by
                have hg := gset6 w5 w.heap.size (.int .i64 U.lg) (.slice a3 U.f.length c3) (.int .u64 U.fl) (.int .u64 U.ct) (.int .u64 U.at9) (.int .u64 U.ls)
                refine World.ownsRow.kept ho5 hg ?_
                cases hv : v5.ownBlock with
                | none => exact .inl rfl
                | some k =>
                  right
                  intro e2
                  have h1 := (World.ownsRow.lt ho5 k hv).1
                  have h2 := Option.some.inj e2
                  omega
              obtain ⟨ax, cx, hvx, hcx⟩ := own_conv ho6 HFR.out FL hFL
              subst hvx
              have p0 := hcx.out _ (Below.refl _ _)
              have hell := el_len l CP.out.eg
              have hadd : ∀ W, (Op.stringOp .add S (strOfNums (fr 6 (ebd (cE dl Lz fz i))))).run Try.prog W = .ok (.string (strOfNums (el (l ++ [cE dl Lz fz i])))) W := fun W => by
                rw [el_snoc, HS.out, ← str_app]
                exact run_string_add_sum W _ _ (by rw [str_size, str_size, hFL]; have := HLL.out; omega)
              obtain ⟨S2, hS2⟩ : ∃ S2, strOfNums (el (l ++ [cE dl Lz fz i])) = S2 := ⟨_, rfl⟩
              have HS2 := hide hS2.symm
              have hs2z : S2.size = (el (l ++ [cE dl Lz fz i])).length := by rw [← hS2, str_size]
              rw [hS2] at hadd
              generalize strOfNums (fr 6 (ebd (cE dl Lz fz i))) = FS at *
              obtain ⟨SL, hSL⟩ : ∃ n, (el (l ++ [cE dl Lz fz i])).length = n := ⟨_, rfl⟩
              have HSL := hide hSL
              rw [hSL] at hs2z
              clear CP1 hb5 ho5 ho6 hz5 k5 hcx hfar hS2 HF3 HO3 K4 cg0 cg1 cg2 cg3 cg4 cg5 cg6 hell hSL
              have HADD := hide hadd
              have HP0 := hide p0
              have HS2Z := hide hs2z
              clear hadd p0 hs2z
              go_upto_region 16 with fail
              generalize ((((((w5.setCell ⟨w.heap.size, 0, none⟩ (.int .i64 U.lg)).setCell ⟨w.heap.size, 1, none⟩ (.slice a3 U.f.length c3)).setCell ⟨w.heap.size, 2, none⟩ (.int .u64 U.fl)).setCell ⟨w.heap.size, 3, none⟩ (.int .u64 U.ct)).setCell ⟨w.heap.size, 4, none⟩ (.int .u64 U.at9)).setCell ⟨w.heap.size, 5, none⟩ (.int .u64 U.ls)) = w6 at *
              have hz6 := CW6.out.z
              have hlz6 := hz6.lt
              have cy0 : w6.cell? ⟨w.heap.size, 0, none⟩ = some (.int .i64 U.lg) := (hz6).cell rfl
              have cy1 : w6.cell? ⟨w.heap.size, 1, none⟩ = some (.slice a3 U.f.length c3) := (hz6).cell rfl
              have cy2 : w6.cell? ⟨w.heap.size, 2, none⟩ = some (.int .u64 U.fl) := (hz6).cell rfl
              have cy3 : w6.cell? ⟨w.heap.size, 3, none⟩ = some (.int .u64 U.ct) := (hz6).cell rfl
              have cy4 : w6.cell? ⟨w.heap.size, 4, none⟩ = some (.int .u64 U.at9) := (hz6).cell rfl
              have cy5 : w6.cell? ⟨w.heap.size, 5, none⟩ = some (.int .u64 U.ls) := (hz6).cell rfl
              have hadd := HADD.out
              have p0 := HP0.out
              have hs2z := HS2Z.out
              clear hz6 cx0 cx1 cx2 cx3 cx4 cx5 cf0 cf1 cf2 cf3 cf4 cf5 ck0 ck1 ck2 ck3 ck4 ck5
              have A7 := (Below.refl _ w6).alloc (Nat.le_refl _) (Obj.cells #[.int .i64 U.lg, .slice a3 U.f.length c3, .int .u64 U.fl, .int .u64 U.ct, .int .u64 U.at9, .int .u64 U.ls] 26)
              have CW7 := hide (CW6.out.keep A7)
              have HEK7 := hide (ek_new w6 #[.int .i64 U.lg, .slice a3 U.f.length c3, .int .u64 U.fl, .int .u64 U.ct, .int .u64 U.at9, .int .u64 U.ls] 26)
              have HVL := hide (show vs.length ≤ 100000 from by have := CP.out.len; have := HLL.out; omega)
              have HEL := hide (show (ends l).length ≤ 100000 from by rw [ends_len]; have := HLL.out; omega)
              have HSZ7 := hide CW7.out.sz
              clear A7
              go_wp2_with (first
                | (at_builtin; refine wpList_append_v rfl (.tmp 92) (.tmp 94) rfl (w.heap.size + 1) u6 vs rfl CW7.out.o6 w6.heap.size ⟨U, a3, c3⟩ rfl HEK7.out HVL.out HSZ7.out ?_; intro v8 w8 o8 g8 k8 l8; have CW8 := hide (CW7.out.push6 o8 g8 l8); have A9 := (Below.refl _ w8).alloc (Nat.le_refl _) (Obj.cells #[.int .i64 (SL : Nat)] 3); have CW9 := hide (CW8.out.keep A9); have HEK9 := hide (ek_new w8 #[.int .i64 (SL : Nat)] 3); have HSZ9 := hide CW9.out.sz; clear o8 g8 k8 l8 A9)
                | (at_builtin; refine wpList_append_zz rfl (.tmp 96) (.tmp 99) rfl (w.heap.size + 1) u7 (ends l) rfl CW9.out.o7 w8.heap.size (SL : Nat) rfl HEK9.out HEL.out HSZ9.out ?_; intro v10 w10 o10 g10 k10 l10; have CW10 := hide (CW9.out.push7 o10 g10 l10); clear o10 g10 k10 l10)
                | fail)
              go_roundw
              case rel => exact ⟨i + 1, S2, by go_num, by omega, by omega, rfl, hide ⟨l ++ [cE dl Lz fz i], vs ++ [⟨U, a3, c3⟩], ⟨U, a3, c3⟩, by rw [List.length_append, HLL.out]; rfl, by rw [ends_snoc, HSL.out]; exact CW10.out, CP.out.snoc HAP.out HEG.out, HGU.out, HS2.out⟩⟩
              case measure => simp [intOf]; omega
      | false =>
        have hqf := of_decide_eq_false hq
        obtain ⟨ae, ce, hve, hce, hze, _⟩ := ownZ_zs hcw.o7 (ends_bound l (by have := HLL.out; omega) hcp.eg)
        rw [ends_len, hll] at hve hze
        subst hve
        obtain ⟨av, cv, hvv, hcv, hvc⟩ := ownV_form hcw.o6 (by have := hcp.len; omega)
        rw [hcp.len, hll] at hvv
        subst hvv
        have hell := el_len l hcp.eg
        obtain ⟨SL, hSL⟩ : ∃ n, (el l).length = n := ⟨_, rfl⟩
        have hs2z : S.size = SL := by rw [hS, str_size, hSL]
        obtain ⟨be, oe, hae, hec⟩ := hze.2.2.2 (by omega)
        subst hae
        have HEC := hide hec
        clear hec
        have HVC := hide hvc
        clear hvc
        obtain ⟨K, hK1, hK⟩ := place_of t1 65535 (by decide) ((SL : Int) + 1) (SL + 1) (by omega) (by omega)
        replace hK1 : (bits BinOp.and IntKind.i64 t1 65535).tmod ((SL : Int) + 1) = (K : Int) := hK1
        have hw1 : IntKind.i64.wrap ((SL : Int) + 1) = (SL : Int) + 1 := by simp [IntKind.wrap, IntKind.bits, IntKind.signed]; omega
        have HZE := hide (fun W (hW : Below wr.heap.size wr W) => hze.below hW (Nat.le_refl _))
        have hKS : K ≤ SL := by omega
        obtain ⟨w0, hw0⟩ : ∃ x, x = wr := ⟨_, rfl⟩
        subst hw0
        have HSL := hide hSL
        clear hst hcw hcp hgi hS hll hze hSL hell
        go_wp2_with fail
        go_loopw [16] (fun t wx => ∃ n : Nat, n ≤ i ∧ t = .int .i64 n ∧ Hid (een l n ≤ K) ∧ w0 = wx) (fun t _ => i - (intOf t).toNat)
        case atStart => exact ⟨0, by omega, rfl, hide (by rw [een_zero]; omega), rfl⟩
        case round =>
          obtain ⟨n, hn, rfl, hnK, hww⟩ := hrel
          subst hww
          go_upto_region 21 with fail
          go_cut [120] from 107 to 122 (fun s120 wx => s120 = .bool (decide (n < i ∧ een l (n + 1) ≤ K)) ∧ w0 = wx)
          case first =>
            by_cases hlt : n < i
            · have qa : (n : Int) < (i : Int) := by omega
              have hcell := HEC.out (n + 1) _ (ends_at l (n + 1) (by rw [HLL.out]; omega))
              have hwn : IntKind.i64.wrap ((n : Int) + 1) = (n : Int) + 1 := by simp [IntKind.wrap, IntKind.bits, IntKind.signed]; omega
              obtain ⟨Z, hZ⟩ : ∃ z, een l (n + 1) = z := ⟨_, rfl⟩
              rw [hZ] at hcell
              have hk1 : (((n + 1 : Nat)) : Int) = (n : Int) + 1 := by omega
              by_cases hle : Z ≤ K
              · have qc : (Z : Int) ≤ (K : Int) := by omega
                go_wp2_with fail
                go_meet
                case rel => exact ⟨by rw [hZ]; simp [hlt, hle], rfl⟩
              · have qc : ¬ (Z : Int) ≤ (K : Int) := by omega
                go_wp2_with fail
                go_meet
                case rel => exact ⟨by rw [hZ]; simp [hle], rfl⟩
            · have qa : ¬ (n : Int) < (i : Int) := by omega
              have hwn : IntKind.i64.wrap ((n : Int) + 1) = (n : Int) + 1 := by simp [IntKind.wrap, IntKind.bits, IntKind.signed]; omega
              go_wp2_with fail
              go_meet
              case rel => exact ⟨by simp [hlt], rfl⟩
          case rest =>
            obtain ⟨rfl, hwc⟩ := hcut
            subst hwc
            obtain ⟨q2, hq2⟩ : ∃ q, decide (n < i ∧ een l (n + 1) ≤ K) = q := ⟨_, rfl⟩
            rw [hq2]
            cases q2 with
            | true =>
              obtain ⟨hlt, hle⟩ := of_decide_eq_true hq2
              go_wp2
              go_roundw
              case rel => exact ⟨n + 1, by omega, by go_num, hide hle, by first | trivial | rfl⟩
              case measure => simp [intOf]; omega
            | false =>
              have hqg := of_decide_eq_false hq2
              obtain ⟨y, hy⟩ : ∃ y, vs[n]? = some y := ⟨_, List.getElem?_eq_getElem (by have := CP.out.len; have := HLL.out; omega)⟩
              have hV := CP.out.at' n y hy
              have hll := HLL.out
              have hrp := rpE_cut CP.out.eg n K hV (by omega) (by rw [HSL.out]; exact hKS) hnK.out (fun h => by
                rcases Nat.lt_or_ge K (een l (n + 1)) with h2 | h2
                · exact h2
                · exact absurd ⟨by omega, h2⟩ hqg)
              have HX := hide (ByteL.take (el_range l CP.out.eg) K)
              have he : S.extract 0 K = strOfNums ((el l).take K) := by
                rw [HS.out, str_cut (el l) 0 K (by rw [HSL.out]; exact hKS), List.drop_zero]
              have hXl : ((el l).take K).length = K := by rw [List.length_take, HSL.out]; omega
              generalize (el l).take K = X at *
              obtain ⟨cp, w5, hcv, hcpl, hb5, hrm⟩ := rm_str w0 X HX.out (by rw [hXl]; have := el_len l CP.out.eg; have := HSL.out; unfold maxLen; omega)
              have hbs := rm_bs hrm.out
              rw [hXl] at hcv hcpl hbs
              obtain ⟨SX, hSX⟩ : ∃ S, strOfNums X = S := ⟨_, rfl⟩
              rw [hSX] at hcv he
              have CR := hide (ereplay_any (some ⟨w0.heap.size, 0, none⟩) K cp X w5 (by have := el_len l CP.out.eg; have := HSL.out; omega) hbs)
              rw [hrp] at CR
              have HCV := hide hcv
              have hcv : ∀ W, W = w0 → (convert 9 35 (.string SX)).run Try.prog W = .ok (.slice (some ⟨w0.heap.size, 0, none⟩) K cp) w5 := fun W e => by rw [e]; exact HCV.out
              have hcv := hcv w0 rfl
              have hk0 : (0 : Int) ≤ (K : Int) := by omega
              have hks : (K : Int) ≤ (SL : Int) := by omega
              have HHE := hide hb5.out
              have CWF := hide (CW.out.keep hb5.out)
              have HYV := hide hy
              clear HX hXl hrm hbs hSX hb5 hrp hV hqg hqf hq hq2 hll HCV hnK hy HZ HZL HEC hK1 hw1 hK GI0 HS HSL hKS
              by_cases hn0 : n = 0
              · subst hn0
                rw [if_pos rfl] at CR
                go_wp2_with fail
                refine CR.out.mono ?_
                rintro e w6 hr6
                obtain ⟨rfl, hb6⟩ := hr6
                have hB6 := (CWF.out.keep hb6).bel
                have A7 := (Below.refl _ w6).alloc (Nat.le_refl _) (Obj.cells #[.int .i64 0, .slice none 0 0, .int .u64 0, .int .u64 0, .int .u64 0, .int .u64 0] 26)
                have k7 := ek_new w6 #[.int .i64 0, .slice none 0 0, .int .u64 0, .int .u64 0, .int .u64 0, .int .u64 0] 26
                have c0 : (w6.alloc (Obj.cells #[.int .i64 0, .slice none 0 0, .int .u64 0, .int .u64 0, .int .u64 0, .int .u64 0] 26)).cell? ⟨w6.heap.size, 0, none⟩ = some (.int .i64 0) := (k7).cell rfl
                have c1 : (w6.alloc (Obj.cells #[.int .i64 0, .slice none 0 0, .int .u64 0, .int .u64 0, .int .u64 0, .int .u64 0] 26)).cell? ⟨w6.heap.size, 1, none⟩ = some (.slice none 0 0) := (k7).cell rfl
                have c2 : (w6.alloc (Obj.cells #[.int .i64 0, .slice none 0 0, .int .u64 0, .int .u64 0, .int .u64 0, .int .u64 0] 26)).cell? ⟨w6.heap.size, 2, none⟩ = some (.int .u64 0) := (k7).cell rfl
                have c3 : (w6.alloc (Obj.cells #[.int .i64 0, .slice none 0 0, .int .u64 0, .int .u64 0, .int .u64 0, .int .u64 0] 26)).cell? ⟨w6.heap.size, 3, none⟩ = some (.int .u64 0) := (k7).cell rfl
                have c4 : (w6.alloc (Obj.cells #[.int .i64 0, .slice none 0 0, .int .u64 0, .int .u64 0, .int .u64 0, .int .u64 0] 26)).cell? ⟨w6.heap.size, 4, none⟩ = some (.int .u64 0) := (k7).cell rfl
                have c5 : (w6.alloc (Obj.cells #[.int .i64 0, .slice none 0 0, .int .u64 0, .int .u64 0, .int .u64 0, .int .u64 0] 26)).cell? ⟨w6.heap.size, 5, none⟩ = some (.int .u64 0) := (k7).cell rfl
                have HB7 := hide (hB6.trans (A7.mono hB6.size))
                have CS := hide ((sameview_any none none 0 0 0 0 zV zV (w6.alloc (Obj.cells #[.int .i64 0, .slice none 0 0, .int .u64 0, .int .u64 0, .int .u64 0, .int .u64 0] 26)) (fs_nil _) (fs_nil _) (by omega) (by omega)).mono (R' := fun e w' => e = .returned (.bool true) ∧ Below (w6.alloc (Obj.cells #[.int .i64 0, .slice none 0 0, .int .u64 0, .int .u64 0, .int .u64 0, .int .u64 0] 26)).heap.size (w6.alloc (Obj.cells #[.int .i64 0, .slice none 0 0, .int .u64 0, .int .u64 0, .int .u64 0, .int .u64 0] 26)) w') fun e w' ⟨o, h1, h2, h3⟩ => by rw [h2.2 rfl] at h1; exact ⟨h1, h3⟩)
                unfold vwV zV at CS ⊢
                simp only at CS ⊢
                clear k7 A7 hb6 hB6
                go_wp2_with (first
                  | (go_at_call 12; refine CS.out.mono ?_; rintro e w8 ⟨rfl, hb8⟩; have HB8 := hide (HB7.out.trans (hb8.mono HB7.out.size)))
                  | (go_at_call 13; refine (HA.out _).mono ?_; rintro e w9 ⟨rfl, hb9⟩))
                go_ret
                exact ⟨rfl, HB8.out.trans (hb9.mono HB8.out.size)⟩
              · rw [if_neg hn0] at CR
                have qn : ((n : Int) == 0) = false := by simp [hn0]
                go_wp2_with fail
                refine CR.out.mono ?_
                rintro e w6 hr6
                obtain ⟨⟨a6, c6, rfl, hf6, hc6⟩, hb6⟩ := hr6
                simp only at hf6
                have A7 := (Below.refl _ w6).alloc (Nat.le_refl _) (Obj.cells #[.int .i64 y.V.lg, .slice a6 y.V.f.length c6, .int .u64 y.V.fl, .int .u64 y.V.ct, .int .u64 y.V.at9, .int .u64 y.V.ls] 26)
                have hB6 := HHE.out.trans (hb6.mono HHE.out.size)
                have HB7 := hide (hB6.trans (A7.mono hB6.size))
                have HF7 := hide (hf6.below A7 (Nat.le_refl _))
                have CW7 := hide ((CWF.out.keep hb6).keep A7)
                have HK7 := hide (ek_new w6 #[.int .i64 y.V.lg, .slice a6 y.V.f.length c6, .int .u64 y.V.fl, .int .u64 y.V.ct, .int .u64 y.V.at9, .int .u64 y.V.ls] 26)
                unfold vwV
                simp only
                clear hf6 hb6 A7 hB6 CR CWF
                go_wp2_with fail
                generalize hw7 : w6.alloc (Obj.cells #[.int .i64 y.V.lg, .slice a6 y.V.f.length c6, .int .u64 y.V.fl, .int .u64 y.V.ct, .int .u64 y.V.at9, .int .u64 y.V.ls] 26) = w7 at *
                have hl67 : w6.heap.size < w7.heap.size := HK7.out.lt
                clear hw7
                have hk7 := HK7.out
                have p0 : ∀ p : Kp w7, p.W.cell? ⟨w6.heap.size, 0, none⟩ = some (.int .i64 y.V.lg) := fun p => (hk7.below p.h hk7.lt).cell rfl
                have p1 : ∀ p : Kp w7, p.W.cell? ⟨w6.heap.size, 1, none⟩ = some (.slice a6 y.V.f.length c6) := fun p => (hk7.below p.h hk7.lt).cell rfl
                have p2 : ∀ p : Kp w7, p.W.cell? ⟨w6.heap.size, 2, none⟩ = some (.int .u64 y.V.fl) := fun p => (hk7.below p.h hk7.lt).cell rfl
                have p3 : ∀ p : Kp w7, p.W.cell? ⟨w6.heap.size, 3, none⟩ = some (.int .u64 y.V.ct) := fun p => (hk7.below p.h hk7.lt).cell rfl
                have p4 : ∀ p : Kp w7, p.W.cell? ⟨w6.heap.size, 4, none⟩ = some (.int .u64 y.V.at9) := fun p => (hk7.below p.h hk7.lt).cell rfl
                have p5 : ∀ p : Kp w7, p.W.cell? ⟨w6.heap.size, 5, none⟩ = some (.int .u64 y.V.ls) := fun p => (hk7.below p.h hk7.lt).cell rfl
                obtain ⟨b9, o9, e9, hce9⟩ := (HZE.out w7 HB7.out).2.2.2 (by omega)
                injection e9 with e9
                injection e9 with e9 e8
                subst e9 e8
                have d1 := hce9 n _ (ends_at l n (by have := HLL.out; omega))
                obtain ⟨M9, hM9⟩ : ∃ m, een l n = m := ⟨_, rfl⟩
                rw [hM9] at d1 ⊢
                have p9 : ∀ p : Kp w7, p.W.cell? ⟨be, oe + n, none⟩ = some (.int .i64 (M9 : Nat)) := fun p => (p.h.cell (p := ⟨be, oe + n, none⟩) (World.block_lt_of_cell? w7 _ d1)).trans d1
                have hvw : ∀ (j : Nat) (u : Value), y.cs[j]? = some u → ∀ p : Kp w7, p.W.cell? ⟨av, n * 6 + j, none⟩ = some u := fun j u hu p => by
                  have h0 := HVC.out n y j u HYV.out hu
                  have h1 := (HB7.out.cell (p := ⟨av, n * 6 + j, none⟩) (World.block_lt_of_cell? w0 _ h0)).trans h0
                  exact (p.h.cell (p := ⟨av, n * 6 + j, none⟩) (World.block_lt_of_cell? w7 _ h1)).trans h1
                have v0 := hvw 0 _ rfl
                have v1 := hvw 1 _ rfl
                have v2 := hvw 2 _ rfl
                have v3 := hvw 3 _ rfl
                have v4 := hvw 4 _ rfl
                have v5 := hvw 5 _ rfl
                rw [Nat.add_zero] at v0
                have hni : n < i + 1 := by omega
                have hfy := CW7.out.fs y (.inr (List.mem_of_getElem? HYV.out))
                have hyl : y.V.f.length ≤ 9223372036854775807 := by have := HF7.out.2.1.1; omega
                have cs : Hid (∀ p : Kp w7, Calls Try.prog 12 #[.agg #[.int .i64 y.V.lg, .slice a6 y.V.f.length c6, .int .u64 y.V.fl, .int .u64 y.V.ct, .int .u64 y.V.at9, .int .u64 y.V.ls], .agg #[.int .i64 y.V.lg, .slice y.a y.V.f.length y.c, .int .u64 y.V.fl, .int .u64 y.V.ct, .int .u64 y.V.at9, .int .u64 y.V.ls]] p.W fun e w'' => e = .returned (.bool true) ∧ ∃ q : Kp w7, w'' = q.W) := hide fun p => kp_call ((sameview_any a6 y.a y.V.f.length c6 y.V.f.length y.c y.V y.V p.W (HF7.out.below p.h (Nat.le_refl _)) (hfy.1.below p.h (Nat.le_refl _)) hyl hyl).mono fun e w' ⟨o, h1, h2, h3⟩ => by rw [h2.2 rfl] at h1; exact ⟨h1, h3⟩)
                have ca : Hid (∀ p : Kp w7, Calls Try.prog 13 #[] p.W fun e w'' => e = .returned (.bool true) ∧ ∃ q : Kp w7, w'' = q.W) := hide fun p => kp_call (HA.out p.W)
                have hne : Nonempty (Kp w7) := ⟨⟨_, Below.refl _ _⟩⟩
                have hB8 := hide (CW7.out.bel)
                have hmm : ((M9 : Int) == (M9 : Int)) = true := by simp
                clear hk7 hce9 d1 hvw hfy hyl HF7 HB7 HK7 HVC CW7 HZE hM9
                refine wp_region_kept (by kernel_rfl) (by kernel_rfl) ?_
                repeat (first
                  | go_big_quiet_step (first | (go_at_call 13; exact ca.out _) | (go_at_call 12; exact cs.out _))
                  | fail)
                refine wpQuiet_nil ?_
                intro w10 hw'
                have hb10 : Below w7.heap.size w7 w10 := by
                  obtain ⟨⟨w3', hb3⟩, hw''⟩ := hw'
                  rw [hw'']; exact hb3
                have B14 := hide (hB8.out.trans (hb10.mono hB8.out.size))
                clear hw' hne ca cs hb10 p9 v0 v1 v2 v3 v4 v5 p0 p1 p2 p3 p4 p5
                go_wp2
                go_ret
                exact ⟨rfl, B14.out⟩

end Go.Proofs.Ytgopcaemgcnapaa.Clep
