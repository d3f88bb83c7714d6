/- What the document's own Unlist (package clepsydraref1) does when called: any text up to 2^40, any bound. -/
import Derived.Test.YtgopcaemgcnapaaNRefLists
import Derived.Test.YtgopcaemgcnapaaWp
import Derived.Test.YtgopcaemgcnapaaEInv
import Derived.Test.YtgopcaemgcnapaaEApplyP
import Derived.Deep.RegionLaw
import Derived.Test.YtgopcaemgcnapaaBase
namespace Go.Proofs.Ytgopcaemgcnapaa.Clep
open Go.RowKit
set_option linter.unusedVariables false
set_option maxRecDepth 10000

theorem sz_drop {s : ByteArray} {zs : List Int} (h : Sz s zs) (P : Nat) (hP : P ≤ s.size) : Sz (s.extract P s.size) (zs.drop P) := by
  refine ⟨by rw [ByteArray.size_extract, List.length_drop, h.1]; omega, fun k hk => ?_⟩
  have hk2 : P + k < s.size := by rw [ByteArray.size_extract] at hk; omega
  have := h.2 (P + k) hk2
  rw [ByteArray.getElem_extract]
  rw [this]
  simp [List.getD]

set_option maxHeartbeats 2000000 in
theorem refunlist_any (s : ByteArray) (len : Nat) (zs : List Int) (most : Int) (w : World) (hlen : s.size = len) (hm : len ≤ 1099511627776) (hs : Sz s zs) (hzr0 : ∀ z ∈ zs, 0 ≤ z ∧ z < 256) (hmo : most ≤ 9223372036854775807) (hmo2 : -9223372036854775808 ≤ most) (r : List Int × Int × Int) (hr : Hid (ul zs most = r)) :
    Calls Try.prog 44 #[.string s, .int .i64 most] w fun e w' => ∃ v, e = .returned (.tuple #[v, .int .i64 r.2.1, .int .i64 r.2.2]) ∧ OwnU w' w.heap.size v r.1 ∧ Below w.heap.size w w' := by
  obtain ⟨i0, hi, hz0, hz1, hz2⟩ := info_parts info25
  have HS := hide hs
  have hzr := hide hzr0
  have hzl : Hid (zs.length = len) := hide (by rw [← hs.1]; exact hlen)
  have HL := hide hlen
  have hsz0 : s.size ≤ 1099511627776 := by omega
  have hlen2 : len ≤ s.size ∧ s.size ≤ len := by omega
  clear hs hzr0 hlen
  go_enter Try.func44, Try.ntmps44
  go_wp2_with fail
  have hf := tk_facts zs 0 0 (by omega) hzr.out (by omega) (by simp)
  have hsz := tk_size zs 0 0 (by omega)
  obtain ⟨C, S0, E, hT⟩ : ∃ C S0 E, tk zs 0 0 = (C, S0, E) := ⟨_, _, _, rfl⟩
  rw [hT] at hf hsz
  have HT := hide hT
  clear hT
  simp only at hf hsz
  refine (reftake_any s zs w (by omega) HS.out (range_of hzr.out)).mono ?_
  rw [HT.out]
  rintro e w1 ⟨rfl, rfl⟩
  unfold tup
  obtain ⟨P0, hP0⟩ : ∃ P0 : Nat, S0 = (P0 : Int) := ⟨S0.toNat, by omega⟩
  rw [hP0]
  have hP0l : P0 ≤ len := by have := hzl.out; omega
  have HP0 : Hid (P0 = S0.toNat) := hide (by omega)
  clear hP0
  by_cases hE : E = 0
  · have hEb : (E != 0) = false := by simp [hE]
    have HE := hide hE
    clear hE
    have hC0 := hf.1
    have hC1 := hf.2.1
    by_cases hC : max most 0 < C
    · have HRR : Hid (r = ([], 0, 2)) := hide (by rw [← hr.out]; unfold ul; rw [HT.out]; simp only; rw [if_pos HE.out, if_pos hC])
      by_cases hq : most < 0
      · have hCC : 0 < C := by omega
        clear hC
        go_wp2
        go_ret3
        rw [HRR.out]
        exact ⟨_, rfl, World.ownsRow_nil _ _ _ _, Below.refl _ _⟩
      · have hCC : most < C := by omega
        have hq0 : 0 ≤ most := by omega
        clear hC
        go_wp2
        go_ret3
        rw [HRR.out]
        exact ⟨_, rfl, World.ownsRow_nil _ _ _ _, Below.refl _ _⟩
    · have HRR : Hid (uls C.toNat zs P0 [] = r) := hide (by rw [← hr.out]; unfold ul; rw [HT.out]; simp only; rw [if_pos HE.out, if_neg hC, HP0.out])
      by_cases hq : most < 0
      · have hCC : C ≤ 0 := by omega
        clear hC hf hsz HP0
        go_wp2_with fail
        go_loopw [8, 10, 11] (fun t u i wr => ∃ (k P : Nat) (acc : List Int), t = .int .i64 P ∧ i = .int .u64 k ∧ (k : Int) ≤ C ∧ acc.length ≤ P ∧ P ≤ len ∧ Hid (uls (C.toNat - k) zs P acc = r) ∧ Hid (OwnU wr w1.heap.size u acc) ∧ Hid (Below w1.heap.size w1 wr)) (fun _ _ i _ => (C - intOf i).toNat)
        case atStart => exact ⟨0, P0, [], rfl, rfl, hC0, by simp, hP0l, HRR, hide (World.ownsRow_nil _ _ _ _), hide (Below.refl _ _)⟩
        case round =>
          obtain ⟨k, P, acc, rfl, rfl, hk, hacc, hP, hu, hown, hR⟩ := hrel
          by_cases hlt : (k : Int) < C
          · exact absurd hlt (by omega)
          · have HRR2 : Hid (r = (acc, (P : Int), 0)) := hide (by rw [← hu.out, show C.toNat - k = 0 from by omega]; rfl)
            go_wp2
            go_ret3
            rw [HRR2.out]
            exact ⟨_, rfl, hown.out, hR.out⟩
      · have hCC : C ≤ most := by omega
        have hq0 : 0 ≤ most := by omega
        clear hC hf hsz HP0
        go_wp2_with fail
        go_loopw [8, 10, 11] (fun t u i wr => ∃ (k P : Nat) (acc : List Int), t = .int .i64 P ∧ i = .int .u64 k ∧ (k : Int) ≤ C ∧ acc.length ≤ P ∧ P ≤ len ∧ Hid (uls (C.toNat - k) zs P acc = r) ∧ Hid (OwnU wr w1.heap.size u acc) ∧ Hid (Below w1.heap.size w1 wr)) (fun _ _ i _ => (C - intOf i).toNat)
        case atStart => exact ⟨0, P0, [], rfl, rfl, hC0, by simp, hP0l, HRR, hide (World.ownsRow_nil _ _ _ _), hide (Below.refl _ _)⟩
        case round =>
          obtain ⟨k, P, acc, rfl, rfl, hk, hacc, hP, hu, hown, hR⟩ := hrel
          by_cases hlt : (k : Int) < C
          · have hPs : P ≤ s.size := by omega
            have hf := tk_facts (zs.drop P) 0 0 (by omega) (fun z hz => hzr.out z (List.mem_of_mem_drop hz)) (by omega) (by simp)
            have hsz := tk_size (zs.drop P) 0 0 (by omega)
            obtain ⟨x, t, e, hT⟩ : ∃ x t e, tk (zs.drop P) 0 0 = (x, t, e) := ⟨_, _, _, rfl⟩
            rw [hT] at hf hsz
            have HT2 := hide hT
            clear hT
            simp only at hf hsz
            rw [List.length_drop] at hsz
            obtain ⟨q, hq'⟩ : ∃ q : Nat, t = (q : Int) := ⟨t.toNat, by omega⟩
            subst hq'
            go_wp2_with fail
            refine (reftake_any (s.extract P s.size) (zs.drop P) wr (by rw [ByteArray.size_extract]; omega) (sz_drop HS.out P hPs) (range_of fun z hz => hzr.out z (List.mem_of_mem_drop hz))).mono ?_
            rw [HT2.out]
            rintro en w2 ⟨rfl, rfl⟩
            unfold tup
            have hQl : P + q ≤ len := by have := hzl.out; omega
            have HF := hide hf
            have hx := hf.1
            have hx1 := hf.2.1
            clear hsz hf
            by_cases he : e = 0
            · have heb : (e != 0) = false := by simp [he]
              have hQP : 1 ≤ q := by have := HF.out.2.2 he; omega
              have HU2 : Hid (uls (C.toNat - (k + 1)) zs (P + q) (acc ++ [x]) = r) := hide (by rw [← hu.out, show C.toNat - k = (C.toNat - (k + 1)) + 1 from by omega, uls_yes _ zs P acc x _ e HT2.out he, Int.toNat_natCast])
              clear he
              have hszw := hide hR.out.size
              go_wp2_with (first
                | (at_builtin; refine wpList_append_own _ rfl _ _ 81 rfl w1.heap.size 24 i0 (.int .u64 0) 1 8 Try.underlying81 hi hz0 hz1 hz2 rfl (by decide) _ _ _ rfl (hown.out.alloc _) ⟨w2.heap.size, 0, none⟩ 1 1 [.int .u64 x] rfl rfl ?d1 ?d2 ?d3 ?d4 ?d5 ?_)
                | fail)
              case d1 => exact cell_one_new _ _ _
              case d2 => intro u hu; simp at hu; subst hu; rfl
              case d3 => unfold maxLen; omega
              case d4 => omega
              case d5 => have := hszw.out; simp; omega
              intro v' w3 hown' hgrow _
              have HW := hide (ownU_snoc hown')
              have HR3 : Hid (Below w1.heap.size w1 w3) := hide ((hR.out.alloc hszw.out _).grown hgrow (by have := hszw.out; simp; omega) (fun j hj => (World.ownsRow.lt hown.out j hj).1))
              clear hown' hgrow
              go_wp2
              go_roundw
              case rel => exact ⟨k + 1, P + q, acc ++ [x], by go_num, by go_num, by omega, by simp; omega, hQl, HU2, HW, HR3⟩
              case measure => simp [intOf]; omega
            · have heb : (e != 0) = true := by simp [he]
              have HRR2 : Hid (r = ([], 0, e)) := hide (by rw [← hu.out, show C.toNat - k = (C.toNat - (k + 1)) + 1 from by omega, uls_no _ zs P acc x _ e HT2.out he])
              clear he
              go_wp2
              go_ret3
              rw [HRR2.out]
              exact ⟨_, rfl, World.ownsRow_nil _ _ _ _, hR.out⟩
          · have HRR2 : Hid (r = (acc, (P : Int), 0)) := hide (by rw [← hu.out, show C.toNat - k = 0 from by omega]; rfl)
            go_wp2
            go_ret3
            rw [HRR2.out]
            exact ⟨_, rfl, hown.out, hR.out⟩
  · have hEb : (E != 0) = true := by simp [hE]
    have HRR : Hid (r = ([], 0, E)) := hide (by rw [← hr.out]; unfold ul; rw [HT.out]; simp only; rw [if_neg hE])
    clear hE
    go_wp2
    go_ret3
    rw [HRR.out]
    exact ⟨_, rfl, World.ownsRow_nil _ _ _ _, Below.refl _ _⟩

end Go.Proofs.Ytgopcaemgcnapaa.Clep

/- What the document's own ReadEdit does when called: what its blocks hold between its steps; when the bytes are no Edit. No conditions. -/
namespace Go.Proofs.Ytgopcaemgcnapaa.Clep
open Go.RowKit
set_option linter.unusedVariables false
set_option maxRecDepth 10000

theorem red_none {X : List Int} (h : okR X = true → mayB (rawE X) = true → False) : red X = none := by
  unfold red
  rw [if_neg]
  intro hh
  rw [Bool.and_eq_true] at hh
  exact h hh.1 hh.2
theorem red_drop {X : List Int} (z : Int) (hz : z ∈ (ul X 40).1) (hb : 1073741824 < z) : red X = none := red_none fun _ hm => by
  have := ((emay_parts ((mayB_iff _).1 hm)).2.1 z hz).2
  omega
theorem okR_parts {X : List Int} (h : okR X = true) : (ul X 40).2.2 = 0 ∧ cX X ≤ 40 ∧ (stN (s1X X) (2 * (cX X).toNat + 5)).2 = false ∧ (stN (s1X X) (2 * (cX X).toNat + 5)).1.length = 0 := by
  unfold okR at h
  simp only [Bool.and_eq_true, decide_eq_true_eq, Bool.not_eq_true'] at h
  exact ⟨h.1, h.2.1, h.2.2.1, h.2.2.2⟩
theorem red_head {X : List Int} (h : (s1X X).2 = true) : red X = none := red_none fun ho _ => by
  have h1 := stN_bad (s1X X) 0 (2 * (cX X).toNat + 5) h
  rw [Nat.zero_add, (okR_parts ho).2.2.1] at h1
  cases h1
theorem red_count {X : List Int} (h : 40 < cX X) : red X = none := red_none fun ho _ => by
  have := (okR_parts ho).2.1
  omega
theorem red_stop {X : List Int} (j : Nat) (hj : j ≤ 2 * (cX X).toNat + 5) (h : (stN (s1X X) j).2 = true) : red X = none := red_none fun ho _ => by
  have h1 := stN_bad (s1X X) j (2 * (cX X).toNat + 5 - j) h
  rw [show j + (2 * (cX X).toNat + 5 - j) = 2 * (cX X).toNat + 5 from by omega, (okR_parts ho).2.2.1] at h1
  cases h1
theorem red_end {X : List Int} (h : 0 < (stN (s1X X) (2 * (cX X).toNat + 5)).1.length) : red X = none := red_none fun ho _ => by
  have := (okR_parts ho).2.2.2
  omega
theorem red_great {X : List Int} (j : Nat) (hj : j < 2 * (cX X).toNat + 5) (h : 281474976710656 < nr (s1X X) j) : red X = none := red_none fun _ hm => by
  have hp := emay_parts ((mayB_iff _).1 hm)
  unfold rawE at hp
  simp only at hp
  obtain ⟨_, _, hf, hl, h1, h2, h3, h4⟩ := hp
  rcases Nat.lt_or_ge j (2 * (cX X).toNat) with hlt | hge
  · have hmem : (⟨nr (s1X X) (2 * (j / 2)), nr (s1X X) (2 * (j / 2) + 1)⟩ : Fi) ∈ fX X (cX X).toNat := List.mem_map.2 ⟨j / 2, List.mem_range.2 (by omega), rfl⟩
    have hq := hf _ hmem
    simp only at hq
    rcases Nat.mod_two_eq_zero_or_one j with hm2 | hm2
    · rw [show 2 * (j / 2) = j from by omega] at hq
      omega
    · rw [show 2 * (j / 2) + 1 = j from by omega] at hq
      omega
  · obtain ⟨t, rfl⟩ : ∃ t, j = 2 * (cX X).toNat + t := ⟨j - 2 * (cX X).toNat, by omega⟩
    have ht : t = 0 ∨ t = 1 ∨ t = 2 ∨ t = 3 ∨ t = 4 := by omega
    generalize nr (s1X X) = N at *
    generalize 2 * (cX X).toNat = M at *
    rcases ht with rfl | rfl | rfl | rfl | rfl
    · rw [Nat.add_zero] at h; omega
    · omega
    · omega
    · omega
    · omega
/-- Between the steps of the document's ReadEdit. -/
structure RT (w : World) (Q : Nat) (W : World) (cs : Array Value) : Prop where
  z : Ek W w.heap.size zE7 31
  q : Ek W Q cs 31
  bel : Below w.heap.size w W
  lt : w.heap.size < Q
section
variable {w W W' : World} {Q : Nat} {cs : Array Value}
theorem RT.drew (h : RT w Q W cs) : RT w Q W.drew cs := ⟨h.z.drew, h.q.drew, h.bel.drew, h.lt⟩
theorem RT.keep (h : RT w Q W cs) (hb : Below W.heap.size W W') : RT w Q W' cs := ⟨h.z.below hb h.z.lt, h.q.below hb h.q.lt, h.bel.trans (hb.mono h.bel.size), h.lt⟩
theorem RT.row (h : RT w Q W cs) {row : Option Nat} (hg : W.grownBy W' row) (hk : ∀ k, row = some k → Q + 1 ≤ k) : RT w Q W' cs := by
  have hl := h.lt
  refine ⟨h.z.gb hg (fun e => ?_), h.q.gb hg (fun e => ?_), h.bel.grown hg h.bel.size (fun k e => ?_), hl⟩
  · have := hk _ e.symm; omega
  · have := hk _ e.symm; omega
  · have := hk _ e; omega
theorem RT.setq (h : RT w Q W cs) (k : Nat) (u : Value) : RT w Q (W.setCell ⟨Q, k, none⟩ u) (cs.setIfInBounds k u) := by
  have hl := h.lt
  have hg := fgb_set W ⟨Q, k, none⟩ u
  refine ⟨h.z.gb hg (fun e => ?_), h.q.set k u, h.bel.grown hg h.bel.size (fun k e => ?_), hl⟩
  · have : w.heap.size = Q := Option.some.inj e; omega
  · have : Q = k := Option.some.inj e; omega
theorem RT.sz (h : RT w Q W cs) : Q + 1 ≤ W.heap.size := h.q.lt
end
theorem Us.gb {w w' : World} {row : Option Nat} {ao : Option Addr} {n c : Nat} {l : List Int} (h : Us w ao n c l) (hg : w.grownBy w' row) (hne : ∀ a, ao = some a → some a.block ≠ row) : Us w' ao n c l := by
  refine ⟨h.1, h.2.1, h.2.2.1, fun h0 => ?_⟩
  obtain ⟨b, off, e, hc⟩ := h.2.2.2 h0
  refine ⟨b, off, e, fun i hi => ?_⟩
  have := hc i hi
  exact gb_cells hg (World.block_lt_of_cell? w _ this) (by have := hne _ e; exact this) _ _ this
theorem ownZ_grown {w w' : World} {B : Nat} {v : Value} {l : List Int} {row : Option Nat} (h : OwnZ w B v l) (hg : w.grownBy w' row) (hne : ∀ k, row = some k → k < B) : OwnZ w' B v l := by
  refine World.ownsRow.kept h hg ?_
  cases hv : v.ownBlock with
  | none => exact .inl rfl
  | some k =>
    refine .inr (fun e => ?_)
    have h1 := World.ownsRow.lt h k hv
    have := hne k e.symm
    omega
theorem ownU_grown {w w' : World} {B : Nat} {v : Value} {l : List Int} {row : Option Nat} (h : OwnU w B v l) (hg : w.grownBy w' row) (hne : ∀ k, row = some k → k < B) : OwnU w' B v l := by
  refine World.ownsRow.kept h hg ?_
  cases hv : v.ownBlock with
  | none => exact .inl rfl
  | some k =>
    refine .inr (fun e => ?_)
    have h1 := World.ownsRow.lt h k hv
    have := hne k e.symm
    omega
theorem step_append_z {w : World} {ops : Array Oper} {o : Oper} {a : Act} {K : Act → World → Prop} {Q : Exit → Act → World → Prop} {E : Prop} (hgd : o.guard = none) (s x : Operand)
    (ho : o.op = .call { callee := .builtin .append, args := #[s, x], argTypes := #[22, 22] })
    (base : Nat) (v : Value) (ns : List Int) (hs : a.eval s = v) (hown : OwnZ w base v ns) (p : Nat) (z : Int) (hx : a.eval x = .slice (some ⟨p, 0, none⟩) 1 1) (hp : Ek w p #[.int .i64 z] 3)
    (hlen : ns.length ≤ 100000) (hbase : base ≤ w.heap.size)
    (h : ∀ v' w', OwnZ w' base v' (ns ++ [z]) → w.grownBy w' v.ownBlock → (∀ k, v.ownBlock = some k → base ≤ k) → K (a.put o.dst v') w') :
    if Region.wanted o (yielded ops a.tmps) = true then Oper.wp Try.prog o a w K Q else E := by
  have hw : Region.wanted o (yielded ops a.tmps) = true := by simp [Region.wanted, hgd]
  rw [if_pos hw]
  obtain ⟨i0, hi, hz0, hz1, hz2⟩ := info_parts info_int
  refine wp_append_own _ s x 22 ho base 3 i0 (.int .i64 0) 1 8 Try.underlying22 hi hz0 hz1 hz2 rfl (by decide) v ns.length (iv9 ns) hs hown ⟨p, 0, none⟩ 1 1 [.int .i64 z] hx rfl ?_ ?_ (by unfold maxLen; omega) (by omega) hbase ?_
  · intro j u hu
    match j, hu with
    | 0, hu =>
      simp at hu
      subst hu
      exact hp.cell rfl
    | k + 1, hu => simp at hu
  · intro u hu
    simp at hu
    subst hu
    rfl
  · intro v' w' h1 h2 _
    refine h v' w' ?_ h2 (fun k hk => (World.ownsRow.lt hown k hk).1)
    unfold OwnZ iv9
    simpa [iv9] using h1
/-- Between the rounds of the last loop of the document's ReadEdit. -/
structure RV (w : World) (Q B : Nat) (dd : Option Addr) (dn dc : Nat) (ds : List Int) (la : Option Addr) (ln lc : Nat) (ls : List Int) (W : World) (cs : Array Value) (fv : Value) (fl : List Fi) : Prop where
  rt : RT w Q W cs
  own : OwnF W B fv fl
  d : Zs W dd dn dc ds
  l : Us W la ln lc ls
  db : ∀ a, dd = some a → Q < a.block ∧ a.block < B
  lb : ∀ a, la = some a → Q < a.block ∧ a.block < B
  sz : B ≤ W.heap.size
  qb : Q < B
section
variable {w W W' : World} {Q B : Nat} {dd : Option Addr} {dn dc : Nat} {ds : List Int} {la : Option Addr} {ln lc : Nat} {ls : List Int} {cs : Array Value} {fv fv' : Value} {fl fl' : List Fi}
theorem RV.keep (h : RV w Q B dd dn dc ds la ln lc ls W cs fv fl) (hb : Below W.heap.size W W') : RV w Q B dd dn dc ds la ln lc ls W' cs fv fl :=
  ⟨h.rt.keep hb, ownF_keep h.own hb, h.d.below hb (Nat.le_refl _), h.l.below hb (Nat.le_refl _), h.db, h.lb, Nat.le_trans h.sz hb.size, h.qb⟩
theorem RV.drew (h : RV w Q B dd dn dc ds la ln lc ls W cs fv fl) : RV w Q B dd dn dc ds la ln lc ls W.drew cs fv fl := h.keep (Below.refl _ W).drew
theorem RV.row (h : RV w Q B dd dn dc ds la ln lc ls W cs fv fl) {row : Option Nat} (hg : W.grownBy W' row) (hk : ∀ k, row = some k → B ≤ k) (ho : OwnF W' B fv' fl') : RV w Q B dd dn dc ds la ln lc ls W' cs fv' fl' := by
  have hq := h.qb
  refine ⟨h.rt.row hg (fun k e => by have := hk k e; omega), ho, h.d.gb hg (fun a ha e => ?_), h.l.gb hg (fun a ha e => ?_), h.db, h.lb, Nat.le_trans h.sz hg.size, hq⟩
  · have := h.db a ha; have := hk _ e.symm; omega
  · have := h.lb a ha; have := hk _ e.symm; omega
theorem RV.setq (h : RV w Q B dd dn dc ds la ln lc ls W cs fv fl) (k : Nat) (u : Value) : RV w Q B dd dn dc ds la ln lc ls (W.setCell ⟨Q, k, none⟩ u) (cs.setIfInBounds k u) fv fl := by
  have hq := h.qb
  have hg := fgb_set W ⟨Q, k, none⟩ u
  refine ⟨h.rt.setq k u, ownF_grown h.own hg (fun k e => ?_), h.d.gb hg (fun a ha e => ?_), h.l.gb hg (fun a ha e => ?_), h.db, h.lb, Nat.le_trans h.sz hg.size, hq⟩
  · have : Q = k := Option.some.inj e; omega
  · have := h.db a ha; have : a.block = Q := Option.some.inj e; omega
  · have := h.lb a ha; have : a.block = Q := Option.some.inj e; omega
end
theorem map_range_get (f : Nat → Int) (n i : Nat) (h : i < n) : ((List.range n).map f).getD i 0 = f i := by
  simp [List.getD, h]

end Go.Proofs.Ytgopcaemgcnapaa.Clep

/- The region of the document's ReadEdit that stores five numbers: what each slot holds once its operation has come up. No conditions. -/
namespace Go.Proofs.Ytgopcaemgcnapaa.Clep
open Go.RowKit
set_option linter.unusedVariables false
set_option maxRecDepth 10000

/-- The Edit's cells between the stores. -/
def csq (d f : Value) (v0 v1 v2 v3 v4 : Int) (L : Nat → Bool) : Array Value := #[d, f, .int .i64 (if L 26 = true then v0 else 0), .int .u64 (if L 28 = true then v1 else 0), .int .u64 (if L 30 = true then v2 else 0), .int .u64 (if L 32 = true then v3 else 0), .int .u64 (if L 34 = true then v4 else 0)]
section
variable {d f : Value} {v0 v1 v2 v3 v4 : Int} {L : Nat → Bool}
theorem csq_old (i : Nat) (h0 : i ≠ 26) (h1 : i ≠ 28) (h2 : i ≠ 30) (h3 : i ≠ 32) (h4 : i ≠ 34) : csq d f v0 v1 v2 v3 v4 (upd L i) = csq d f v0 v1 v2 v3 v4 L := by
  unfold csq upd
  rw [if_neg (Ne.symm h0), if_neg (Ne.symm h1), if_neg (Ne.symm h2), if_neg (Ne.symm h3), if_neg (Ne.symm h4)]
theorem csq_26 : csq d f v0 v1 v2 v3 v4 (upd L 26) = (csq d f v0 v1 v2 v3 v4 L).setIfInBounds 2 (.int .i64 v0) := by unfold csq upd; simp
theorem csq_28 : csq d f v0 v1 v2 v3 v4 (upd L 28) = (csq d f v0 v1 v2 v3 v4 L).setIfInBounds 3 (.int .u64 v1) := by unfold csq upd; simp
theorem csq_30 : csq d f v0 v1 v2 v3 v4 (upd L 30) = (csq d f v0 v1 v2 v3 v4 L).setIfInBounds 4 (.int .u64 v2) := by unfold csq upd; simp
theorem csq_32 : csq d f v0 v1 v2 v3 v4 (upd L 32) = (csq d f v0 v1 v2 v3 v4 L).setIfInBounds 5 (.int .u64 v3) := by unfold csq upd; simp
theorem csq_34 : csq d f v0 v1 v2 v3 v4 (upd L 34) = (csq d f v0 v1 v2 v3 v4 L).setIfInBounds 6 (.int .u64 v4) := by unfold csq upd; simp
theorem csq_start (h : L = fun _ => false) : csq d f v0 v1 v2 v3 v4 L = #[d, f, .int .i64 0, .int .u64 0, .int .u64 0, .int .u64 0, .int .u64 0] := by subst h; unfold csq; simp
theorem csq_end (h0 : L 26 = true) (h1 : L 28 = true) (h2 : L 30 = true) (h3 : L 32 = true) (h4 : L 34 = true) : csq d f v0 v1 v2 v3 v4 L = #[d, f, .int .i64 v0, .int .u64 v1, .int .u64 v2, .int .u64 v3, .int .u64 v4] := by unfold csq; rw [if_pos h0, if_pos h1, if_pos h2, if_pos h3, if_pos h4]
end

end Go.Proofs.Ytgopcaemgcnapaa.Clep

/- What the document's own ReadEdit does when called (a walk over the translated program): for any bytes of at most a million. -/
namespace Go.Proofs.Ytgopcaemgcnapaa.Clep
open Go.RowKit
set_option linter.unusedVariables false
set_option maxRecDepth 10000

theorem rread_results {w : World} {R : Nat} {d v : Value} {A B C D E e : Int} (h : Ek w R #[d, v, .int .i64 A, .int .u64 B, .int .u64 C, .int .u64 D, .int .u64 E] 31) (ts : Array Value) (h2 : ts.getD 2 undef = .pointer (some ⟨R, 0, none⟩)) (h3 : ts.getD 3 undef = .int .i64 e) :
    (results Try.f19 ts).run Try.prog w = .ok (.tuple #[.agg #[d, v, .int .i64 A, .int .u64 B, .int .u64 C, .int .u64 D, .int .u64 E], .int .i64 e]) w := by
  have c0 := h.cell (o := 0) rfl
  have c1 := h.cell (o := 1) rfl
  have c2 := h.cell (o := 2) rfl
  have c3 := h.cell (o := 3) rfl
  have c4 := h.cell (o := 4) rfl
  have c5 := h.cell (o := 5) rfl
  have c6 := h.cell (o := 6) rfl
  rw [Array.getD_eq_getD_getElem?] at h2 h3
  simp [results, Try.results19, go_sem, c0, c1, c2, c3, c4, c5, c6, h2, h3]

set_option maxHeartbeats 4000000 in
theorem rread_any (s : ByteArray) (zs : List Int) (w : World) (hm : s.size ≤ 1000000) (hs : Sz s zs) (hbr : ByteL zs) :
    Calls Try.prog 19 #[.string s] w (RdA (red zs) w) := by
  have hzl : s.size ≤ zs.length ∧ zs.length ≤ s.size := by have := hs.1; omega
  have HS := hide hs
  have HBR := hide hbr
  have HRN := hide (show red zs = none → ∀ W, Below w.heap.size w W → RdA (red zs) w (.returned (.tuple #[edV none 0 0 none 0 0 zE, .int .i64 3])) W from fun e W hW => by rw [e]; exact ⟨rfl, hW⟩)
  have HRS := hide (show ∀ E W da dc aa ac, red zs = some E → Zs W da E.d.length dc E.d → Fs W aa E.a.length ac E.a → Below w.heap.size w W → RdA (red zs) w (.returned (.tuple #[edV da E.d.length dc aa E.a.length ac E, .int .i64 0])) W from fun E W da dc aa ac e h1 h2 h3 => by rw [e]; exact ⟨⟨da, dc, aa, ac, rfl, h1, h2⟩, h3⟩)
  have HUP := hide (ul_place zs 40)
  have HUN := hide (ul_nums zs 40 hbr (by omega))
  have HD := hide (fun z => red_drop (X := zs) z)
  have HUE := hide (show (ul zs 40).2.2 ≠ 0 → red zs = none from fun h => red_none fun ho _ => h (okR_parts ho).1)
  have CU := hide (fun W => refunlist_any s s.size zs 40 W rfl (by omega) hs hbr (by omega) (by omega) (ul zs 40) (hide rfl))
  have HS0 := hide (show s0X zs = (zs.drop (ul zs 40).2.1.toNat, false) from rfl)
  have HUZ0 := hide (show (ul zs 40).2.2 = (ul zs 40).2.2 from rfl)
  have HRW := hide (show (rawE zs).d = (ul zs 40).1 from rfl)
  generalize hRR : RdA (red zs) w = RR at *
  clear hRR
  obtain ⟨d0, sz, er, hu⟩ : ∃ d sz er, ul zs 40 = (d, sz, er) := ⟨_, _, _, rfl⟩
  have HUZ := hide (show (ul zs 40).2.2 = er from by rw [hu])
  clear HUZ0
  rw [hu] at HUP HUN HD HUE CU HS0 HRW
  simp only at HUP HUN HD HUE CU HS0 HRW
  unfold edV zE at HRN
  unfold edV at HRS
  simp only at HRN
  clear hs hbr hu
  have A0 := (Below.refl w.heap.size w).alloc (Nat.le_refl _) (Obj.cells #[.slice none 0 0, .slice none 0 0, .int .i64 0, .int .u64 0, .int .u64 0, .int .u64 0, .int .u64 0] 31)
  have HB0 := hide A0
  have HZ0 := hide (ek_new w #[.slice none 0 0, .slice none 0 0, .int .i64 0, .int .u64 0, .int .u64 0, .int .u64 0, .int .u64 0] 31)
  have HSA := hide (show (w.alloc (Obj.cells #[.slice none 0 0, .slice none 0 0, .int .i64 0, .int .u64 0, .int .u64 0, .int .u64 0, .int .u64 0] 31)).heap.size = w.heap.size + 1 by simp)
  clear A0
  go_enter Try.func19, Try.ntmps19
  go_wp2_with fail
  refine (CU.out _).mono ?_
  rintro e w1 ⟨v1, rfl, ho1, hb1⟩
  have HZ1 := hide (HZ0.out.below hb1 HZ0.out.lt)
  have HB1 := hide (HB0.out.trans (hb1.mono HB0.out.size))
  have HO1 := hide ho1
  have hl1 : w.heap.size + 1 ≤ w1.heap.size := by rw [← HSA.out]; exact hb1.size
  clear CU ho1 hb1 HB0 HZ0 HSA
  by_cases her : er = 0
  · subst her
    have hup := HUP.out rfl
    have hun := HUN.out
    have hdl : (d0.length : Int) ≤ 40 := hun.2 rfl
    obtain ⟨sn, rfl⟩ := Int.eq_ofNat_of_zero_le hup.1
    simp only [Int.toNat_natCast] at HS0
    have hsn : sn ≤ s.size := by omega
    obtain ⟨ad, dk, rfl, hus⟩ := ownU_us HO1.out hun.1
    have hA1 := (Below.refl _ w1).alloc (Nat.le_refl _) (Obj.cells #[.slice none 0 0, .slice none 0 0, .int .i64 0, .int .u64 0, .int .u64 0, .int .u64 0, .int .u64 0] 31)
    have HU := hide (show ∀ W, Below w1.heap.size w1 W → Us W ad d0.length dk d0 from fun W hW => hus.below hW (Nat.le_refl _))
    have RT0 := hide (show RT w w1.heap.size (w1.alloc (Obj.cells #[.slice none 0 0, .slice none 0 0, .int .i64 0, .int .u64 0, .int .u64 0, .int .u64 0, .int .u64 0] 31)) #[.slice none 0 0, .slice none 0 0, .int .i64 0, .int .u64 0, .int .u64 0, .int .u64 0, .int .u64 0] from ⟨HZ1.out.below hA1 HZ1.out.lt, ek_new w1 _ _, HB1.out.trans (hA1.mono HB1.out.size), by omega⟩)
    have HDR := hide hun.1
    have HB2 := hide hA1
    obtain ⟨dn, hdn⟩ : ∃ dn, d0.length = dn := ⟨_, rfl⟩
    have HDN := hide hdn
    rw [hdn] at HU hdl ⊢
    have hl1q : w.heap.size < w1.heap.size := by omega
    clear HUP HUN hun hA1 hus HO1 HZ1 hdn
    go_wp2_with fail
    generalize hQ : w1.heap.size = Q at *
    clear hQ
    go_loopw [8] (fun t wr => ∃ i : Nat, i ≤ dn ∧ t = .int .i64 i ∧ Hid (∃ a k, RT w Q wr #[.slice a i k, .slice none 0 0, .int .i64 0, .int .u64 0, .int .u64 0, .int .u64 0, .int .u64 0] ∧ OwnZ wr (Q + 1) (.slice a i k) (d0.take i) ∧ Below Q w1 wr) ∧ Hid (∀ z ∈ d0.take i, z ≤ 1073741824)) (fun t _ => dn - (intOf t).toNat)
    case atStart => exact ⟨0, by omega, rfl, hide ⟨none, 0, RT0.out, ownZ_nil _ _, HB2.out⟩, hide (by simp)⟩
    case round =>
      obtain ⟨i, hi, rfl, hst, hall⟩ := hrel
      obtain ⟨fa, fk, st, so, sb⟩ := hst.out
      have S0 := hide st
      have O0 := hide so
      have B0 := hide sb
      clear hst st so sb RT0 HB2
      by_cases hlt : i < dn
      · obtain ⟨db, dof, hda, hcell⟩ := (HU.out wr B0.out).2.2.2 (by omega)
        subst hda
        have hck := hcell i hlt
        have hkl : i < d0.length := by rw [HDN.out]; exact hlt
        have hgd : d0.getD i 0 = d0[i] := by simp [List.getD, List.getElem?_eq_getElem hkl]
        rw [hgd] at hck
        obtain ⟨z, hz⟩ : ∃ z, d0[i] = z := ⟨_, rfl⟩
        have hzm : z ∈ d0 := by rw [← hz]; exact List.getElem_mem hkl
        have hzr := HDR.out z hzm
        rw [hz] at hck
        have HTK := hide (show d0.take (i + 1) = d0.take i ++ [z] from by rw [List.take_add_one, List.getElem?_eq_getElem hkl, hz]; rfl)
        have hqi : (i : Int) < (dn : Int) := by omega
        by_cases hbig : (1073741824 : Int) < z
        · have HN := hide (HRN.out (HD.out z hzm hbig))
          have HZ := hide S0.out.z
          have HB := hide S0.out.bel
          have z0 : wr.cell? ⟨w.heap.size, 0, none⟩ = some (.slice none 0 0) := (HZ.out).cell rfl
          have y0 : wr.frozen? ⟨w.heap.size, 0, none⟩ = false := (HZ.out).free 0
          have z1 : wr.cell? ⟨w.heap.size, 1, none⟩ = some (.slice none 0 0) := (HZ.out).cell rfl
          have y1 : wr.frozen? ⟨w.heap.size, 1, none⟩ = false := (HZ.out).free 1
          have z2 : wr.cell? ⟨w.heap.size, 2, none⟩ = some (.int .i64 0) := (HZ.out).cell rfl
          have y2 : wr.frozen? ⟨w.heap.size, 2, none⟩ = false := (HZ.out).free 2
          have z3 : wr.cell? ⟨w.heap.size, 3, none⟩ = some (.int .u64 0) := (HZ.out).cell rfl
          have y3 : wr.frozen? ⟨w.heap.size, 3, none⟩ = false := (HZ.out).free 3
          have z4 : wr.cell? ⟨w.heap.size, 4, none⟩ = some (.int .u64 0) := (HZ.out).cell rfl
          have y4 : wr.frozen? ⟨w.heap.size, 4, none⟩ = false := (HZ.out).free 4
          have z5 : wr.cell? ⟨w.heap.size, 5, none⟩ = some (.int .u64 0) := (HZ.out).cell rfl
          have y5 : wr.frozen? ⟨w.heap.size, 5, none⟩ = false := (HZ.out).free 5
          have z6 : wr.cell? ⟨w.heap.size, 6, none⟩ = some (.int .u64 0) := (HZ.out).cell rfl
          have y6 : wr.frozen? ⟨w.heap.size, 6, none⟩ = false := (HZ.out).free 6
          clear HRN HRS HD hcell hgd hz HTK
          go_wp2
          have HZ7 := eset7 (HZ.out) (.slice none 0 0) (.slice none 0 0) (.int .i64 0) (.int .u64 0) (.int .u64 0) (.int .u64 0) (.int .u64 0)
          refine bodyPost_ret (rread_results (e := 3) HZ7 _ rfl rfl) rfl ?_
          exact HN.out _ ((HB.out).grown (gset7 _ w.heap.size _ _ _ _ _ _ _) (HB.out).size (fun k hk => by have : w.heap.size = k := Option.some.inj hk; omega))
        · have HLT := hide (show (d0.take i).length ≤ 100000 from by rw [List.length_take]; omega)
          have hwz : IntKind.i64.wrap z = z := by simp [IntKind.wrap, IntKind.bits, IntKind.signed]; omega
          have q1 : wr.cell? ⟨Q, 0, none⟩ = some (.slice fa i fk) := S0.out.q.cell rfl
          have hQl : Q < wr.heap.size := S0.out.q.lt
          have hdbl : db < wr.heap.size := World.block_lt_of_cell? wr _ hck
          have A7 := (Below.refl _ wr.drew).alloc (Nat.le_refl _) (Obj.cells #[.int .i64 z] 3)
          have S7 := hide (S0.out.drew.keep A7)
          have HE7 := hide (ek_new wr.drew #[.int .i64 z] 3)
          have HO7 := hide (show OwnZ (wr.drew.alloc (Obj.cells #[.int .i64 z] 3)) (Q + 1) (.slice fa i fk) (d0.take i) from by
            have h0 : OwnZ wr.drew (Q + 1) (.slice fa i fk) (d0.take i) := ownZ_grown O0.out (fgb_below (Below.refl _ wr).drew none) (fun k h => by cases h)
            exact ownZ_grown h0 (fgb_below A7 none) (fun k h => by cases h))
          have HSZ7 := hide S7.out.sz
          have HB7 := hide (B0.out.drew.trans (A7.mono (Nat.le_of_lt S0.out.drew.q.lt)))
          clear A7 hcell hgd hz HD
          go_wp2_with fail
          go_region_law (refine step_append_z rfl (.tmp 41) (.tmp 47) rfl (Q + 1) _ (d0.take i) (by first | rfl | simp [Act.eval, Act.put]) HO7.out wr.heap.size z (by first | rfl | simp [Act.eval, Act.put]) HE7.out HLT.out HSZ7.out ?_; intro v8 w8 o8 g8 k8; have S8 := hide (S7.out.row g8 k8); have B8 := hide (HB7.out.grown g8 (Nat.le_of_lt S7.out.q.lt) (fun k hk => by have := k8 k hk; omega)); have o9 : OwnZ w8 (Q + 1) v8 (d0.take (i + 1)) := (HTK.out.symm ▸ o8); obtain ⟨a8, c8, hv8, _, _, _⟩ := ownZ_zs o9 (fun y hy => by have := HDR.out y (List.mem_of_mem_take hy); have h2 : y ≤ 1073741824 := (by rw [HTK.out] at hy; rcases List.mem_append.1 hy with e | e; exact hall.out y e; rw [List.mem_singleton.1 e]; omega); omega); rw [show (d0.take (i + 1)).length = i + 1 from by rw [List.length_take]; omega] at hv8; subst hv8; have O8 := hide o9; have q8 : w8.cell? ⟨Q, 0, none⟩ = some (.slice fa i fk) := S8.out.q.cell rfl; have f8 := S8.out.q.free 0; clear o8 g8 k8 o9)
          all_goals
            clear q1
            go_wp2
            go_roundw
            case rel => exact ⟨i + 1, by omega, by go_num, hide ⟨a8, c8, S8.out.setq 0 (.slice a8 (i + 1) c8), ownZ_grown O8.out (fgb_set w8 ⟨Q, 0, none⟩ _) (fun k hk => by have : Q = k := Option.some.inj hk; omega), B8.out.grown (fgb_set w8 ⟨Q, 0, none⟩ _) (Nat.le_of_lt S8.out.q.lt) (fun k hk => by have : Q = k := Option.some.inj hk; omega)⟩, hide (by rw [HTK.out]; intro y hy; rcases List.mem_append.1 hy with e | e; exact hall.out y e; rw [List.mem_singleton.1 e]; omega)⟩
            case measure => simp [intOf]; omega
      · obtain rfl : i = dn := by omega
        obtain ⟨x1, hx1⟩ : ∃ x, x = wr := ⟨_, rfl⟩
        subst hx1
        have hqi : ¬ ((i : Int) < (i : Int)) := by omega
        have htk : d0.take i = d0 := List.take_of_length_le (by rw [HDN.out]; exact Nat.le_refl _)
        have hso := O0.out
        have hal := hall.out
        rw [htk] at hso hal
        obtain ⟨fa', fk', hfv, hfkm, hzs, hzb⟩ := ownZ_zs hso (fun y hy => by have := HDR.out y hy; have := hal y hy; omega)
        rw [HDN.out] at hfv hzs
        cases hfv
        have HZD := hide (show ∀ W, Below x1.heap.size x1 W → Zs W fa i fk d0 from fun W hW => hzs.below hW (Nat.le_refl _))
        have HZB := hide (show ∀ a, fa = some a → Q + 1 ≤ a.block ∧ a.block < x1.heap.size from fun a ha => World.ownsRow.lt hso a.block (by rw [ha]; rfl))
        have HAL := hide hal
        clear hall hso hal hzs hzb O0 htk HU B0
        have hf := tk_facts (zs.drop sn) 0 0 (by omega) (fun z hz => HBR.out z (List.mem_of_mem_drop hz)) (by omega) (by simp)
        have hsz := tk_size (zs.drop sn) 0 0 (by omega)
        obtain ⟨C, t0, e0, hT⟩ : ∃ x t e, tk (zs.drop sn) 0 0 = (x, t, e) := ⟨_, _, _, rfl⟩
        rw [hT] at hf hsz
        simp only at hf hsz
        rw [List.length_drop] at hsz
        obtain ⟨q0, rfl⟩ := Int.eq_ofNat_of_zero_le hsz.1
        have hq0 : sn + q0 ≤ s.size := by omega
        have CT := hide (show Calls Try.prog 45 #[.string (s.extract sn s.size)] x1 fun e w' => e = .returned (.tuple #[.int .u64 C, .int .i64 (q0 : Int), .int .i64 e0]) ∧ w' = x1 from by
          have := reftake_any (s.extract sn s.size) (zs.drop sn) x1 (by rw [ByteArray.size_extract]; omega) (sz_drop HS.out sn hsn) (range_of fun z hz => HBR.out z (List.mem_of_mem_drop hz))
          rw [hT] at this
          exact this)
        have HT := hide hT
        have hC0 := hf.1
        have hC1 := hf.2.1
        clear hf hsz hT
        go_wp2_with fail
        refine CT.out.mono ?_
        rintro e y ⟨rfl, hy⟩
        have hy' := hy.symm
        subst hy'
        have HZ := hide S0.out.z
        have HB := hide S0.out.bel
        clear CT
        by_cases he0 : e0 = 0
        · have heb : (e0 != 0) = false := by simp [he0]
          have HCX := hide (show cX zs = C from by unfold cX rt; rw [HS0.out]; simp only; rw [HT.out]; simp only; rw [if_pos he0])
          have HS1 := hide (show s1X zs = (zs.drop (sn + q0), false) from by unfold s1X rt; rw [HS0.out]; simp only; rw [HT.out]; simp only; rw [if_pos he0, Int.toNat_natCast, List.drop_drop])
          clear he0 HT
          by_cases hc40 : (40 : Int) < C
          · have HN := hide (HRN.out (red_count (by rw [HCX.out]; exact hc40)))
            have z0 : x1.cell? ⟨w.heap.size, 0, none⟩ = some (.slice none 0 0) := (HZ.out).cell rfl
            have y0 : x1.frozen? ⟨w.heap.size, 0, none⟩ = false := (HZ.out).free 0
            have z1 : x1.cell? ⟨w.heap.size, 1, none⟩ = some (.slice none 0 0) := (HZ.out).cell rfl
            have y1 : x1.frozen? ⟨w.heap.size, 1, none⟩ = false := (HZ.out).free 1
            have z2 : x1.cell? ⟨w.heap.size, 2, none⟩ = some (.int .i64 0) := (HZ.out).cell rfl
            have y2 : x1.frozen? ⟨w.heap.size, 2, none⟩ = false := (HZ.out).free 2
            have z3 : x1.cell? ⟨w.heap.size, 3, none⟩ = some (.int .u64 0) := (HZ.out).cell rfl
            have y3 : x1.frozen? ⟨w.heap.size, 3, none⟩ = false := (HZ.out).free 3
            have z4 : x1.cell? ⟨w.heap.size, 4, none⟩ = some (.int .u64 0) := (HZ.out).cell rfl
            have y4 : x1.frozen? ⟨w.heap.size, 4, none⟩ = false := (HZ.out).free 4
            have z5 : x1.cell? ⟨w.heap.size, 5, none⟩ = some (.int .u64 0) := (HZ.out).cell rfl
            have y5 : x1.frozen? ⟨w.heap.size, 5, none⟩ = false := (HZ.out).free 5
            have z6 : x1.cell? ⟨w.heap.size, 6, none⟩ = some (.int .u64 0) := (HZ.out).cell rfl
            have y6 : x1.frozen? ⟨w.heap.size, 6, none⟩ = false := (HZ.out).free 6
            clear HRN HRS HD S0
            go_wp2
            have HZ7 := eset7 (HZ.out) (.slice none 0 0) (.slice none 0 0) (.int .i64 0) (.int .u64 0) (.int .u64 0) (.int .u64 0) (.int .u64 0)
            refine bodyPost_ret (rread_results (e := 3) HZ7 _ rfl rfl) rfl ?_
            exact HN.out _ ((HB.out).grown (gset7 _ w.heap.size _ _ _ _ _ _ _) (HB.out).size (fun k hk => by have : w.heap.size = k := Option.some.inj hk; omega))
          · obtain ⟨c, rfl⟩ := Int.eq_ofNat_of_zero_le hC0
            have hc4 : c ≤ 40 := by omega
            obtain ⟨C2, hC2⟩ : ∃ x, 2 * c = x := ⟨_, rfl⟩
            obtain ⟨Wn, hWn⟩ : ∃ x, 2 * c + 5 = x := ⟨_, rfl⟩
            have hk1 : IntKind.u64.wrap (2 * (c : Int)) = (C2 : Int) := by simp [IntKind.wrap, IntKind.bits, IntKind.signed]; omega
            have hk2 : IntKind.i64.wrap (C2 : Int) = (C2 : Int) := by simp [IntKind.wrap, IntKind.bits, IntKind.signed]; omega
            have hk3 : IntKind.i64.wrap ((C2 : Int) + 5) = (Wn : Int) := by simp [IntKind.wrap, IntKind.bits, IntKind.signed]; omega
            have hk4 : IntKind.i64.wrap (c : Int) = (c : Int) := by simp [IntKind.wrap, IntKind.bits, IntKind.signed]; omega
            have HC2 := hide hC2
            have HWN := hide hWn
            have HNO := hide (fun j => red_stop (X := zs) j)
            have HGR := hide (fun j => red_great (X := zs) j)
            have HEN := hide (red_end (X := zs))
            rw [HCX.out, Int.toNat_natCast, hWn] at HNO HGR HEN
            have HFX := hide (show ∀ n, fX zs (n + 1) = fX zs n ++ [⟨nr (s1X zs) (2 * n), nr (s1X zs) (2 * n + 1)⟩] from fX_next zs)
            have HRED := hide (show okR zs = true → mayB (rawE zs) = true → red zs = some (rawE zs) from fun h1 h2 => by unfold red; rw [h1, h2]; rfl)
            have HRAW := hide (show rawE zs = ⟨d0, fX zs c, nr (s1X zs) C2, nr (s1X zs) (C2 + 1), nr (s1X zs) (C2 + 2), nr (s1X zs) (C2 + 3), nr (s1X zs) (C2 + 4)⟩ from by
              have h1 := HRW.out
              unfold rawE at h1 ⊢
              simp only at h1
              rw [HCX.out, Int.toNat_natCast, hC2, h1])
            have HOKR := hide (show (stN (s1X zs) Wn).2 = false → (stN (s1X zs) Wn).1.length = 0 → okR zs = true from fun h1 h2 => by
              unfold okR
              rw [HCX.out, Int.toNat_natCast, hWn, h1, h2, HUZ.out]
              simp
              omega)
            have HRG := hide (show ∀ j, 0 ≤ nr (s1X zs) j from fun j => (nr_range (s1X zs) (by rw [HS1.out]; exact fun z hz => HBR.out z (List.mem_of_mem_drop hz)) j).1)
            have hw2 : Wn ≤ 85 := by omega
            have hqw : c ≤ Wn := by omega
            clear hC2 hWn
            generalize hB : x1.heap.size = B at *
            go_wp2_with fail
            go_loopw [5, 12, 13] (fun tp v ti wr => ∃ j P : Nat, tp = .int .i64 P ∧ ti = .int .i64 j ∧ j ≤ Wn ∧ P ≤ s.size ∧ Hid (stN (s1X zs) j = (zs.drop P, false)) ∧ Hid (OwnU wr B v ((List.range j).map (nr (s1X zs)))) ∧ Hid (Below B x1 wr) ∧ Hid (B ≤ wr.heap.size) ∧ Hid (∀ k, k < j → nr (s1X zs) k ≤ 281474976710656)) (fun _ _ ti _ => Wn - (intOf ti).toNat)
            case atStart => exact ⟨0, sn + q0, by go_num, rfl, by omega, hq0, HS1, hide (ownU_nil _ _), hide (hB ▸ Below.refl _ _), hide (by rw [← hB]; exact Nat.le_refl _), hide (fun k hk => absurd hk (by omega))⟩
            case round =>
              obtain ⟨j, P, rfl, rfl, hj, hP, hst, hown, hbel, hbsz, hall⟩ := hrel
              by_cases hlt : j < Wn
              · have hqj : (j : Int) < (Wn : Int) := by omega
                have hf := tk_facts (zs.drop P) 0 0 (by omega) (fun z hz => HBR.out z (List.mem_of_mem_drop hz)) (by omega) (by simp)
                have hsz := tk_size (zs.drop P) 0 0 (by omega)
                obtain ⟨x, t1, e1, hT⟩ : ∃ x t e, tk (zs.drop P) 0 0 = (x, t, e) := ⟨_, _, _, rfl⟩
                rw [hT] at hf hsz
                simp only at hf hsz
                rw [List.length_drop] at hsz
                obtain ⟨q1, rfl⟩ := Int.eq_ofNat_of_zero_le hsz.1
                have hq1 : P + q1 ≤ s.size := by omega
                have CT := hide (show Calls Try.prog 45 #[.string (s.extract P s.size)] wr fun e w' => e = .returned (.tuple #[.int .u64 x, .int .i64 (q1 : Int), .int .i64 e1]) ∧ w' = wr from by
                  have := reftake_any (s.extract P s.size) (zs.drop P) wr (by rw [ByteArray.size_extract]; omega) (sz_drop HS.out P hP) (range_of fun z hz => HBR.out z (List.mem_of_mem_drop hz))
                  rw [hT] at this
                  exact this)
                have HT := hide hT
                have hx0 := hf.1
                have hx1 := hf.2.1
                clear hf hsz hT
                go_wp2_with fail
                refine CT.out.mono ?_
                rintro e y ⟨rfl, hy⟩
                have hy' := hy.symm
                subst hy'
                have SX := hide (S0.out.keep (hB.symm ▸ hbel.out))
                have HZX := hide SX.out.z
                have HBX := hide SX.out.bel
                clear CT
                by_cases he1 : e1 = 0
                · have heb1 : (e1 != 0) = false := by simp [he1]
                  have HNX := hide (show nr (s1X zs) j = x from by unfold nr rt; rw [hst.out]; simp only; rw [HT.out]; simp only; rw [if_pos he1])
                  have HSX := hide (show stN (s1X zs) (j + 1) = (zs.drop (P + q1), false) from by show (rt (stN (s1X zs) j)).2 = _; unfold rt; rw [hst.out]; simp only; rw [HT.out]; simp only; rw [if_pos he1, Int.toNat_natCast, List.drop_drop])
                  clear he1 HT
                  by_cases hbig : (281474976710656 : Int) < x
                  · have HN := hide (HRN.out (HGR.out j hlt (by rw [HNX.out]; exact hbig)))
                    have z0 : wr.cell? ⟨w.heap.size, 0, none⟩ = some (.slice none 0 0) := (HZX.out).cell rfl
                    have y0 : wr.frozen? ⟨w.heap.size, 0, none⟩ = false := (HZX.out).free 0
                    have z1 : wr.cell? ⟨w.heap.size, 1, none⟩ = some (.slice none 0 0) := (HZX.out).cell rfl
                    have y1 : wr.frozen? ⟨w.heap.size, 1, none⟩ = false := (HZX.out).free 1
                    have z2 : wr.cell? ⟨w.heap.size, 2, none⟩ = some (.int .i64 0) := (HZX.out).cell rfl
                    have y2 : wr.frozen? ⟨w.heap.size, 2, none⟩ = false := (HZX.out).free 2
                    have z3 : wr.cell? ⟨w.heap.size, 3, none⟩ = some (.int .u64 0) := (HZX.out).cell rfl
                    have y3 : wr.frozen? ⟨w.heap.size, 3, none⟩ = false := (HZX.out).free 3
                    have z4 : wr.cell? ⟨w.heap.size, 4, none⟩ = some (.int .u64 0) := (HZX.out).cell rfl
                    have y4 : wr.frozen? ⟨w.heap.size, 4, none⟩ = false := (HZX.out).free 4
                    have z5 : wr.cell? ⟨w.heap.size, 5, none⟩ = some (.int .u64 0) := (HZX.out).cell rfl
                    have y5 : wr.frozen? ⟨w.heap.size, 5, none⟩ = false := (HZX.out).free 5
                    have z6 : wr.cell? ⟨w.heap.size, 6, none⟩ = some (.int .u64 0) := (HZX.out).cell rfl
                    have y6 : wr.frozen? ⟨w.heap.size, 6, none⟩ = false := (HZX.out).free 6
                    clear HRN HRS HD S0 SX HNO HGR HEN HRED HRAW HOKR
                    go_wp2
                    have HZ7 := eset7 (HZX.out) (.slice none 0 0) (.slice none 0 0) (.int .i64 0) (.int .u64 0) (.int .u64 0) (.int .u64 0) (.int .u64 0)
                    refine bodyPost_ret (rread_results (e := 3) HZ7 _ rfl rfl) rfl ?_
                    exact HN.out _ ((HBX.out).grown (gset7 _ w.heap.size _ _ _ _ _ _ _) (HBX.out).size (fun k hk => by have : w.heap.size = k := Option.some.inj hk; omega))
                  · have A1 := (Below.refl _ wr).alloc (Nat.le_refl _) (Obj.cells #[.int .u64 x] 24)
                    have HO1 := hide (show OwnU (wr.alloc (Obj.cells #[.int .u64 x] 24)) B u12 ((List.range j).map (nr (s1X zs))) from ownU_grown hown.out (fgb_below A1 none) (fun k h => by cases h))
                    have HE1 := hide (ek_new wr #[.int .u64 x] 24)
                    have HS1' := hide (Nat.le_trans hbsz.out A1.size)
                    have HB1' := hide (hbel.out.trans (A1.mono hbsz.out))
                    have HLT := hide (show ((List.range j).map (nr (s1X zs))).length ≤ 100000 from by simp; omega)
                    have HRN2 := hide (show (List.range (j + 1)).map (nr (s1X zs)) = (List.range j).map (nr (s1X zs)) ++ [x] from by rw [List.range_succ, List.map_append, ← HNX.out]; rfl)
                    clear A1
                    go_wp2_with (first
                      | (at_builtin; refine wpList_append_u rfl _ _ rfl B _ ((List.range j).map (nr (s1X zs))) rfl HO1.out wr.heap.size x rfl HE1.out HLT.out HS1'.out ?_; intro v2 w2 o2 g2 k2; have HO2 := hide o2; have HB2 := hide (HB1'.out.grown g2 HS1'.out k2); have HS2 := hide (Nat.le_trans HS1'.out g2.size); clear o2 g2 k2)
                      | fail)
                    go_roundw
                    case rel => exact ⟨j + 1, P + q1, by go_num, by go_num, by omega, hq1, HSX, hide (by rw [HRN2.out]; exact HO2.out), HB2, HS2, hide (fun k hk => by
                      rcases Nat.lt_or_ge k j with h | h
                      · exact hall.out k h
                      · rw [show k = j from by omega, HNX.out]; omega)⟩
                    case measure => simp [intOf]; omega
                · have heb1 : (e1 != 0) = true := by simp [he1]
                  have HN := hide (HRN.out (HNO.out (j + 1) (by omega) (by show (rt (stN (s1X zs) j)).2.2 = true; unfold rt; rw [hst.out]; simp only; rw [HT.out]; simp only; rw [if_neg he1])))
                  have z0 : wr.cell? ⟨w.heap.size, 0, none⟩ = some (.slice none 0 0) := (HZX.out).cell rfl
                  have y0 : wr.frozen? ⟨w.heap.size, 0, none⟩ = false := (HZX.out).free 0
                  have z1 : wr.cell? ⟨w.heap.size, 1, none⟩ = some (.slice none 0 0) := (HZX.out).cell rfl
                  have y1 : wr.frozen? ⟨w.heap.size, 1, none⟩ = false := (HZX.out).free 1
                  have z2 : wr.cell? ⟨w.heap.size, 2, none⟩ = some (.int .i64 0) := (HZX.out).cell rfl
                  have y2 : wr.frozen? ⟨w.heap.size, 2, none⟩ = false := (HZX.out).free 2
                  have z3 : wr.cell? ⟨w.heap.size, 3, none⟩ = some (.int .u64 0) := (HZX.out).cell rfl
                  have y3 : wr.frozen? ⟨w.heap.size, 3, none⟩ = false := (HZX.out).free 3
                  have z4 : wr.cell? ⟨w.heap.size, 4, none⟩ = some (.int .u64 0) := (HZX.out).cell rfl
                  have y4 : wr.frozen? ⟨w.heap.size, 4, none⟩ = false := (HZX.out).free 4
                  have z5 : wr.cell? ⟨w.heap.size, 5, none⟩ = some (.int .u64 0) := (HZX.out).cell rfl
                  have y5 : wr.frozen? ⟨w.heap.size, 5, none⟩ = false := (HZX.out).free 5
                  have z6 : wr.cell? ⟨w.heap.size, 6, none⟩ = some (.int .u64 0) := (HZX.out).cell rfl
                  have y6 : wr.frozen? ⟨w.heap.size, 6, none⟩ = false := (HZX.out).free 6
                  clear HRN HRS HD S0 SX HNO HGR HEN HRED HRAW HOKR he1
                  go_wp2
                  have HZ7 := eset7 (HZX.out) (.slice none 0 0) (.slice none 0 0) (.int .i64 0) (.int .u64 0) (.int .u64 0) (.int .u64 0) (.int .u64 0)
                  refine bodyPost_ret (rread_results (e := 3) HZ7 _ rfl rfl) rfl ?_
                  exact HN.out _ ((HBX.out).grown (gset7 _ w.heap.size _ _ _ _ _ _ _) (HBX.out).size (fun k hk => by have : w.heap.size = k := Option.some.inj hk; omega))
              · obtain rfl : j = Wn := by omega
                obtain ⟨x2, hx2⟩ : ∃ x, x = wr := ⟨_, rfl⟩
                subst hx2
                have hqj : ¬ ((j : Int) < (j : Int)) := by omega
                obtain ⟨la, lc, hlv, hlus⟩ := ownU_us hown.out (fun z hz => by
                  obtain ⟨k, hk, rfl⟩ := List.mem_map.1 hz
                  have := HRG.out k
                  have := hall.out k (List.mem_range.1 hk)
                  omega)
                have hlen : ((List.range j).map (nr (s1X zs))).length = j := by simp
                rw [hlen] at hlv hlus
                have HLB := hide (show ∀ a, la = some a → B ≤ a.block ∧ a.block < x2.heap.size from fun a ha => World.ownsRow.lt hown.out a.block (by rw [hlv, ha]; rfl))
                subst hlv
                have hQB : Q < B := by rw [← hB]; exact S0.out.q.lt
                have RV0 := hide (show RV w Q x2.heap.size fa i fk d0 la j lc ((List.range j).map (nr (s1X zs))) x2 #[.slice fa i fk, .slice none 0 0, .int .i64 0, .int .u64 0, .int .u64 0, .int .u64 0, .int .u64 0] (.slice none 0 0) [] from
                  ⟨S0.out.keep (hB.symm ▸ hbel.out), ownF_nil _ _, HZD.out _ hbel.out, hlus, fun a ha => (by have := HZB.out a ha; have := hbsz.out; omega), fun a ha => (by have := HLB.out a ha; omega), Nat.le_refl _, by have := hbsz.out; omega⟩)
                have HBD := hide (show ∀ k, k < j → 0 ≤ nr (s1X zs) k ∧ nr (s1X zs) k ≤ 281474976710656 from fun k hk => ⟨HRG.out k, hall.out k hk⟩)
                have HGT := hide (show ∀ k, k < j → ((List.range j).map (nr (s1X zs))).getD k 0 = nr (s1X zs) k from fun k hk => map_range_get _ _ _ hk)
                have HX2 := hide hbsz.out
                have HFW := hide (show ∀ n, n ≤ c → ∀ x ∈ fX zs n, x.wf from fun n hn x hx => by
                  obtain ⟨k, hk, rfl⟩ := List.mem_map.1 hx
                  have hk := List.mem_range.1 hk
                  have hw := HWN.out
                  have h1 := HBD.out (2 * k) (by omega)
                  have h2 := HBD.out (2 * k + 1) (by omega)
                  unfold Fi.wf
                  simp only
                  omega)
                generalize hNS : (List.range j).map (nr (s1X zs)) = NS at *
                generalize hB3 : x2.heap.size = B3 at *
                clear hown hall hlus S0 HZ HB hlen hNS HNO HGR
                go_wp2_with fail
                go_loopw [17] (fun t wr => ∃ n : Nat, n ≤ c ∧ t = .int .i64 n ∧ Hid (∃ a k, RV w Q B3 fa i fk d0 la j lc NS wr #[.slice fa i fk, .slice a n k, .int .i64 0, .int .u64 0, .int .u64 0, .int .u64 0, .int .u64 0] (.slice a n k) (fX zs n))) (fun t _ => c - (intOf t).toNat)
                case atStart => exact ⟨0, by omega, rfl, hide ⟨none, 0, RV0.out⟩⟩
                case round =>
                  obtain ⟨n, hn, rfl, hsv⟩ := hrel
                  obtain ⟨ga, gk, sv⟩ := hsv.out
                  have S1 := hide sv
                  clear hsv sv RV0
                  by_cases hlt : n < c
                  · have hqn : (n : Int) < (c : Int) := by omega
                    have hw := HWN.out
                    obtain ⟨lb, lof, hla, hcell⟩ := S1.out.l.2.2.2 (by omega)
                    subst hla
                    obtain ⟨I2, hI2⟩ : ∃ x, 2 * n = x := ⟨_, rfl⟩
                    obtain ⟨I3, hI3⟩ : ∃ x, 2 * n + 1 = x := ⟨_, rfl⟩
                    have hm1 : IntKind.i64.wrap (2 * (n : Int)) = (I2 : Int) := by simp [IntKind.wrap, IntKind.bits, IntKind.signed]; omega
                    have hm2 : IntKind.i64.wrap ((I2 : Int) + 1) = (I3 : Int) := by simp [IntKind.wrap, IntKind.bits, IntKind.signed]; omega
                    have hi2 : I2 < j := by omega
                    have hi3 : I3 < j := by omega
                    have c2 := hcell I2 hi2
                    have c3 := hcell I3 hi3
                    rw [HGT.out I2 hi2] at c2
                    rw [HGT.out I3 hi3] at c3
                    have b2 := HBD.out I2 hi2
                    have b3 := HBD.out I3 hi3
                    have HFN := hide (show fX zs n ++ [⟨nr (s1X zs) I2, nr (s1X zs) I3⟩] = fX zs (n + 1) from by rw [HFX.out, ← hI3, ← hI2])
                    have HLE := hide (show (fX zs n).length + 1 ≤ 3518437208883 from by rw [fX_len]; omega)
                    have HL8 := hide (show (fX zs (n + 1)).length = n + 1 from fX_len _ _)
                    have HWF8 := hide (HFW.out (n + 1) (by omega))
                    generalize nr (s1X zs) I2 = lv at *
                    generalize nr (s1X zs) I3 = nm at *
                    have hwl : IntKind.i64.wrap lv = lv := by simp [IntKind.wrap, IntKind.bits, IntKind.signed]; omega
                    have hwn : IntKind.i64.wrap nm = nm := by simp [IntKind.wrap, IntKind.bits, IntKind.signed]; omega
                    have HWF := hide (show Fi.wf ⟨lv, nm⟩ from by unfold Fi.wf; simp only; omega)
                    have q1 : wr.cell? ⟨Q, 1, none⟩ = some (.slice ga n gk) := S1.out.rt.q.cell rfl
                    have hQl : Q < wr.heap.size := S1.out.rt.q.lt
                    have hlbl : lb < wr.heap.size := World.block_lt_of_cell? wr _ c2
                    have S7 := hide (S1.out.drew.keep ((Below.refl _ wr.drew).alloc (Nat.le_refl _) (Obj.cells #[.int .i64 lv, .int .i64 nm] 29)))
                    have HO7 := hide S7.out.own
                    have HSZ7 := hide S7.out.sz
                    have HF7 := hide (fs_block HWF.out (fhpS wr.drew (Obj.cells #[.int .i64 lv, .int .i64 nm] 29) _ rfl))
                    have hi2i : (I2 : Int) < (j : Int) := by omega
                    have hi3i : (I3 : Int) < (j : Int) := by omega
                    clear hcell hI2 hI3 hw HFX HFW HBD HGT
                    go_wp2_with fail
                    go_region_law (refine step_append_files rfl (.tmp 106) (.tmp 121) rfl B3 _ (fX zs n) (by first | rfl | simp [Act.eval, Act.put]) HO7.out (some ⟨wr.heap.size, 0, none⟩) 1 1 [⟨lv, nm⟩] (by first | rfl | simp [Act.eval, Act.put]) HF7.out HLE.out HSZ7.out ?_; intro v8 w8 o8 g8 k8; have S8 := hide (S7.out.row g8 k8 o8); have o9 : OwnF w8 B3 v8 (fX zs (n + 1)) := (HFN.out ▸ o8); obtain ⟨a8, c8, hv8, _, _, _⟩ := ownF_fs o9 HWF8.out; rw [HL8.out] at hv8; subst hv8; have q8 : w8.cell? ⟨Q, 1, none⟩ = some (.slice ga n gk) := S8.out.rt.q.cell rfl; have f8 := S8.out.rt.q.free 1; clear o8 g8 k8)
                    all_goals
                      clear q1
                      go_wp2
                      go_roundw
                      case rel => exact ⟨n + 1, by omega, by go_num, hide ⟨a8, c8, by have := S8.out.setq 1 (.slice a8 (n + 1) c8); rw [HFN.out] at this; exact this⟩⟩
                      case measure => simp [intOf]; omega
                  · obtain rfl : n = c := by omega
                    have hqn : ¬ ((n : Int) < (n : Int)) := by omega
                    obtain ⟨x3, hx3⟩ : ∃ x, x = wr := ⟨_, rfl⟩
                    subst hx3
                    have hw := HWN.out
                    have hcc := HC2.out
                    obtain ⟨lb, lof, hla, hcell⟩ := S1.out.l.2.2.2 (by omega)
                    subst hla
                    obtain ⟨M1, hM1⟩ : ∃ x, C2 + 1 = x := ⟨_, rfl⟩
                    have m1 : IntKind.i64.wrap ((C2 : Int) + 1) = (M1 : Int) := by simp [IntKind.wrap, IntKind.bits, IntKind.signed]; omega
                    obtain ⟨M2, hM2⟩ : ∃ x, C2 + 2 = x := ⟨_, rfl⟩
                    have m2 : IntKind.i64.wrap ((C2 : Int) + 2) = (M2 : Int) := by simp [IntKind.wrap, IntKind.bits, IntKind.signed]; omega
                    obtain ⟨M3, hM3⟩ : ∃ x, C2 + 3 = x := ⟨_, rfl⟩
                    have m3 : IntKind.i64.wrap ((C2 : Int) + 3) = (M3 : Int) := by simp [IntKind.wrap, IntKind.bits, IntKind.signed]; omega
                    obtain ⟨M4, hM4⟩ : ∃ x, C2 + 4 = x := ⟨_, rfl⟩
                    have m4 : IntKind.i64.wrap ((C2 : Int) + 4) = (M4 : Int) := by simp [IntKind.wrap, IntKind.bits, IntKind.signed]; omega
                    have g0 : C2 < j := by omega
                    have gi0 : (C2 : Int) < (j : Int) := by omega
                    have c0 := hcell C2 g0
                    have hng0 := HGT.out C2 g0
                    have b0 := HBD.out C2 g0
                    have g1 : M1 < j := by omega
                    have gi1 : (M1 : Int) < (j : Int) := by omega
                    have c1 := hcell M1 g1
                    have hng1 := HGT.out M1 g1
                    have b1 := HBD.out M1 g1
                    have g2 : M2 < j := by omega
                    have gi2 : (M2 : Int) < (j : Int) := by omega
                    have c2 := hcell M2 g2
                    have hng2 := HGT.out M2 g2
                    have b2 := HBD.out M2 g2
                    have g3 : M3 < j := by omega
                    have gi3 : (M3 : Int) < (j : Int) := by omega
                    have c3 := hcell M3 g3
                    have hng3 := HGT.out M3 g3
                    have b3 := HBD.out M3 g3
                    have g4 : M4 < j := by omega
                    have gi4 : (M4 : Int) < (j : Int) := by omega
                    have c4 := hcell M4 g4
                    have hng4 := HGT.out M4 g4
                    have b4 := HBD.out M4 g4
                    obtain ⟨v0, hv0⟩ : ∃ x, nr (s1X zs) C2 = x := ⟨_, rfl⟩
                    rw [hv0] at b0
                    have HNG0 := hide (hng0.trans hv0)
                    clear hng0 c0
                    have HV0 := hide hv0
                    have q2 : x3.cell? ⟨Q, 2, none⟩ = some (.int .i64 0) := S1.out.rt.q.cell rfl
                    have f2 := S1.out.rt.q.free 2
                    obtain ⟨v1, hv1⟩ : ∃ x, nr (s1X zs) M1 = x := ⟨_, rfl⟩
                    rw [hv1] at b1
                    have HNG1 := hide (hng1.trans hv1)
                    clear hng1 c1
                    have HV1 := hide hv1
                    have q3 : x3.cell? ⟨Q, 3, none⟩ = some (.int .u64 0) := S1.out.rt.q.cell rfl
                    have f3 := S1.out.rt.q.free 3
                    obtain ⟨v2, hv2⟩ : ∃ x, nr (s1X zs) M2 = x := ⟨_, rfl⟩
                    rw [hv2] at b2
                    have HNG2 := hide (hng2.trans hv2)
                    clear hng2 c2
                    have HV2 := hide hv2
                    have q4 : x3.cell? ⟨Q, 4, none⟩ = some (.int .u64 0) := S1.out.rt.q.cell rfl
                    have f4 := S1.out.rt.q.free 4
                    obtain ⟨v3, hv3⟩ : ∃ x, nr (s1X zs) M3 = x := ⟨_, rfl⟩
                    rw [hv3] at b3
                    have HNG3 := hide (hng3.trans hv3)
                    clear hng3 c3
                    have HV3 := hide hv3
                    have q5 : x3.cell? ⟨Q, 5, none⟩ = some (.int .u64 0) := S1.out.rt.q.cell rfl
                    have f5 := S1.out.rt.q.free 5
                    obtain ⟨v4, hv4⟩ : ∃ x, nr (s1X zs) M4 = x := ⟨_, rfl⟩
                    rw [hv4] at b4
                    have HNG4 := hide (hng4.trans hv4)
                    clear hng4 c4
                    have HV4 := hide hv4
                    have q6 : x3.cell? ⟨Q, 6, none⟩ = some (.int .u64 0) := S1.out.rt.q.cell rfl
                    have f6 := S1.out.rt.q.free 6
                    have hwl : IntKind.i64.wrap v0 = v0 := by simp [IntKind.wrap, IntKind.bits, IntKind.signed]; omega
                    have hQl : Q < x3.heap.size := S1.out.rt.q.lt
                    have hnb : lb ≠ Q := by have := S1.out.lb _ rfl; simp only at this; omega
                    have HWL := hide hw
                    have HFWN := hide (HFW.out n (Nat.le_refl _))
                    have hgq : Q < B3 := S1.out.qb
                    have HM := hide (show C2 + 1 = M1 ∧ C2 + 2 = M2 ∧ C2 + 3 = M3 ∧ C2 + 4 = M4 from ⟨hM1, hM2, hM3, hM4⟩)
                    clear hcell hM1 hM2 hM3 hM4 hw hcc HFX HFW HBD HGT hv0 hv1 hv2 hv3 hv4
                    have HRAW2 := hide (show rawE zs = ⟨d0, fX zs n, v0, v1, v2, v3, v4⟩ from by
                      obtain ⟨e1, e2, e3, e4⟩ := HM.out
                      rw [HRAW.out, e1, e2, e3, e4, HV0.out, HV1.out, HV2.out, HV3.out, HV4.out])
                    have HL0 := hide (show ∀ W, Us W (some ⟨lb, lof, none⟩) j lc NS → W.cell? ⟨lb, lof + C2, none⟩ = some (.int .u64 v0) from fun W h => by
                      obtain ⟨b9, o9, e9, h9⟩ := h.2.2.2 (by omega)
                      injection e9 with e9
                      injection e9 with e9 e8
                      subst e9 e8
                      rw [h9 C2 g0, HNG0.out])
                    have HL1 := hide (show ∀ W, Us W (some ⟨lb, lof, none⟩) j lc NS → W.cell? ⟨lb, lof + M1, none⟩ = some (.int .u64 v1) from fun W h => by
                      obtain ⟨b9, o9, e9, h9⟩ := h.2.2.2 (by omega)
                      injection e9 with e9
                      injection e9 with e9 e8
                      subst e9 e8
                      rw [h9 M1 g1, HNG1.out])
                    have HL2 := hide (show ∀ W, Us W (some ⟨lb, lof, none⟩) j lc NS → W.cell? ⟨lb, lof + M2, none⟩ = some (.int .u64 v2) from fun W h => by
                      obtain ⟨b9, o9, e9, h9⟩ := h.2.2.2 (by omega)
                      injection e9 with e9
                      injection e9 with e9 e8
                      subst e9 e8
                      rw [h9 M2 g2, HNG2.out])
                    have HL3 := hide (show ∀ W, Us W (some ⟨lb, lof, none⟩) j lc NS → W.cell? ⟨lb, lof + M3, none⟩ = some (.int .u64 v3) from fun W h => by
                      obtain ⟨b9, o9, e9, h9⟩ := h.2.2.2 (by omega)
                      injection e9 with e9
                      injection e9 with e9 e8
                      subst e9 e8
                      rw [h9 M3 g3, HNG3.out])
                    have HL4 := hide (show ∀ W, Us W (some ⟨lb, lof, none⟩) j lc NS → W.cell? ⟨lb, lof + M4, none⟩ = some (.int .u64 v4) from fun W h => by
                      obtain ⟨b9, o9, e9, h9⟩ := h.2.2.2 (by omega)
                      injection e9 with e9
                      injection e9 with e9 e8
                      subst e9 e8
                      rw [h9 M4 g4, HNG4.out])
                    clear HM HRAW HV0 HV1 HV2 HV3 HV4 q2 f2 q3 f3 q4 f4 q5 f5 q6 f6
                    go_wp2_with fail
                    refine region_si (fun _ k v _ => ([.slice (some ⟨lb, lof, none⟩) j lc, .int .i64 (C2 : Int), .pointer (some ⟨lb, lof + C2, none⟩), .int .u64 v0, .int .i64 v0, .slice (some ⟨lb, lof, none⟩) j lc, .int .i64 (C2 : Int), .int .i64 (M1 : Int), .pointer (some ⟨lb, lof + M1, none⟩), .int .u64 v1, .slice (some ⟨lb, lof, none⟩) j lc, .int .i64 (C2 : Int), .int .i64 (M2 : Int), .pointer (some ⟨lb, lof + M2, none⟩), .int .u64 v2, .slice (some ⟨lb, lof, none⟩) j lc, .int .i64 (C2 : Int), .int .i64 (M3 : Int), .pointer (some ⟨lb, lof + M3, none⟩), .int .u64 v3, .slice (some ⟨lb, lof, none⟩) j lc, .int .i64 (C2 : Int), .int .i64 (M4 : Int), .pointer (some ⟨lb, lof + M4, none⟩), .int .u64 v4, .pointer (some ⟨Q, 2, none⟩), undef, .pointer (some ⟨Q, 3, none⟩), undef, .pointer (some ⟨Q, 4, none⟩), undef, .pointer (some ⟨Q, 5, none⟩), undef, .pointer (some ⟨Q, 6, none⟩), undef] : List Value)[k]? = some v) (fun L W => RV w Q B3 fa i fk d0 (some ⟨lb, lof, none⟩) j lc NS W (csq (.slice fa i fk) (.slice ga n gk) v0 v1 v2 v3 v4 L) (.slice ga n gk) (fX zs n)) (by kernel_rfl) (by kernel_rfl) (by kernel_rfl) ?start ?step ?fin
                    case start =>
                      show RV _ _ _ _ _ _ _ _ _ _ _ _ _ _ _
                      rw [csq_start rfl]
                      exact S1.out.drew
                    case step =>
                      clear HRN HRS HRED HEN HOKR HRAW2
                      intro L A W i_ hI hi hLi hw
                      have hi2 : i_ < 35 := hi
                      rcases (show i_ = 0 ∨ i_ = 1 ∨ i_ = 2 ∨ i_ = 3 ∨ i_ = 4 ∨ i_ = 5 ∨ i_ = 6 ∨ i_ = 7 ∨ i_ = 8 ∨ i_ = 9 ∨ i_ = 10 ∨ i_ = 11 ∨ i_ = 12 ∨ i_ = 13 ∨ i_ = 14 ∨ i_ = 15 ∨ i_ = 16 ∨ i_ = 17 ∨ i_ = 18 ∨ i_ = 19 ∨ i_ = 20 ∨ i_ = 21 ∨ i_ = 22 ∨ i_ = 23 ∨ i_ = 24 ∨ i_ = 25 ∨ i_ = 26 ∨ i_ = 27 ∨ i_ = 28 ∨ i_ = 29 ∨ i_ = 30 ∨ i_ = 31 ∨ i_ = 32 ∨ i_ = 33 ∨ i_ = 34 by omega) with rfl | rfl | rfl | rfl | rfl | rfl | rfl | rfl | rfl | rfl | rfl | rfl | rfl | rfl | rfl | rfl | rfl | rfl | rfl | rfl | rfl | rfl | rfl | rfl | rfl | rfl | rfl | rfl | rfl | rfl | rfl | rfl | rfl | rfl | rfl
                      · have e0 := hI.kept 12 _ (by decide +kernel) rfl
                        refine hI.pure (by kernel_rfl) (by decide +kernel) (i := 0) (d := 127) rfl rfl rfl (v := .slice (some ⟨lb, lof, none⟩) j lc) rfl (fun j u _ _ h => h) (by have hgg := hI.g; rw [csq_old 0 (by decide) (by decide) (by decide) (by decide) (by decide)]; exact hgg) ?_
                        intro K hKK
                        go_simp
                        exact hKK
                      · have e0 := hI.kept 18 _ (by decide +kernel) rfl
                        refine hI.pure (by kernel_rfl) (by decide +kernel) (i := 1) (d := 128) rfl rfl rfl (v := .int .i64 (C2 : Int)) rfl (fun j u _ _ h => h) (by have hgg := hI.g; rw [csq_old 1 (by decide) (by decide) (by decide) (by decide) (by decide)]; exact hgg) ?_
                        intro K hKK
                        go_simp
                        exact hKK
                      · obtain ⟨_, e0, h0⟩ := hI.val 0 127 (by decide +kernel) (hw 0 (by kernel_rfl)) (by kernel_rfl)
                        obtain rfl := Option.some.inj h0
                        clear h0
                        obtain ⟨_, e1, h1⟩ := hI.val 1 128 (by decide +kernel) (hw 1 (by kernel_rfl)) (by kernel_rfl)
                        obtain rfl := Option.some.inj h1
                        clear h1
                        refine hI.pure (by kernel_rfl) (by decide +kernel) (i := 2) (d := 129) rfl rfl rfl (v := .pointer (some ⟨lb, lof + C2, none⟩)) rfl (fun j u _ _ h => h) (by have hgg := hI.g; rw [csq_old 2 (by decide) (by decide) (by decide) (by decide) (by decide)]; exact hgg) ?_
                        intro K hKK
                        go_simp
                        exact hKK
                      · obtain ⟨_, e0, h0⟩ := hI.val 2 129 (by decide +kernel) (hw 2 (by kernel_rfl)) (by kernel_rfl)
                        obtain rfl := Option.some.inj h0
                        clear h0
                        have cl := HL0.out W hI.g.l
                        refine hI.pure (by kernel_rfl) (by decide +kernel) (i := 3) (d := 130) rfl rfl rfl (v := .int .u64 v0) rfl (fun j u _ _ h => h) (by have hgg := hI.g; rw [csq_old 3 (by decide) (by decide) (by decide) (by decide) (by decide)]; exact hgg) ?_
                        intro K hKK
                        go_simp
                        exact hKK
                      · obtain ⟨_, e0, h0⟩ := hI.val 3 130 (by decide +kernel) (hw 3 (by kernel_rfl)) (by kernel_rfl)
                        obtain rfl := Option.some.inj h0
                        clear h0
                        refine hI.pure (by kernel_rfl) (by decide +kernel) (i := 4) (d := 131) rfl rfl rfl (v := .int .i64 v0) rfl (fun j u _ _ h => h) (by have hgg := hI.g; rw [csq_old 4 (by decide) (by decide) (by decide) (by decide) (by decide)]; exact hgg) ?_
                        intro K hKK
                        go_simp
                        exact hKK
                      · have e0 := hI.kept 12 _ (by decide +kernel) rfl
                        refine hI.pure (by kernel_rfl) (by decide +kernel) (i := 5) (d := 132) rfl rfl rfl (v := .slice (some ⟨lb, lof, none⟩) j lc) rfl (fun j u _ _ h => h) (by have hgg := hI.g; rw [csq_old 5 (by decide) (by decide) (by decide) (by decide) (by decide)]; exact hgg) ?_
                        intro K hKK
                        go_simp
                        exact hKK
                      · have e0 := hI.kept 18 _ (by decide +kernel) rfl
                        refine hI.pure (by kernel_rfl) (by decide +kernel) (i := 6) (d := 133) rfl rfl rfl (v := .int .i64 (C2 : Int)) rfl (fun j u _ _ h => h) (by have hgg := hI.g; rw [csq_old 6 (by decide) (by decide) (by decide) (by decide) (by decide)]; exact hgg) ?_
                        intro K hKK
                        go_simp
                        exact hKK
                      · obtain ⟨_, e0, h0⟩ := hI.val 6 133 (by decide +kernel) (hw 6 (by kernel_rfl)) (by kernel_rfl)
                        obtain rfl := Option.some.inj h0
                        clear h0
                        refine hI.pure (by kernel_rfl) (by decide +kernel) (i := 7) (d := 134) rfl rfl rfl (v := .int .i64 (M1 : Int)) rfl (fun j u _ _ h => h) (by have hgg := hI.g; rw [csq_old 7 (by decide) (by decide) (by decide) (by decide) (by decide)]; exact hgg) ?_
                        intro K hKK
                        go_simp
                        exact hKK
                      · obtain ⟨_, e0, h0⟩ := hI.val 5 132 (by decide +kernel) (hw 5 (by kernel_rfl)) (by kernel_rfl)
                        obtain rfl := Option.some.inj h0
                        clear h0
                        obtain ⟨_, e1, h1⟩ := hI.val 7 134 (by decide +kernel) (hw 7 (by kernel_rfl)) (by kernel_rfl)
                        obtain rfl := Option.some.inj h1
                        clear h1
                        refine hI.pure (by kernel_rfl) (by decide +kernel) (i := 8) (d := 135) rfl rfl rfl (v := .pointer (some ⟨lb, lof + M1, none⟩)) rfl (fun j u _ _ h => h) (by have hgg := hI.g; rw [csq_old 8 (by decide) (by decide) (by decide) (by decide) (by decide)]; exact hgg) ?_
                        intro K hKK
                        go_simp
                        exact hKK
                      · obtain ⟨_, e0, h0⟩ := hI.val 8 135 (by decide +kernel) (hw 8 (by kernel_rfl)) (by kernel_rfl)
                        obtain rfl := Option.some.inj h0
                        clear h0
                        have cl := HL1.out W hI.g.l
                        refine hI.pure (by kernel_rfl) (by decide +kernel) (i := 9) (d := 136) rfl rfl rfl (v := .int .u64 v1) rfl (fun j u _ _ h => h) (by have hgg := hI.g; rw [csq_old 9 (by decide) (by decide) (by decide) (by decide) (by decide)]; exact hgg) ?_
                        intro K hKK
                        go_simp
                        exact hKK
                      · have e0 := hI.kept 12 _ (by decide +kernel) rfl
                        refine hI.pure (by kernel_rfl) (by decide +kernel) (i := 10) (d := 137) rfl rfl rfl (v := .slice (some ⟨lb, lof, none⟩) j lc) rfl (fun j u _ _ h => h) (by have hgg := hI.g; rw [csq_old 10 (by decide) (by decide) (by decide) (by decide) (by decide)]; exact hgg) ?_
                        intro K hKK
                        go_simp
                        exact hKK
                      · have e0 := hI.kept 18 _ (by decide +kernel) rfl
                        refine hI.pure (by kernel_rfl) (by decide +kernel) (i := 11) (d := 138) rfl rfl rfl (v := .int .i64 (C2 : Int)) rfl (fun j u _ _ h => h) (by have hgg := hI.g; rw [csq_old 11 (by decide) (by decide) (by decide) (by decide) (by decide)]; exact hgg) ?_
                        intro K hKK
                        go_simp
                        exact hKK
                      · obtain ⟨_, e0, h0⟩ := hI.val 11 138 (by decide +kernel) (hw 11 (by kernel_rfl)) (by kernel_rfl)
                        obtain rfl := Option.some.inj h0
                        clear h0
                        refine hI.pure (by kernel_rfl) (by decide +kernel) (i := 12) (d := 139) rfl rfl rfl (v := .int .i64 (M2 : Int)) rfl (fun j u _ _ h => h) (by have hgg := hI.g; rw [csq_old 12 (by decide) (by decide) (by decide) (by decide) (by decide)]; exact hgg) ?_
                        intro K hKK
                        go_simp
                        exact hKK
                      · obtain ⟨_, e0, h0⟩ := hI.val 10 137 (by decide +kernel) (hw 10 (by kernel_rfl)) (by kernel_rfl)
                        obtain rfl := Option.some.inj h0
                        clear h0
                        obtain ⟨_, e1, h1⟩ := hI.val 12 139 (by decide +kernel) (hw 12 (by kernel_rfl)) (by kernel_rfl)
                        obtain rfl := Option.some.inj h1
                        clear h1
                        refine hI.pure (by kernel_rfl) (by decide +kernel) (i := 13) (d := 140) rfl rfl rfl (v := .pointer (some ⟨lb, lof + M2, none⟩)) rfl (fun j u _ _ h => h) (by have hgg := hI.g; rw [csq_old 13 (by decide) (by decide) (by decide) (by decide) (by decide)]; exact hgg) ?_
                        intro K hKK
                        go_simp
                        exact hKK
                      · obtain ⟨_, e0, h0⟩ := hI.val 13 140 (by decide +kernel) (hw 13 (by kernel_rfl)) (by kernel_rfl)
                        obtain rfl := Option.some.inj h0
                        clear h0
                        have cl := HL2.out W hI.g.l
                        refine hI.pure (by kernel_rfl) (by decide +kernel) (i := 14) (d := 141) rfl rfl rfl (v := .int .u64 v2) rfl (fun j u _ _ h => h) (by have hgg := hI.g; rw [csq_old 14 (by decide) (by decide) (by decide) (by decide) (by decide)]; exact hgg) ?_
                        intro K hKK
                        go_simp
                        exact hKK
                      · have e0 := hI.kept 12 _ (by decide +kernel) rfl
                        refine hI.pure (by kernel_rfl) (by decide +kernel) (i := 15) (d := 142) rfl rfl rfl (v := .slice (some ⟨lb, lof, none⟩) j lc) rfl (fun j u _ _ h => h) (by have hgg := hI.g; rw [csq_old 15 (by decide) (by decide) (by decide) (by decide) (by decide)]; exact hgg) ?_
                        intro K hKK
                        go_simp
                        exact hKK
                      · have e0 := hI.kept 18 _ (by decide +kernel) rfl
                        refine hI.pure (by kernel_rfl) (by decide +kernel) (i := 16) (d := 143) rfl rfl rfl (v := .int .i64 (C2 : Int)) rfl (fun j u _ _ h => h) (by have hgg := hI.g; rw [csq_old 16 (by decide) (by decide) (by decide) (by decide) (by decide)]; exact hgg) ?_
                        intro K hKK
                        go_simp
                        exact hKK
                      · obtain ⟨_, e0, h0⟩ := hI.val 16 143 (by decide +kernel) (hw 16 (by kernel_rfl)) (by kernel_rfl)
                        obtain rfl := Option.some.inj h0
                        clear h0
                        refine hI.pure (by kernel_rfl) (by decide +kernel) (i := 17) (d := 144) rfl rfl rfl (v := .int .i64 (M3 : Int)) rfl (fun j u _ _ h => h) (by have hgg := hI.g; rw [csq_old 17 (by decide) (by decide) (by decide) (by decide) (by decide)]; exact hgg) ?_
                        intro K hKK
                        go_simp
                        exact hKK
                      · obtain ⟨_, e0, h0⟩ := hI.val 15 142 (by decide +kernel) (hw 15 (by kernel_rfl)) (by kernel_rfl)
                        obtain rfl := Option.some.inj h0
                        clear h0
                        obtain ⟨_, e1, h1⟩ := hI.val 17 144 (by decide +kernel) (hw 17 (by kernel_rfl)) (by kernel_rfl)
                        obtain rfl := Option.some.inj h1
                        clear h1
                        refine hI.pure (by kernel_rfl) (by decide +kernel) (i := 18) (d := 145) rfl rfl rfl (v := .pointer (some ⟨lb, lof + M3, none⟩)) rfl (fun j u _ _ h => h) (by have hgg := hI.g; rw [csq_old 18 (by decide) (by decide) (by decide) (by decide) (by decide)]; exact hgg) ?_
                        intro K hKK
                        go_simp
                        exact hKK
                      · obtain ⟨_, e0, h0⟩ := hI.val 18 145 (by decide +kernel) (hw 18 (by kernel_rfl)) (by kernel_rfl)
                        obtain rfl := Option.some.inj h0
                        clear h0
                        have cl := HL3.out W hI.g.l
                        refine hI.pure (by kernel_rfl) (by decide +kernel) (i := 19) (d := 146) rfl rfl rfl (v := .int .u64 v3) rfl (fun j u _ _ h => h) (by have hgg := hI.g; rw [csq_old 19 (by decide) (by decide) (by decide) (by decide) (by decide)]; exact hgg) ?_
                        intro K hKK
                        go_simp
                        exact hKK
                      · have e0 := hI.kept 12 _ (by decide +kernel) rfl
                        refine hI.pure (by kernel_rfl) (by decide +kernel) (i := 20) (d := 147) rfl rfl rfl (v := .slice (some ⟨lb, lof, none⟩) j lc) rfl (fun j u _ _ h => h) (by have hgg := hI.g; rw [csq_old 20 (by decide) (by decide) (by decide) (by decide) (by decide)]; exact hgg) ?_
                        intro K hKK
                        go_simp
                        exact hKK
                      · have e0 := hI.kept 18 _ (by decide +kernel) rfl
                        refine hI.pure (by kernel_rfl) (by decide +kernel) (i := 21) (d := 148) rfl rfl rfl (v := .int .i64 (C2 : Int)) rfl (fun j u _ _ h => h) (by have hgg := hI.g; rw [csq_old 21 (by decide) (by decide) (by decide) (by decide) (by decide)]; exact hgg) ?_
                        intro K hKK
                        go_simp
                        exact hKK
                      · obtain ⟨_, e0, h0⟩ := hI.val 21 148 (by decide +kernel) (hw 21 (by kernel_rfl)) (by kernel_rfl)
                        obtain rfl := Option.some.inj h0
                        clear h0
                        refine hI.pure (by kernel_rfl) (by decide +kernel) (i := 22) (d := 149) rfl rfl rfl (v := .int .i64 (M4 : Int)) rfl (fun j u _ _ h => h) (by have hgg := hI.g; rw [csq_old 22 (by decide) (by decide) (by decide) (by decide) (by decide)]; exact hgg) ?_
                        intro K hKK
                        go_simp
                        exact hKK
                      · obtain ⟨_, e0, h0⟩ := hI.val 20 147 (by decide +kernel) (hw 20 (by kernel_rfl)) (by kernel_rfl)
                        obtain rfl := Option.some.inj h0
                        clear h0
                        obtain ⟨_, e1, h1⟩ := hI.val 22 149 (by decide +kernel) (hw 22 (by kernel_rfl)) (by kernel_rfl)
                        obtain rfl := Option.some.inj h1
                        clear h1
                        refine hI.pure (by kernel_rfl) (by decide +kernel) (i := 23) (d := 150) rfl rfl rfl (v := .pointer (some ⟨lb, lof + M4, none⟩)) rfl (fun j u _ _ h => h) (by have hgg := hI.g; rw [csq_old 23 (by decide) (by decide) (by decide) (by decide) (by decide)]; exact hgg) ?_
                        intro K hKK
                        go_simp
                        exact hKK
                      · obtain ⟨_, e0, h0⟩ := hI.val 23 150 (by decide +kernel) (hw 23 (by kernel_rfl)) (by kernel_rfl)
                        obtain rfl := Option.some.inj h0
                        clear h0
                        have cl := HL4.out W hI.g.l
                        refine hI.pure (by kernel_rfl) (by decide +kernel) (i := 24) (d := 151) rfl rfl rfl (v := .int .u64 v4) rfl (fun j u _ _ h => h) (by have hgg := hI.g; rw [csq_old 24 (by decide) (by decide) (by decide) (by decide) (by decide)]; exact hgg) ?_
                        intro K hKK
                        go_simp
                        exact hKK
                      · have e0 := hI.kept 7 _ (by decide +kernel) rfl
                        refine hI.pure (by kernel_rfl) (by decide +kernel) (i := 25) (d := 152) rfl rfl rfl (v := .pointer (some ⟨Q, 2, none⟩)) rfl (fun j u _ _ h => h) (by have hgg := hI.g; rw [csq_old 25 (by decide) (by decide) (by decide) (by decide) (by decide)]; exact hgg) ?_
                        intro K hKK
                        go_simp
                        exact hKK
                      · obtain ⟨_, e0, h0⟩ := hI.val 25 152 (by decide +kernel) (hw 25 (by kernel_rfl)) (by kernel_rfl)
                        obtain rfl := Option.some.inj h0
                        clear h0
                        obtain ⟨_, e1, h1⟩ := hI.val 4 131 (by decide +kernel) (hw 4 (by kernel_rfl)) (by kernel_rfl)
                        obtain rfl := Option.some.inj h1
                        clear h1
                        refine hI.store (by decide +kernel) (i := 26) rfl rfl rfl ?_
                        intro K hKK
                        have cq := hI.g.rt.q.cell (o := 2) rfl
                        have cf := hI.g.rt.q.free 2
                        have HSG := hide (hI.g.setq 2 (.int .i64 v0))
                        go_simp
                        refine hKK _ (fun j e u _ _ _ _ h => h) ?_
                        rw [csq_26]
                        exact HSG.out
                      · have e0 := hI.kept 7 _ (by decide +kernel) rfl
                        refine hI.pure (by kernel_rfl) (by decide +kernel) (i := 27) (d := 153) rfl rfl rfl (v := .pointer (some ⟨Q, 3, none⟩)) rfl (fun j u _ _ h => h) (by have hgg := hI.g; rw [csq_old 27 (by decide) (by decide) (by decide) (by decide) (by decide)]; exact hgg) ?_
                        intro K hKK
                        go_simp
                        exact hKK
                      · obtain ⟨_, e0, h0⟩ := hI.val 27 153 (by decide +kernel) (hw 27 (by kernel_rfl)) (by kernel_rfl)
                        obtain rfl := Option.some.inj h0
                        clear h0
                        obtain ⟨_, e1, h1⟩ := hI.val 9 136 (by decide +kernel) (hw 9 (by kernel_rfl)) (by kernel_rfl)
                        obtain rfl := Option.some.inj h1
                        clear h1
                        refine hI.store (by decide +kernel) (i := 28) rfl rfl rfl ?_
                        intro K hKK
                        have cq := hI.g.rt.q.cell (o := 3) rfl
                        have cf := hI.g.rt.q.free 3
                        have HSG := hide (hI.g.setq 3 (.int .u64 v1))
                        go_simp
                        refine hKK _ (fun j e u _ _ _ _ h => h) ?_
                        rw [csq_28]
                        exact HSG.out
                      · have e0 := hI.kept 7 _ (by decide +kernel) rfl
                        refine hI.pure (by kernel_rfl) (by decide +kernel) (i := 29) (d := 154) rfl rfl rfl (v := .pointer (some ⟨Q, 4, none⟩)) rfl (fun j u _ _ h => h) (by have hgg := hI.g; rw [csq_old 29 (by decide) (by decide) (by decide) (by decide) (by decide)]; exact hgg) ?_
                        intro K hKK
                        go_simp
                        exact hKK
                      · obtain ⟨_, e0, h0⟩ := hI.val 29 154 (by decide +kernel) (hw 29 (by kernel_rfl)) (by kernel_rfl)
                        obtain rfl := Option.some.inj h0
                        clear h0
                        obtain ⟨_, e1, h1⟩ := hI.val 14 141 (by decide +kernel) (hw 14 (by kernel_rfl)) (by kernel_rfl)
                        obtain rfl := Option.some.inj h1
                        clear h1
                        refine hI.store (by decide +kernel) (i := 30) rfl rfl rfl ?_
                        intro K hKK
                        have cq := hI.g.rt.q.cell (o := 4) rfl
                        have cf := hI.g.rt.q.free 4
                        have HSG := hide (hI.g.setq 4 (.int .u64 v2))
                        go_simp
                        refine hKK _ (fun j e u _ _ _ _ h => h) ?_
                        rw [csq_30]
                        exact HSG.out
                      · have e0 := hI.kept 7 _ (by decide +kernel) rfl
                        refine hI.pure (by kernel_rfl) (by decide +kernel) (i := 31) (d := 155) rfl rfl rfl (v := .pointer (some ⟨Q, 5, none⟩)) rfl (fun j u _ _ h => h) (by have hgg := hI.g; rw [csq_old 31 (by decide) (by decide) (by decide) (by decide) (by decide)]; exact hgg) ?_
                        intro K hKK
                        go_simp
                        exact hKK
                      · obtain ⟨_, e0, h0⟩ := hI.val 31 155 (by decide +kernel) (hw 31 (by kernel_rfl)) (by kernel_rfl)
                        obtain rfl := Option.some.inj h0
                        clear h0
                        obtain ⟨_, e1, h1⟩ := hI.val 19 146 (by decide +kernel) (hw 19 (by kernel_rfl)) (by kernel_rfl)
                        obtain rfl := Option.some.inj h1
                        clear h1
                        refine hI.store (by decide +kernel) (i := 32) rfl rfl rfl ?_
                        intro K hKK
                        have cq := hI.g.rt.q.cell (o := 5) rfl
                        have cf := hI.g.rt.q.free 5
                        have HSG := hide (hI.g.setq 5 (.int .u64 v3))
                        go_simp
                        refine hKK _ (fun j e u _ _ _ _ h => h) ?_
                        rw [csq_32]
                        exact HSG.out
                      · have e0 := hI.kept 7 _ (by decide +kernel) rfl
                        refine hI.pure (by kernel_rfl) (by decide +kernel) (i := 33) (d := 156) rfl rfl rfl (v := .pointer (some ⟨Q, 6, none⟩)) rfl (fun j u _ _ h => h) (by have hgg := hI.g; rw [csq_old 33 (by decide) (by decide) (by decide) (by decide) (by decide)]; exact hgg) ?_
                        intro K hKK
                        go_simp
                        exact hKK
                      · obtain ⟨_, e0, h0⟩ := hI.val 33 156 (by decide +kernel) (hw 33 (by kernel_rfl)) (by kernel_rfl)
                        obtain rfl := Option.some.inj h0
                        clear h0
                        obtain ⟨_, e1, h1⟩ := hI.val 24 151 (by decide +kernel) (hw 24 (by kernel_rfl)) (by kernel_rfl)
                        obtain rfl := Option.some.inj h1
                        clear h1
                        refine hI.store (by decide +kernel) (i := 34) rfl rfl rfl ?_
                        intro K hKK
                        have cq := hI.g.rt.q.cell (o := 6) rfl
                        have cf := hI.g.rt.q.free 6
                        have HSG := hide (hI.g.setq 6 (.int .u64 v4))
                        go_simp
                        refine hKK _ (fun j e u _ _ _ _ h => h) ?_
                        rw [csq_34]
                        exact HSG.out
                    case fin =>
                      intro L A X hI hall
                      obtain ⟨_, s0, h0⟩ := hI.val 0 127 (by decide +kernel) (hall 0 (by decide +kernel)) (by kernel_rfl)
                      obtain rfl := Option.some.inj h0
                      obtain ⟨_, s1, h1⟩ := hI.val 1 128 (by decide +kernel) (hall 1 (by decide +kernel)) (by kernel_rfl)
                      obtain rfl := Option.some.inj h1
                      obtain ⟨_, s2, h2⟩ := hI.val 2 129 (by decide +kernel) (hall 2 (by decide +kernel)) (by kernel_rfl)
                      obtain rfl := Option.some.inj h2
                      obtain ⟨_, s3, h3⟩ := hI.val 3 130 (by decide +kernel) (hall 3 (by decide +kernel)) (by kernel_rfl)
                      obtain rfl := Option.some.inj h3
                      obtain ⟨_, s4, h4⟩ := hI.val 4 131 (by decide +kernel) (hall 4 (by decide +kernel)) (by kernel_rfl)
                      obtain rfl := Option.some.inj h4
                      obtain ⟨_, s5, h5⟩ := hI.val 5 132 (by decide +kernel) (hall 5 (by decide +kernel)) (by kernel_rfl)
                      obtain rfl := Option.some.inj h5
                      obtain ⟨_, s6, h6⟩ := hI.val 6 133 (by decide +kernel) (hall 6 (by decide +kernel)) (by kernel_rfl)
                      obtain rfl := Option.some.inj h6
                      obtain ⟨_, s7, h7⟩ := hI.val 7 134 (by decide +kernel) (hall 7 (by decide +kernel)) (by kernel_rfl)
                      obtain rfl := Option.some.inj h7
                      obtain ⟨_, s8, h8⟩ := hI.val 8 135 (by decide +kernel) (hall 8 (by decide +kernel)) (by kernel_rfl)
                      obtain rfl := Option.some.inj h8
                      obtain ⟨_, s9, h9⟩ := hI.val 9 136 (by decide +kernel) (hall 9 (by decide +kernel)) (by kernel_rfl)
                      obtain rfl := Option.some.inj h9
                      obtain ⟨_, s10, h10⟩ := hI.val 10 137 (by decide +kernel) (hall 10 (by decide +kernel)) (by kernel_rfl)
                      obtain rfl := Option.some.inj h10
                      obtain ⟨_, s11, h11⟩ := hI.val 11 138 (by decide +kernel) (hall 11 (by decide +kernel)) (by kernel_rfl)
                      obtain rfl := Option.some.inj h11
                      obtain ⟨_, s12, h12⟩ := hI.val 12 139 (by decide +kernel) (hall 12 (by decide +kernel)) (by kernel_rfl)
                      obtain rfl := Option.some.inj h12
                      obtain ⟨_, s13, h13⟩ := hI.val 13 140 (by decide +kernel) (hall 13 (by decide +kernel)) (by kernel_rfl)
                      obtain rfl := Option.some.inj h13
                      obtain ⟨_, s14, h14⟩ := hI.val 14 141 (by decide +kernel) (hall 14 (by decide +kernel)) (by kernel_rfl)
                      obtain rfl := Option.some.inj h14
                      obtain ⟨_, s15, h15⟩ := hI.val 15 142 (by decide +kernel) (hall 15 (by decide +kernel)) (by kernel_rfl)
                      obtain rfl := Option.some.inj h15
                      obtain ⟨_, s16, h16⟩ := hI.val 16 143 (by decide +kernel) (hall 16 (by decide +kernel)) (by kernel_rfl)
                      obtain rfl := Option.some.inj h16
                      obtain ⟨_, s17, h17⟩ := hI.val 17 144 (by decide +kernel) (hall 17 (by decide +kernel)) (by kernel_rfl)
                      obtain rfl := Option.some.inj h17
                      obtain ⟨_, s18, h18⟩ := hI.val 18 145 (by decide +kernel) (hall 18 (by decide +kernel)) (by kernel_rfl)
                      obtain rfl := Option.some.inj h18
                      obtain ⟨_, s19, h19⟩ := hI.val 19 146 (by decide +kernel) (hall 19 (by decide +kernel)) (by kernel_rfl)
                      obtain rfl := Option.some.inj h19
                      obtain ⟨_, s20, h20⟩ := hI.val 20 147 (by decide +kernel) (hall 20 (by decide +kernel)) (by kernel_rfl)
                      obtain rfl := Option.some.inj h20
                      obtain ⟨_, s21, h21⟩ := hI.val 21 148 (by decide +kernel) (hall 21 (by decide +kernel)) (by kernel_rfl)
                      obtain rfl := Option.some.inj h21
                      obtain ⟨_, s22, h22⟩ := hI.val 22 149 (by decide +kernel) (hall 22 (by decide +kernel)) (by kernel_rfl)
                      obtain rfl := Option.some.inj h22
                      obtain ⟨_, s23, h23⟩ := hI.val 23 150 (by decide +kernel) (hall 23 (by decide +kernel)) (by kernel_rfl)
                      obtain rfl := Option.some.inj h23
                      obtain ⟨_, s24, h24⟩ := hI.val 24 151 (by decide +kernel) (hall 24 (by decide +kernel)) (by kernel_rfl)
                      obtain rfl := Option.some.inj h24
                      obtain ⟨_, s25, h25⟩ := hI.val 25 152 (by decide +kernel) (hall 25 (by decide +kernel)) (by kernel_rfl)
                      obtain rfl := Option.some.inj h25
                      obtain ⟨_, s27, h27⟩ := hI.val 27 153 (by decide +kernel) (hall 27 (by decide +kernel)) (by kernel_rfl)
                      obtain rfl := Option.some.inj h27
                      obtain ⟨_, s29, h29⟩ := hI.val 29 154 (by decide +kernel) (hall 29 (by decide +kernel)) (by kernel_rfl)
                      obtain rfl := Option.some.inj h29
                      obtain ⟨_, s31, h31⟩ := hI.val 31 155 (by decide +kernel) (hall 31 (by decide +kernel)) (by kernel_rfl)
                      obtain rfl := Option.some.inj h31
                      obtain ⟨_, s33, h33⟩ := hI.val 33 156 (by decide +kernel) (hall 33 (by decide +kernel)) (by kernel_rfl)
                      obtain rfl := Option.some.inj h33
                      have hfr := si_frame hI [(127, .slice (some ⟨lb, lof, none⟩) j lc), (128, .int .i64 (C2 : Int)), (129, .pointer (some ⟨lb, lof + C2, none⟩)), (130, .int .u64 v0), (131, .int .i64 v0), (132, .slice (some ⟨lb, lof, none⟩) j lc), (133, .int .i64 (C2 : Int)), (134, .int .i64 (M1 : Int)), (135, .pointer (some ⟨lb, lof + M1, none⟩)), (136, .int .u64 v1), (137, .slice (some ⟨lb, lof, none⟩) j lc), (138, .int .i64 (C2 : Int)), (139, .int .i64 (M2 : Int)), (140, .pointer (some ⟨lb, lof + M2, none⟩)), (141, .int .u64 v2), (142, .slice (some ⟨lb, lof, none⟩) j lc), (143, .int .i64 (C2 : Int)), (144, .int .i64 (M3 : Int)), (145, .pointer (some ⟨lb, lof + M3, none⟩)), (146, .int .u64 v3), (147, .slice (some ⟨lb, lof, none⟩) j lc), (148, .int .i64 (C2 : Int)), (149, .int .i64 (M4 : Int)), (150, .pointer (some ⟨lb, lof + M4, none⟩)), (151, .int .u64 v4), (152, .pointer (some ⟨Q, 2, none⟩)), (153, .pointer (some ⟨Q, 3, none⟩)), (154, .pointer (some ⟨Q, 4, none⟩)), (155, .pointer (some ⟨Q, 5, none⟩)), (156, .pointer (some ⟨Q, 6, none⟩))] (by kernel_rfl) (List.forall_mem_cons.2 ⟨s0, (List.forall_mem_cons.2 ⟨s1, (List.forall_mem_cons.2 ⟨s2, (List.forall_mem_cons.2 ⟨s3, (List.forall_mem_cons.2 ⟨s4, (List.forall_mem_cons.2 ⟨s5, (List.forall_mem_cons.2 ⟨s6, (List.forall_mem_cons.2 ⟨s7, (List.forall_mem_cons.2 ⟨s8, (List.forall_mem_cons.2 ⟨s9, (List.forall_mem_cons.2 ⟨s10, (List.forall_mem_cons.2 ⟨s11, (List.forall_mem_cons.2 ⟨s12, (List.forall_mem_cons.2 ⟨s13, (List.forall_mem_cons.2 ⟨s14, (List.forall_mem_cons.2 ⟨s15, (List.forall_mem_cons.2 ⟨s16, (List.forall_mem_cons.2 ⟨s17, (List.forall_mem_cons.2 ⟨s18, (List.forall_mem_cons.2 ⟨s19, (List.forall_mem_cons.2 ⟨s20, (List.forall_mem_cons.2 ⟨s21, (List.forall_mem_cons.2 ⟨s22, (List.forall_mem_cons.2 ⟨s23, (List.forall_mem_cons.2 ⟨s24, (List.forall_mem_cons.2 ⟨s25, (List.forall_mem_cons.2 ⟨s27, (List.forall_mem_cons.2 ⟨s29, (List.forall_mem_cons.2 ⟨s31, (List.forall_mem_cons.2 ⟨s33, (by intro x hx; cases hx)⟩)⟩)⟩)⟩)⟩)⟩)⟩)⟩)⟩)⟩)⟩)⟩)⟩)⟩)⟩)⟩)⟩)⟩)⟩)⟩)⟩)⟩)⟩)⟩)⟩)⟩)⟩)⟩)⟩)⟩)
                      have hsf := hI.g
                      rw [csq_end (hall 26 (by decide +kernel)) (hall 28 (by decide +kernel)) (hall 30 (by decide +kernel)) (hall 32 (by decide +kernel)) (hall 34 (by decide +kernel))] at hsf
                      have SF := hide hsf
                      rw [hfr]
                      clear hfr hI hall hsf s0 h0 s1 h1 s2 h2 s3 h3 s4 h4 s5 h5 s6 h6 s7 h7 s8 h8 s9 h9 s10 h10 s11 h11 s12 h12 s13 h13 s14 h14 s15 h15 s16 h16 s17 h17 s18 h18 s19 h19 s20 h20 s21 h21 s22 h22 s23 h23 s24 h24 s25 h25 s27 h27 s29 h29 s31 h31 s33 h33
                      simp only [List.foldl, List.setIfInBounds_toArray, List.set_cons_zero, List.set_cons_succ]
                      have HZF := hide SF.out.rt.z
                      have HBF := hide SF.out.rt.bel
                      have hlt0 := SF.out.rt.lt
                      have hqx : Q < X.heap.size := SF.out.rt.q.lt
                      have e0 : X.cell? ⟨Q, 0, none⟩ = some (.slice fa i fk) := (SF.out.rt.q).cell rfl
                      have e1 : X.cell? ⟨Q, 1, none⟩ = some (.slice ga n gk) := (SF.out.rt.q).cell rfl
                      have e2 : X.cell? ⟨Q, 2, none⟩ = some (.int .i64 v0) := (SF.out.rt.q).cell rfl
                      have e3 : X.cell? ⟨Q, 3, none⟩ = some (.int .u64 v1) := (SF.out.rt.q).cell rfl
                      have e4 : X.cell? ⟨Q, 4, none⟩ = some (.int .u64 v2) := (SF.out.rt.q).cell rfl
                      have e5 : X.cell? ⟨Q, 5, none⟩ = some (.int .u64 v3) := (SF.out.rt.q).cell rfl
                      have e6 : X.cell? ⟨Q, 6, none⟩ = some (.int .u64 v4) := (SF.out.rt.q).cell rfl
                      have CM := hide (show ∀ x, x = X → Calls Try.prog 15 #[.agg #[.slice fa i fk, .slice ga n gk, .int .i64 v0, .int .u64 v1, .int .u64 v2, .int .u64 v3, .int .u64 v4]] x fun e w' => e = .returned (.int .i64 (emay ⟨d0, fX zs n, v0, v1, v2, v3, v4⟩)) ∧ Below x.heap.size x w' from fun x hx => by
                        subst hx
                        have hfs := ownF_fsN SF.out.own HFWN.out (fX_len _ _)
                        have := HDN.out
                        exact editmay_any fa i fk ga n gk ⟨d0, fX zs n, v0, v1, v2, v3, v4⟩ _ SF.out.d hfs.2 (by omega) (by omega))
                      clear b0 b1 b2 b3 b4 m1 m2 m3 m4 g0 g1 g2 g3 g4 gi0 gi1 gi2 gi3 gi4 hwl hQl hnb
                      by_cases hPe : P = s.size
                      · have q : ((P : Int) != (s.size : Int)) = false := by simp [hPe]
                        have HOK := hide (HOKR.out (by rw [hst.out]) (by rw [hst.out, List.length_drop]; omega))
                        clear HEN HOKR hst hPe
                        go_wp2_with fail
                        refine (CM.out _ rfl).mono ?_
                        rintro e y ⟨rfl, hby⟩
                        have HZY := hide (HZF.out.below hby HZF.out.lt)
                        have HBY := hide (HBF.out.trans (hby.mono HBF.out.size))
                        have HQY := hide (SF.out.rt.q.below hby SF.out.rt.q.lt)
                        have HOY := hide (ownF_keep SF.out.own hby)
                        have HSY := hide (SF.out.d.below hby (Nat.le_refl _))
                        have HDB := hide SF.out.db
                        have hqy : Q < y.heap.size := HQY.out.lt
                        obtain ⟨om, hom⟩ : ∃ om, emay ⟨d0, fX zs n, v0, v1, v2, v3, v4⟩ = om := ⟨_, rfl⟩
                        have HOM := hide hom
                        rw [hom]
                        clear hom CM hby SF e0 e1 e2 e3 e4 e5 e6 HZF HBF hqx
                        have z0 : y.cell? ⟨w.heap.size, 0, none⟩ = some (.slice none 0 0) := (HZY.out).cell rfl
                        have y0 : y.frozen? ⟨w.heap.size, 0, none⟩ = false := (HZY.out).free 0
                        have z1 : y.cell? ⟨w.heap.size, 1, none⟩ = some (.slice none 0 0) := (HZY.out).cell rfl
                        have y1 : y.frozen? ⟨w.heap.size, 1, none⟩ = false := (HZY.out).free 1
                        have z2 : y.cell? ⟨w.heap.size, 2, none⟩ = some (.int .i64 0) := (HZY.out).cell rfl
                        have y2 : y.frozen? ⟨w.heap.size, 2, none⟩ = false := (HZY.out).free 2
                        have z3 : y.cell? ⟨w.heap.size, 3, none⟩ = some (.int .u64 0) := (HZY.out).cell rfl
                        have y3 : y.frozen? ⟨w.heap.size, 3, none⟩ = false := (HZY.out).free 3
                        have z4 : y.cell? ⟨w.heap.size, 4, none⟩ = some (.int .u64 0) := (HZY.out).cell rfl
                        have y4 : y.frozen? ⟨w.heap.size, 4, none⟩ = false := (HZY.out).free 4
                        have z5 : y.cell? ⟨w.heap.size, 5, none⟩ = some (.int .u64 0) := (HZY.out).cell rfl
                        have y5 : y.frozen? ⟨w.heap.size, 5, none⟩ = false := (HZY.out).free 5
                        have z6 : y.cell? ⟨w.heap.size, 6, none⟩ = some (.int .u64 0) := (HZY.out).cell rfl
                        have y6 : y.frozen? ⟨w.heap.size, 6, none⟩ = false := (HZY.out).free 6
                        by_cases ho : om = 0
                        · have qo : (om != 0) = false := by simp [ho]
                          have HRE := hide (HRED.out HOK.out ((mayB_iff _).2 (by rw [HRAW2.out, HOM.out, ho])))
                          have e0 : y.cell? ⟨Q, 0, none⟩ = some (.slice fa i fk) := (HQY.out).cell rfl
                          have e1 : y.cell? ⟨Q, 1, none⟩ = some (.slice ga n gk) := (HQY.out).cell rfl
                          have e2 : y.cell? ⟨Q, 2, none⟩ = some (.int .i64 v0) := (HQY.out).cell rfl
                          have e3 : y.cell? ⟨Q, 3, none⟩ = some (.int .u64 v1) := (HQY.out).cell rfl
                          have e4 : y.cell? ⟨Q, 4, none⟩ = some (.int .u64 v2) := (HQY.out).cell rfl
                          have e5 : y.cell? ⟨Q, 5, none⟩ = some (.int .u64 v3) := (HQY.out).cell rfl
                          have e6 : y.cell? ⟨Q, 6, none⟩ = some (.int .u64 v4) := (HQY.out).cell rfl
                          clear HOK HRED HRN HOM ho
                          go_wp2
                          have HZ7 := eset7 HZY.out (.slice fa i fk) (.slice ga n gk) (.int .i64 v0) (.int .u64 v1) (.int .u64 v2) (.int .u64 v3) (.int .u64 v4)
                          refine bodyPost_ret (rread_results (e := 0) HZ7 _ rfl rfl) rfl ?_
                          have hg := gset7 y w.heap.size (.slice fa i fk) (.slice ga n gk) (.int .i64 v0) (.int .u64 v1) (.int .u64 v2) (.int .u64 v3) (.int .u64 v4)
                          have hfl : (fX zs n).length = n := fX_len _ _
                          have hre := HRE.out
                          rw [HRAW2.out] at hre
                          have hres := HRS.out ⟨d0, fX zs n, v0, v1, v2, v3, v4⟩ _ fa fk ga gk hre (by
                            show Zs _ fa d0.length fk d0
                            rw [HDN.out]
                            exact HSY.out.gb hg (fun a ha e => by
                              have h1 : a.block = w.heap.size := Option.some.inj e
                              have := HDB.out a ha
                              omega)) (by
                            show Fs _ ga (fX zs n).length gk (fX zs n)
                            rw [hfl]
                            exact (ownF_fsN (ownF_grown HOY.out hg (fun k hk => by have : w.heap.size = k := Option.some.inj hk; omega)) HFWN.out hfl).2) (HBY.out.grown hg HBY.out.size (fun k hk => by have : w.heap.size = k := Option.some.inj hk; omega))
                          simp only at hres
                          rw [HDN.out, hfl] at hres
                          exact hres
                        · have qo : (om != 0) = true := by simp [ho]
                          have HN := hide (HRN.out (red_none fun _ hm => ho (by rw [← HOM.out, ← HRAW2.out]; exact (mayB_iff _).1 hm)))
                          clear HOK HRED HRN HRS HOM
                          go_wp2
                          have HZ7 := eset7 (HZY.out) (.slice none 0 0) (.slice none 0 0) (.int .i64 0) (.int .u64 0) (.int .u64 0) (.int .u64 0) (.int .u64 0)
                          refine bodyPost_ret (rread_results (e := 3) HZ7 _ rfl rfl) rfl ?_
                          exact HN.out _ ((HBY.out).grown (gset7 _ w.heap.size _ _ _ _ _ _ _) (HBY.out).size (fun k hk => by have : w.heap.size = k := Option.some.inj hk; omega))
                      · have q : ((P : Int) != (s.size : Int)) = true := by simp; omega
                        have HN := hide (HRN.out (HEN.out (by rw [hst.out]; show 0 < (zs.drop P).length; rw [List.length_drop]; omega)))
                        have z0 : X.cell? ⟨w.heap.size, 0, none⟩ = some (.slice none 0 0) := (HZF.out).cell rfl
                        have y0 : X.frozen? ⟨w.heap.size, 0, none⟩ = false := (HZF.out).free 0
                        have z1 : X.cell? ⟨w.heap.size, 1, none⟩ = some (.slice none 0 0) := (HZF.out).cell rfl
                        have y1 : X.frozen? ⟨w.heap.size, 1, none⟩ = false := (HZF.out).free 1
                        have z2 : X.cell? ⟨w.heap.size, 2, none⟩ = some (.int .i64 0) := (HZF.out).cell rfl
                        have y2 : X.frozen? ⟨w.heap.size, 2, none⟩ = false := (HZF.out).free 2
                        have z3 : X.cell? ⟨w.heap.size, 3, none⟩ = some (.int .u64 0) := (HZF.out).cell rfl
                        have y3 : X.frozen? ⟨w.heap.size, 3, none⟩ = false := (HZF.out).free 3
                        have z4 : X.cell? ⟨w.heap.size, 4, none⟩ = some (.int .u64 0) := (HZF.out).cell rfl
                        have y4 : X.frozen? ⟨w.heap.size, 4, none⟩ = false := (HZF.out).free 4
                        have z5 : X.cell? ⟨w.heap.size, 5, none⟩ = some (.int .u64 0) := (HZF.out).cell rfl
                        have y5 : X.frozen? ⟨w.heap.size, 5, none⟩ = false := (HZF.out).free 5
                        have z6 : X.cell? ⟨w.heap.size, 6, none⟩ = some (.int .u64 0) := (HZF.out).cell rfl
                        have y6 : X.frozen? ⟨w.heap.size, 6, none⟩ = false := (HZF.out).free 6
                        clear HEN HOKR hst hPe HRED HRN HRS CM SF e0 e1 e2 e3 e4 e5 e6
                        go_wp2
                        have HZ7 := eset7 (HZF.out) (.slice none 0 0) (.slice none 0 0) (.int .i64 0) (.int .u64 0) (.int .u64 0) (.int .u64 0) (.int .u64 0)
                        refine bodyPost_ret (rread_results (e := 3) HZ7 _ rfl rfl) rfl ?_
                        exact HN.out _ ((HBF.out).grown (gset7 _ w.heap.size _ _ _ _ _ _ _) (HBF.out).size (fun k hk => by have : w.heap.size = k := Option.some.inj hk; omega))
        · have heb : (e0 != 0) = true := by simp [he0]
          have HN := hide (HRN.out (red_head (by unfold s1X rt; rw [HS0.out]; simp only; rw [HT.out]; simp only; rw [if_neg he0])))
          have z0 : x1.cell? ⟨w.heap.size, 0, none⟩ = some (.slice none 0 0) := (HZ.out).cell rfl
          have y0 : x1.frozen? ⟨w.heap.size, 0, none⟩ = false := (HZ.out).free 0
          have z1 : x1.cell? ⟨w.heap.size, 1, none⟩ = some (.slice none 0 0) := (HZ.out).cell rfl
          have y1 : x1.frozen? ⟨w.heap.size, 1, none⟩ = false := (HZ.out).free 1
          have z2 : x1.cell? ⟨w.heap.size, 2, none⟩ = some (.int .i64 0) := (HZ.out).cell rfl
          have y2 : x1.frozen? ⟨w.heap.size, 2, none⟩ = false := (HZ.out).free 2
          have z3 : x1.cell? ⟨w.heap.size, 3, none⟩ = some (.int .u64 0) := (HZ.out).cell rfl
          have y3 : x1.frozen? ⟨w.heap.size, 3, none⟩ = false := (HZ.out).free 3
          have z4 : x1.cell? ⟨w.heap.size, 4, none⟩ = some (.int .u64 0) := (HZ.out).cell rfl
          have y4 : x1.frozen? ⟨w.heap.size, 4, none⟩ = false := (HZ.out).free 4
          have z5 : x1.cell? ⟨w.heap.size, 5, none⟩ = some (.int .u64 0) := (HZ.out).cell rfl
          have y5 : x1.frozen? ⟨w.heap.size, 5, none⟩ = false := (HZ.out).free 5
          have z6 : x1.cell? ⟨w.heap.size, 6, none⟩ = some (.int .u64 0) := (HZ.out).cell rfl
          have y6 : x1.frozen? ⟨w.heap.size, 6, none⟩ = false := (HZ.out).free 6
          clear HRN HRS HD S0 he0
          go_wp2
          have HZ7 := eset7 (HZ.out) (.slice none 0 0) (.slice none 0 0) (.int .i64 0) (.int .u64 0) (.int .u64 0) (.int .u64 0) (.int .u64 0)
          refine bodyPost_ret (rread_results (e := 3) HZ7 _ rfl rfl) rfl ?_
          exact HN.out _ ((HB.out).grown (gset7 _ w.heap.size _ _ _ _ _ _ _) (HB.out).size (fun k hk => by have : w.heap.size = k := Option.some.inj hk; omega))
  · have HN := hide (HRN.out (HUE.out her))
    have q : (er != 0) = true := by simpa using her
    have z0 : w1.cell? ⟨w.heap.size, 0, none⟩ = some (.slice none 0 0) := (HZ1.out).cell rfl
    have y0 : w1.frozen? ⟨w.heap.size, 0, none⟩ = false := (HZ1.out).free 0
    have z1 : w1.cell? ⟨w.heap.size, 1, none⟩ = some (.slice none 0 0) := (HZ1.out).cell rfl
    have y1 : w1.frozen? ⟨w.heap.size, 1, none⟩ = false := (HZ1.out).free 1
    have z2 : w1.cell? ⟨w.heap.size, 2, none⟩ = some (.int .i64 0) := (HZ1.out).cell rfl
    have y2 : w1.frozen? ⟨w.heap.size, 2, none⟩ = false := (HZ1.out).free 2
    have z3 : w1.cell? ⟨w.heap.size, 3, none⟩ = some (.int .u64 0) := (HZ1.out).cell rfl
    have y3 : w1.frozen? ⟨w.heap.size, 3, none⟩ = false := (HZ1.out).free 3
    have z4 : w1.cell? ⟨w.heap.size, 4, none⟩ = some (.int .u64 0) := (HZ1.out).cell rfl
    have y4 : w1.frozen? ⟨w.heap.size, 4, none⟩ = false := (HZ1.out).free 4
    have z5 : w1.cell? ⟨w.heap.size, 5, none⟩ = some (.int .u64 0) := (HZ1.out).cell rfl
    have y5 : w1.frozen? ⟨w.heap.size, 5, none⟩ = false := (HZ1.out).free 5
    have z6 : w1.cell? ⟨w.heap.size, 6, none⟩ = some (.int .u64 0) := (HZ1.out).cell rfl
    have y6 : w1.frozen? ⟨w.heap.size, 6, none⟩ = false := (HZ1.out).free 6
    clear HRN HRS HUE HUP HUN HD HS0 her
    go_wp2
    have HZ7 := eset7 (HZ1.out) (.slice none 0 0) (.slice none 0 0) (.int .i64 0) (.int .u64 0) (.int .u64 0) (.int .u64 0) (.int .u64 0)
    refine bodyPost_ret (rread_results (e := 3) HZ7 _ rfl rfl) rfl ?_
    exact HN.out _ ((HB1.out).grown (gset7 _ w.heap.size _ _ _ _ _ _ _) (HB1.out).size (fun k hk => by have : w.heap.size = k := Option.some.inj hk; omega))

end Go.Proofs.Ytgopcaemgcnapaa.Clep

/- Numbers that are masked, and places within a row. No conditions but the kinds' own bounds. -/
namespace Go.Proofs.Ytgopcaemgcnapaa.Clep
open Go.RowKit
set_option linter.unusedVariables false
set_option maxRecDepth 10000

theorem and_mask (a : Int) (m : Nat) (hm : m < 9223372036854775808) : 0 ≤ bits .and .i64 a (m : Int) ∧ bits .and .i64 a (m : Int) ≤ m := by
  have e : bits .and .i64 a (m : Int) = IntKind.i64.wrap ((BitVec.ofInt 64 a &&& BitVec.ofInt 64 (m : Int)).toNat : Int) := rfl
  have hle : (BitVec.ofInt 64 a &&& BitVec.ofInt 64 (m : Int)).toNat ≤ m := by
    rw [BitVec.toNat_and]
    refine Nat.le_trans Nat.and_le_right ?_
    rw [BitVec.toNat_ofInt]
    omega
  rw [e]
  generalize (BitVec.ofInt 64 a &&& BitVec.ofInt 64 (m : Int)).toNat = k at *
  simp [IntKind.wrap, IntKind.bits, IntKind.signed]
  omega
/-- A place within a row: what is masked, and what is left of it. -/
theorem place_of (a : Int) (m : Nat) (hm : m < 9223372036854775808) (d : Int) (D : Nat) (hd : d = (D : Int)) (h0 : 0 < D) : ∃ P : Nat, (bits .and .i64 a (m : Int)).tmod d = (P : Int) ∧ P < D := by
  obtain ⟨h1, h2⟩ := and_mask a m hm
  obtain ⟨x, hx⟩ := Int.eq_ofNat_of_zero_le h1
  rw [hx, hd]
  exact ⟨x % D, by rw [Int.ofNat_tmod], Nat.mod_lt _ h0⟩

end Go.Proofs.Ytgopcaemgcnapaa.Clep
