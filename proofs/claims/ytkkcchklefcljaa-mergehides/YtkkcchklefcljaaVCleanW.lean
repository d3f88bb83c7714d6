/- What slices.DeleteFunc by the function in merge.Clean, and merge.Clean, do when called: what a delete of the row hides is left out. Conditions: at most a million items. -/
import Derived.Test.YtkkcchklefcljaaVClean
namespace Go.Proofs.Ytkkcchklefcljaa.Clep
open Go.RowKit
set_option linter.unusedVariables false

theorem zc_len (n : Nat) : (Builtin.zeroCells (ivL zI).cells n).toList.length = n * 5 := by
  simp [Builtin.zeroCells, ivL, Value.cells]
theorem zc_one (n : Nat) : ∀ v ∈ (Builtin.zeroCells (ivL zI).cells n).toList, v.oneCell' = true := by
  intro v hv
  simp only [Builtin.zeroCells, Array.toList_map, List.mem_map] at hv
  obtain ⟨i, _, rfl⟩ := hv
  have hs : (ivL zI).cells.size = 5 := rfl
  have hm : i % (ivL zI).cells.size < 5 := by rw [hs]; exact Nat.mod_lt _ (by omega)
  generalize i % (ivL zI).cells.size = j at *
  have : j = 0 ∨ j = 1 ∨ j = 2 ∨ j = 3 ∨ j = 4 := by omega
  rcases this with rfl | rfl | rfl | rfl | rfl <;> rfl
theorem run_clear_items (w : World) (ty : TypeId) (b o n c : Nat) (hn : 0 < n) (hc : ∀ j, j < n * 5 → (w.cell? ⟨b, o + j, none⟩).isSome = true) (hf : ∀ j, j < n * 5 → w.frozen? ⟨b, o + j, none⟩ = false) :
    (Builtin.clear_ #[25] ty #[.slice (some ⟨b, o, none⟩) n c]).run Try.prog w = .ok (.tuple #[]) (w.setCells b o (Builtin.zeroCells (ivL zI).cells n).toList) := by
  have hst := run_storeCells_cells (P := Try.prog) b o (Builtin.zeroCells (ivL zI).cells n).toList 0 w (by rw [zc_len]; simpa using hc) (by rw [zc_len]; simpa using hf) (zc_one n)
  simp only [Nat.add_zero] at hst
  obtain ⟨m, rfl⟩ : ∃ m, n = m + 1 := ⟨n - 1, by omega⟩
  simp [Builtin.clear_, run_underlying Try.underlying25]
  change ((Sem.run Try.prog (storeCells ⟨b, o, none⟩ (Builtin.zeroCells (ivL zI).cells (m + 1)).toList) w).andThen _) = _
  rw [hst]
  rfl
/-- What the round keeps: the first i are those of the first j that stay. -/
structure Dl (w wr : World) (B gb n cap : Nat) (l : List It) (p : It → Bool) (i j : Nat) : Prop where
  lt : i < j
  le : j ≤ n
  ex : ∃ m : List It, OwnI wr B (.slice (some ⟨gb, 0, none⟩) n cap) m ∧ m.length = n ∧ (∀ x ∈ m, x.wf) ∧ m.take i = (l.take j).filter (fun x => !p x) ∧ m.drop j = l.drop j
  gb : w.grownBy wr (some gb)
theorem Dl.keep {w wr w' : World} {B gb n cap : Nat} {l : List It} {p : It → Bool} {i j : Nat} (h : Dl w wr B gb n cap l p i j) (hb : Below wr.heap.size wr w') : Dl w w' B gb n cap l p i j := by
  obtain ⟨h1, h2, ⟨m, h3, h4⟩, h5⟩ := h
  exact ⟨h1, h2, ⟨m, ownI_keep h3 hb, h4⟩, h5.trans (gb_below hb _)⟩
theorem Dl.skip {w wr : World} {B gb n cap : Nat} {l : List It} {p : It → Bool} {i j : Nat} {x : It} (h : Dl w wr B gb n cap l p i j) (hx : l[j]? = some x) (hj : j < n) (hp : p x = true) : Dl w wr B gb n cap l p i (j + 1) := by
  obtain ⟨h1, h2, ⟨m, h3, h4, h5, h6, h7⟩, h8⟩ := h
  refine ⟨by omega, by omega, ⟨m, h3, h4, h5, ?_, ?_⟩, h8⟩
  · rw [h6, List.take_add_one, hx, List.filter_append]
    simp [hp]
  · rw [← List.drop_drop, h7, List.drop_drop]
theorem Dl.put {w wr : World} {B gb n cap : Nat} {l : List It} {p : It → Bool} {i j : Nat} {x : It} (h : Dl w wr B gb n cap l p i j) (hx : l[j]? = some x) (hw : x.wf) (hj : j < n) (hp : p x = false) : Dl w (set5 wr gb (i * 5) x) B gb n cap l p (i + 1) (j + 1) := by
  obtain ⟨h1, h2, ⟨m, h3, h4, h5, h6, h7⟩, h8⟩ := h
  refine ⟨by omega, by omega, ⟨m.set i x, set5_own h3 h4 i x (by omega), by rw [List.length_set]; exact h4, fun y hy => ?_, ?_, ?_⟩, h8.trans (set5_gb _ _ _ _)⟩
  · rcases List.mem_or_eq_of_mem_set hy with e | e
    · exact h5 y e
    · rw [e]; exact hw
  · rw [List.take_add_one, List.getElem?_set_self (by omega), List.take_set_of_le (Nat.le_refl _), h6, List.take_add_one (l := l), hx, List.filter_append]
    simp [hp]
  · rw [List.drop_set_of_lt (by omega), ← List.drop_drop, h7, List.drop_drop]
set_option maxRecDepth 100000 in
set_option maxHeartbeats 2000000 in
theorem deletef_any (gb n cap P B : Nat) (l : List It) (p : It → Bool) (w : World) (ho : OwnI w B (.slice (some ⟨gb, 0, none⟩) n cap) l) (hl : l.length = n) (hw : ∀ x ∈ l, x.wf) (hn : n ≤ 1000000) (hp : Pdl w P p l (some gb)) :
    Calls Try.prog 30 #[.slice (some ⟨gb, 0, none⟩) n cap, .func (.func 31) #[] #[.pointer (some ⟨P, 0, none⟩)]] w fun e w' => ∃ m, e = .returned (.slice (some ⟨gb, 0, none⟩) m cap) ∧ Is w' (some ⟨gb, 0, none⟩) m cap (l.filter (fun x => !p x)) ∧ w.grownBy w' (some gb) := by
  obtain ⟨a0, c0, e0, hcm, hI, _⟩ := ownI_is ho hw
  rw [hl] at e0 hI
  injection e0 with e1 e2 e3
  subst e1 e3
  have hnc := hI.2.1.1
  have HX := hide (indexf_any _ n cap P l p (some gb) w hI hn hp)
  have HI := hide hI
  have HO := hide ho
  have HP := hide hp
  have HW := hide hw
  clear hI ho hp hw
  go_enter Try.func30, Try.ntmps30
  go_wp2_with fail
  refine HX.out.mono ?_
  rintro e w1 ⟨hb1, ⟨rfl, hall⟩ | ⟨k, x, rfl, hkn, hkx, hpx, hall⟩⟩
  · have HF := hide (show l.filter (fun x => !p x) = l by
      rw [List.filter_eq_self]
      intro y hy
      simp [hall y hy])
    have HB := hide hb1
    clear HX hall hb1
    go_wp2
    go_ret
    rw [HF.out]
    exact ⟨n, rfl, HI.out.below HB.out (Nat.le_refl _), gb_below HB.out _⟩
  · have hk1 : ((k : Int) == -1) = false := by simp
    have D0 := hide (show Dl w w1 B gb n cap l p k (k + 1) from ⟨by omega, by omega, ⟨l, ownI_keep HO.out hb1, hl, HW.out, by
        rw [List.take_add_one, hkx, List.filter_append, List.filter_eq_self.2 (fun y hy => by simp [hall y hy])]
        simp [hpx], rfl⟩, gb_below hb1 _⟩)
    clear HX hall hb1 hkx hpx HI HO
    go_wp2_with fail
    go_loopw [5, 6, 7] (fun s5 s6 s7 wr => ∃ i j : Nat, s5 = .int .i64 i ∧ s6 = .int .i64 j ∧ Hid (Dl w wr B gb n cap l p i j)) (fun _ s6 _ _ => n - (intOf s6).toNat)
    case atStart => exact ⟨k, k + 1, rfl, by go_num, D0⟩
    case round =>
      obtain ⟨i, j, rfl, rfl, hD⟩ := hrel
      have hij := hD.out.lt
      have hjn := hD.out.le
      by_cases hlt : j < n
      · obtain ⟨x, hx⟩ : ∃ x, l[j]? = some x := ⟨_, List.getElem?_eq_getElem (by omega)⟩
        have hxm := List.mem_of_getElem? hx
        have hxw := HW.out x hxm
        obtain ⟨m, hm1, hm2, hm3, hm4, hm5⟩ := hD.out.ex
        have hmj : m[j]? = some x := by
          have e1 : m[j]? = (m.drop j)[0]? := by rw [List.getElem?_drop]; rfl
          rw [e1, hm5, List.getElem?_drop]; exact hx
        obtain ⟨y, hy⟩ : ∃ y, m[i]? = some y := ⟨_, List.getElem?_eq_getElem (by omega)⟩
        obtain ⟨a9, c9, e9, -, hI9, -⟩ := ownI_is hm1 hm3
        rw [hm2] at e9 hI9
        injection e9 with e9 _ e10
        subst e9 e10
        obtain ⟨b9, off9, e11, hcell⟩ := hI9.2.2.2 (by omega)
        cases e11
        have hv := hcell j x hmj
        have hvy := hide (hcell i y hy)
        have hfr := hide (fun jj => World.ownsRow.frozenAt (by unfold OwnI at hm1; rw [hm2] at hm1; exact hm1) jj)
        have CP := hide (fun W (hW : Below wr.heap.size wr W) => HP.out W (hD.out.gb.trans (gb_below hW _)) x hxm)
        obtain ⟨o, ho⟩ : ∃ o, p x = o := ⟨_, rfl⟩
        rw [ho] at CP
        have A1 := (Below.refl _ wr).alloc (Nat.le_refl _) (Obj.cells #[.int .i64 x.S, .int .i64 x.K, .int .u64 x.T, .int .u64 x.V, .int .i64 x.X] 36)
        have V1 := hide (vi_new wr x.S x.K x.T x.V x.X)
        have HA := hide A1
        have HXJ := hide hx
        have HO := hide ho
        have HXW := hide hxw
        obtain ⟨S, K, T, V, X⟩ := x
        unfold Vt at hv hvy
        unfold Vi at hv
        simp only [Nat.zero_add] at hv CP V1 HA hvy
        obtain ⟨v0, v1, v2, v3, v4⟩ := hv
        clear hcell hx hxm hxw hm1 hm2 hm3 hm4 hm5 hmj hy hI9 ho A1
        cases o with
        | true =>
          go_wp2_with (first | (go_at_call 31; refine (CP.out _ HA.out).mono ?_; rintro e w2 ⟨rfl, hb2⟩))
          have D2 := hide ((hD.out.keep (bmore HA.out hb2)).skip HXJ.out hlt HO.out)
          go_roundw
          case rel => exact ⟨i, j + 1, rfl, by go_num, D2⟩
          case measure => simp [intOf]; omega
        | false =>
          go_wp2_with fail
          refine (CP.out _ HA.out).mono ?_
          rintro e w2 ⟨rfl, hb2⟩
          have B2 := hide (bmore HA.out hb2)
          have D2 := hide ((hD.out.keep B2.out).put HXJ.out HXW.out hlt HO.out)
          have V2 := (V1.out.keep hb2)
          have Y2 := (hvy.out.keep B2.out)
          have hglt : gb < wr.heap.size := Vi.lt hvy.out
          have F2 : ∀ jj, w2.frozen? ⟨gb, jj, none⟩ = false := fun jj => by
            have := hfr.out jj
            rw [← this]
            exact B2.out.frozen (p := ⟨gb, jj, none⟩) hglt
          have f0 := F2 (i * 5)
          have f1 := F2 (i * 5 + 1)
          have f2 := F2 (i * 5 + 2)
          have f3 := F2 (i * 5 + 3)
          have f4 := F2 (i * 5 + 4)
          unfold Vi at V2 Y2
          simp only [Nat.zero_add] at V2 Y2
          obtain ⟨x0, x1, x2, x3, x4⟩ := V2
          obtain ⟨y0, y1, y2, y3, y4⟩ := Y2
          have hin : (i : Int) < (n : Int) := by omega
          clear F2 hfr CP hb2 v0 v1 v2 v3 v4 hvy V1 hD
          go_wp2_with fail
          go_roundw
          case rel => exact ⟨i + 1, j + 1, by go_num, by go_num, D2⟩
          case measure => simp [intOf]; omega
      · obtain rfl : j = n := by omega
        obtain ⟨m, hm1, hm2, hm3, hm4, hm5⟩ := hD.out.ex
        rw [show l.take j = l by rw [← hl]; exact List.take_length] at hm4
        obtain ⟨a9, c9, e9, -, hI9, -⟩ := ownI_is hm1 hm3
        rw [hm2] at e9 hI9
        injection e9 with e9 _ e10
        subst e9 e10
        obtain ⟨b9, off9, e11, hcell⟩ := hI9.2.2.2 (by omega)
        cases e11
        have hcs : ∀ jj, jj < j * 5 → (wr.cell? ⟨gb, 0 + jj, none⟩).isSome = true := fun jj hjj => by
          obtain ⟨y, hy⟩ : ∃ y, m[jj / 5]? = some y := ⟨_, List.getElem?_eq_getElem (by omega)⟩
          have g := hcell (jj / 5) y hy
          unfold Vt Vi at g
          have hmm : jj % 5 = 0 ∨ jj % 5 = 1 ∨ jj % 5 = 2 ∨ jj % 5 = 3 ∨ jj % 5 = 4 := by omega
          rw [show 0 + jj = 0 + jj / 5 * 5 + jj % 5 by omega]
          rcases hmm with hmm | hmm | hmm | hmm | hmm <;> rw [hmm]
          · simpa using congrArg Option.isSome g.1
          · simpa using congrArg Option.isSome g.2.1
          · simpa using congrArg Option.isSome g.2.2.1
          · simpa using congrArg Option.isSome g.2.2.2.1
          · simpa using congrArg Option.isSome g.2.2.2.2
        have hfr := fun jj => World.ownsRow.frozenAt (w := wr) (by unfold OwnI at hm1; rw [hm2] at hm1; exact hm1) jj
        have hcl : ∀ ty, (Builtin.clear_ #[25] ty #[.slice (some ⟨gb, i * 5, none⟩) (j - i) (cap - i)]).run Try.prog wr = .ok (.tuple #[]) (wr.setCells gb (i * 5) (Builtin.zeroCells (ivL zI).cells (j - i)).toList) := fun ty =>
          run_clear_items wr ty gb (i * 5) (j - i) (cap - i) (by omega) (fun jj hjj => by
            have := hcs (i * 5 + jj) (by omega)
            rwa [Nat.zero_add] at this) (fun jj hjj => hfr _)
        have hs1 := fun W => icut_l W (some ⟨gb, 0, none⟩) j cap .i64 (i : Int) (by omega) (by omega)
        have hs2 := fun W => icut_h W (some ⟨gb, 0, none⟩) j cap .i64 (i : Int) (by omega) (by omega)
        rw [show ((i : Int)).toNat = i by omega] at hs1 hs2
        rw [show icut (some ⟨gb, 0, none⟩) cap i = some ⟨gb, i * 5, none⟩ by unfold icut; rw [if_neg (by omega)]; simp [add_plain]] at hs1
        rw [show icut (some ⟨gb, 0, none⟩) cap 0 = some ⟨gb, 0, none⟩ by unfold icut; rw [if_neg (by omega)]; simp [add_plain]] at hs2
        have HF : Hid (Is (wr.setCells gb (i * 5) (Builtin.zeroCells (ivL zI).cells (j - i)).toList) (some ⟨gb, 0, none⟩) i cap (l.filter (fun x => !p x))) := hide (by
          rw [← hm4]
          refine ⟨by rw [List.length_take]; omega, ⟨by omega, fun h => by cases h⟩, fun x hx => hm3 x (List.mem_of_mem_take hx), fun _ => ⟨gb, 0, rfl, fun t x ht => ?_⟩⟩
          have htm : t < i ∧ m[t]? = some x := by
            rw [List.getElem?_take] at ht
            split at ht
            · exact ⟨by assumption, ht⟩
            · cases ht
          have g := hcell t x htm.2
          have hout : ∀ o, o < i * 5 → (wr.setCells gb (i * 5) (Builtin.zeroCells (ivL zI).cells (j - i)).toList).cell? ⟨gb, o, none⟩ = wr.cell? ⟨gb, o, none⟩ := fun o ho => World.cell?_setCells_out gb _ _ wr ⟨gb, o, none⟩ (fun _ _ => .inl ho)
          unfold Vt Vi at g ⊢
          exact ⟨(hout _ (by omega)).trans g.1, (hout _ (by omega)).trans g.2.1, (hout _ (by omega)).trans g.2.2.1, (hout _ (by omega)).trans g.2.2.2.1, (hout _ (by omega)).trans g.2.2.2.2⟩)
        have HG := hide (hD.out.gb.trans (setCells_gb gb (Builtin.zeroCells (ivL zI).cells (j - i)).toList (i * 5) wr))
        generalize wr.setCells gb (i * 5) (Builtin.zeroCells (ivL zI).cells (j - i)).toList = w9 at *
        clear hcs hfr hm1 hm2 hm3 hm4 hm5 hI9 hcell hD
        go_wp2
        go_ret
        exact ⟨i, rfl, HF.out, HG.out⟩

set_option maxRecDepth 100000 in
theorem deletef_nil (P : Nat) (w : World) :
    Calls Try.prog 30 #[.slice none 0 0, .func (.func 31) #[] #[.pointer (some ⟨P, 0, none⟩)]] w fun e w' => e = .returned (.slice none 0 0) ∧ Below w.heap.size w w' := by
  have HX := hide (indexf_any none 0 0 P [] (fun _ => false) none w (is_nil w) (by omega) (fun W _ x hx => by cases hx))
  go_enter Try.func30, Try.ntmps30
  go_wp2_with fail
  refine HX.out.mono ?_
  rintro e w1 ⟨hb1, ⟨rfl, hall⟩ | ⟨k, x, rfl, hkn, hkx, hpx, hall⟩⟩
  · have HB := hide hb1
    clear HX hall hb1
    go_wp2
    go_ret
    exact ⟨rfl, HB.out⟩
  · omega
/-- The answer is a slice that leads to l. -/
def AnsL (l : List It) (w : World) (e : Ending) (w' : World) : Prop := ∃ a n c, e = .returned (.slice a n c) ∧ Is w' a n c l ∧ c ≤ 9223372036854775807 ∧ Below w.heap.size w w'
/-- l without what its deletes hide. -/
def clL (l : List It) : List It := l.filter fun x => !hidB l x
set_option maxRecDepth 100000 in
set_option maxHeartbeats 1000000 in
theorem clean_any (a : Option Addr) (n c : Nat) (l : List It) (w : World) (h : Is w a n c l) (hn : n ≤ 1000000) :
    Calls Try.prog 12 #[.slice a n c] w (AnsL (clL l) w) := by
  have CD := hide (deletes_any a n c l w h hn)
  have H0 := hide (fun W (hW : Below w.heap.size w W) => h.below hW (Nat.le_refl _))
  have HW := hide h.2.2.1
  have hmf : ∀ (fn : Fn) (first cap : Array Value) (w : World), (Instr.makeFunc fn first cap).run Try.prog w = .ok (.func fn first cap) w := fun _ _ _ _ => rfl
  have hl := hide h.1
  have hpe : Hid ((fun x : It => !(gonL l x.S).hides x) = fun x => !hidB l x) := hide (funext fun x => by rw [gonL_hid l h.2.2.1 x])
  clear h
  go_enter Try.func12, Try.ntmps12
  go_wp2_with fail
  refine CD.out.mono ?_
  rintro e w1 ⟨rfl, hM, hb1⟩
  have A1 := (Below.refl _ w1).alloc (Nat.le_refl _) (Obj.cells #[Value.map (some w.heap.size)] 47)
  have K1 := hpS w1 (Obj.cells #[Value.map (some w.heap.size)] 47) w1.heap.size rfl
  obtain ⟨w2, hw2⟩ : ∃ w2, w2 = w1.alloc (Obj.cells #[Value.map (some w.heap.size)] 47) := ⟨_, rfl⟩
  rw [← hw2] at A1 K1
  have hc2 : w2.cell? ⟨w1.heap.size, 0, none⟩ = some (.map (some w.heap.size)) := by simp [World.cell?, K1]
  have M2 := hM.keep A1
  have B2 := bmore hb1 A1
  have CC := hide (clone_all a n c l w2 (H0.out _ B2) hn)
  have hP2 : w1.heap.size < w2.heap.size := World.block_lt_of_cell? w2 _ hc2
  have hM2 : w.heap.size < w2.heap.size := M2.lt
  have HC2 := hide hc2
  have HM2 := hide M2
  have HB2 := hide B2
  clear CD hM hb1 A1 K1 hc2 M2 B2
  go_wp2_with fail
  rw [← hw2]
  clear hw2
  obtain ⟨P, hP⟩ : ∃ P, w1.heap.size = P := ⟨_, rfl⟩
  rw [hP] at HC2 hP2 ⊢
  clear hP
  refine CC.out.mono ?_
  rintro e w3 ⟨v, rfl, ho3, hb3⟩
  have hc3 := (hb3.cell (p := ⟨P, 0, none⟩) hP2).trans HC2.out
  have M3 := HM2.out.keep hb3
  have B3 := bmore HB2.out hb3
  have ho3' := ho3
  obtain ⟨hl9, ⟨rfl, hz⟩ | ⟨g, cap, cur, rfl, hg, hh, hnc, hcm, hcs, hx⟩⟩ := ho3
  · have hl0 : l = [] := List.eq_nil_of_length_eq_zero hz
    have CN := hide (deletef_nil P w3)
    have HB3 := hide B3
    clear CC ho3' M3 hc3 B3 hb3
    go_wp2_with fail
    refine CN.out.mono ?_
    rintro e w4 ⟨rfl, hb4⟩
    have HA := hide (show AnsL (clL l) w (.returned (.slice none 0 0)) w4 from ⟨none, 0, 0, rfl, by rw [hl0]; exact is_nil _, by omega, bmore HB3.out hb4⟩)
    clear CN hb4
    go_wp2
    go_ret
    exact HA.out
  · rw [hl.out] at ho3' ⊢
    have CN := hide (deletef_any g n cap P w2.heap.size l (fun x => (gonL l x.S).hides x) w3 ho3' hl.out HW.out hn (pdl_of hc3 M3 HW.out (by simp; omega) (by simp; omega)))
    have HB3 := hide B3
    have HG := hide hg
    have hcm' : cap ≤ 9223372036854775807 := by unfold maxLen at hcm; omega
    have HWS := hide (HB2.out.size)
    clear CC ho3' M3 hc3 B3 hb3 hg hh hcs hx hl9
    go_wp2_with fail
    refine CN.out.mono ?_
    rintro e w4 ⟨m, rfl, hI4, hg4⟩
    have HA := hide (show AnsL (clL l) w (.returned (.slice (some ⟨g, 0, none⟩) m cap)) w4 from by
      have hcl : l.filter (fun x => !(gonL l x.S).hides x) = clL l := by unfold clL; rw [← hpe.out]
      rw [hcl] at hI4
      exact ⟨some ⟨g, 0, none⟩, m, cap, rfl, hI4, hcm', HB3.out.grown hg4 HB3.out.size (fun j hj => by cases hj; exact Nat.le_trans HWS.out HG.out)⟩)
    clear CN hI4 hg4
    go_wp2
    go_ret
    exact HA.out

end Go.Proofs.Ytkkcchklefcljaa.Clep
