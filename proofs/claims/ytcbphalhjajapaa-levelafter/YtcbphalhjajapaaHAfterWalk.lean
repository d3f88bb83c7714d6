/- LevelAfter, walked. Conditions: keys that the form lets in. -/
import Derived.Test.YtcbphalhjajapaaHAfter
import Derived.Test.YtcbphalhjajapaaHFew
import Derived.Test.YtcbphalhjajapaaHEd
import Derived.Test.YtcbphalhjajapaaHInvG
namespace Go.Proofs.Ytcbphalhjajapaa.Clep
open Go.RowKit
set_option linter.unusedVariables false
set_option linter.unusedSimpArgs false

theorem stayA_at {l : List He} {ns : List Int} {i : Nat} {x : He} (hx : l[i]? = some x) (hc : ns.contains x.N = false) : (stayA l ns)[(stayA (l.take i) ns).length]? = some x.a := by
  have hi : i < l.length := (List.getElem?_eq_some_iff.1 hx).1
  have e : l = l.take i ++ (x :: l.drop (i + 1)) := by
    have h1 : l.drop i = x :: l.drop (i + 1) := by rw [List.drop_eq_getElem_cons hi, (List.getElem?_eq_some_iff.1 hx).2]
    rw [← h1, List.take_append_drop]
  have e2 : stayA l ns = stayA (l.take i) ns ++ (x.a :: stayA (l.drop (i + 1)) ns) := by
    conv => lhs; rw [e]
    unfold stayA
    rw [List.filter_append, List.map_append, List.filter_cons_of_pos (by rw [hc]; rfl), List.map_cons]
  rw [e2, List.getElem?_append_right (Nat.le_refl _), Nat.sub_self]
  rfl
theorem madeA_at {l : List He} {t : Int} {i : Nat} {x : He} (hx : l[i]? = some x) : (madeA l t)[i]? = some (x.N, t, x.fz, x.gz, x.M) := by
  unfold madeA
  rw [List.getElem?_map, hx]
  rfl
theorem a_at {l' : List He} {k : Nat} {q : Int × Int × List Int × List Int × Int} (h : (l'.map He.a)[k]? = some q) : ∃ y, l'[k]? = some y ∧ k < l'.length ∧ y.N = q.1 ∧ y.L = q.2.1 ∧ y.fz = q.2.2.1 ∧ y.gz = q.2.2.2.1 ∧ y.M = q.2.2.2.2 := by
  rw [List.getElem?_map] at h
  cases hy : l'[k]? with
  | none => rw [hy] at h; cases h
  | some y =>
    rw [hy] at h
    have : y.a = q := Option.some.inj h
    subst this
    exact ⟨y, rfl, (List.getElem?_eq_some_iff.1 hy).1, rfl, rfl, rfl, rfl, rfl⟩
theorem cont_more {ns : List Int} {j : Nat} {z N : Int} (hz : ns[j]? = some z) : (ns.take (j + 1)).contains N = ((ns.take j).contains N || (z == N)) := by
  rw [List.take_add_one, hz, Option.toList, List.contains_append]
  congr 1
  by_cases e : z = N
  · subst e; simp
  · have e2 : (z == N) = false := by simpa using e
    rw [e2]
    simpa using fun h => e h.symm
-- defs<
/-- What the slots of the statement's first comparison hold. -/
def avA (yb yo K X xc ab off i n c : Nat) (yN yL yM t : Int) (yfa xfa yga xga : Option Addr) (yfc xfc ygc xgc : Nat) (yfz ygz : List Int) : Nat → Value
  | 0 => .int .i64 (K : Int)
  | 1 => .slice (some ⟨yb, yo, none⟩) X xc
  | 2 => .int .i64 (X : Int)
  | 3 => .bool false
  | 4 => .bool false
  | 5 => .slice (some ⟨yb, yo, none⟩) X xc
  | 6 => .int .i64 (K : Int)
  | 7 => .pointer (some ⟨yb, yo + K * 5, none⟩)
  | 8 => .pointer (some ⟨yb, yo + K * 5, none⟩)
  | 9 => .int .i64 yN
  | 10 => .slice (some ⟨ab, off, none⟩) n c
  | 11 => .int .i64 (i : Int)
  | 12 => .pointer (some ⟨ab, off + i * 5, none⟩)
  | 13 => .pointer (some ⟨ab, off + i * 5, none⟩)
  | 14 => .int .i64 yN
  | 15 => .bool false
  | 16 => .bool false
  | 17 => .bool false
  | 18 => .slice (some ⟨yb, yo, none⟩) X xc
  | 19 => .int .i64 (K : Int)
  | 20 => .pointer (some ⟨yb, yo + K * 5, none⟩)
  | 21 => .pointer (some ⟨yb, yo + K * 5 + 1, none⟩)
  | 22 => .int .i64 yL
  | 23 => .slice (some ⟨ab, off, none⟩) n c
  | 24 => .int .i64 (i : Int)
  | 25 => .pointer (some ⟨ab, off + i * 5, none⟩)
  | 26 => .pointer (some ⟨ab, off + i * 5 + 1, none⟩)
  | 27 => .int .i64 yL
  | 28 => .bool false
  | 29 => .bool false
  | 30 => .bool false
  | 31 => .slice (some ⟨yb, yo, none⟩) X xc
  | 32 => .int .i64 (K : Int)
  | 33 => .pointer (some ⟨yb, yo + K * 5, none⟩)
  | 34 => .pointer (some ⟨yb, yo + K * 5 + 4, none⟩)
  | 35 => .int .i64 yM
  | 36 => .slice (some ⟨ab, off, none⟩) n c
  | 37 => .int .i64 (i : Int)
  | 38 => .pointer (some ⟨ab, off + i * 5, none⟩)
  | 39 => .pointer (some ⟨ab, off + i * 5 + 4, none⟩)
  | 40 => .int .i64 yM
  | 41 => .bool false
  | 42 => .bool false
  | 43 => .bool false
  | 44 => .slice (some ⟨yb, yo, none⟩) X xc
  | 45 => .int .i64 (K : Int)
  | 46 => .pointer (some ⟨yb, yo + K * 5, none⟩)
  | 47 => .pointer (some ⟨yb, yo + K * 5 + 2, none⟩)
  | 48 => .slice yfa yfz.length yfc
  | 49 => .string (strOfNums yfz)
  | 50 => .slice (some ⟨ab, off, none⟩) n c
  | 51 => .int .i64 (i : Int)
  | 52 => .pointer (some ⟨ab, off + i * 5, none⟩)
  | 53 => .pointer (some ⟨ab, off + i * 5 + 2, none⟩)
  | 54 => .slice xfa yfz.length xfc
  | 55 => .string (strOfNums yfz)
  | 56 => .bool false
  | 57 => .bool false
  | 58 => .bool false
  | 59 => .slice (some ⟨yb, yo, none⟩) X xc
  | 60 => .int .i64 (K : Int)
  | 61 => .pointer (some ⟨yb, yo + K * 5, none⟩)
  | 62 => .pointer (some ⟨yb, yo + K * 5 + 3, none⟩)
  | 63 => .slice yga ygz.length ygc
  | 64 => .string (strOfNums ygz)
  | 65 => .slice (some ⟨ab, off, none⟩) n c
  | 66 => .int .i64 (i : Int)
  | 67 => .pointer (some ⟨ab, off + i * 5, none⟩)
  | 68 => .pointer (some ⟨ab, off + i * 5 + 3, none⟩)
  | 69 => .slice xga ygz.length xgc
  | 70 => .string (strOfNums ygz)
  | 71 => .bool false
  | 72 => .bool false
  | _ => undef
/-- What the slots of its second hold. -/
def avB (yb yo K X xc ab off i mn mc : Nat) (yN yL yM t : Int) (yfa xfa yga xga : Option Addr) (yfc xfc ygc xgc : Nat) (yfz ygz : List Int) : Nat → Value
  | 0 => .int .i64 (K : Int)
  | 1 => .slice (some ⟨yb, yo, none⟩) X xc
  | 2 => .int .i64 (X : Int)
  | 3 => .bool false
  | 4 => .bool false
  | 5 => .slice (some ⟨yb, yo, none⟩) X xc
  | 6 => .int .i64 (K : Int)
  | 7 => .pointer (some ⟨yb, yo + K * 5, none⟩)
  | 8 => .pointer (some ⟨yb, yo + K * 5, none⟩)
  | 9 => .int .i64 yN
  | 10 => .slice (some ⟨ab, off, none⟩) mn mc
  | 11 => .int .i64 (i : Int)
  | 12 => .pointer (some ⟨ab, off + i * 5, none⟩)
  | 13 => .pointer (some ⟨ab, off + i * 5, none⟩)
  | 14 => .int .i64 yN
  | 15 => .bool false
  | 16 => .bool false
  | 17 => .bool false
  | 18 => .slice (some ⟨yb, yo, none⟩) X xc
  | 19 => .int .i64 (K : Int)
  | 20 => .pointer (some ⟨yb, yo + K * 5, none⟩)
  | 21 => .pointer (some ⟨yb, yo + K * 5 + 1, none⟩)
  | 22 => .int .i64 yL
  | 23 => .int .i64 yL
  | 24 => .bool false
  | 25 => .bool false
  | 26 => .bool false
  | 27 => .slice (some ⟨yb, yo, none⟩) X xc
  | 28 => .int .i64 (K : Int)
  | 29 => .pointer (some ⟨yb, yo + K * 5, none⟩)
  | 30 => .pointer (some ⟨yb, yo + K * 5 + 4, none⟩)
  | 31 => .int .i64 yM
  | 32 => .slice (some ⟨ab, off, none⟩) mn mc
  | 33 => .int .i64 (i : Int)
  | 34 => .pointer (some ⟨ab, off + i * 5, none⟩)
  | 35 => .pointer (some ⟨ab, off + i * 5 + 4, none⟩)
  | 36 => .int .i64 yM
  | 37 => .bool false
  | 38 => .bool false
  | 39 => .bool false
  | 40 => .slice (some ⟨yb, yo, none⟩) X xc
  | 41 => .int .i64 (K : Int)
  | 42 => .pointer (some ⟨yb, yo + K * 5, none⟩)
  | 43 => .pointer (some ⟨yb, yo + K * 5 + 2, none⟩)
  | 44 => .slice yfa yfz.length yfc
  | 45 => .string (strOfNums yfz)
  | 46 => .slice (some ⟨ab, off, none⟩) mn mc
  | 47 => .int .i64 (i : Int)
  | 48 => .pointer (some ⟨ab, off + i * 5, none⟩)
  | 49 => .pointer (some ⟨ab, off + i * 5 + 2, none⟩)
  | 50 => .slice xfa yfz.length xfc
  | 51 => .string (strOfNums yfz)
  | 52 => .bool false
  | 53 => .bool false
  | _ => undef
-- >defs
/-- What the statement holds while it looks at the row. -/
structure Aw (w W : World) (xa : Option Addr) (xc : Nat) (l' : List He) : Prop where
  h : Hs W xa l'.length xc l'
  b : Below w.heap.size w W
theorem Aw.keep {w W W' : World} {xa : Option Addr} {xc : Nat} {l' : List He} (h : Aw w W xa xc l') (hb : Below W.heap.size W W') : Aw w W' xa xc l' := ⟨h.h.below hb (Nat.le_refl _), h.b.trans (hb.mono h.b.size)⟩
set_option maxRecDepth 100000 in
set_option maxHeartbeats 8000000 in
theorem walk_after (a : Option Addr) (n c : Nat) (l : List He) (ia : Option Addr) (N ic : Nat) (ns : List Int) (t : Int) (ma : Option Addr) (mn mc : Nat) (made : List He) (w : World) (h : Hs w a n c l) (hi : Zs w ia N ic ns) (ht : hi64 t) (hm : Hs w ma mn mc made) (hn : n ≤ 9223372036854775807) (hN : N ≤ 9223372036854775807) (hmn : mn ≤ 9223372036854775807) (hsl : ∀ x ∈ l, x.sm) (hsm : ∀ x ∈ made, x.sm) :
    Calls Try.prog 6 #[.slice a n c, .slice ia N ic, .int .i64 t, .slice ma mn mc] w fun e w' => e = .returned (.bool true) ∧ Below w.heap.size w w' := by
  have HAK := hide (fun W => awake_any W)
  have HF1 := hide (few_any a n c l w h hn)
  have HF2 := hide (fun W (hW : Below w.heap.size w W) => few_any ma mn mc made W (hm.below hW (Nat.le_refl _)) hmn)
  have HH := hide (fun W (hW : Below w.heap.size w W) => h.below hW (Nat.le_refl _))
  have HM := hide (fun W (hW : Below w.heap.size w W) => hm.below hW (Nat.le_refl _))
  have HI := hide (fun W (hW : Below w.heap.size w W) => hi.below hW (Nat.le_refl _))
  have HT := hide ht
  have HS := hide (And.intro hsl hsm)
  clear h hi hm ht hsl hsm
  go_enter Try.func6, Try.ntmps6
  go_wp2_with fail
  refine HF1.out.mono ?_
  rintro e w1 ⟨b1, rfl, hb1, hB1⟩
  have HB1 := hide hB1
  clear hB1
  cases b1 with
  | false =>
    go_wp2_with fail
    refine (HAK.out _).mono ?_
    rintro e w2 ⟨rfl, hb2⟩
    have HB2 := hide (HB1.out.trans (hb2.mono HB1.out.size))
    clear hb2 hb1 HF2
    go_wp2
    go_ret
    exact ⟨rfl, HB2.out⟩
  | true =>
    have hn50 := hb1 rfl
    go_wp2_with fail
    refine (HF2.out _ HB1.out).mono ?_
    rintro e w2 ⟨b2, rfl, hb2, hB2⟩
    have HB2 := hide (HB1.out.trans (hB2.mono HB1.out.size))
    clear hB2
    cases b2 with
    | false =>
      go_wp2_with fail
      refine (HAK.out _).mono ?_
      rintro e w3 ⟨rfl, hb3⟩
      have HB3 := hide (HB2.out.trans (hb3.mono HB2.out.size))
      clear hb3 hb2
      go_wp2
      go_ret
      exact ⟨rfl, HB3.out⟩
    | true =>
      have hm50 := hb2 rfl
      by_cases hN50 : N ≤ 50
      · have q0 : ¬ ((N : Int) > 50) := by omega
        have HAF := hide (after_any a n c l ia N ic ns t ma mn mc made w2 (HH.out _ HB2.out) (HI.out _ HB2.out) HT.out (HM.out _ HB2.out) (by omega) (by omega) (by omega) HS.out.1 HS.out.2)
        clear hb1 hb2 HF1 HF2
        go_wp2_with fail
        refine HAF.out.mono ?_
        rintro e w3 ⟨v, l', rfl, ho, hok, hla, hb3⟩
        obtain ⟨xa, xc, rfl, _, hxs, _⟩ := ownH_hs ho hok
        have HW3 := hide (show Aw w w3 xa xc l' from ⟨hxs, HB2.out.trans (hb3.mono HB2.out.size)⟩)
        have HLA := hide hla
        have HLL := hide (show l'.length = (stayA l ns).length + mn ∧ (stayA l ns).length ≤ n from by
          have h1 : (l'.map He.a).length = (stayA l ns ++ madeA made t).length := by rw [hla]
          rw [List.length_map, List.length_append, madeA_len, (HM.out _ (Below.refl _ _)).1] at h1
          exact ⟨h1, by have := stayA_len l ns; rwa [(HH.out _ (Below.refl _ _)).1] at this⟩)
        have HLN := hide (HH.out _ (Below.refl _ _)).1
        have HLI := hide (HI.out _ (Below.refl _ _)).1
        have HLM := hide (HM.out _ (Below.refl _ _)).1
        obtain ⟨X, hX⟩ : ∃ X, l'.length = X := ⟨_, rfl⟩
        have HXL := hide hX
        rw [hX] at HLL ⊢
        have hX100 : X ≤ 100 := by have := HLL.out; omega
        clear ho hok hla hb3 hxs HAF HB1 HB2 hX
        go_wp2_with fail
        go_loopw [10, 11] (fun u s wr => ∃ i : Nat, i ≤ n ∧ s = .int .i64 i ∧ u = .int .i64 ((stayA (l.take i) ns).length : Nat) ∧ Hid (Aw w wr xa xc l')) (fun _ s _ => n - (intOf s).toNat)
        case atStart => exact ⟨0, by omega, rfl, rfl, HW3⟩
        case round =>
          obtain ⟨i, hi, rfl, rfl, hst⟩ := hrel
          have HA := hide hst.out
          clear hst HW3
          by_cases hlt : i < n
          · obtain ⟨x, ab, off, hx, rfl, hxok, x0, x1, x2, x3, x4⟩ := hs_at (HH.out _ HA.out.b) i hlt
            have HX := hide hx
            have HXO := hide hxok
            have hqi : (i : Int) < (n : Int) := by omega
            clear hx hxok
            go_wp2_with fail
            generalize hwq : wr = wq at *
            have HXC := hide (And.intro x0 (And.intro x1 (And.intro x2 (And.intro x3 x4))))
            clear hwq x0 x1 x2 x3 x4
            go_loopw [12, 13] (fun g s wr2 => ∃ j : Nat, j ≤ N ∧ s = .int .i64 j ∧ g = .bool ((ns.take j).contains x.N) ∧ Hid (Below wq.heap.size wq wr2)) (fun _ s _ => N - (intOf s).toNat)
            case atStart => exact ⟨0, by omega, rfl, by simp, hide (Below.refl _ _)⟩
            case round =>
              obtain ⟨j, hj, rfl, rfl, hbj⟩ := hrel
              have HBJ := hide hbj.out
              have HAJ := hide (HA.out.keep HBJ.out)
              clear hbj
              by_cases hltj : j < N
              · obtain ⟨z, zb, zo, hz, rfl, hzc, _, _⟩ := zs_at (HI.out _ HAJ.out.b) j hltj
                have HCM := hide (cont_more (N := x.N) hz)
                have hqj : (j : Int) < (N : Int) := by omega
                have x0 := (HBJ.out.cell (p := ⟨ab, off + i * 5, none⟩) (World.block_lt_of_cell? wq _ HXC.out.1)).trans HXC.out.1
                generalize x.N = xN at *
                clear hz
                cases hg : (ns.take j).contains xN with
                | true =>
                  have HC2 := hide (show (ns.take (j + 1)).contains xN = true from by rw [HCM.out, hg]; rfl)
                  clear hg HCM
                  go_wp2_with fail
                  go_region
                  go_wp2
                  go_roundw
                  case rel => exact ⟨j + 1, by omega, by go_num, by rw [HC2.out], hide HBJ.out.drew⟩
                  case measure => simp [intOf]; omega
                | false =>
                  have HC2 := hide (show (ns.take (j + 1)).contains xN = (z == xN) from by rw [HCM.out, hg]; rfl)
                  clear hg HCM
                  go_wp2_with fail
                  go_region
                  go_wp2
                  go_roundw
                  case rel => exact ⟨j + 1, by omega, by go_num, by rw [HC2.out], hide HBJ.out.drew⟩
                  case measure => simp [intOf]; omega
              · obtain rfl : j = N := by omega
                have hqj : ¬ ((j : Int) < (j : Int)) := by omega
                have hfull : ns.take j = ns := List.take_of_length_le (by rw [HLI.out]; exact Nat.le_refl _)
                rw [hfull]
                have HSM := hide (stayA_more (ns := ns) HX.out)
                cases hg : ns.contains x.N with
                | true =>
                  have HS2 := hide (show (stayA (l.take (i + 1)) ns).length = (stayA (l.take i) ns).length from by rw [HSM.out, hg, if_pos rfl, List.append_nil])
                  clear hg HSM hfull
                  generalize (stayA (l.take i) ns).length = K at *
                  go_wp2
                  go_roundw
                  case rel => exact ⟨i + 1, by omega, by go_num, by rw [HS2.out], hide HAJ.out⟩
                  case measure => simp [intOf]; omega
                | false =>
                  have HS2 := hide (show (stayA (l.take (i + 1)) ns).length = (stayA (l.take i) ns).length + 1 from by rw [HSM.out, hg, if_neg (by simp), List.length_append]; rfl)
                  have hat := stayA_at HX.out hg
                  have hlt2 : (stayA (l.take i) ns).length < (stayA l ns).length := (List.getElem?_eq_some_iff.1 hat).1
                  have hat2 : (l'.map He.a)[(stayA (l.take i) ns).length]? = some x.a := by rw [HLA.out, List.getElem?_append_left hlt2]; exact hat
                  obtain ⟨y, hy, hyk, y0, y1, y2, y3, y4⟩ := a_at hat2
                  have hyX : (stayA (l.take i) ns).length < X := by have := HXL.out; omega
                  obtain ⟨y', yb, yo, hy', rfl, hyok, d0, d1, d2, d3, d4⟩ := hs_at HAJ.out.h _ hyk
                  rw [hy] at hy'
                  obtain rfl := Option.some.inj hy'
                  have cx : ∀ {o : Nat} {u : Value}, wq.cell? ⟨ab, o, none⟩ = some u → wr.cell? ⟨ab, o, none⟩ = some u := fun {o u} h => (HBJ.out.cell (p := ⟨ab, o, none⟩) (World.block_lt_of_cell? wq _ h)).trans h
                  have x0 := cx HXC.out.1
                  have x1 := cx HXC.out.2.1
                  have x2 := cx HXC.out.2.2.1
                  have x3 := cx HXC.out.2.2.2.1
                  have x4 := cx HXC.out.2.2.2.2
                  have hbw := HAJ.out.b
                  have xok := HXO.out.below HBJ.out (Nat.le_refl _)
                  have yok := hyok
                  obtain ⟨yN, yL, yfa, yfc, yfz, yga, ygc, ygz, yM⟩ := y
                  obtain ⟨xN, xL, xfa, xfc, xfz, xga, xgc, xgz, xM⟩ := x
                  simp only [He.a] at y0 y1 y2 y3 y4
                  subst y0 y1 y2 y3 y4
                  simp only at d0 d1 d2 d3 d4 x0 x1 x2 x3 x4
                  have hKX : (stayA (l.take i) ns).length ≤ 100 := by omega
                  have q1 : ¬ (((stayA (l.take i) ns).length : Int) ≥ (X : Int)) := by omega
                  have q1' : ((stayA (l.take i) ns).length : Int) < (X : Int) := by omega
                  have q1n : ¬ (X ≤ (stayA (l.take i) ns).length) := by omega
                  have b1 : (yN != yN) = false := by simp
                  have b2 : (yL != yL) = false := by simp
                  have b3 : (yM != yM) = false := by simp
                  have HXK : Hid (He.ok wr ⟨yN, yL, xfa, xfc, yfz, xga, xgc, ygz, yM⟩) := hide xok
                  have HYK : Hid (He.ok wr ⟨yN, yL, yfa, yfc, yfz, yga, ygc, ygz, yM⟩) := hide yok
                  generalize (stayA (l.take i) ns).length = K at *
                  clear hg HSM hfull hat hlt2 hat2 hy hy' hyk hyok cx xok yok hbw HX HXO HXC b1 b2 b3
                  go_wp2_with fail
                  -- r14<
                  refine region_sv (avA yb yo K X xc ab off i n c yN yL yM t yfa xfa yga xga yfc xfc ygc xgc yfz ygz) (by kernel_rfl) (by kernel_rfl) (by kernel_rfl) ?step ?fin
                  case step =>
                    intro L a W i hap hI hi hLi hw
                    have hi2 : i < 73 := hi
                    rcases (show i = 0 ∨ i = 1 ∨ i = 2 ∨ i = 3 ∨ i = 4 ∨ i = 5 ∨ i = 6 ∨ i = 7 ∨ i = 8 ∨ i = 9 ∨ i = 10 ∨ i = 11 ∨ i = 12 ∨ i = 13 ∨ i = 14 ∨ i = 15 ∨ i = 16 ∨ i = 17 ∨ i = 18 ∨ i = 19 ∨ i = 20 ∨ i = 21 ∨ i = 22 ∨ i = 23 ∨ i = 24 ∨ i = 25 ∨ i = 26 ∨ i = 27 ∨ i = 28 ∨ i = 29 ∨ i = 30 ∨ i = 31 ∨ i = 32 ∨ i = 33 ∨ i = 34 ∨ i = 35 ∨ i = 36 ∨ i = 37 ∨ i = 38 ∨ i = 39 ∨ i = 40 ∨ i = 41 ∨ i = 42 ∨ i = 43 ∨ i = 44 ∨ i = 45 ∨ i = 46 ∨ i = 47 ∨ i = 48 ∨ i = 49 ∨ i = 50 ∨ i = 51 ∨ i = 52 ∨ i = 53 ∨ i = 54 ∨ i = 55 ∨ i = 56 ∨ i = 57 ∨ i = 58 ∨ i = 59 ∨ i = 60 ∨ i = 61 ∨ i = 62 ∨ i = 63 ∨ i = 64 ∨ i = 65 ∨ i = 66 ∨ i = 67 ∨ i = 68 ∨ i = 69 ∨ i = 70 ∨ i = 71 ∨ i = 72 by omega) with rfl | rfl | rfl | rfl | rfl | rfl | rfl | rfl | rfl | rfl | rfl | rfl | rfl | rfl | rfl | rfl | rfl | rfl | rfl | rfl | rfl | rfl | rfl | rfl | rfl | rfl | rfl | rfl | rfl | rfl | rfl | rfl | rfl | rfl | rfl | rfl | rfl | rfl | rfl | rfl | rfl | rfl | rfl | rfl | rfl | rfl | rfl | rfl | rfl | rfl | rfl | rfl | rfl | rfl | rfl | rfl | rfl | rfl | rfl | rfl | rfl | rfl | rfl | rfl | rfl | rfl | rfl | rfl | rfl | rfl | rfl | rfl | rfl
                    · have e10 := hI.kept 10 _ (by decide +kernel) rfl
                      refine hI.pure hap (by decide +kernel) (i := 0) (d := 60) rfl rfl rfl (v := .int .i64 (K : Int)) rfl (fun _ _ _ _ h => h) hI.g ?_
                      intro K hKK
                      go_simp
                      exact hKK
                    · have e9 := hI.kept 9 _ (by decide +kernel) rfl
                      refine hI.pure hap (by decide +kernel) (i := 1) (d := 61) rfl rfl rfl (v := .slice (some ⟨yb, yo, none⟩) X xc) rfl (fun _ _ _ _ h => h) hI.g ?_
                      intro K hKK
                      go_simp
                      exact hKK
                    · have e61 : a.tmps[61]? = some (.slice (some ⟨yb, yo, none⟩) X xc) := hI.sv 1 61 (by decide +kernel) (hw 1 (by kernel_rfl)) (by kernel_rfl)
                      refine hI.pure hap (by decide +kernel) (i := 2) (d := 62) rfl rfl rfl (v := .int .i64 (X : Int)) rfl (fun _ _ _ _ h => h) hI.g ?_
                      intro K hKK
                      go_simp
                      exact hKK
                    · have e60 : a.tmps[60]? = some (.int .i64 (K : Int)) := hI.sv 0 60 (by decide +kernel) (hw 0 (by kernel_rfl)) (by kernel_rfl)
                      have e62 : a.tmps[62]? = some (.int .i64 (X : Int)) := hI.sv 2 62 (by decide +kernel) (hw 2 (by kernel_rfl)) (by kernel_rfl)
                      refine hI.pure hap (by decide +kernel) (i := 3) (d := 63) rfl rfl rfl (v := .bool false) rfl (fun _ _ _ _ h => h) hI.g ?_
                      intro K hKK
                      go_simp
                      exact hKK
                    · have e63 : a.tmps[63]? = some (.bool false) := hI.sv 3 63 (by decide +kernel) (hw 3 (by kernel_rfl)) (by kernel_rfl)
                      refine hI.pure hap (by decide +kernel) (i := 4) (d := 64) rfl rfl rfl (v := .bool false) rfl (fun _ _ _ _ h => h) hI.g ?_
                      intro K hKK
                      go_simp
                      exact hKK
                    · have e9 := hI.kept 9 _ (by decide +kernel) rfl
                      have eg : a.tmps[64]? = some (.bool false) := hI.sv 4 64 (by decide +kernel) (hw 4 (by kernel_rfl)) (by kernel_rfl)
                      refine hI.gpure hap (by decide +kernel) (i := 5) (d := 65) rfl rfl  (j := 4) (dj := 64) rfl (by kernel_rfl) eg (v := .slice (some ⟨yb, yo, none⟩) X xc) rfl (fun _ _ _ _ h => h) hI.g ?_
                      intro K hKK
                      go_simp
                      exact hKK
                    · have e10 := hI.kept 10 _ (by decide +kernel) rfl
                      have eg : a.tmps[64]? = some (.bool false) := hI.sv 4 64 (by decide +kernel) (hw 4 (by kernel_rfl)) (by kernel_rfl)
                      refine hI.gpure hap (by decide +kernel) (i := 6) (d := 66) rfl rfl  (j := 4) (dj := 64) rfl (by kernel_rfl) eg (v := .int .i64 (K : Int)) rfl (fun _ _ _ _ h => h) hI.g ?_
                      intro K hKK
                      go_simp
                      exact hKK
                    · have e65 : a.tmps[65]? = some (.slice (some ⟨yb, yo, none⟩) X xc) := hI.sv 5 65 (by decide +kernel) (hw 5 (by kernel_rfl)) (by kernel_rfl)
                      have e66 : a.tmps[66]? = some (.int .i64 (K : Int)) := hI.sv 6 66 (by decide +kernel) (hw 6 (by kernel_rfl)) (by kernel_rfl)
                      have eg : a.tmps[64]? = some (.bool false) := hI.sv 4 64 (by decide +kernel) (hw 4 (by kernel_rfl)) (by kernel_rfl)
                      refine hI.gpure hap (by decide +kernel) (i := 7) (d := 67) rfl rfl  (j := 4) (dj := 64) rfl (by kernel_rfl) eg (v := .pointer (some ⟨yb, yo + K * 5, none⟩)) rfl (fun _ _ _ _ h => h) hI.g ?_
                      intro K hKK
                      go_simp
                      exact hKK
                    · have e67 : a.tmps[67]? = some (.pointer (some ⟨yb, yo + K * 5, none⟩)) := hI.sv 7 67 (by decide +kernel) (hw 7 (by kernel_rfl)) (by kernel_rfl)
                      have eg : a.tmps[64]? = some (.bool false) := hI.sv 4 64 (by decide +kernel) (hw 4 (by kernel_rfl)) (by kernel_rfl)
                      refine hI.gpure hap (by decide +kernel) (i := 8) (d := 68) rfl rfl  (j := 4) (dj := 64) rfl (by kernel_rfl) eg (v := .pointer (some ⟨yb, yo + K * 5, none⟩)) rfl (fun _ _ _ _ h => h) hI.g ?_
                      intro K hKK
                      go_simp
                      exact hKK
                    · have e68 : a.tmps[68]? = some (.pointer (some ⟨yb, yo + K * 5, none⟩)) := hI.sv 8 68 (by decide +kernel) (hw 8 (by kernel_rfl)) (by kernel_rfl)
                      have eg : a.tmps[64]? = some (.bool false) := hI.sv 4 64 (by decide +kernel) (hw 4 (by kernel_rfl)) (by kernel_rfl)
                      have k9 := (Below.cell hI.g (World.block_lt_of_cell? _ _ d0)).trans d0
                      refine hI.gpure hap (by decide +kernel) (i := 9) (d := 69) rfl rfl  (j := 4) (dj := 64) rfl (by kernel_rfl) eg (v := .int .i64 yN) rfl (fun _ _ _ _ h => h) hI.g ?_
                      intro K hKK
                      go_simp
                      exact hKK
                    · have e0 := hI.kept 0 _ (by decide +kernel) rfl
                      have eg : a.tmps[64]? = some (.bool false) := hI.sv 4 64 (by decide +kernel) (hw 4 (by kernel_rfl)) (by kernel_rfl)
                      refine hI.gpure hap (by decide +kernel) (i := 10) (d := 70) rfl rfl  (j := 4) (dj := 64) rfl (by kernel_rfl) eg (v := .slice (some ⟨ab, off, none⟩) n c) rfl (fun _ _ _ _ h => h) hI.g ?_
                      intro K hKK
                      go_simp
                      exact hKK
                    · have e11 := hI.kept 11 _ (by decide +kernel) rfl
                      have eg : a.tmps[64]? = some (.bool false) := hI.sv 4 64 (by decide +kernel) (hw 4 (by kernel_rfl)) (by kernel_rfl)
                      refine hI.gpure hap (by decide +kernel) (i := 11) (d := 71) rfl rfl  (j := 4) (dj := 64) rfl (by kernel_rfl) eg (v := .int .i64 (i : Int)) rfl (fun _ _ _ _ h => h) hI.g ?_
                      intro K hKK
                      go_simp
                      exact hKK
                    · have e70 : a.tmps[70]? = some (.slice (some ⟨ab, off, none⟩) n c) := hI.sv 10 70 (by decide +kernel) (hw 10 (by kernel_rfl)) (by kernel_rfl)
                      have e71 : a.tmps[71]? = some (.int .i64 (i : Int)) := hI.sv 11 71 (by decide +kernel) (hw 11 (by kernel_rfl)) (by kernel_rfl)
                      have eg : a.tmps[64]? = some (.bool false) := hI.sv 4 64 (by decide +kernel) (hw 4 (by kernel_rfl)) (by kernel_rfl)
                      refine hI.gpure hap (by decide +kernel) (i := 12) (d := 72) rfl rfl  (j := 4) (dj := 64) rfl (by kernel_rfl) eg (v := .pointer (some ⟨ab, off + i * 5, none⟩)) rfl (fun _ _ _ _ h => h) hI.g ?_
                      intro K hKK
                      go_simp
                      exact hKK
                    · have e72 : a.tmps[72]? = some (.pointer (some ⟨ab, off + i * 5, none⟩)) := hI.sv 12 72 (by decide +kernel) (hw 12 (by kernel_rfl)) (by kernel_rfl)
                      have eg : a.tmps[64]? = some (.bool false) := hI.sv 4 64 (by decide +kernel) (hw 4 (by kernel_rfl)) (by kernel_rfl)
                      refine hI.gpure hap (by decide +kernel) (i := 13) (d := 73) rfl rfl  (j := 4) (dj := 64) rfl (by kernel_rfl) eg (v := .pointer (some ⟨ab, off + i * 5, none⟩)) rfl (fun _ _ _ _ h => h) hI.g ?_
                      intro K hKK
                      go_simp
                      exact hKK
                    · have e73 : a.tmps[73]? = some (.pointer (some ⟨ab, off + i * 5, none⟩)) := hI.sv 13 73 (by decide +kernel) (hw 13 (by kernel_rfl)) (by kernel_rfl)
                      have eg : a.tmps[64]? = some (.bool false) := hI.sv 4 64 (by decide +kernel) (hw 4 (by kernel_rfl)) (by kernel_rfl)
                      have k9 := (Below.cell hI.g (World.block_lt_of_cell? _ _ x0)).trans x0
                      refine hI.gpure hap (by decide +kernel) (i := 14) (d := 74) rfl rfl  (j := 4) (dj := 64) rfl (by kernel_rfl) eg (v := .int .i64 yN) rfl (fun _ _ _ _ h => h) hI.g ?_
                      intro K hKK
                      go_simp
                      exact hKK
                    · have e69 : a.tmps[69]? = some (.int .i64 yN) := hI.sv 9 69 (by decide +kernel) (hw 9 (by kernel_rfl)) (by kernel_rfl)
                      have e74 : a.tmps[74]? = some (.int .i64 yN) := hI.sv 14 74 (by decide +kernel) (hw 14 (by kernel_rfl)) (by kernel_rfl)
                      have eg : a.tmps[64]? = some (.bool false) := hI.sv 4 64 (by decide +kernel) (hw 4 (by kernel_rfl)) (by kernel_rfl)
                      refine hI.gpure hap (by decide +kernel) (i := 15) (d := 75) rfl rfl  (j := 4) (dj := 64) rfl (by kernel_rfl) eg (v := .bool false) rfl (fun _ _ _ _ h => h) hI.g ?_
                      intro K hKK
                      go_simp
                      exact hKK
                    · have e64 : a.tmps[64]? = some (.bool false) := hI.sv 4 64 (by decide +kernel) (hw 4 (by kernel_rfl)) (by kernel_rfl)
                      have e75 : a.tmps[75]? = some (.bool false) := hI.sv 15 75 (by decide +kernel) (hw 15 (by kernel_rfl)) (by kernel_rfl)
                      refine hI.pure hap (by decide +kernel) (i := 16) (d := 76) rfl rfl rfl (v := .bool false) rfl (fun _ _ _ _ h => h) hI.g ?_
                      intro K hKK
                      go_simp
                      exact hKK
                    · have e76 : a.tmps[76]? = some (.bool false) := hI.sv 16 76 (by decide +kernel) (hw 16 (by kernel_rfl)) (by kernel_rfl)
                      refine hI.pure hap (by decide +kernel) (i := 17) (d := 77) rfl rfl rfl (v := .bool false) rfl (fun _ _ _ _ h => h) hI.g ?_
                      intro K hKK
                      go_simp
                      exact hKK
                    · have e9 := hI.kept 9 _ (by decide +kernel) rfl
                      have eg : a.tmps[77]? = some (.bool false) := hI.sv 17 77 (by decide +kernel) (hw 17 (by kernel_rfl)) (by kernel_rfl)
                      refine hI.gpure hap (by decide +kernel) (i := 18) (d := 78) rfl rfl  (j := 17) (dj := 77) rfl (by kernel_rfl) eg (v := .slice (some ⟨yb, yo, none⟩) X xc) rfl (fun _ _ _ _ h => h) hI.g ?_
                      intro K hKK
                      go_simp
                      exact hKK
                    · have e10 := hI.kept 10 _ (by decide +kernel) rfl
                      have eg : a.tmps[77]? = some (.bool false) := hI.sv 17 77 (by decide +kernel) (hw 17 (by kernel_rfl)) (by kernel_rfl)
                      refine hI.gpure hap (by decide +kernel) (i := 19) (d := 79) rfl rfl  (j := 17) (dj := 77) rfl (by kernel_rfl) eg (v := .int .i64 (K : Int)) rfl (fun _ _ _ _ h => h) hI.g ?_
                      intro K hKK
                      go_simp
                      exact hKK
                    · have e78 : a.tmps[78]? = some (.slice (some ⟨yb, yo, none⟩) X xc) := hI.sv 18 78 (by decide +kernel) (hw 18 (by kernel_rfl)) (by kernel_rfl)
                      have e79 : a.tmps[79]? = some (.int .i64 (K : Int)) := hI.sv 19 79 (by decide +kernel) (hw 19 (by kernel_rfl)) (by kernel_rfl)
                      have eg : a.tmps[77]? = some (.bool false) := hI.sv 17 77 (by decide +kernel) (hw 17 (by kernel_rfl)) (by kernel_rfl)
                      refine hI.gpure hap (by decide +kernel) (i := 20) (d := 80) rfl rfl  (j := 17) (dj := 77) rfl (by kernel_rfl) eg (v := .pointer (some ⟨yb, yo + K * 5, none⟩)) rfl (fun _ _ _ _ h => h) hI.g ?_
                      intro K hKK
                      go_simp
                      exact hKK
                    · have e80 : a.tmps[80]? = some (.pointer (some ⟨yb, yo + K * 5, none⟩)) := hI.sv 20 80 (by decide +kernel) (hw 20 (by kernel_rfl)) (by kernel_rfl)
                      have eg : a.tmps[77]? = some (.bool false) := hI.sv 17 77 (by decide +kernel) (hw 17 (by kernel_rfl)) (by kernel_rfl)
                      refine hI.gpure hap (by decide +kernel) (i := 21) (d := 81) rfl rfl  (j := 17) (dj := 77) rfl (by kernel_rfl) eg (v := .pointer (some ⟨yb, yo + K * 5 + 1, none⟩)) rfl (fun _ _ _ _ h => h) hI.g ?_
                      intro K hKK
                      go_simp
                      exact hKK
                    · have e81 : a.tmps[81]? = some (.pointer (some ⟨yb, yo + K * 5 + 1, none⟩)) := hI.sv 21 81 (by decide +kernel) (hw 21 (by kernel_rfl)) (by kernel_rfl)
                      have eg : a.tmps[77]? = some (.bool false) := hI.sv 17 77 (by decide +kernel) (hw 17 (by kernel_rfl)) (by kernel_rfl)
                      have k9 := (Below.cell hI.g (World.block_lt_of_cell? _ _ d1)).trans d1
                      refine hI.gpure hap (by decide +kernel) (i := 22) (d := 82) rfl rfl  (j := 17) (dj := 77) rfl (by kernel_rfl) eg (v := .int .i64 yL) rfl (fun _ _ _ _ h => h) hI.g ?_
                      intro K hKK
                      go_simp
                      exact hKK
                    · have e0 := hI.kept 0 _ (by decide +kernel) rfl
                      have eg : a.tmps[77]? = some (.bool false) := hI.sv 17 77 (by decide +kernel) (hw 17 (by kernel_rfl)) (by kernel_rfl)
                      refine hI.gpure hap (by decide +kernel) (i := 23) (d := 83) rfl rfl  (j := 17) (dj := 77) rfl (by kernel_rfl) eg (v := .slice (some ⟨ab, off, none⟩) n c) rfl (fun _ _ _ _ h => h) hI.g ?_
                      intro K hKK
                      go_simp
                      exact hKK
                    · have e11 := hI.kept 11 _ (by decide +kernel) rfl
                      have eg : a.tmps[77]? = some (.bool false) := hI.sv 17 77 (by decide +kernel) (hw 17 (by kernel_rfl)) (by kernel_rfl)
                      refine hI.gpure hap (by decide +kernel) (i := 24) (d := 84) rfl rfl  (j := 17) (dj := 77) rfl (by kernel_rfl) eg (v := .int .i64 (i : Int)) rfl (fun _ _ _ _ h => h) hI.g ?_
                      intro K hKK
                      go_simp
                      exact hKK
                    · have e83 : a.tmps[83]? = some (.slice (some ⟨ab, off, none⟩) n c) := hI.sv 23 83 (by decide +kernel) (hw 23 (by kernel_rfl)) (by kernel_rfl)
                      have e84 : a.tmps[84]? = some (.int .i64 (i : Int)) := hI.sv 24 84 (by decide +kernel) (hw 24 (by kernel_rfl)) (by kernel_rfl)
                      have eg : a.tmps[77]? = some (.bool false) := hI.sv 17 77 (by decide +kernel) (hw 17 (by kernel_rfl)) (by kernel_rfl)
                      refine hI.gpure hap (by decide +kernel) (i := 25) (d := 85) rfl rfl  (j := 17) (dj := 77) rfl (by kernel_rfl) eg (v := .pointer (some ⟨ab, off + i * 5, none⟩)) rfl (fun _ _ _ _ h => h) hI.g ?_
                      intro K hKK
                      go_simp
                      exact hKK
                    · have e85 : a.tmps[85]? = some (.pointer (some ⟨ab, off + i * 5, none⟩)) := hI.sv 25 85 (by decide +kernel) (hw 25 (by kernel_rfl)) (by kernel_rfl)
                      have eg : a.tmps[77]? = some (.bool false) := hI.sv 17 77 (by decide +kernel) (hw 17 (by kernel_rfl)) (by kernel_rfl)
                      refine hI.gpure hap (by decide +kernel) (i := 26) (d := 86) rfl rfl  (j := 17) (dj := 77) rfl (by kernel_rfl) eg (v := .pointer (some ⟨ab, off + i * 5 + 1, none⟩)) rfl (fun _ _ _ _ h => h) hI.g ?_
                      intro K hKK
                      go_simp
                      exact hKK
                    · have e86 : a.tmps[86]? = some (.pointer (some ⟨ab, off + i * 5 + 1, none⟩)) := hI.sv 26 86 (by decide +kernel) (hw 26 (by kernel_rfl)) (by kernel_rfl)
                      have eg : a.tmps[77]? = some (.bool false) := hI.sv 17 77 (by decide +kernel) (hw 17 (by kernel_rfl)) (by kernel_rfl)
                      have k9 := (Below.cell hI.g (World.block_lt_of_cell? _ _ x1)).trans x1
                      refine hI.gpure hap (by decide +kernel) (i := 27) (d := 87) rfl rfl  (j := 17) (dj := 77) rfl (by kernel_rfl) eg (v := .int .i64 yL) rfl (fun _ _ _ _ h => h) hI.g ?_
                      intro K hKK
                      go_simp
                      exact hKK
                    · have e82 : a.tmps[82]? = some (.int .i64 yL) := hI.sv 22 82 (by decide +kernel) (hw 22 (by kernel_rfl)) (by kernel_rfl)
                      have e87 : a.tmps[87]? = some (.int .i64 yL) := hI.sv 27 87 (by decide +kernel) (hw 27 (by kernel_rfl)) (by kernel_rfl)
                      have eg : a.tmps[77]? = some (.bool false) := hI.sv 17 77 (by decide +kernel) (hw 17 (by kernel_rfl)) (by kernel_rfl)
                      refine hI.gpure hap (by decide +kernel) (i := 28) (d := 88) rfl rfl  (j := 17) (dj := 77) rfl (by kernel_rfl) eg (v := .bool false) rfl (fun _ _ _ _ h => h) hI.g ?_
                      intro K hKK
                      go_simp
                      exact hKK
                    · have e77 : a.tmps[77]? = some (.bool false) := hI.sv 17 77 (by decide +kernel) (hw 17 (by kernel_rfl)) (by kernel_rfl)
                      have e88 : a.tmps[88]? = some (.bool false) := hI.sv 28 88 (by decide +kernel) (hw 28 (by kernel_rfl)) (by kernel_rfl)
                      refine hI.pure hap (by decide +kernel) (i := 29) (d := 89) rfl rfl rfl (v := .bool false) rfl (fun _ _ _ _ h => h) hI.g ?_
                      intro K hKK
                      go_simp
                      exact hKK
                    · have e89 : a.tmps[89]? = some (.bool false) := hI.sv 29 89 (by decide +kernel) (hw 29 (by kernel_rfl)) (by kernel_rfl)
                      refine hI.pure hap (by decide +kernel) (i := 30) (d := 90) rfl rfl rfl (v := .bool false) rfl (fun _ _ _ _ h => h) hI.g ?_
                      intro K hKK
                      go_simp
                      exact hKK
                    · have e9 := hI.kept 9 _ (by decide +kernel) rfl
                      have eg : a.tmps[90]? = some (.bool false) := hI.sv 30 90 (by decide +kernel) (hw 30 (by kernel_rfl)) (by kernel_rfl)
                      refine hI.gpure hap (by decide +kernel) (i := 31) (d := 91) rfl rfl  (j := 30) (dj := 90) rfl (by kernel_rfl) eg (v := .slice (some ⟨yb, yo, none⟩) X xc) rfl (fun _ _ _ _ h => h) hI.g ?_
                      intro K hKK
                      go_simp
                      exact hKK
                    · have e10 := hI.kept 10 _ (by decide +kernel) rfl
                      have eg : a.tmps[90]? = some (.bool false) := hI.sv 30 90 (by decide +kernel) (hw 30 (by kernel_rfl)) (by kernel_rfl)
                      refine hI.gpure hap (by decide +kernel) (i := 32) (d := 92) rfl rfl  (j := 30) (dj := 90) rfl (by kernel_rfl) eg (v := .int .i64 (K : Int)) rfl (fun _ _ _ _ h => h) hI.g ?_
                      intro K hKK
                      go_simp
                      exact hKK
                    · have e91 : a.tmps[91]? = some (.slice (some ⟨yb, yo, none⟩) X xc) := hI.sv 31 91 (by decide +kernel) (hw 31 (by kernel_rfl)) (by kernel_rfl)
                      have e92 : a.tmps[92]? = some (.int .i64 (K : Int)) := hI.sv 32 92 (by decide +kernel) (hw 32 (by kernel_rfl)) (by kernel_rfl)
                      have eg : a.tmps[90]? = some (.bool false) := hI.sv 30 90 (by decide +kernel) (hw 30 (by kernel_rfl)) (by kernel_rfl)
                      refine hI.gpure hap (by decide +kernel) (i := 33) (d := 93) rfl rfl  (j := 30) (dj := 90) rfl (by kernel_rfl) eg (v := .pointer (some ⟨yb, yo + K * 5, none⟩)) rfl (fun _ _ _ _ h => h) hI.g ?_
                      intro K hKK
                      go_simp
                      exact hKK
                    · have e93 : a.tmps[93]? = some (.pointer (some ⟨yb, yo + K * 5, none⟩)) := hI.sv 33 93 (by decide +kernel) (hw 33 (by kernel_rfl)) (by kernel_rfl)
                      have eg : a.tmps[90]? = some (.bool false) := hI.sv 30 90 (by decide +kernel) (hw 30 (by kernel_rfl)) (by kernel_rfl)
                      refine hI.gpure hap (by decide +kernel) (i := 34) (d := 94) rfl rfl  (j := 30) (dj := 90) rfl (by kernel_rfl) eg (v := .pointer (some ⟨yb, yo + K * 5 + 4, none⟩)) rfl (fun _ _ _ _ h => h) hI.g ?_
                      intro K hKK
                      go_simp
                      exact hKK
                    · have e94 : a.tmps[94]? = some (.pointer (some ⟨yb, yo + K * 5 + 4, none⟩)) := hI.sv 34 94 (by decide +kernel) (hw 34 (by kernel_rfl)) (by kernel_rfl)
                      have eg : a.tmps[90]? = some (.bool false) := hI.sv 30 90 (by decide +kernel) (hw 30 (by kernel_rfl)) (by kernel_rfl)
                      have k9 := (Below.cell hI.g (World.block_lt_of_cell? _ _ d4)).trans d4
                      refine hI.gpure hap (by decide +kernel) (i := 35) (d := 95) rfl rfl  (j := 30) (dj := 90) rfl (by kernel_rfl) eg (v := .int .i64 yM) rfl (fun _ _ _ _ h => h) hI.g ?_
                      intro K hKK
                      go_simp
                      exact hKK
                    · have e0 := hI.kept 0 _ (by decide +kernel) rfl
                      have eg : a.tmps[90]? = some (.bool false) := hI.sv 30 90 (by decide +kernel) (hw 30 (by kernel_rfl)) (by kernel_rfl)
                      refine hI.gpure hap (by decide +kernel) (i := 36) (d := 96) rfl rfl  (j := 30) (dj := 90) rfl (by kernel_rfl) eg (v := .slice (some ⟨ab, off, none⟩) n c) rfl (fun _ _ _ _ h => h) hI.g ?_
                      intro K hKK
                      go_simp
                      exact hKK
                    · have e11 := hI.kept 11 _ (by decide +kernel) rfl
                      have eg : a.tmps[90]? = some (.bool false) := hI.sv 30 90 (by decide +kernel) (hw 30 (by kernel_rfl)) (by kernel_rfl)
                      refine hI.gpure hap (by decide +kernel) (i := 37) (d := 97) rfl rfl  (j := 30) (dj := 90) rfl (by kernel_rfl) eg (v := .int .i64 (i : Int)) rfl (fun _ _ _ _ h => h) hI.g ?_
                      intro K hKK
                      go_simp
                      exact hKK
                    · have e96 : a.tmps[96]? = some (.slice (some ⟨ab, off, none⟩) n c) := hI.sv 36 96 (by decide +kernel) (hw 36 (by kernel_rfl)) (by kernel_rfl)
                      have e97 : a.tmps[97]? = some (.int .i64 (i : Int)) := hI.sv 37 97 (by decide +kernel) (hw 37 (by kernel_rfl)) (by kernel_rfl)
                      have eg : a.tmps[90]? = some (.bool false) := hI.sv 30 90 (by decide +kernel) (hw 30 (by kernel_rfl)) (by kernel_rfl)
                      refine hI.gpure hap (by decide +kernel) (i := 38) (d := 98) rfl rfl  (j := 30) (dj := 90) rfl (by kernel_rfl) eg (v := .pointer (some ⟨ab, off + i * 5, none⟩)) rfl (fun _ _ _ _ h => h) hI.g ?_
                      intro K hKK
                      go_simp
                      exact hKK
                    · have e98 : a.tmps[98]? = some (.pointer (some ⟨ab, off + i * 5, none⟩)) := hI.sv 38 98 (by decide +kernel) (hw 38 (by kernel_rfl)) (by kernel_rfl)
                      have eg : a.tmps[90]? = some (.bool false) := hI.sv 30 90 (by decide +kernel) (hw 30 (by kernel_rfl)) (by kernel_rfl)
                      refine hI.gpure hap (by decide +kernel) (i := 39) (d := 99) rfl rfl  (j := 30) (dj := 90) rfl (by kernel_rfl) eg (v := .pointer (some ⟨ab, off + i * 5 + 4, none⟩)) rfl (fun _ _ _ _ h => h) hI.g ?_
                      intro K hKK
                      go_simp
                      exact hKK
                    · have e99 : a.tmps[99]? = some (.pointer (some ⟨ab, off + i * 5 + 4, none⟩)) := hI.sv 39 99 (by decide +kernel) (hw 39 (by kernel_rfl)) (by kernel_rfl)
                      have eg : a.tmps[90]? = some (.bool false) := hI.sv 30 90 (by decide +kernel) (hw 30 (by kernel_rfl)) (by kernel_rfl)
                      have k9 := (Below.cell hI.g (World.block_lt_of_cell? _ _ x4)).trans x4
                      refine hI.gpure hap (by decide +kernel) (i := 40) (d := 100) rfl rfl  (j := 30) (dj := 90) rfl (by kernel_rfl) eg (v := .int .i64 yM) rfl (fun _ _ _ _ h => h) hI.g ?_
                      intro K hKK
                      go_simp
                      exact hKK
                    · have e95 : a.tmps[95]? = some (.int .i64 yM) := hI.sv 35 95 (by decide +kernel) (hw 35 (by kernel_rfl)) (by kernel_rfl)
                      have e100 : a.tmps[100]? = some (.int .i64 yM) := hI.sv 40 100 (by decide +kernel) (hw 40 (by kernel_rfl)) (by kernel_rfl)
                      have eg : a.tmps[90]? = some (.bool false) := hI.sv 30 90 (by decide +kernel) (hw 30 (by kernel_rfl)) (by kernel_rfl)
                      refine hI.gpure hap (by decide +kernel) (i := 41) (d := 101) rfl rfl  (j := 30) (dj := 90) rfl (by kernel_rfl) eg (v := .bool false) rfl (fun _ _ _ _ h => h) hI.g ?_
                      intro K hKK
                      go_simp
                      exact hKK
                    · have e90 : a.tmps[90]? = some (.bool false) := hI.sv 30 90 (by decide +kernel) (hw 30 (by kernel_rfl)) (by kernel_rfl)
                      have e101 : a.tmps[101]? = some (.bool false) := hI.sv 41 101 (by decide +kernel) (hw 41 (by kernel_rfl)) (by kernel_rfl)
                      refine hI.pure hap (by decide +kernel) (i := 42) (d := 102) rfl rfl rfl (v := .bool false) rfl (fun _ _ _ _ h => h) hI.g ?_
                      intro K hKK
                      go_simp
                      exact hKK
                    · have e102 : a.tmps[102]? = some (.bool false) := hI.sv 42 102 (by decide +kernel) (hw 42 (by kernel_rfl)) (by kernel_rfl)
                      refine hI.pure hap (by decide +kernel) (i := 43) (d := 103) rfl rfl rfl (v := .bool false) rfl (fun _ _ _ _ h => h) hI.g ?_
                      intro K hKK
                      go_simp
                      exact hKK
                    · have e9 := hI.kept 9 _ (by decide +kernel) rfl
                      have eg : a.tmps[103]? = some (.bool false) := hI.sv 43 103 (by decide +kernel) (hw 43 (by kernel_rfl)) (by kernel_rfl)
                      refine hI.gpure hap (by decide +kernel) (i := 44) (d := 104) rfl rfl  (j := 43) (dj := 103) rfl (by kernel_rfl) eg (v := .slice (some ⟨yb, yo, none⟩) X xc) rfl (fun _ _ _ _ h => h) hI.g ?_
                      intro K hKK
                      go_simp
                      exact hKK
                    · have e10 := hI.kept 10 _ (by decide +kernel) rfl
                      have eg : a.tmps[103]? = some (.bool false) := hI.sv 43 103 (by decide +kernel) (hw 43 (by kernel_rfl)) (by kernel_rfl)
                      refine hI.gpure hap (by decide +kernel) (i := 45) (d := 105) rfl rfl  (j := 43) (dj := 103) rfl (by kernel_rfl) eg (v := .int .i64 (K : Int)) rfl (fun _ _ _ _ h => h) hI.g ?_
                      intro K hKK
                      go_simp
                      exact hKK
                    · have e104 : a.tmps[104]? = some (.slice (some ⟨yb, yo, none⟩) X xc) := hI.sv 44 104 (by decide +kernel) (hw 44 (by kernel_rfl)) (by kernel_rfl)
                      have e105 : a.tmps[105]? = some (.int .i64 (K : Int)) := hI.sv 45 105 (by decide +kernel) (hw 45 (by kernel_rfl)) (by kernel_rfl)
                      have eg : a.tmps[103]? = some (.bool false) := hI.sv 43 103 (by decide +kernel) (hw 43 (by kernel_rfl)) (by kernel_rfl)
                      refine hI.gpure hap (by decide +kernel) (i := 46) (d := 106) rfl rfl  (j := 43) (dj := 103) rfl (by kernel_rfl) eg (v := .pointer (some ⟨yb, yo + K * 5, none⟩)) rfl (fun _ _ _ _ h => h) hI.g ?_
                      intro K hKK
                      go_simp
                      exact hKK
                    · have e106 : a.tmps[106]? = some (.pointer (some ⟨yb, yo + K * 5, none⟩)) := hI.sv 46 106 (by decide +kernel) (hw 46 (by kernel_rfl)) (by kernel_rfl)
                      have eg : a.tmps[103]? = some (.bool false) := hI.sv 43 103 (by decide +kernel) (hw 43 (by kernel_rfl)) (by kernel_rfl)
                      refine hI.gpure hap (by decide +kernel) (i := 47) (d := 107) rfl rfl  (j := 43) (dj := 103) rfl (by kernel_rfl) eg (v := .pointer (some ⟨yb, yo + K * 5 + 2, none⟩)) rfl (fun _ _ _ _ h => h) hI.g ?_
                      intro K hKK
                      go_simp
                      exact hKK
                    · have e107 : a.tmps[107]? = some (.pointer (some ⟨yb, yo + K * 5 + 2, none⟩)) := hI.sv 47 107 (by decide +kernel) (hw 47 (by kernel_rfl)) (by kernel_rfl)
                      have eg : a.tmps[103]? = some (.bool false) := hI.sv 43 103 (by decide +kernel) (hw 43 (by kernel_rfl)) (by kernel_rfl)
                      have k9 := (Below.cell hI.g (World.block_lt_of_cell? _ _ d2)).trans d2
                      refine hI.gpure hap (by decide +kernel) (i := 48) (d := 108) rfl rfl  (j := 43) (dj := 103) rfl (by kernel_rfl) eg (v := .slice yfa yfz.length yfc) rfl (fun _ _ _ _ h => h) hI.g ?_
                      intro K hKK
                      go_simp
                      exact hKK
                    · have e108 : a.tmps[108]? = some (.slice yfa yfz.length yfc) := hI.sv 48 108 (by decide +kernel) (hw 48 (by kernel_rfl)) (by kernel_rfl)
                      have eg : a.tmps[103]? = some (.bool false) := hI.sv 43 103 (by decide +kernel) (hw 43 (by kernel_rfl)) (by kernel_rfl)
                      have k9 := conv_bs ((HYK.out.below hI.g (Nat.le_refl _)).1.1)
                      refine hI.gpure hap (by decide +kernel) (i := 49) (d := 109) rfl rfl  (j := 43) (dj := 103) rfl (by kernel_rfl) eg (v := .string (strOfNums yfz)) rfl (fun _ _ _ _ h => h) hI.g ?_
                      intro K hKK
                      go_simp
                      exact hKK
                    · have e0 := hI.kept 0 _ (by decide +kernel) rfl
                      have eg : a.tmps[103]? = some (.bool false) := hI.sv 43 103 (by decide +kernel) (hw 43 (by kernel_rfl)) (by kernel_rfl)
                      refine hI.gpure hap (by decide +kernel) (i := 50) (d := 110) rfl rfl  (j := 43) (dj := 103) rfl (by kernel_rfl) eg (v := .slice (some ⟨ab, off, none⟩) n c) rfl (fun _ _ _ _ h => h) hI.g ?_
                      intro K hKK
                      go_simp
                      exact hKK
                    · have e11 := hI.kept 11 _ (by decide +kernel) rfl
                      have eg : a.tmps[103]? = some (.bool false) := hI.sv 43 103 (by decide +kernel) (hw 43 (by kernel_rfl)) (by kernel_rfl)
                      refine hI.gpure hap (by decide +kernel) (i := 51) (d := 111) rfl rfl  (j := 43) (dj := 103) rfl (by kernel_rfl) eg (v := .int .i64 (i : Int)) rfl (fun _ _ _ _ h => h) hI.g ?_
                      intro K hKK
                      go_simp
                      exact hKK
                    · have e110 : a.tmps[110]? = some (.slice (some ⟨ab, off, none⟩) n c) := hI.sv 50 110 (by decide +kernel) (hw 50 (by kernel_rfl)) (by kernel_rfl)
                      have e111 : a.tmps[111]? = some (.int .i64 (i : Int)) := hI.sv 51 111 (by decide +kernel) (hw 51 (by kernel_rfl)) (by kernel_rfl)
                      have eg : a.tmps[103]? = some (.bool false) := hI.sv 43 103 (by decide +kernel) (hw 43 (by kernel_rfl)) (by kernel_rfl)
                      refine hI.gpure hap (by decide +kernel) (i := 52) (d := 112) rfl rfl  (j := 43) (dj := 103) rfl (by kernel_rfl) eg (v := .pointer (some ⟨ab, off + i * 5, none⟩)) rfl (fun _ _ _ _ h => h) hI.g ?_
                      intro K hKK
                      go_simp
                      exact hKK
                    · have e112 : a.tmps[112]? = some (.pointer (some ⟨ab, off + i * 5, none⟩)) := hI.sv 52 112 (by decide +kernel) (hw 52 (by kernel_rfl)) (by kernel_rfl)
                      have eg : a.tmps[103]? = some (.bool false) := hI.sv 43 103 (by decide +kernel) (hw 43 (by kernel_rfl)) (by kernel_rfl)
                      refine hI.gpure hap (by decide +kernel) (i := 53) (d := 113) rfl rfl  (j := 43) (dj := 103) rfl (by kernel_rfl) eg (v := .pointer (some ⟨ab, off + i * 5 + 2, none⟩)) rfl (fun _ _ _ _ h => h) hI.g ?_
                      intro K hKK
                      go_simp
                      exact hKK
                    · have e113 : a.tmps[113]? = some (.pointer (some ⟨ab, off + i * 5 + 2, none⟩)) := hI.sv 53 113 (by decide +kernel) (hw 53 (by kernel_rfl)) (by kernel_rfl)
                      have eg : a.tmps[103]? = some (.bool false) := hI.sv 43 103 (by decide +kernel) (hw 43 (by kernel_rfl)) (by kernel_rfl)
                      have k9 := (Below.cell hI.g (World.block_lt_of_cell? _ _ x2)).trans x2
                      refine hI.gpure hap (by decide +kernel) (i := 54) (d := 114) rfl rfl  (j := 43) (dj := 103) rfl (by kernel_rfl) eg (v := .slice xfa yfz.length xfc) rfl (fun _ _ _ _ h => h) hI.g ?_
                      intro K hKK
                      go_simp
                      exact hKK
                    · have e114 : a.tmps[114]? = some (.slice xfa yfz.length xfc) := hI.sv 54 114 (by decide +kernel) (hw 54 (by kernel_rfl)) (by kernel_rfl)
                      have eg : a.tmps[103]? = some (.bool false) := hI.sv 43 103 (by decide +kernel) (hw 43 (by kernel_rfl)) (by kernel_rfl)
                      have k9 := conv_bs ((HXK.out.below hI.g (Nat.le_refl _)).1.1)
                      refine hI.gpure hap (by decide +kernel) (i := 55) (d := 115) rfl rfl  (j := 43) (dj := 103) rfl (by kernel_rfl) eg (v := .string (strOfNums yfz)) rfl (fun _ _ _ _ h => h) hI.g ?_
                      intro K hKK
                      go_simp
                      exact hKK
                    · have e109 : a.tmps[109]? = some (.string (strOfNums yfz)) := hI.sv 49 109 (by decide +kernel) (hw 49 (by kernel_rfl)) (by kernel_rfl)
                      have e115 : a.tmps[115]? = some (.string (strOfNums yfz)) := hI.sv 55 115 (by decide +kernel) (hw 55 (by kernel_rfl)) (by kernel_rfl)
                      have eg : a.tmps[103]? = some (.bool false) := hI.sv 43 103 (by decide +kernel) (hw 43 (by kernel_rfl)) (by kernel_rfl)
                      refine hI.gpure hap (by decide +kernel) (i := 56) (d := 116) rfl rfl  (j := 43) (dj := 103) rfl (by kernel_rfl) eg (v := .bool false) rfl (fun _ _ _ _ h => h) hI.g ?_
                      intro K hKK
                      go_simp
                      exact hKK
                    · have e103 : a.tmps[103]? = some (.bool false) := hI.sv 43 103 (by decide +kernel) (hw 43 (by kernel_rfl)) (by kernel_rfl)
                      have e116 : a.tmps[116]? = some (.bool false) := hI.sv 56 116 (by decide +kernel) (hw 56 (by kernel_rfl)) (by kernel_rfl)
                      refine hI.pure hap (by decide +kernel) (i := 57) (d := 117) rfl rfl rfl (v := .bool false) rfl (fun _ _ _ _ h => h) hI.g ?_
                      intro K hKK
                      go_simp
                      exact hKK
                    · have e117 : a.tmps[117]? = some (.bool false) := hI.sv 57 117 (by decide +kernel) (hw 57 (by kernel_rfl)) (by kernel_rfl)
                      refine hI.pure hap (by decide +kernel) (i := 58) (d := 118) rfl rfl rfl (v := .bool false) rfl (fun _ _ _ _ h => h) hI.g ?_
                      intro K hKK
                      go_simp
                      exact hKK
                    · have e9 := hI.kept 9 _ (by decide +kernel) rfl
                      have eg : a.tmps[118]? = some (.bool false) := hI.sv 58 118 (by decide +kernel) (hw 58 (by kernel_rfl)) (by kernel_rfl)
                      refine hI.gpure hap (by decide +kernel) (i := 59) (d := 119) rfl rfl  (j := 58) (dj := 118) rfl (by kernel_rfl) eg (v := .slice (some ⟨yb, yo, none⟩) X xc) rfl (fun _ _ _ _ h => h) hI.g ?_
                      intro K hKK
                      go_simp
                      exact hKK
                    · have e10 := hI.kept 10 _ (by decide +kernel) rfl
                      have eg : a.tmps[118]? = some (.bool false) := hI.sv 58 118 (by decide +kernel) (hw 58 (by kernel_rfl)) (by kernel_rfl)
                      refine hI.gpure hap (by decide +kernel) (i := 60) (d := 120) rfl rfl  (j := 58) (dj := 118) rfl (by kernel_rfl) eg (v := .int .i64 (K : Int)) rfl (fun _ _ _ _ h => h) hI.g ?_
                      intro K hKK
                      go_simp
                      exact hKK
                    · have e119 : a.tmps[119]? = some (.slice (some ⟨yb, yo, none⟩) X xc) := hI.sv 59 119 (by decide +kernel) (hw 59 (by kernel_rfl)) (by kernel_rfl)
                      have e120 : a.tmps[120]? = some (.int .i64 (K : Int)) := hI.sv 60 120 (by decide +kernel) (hw 60 (by kernel_rfl)) (by kernel_rfl)
                      have eg : a.tmps[118]? = some (.bool false) := hI.sv 58 118 (by decide +kernel) (hw 58 (by kernel_rfl)) (by kernel_rfl)
                      refine hI.gpure hap (by decide +kernel) (i := 61) (d := 121) rfl rfl  (j := 58) (dj := 118) rfl (by kernel_rfl) eg (v := .pointer (some ⟨yb, yo + K * 5, none⟩)) rfl (fun _ _ _ _ h => h) hI.g ?_
                      intro K hKK
                      go_simp
                      exact hKK
                    · have e121 : a.tmps[121]? = some (.pointer (some ⟨yb, yo + K * 5, none⟩)) := hI.sv 61 121 (by decide +kernel) (hw 61 (by kernel_rfl)) (by kernel_rfl)
                      have eg : a.tmps[118]? = some (.bool false) := hI.sv 58 118 (by decide +kernel) (hw 58 (by kernel_rfl)) (by kernel_rfl)
                      refine hI.gpure hap (by decide +kernel) (i := 62) (d := 122) rfl rfl  (j := 58) (dj := 118) rfl (by kernel_rfl) eg (v := .pointer (some ⟨yb, yo + K * 5 + 3, none⟩)) rfl (fun _ _ _ _ h => h) hI.g ?_
                      intro K hKK
                      go_simp
                      exact hKK
                    · have e122 : a.tmps[122]? = some (.pointer (some ⟨yb, yo + K * 5 + 3, none⟩)) := hI.sv 62 122 (by decide +kernel) (hw 62 (by kernel_rfl)) (by kernel_rfl)
                      have eg : a.tmps[118]? = some (.bool false) := hI.sv 58 118 (by decide +kernel) (hw 58 (by kernel_rfl)) (by kernel_rfl)
                      have k9 := (Below.cell hI.g (World.block_lt_of_cell? _ _ d3)).trans d3
                      refine hI.gpure hap (by decide +kernel) (i := 63) (d := 123) rfl rfl  (j := 58) (dj := 118) rfl (by kernel_rfl) eg (v := .slice yga ygz.length ygc) rfl (fun _ _ _ _ h => h) hI.g ?_
                      intro K hKK
                      go_simp
                      exact hKK
                    · have e123 : a.tmps[123]? = some (.slice yga ygz.length ygc) := hI.sv 63 123 (by decide +kernel) (hw 63 (by kernel_rfl)) (by kernel_rfl)
                      have eg : a.tmps[118]? = some (.bool false) := hI.sv 58 118 (by decide +kernel) (hw 58 (by kernel_rfl)) (by kernel_rfl)
                      have k9 := conv_bs ((HYK.out.below hI.g (Nat.le_refl _)).2.1.1)
                      refine hI.gpure hap (by decide +kernel) (i := 64) (d := 124) rfl rfl  (j := 58) (dj := 118) rfl (by kernel_rfl) eg (v := .string (strOfNums ygz)) rfl (fun _ _ _ _ h => h) hI.g ?_
                      intro K hKK
                      go_simp
                      exact hKK
                    · have e0 := hI.kept 0 _ (by decide +kernel) rfl
                      have eg : a.tmps[118]? = some (.bool false) := hI.sv 58 118 (by decide +kernel) (hw 58 (by kernel_rfl)) (by kernel_rfl)
                      refine hI.gpure hap (by decide +kernel) (i := 65) (d := 125) rfl rfl  (j := 58) (dj := 118) rfl (by kernel_rfl) eg (v := .slice (some ⟨ab, off, none⟩) n c) rfl (fun _ _ _ _ h => h) hI.g ?_
                      intro K hKK
                      go_simp
                      exact hKK
                    · have e11 := hI.kept 11 _ (by decide +kernel) rfl
                      have eg : a.tmps[118]? = some (.bool false) := hI.sv 58 118 (by decide +kernel) (hw 58 (by kernel_rfl)) (by kernel_rfl)
                      refine hI.gpure hap (by decide +kernel) (i := 66) (d := 126) rfl rfl  (j := 58) (dj := 118) rfl (by kernel_rfl) eg (v := .int .i64 (i : Int)) rfl (fun _ _ _ _ h => h) hI.g ?_
                      intro K hKK
                      go_simp
                      exact hKK
                    · have e125 : a.tmps[125]? = some (.slice (some ⟨ab, off, none⟩) n c) := hI.sv 65 125 (by decide +kernel) (hw 65 (by kernel_rfl)) (by kernel_rfl)
                      have e126 : a.tmps[126]? = some (.int .i64 (i : Int)) := hI.sv 66 126 (by decide +kernel) (hw 66 (by kernel_rfl)) (by kernel_rfl)
                      have eg : a.tmps[118]? = some (.bool false) := hI.sv 58 118 (by decide +kernel) (hw 58 (by kernel_rfl)) (by kernel_rfl)
                      refine hI.gpure hap (by decide +kernel) (i := 67) (d := 127) rfl rfl  (j := 58) (dj := 118) rfl (by kernel_rfl) eg (v := .pointer (some ⟨ab, off + i * 5, none⟩)) rfl (fun _ _ _ _ h => h) hI.g ?_
                      intro K hKK
                      go_simp
                      exact hKK
                    · have e127 : a.tmps[127]? = some (.pointer (some ⟨ab, off + i * 5, none⟩)) := hI.sv 67 127 (by decide +kernel) (hw 67 (by kernel_rfl)) (by kernel_rfl)
                      have eg : a.tmps[118]? = some (.bool false) := hI.sv 58 118 (by decide +kernel) (hw 58 (by kernel_rfl)) (by kernel_rfl)
                      refine hI.gpure hap (by decide +kernel) (i := 68) (d := 128) rfl rfl  (j := 58) (dj := 118) rfl (by kernel_rfl) eg (v := .pointer (some ⟨ab, off + i * 5 + 3, none⟩)) rfl (fun _ _ _ _ h => h) hI.g ?_
                      intro K hKK
                      go_simp
                      exact hKK
                    · have e128 : a.tmps[128]? = some (.pointer (some ⟨ab, off + i * 5 + 3, none⟩)) := hI.sv 68 128 (by decide +kernel) (hw 68 (by kernel_rfl)) (by kernel_rfl)
                      have eg : a.tmps[118]? = some (.bool false) := hI.sv 58 118 (by decide +kernel) (hw 58 (by kernel_rfl)) (by kernel_rfl)
                      have k9 := (Below.cell hI.g (World.block_lt_of_cell? _ _ x3)).trans x3
                      refine hI.gpure hap (by decide +kernel) (i := 69) (d := 129) rfl rfl  (j := 58) (dj := 118) rfl (by kernel_rfl) eg (v := .slice xga ygz.length xgc) rfl (fun _ _ _ _ h => h) hI.g ?_
                      intro K hKK
                      go_simp
                      exact hKK
                    · have e129 : a.tmps[129]? = some (.slice xga ygz.length xgc) := hI.sv 69 129 (by decide +kernel) (hw 69 (by kernel_rfl)) (by kernel_rfl)
                      have eg : a.tmps[118]? = some (.bool false) := hI.sv 58 118 (by decide +kernel) (hw 58 (by kernel_rfl)) (by kernel_rfl)
                      have k9 := conv_bs ((HXK.out.below hI.g (Nat.le_refl _)).2.1.1)
                      refine hI.gpure hap (by decide +kernel) (i := 70) (d := 130) rfl rfl  (j := 58) (dj := 118) rfl (by kernel_rfl) eg (v := .string (strOfNums ygz)) rfl (fun _ _ _ _ h => h) hI.g ?_
                      intro K hKK
                      go_simp
                      exact hKK
                    · have e124 : a.tmps[124]? = some (.string (strOfNums ygz)) := hI.sv 64 124 (by decide +kernel) (hw 64 (by kernel_rfl)) (by kernel_rfl)
                      have e130 : a.tmps[130]? = some (.string (strOfNums ygz)) := hI.sv 70 130 (by decide +kernel) (hw 70 (by kernel_rfl)) (by kernel_rfl)
                      have eg : a.tmps[118]? = some (.bool false) := hI.sv 58 118 (by decide +kernel) (hw 58 (by kernel_rfl)) (by kernel_rfl)
                      refine hI.gpure hap (by decide +kernel) (i := 71) (d := 131) rfl rfl  (j := 58) (dj := 118) rfl (by kernel_rfl) eg (v := .bool false) rfl (fun _ _ _ _ h => h) hI.g ?_
                      intro K hKK
                      go_simp
                      exact hKK
                    · have e118 : a.tmps[118]? = some (.bool false) := hI.sv 58 118 (by decide +kernel) (hw 58 (by kernel_rfl)) (by kernel_rfl)
                      have e131 : a.tmps[131]? = some (.bool false) := hI.sv 71 131 (by decide +kernel) (hw 71 (by kernel_rfl)) (by kernel_rfl)
                      refine hI.pure hap (by decide +kernel) (i := 72) (d := 132) rfl rfl rfl (v := .bool false) rfl (fun _ _ _ _ h => h) hI.g ?_
                      intro K hKK
                      go_simp
                      exact hKK
                  case fin =>
                    intro L a W hI hall
                    have s0 : a.tmps[60]? = some (.int .i64 (K : Int)) := hI.sv 0 60 (by decide +kernel) (hall 0 (by decide +kernel)) (by kernel_rfl)
                    have s1 : a.tmps[61]? = some (.slice (some ⟨yb, yo, none⟩) X xc) := hI.sv 1 61 (by decide +kernel) (hall 1 (by decide +kernel)) (by kernel_rfl)
                    have s2 : a.tmps[62]? = some (.int .i64 (X : Int)) := hI.sv 2 62 (by decide +kernel) (hall 2 (by decide +kernel)) (by kernel_rfl)
                    have s3 : a.tmps[63]? = some (.bool false) := hI.sv 3 63 (by decide +kernel) (hall 3 (by decide +kernel)) (by kernel_rfl)
                    have s4 : a.tmps[64]? = some (.bool false) := hI.sv 4 64 (by decide +kernel) (hall 4 (by decide +kernel)) (by kernel_rfl)
                    have s5 : a.tmps[65]? = some (.slice (some ⟨yb, yo, none⟩) X xc) := hI.sv 5 65 (by decide +kernel) (hall 5 (by decide +kernel)) (by kernel_rfl)
                    have s6 : a.tmps[66]? = some (.int .i64 (K : Int)) := hI.sv 6 66 (by decide +kernel) (hall 6 (by decide +kernel)) (by kernel_rfl)
                    have s7 : a.tmps[67]? = some (.pointer (some ⟨yb, yo + K * 5, none⟩)) := hI.sv 7 67 (by decide +kernel) (hall 7 (by decide +kernel)) (by kernel_rfl)
                    have s8 : a.tmps[68]? = some (.pointer (some ⟨yb, yo + K * 5, none⟩)) := hI.sv 8 68 (by decide +kernel) (hall 8 (by decide +kernel)) (by kernel_rfl)
                    have s9 : a.tmps[69]? = some (.int .i64 yN) := hI.sv 9 69 (by decide +kernel) (hall 9 (by decide +kernel)) (by kernel_rfl)
                    have s10 : a.tmps[70]? = some (.slice (some ⟨ab, off, none⟩) n c) := hI.sv 10 70 (by decide +kernel) (hall 10 (by decide +kernel)) (by kernel_rfl)
                    have s11 : a.tmps[71]? = some (.int .i64 (i : Int)) := hI.sv 11 71 (by decide +kernel) (hall 11 (by decide +kernel)) (by kernel_rfl)
                    have s12 : a.tmps[72]? = some (.pointer (some ⟨ab, off + i * 5, none⟩)) := hI.sv 12 72 (by decide +kernel) (hall 12 (by decide +kernel)) (by kernel_rfl)
                    have s13 : a.tmps[73]? = some (.pointer (some ⟨ab, off + i * 5, none⟩)) := hI.sv 13 73 (by decide +kernel) (hall 13 (by decide +kernel)) (by kernel_rfl)
                    have s14 : a.tmps[74]? = some (.int .i64 yN) := hI.sv 14 74 (by decide +kernel) (hall 14 (by decide +kernel)) (by kernel_rfl)
                    have s15 : a.tmps[75]? = some (.bool false) := hI.sv 15 75 (by decide +kernel) (hall 15 (by decide +kernel)) (by kernel_rfl)
                    have s16 : a.tmps[76]? = some (.bool false) := hI.sv 16 76 (by decide +kernel) (hall 16 (by decide +kernel)) (by kernel_rfl)
                    have s17 : a.tmps[77]? = some (.bool false) := hI.sv 17 77 (by decide +kernel) (hall 17 (by decide +kernel)) (by kernel_rfl)
                    have s18 : a.tmps[78]? = some (.slice (some ⟨yb, yo, none⟩) X xc) := hI.sv 18 78 (by decide +kernel) (hall 18 (by decide +kernel)) (by kernel_rfl)
                    have s19 : a.tmps[79]? = some (.int .i64 (K : Int)) := hI.sv 19 79 (by decide +kernel) (hall 19 (by decide +kernel)) (by kernel_rfl)
                    have s20 : a.tmps[80]? = some (.pointer (some ⟨yb, yo + K * 5, none⟩)) := hI.sv 20 80 (by decide +kernel) (hall 20 (by decide +kernel)) (by kernel_rfl)
                    have s21 : a.tmps[81]? = some (.pointer (some ⟨yb, yo + K * 5 + 1, none⟩)) := hI.sv 21 81 (by decide +kernel) (hall 21 (by decide +kernel)) (by kernel_rfl)
                    have s22 : a.tmps[82]? = some (.int .i64 yL) := hI.sv 22 82 (by decide +kernel) (hall 22 (by decide +kernel)) (by kernel_rfl)
                    have s23 : a.tmps[83]? = some (.slice (some ⟨ab, off, none⟩) n c) := hI.sv 23 83 (by decide +kernel) (hall 23 (by decide +kernel)) (by kernel_rfl)
                    have s24 : a.tmps[84]? = some (.int .i64 (i : Int)) := hI.sv 24 84 (by decide +kernel) (hall 24 (by decide +kernel)) (by kernel_rfl)
                    have s25 : a.tmps[85]? = some (.pointer (some ⟨ab, off + i * 5, none⟩)) := hI.sv 25 85 (by decide +kernel) (hall 25 (by decide +kernel)) (by kernel_rfl)
                    have s26 : a.tmps[86]? = some (.pointer (some ⟨ab, off + i * 5 + 1, none⟩)) := hI.sv 26 86 (by decide +kernel) (hall 26 (by decide +kernel)) (by kernel_rfl)
                    have s27 : a.tmps[87]? = some (.int .i64 yL) := hI.sv 27 87 (by decide +kernel) (hall 27 (by decide +kernel)) (by kernel_rfl)
                    have s28 : a.tmps[88]? = some (.bool false) := hI.sv 28 88 (by decide +kernel) (hall 28 (by decide +kernel)) (by kernel_rfl)
                    have s29 : a.tmps[89]? = some (.bool false) := hI.sv 29 89 (by decide +kernel) (hall 29 (by decide +kernel)) (by kernel_rfl)
                    have s30 : a.tmps[90]? = some (.bool false) := hI.sv 30 90 (by decide +kernel) (hall 30 (by decide +kernel)) (by kernel_rfl)
                    have s31 : a.tmps[91]? = some (.slice (some ⟨yb, yo, none⟩) X xc) := hI.sv 31 91 (by decide +kernel) (hall 31 (by decide +kernel)) (by kernel_rfl)
                    have s32 : a.tmps[92]? = some (.int .i64 (K : Int)) := hI.sv 32 92 (by decide +kernel) (hall 32 (by decide +kernel)) (by kernel_rfl)
                    have s33 : a.tmps[93]? = some (.pointer (some ⟨yb, yo + K * 5, none⟩)) := hI.sv 33 93 (by decide +kernel) (hall 33 (by decide +kernel)) (by kernel_rfl)
                    have s34 : a.tmps[94]? = some (.pointer (some ⟨yb, yo + K * 5 + 4, none⟩)) := hI.sv 34 94 (by decide +kernel) (hall 34 (by decide +kernel)) (by kernel_rfl)
                    have s35 : a.tmps[95]? = some (.int .i64 yM) := hI.sv 35 95 (by decide +kernel) (hall 35 (by decide +kernel)) (by kernel_rfl)
                    have s36 : a.tmps[96]? = some (.slice (some ⟨ab, off, none⟩) n c) := hI.sv 36 96 (by decide +kernel) (hall 36 (by decide +kernel)) (by kernel_rfl)
                    have s37 : a.tmps[97]? = some (.int .i64 (i : Int)) := hI.sv 37 97 (by decide +kernel) (hall 37 (by decide +kernel)) (by kernel_rfl)
                    have s38 : a.tmps[98]? = some (.pointer (some ⟨ab, off + i * 5, none⟩)) := hI.sv 38 98 (by decide +kernel) (hall 38 (by decide +kernel)) (by kernel_rfl)
                    have s39 : a.tmps[99]? = some (.pointer (some ⟨ab, off + i * 5 + 4, none⟩)) := hI.sv 39 99 (by decide +kernel) (hall 39 (by decide +kernel)) (by kernel_rfl)
                    have s40 : a.tmps[100]? = some (.int .i64 yM) := hI.sv 40 100 (by decide +kernel) (hall 40 (by decide +kernel)) (by kernel_rfl)
                    have s41 : a.tmps[101]? = some (.bool false) := hI.sv 41 101 (by decide +kernel) (hall 41 (by decide +kernel)) (by kernel_rfl)
                    have s42 : a.tmps[102]? = some (.bool false) := hI.sv 42 102 (by decide +kernel) (hall 42 (by decide +kernel)) (by kernel_rfl)
                    have s43 : a.tmps[103]? = some (.bool false) := hI.sv 43 103 (by decide +kernel) (hall 43 (by decide +kernel)) (by kernel_rfl)
                    have s44 : a.tmps[104]? = some (.slice (some ⟨yb, yo, none⟩) X xc) := hI.sv 44 104 (by decide +kernel) (hall 44 (by decide +kernel)) (by kernel_rfl)
                    have s45 : a.tmps[105]? = some (.int .i64 (K : Int)) := hI.sv 45 105 (by decide +kernel) (hall 45 (by decide +kernel)) (by kernel_rfl)
                    have s46 : a.tmps[106]? = some (.pointer (some ⟨yb, yo + K * 5, none⟩)) := hI.sv 46 106 (by decide +kernel) (hall 46 (by decide +kernel)) (by kernel_rfl)
                    have s47 : a.tmps[107]? = some (.pointer (some ⟨yb, yo + K * 5 + 2, none⟩)) := hI.sv 47 107 (by decide +kernel) (hall 47 (by decide +kernel)) (by kernel_rfl)
                    have s48 : a.tmps[108]? = some (.slice yfa yfz.length yfc) := hI.sv 48 108 (by decide +kernel) (hall 48 (by decide +kernel)) (by kernel_rfl)
                    have s49 : a.tmps[109]? = some (.string (strOfNums yfz)) := hI.sv 49 109 (by decide +kernel) (hall 49 (by decide +kernel)) (by kernel_rfl)
                    have s50 : a.tmps[110]? = some (.slice (some ⟨ab, off, none⟩) n c) := hI.sv 50 110 (by decide +kernel) (hall 50 (by decide +kernel)) (by kernel_rfl)
                    have s51 : a.tmps[111]? = some (.int .i64 (i : Int)) := hI.sv 51 111 (by decide +kernel) (hall 51 (by decide +kernel)) (by kernel_rfl)
                    have s52 : a.tmps[112]? = some (.pointer (some ⟨ab, off + i * 5, none⟩)) := hI.sv 52 112 (by decide +kernel) (hall 52 (by decide +kernel)) (by kernel_rfl)
                    have s53 : a.tmps[113]? = some (.pointer (some ⟨ab, off + i * 5 + 2, none⟩)) := hI.sv 53 113 (by decide +kernel) (hall 53 (by decide +kernel)) (by kernel_rfl)
                    have s54 : a.tmps[114]? = some (.slice xfa yfz.length xfc) := hI.sv 54 114 (by decide +kernel) (hall 54 (by decide +kernel)) (by kernel_rfl)
                    have s55 : a.tmps[115]? = some (.string (strOfNums yfz)) := hI.sv 55 115 (by decide +kernel) (hall 55 (by decide +kernel)) (by kernel_rfl)
                    have s56 : a.tmps[116]? = some (.bool false) := hI.sv 56 116 (by decide +kernel) (hall 56 (by decide +kernel)) (by kernel_rfl)
                    have s57 : a.tmps[117]? = some (.bool false) := hI.sv 57 117 (by decide +kernel) (hall 57 (by decide +kernel)) (by kernel_rfl)
                    have s58 : a.tmps[118]? = some (.bool false) := hI.sv 58 118 (by decide +kernel) (hall 58 (by decide +kernel)) (by kernel_rfl)
                    have s59 : a.tmps[119]? = some (.slice (some ⟨yb, yo, none⟩) X xc) := hI.sv 59 119 (by decide +kernel) (hall 59 (by decide +kernel)) (by kernel_rfl)
                    have s60 : a.tmps[120]? = some (.int .i64 (K : Int)) := hI.sv 60 120 (by decide +kernel) (hall 60 (by decide +kernel)) (by kernel_rfl)
                    have s61 : a.tmps[121]? = some (.pointer (some ⟨yb, yo + K * 5, none⟩)) := hI.sv 61 121 (by decide +kernel) (hall 61 (by decide +kernel)) (by kernel_rfl)
                    have s62 : a.tmps[122]? = some (.pointer (some ⟨yb, yo + K * 5 + 3, none⟩)) := hI.sv 62 122 (by decide +kernel) (hall 62 (by decide +kernel)) (by kernel_rfl)
                    have s63 : a.tmps[123]? = some (.slice yga ygz.length ygc) := hI.sv 63 123 (by decide +kernel) (hall 63 (by decide +kernel)) (by kernel_rfl)
                    have s64 : a.tmps[124]? = some (.string (strOfNums ygz)) := hI.sv 64 124 (by decide +kernel) (hall 64 (by decide +kernel)) (by kernel_rfl)
                    have s65 : a.tmps[125]? = some (.slice (some ⟨ab, off, none⟩) n c) := hI.sv 65 125 (by decide +kernel) (hall 65 (by decide +kernel)) (by kernel_rfl)
                    have s66 : a.tmps[126]? = some (.int .i64 (i : Int)) := hI.sv 66 126 (by decide +kernel) (hall 66 (by decide +kernel)) (by kernel_rfl)
                    have s67 : a.tmps[127]? = some (.pointer (some ⟨ab, off + i * 5, none⟩)) := hI.sv 67 127 (by decide +kernel) (hall 67 (by decide +kernel)) (by kernel_rfl)
                    have s68 : a.tmps[128]? = some (.pointer (some ⟨ab, off + i * 5 + 3, none⟩)) := hI.sv 68 128 (by decide +kernel) (hall 68 (by decide +kernel)) (by kernel_rfl)
                    have s69 : a.tmps[129]? = some (.slice xga ygz.length xgc) := hI.sv 69 129 (by decide +kernel) (hall 69 (by decide +kernel)) (by kernel_rfl)
                    have s70 : a.tmps[130]? = some (.string (strOfNums ygz)) := hI.sv 70 130 (by decide +kernel) (hall 70 (by decide +kernel)) (by kernel_rfl)
                    have s71 : a.tmps[131]? = some (.bool false) := hI.sv 71 131 (by decide +kernel) (hall 71 (by decide +kernel)) (by kernel_rfl)
                    have s72 : a.tmps[132]? = some (.bool false) := hI.sv 72 132 (by decide +kernel) (hall 72 (by decide +kernel)) (by kernel_rfl)
                    have hfr := si_frame hI [(60, .int .i64 (K : Int)), (61, .slice (some ⟨yb, yo, none⟩) X xc), (62, .int .i64 (X : Int)), (63, .bool false), (64, .bool false), (65, .slice (some ⟨yb, yo, none⟩) X xc), (66, .int .i64 (K : Int)), (67, .pointer (some ⟨yb, yo + K * 5, none⟩)), (68, .pointer (some ⟨yb, yo + K * 5, none⟩)), (69, .int .i64 yN), (70, .slice (some ⟨ab, off, none⟩) n c), (71, .int .i64 (i : Int)), (72, .pointer (some ⟨ab, off + i * 5, none⟩)), (73, .pointer (some ⟨ab, off + i * 5, none⟩)), (74, .int .i64 yN), (75, .bool false), (76, .bool false), (77, .bool false), (78, .slice (some ⟨yb, yo, none⟩) X xc), (79, .int .i64 (K : Int)), (80, .pointer (some ⟨yb, yo + K * 5, none⟩)), (81, .pointer (some ⟨yb, yo + K * 5 + 1, none⟩)), (82, .int .i64 yL), (83, .slice (some ⟨ab, off, none⟩) n c), (84, .int .i64 (i : Int)), (85, .pointer (some ⟨ab, off + i * 5, none⟩)), (86, .pointer (some ⟨ab, off + i * 5 + 1, none⟩)), (87, .int .i64 yL), (88, .bool false), (89, .bool false), (90, .bool false), (91, .slice (some ⟨yb, yo, none⟩) X xc), (92, .int .i64 (K : Int)), (93, .pointer (some ⟨yb, yo + K * 5, none⟩)), (94, .pointer (some ⟨yb, yo + K * 5 + 4, none⟩)), (95, .int .i64 yM), (96, .slice (some ⟨ab, off, none⟩) n c), (97, .int .i64 (i : Int)), (98, .pointer (some ⟨ab, off + i * 5, none⟩)), (99, .pointer (some ⟨ab, off + i * 5 + 4, none⟩)), (100, .int .i64 yM), (101, .bool false), (102, .bool false), (103, .bool false), (104, .slice (some ⟨yb, yo, none⟩) X xc), (105, .int .i64 (K : Int)), (106, .pointer (some ⟨yb, yo + K * 5, none⟩)), (107, .pointer (some ⟨yb, yo + K * 5 + 2, none⟩)), (108, .slice yfa yfz.length yfc), (109, .string (strOfNums yfz)), (110, .slice (some ⟨ab, off, none⟩) n c), (111, .int .i64 (i : Int)), (112, .pointer (some ⟨ab, off + i * 5, none⟩)), (113, .pointer (some ⟨ab, off + i * 5 + 2, none⟩)), (114, .slice xfa yfz.length xfc), (115, .string (strOfNums yfz)), (116, .bool false), (117, .bool false), (118, .bool false), (119, .slice (some ⟨yb, yo, none⟩) X xc), (120, .int .i64 (K : Int)), (121, .pointer (some ⟨yb, yo + K * 5, none⟩)), (122, .pointer (some ⟨yb, yo + K * 5 + 3, none⟩)), (123, .slice yga ygz.length ygc), (124, .string (strOfNums ygz)), (125, .slice (some ⟨ab, off, none⟩) n c), (126, .int .i64 (i : Int)), (127, .pointer (some ⟨ab, off + i * 5, none⟩)), (128, .pointer (some ⟨ab, off + i * 5 + 3, none⟩)), (129, .slice xga ygz.length xgc), (130, .string (strOfNums ygz)), (131, .bool false), (132, .bool false)] (by kernel_rfl) (List.forall_mem_cons.2 ⟨s0, List.forall_mem_cons.2 ⟨s1, List.forall_mem_cons.2 ⟨s2, List.forall_mem_cons.2 ⟨s3, List.forall_mem_cons.2 ⟨s4, List.forall_mem_cons.2 ⟨s5, List.forall_mem_cons.2 ⟨s6, List.forall_mem_cons.2 ⟨s7, List.forall_mem_cons.2 ⟨s8, List.forall_mem_cons.2 ⟨s9, List.forall_mem_cons.2 ⟨s10, List.forall_mem_cons.2 ⟨s11, List.forall_mem_cons.2 ⟨s12, List.forall_mem_cons.2 ⟨s13, List.forall_mem_cons.2 ⟨s14, List.forall_mem_cons.2 ⟨s15, List.forall_mem_cons.2 ⟨s16, List.forall_mem_cons.2 ⟨s17, List.forall_mem_cons.2 ⟨s18, List.forall_mem_cons.2 ⟨s19, List.forall_mem_cons.2 ⟨s20, List.forall_mem_cons.2 ⟨s21, List.forall_mem_cons.2 ⟨s22, List.forall_mem_cons.2 ⟨s23, List.forall_mem_cons.2 ⟨s24, List.forall_mem_cons.2 ⟨s25, List.forall_mem_cons.2 ⟨s26, List.forall_mem_cons.2 ⟨s27, List.forall_mem_cons.2 ⟨s28, List.forall_mem_cons.2 ⟨s29, List.forall_mem_cons.2 ⟨s30, List.forall_mem_cons.2 ⟨s31, List.forall_mem_cons.2 ⟨s32, List.forall_mem_cons.2 ⟨s33, List.forall_mem_cons.2 ⟨s34, List.forall_mem_cons.2 ⟨s35, List.forall_mem_cons.2 ⟨s36, List.forall_mem_cons.2 ⟨s37, List.forall_mem_cons.2 ⟨s38, List.forall_mem_cons.2 ⟨s39, List.forall_mem_cons.2 ⟨s40, List.forall_mem_cons.2 ⟨s41, List.forall_mem_cons.2 ⟨s42, List.forall_mem_cons.2 ⟨s43, List.forall_mem_cons.2 ⟨s44, List.forall_mem_cons.2 ⟨s45, List.forall_mem_cons.2 ⟨s46, List.forall_mem_cons.2 ⟨s47, List.forall_mem_cons.2 ⟨s48, List.forall_mem_cons.2 ⟨s49, List.forall_mem_cons.2 ⟨s50, List.forall_mem_cons.2 ⟨s51, List.forall_mem_cons.2 ⟨s52, List.forall_mem_cons.2 ⟨s53, List.forall_mem_cons.2 ⟨s54, List.forall_mem_cons.2 ⟨s55, List.forall_mem_cons.2 ⟨s56, List.forall_mem_cons.2 ⟨s57, List.forall_mem_cons.2 ⟨s58, List.forall_mem_cons.2 ⟨s59, List.forall_mem_cons.2 ⟨s60, List.forall_mem_cons.2 ⟨s61, List.forall_mem_cons.2 ⟨s62, List.forall_mem_cons.2 ⟨s63, List.forall_mem_cons.2 ⟨s64, List.forall_mem_cons.2 ⟨s65, List.forall_mem_cons.2 ⟨s66, List.forall_mem_cons.2 ⟨s67, List.forall_mem_cons.2 ⟨s68, List.forall_mem_cons.2 ⟨s69, List.forall_mem_cons.2 ⟨s70, List.forall_mem_cons.2 ⟨s71, List.forall_mem_cons.2 ⟨s72, List.forall_mem_nil _⟩⟩⟩⟩⟩⟩⟩⟩⟩⟩⟩⟩⟩⟩⟩⟩⟩⟩⟩⟩⟩⟩⟩⟩⟩⟩⟩⟩⟩⟩⟩⟩⟩⟩⟩⟩⟩⟩⟩⟩⟩⟩⟩⟩⟩⟩⟩⟩⟩⟩⟩⟩⟩⟩⟩⟩⟩⟩⟩⟩⟩⟩⟩⟩⟩⟩⟩⟩⟩⟩⟩⟩⟩)
                    have HBR := hide (show Below _ _ W from hI.g)
                    rw [hfr]
                    clear hfr hI hall s0 s1 s2 s3 s4 s5 s6 s7 s8 s9 s10 s11 s12 s13 s14 s15 s16 s17 s18 s19 s20 s21 s22 s23 s24 s25 s26 s27 s28 s29 s30 s31 s32 s33 s34 s35 s36 s37 s38 s39 s40 s41 s42 s43 s44 s45 s46 s47 s48 s49 s50 s51 s52 s53 s54 s55 s56 s57 s58 s59 s60 s61 s62 s63 s64 s65 s66 s67 s68 s69 s70 s71 s72
                    simp only [List.foldl, List.setIfInBounds_toArray, List.set_cons_zero, List.set_cons_succ]
                  -- >r14
                    go_wp2
                    go_roundw
                    case rel => exact ⟨i + 1, by omega, by go_num, by rw [HS2.out]; go_num, hide (HAJ.out.keep HBR)⟩
                    case measure => simp [intOf]; omega
          · obtain hin : n = i := by omega
            subst hin
            have hqi : ¬ ((n : Int) < (n : Int)) := by omega
            have hfull : l.take n = l := List.take_of_length_le (by rw [HLN.out]; exact Nat.le_refl _)
            rw [hfull]
            have hSn := HLL.out
            obtain ⟨S, hS⟩ : ∃ S, (stayA l ns).length = S := ⟨_, rfl⟩
            have HSS := hide hS
            rw [hS] at hSn ⊢
            have HSN := hide hSn
            clear hS hfull hSn
            go_wp2_with fail
            go_loopw [10, 14] (fun u s wr => ∃ i : Nat, i ≤ mn ∧ s = .int .i64 i ∧ u = .int .i64 ((S + i : Nat) : Int) ∧ Hid (Aw w wr xa xc l')) (fun _ s _ => mn - (intOf s).toNat)
            case atStart => exact ⟨0, by omega, rfl, rfl, hide HA.out⟩
            case round =>
              obtain ⟨i, hi, rfl, rfl, hst⟩ := hrel
              have HA2 := hide hst.out
              clear hst
              by_cases hlt2 : i < mn
              · obtain ⟨x, ab, off, hx, rfl, hxok, x0, x1, x2, x3, x4⟩ := hs_at (HM.out _ HA2.out.b) i hlt2
                have hqi2 : (i : Int) < (mn : Int) := by omega
                have hat2 : (l'.map He.a)[S + i]? = some (x.N, t, x.fz, x.gz, x.M) := by
                  rw [HLA.out, ← HSS.out, List.getElem?_append_right (by omega), show (stayA l ns).length + i - (stayA l ns).length = i from by omega]
                  exact madeA_at hx
                obtain ⟨y, hy, hyk, y0, y1, y2, y3, y4⟩ := a_at hat2
                have hyX : S + i < X := by have := HXL.out; omega
                obtain ⟨y', yb, yo, hy', rfl, hyok, d0, d1, d2, d3, d4⟩ := hs_at HA2.out.h _ hyk
                rw [hy] at hy'
                obtain rfl := Option.some.inj hy'
                obtain ⟨yN, yL, yfa, yfc, yfz, yga, ygc, ygz, yM⟩ := y
                obtain ⟨xN, xL, xfa, xfc, xfz, xga, xgc, xgz, xM⟩ := x
                simp only at y0 y1 y2 y3 y4
                subst y0 y2 y3 y4
                subst y1
                simp only at d0 d1 d2 d3 d4 x0 x1 x2 x3 x4
                have hKX : S + i ≤ 100 := by omega
                have q1 : ¬ (((S + i : Nat) : Int) ≥ (X : Int)) := by omega
                have q1' : ((S + i : Nat) : Int) < (X : Int) := by omega
                have q1n : ¬ (X ≤ S + i) := by omega
                have HXK := hide hxok
                have HYK := hide hyok
                obtain ⟨K, hK⟩ : ∃ K, S + i = K := ⟨_, rfl⟩
                have HKK := hide hK
                rw [hK] at d0 d1 d2 d3 d4 q1 q1' q1n hKX ⊢
                clear hat2 hy hy' hyk hyok hxok hx hK
                go_wp2_with fail
                -- r20<
                refine region_sv (avB yb yo K X xc ab off i mn mc yN yL yM yL yfa xfa yga xga yfc xfc ygc xgc yfz ygz) (by kernel_rfl) (by kernel_rfl) (by kernel_rfl) ?step ?fin
                case step =>
                  intro L a W i hap hI hi hLi hw
                  have hi2 : i < 54 := hi
                  rcases (show i = 0 ∨ i = 1 ∨ i = 2 ∨ i = 3 ∨ i = 4 ∨ i = 5 ∨ i = 6 ∨ i = 7 ∨ i = 8 ∨ i = 9 ∨ i = 10 ∨ i = 11 ∨ i = 12 ∨ i = 13 ∨ i = 14 ∨ i = 15 ∨ i = 16 ∨ i = 17 ∨ i = 18 ∨ i = 19 ∨ i = 20 ∨ i = 21 ∨ i = 22 ∨ i = 23 ∨ i = 24 ∨ i = 25 ∨ i = 26 ∨ i = 27 ∨ i = 28 ∨ i = 29 ∨ i = 30 ∨ i = 31 ∨ i = 32 ∨ i = 33 ∨ i = 34 ∨ i = 35 ∨ i = 36 ∨ i = 37 ∨ i = 38 ∨ i = 39 ∨ i = 40 ∨ i = 41 ∨ i = 42 ∨ i = 43 ∨ i = 44 ∨ i = 45 ∨ i = 46 ∨ i = 47 ∨ i = 48 ∨ i = 49 ∨ i = 50 ∨ i = 51 ∨ i = 52 ∨ i = 53 by omega) with rfl | rfl | rfl | rfl | rfl | rfl | rfl | rfl | rfl | rfl | rfl | rfl | rfl | rfl | rfl | rfl | rfl | rfl | rfl | rfl | rfl | rfl | rfl | rfl | rfl | rfl | rfl | rfl | rfl | rfl | rfl | rfl | rfl | rfl | rfl | rfl | rfl | rfl | rfl | rfl | rfl | rfl | rfl | rfl | rfl | rfl | rfl | rfl | rfl | rfl | rfl | rfl | rfl | rfl
                  · have e10 := hI.kept 10 _ (by decide +kernel) rfl
                    refine hI.pure hap (by decide +kernel) (i := 0) (d := 141) rfl rfl rfl (v := .int .i64 (K : Int)) rfl (fun _ _ _ _ h => h) hI.g ?_
                    intro K hKK
                    go_simp
                    exact hKK
                  · have e9 := hI.kept 9 _ (by decide +kernel) rfl
                    refine hI.pure hap (by decide +kernel) (i := 1) (d := 142) rfl rfl rfl (v := .slice (some ⟨yb, yo, none⟩) X xc) rfl (fun _ _ _ _ h => h) hI.g ?_
                    intro K hKK
                    go_simp
                    exact hKK
                  · have e142 : a.tmps[142]? = some (.slice (some ⟨yb, yo, none⟩) X xc) := hI.sv 1 142 (by decide +kernel) (hw 1 (by kernel_rfl)) (by kernel_rfl)
                    refine hI.pure hap (by decide +kernel) (i := 2) (d := 143) rfl rfl rfl (v := .int .i64 (X : Int)) rfl (fun _ _ _ _ h => h) hI.g ?_
                    intro K hKK
                    go_simp
                    exact hKK
                  · have e141 : a.tmps[141]? = some (.int .i64 (K : Int)) := hI.sv 0 141 (by decide +kernel) (hw 0 (by kernel_rfl)) (by kernel_rfl)
                    have e143 : a.tmps[143]? = some (.int .i64 (X : Int)) := hI.sv 2 143 (by decide +kernel) (hw 2 (by kernel_rfl)) (by kernel_rfl)
                    refine hI.pure hap (by decide +kernel) (i := 3) (d := 144) rfl rfl rfl (v := .bool false) rfl (fun _ _ _ _ h => h) hI.g ?_
                    intro K hKK
                    go_simp
                    exact hKK
                  · have e144 : a.tmps[144]? = some (.bool false) := hI.sv 3 144 (by decide +kernel) (hw 3 (by kernel_rfl)) (by kernel_rfl)
                    refine hI.pure hap (by decide +kernel) (i := 4) (d := 145) rfl rfl rfl (v := .bool false) rfl (fun _ _ _ _ h => h) hI.g ?_
                    intro K hKK
                    go_simp
                    exact hKK
                  · have e9 := hI.kept 9 _ (by decide +kernel) rfl
                    have eg : a.tmps[145]? = some (.bool false) := hI.sv 4 145 (by decide +kernel) (hw 4 (by kernel_rfl)) (by kernel_rfl)
                    refine hI.gpure hap (by decide +kernel) (i := 5) (d := 146) rfl rfl  (j := 4) (dj := 145) rfl (by kernel_rfl) eg (v := .slice (some ⟨yb, yo, none⟩) X xc) rfl (fun _ _ _ _ h => h) hI.g ?_
                    intro K hKK
                    go_simp
                    exact hKK
                  · have e10 := hI.kept 10 _ (by decide +kernel) rfl
                    have eg : a.tmps[145]? = some (.bool false) := hI.sv 4 145 (by decide +kernel) (hw 4 (by kernel_rfl)) (by kernel_rfl)
                    refine hI.gpure hap (by decide +kernel) (i := 6) (d := 147) rfl rfl  (j := 4) (dj := 145) rfl (by kernel_rfl) eg (v := .int .i64 (K : Int)) rfl (fun _ _ _ _ h => h) hI.g ?_
                    intro K hKK
                    go_simp
                    exact hKK
                  · have e146 : a.tmps[146]? = some (.slice (some ⟨yb, yo, none⟩) X xc) := hI.sv 5 146 (by decide +kernel) (hw 5 (by kernel_rfl)) (by kernel_rfl)
                    have e147 : a.tmps[147]? = some (.int .i64 (K : Int)) := hI.sv 6 147 (by decide +kernel) (hw 6 (by kernel_rfl)) (by kernel_rfl)
                    have eg : a.tmps[145]? = some (.bool false) := hI.sv 4 145 (by decide +kernel) (hw 4 (by kernel_rfl)) (by kernel_rfl)
                    refine hI.gpure hap (by decide +kernel) (i := 7) (d := 148) rfl rfl  (j := 4) (dj := 145) rfl (by kernel_rfl) eg (v := .pointer (some ⟨yb, yo + K * 5, none⟩)) rfl (fun _ _ _ _ h => h) hI.g ?_
                    intro K hKK
                    go_simp
                    exact hKK
                  · have e148 : a.tmps[148]? = some (.pointer (some ⟨yb, yo + K * 5, none⟩)) := hI.sv 7 148 (by decide +kernel) (hw 7 (by kernel_rfl)) (by kernel_rfl)
                    have eg : a.tmps[145]? = some (.bool false) := hI.sv 4 145 (by decide +kernel) (hw 4 (by kernel_rfl)) (by kernel_rfl)
                    refine hI.gpure hap (by decide +kernel) (i := 8) (d := 149) rfl rfl  (j := 4) (dj := 145) rfl (by kernel_rfl) eg (v := .pointer (some ⟨yb, yo + K * 5, none⟩)) rfl (fun _ _ _ _ h => h) hI.g ?_
                    intro K hKK
                    go_simp
                    exact hKK
                  · have e149 : a.tmps[149]? = some (.pointer (some ⟨yb, yo + K * 5, none⟩)) := hI.sv 8 149 (by decide +kernel) (hw 8 (by kernel_rfl)) (by kernel_rfl)
                    have eg : a.tmps[145]? = some (.bool false) := hI.sv 4 145 (by decide +kernel) (hw 4 (by kernel_rfl)) (by kernel_rfl)
                    have k9 := (Below.cell hI.g (World.block_lt_of_cell? _ _ d0)).trans d0
                    refine hI.gpure hap (by decide +kernel) (i := 9) (d := 150) rfl rfl  (j := 4) (dj := 145) rfl (by kernel_rfl) eg (v := .int .i64 yN) rfl (fun _ _ _ _ h => h) hI.g ?_
                    intro K hKK
                    go_simp
                    exact hKK
                  · have e3 := hI.kept 3 _ (by decide +kernel) rfl
                    have eg : a.tmps[145]? = some (.bool false) := hI.sv 4 145 (by decide +kernel) (hw 4 (by kernel_rfl)) (by kernel_rfl)
                    refine hI.gpure hap (by decide +kernel) (i := 10) (d := 151) rfl rfl  (j := 4) (dj := 145) rfl (by kernel_rfl) eg (v := .slice (some ⟨ab, off, none⟩) mn mc) rfl (fun _ _ _ _ h => h) hI.g ?_
                    intro K hKK
                    go_simp
                    exact hKK
                  · have e14 := hI.kept 14 _ (by decide +kernel) rfl
                    have eg : a.tmps[145]? = some (.bool false) := hI.sv 4 145 (by decide +kernel) (hw 4 (by kernel_rfl)) (by kernel_rfl)
                    refine hI.gpure hap (by decide +kernel) (i := 11) (d := 152) rfl rfl  (j := 4) (dj := 145) rfl (by kernel_rfl) eg (v := .int .i64 (i : Int)) rfl (fun _ _ _ _ h => h) hI.g ?_
                    intro K hKK
                    go_simp
                    exact hKK
                  · have e151 : a.tmps[151]? = some (.slice (some ⟨ab, off, none⟩) mn mc) := hI.sv 10 151 (by decide +kernel) (hw 10 (by kernel_rfl)) (by kernel_rfl)
                    have e152 : a.tmps[152]? = some (.int .i64 (i : Int)) := hI.sv 11 152 (by decide +kernel) (hw 11 (by kernel_rfl)) (by kernel_rfl)
                    have eg : a.tmps[145]? = some (.bool false) := hI.sv 4 145 (by decide +kernel) (hw 4 (by kernel_rfl)) (by kernel_rfl)
                    refine hI.gpure hap (by decide +kernel) (i := 12) (d := 153) rfl rfl  (j := 4) (dj := 145) rfl (by kernel_rfl) eg (v := .pointer (some ⟨ab, off + i * 5, none⟩)) rfl (fun _ _ _ _ h => h) hI.g ?_
                    intro K hKK
                    go_simp
                    exact hKK
                  · have e153 : a.tmps[153]? = some (.pointer (some ⟨ab, off + i * 5, none⟩)) := hI.sv 12 153 (by decide +kernel) (hw 12 (by kernel_rfl)) (by kernel_rfl)
                    have eg : a.tmps[145]? = some (.bool false) := hI.sv 4 145 (by decide +kernel) (hw 4 (by kernel_rfl)) (by kernel_rfl)
                    refine hI.gpure hap (by decide +kernel) (i := 13) (d := 154) rfl rfl  (j := 4) (dj := 145) rfl (by kernel_rfl) eg (v := .pointer (some ⟨ab, off + i * 5, none⟩)) rfl (fun _ _ _ _ h => h) hI.g ?_
                    intro K hKK
                    go_simp
                    exact hKK
                  · have e154 : a.tmps[154]? = some (.pointer (some ⟨ab, off + i * 5, none⟩)) := hI.sv 13 154 (by decide +kernel) (hw 13 (by kernel_rfl)) (by kernel_rfl)
                    have eg : a.tmps[145]? = some (.bool false) := hI.sv 4 145 (by decide +kernel) (hw 4 (by kernel_rfl)) (by kernel_rfl)
                    have k9 := (Below.cell hI.g (World.block_lt_of_cell? _ _ x0)).trans x0
                    refine hI.gpure hap (by decide +kernel) (i := 14) (d := 155) rfl rfl  (j := 4) (dj := 145) rfl (by kernel_rfl) eg (v := .int .i64 yN) rfl (fun _ _ _ _ h => h) hI.g ?_
                    intro K hKK
                    go_simp
                    exact hKK
                  · have e150 : a.tmps[150]? = some (.int .i64 yN) := hI.sv 9 150 (by decide +kernel) (hw 9 (by kernel_rfl)) (by kernel_rfl)
                    have e155 : a.tmps[155]? = some (.int .i64 yN) := hI.sv 14 155 (by decide +kernel) (hw 14 (by kernel_rfl)) (by kernel_rfl)
                    have eg : a.tmps[145]? = some (.bool false) := hI.sv 4 145 (by decide +kernel) (hw 4 (by kernel_rfl)) (by kernel_rfl)
                    refine hI.gpure hap (by decide +kernel) (i := 15) (d := 156) rfl rfl  (j := 4) (dj := 145) rfl (by kernel_rfl) eg (v := .bool false) rfl (fun _ _ _ _ h => h) hI.g ?_
                    intro K hKK
                    go_simp
                    exact hKK
                  · have e145 : a.tmps[145]? = some (.bool false) := hI.sv 4 145 (by decide +kernel) (hw 4 (by kernel_rfl)) (by kernel_rfl)
                    have e156 : a.tmps[156]? = some (.bool false) := hI.sv 15 156 (by decide +kernel) (hw 15 (by kernel_rfl)) (by kernel_rfl)
                    refine hI.pure hap (by decide +kernel) (i := 16) (d := 157) rfl rfl rfl (v := .bool false) rfl (fun _ _ _ _ h => h) hI.g ?_
                    intro K hKK
                    go_simp
                    exact hKK
                  · have e157 : a.tmps[157]? = some (.bool false) := hI.sv 16 157 (by decide +kernel) (hw 16 (by kernel_rfl)) (by kernel_rfl)
                    refine hI.pure hap (by decide +kernel) (i := 17) (d := 158) rfl rfl rfl (v := .bool false) rfl (fun _ _ _ _ h => h) hI.g ?_
                    intro K hKK
                    go_simp
                    exact hKK
                  · have e9 := hI.kept 9 _ (by decide +kernel) rfl
                    have eg : a.tmps[158]? = some (.bool false) := hI.sv 17 158 (by decide +kernel) (hw 17 (by kernel_rfl)) (by kernel_rfl)
                    refine hI.gpure hap (by decide +kernel) (i := 18) (d := 159) rfl rfl  (j := 17) (dj := 158) rfl (by kernel_rfl) eg (v := .slice (some ⟨yb, yo, none⟩) X xc) rfl (fun _ _ _ _ h => h) hI.g ?_
                    intro K hKK
                    go_simp
                    exact hKK
                  · have e10 := hI.kept 10 _ (by decide +kernel) rfl
                    have eg : a.tmps[158]? = some (.bool false) := hI.sv 17 158 (by decide +kernel) (hw 17 (by kernel_rfl)) (by kernel_rfl)
                    refine hI.gpure hap (by decide +kernel) (i := 19) (d := 160) rfl rfl  (j := 17) (dj := 158) rfl (by kernel_rfl) eg (v := .int .i64 (K : Int)) rfl (fun _ _ _ _ h => h) hI.g ?_
                    intro K hKK
                    go_simp
                    exact hKK
                  · have e159 : a.tmps[159]? = some (.slice (some ⟨yb, yo, none⟩) X xc) := hI.sv 18 159 (by decide +kernel) (hw 18 (by kernel_rfl)) (by kernel_rfl)
                    have e160 : a.tmps[160]? = some (.int .i64 (K : Int)) := hI.sv 19 160 (by decide +kernel) (hw 19 (by kernel_rfl)) (by kernel_rfl)
                    have eg : a.tmps[158]? = some (.bool false) := hI.sv 17 158 (by decide +kernel) (hw 17 (by kernel_rfl)) (by kernel_rfl)
                    refine hI.gpure hap (by decide +kernel) (i := 20) (d := 161) rfl rfl  (j := 17) (dj := 158) rfl (by kernel_rfl) eg (v := .pointer (some ⟨yb, yo + K * 5, none⟩)) rfl (fun _ _ _ _ h => h) hI.g ?_
                    intro K hKK
                    go_simp
                    exact hKK
                  · have e161 : a.tmps[161]? = some (.pointer (some ⟨yb, yo + K * 5, none⟩)) := hI.sv 20 161 (by decide +kernel) (hw 20 (by kernel_rfl)) (by kernel_rfl)
                    have eg : a.tmps[158]? = some (.bool false) := hI.sv 17 158 (by decide +kernel) (hw 17 (by kernel_rfl)) (by kernel_rfl)
                    refine hI.gpure hap (by decide +kernel) (i := 21) (d := 162) rfl rfl  (j := 17) (dj := 158) rfl (by kernel_rfl) eg (v := .pointer (some ⟨yb, yo + K * 5 + 1, none⟩)) rfl (fun _ _ _ _ h => h) hI.g ?_
                    intro K hKK
                    go_simp
                    exact hKK
                  · have e162 : a.tmps[162]? = some (.pointer (some ⟨yb, yo + K * 5 + 1, none⟩)) := hI.sv 21 162 (by decide +kernel) (hw 21 (by kernel_rfl)) (by kernel_rfl)
                    have eg : a.tmps[158]? = some (.bool false) := hI.sv 17 158 (by decide +kernel) (hw 17 (by kernel_rfl)) (by kernel_rfl)
                    have k9 := (Below.cell hI.g (World.block_lt_of_cell? _ _ d1)).trans d1
                    refine hI.gpure hap (by decide +kernel) (i := 22) (d := 163) rfl rfl  (j := 17) (dj := 158) rfl (by kernel_rfl) eg (v := .int .i64 yL) rfl (fun _ _ _ _ h => h) hI.g ?_
                    intro K hKK
                    go_simp
                    exact hKK
                  · have e2 := hI.kept 2 _ (by decide +kernel) rfl
                    have eg : a.tmps[158]? = some (.bool false) := hI.sv 17 158 (by decide +kernel) (hw 17 (by kernel_rfl)) (by kernel_rfl)
                    refine hI.gpure hap (by decide +kernel) (i := 23) (d := 164) rfl rfl  (j := 17) (dj := 158) rfl (by kernel_rfl) eg (v := .int .i64 yL) rfl (fun _ _ _ _ h => h) hI.g ?_
                    intro K hKK
                    go_simp
                    exact hKK
                  · have e163 : a.tmps[163]? = some (.int .i64 yL) := hI.sv 22 163 (by decide +kernel) (hw 22 (by kernel_rfl)) (by kernel_rfl)
                    have e164 : a.tmps[164]? = some (.int .i64 yL) := hI.sv 23 164 (by decide +kernel) (hw 23 (by kernel_rfl)) (by kernel_rfl)
                    have eg : a.tmps[158]? = some (.bool false) := hI.sv 17 158 (by decide +kernel) (hw 17 (by kernel_rfl)) (by kernel_rfl)
                    refine hI.gpure hap (by decide +kernel) (i := 24) (d := 165) rfl rfl  (j := 17) (dj := 158) rfl (by kernel_rfl) eg (v := .bool false) rfl (fun _ _ _ _ h => h) hI.g ?_
                    intro K hKK
                    go_simp
                    exact hKK
                  · have e158 : a.tmps[158]? = some (.bool false) := hI.sv 17 158 (by decide +kernel) (hw 17 (by kernel_rfl)) (by kernel_rfl)
                    have e165 : a.tmps[165]? = some (.bool false) := hI.sv 24 165 (by decide +kernel) (hw 24 (by kernel_rfl)) (by kernel_rfl)
                    refine hI.pure hap (by decide +kernel) (i := 25) (d := 166) rfl rfl rfl (v := .bool false) rfl (fun _ _ _ _ h => h) hI.g ?_
                    intro K hKK
                    go_simp
                    exact hKK
                  · have e166 : a.tmps[166]? = some (.bool false) := hI.sv 25 166 (by decide +kernel) (hw 25 (by kernel_rfl)) (by kernel_rfl)
                    refine hI.pure hap (by decide +kernel) (i := 26) (d := 167) rfl rfl rfl (v := .bool false) rfl (fun _ _ _ _ h => h) hI.g ?_
                    intro K hKK
                    go_simp
                    exact hKK
                  · have e9 := hI.kept 9 _ (by decide +kernel) rfl
                    have eg : a.tmps[167]? = some (.bool false) := hI.sv 26 167 (by decide +kernel) (hw 26 (by kernel_rfl)) (by kernel_rfl)
                    refine hI.gpure hap (by decide +kernel) (i := 27) (d := 168) rfl rfl  (j := 26) (dj := 167) rfl (by kernel_rfl) eg (v := .slice (some ⟨yb, yo, none⟩) X xc) rfl (fun _ _ _ _ h => h) hI.g ?_
                    intro K hKK
                    go_simp
                    exact hKK
                  · have e10 := hI.kept 10 _ (by decide +kernel) rfl
                    have eg : a.tmps[167]? = some (.bool false) := hI.sv 26 167 (by decide +kernel) (hw 26 (by kernel_rfl)) (by kernel_rfl)
                    refine hI.gpure hap (by decide +kernel) (i := 28) (d := 169) rfl rfl  (j := 26) (dj := 167) rfl (by kernel_rfl) eg (v := .int .i64 (K : Int)) rfl (fun _ _ _ _ h => h) hI.g ?_
                    intro K hKK
                    go_simp
                    exact hKK
                  · have e168 : a.tmps[168]? = some (.slice (some ⟨yb, yo, none⟩) X xc) := hI.sv 27 168 (by decide +kernel) (hw 27 (by kernel_rfl)) (by kernel_rfl)
                    have e169 : a.tmps[169]? = some (.int .i64 (K : Int)) := hI.sv 28 169 (by decide +kernel) (hw 28 (by kernel_rfl)) (by kernel_rfl)
                    have eg : a.tmps[167]? = some (.bool false) := hI.sv 26 167 (by decide +kernel) (hw 26 (by kernel_rfl)) (by kernel_rfl)
                    refine hI.gpure hap (by decide +kernel) (i := 29) (d := 170) rfl rfl  (j := 26) (dj := 167) rfl (by kernel_rfl) eg (v := .pointer (some ⟨yb, yo + K * 5, none⟩)) rfl (fun _ _ _ _ h => h) hI.g ?_
                    intro K hKK
                    go_simp
                    exact hKK
                  · have e170 : a.tmps[170]? = some (.pointer (some ⟨yb, yo + K * 5, none⟩)) := hI.sv 29 170 (by decide +kernel) (hw 29 (by kernel_rfl)) (by kernel_rfl)
                    have eg : a.tmps[167]? = some (.bool false) := hI.sv 26 167 (by decide +kernel) (hw 26 (by kernel_rfl)) (by kernel_rfl)
                    refine hI.gpure hap (by decide +kernel) (i := 30) (d := 171) rfl rfl  (j := 26) (dj := 167) rfl (by kernel_rfl) eg (v := .pointer (some ⟨yb, yo + K * 5 + 4, none⟩)) rfl (fun _ _ _ _ h => h) hI.g ?_
                    intro K hKK
                    go_simp
                    exact hKK
                  · have e171 : a.tmps[171]? = some (.pointer (some ⟨yb, yo + K * 5 + 4, none⟩)) := hI.sv 30 171 (by decide +kernel) (hw 30 (by kernel_rfl)) (by kernel_rfl)
                    have eg : a.tmps[167]? = some (.bool false) := hI.sv 26 167 (by decide +kernel) (hw 26 (by kernel_rfl)) (by kernel_rfl)
                    have k9 := (Below.cell hI.g (World.block_lt_of_cell? _ _ d4)).trans d4
                    refine hI.gpure hap (by decide +kernel) (i := 31) (d := 172) rfl rfl  (j := 26) (dj := 167) rfl (by kernel_rfl) eg (v := .int .i64 yM) rfl (fun _ _ _ _ h => h) hI.g ?_
                    intro K hKK
                    go_simp
                    exact hKK
                  · have e3 := hI.kept 3 _ (by decide +kernel) rfl
                    have eg : a.tmps[167]? = some (.bool false) := hI.sv 26 167 (by decide +kernel) (hw 26 (by kernel_rfl)) (by kernel_rfl)
                    refine hI.gpure hap (by decide +kernel) (i := 32) (d := 173) rfl rfl  (j := 26) (dj := 167) rfl (by kernel_rfl) eg (v := .slice (some ⟨ab, off, none⟩) mn mc) rfl (fun _ _ _ _ h => h) hI.g ?_
                    intro K hKK
                    go_simp
                    exact hKK
                  · have e14 := hI.kept 14 _ (by decide +kernel) rfl
                    have eg : a.tmps[167]? = some (.bool false) := hI.sv 26 167 (by decide +kernel) (hw 26 (by kernel_rfl)) (by kernel_rfl)
                    refine hI.gpure hap (by decide +kernel) (i := 33) (d := 174) rfl rfl  (j := 26) (dj := 167) rfl (by kernel_rfl) eg (v := .int .i64 (i : Int)) rfl (fun _ _ _ _ h => h) hI.g ?_
                    intro K hKK
                    go_simp
                    exact hKK
                  · have e173 : a.tmps[173]? = some (.slice (some ⟨ab, off, none⟩) mn mc) := hI.sv 32 173 (by decide +kernel) (hw 32 (by kernel_rfl)) (by kernel_rfl)
                    have e174 : a.tmps[174]? = some (.int .i64 (i : Int)) := hI.sv 33 174 (by decide +kernel) (hw 33 (by kernel_rfl)) (by kernel_rfl)
                    have eg : a.tmps[167]? = some (.bool false) := hI.sv 26 167 (by decide +kernel) (hw 26 (by kernel_rfl)) (by kernel_rfl)
                    refine hI.gpure hap (by decide +kernel) (i := 34) (d := 175) rfl rfl  (j := 26) (dj := 167) rfl (by kernel_rfl) eg (v := .pointer (some ⟨ab, off + i * 5, none⟩)) rfl (fun _ _ _ _ h => h) hI.g ?_
                    intro K hKK
                    go_simp
                    exact hKK
                  · have e175 : a.tmps[175]? = some (.pointer (some ⟨ab, off + i * 5, none⟩)) := hI.sv 34 175 (by decide +kernel) (hw 34 (by kernel_rfl)) (by kernel_rfl)
                    have eg : a.tmps[167]? = some (.bool false) := hI.sv 26 167 (by decide +kernel) (hw 26 (by kernel_rfl)) (by kernel_rfl)
                    refine hI.gpure hap (by decide +kernel) (i := 35) (d := 176) rfl rfl  (j := 26) (dj := 167) rfl (by kernel_rfl) eg (v := .pointer (some ⟨ab, off + i * 5 + 4, none⟩)) rfl (fun _ _ _ _ h => h) hI.g ?_
                    intro K hKK
                    go_simp
                    exact hKK
                  · have e176 : a.tmps[176]? = some (.pointer (some ⟨ab, off + i * 5 + 4, none⟩)) := hI.sv 35 176 (by decide +kernel) (hw 35 (by kernel_rfl)) (by kernel_rfl)
                    have eg : a.tmps[167]? = some (.bool false) := hI.sv 26 167 (by decide +kernel) (hw 26 (by kernel_rfl)) (by kernel_rfl)
                    have k9 := (Below.cell hI.g (World.block_lt_of_cell? _ _ x4)).trans x4
                    refine hI.gpure hap (by decide +kernel) (i := 36) (d := 177) rfl rfl  (j := 26) (dj := 167) rfl (by kernel_rfl) eg (v := .int .i64 yM) rfl (fun _ _ _ _ h => h) hI.g ?_
                    intro K hKK
                    go_simp
                    exact hKK
                  · have e172 : a.tmps[172]? = some (.int .i64 yM) := hI.sv 31 172 (by decide +kernel) (hw 31 (by kernel_rfl)) (by kernel_rfl)
                    have e177 : a.tmps[177]? = some (.int .i64 yM) := hI.sv 36 177 (by decide +kernel) (hw 36 (by kernel_rfl)) (by kernel_rfl)
                    have eg : a.tmps[167]? = some (.bool false) := hI.sv 26 167 (by decide +kernel) (hw 26 (by kernel_rfl)) (by kernel_rfl)
                    refine hI.gpure hap (by decide +kernel) (i := 37) (d := 178) rfl rfl  (j := 26) (dj := 167) rfl (by kernel_rfl) eg (v := .bool false) rfl (fun _ _ _ _ h => h) hI.g ?_
                    intro K hKK
                    go_simp
                    exact hKK
                  · have e167 : a.tmps[167]? = some (.bool false) := hI.sv 26 167 (by decide +kernel) (hw 26 (by kernel_rfl)) (by kernel_rfl)
                    have e178 : a.tmps[178]? = some (.bool false) := hI.sv 37 178 (by decide +kernel) (hw 37 (by kernel_rfl)) (by kernel_rfl)
                    refine hI.pure hap (by decide +kernel) (i := 38) (d := 179) rfl rfl rfl (v := .bool false) rfl (fun _ _ _ _ h => h) hI.g ?_
                    intro K hKK
                    go_simp
                    exact hKK
                  · have e179 : a.tmps[179]? = some (.bool false) := hI.sv 38 179 (by decide +kernel) (hw 38 (by kernel_rfl)) (by kernel_rfl)
                    refine hI.pure hap (by decide +kernel) (i := 39) (d := 180) rfl rfl rfl (v := .bool false) rfl (fun _ _ _ _ h => h) hI.g ?_
                    intro K hKK
                    go_simp
                    exact hKK
                  · have e9 := hI.kept 9 _ (by decide +kernel) rfl
                    have eg : a.tmps[180]? = some (.bool false) := hI.sv 39 180 (by decide +kernel) (hw 39 (by kernel_rfl)) (by kernel_rfl)
                    refine hI.gpure hap (by decide +kernel) (i := 40) (d := 181) rfl rfl  (j := 39) (dj := 180) rfl (by kernel_rfl) eg (v := .slice (some ⟨yb, yo, none⟩) X xc) rfl (fun _ _ _ _ h => h) hI.g ?_
                    intro K hKK
                    go_simp
                    exact hKK
                  · have e10 := hI.kept 10 _ (by decide +kernel) rfl
                    have eg : a.tmps[180]? = some (.bool false) := hI.sv 39 180 (by decide +kernel) (hw 39 (by kernel_rfl)) (by kernel_rfl)
                    refine hI.gpure hap (by decide +kernel) (i := 41) (d := 182) rfl rfl  (j := 39) (dj := 180) rfl (by kernel_rfl) eg (v := .int .i64 (K : Int)) rfl (fun _ _ _ _ h => h) hI.g ?_
                    intro K hKK
                    go_simp
                    exact hKK
                  · have e181 : a.tmps[181]? = some (.slice (some ⟨yb, yo, none⟩) X xc) := hI.sv 40 181 (by decide +kernel) (hw 40 (by kernel_rfl)) (by kernel_rfl)
                    have e182 : a.tmps[182]? = some (.int .i64 (K : Int)) := hI.sv 41 182 (by decide +kernel) (hw 41 (by kernel_rfl)) (by kernel_rfl)
                    have eg : a.tmps[180]? = some (.bool false) := hI.sv 39 180 (by decide +kernel) (hw 39 (by kernel_rfl)) (by kernel_rfl)
                    refine hI.gpure hap (by decide +kernel) (i := 42) (d := 183) rfl rfl  (j := 39) (dj := 180) rfl (by kernel_rfl) eg (v := .pointer (some ⟨yb, yo + K * 5, none⟩)) rfl (fun _ _ _ _ h => h) hI.g ?_
                    intro K hKK
                    go_simp
                    exact hKK
                  · have e183 : a.tmps[183]? = some (.pointer (some ⟨yb, yo + K * 5, none⟩)) := hI.sv 42 183 (by decide +kernel) (hw 42 (by kernel_rfl)) (by kernel_rfl)
                    have eg : a.tmps[180]? = some (.bool false) := hI.sv 39 180 (by decide +kernel) (hw 39 (by kernel_rfl)) (by kernel_rfl)
                    refine hI.gpure hap (by decide +kernel) (i := 43) (d := 184) rfl rfl  (j := 39) (dj := 180) rfl (by kernel_rfl) eg (v := .pointer (some ⟨yb, yo + K * 5 + 2, none⟩)) rfl (fun _ _ _ _ h => h) hI.g ?_
                    intro K hKK
                    go_simp
                    exact hKK
                  · have e184 : a.tmps[184]? = some (.pointer (some ⟨yb, yo + K * 5 + 2, none⟩)) := hI.sv 43 184 (by decide +kernel) (hw 43 (by kernel_rfl)) (by kernel_rfl)
                    have eg : a.tmps[180]? = some (.bool false) := hI.sv 39 180 (by decide +kernel) (hw 39 (by kernel_rfl)) (by kernel_rfl)
                    have k9 := (Below.cell hI.g (World.block_lt_of_cell? _ _ d2)).trans d2
                    refine hI.gpure hap (by decide +kernel) (i := 44) (d := 185) rfl rfl  (j := 39) (dj := 180) rfl (by kernel_rfl) eg (v := .slice yfa yfz.length yfc) rfl (fun _ _ _ _ h => h) hI.g ?_
                    intro K hKK
                    go_simp
                    exact hKK
                  · have e185 : a.tmps[185]? = some (.slice yfa yfz.length yfc) := hI.sv 44 185 (by decide +kernel) (hw 44 (by kernel_rfl)) (by kernel_rfl)
                    have eg : a.tmps[180]? = some (.bool false) := hI.sv 39 180 (by decide +kernel) (hw 39 (by kernel_rfl)) (by kernel_rfl)
                    have k9 := conv_bs ((HYK.out.below hI.g (Nat.le_refl _)).1.1)
                    refine hI.gpure hap (by decide +kernel) (i := 45) (d := 186) rfl rfl  (j := 39) (dj := 180) rfl (by kernel_rfl) eg (v := .string (strOfNums yfz)) rfl (fun _ _ _ _ h => h) hI.g ?_
                    intro K hKK
                    go_simp
                    exact hKK
                  · have e3 := hI.kept 3 _ (by decide +kernel) rfl
                    have eg : a.tmps[180]? = some (.bool false) := hI.sv 39 180 (by decide +kernel) (hw 39 (by kernel_rfl)) (by kernel_rfl)
                    refine hI.gpure hap (by decide +kernel) (i := 46) (d := 187) rfl rfl  (j := 39) (dj := 180) rfl (by kernel_rfl) eg (v := .slice (some ⟨ab, off, none⟩) mn mc) rfl (fun _ _ _ _ h => h) hI.g ?_
                    intro K hKK
                    go_simp
                    exact hKK
                  · have e14 := hI.kept 14 _ (by decide +kernel) rfl
                    have eg : a.tmps[180]? = some (.bool false) := hI.sv 39 180 (by decide +kernel) (hw 39 (by kernel_rfl)) (by kernel_rfl)
                    refine hI.gpure hap (by decide +kernel) (i := 47) (d := 188) rfl rfl  (j := 39) (dj := 180) rfl (by kernel_rfl) eg (v := .int .i64 (i : Int)) rfl (fun _ _ _ _ h => h) hI.g ?_
                    intro K hKK
                    go_simp
                    exact hKK
                  · have e187 : a.tmps[187]? = some (.slice (some ⟨ab, off, none⟩) mn mc) := hI.sv 46 187 (by decide +kernel) (hw 46 (by kernel_rfl)) (by kernel_rfl)
                    have e188 : a.tmps[188]? = some (.int .i64 (i : Int)) := hI.sv 47 188 (by decide +kernel) (hw 47 (by kernel_rfl)) (by kernel_rfl)
                    have eg : a.tmps[180]? = some (.bool false) := hI.sv 39 180 (by decide +kernel) (hw 39 (by kernel_rfl)) (by kernel_rfl)
                    refine hI.gpure hap (by decide +kernel) (i := 48) (d := 189) rfl rfl  (j := 39) (dj := 180) rfl (by kernel_rfl) eg (v := .pointer (some ⟨ab, off + i * 5, none⟩)) rfl (fun _ _ _ _ h => h) hI.g ?_
                    intro K hKK
                    go_simp
                    exact hKK
                  · have e189 : a.tmps[189]? = some (.pointer (some ⟨ab, off + i * 5, none⟩)) := hI.sv 48 189 (by decide +kernel) (hw 48 (by kernel_rfl)) (by kernel_rfl)
                    have eg : a.tmps[180]? = some (.bool false) := hI.sv 39 180 (by decide +kernel) (hw 39 (by kernel_rfl)) (by kernel_rfl)
                    refine hI.gpure hap (by decide +kernel) (i := 49) (d := 190) rfl rfl  (j := 39) (dj := 180) rfl (by kernel_rfl) eg (v := .pointer (some ⟨ab, off + i * 5 + 2, none⟩)) rfl (fun _ _ _ _ h => h) hI.g ?_
                    intro K hKK
                    go_simp
                    exact hKK
                  · have e190 : a.tmps[190]? = some (.pointer (some ⟨ab, off + i * 5 + 2, none⟩)) := hI.sv 49 190 (by decide +kernel) (hw 49 (by kernel_rfl)) (by kernel_rfl)
                    have eg : a.tmps[180]? = some (.bool false) := hI.sv 39 180 (by decide +kernel) (hw 39 (by kernel_rfl)) (by kernel_rfl)
                    have k9 := (Below.cell hI.g (World.block_lt_of_cell? _ _ x2)).trans x2
                    refine hI.gpure hap (by decide +kernel) (i := 50) (d := 191) rfl rfl  (j := 39) (dj := 180) rfl (by kernel_rfl) eg (v := .slice xfa yfz.length xfc) rfl (fun _ _ _ _ h => h) hI.g ?_
                    intro K hKK
                    go_simp
                    exact hKK
                  · have e191 : a.tmps[191]? = some (.slice xfa yfz.length xfc) := hI.sv 50 191 (by decide +kernel) (hw 50 (by kernel_rfl)) (by kernel_rfl)
                    have eg : a.tmps[180]? = some (.bool false) := hI.sv 39 180 (by decide +kernel) (hw 39 (by kernel_rfl)) (by kernel_rfl)
                    have k9 := conv_bs ((HXK.out.below hI.g (Nat.le_refl _)).1.1)
                    refine hI.gpure hap (by decide +kernel) (i := 51) (d := 192) rfl rfl  (j := 39) (dj := 180) rfl (by kernel_rfl) eg (v := .string (strOfNums yfz)) rfl (fun _ _ _ _ h => h) hI.g ?_
                    intro K hKK
                    go_simp
                    exact hKK
                  · have e186 : a.tmps[186]? = some (.string (strOfNums yfz)) := hI.sv 45 186 (by decide +kernel) (hw 45 (by kernel_rfl)) (by kernel_rfl)
                    have e192 : a.tmps[192]? = some (.string (strOfNums yfz)) := hI.sv 51 192 (by decide +kernel) (hw 51 (by kernel_rfl)) (by kernel_rfl)
                    have eg : a.tmps[180]? = some (.bool false) := hI.sv 39 180 (by decide +kernel) (hw 39 (by kernel_rfl)) (by kernel_rfl)
                    refine hI.gpure hap (by decide +kernel) (i := 52) (d := 193) rfl rfl  (j := 39) (dj := 180) rfl (by kernel_rfl) eg (v := .bool false) rfl (fun _ _ _ _ h => h) hI.g ?_
                    intro K hKK
                    go_simp
                    exact hKK
                  · have e180 : a.tmps[180]? = some (.bool false) := hI.sv 39 180 (by decide +kernel) (hw 39 (by kernel_rfl)) (by kernel_rfl)
                    have e193 : a.tmps[193]? = some (.bool false) := hI.sv 52 193 (by decide +kernel) (hw 52 (by kernel_rfl)) (by kernel_rfl)
                    refine hI.pure hap (by decide +kernel) (i := 53) (d := 194) rfl rfl rfl (v := .bool false) rfl (fun _ _ _ _ h => h) hI.g ?_
                    intro K hKK
                    go_simp
                    exact hKK
                case fin =>
                  intro L a W hI hall
                  have s0 : a.tmps[141]? = some (.int .i64 (K : Int)) := hI.sv 0 141 (by decide +kernel) (hall 0 (by decide +kernel)) (by kernel_rfl)
                  have s1 : a.tmps[142]? = some (.slice (some ⟨yb, yo, none⟩) X xc) := hI.sv 1 142 (by decide +kernel) (hall 1 (by decide +kernel)) (by kernel_rfl)
                  have s2 : a.tmps[143]? = some (.int .i64 (X : Int)) := hI.sv 2 143 (by decide +kernel) (hall 2 (by decide +kernel)) (by kernel_rfl)
                  have s3 : a.tmps[144]? = some (.bool false) := hI.sv 3 144 (by decide +kernel) (hall 3 (by decide +kernel)) (by kernel_rfl)
                  have s4 : a.tmps[145]? = some (.bool false) := hI.sv 4 145 (by decide +kernel) (hall 4 (by decide +kernel)) (by kernel_rfl)
                  have s5 : a.tmps[146]? = some (.slice (some ⟨yb, yo, none⟩) X xc) := hI.sv 5 146 (by decide +kernel) (hall 5 (by decide +kernel)) (by kernel_rfl)
                  have s6 : a.tmps[147]? = some (.int .i64 (K : Int)) := hI.sv 6 147 (by decide +kernel) (hall 6 (by decide +kernel)) (by kernel_rfl)
                  have s7 : a.tmps[148]? = some (.pointer (some ⟨yb, yo + K * 5, none⟩)) := hI.sv 7 148 (by decide +kernel) (hall 7 (by decide +kernel)) (by kernel_rfl)
                  have s8 : a.tmps[149]? = some (.pointer (some ⟨yb, yo + K * 5, none⟩)) := hI.sv 8 149 (by decide +kernel) (hall 8 (by decide +kernel)) (by kernel_rfl)
                  have s9 : a.tmps[150]? = some (.int .i64 yN) := hI.sv 9 150 (by decide +kernel) (hall 9 (by decide +kernel)) (by kernel_rfl)
                  have s10 : a.tmps[151]? = some (.slice (some ⟨ab, off, none⟩) mn mc) := hI.sv 10 151 (by decide +kernel) (hall 10 (by decide +kernel)) (by kernel_rfl)
                  have s11 : a.tmps[152]? = some (.int .i64 (i : Int)) := hI.sv 11 152 (by decide +kernel) (hall 11 (by decide +kernel)) (by kernel_rfl)
                  have s12 : a.tmps[153]? = some (.pointer (some ⟨ab, off + i * 5, none⟩)) := hI.sv 12 153 (by decide +kernel) (hall 12 (by decide +kernel)) (by kernel_rfl)
                  have s13 : a.tmps[154]? = some (.pointer (some ⟨ab, off + i * 5, none⟩)) := hI.sv 13 154 (by decide +kernel) (hall 13 (by decide +kernel)) (by kernel_rfl)
                  have s14 : a.tmps[155]? = some (.int .i64 yN) := hI.sv 14 155 (by decide +kernel) (hall 14 (by decide +kernel)) (by kernel_rfl)
                  have s15 : a.tmps[156]? = some (.bool false) := hI.sv 15 156 (by decide +kernel) (hall 15 (by decide +kernel)) (by kernel_rfl)
                  have s16 : a.tmps[157]? = some (.bool false) := hI.sv 16 157 (by decide +kernel) (hall 16 (by decide +kernel)) (by kernel_rfl)
                  have s17 : a.tmps[158]? = some (.bool false) := hI.sv 17 158 (by decide +kernel) (hall 17 (by decide +kernel)) (by kernel_rfl)
                  have s18 : a.tmps[159]? = some (.slice (some ⟨yb, yo, none⟩) X xc) := hI.sv 18 159 (by decide +kernel) (hall 18 (by decide +kernel)) (by kernel_rfl)
                  have s19 : a.tmps[160]? = some (.int .i64 (K : Int)) := hI.sv 19 160 (by decide +kernel) (hall 19 (by decide +kernel)) (by kernel_rfl)
                  have s20 : a.tmps[161]? = some (.pointer (some ⟨yb, yo + K * 5, none⟩)) := hI.sv 20 161 (by decide +kernel) (hall 20 (by decide +kernel)) (by kernel_rfl)
                  have s21 : a.tmps[162]? = some (.pointer (some ⟨yb, yo + K * 5 + 1, none⟩)) := hI.sv 21 162 (by decide +kernel) (hall 21 (by decide +kernel)) (by kernel_rfl)
                  have s22 : a.tmps[163]? = some (.int .i64 yL) := hI.sv 22 163 (by decide +kernel) (hall 22 (by decide +kernel)) (by kernel_rfl)
                  have s23 : a.tmps[164]? = some (.int .i64 yL) := hI.sv 23 164 (by decide +kernel) (hall 23 (by decide +kernel)) (by kernel_rfl)
                  have s24 : a.tmps[165]? = some (.bool false) := hI.sv 24 165 (by decide +kernel) (hall 24 (by decide +kernel)) (by kernel_rfl)
                  have s25 : a.tmps[166]? = some (.bool false) := hI.sv 25 166 (by decide +kernel) (hall 25 (by decide +kernel)) (by kernel_rfl)
                  have s26 : a.tmps[167]? = some (.bool false) := hI.sv 26 167 (by decide +kernel) (hall 26 (by decide +kernel)) (by kernel_rfl)
                  have s27 : a.tmps[168]? = some (.slice (some ⟨yb, yo, none⟩) X xc) := hI.sv 27 168 (by decide +kernel) (hall 27 (by decide +kernel)) (by kernel_rfl)
                  have s28 : a.tmps[169]? = some (.int .i64 (K : Int)) := hI.sv 28 169 (by decide +kernel) (hall 28 (by decide +kernel)) (by kernel_rfl)
                  have s29 : a.tmps[170]? = some (.pointer (some ⟨yb, yo + K * 5, none⟩)) := hI.sv 29 170 (by decide +kernel) (hall 29 (by decide +kernel)) (by kernel_rfl)
                  have s30 : a.tmps[171]? = some (.pointer (some ⟨yb, yo + K * 5 + 4, none⟩)) := hI.sv 30 171 (by decide +kernel) (hall 30 (by decide +kernel)) (by kernel_rfl)
                  have s31 : a.tmps[172]? = some (.int .i64 yM) := hI.sv 31 172 (by decide +kernel) (hall 31 (by decide +kernel)) (by kernel_rfl)
                  have s32 : a.tmps[173]? = some (.slice (some ⟨ab, off, none⟩) mn mc) := hI.sv 32 173 (by decide +kernel) (hall 32 (by decide +kernel)) (by kernel_rfl)
                  have s33 : a.tmps[174]? = some (.int .i64 (i : Int)) := hI.sv 33 174 (by decide +kernel) (hall 33 (by decide +kernel)) (by kernel_rfl)
                  have s34 : a.tmps[175]? = some (.pointer (some ⟨ab, off + i * 5, none⟩)) := hI.sv 34 175 (by decide +kernel) (hall 34 (by decide +kernel)) (by kernel_rfl)
                  have s35 : a.tmps[176]? = some (.pointer (some ⟨ab, off + i * 5 + 4, none⟩)) := hI.sv 35 176 (by decide +kernel) (hall 35 (by decide +kernel)) (by kernel_rfl)
                  have s36 : a.tmps[177]? = some (.int .i64 yM) := hI.sv 36 177 (by decide +kernel) (hall 36 (by decide +kernel)) (by kernel_rfl)
                  have s37 : a.tmps[178]? = some (.bool false) := hI.sv 37 178 (by decide +kernel) (hall 37 (by decide +kernel)) (by kernel_rfl)
                  have s38 : a.tmps[179]? = some (.bool false) := hI.sv 38 179 (by decide +kernel) (hall 38 (by decide +kernel)) (by kernel_rfl)
                  have s39 : a.tmps[180]? = some (.bool false) := hI.sv 39 180 (by decide +kernel) (hall 39 (by decide +kernel)) (by kernel_rfl)
                  have s40 : a.tmps[181]? = some (.slice (some ⟨yb, yo, none⟩) X xc) := hI.sv 40 181 (by decide +kernel) (hall 40 (by decide +kernel)) (by kernel_rfl)
                  have s41 : a.tmps[182]? = some (.int .i64 (K : Int)) := hI.sv 41 182 (by decide +kernel) (hall 41 (by decide +kernel)) (by kernel_rfl)
                  have s42 : a.tmps[183]? = some (.pointer (some ⟨yb, yo + K * 5, none⟩)) := hI.sv 42 183 (by decide +kernel) (hall 42 (by decide +kernel)) (by kernel_rfl)
                  have s43 : a.tmps[184]? = some (.pointer (some ⟨yb, yo + K * 5 + 2, none⟩)) := hI.sv 43 184 (by decide +kernel) (hall 43 (by decide +kernel)) (by kernel_rfl)
                  have s44 : a.tmps[185]? = some (.slice yfa yfz.length yfc) := hI.sv 44 185 (by decide +kernel) (hall 44 (by decide +kernel)) (by kernel_rfl)
                  have s45 : a.tmps[186]? = some (.string (strOfNums yfz)) := hI.sv 45 186 (by decide +kernel) (hall 45 (by decide +kernel)) (by kernel_rfl)
                  have s46 : a.tmps[187]? = some (.slice (some ⟨ab, off, none⟩) mn mc) := hI.sv 46 187 (by decide +kernel) (hall 46 (by decide +kernel)) (by kernel_rfl)
                  have s47 : a.tmps[188]? = some (.int .i64 (i : Int)) := hI.sv 47 188 (by decide +kernel) (hall 47 (by decide +kernel)) (by kernel_rfl)
                  have s48 : a.tmps[189]? = some (.pointer (some ⟨ab, off + i * 5, none⟩)) := hI.sv 48 189 (by decide +kernel) (hall 48 (by decide +kernel)) (by kernel_rfl)
                  have s49 : a.tmps[190]? = some (.pointer (some ⟨ab, off + i * 5 + 2, none⟩)) := hI.sv 49 190 (by decide +kernel) (hall 49 (by decide +kernel)) (by kernel_rfl)
                  have s50 : a.tmps[191]? = some (.slice xfa yfz.length xfc) := hI.sv 50 191 (by decide +kernel) (hall 50 (by decide +kernel)) (by kernel_rfl)
                  have s51 : a.tmps[192]? = some (.string (strOfNums yfz)) := hI.sv 51 192 (by decide +kernel) (hall 51 (by decide +kernel)) (by kernel_rfl)
                  have s52 : a.tmps[193]? = some (.bool false) := hI.sv 52 193 (by decide +kernel) (hall 52 (by decide +kernel)) (by kernel_rfl)
                  have s53 : a.tmps[194]? = some (.bool false) := hI.sv 53 194 (by decide +kernel) (hall 53 (by decide +kernel)) (by kernel_rfl)
                  have hfr := si_frame hI [(141, .int .i64 (K : Int)), (142, .slice (some ⟨yb, yo, none⟩) X xc), (143, .int .i64 (X : Int)), (144, .bool false), (145, .bool false), (146, .slice (some ⟨yb, yo, none⟩) X xc), (147, .int .i64 (K : Int)), (148, .pointer (some ⟨yb, yo + K * 5, none⟩)), (149, .pointer (some ⟨yb, yo + K * 5, none⟩)), (150, .int .i64 yN), (151, .slice (some ⟨ab, off, none⟩) mn mc), (152, .int .i64 (i : Int)), (153, .pointer (some ⟨ab, off + i * 5, none⟩)), (154, .pointer (some ⟨ab, off + i * 5, none⟩)), (155, .int .i64 yN), (156, .bool false), (157, .bool false), (158, .bool false), (159, .slice (some ⟨yb, yo, none⟩) X xc), (160, .int .i64 (K : Int)), (161, .pointer (some ⟨yb, yo + K * 5, none⟩)), (162, .pointer (some ⟨yb, yo + K * 5 + 1, none⟩)), (163, .int .i64 yL), (164, .int .i64 yL), (165, .bool false), (166, .bool false), (167, .bool false), (168, .slice (some ⟨yb, yo, none⟩) X xc), (169, .int .i64 (K : Int)), (170, .pointer (some ⟨yb, yo + K * 5, none⟩)), (171, .pointer (some ⟨yb, yo + K * 5 + 4, none⟩)), (172, .int .i64 yM), (173, .slice (some ⟨ab, off, none⟩) mn mc), (174, .int .i64 (i : Int)), (175, .pointer (some ⟨ab, off + i * 5, none⟩)), (176, .pointer (some ⟨ab, off + i * 5 + 4, none⟩)), (177, .int .i64 yM), (178, .bool false), (179, .bool false), (180, .bool false), (181, .slice (some ⟨yb, yo, none⟩) X xc), (182, .int .i64 (K : Int)), (183, .pointer (some ⟨yb, yo + K * 5, none⟩)), (184, .pointer (some ⟨yb, yo + K * 5 + 2, none⟩)), (185, .slice yfa yfz.length yfc), (186, .string (strOfNums yfz)), (187, .slice (some ⟨ab, off, none⟩) mn mc), (188, .int .i64 (i : Int)), (189, .pointer (some ⟨ab, off + i * 5, none⟩)), (190, .pointer (some ⟨ab, off + i * 5 + 2, none⟩)), (191, .slice xfa yfz.length xfc), (192, .string (strOfNums yfz)), (193, .bool false), (194, .bool false)] (by kernel_rfl) (List.forall_mem_cons.2 ⟨s0, List.forall_mem_cons.2 ⟨s1, List.forall_mem_cons.2 ⟨s2, List.forall_mem_cons.2 ⟨s3, List.forall_mem_cons.2 ⟨s4, List.forall_mem_cons.2 ⟨s5, List.forall_mem_cons.2 ⟨s6, List.forall_mem_cons.2 ⟨s7, List.forall_mem_cons.2 ⟨s8, List.forall_mem_cons.2 ⟨s9, List.forall_mem_cons.2 ⟨s10, List.forall_mem_cons.2 ⟨s11, List.forall_mem_cons.2 ⟨s12, List.forall_mem_cons.2 ⟨s13, List.forall_mem_cons.2 ⟨s14, List.forall_mem_cons.2 ⟨s15, List.forall_mem_cons.2 ⟨s16, List.forall_mem_cons.2 ⟨s17, List.forall_mem_cons.2 ⟨s18, List.forall_mem_cons.2 ⟨s19, List.forall_mem_cons.2 ⟨s20, List.forall_mem_cons.2 ⟨s21, List.forall_mem_cons.2 ⟨s22, List.forall_mem_cons.2 ⟨s23, List.forall_mem_cons.2 ⟨s24, List.forall_mem_cons.2 ⟨s25, List.forall_mem_cons.2 ⟨s26, List.forall_mem_cons.2 ⟨s27, List.forall_mem_cons.2 ⟨s28, List.forall_mem_cons.2 ⟨s29, List.forall_mem_cons.2 ⟨s30, List.forall_mem_cons.2 ⟨s31, List.forall_mem_cons.2 ⟨s32, List.forall_mem_cons.2 ⟨s33, List.forall_mem_cons.2 ⟨s34, List.forall_mem_cons.2 ⟨s35, List.forall_mem_cons.2 ⟨s36, List.forall_mem_cons.2 ⟨s37, List.forall_mem_cons.2 ⟨s38, List.forall_mem_cons.2 ⟨s39, List.forall_mem_cons.2 ⟨s40, List.forall_mem_cons.2 ⟨s41, List.forall_mem_cons.2 ⟨s42, List.forall_mem_cons.2 ⟨s43, List.forall_mem_cons.2 ⟨s44, List.forall_mem_cons.2 ⟨s45, List.forall_mem_cons.2 ⟨s46, List.forall_mem_cons.2 ⟨s47, List.forall_mem_cons.2 ⟨s48, List.forall_mem_cons.2 ⟨s49, List.forall_mem_cons.2 ⟨s50, List.forall_mem_cons.2 ⟨s51, List.forall_mem_cons.2 ⟨s52, List.forall_mem_cons.2 ⟨s53, List.forall_mem_nil _⟩⟩⟩⟩⟩⟩⟩⟩⟩⟩⟩⟩⟩⟩⟩⟩⟩⟩⟩⟩⟩⟩⟩⟩⟩⟩⟩⟩⟩⟩⟩⟩⟩⟩⟩⟩⟩⟩⟩⟩⟩⟩⟩⟩⟩⟩⟩⟩⟩⟩⟩⟩⟩⟩)
                  have HBR := hide (show Below _ _ W from hI.g)
                  rw [hfr]
                  clear hfr hI hall s0 s1 s2 s3 s4 s5 s6 s7 s8 s9 s10 s11 s12 s13 s14 s15 s16 s17 s18 s19 s20 s21 s22 s23 s24 s25 s26 s27 s28 s29 s30 s31 s32 s33 s34 s35 s36 s37 s38 s39 s40 s41 s42 s43 s44 s45 s46 s47 s48 s49 s50 s51 s52 s53
                  simp only [List.foldl, List.setIfInBounds_toArray, List.set_cons_zero, List.set_cons_succ]
                -- >r20
                  go_wp2
                  go_roundw
                  case rel => exact ⟨i + 1, by omega, by go_num, by rw [show S + (i + 1) = K + 1 from by have := HKK.out; omega]; go_num, hide (HA2.out.keep HBR)⟩
                  case measure => simp [intOf]; omega
              · obtain hin : mn = i := by omega
                subst hin
                have hqi2 : ¬ ((mn : Int) < (mn : Int)) := by omega
                have hXS : S + mn = X := by have := HSN.out.1; omega
                rw [hXS]
                have qx : ((X : Int) == (X : Int)) = true := by simp
                have HB9 := hide HA2.out.b
                clear HA2
                go_wp2_with fail
                refine (HAK.out _).mono ?_
                rintro e w9 ⟨rfl, hb9⟩
                have HB10 := hide (HB9.out.trans (hb9.mono HB9.out.size))
                clear hb9
                go_wp2
                go_ret
                exact ⟨rfl, HB10.out⟩
      · have q0 : ((N : Int) > 50) := by omega
        go_wp2_with fail
        refine (HAK.out _).mono ?_
        rintro e w3 ⟨rfl, hb3⟩
        have HB3 := hide (HB2.out.trans (hb3.mono HB2.out.size))
        clear hb3
        go_wp2
        go_ret
        exact ⟨rfl, HB3.out⟩

end Go.Proofs.Ytcbphalhjajapaa.Clep
