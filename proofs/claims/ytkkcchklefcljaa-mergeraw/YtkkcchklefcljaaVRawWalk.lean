/- MergeRaw: whatever rows are given every call ends, walked. No conditions. -/
import Derived.Test.YtkkcchklefcljaaVAwake
import Derived.Test.YtkkcchklefcljaaVSeekW
import Derived.Test.YtkkcchklefcljaaVNew
import Derived.Test.YtkkcchklefcljaaVRowsWalk
namespace Go.Proofs.Ytkkcchklefcljaa.Clep
open Go.RowKit
set_option linter.unusedVariables false

theorem mand8 (a : Int) : 0 ≤ bits .and .i64 a 255 ∧ bits .and .i64 a 255 ≤ 255 := by
  have e : bits .and .i64 a 255 = IntKind.i64.wrap ((BitVec.ofInt 64 a &&& BitVec.ofInt 64 255).toNat : Int) := rfl
  have hle : (BitVec.ofInt 64 a &&& BitVec.ofInt 64 255).toNat ≤ 255 := by
    rw [BitVec.toNat_and]; exact Nat.le_trans Nat.and_le_right (by decide)
  rw [e]
  generalize (BitVec.ofInt 64 a &&& BitVec.ofInt 64 255).toNat = k at *
  simp [IntKind.wrap, IntKind.bits, IntKind.signed]
  omega
/-- What the second loop keeps: the Iter stands somewhere. -/
structure Rwk (w1 wr : World) (P M : Nat) (ls : List (List It)) (x : It) : Prop where
  bel : Below w1.heap.size w1 wr
  itr : ∃ nx, Itr wr M ls nx
  vi : Vi wr P 0 x.S x.K x.T x.V x.X
  lt : M < wr.heap.size
theorem Rwk.ch {w1 wr w2 : World} {P M : Nat} {ls : List (List It)} {x : It} (h : Rwk w1 wr P M ls x) (hc : Ch (fun b => b = M) wr w2) (hM : w1.heap.size ≤ M) (hP : P < w1.heap.size) (hi : ∃ nx, Itr w2 M ls nx) : Rwk w1 w2 P M ls x :=
  ⟨Below.ch h.bel hc h.bel.size (fun i hi => by omega), hi, vi_ch h.vi hc (by omega), Nat.lt_of_lt_of_le h.lt hc.size⟩
set_option maxRecDepth 100000 in
set_option maxHeartbeats 4000000 in
theorem raw_walk (a : Option Addr) (n c : Nat) (ys : List Sl) (x : It) (st : Int) (w : World) (h : Rws w a n c ys) (hn : n ≤ 9223372036854775807) (hc : c ≤ 9223372036854775807) (hst : -9223372036854775808 ≤ st ∧ st ≤ 9223372036854775807) :
    Calls Try.prog 7 #[.slice a n c, .agg #[.int .i64 x.S, .int .i64 x.K, .int .u64 x.T, .int .u64 x.V, .int .i64 x.X], .int .i64 st] w fun e w' => e = .returned (.bool true) ∧ Below w.heap.size w w' := by
  have A1 := (Below.refl _ w).alloc (Nat.le_refl _) (Obj.cells #[.int .i64 x.S, .int .i64 x.K, .int .u64 x.T, .int .u64 x.V, .int .i64 x.X] 36)
  have V1 := vi_new w x.S x.K x.T x.V x.X
  obtain ⟨w1, hw1⟩ : ∃ w1, w1 = w.alloc (Obj.cells #[.int .i64 x.S, .int .i64 x.K, .int .u64 x.T, .int .u64 x.V, .int .i64 x.X] 36) := ⟨_, rfl⟩
  have hs1 : w1.heap.size = w.heap.size + 1 := by rw [hw1]; simp
  rw [← hw1] at A1 V1
  have HA := hide A1
  have HV := hide V1
  have H0 := hide (h.below A1 (Nat.le_refl _))
  have hl := h.1
  clear h A1 V1
  by_cases hn8 : 8 < n
  · have hn8i : (8 : Int) < (n : Int) := by omega
    have CA := hide (vawake_any w1)
    go_enter Try.func7, Try.ntmps7
    go_wp2_with fail
    rw [← hw1]
    refine CA.out.mono ?_
    rintro e w2 ⟨rfl, hb2⟩
    have B2 := hide (bmore HA.out hb2)
    clear CA hb2
    go_wp2
    go_ret
    exact ⟨rfl, B2.out⟩
  · have hn8i : (n : Int) ≤ 8 := by omega
    have hsz : Hid ((∀ z ∈ ys, z.n ≤ 60) → sumL ys ≤ 480) := hide fun hz => by
      have h1 : ∀ m : List Sl, (∀ z ∈ m, z.l.length ≤ 60) → sumL m ≤ m.length * 60 := fun m => by
        induction m with
        | nil => intro _; simp [sumL]
        | cons a m ih =>
          intro hm
          have := ih (fun l hl => hm l (by simp [hl]))
          have := hm a (by simp)
          unfold sumL at *
          simp only [List.map_cons, List.sum_cons, List.length_cons]; omega
      have h2 := h1 ys (fun z hz' => by rw [(H0.out.2.2.1 z hz').1.1]; exact hz z hz')
      omega
    go_enter Try.func7, Try.ntmps7
    go_wp2_with fail
    rw [← hw1]
    obtain ⟨P, hP⟩ : ∃ P, w.heap.size = P := ⟨_, rfl⟩
    rw [hP] at HV hs1 ⊢
    have HP := hide hP
    clear hw1 hP
    go_loopw [7] (fun s7 wr => ∃ k : Nat, k ≤ n ∧ s7 = .int .i64 k ∧ w1 = wr ∧ Hid (∀ z ∈ ys.take k, z.n ≤ 60)) (fun s7 _ => n - (intOf s7).toNat)
    case atStart => exact ⟨0, by omega, rfl, rfl, hide (by simp)⟩
    case round =>
      obtain ⟨k, hk, rfl, rfl, hZ⟩ := hrel
      by_cases hlt : k < n
      · obtain ⟨y, hy⟩ : ∃ y, ys[k]? = some y := ⟨_, List.getElem?_eq_getElem (by rw [hl]; exact hlt)⟩
        obtain ⟨b1, off1, ea, hcell⟩ := H0.out.2.2.2 (by omega)
        subst ea
        have hck := hcell k y hy
        have HT := hide (show ys.take (k + 1) = ys.take k ++ [y] by rw [List.take_add_one, hy]; rfl)
        have hyn := (H0.out.2.2.1 y (List.mem_of_getElem? hy)).2
        obtain ⟨ya, yn, yc, yl⟩ := y
        simp only at hck hyn
        clear hcell hy
        by_cases h60 : 60 < yn
        · have h60i : (60 : Int) < (yn : Int) := by omega
          have CA := hide (vawake_any w1)
          go_wp2_with fail
          refine CA.out.mono ?_
          rintro e w2 ⟨rfl, hb2⟩
          have B2 := hide (bmore HA.out hb2)
          clear CA hb2
          go_wp2
          go_ret
          exact ⟨rfl, B2.out⟩
        · have h60i : (yn : Int) ≤ 60 := by omega
          go_wp2_with fail
          go_roundw
          case rel => exact ⟨k + 1, by omega, by go_num, by first | trivial | rfl, hide (by
            rw [HT.out]
            intro z hz
            rcases List.mem_append.1 hz with e | e
            · exact hZ.out z e
            · rw [List.mem_singleton.1 e]; show yn ≤ 60; omega)⟩
          case measure => simp [intOf]; omega
      · obtain rfl : k = n := by omega
        rw [show ys.take k = ys by rw [← hl]; exact List.take_length] at hZ
        have hsum := hsz.out hZ.out
        have hfl : (ys.map Sl.l).flatten.length ≤ 480 := by rw [flat_len]; exact hsum
        have CN := hide (new_any a k c ys w1 H0.out (by omega) (by omega))
        clear hZ hsz
        go_wp2_with fail
        refine CN.out.mono ?_
        rintro e w2 ⟨M, rfl, hM1, hM2, hU, hb2⟩
        have HR0 := hide (show Rwk w1 w2 P M (ys.map Sl.l) x from ⟨hb2, ⟨0, .inl ⟨hU, rfl⟩⟩, HV.out.keep hb2, hM2⟩)
        have HM := hide hM1
        obtain ⟨Bd, hBd⟩ : ∃ Bd, bits .and .i64 st 255 = Bd := ⟨_, rfl⟩
        have hB := mand8 st
        rw [hBd] at hB
        clear CN hU hb2 hM2 hM1
        have hP1 : Hid (P < w1.heap.size) := hide (by omega)
        have heq : ∀ (w : World) (b : Addr), (binOp .eql 33 (.pointer (some b)) (.pointer none)).run Try.prog w = .ok (.bool false) w := fun w b => by kernel_rfl
        go_wp2_with fail
        go_loopw [9] (fun s9 wr => ∃ i : Nat, (i : Int) ≤ Bd ∧ s9 = .int .i64 i ∧ Hid (Rwk w1 wr P M (ys.map Sl.l) x)) (fun s9 _ => (Bd - intOf s9).toNat)
        case atStart => exact ⟨0, by omega, rfl, HR0⟩
        case round =>
          obtain ⟨i, hi, rfl, hRk⟩ := hrel
          by_cases hib : (i : Int) < Bd
          · have hrem : (i : Int).tmod 7 = (i : Int) % 7 := Int.tmod_eq_emod_of_nonneg (by omega)
            obtain ⟨q, hq⟩ : ∃ q, ((i : Int) % 7 == 6) = q := ⟨_, rfl⟩
            obtain ⟨nx, hI⟩ := hRk.out.itr
            cases q with
            | false =>
              have CX := hide (next_any wr M _ nx hI hRk.out.lt (by omega))
              clear hI
              go_wp2_with fail
              refine CX.out.mono ?_
              rintro e w3 ⟨L3, hm3, hc3, h3⟩
              have HR3 : Hid (Rwk w1 w3 P M (ys.map Sl.l) x) := hide (hRk.out.ch hc3 HM.out hP1.out (by
                rcases h3 with ⟨_, _, h3⟩ | ⟨_, _, _, h3⟩
                · exact ⟨_, h3⟩
                · exact ⟨_, h3⟩))
              obtain ⟨v3, rfl⟩ : ∃ v, e = .returned v := by
                rcases h3 with ⟨_, h3, _⟩ | ⟨_, _, h3, _⟩
                · exact ⟨_, h3⟩
                · exact ⟨_, h3⟩
              clear CX hc3 h3 hm3 hRk
              go_wp2_with fail
              go_roundw
              case rel => exact ⟨i + 1, by omega, by go_num, HR3⟩
              case measure => simp [intOf]; omega
            | true =>
              have CS := hide (seek_any wr M _ nx x hI hRk.out.lt (by omega))
              have gv := hRk.out.vi
              unfold Vi at gv
              simp only [Nat.zero_add] at gv
              obtain ⟨v0, v1, v2, v3, v4⟩ := gv
              clear hI
              go_wp2_with fail
              refine CS.out.mono ?_
              rintro e w3 ⟨rfl, L3, k3, hm3, hk3, -, hI3, hc3⟩
              have HR3 := hide (hRk.out.ch hc3 HM.out hP1.out ⟨_, hI3⟩)
              have CX := hide (next_any w3 M _ k3 hI3 HR3.out.lt (by omega))
              clear CS hc3 hI3 hm3 hRk v0 v1 v2 v3 v4
              go_wp2_with fail
              refine CX.out.mono ?_
              rintro e w4 ⟨L4, hm4, hc4, h4⟩
              have HR4 : Hid (Rwk w1 w4 P M (ys.map Sl.l) x) := hide (HR3.out.ch hc4 HM.out hP1.out (by
                rcases h4 with ⟨_, _, h4⟩ | ⟨_, _, _, h4⟩
                · exact ⟨_, h4⟩
                · exact ⟨_, h4⟩))
              obtain ⟨v4, rfl⟩ : ∃ v, e = .returned v := by
                rcases h4 with ⟨_, h4, _⟩ | ⟨_, _, h4, _⟩
                · exact ⟨_, h4⟩
                · exact ⟨_, h4⟩
              clear CX hc4 h4 hm4 HR3
              go_wp2_with fail
              go_roundw
              case rel => exact ⟨i + 1, by omega, by go_num, HR4⟩
              case measure => simp [intOf]; omega
          · have C1 := hide (mrows_any k a k c ys wr (Nat.le_refl _) (H0.out.below hRk.out.bel (Nat.le_refl _)) hc (by omega) (by omega))
            go_wp2_with fail
            refine C1.out.mono ?_
            rintro e w3 ⟨L3, a3, n3, c3, rfl, rs3, hb3, ho3⟩
            have hn3 : n3 ≤ 480 := by rw [← rs3.is.1]; exact Nat.le_trans rs3.mrg.len hfl
            have C2 := hide (clean_any a3 n3 c3 L3 w3 rs3.is (by omega))
            have V3 := hide (hRk.out.vi.keep hb3)
            have B3 := hide (bmore hRk.out.bel hb3)
            have hL3 : L3.length ≤ 480 := by rw [rs3.is.1]; exact hn3
            clear C1 rs3 hb3 ho3 hRk
            go_wp2_with fail
            refine C2.out.mono ?_
            rintro e w4 ⟨a4, n4, c4, rfl, hI4, hc4, hb4⟩
            have hL4 : (clL L3).length ≤ 480 := Nat.le_trans (clL_len _) hL3
            have hn4 : n4 ≤ 480 := by rw [← hI4.1]; exact hL4
            have C3 := hide (without_any a4 n4 c4 (clL L3) x.V w4 hI4 (by omega))
            have V4 := hide (V3.out.keep hb4)
            have B4 := hide (bmore B3.out hb4)
            have gv := V4.out
            unfold Vi at gv
            simp only [Nat.zero_add] at gv
            obtain ⟨v0, v1, v2, v3, v4⟩ := gv
            clear C2 hI4 hb4 V3 B3
            go_wp2_with fail
            refine C3.out.mono ?_
            rintro e w5 ⟨a5, n5, c5, rfl, hI5, hc5, hb5⟩
            obtain ⟨L5, hL5⟩ : ∃ L, (clL (clL L3)).filter (purgeP x.V) = L := ⟨_, rfl⟩
            rw [hL5] at hI5
            have hl5 : L5.length ≤ 480 := by rw [← hL5]; exact Nat.le_trans (List.length_filter_le _ _) (Nat.le_trans (clL_len _) hL4)
            have hn5 : n5 ≤ 480 := by rw [← hI5.1]; exact hl5
            have C4 := hide (without_any a5 n5 c5 L5 x.V w5 hI5 (by omega))
            have V5 := hide (V4.out.keep hb5)
            have B5 := hide (bmore B4.out hb5)
            have HN5 := hide hI5.1
            have gv := V5.out
            unfold Vi at gv
            simp only [Nat.zero_add] at gv
            clear C3 hI5 hb5 V4 B4 v0 v1 v2 v3 v4 hL5
            obtain ⟨v0, v1, v2, v3, v4⟩ := gv
            go_wp2_with fail
            refine C4.out.mono ?_
            rintro e w6 ⟨a6, n6, c6, rfl, hI6, hc6, hb6⟩
            have hn6 : (n6 : Int) ≤ (n5 : Int) := by
              have : n6 ≤ n5 := by rw [← hI6.1, ← HN5.out]; exact Nat.le_trans (List.length_filter_le _ _) (clL_len _)
              omega
            have B6 := hide (bmore HA.out (bmore B5.out hb6))
            clear C4 hI6 hb6 V5 B5 v0 v1 v2 v3 v4
            go_wp2_with (first
              | (go_at_call 18; refine (vawake_any _).mono ?_; rintro e w7 ⟨rfl, hb7⟩; have B7 := hide (bmore B6.out hb7)))
            go_ret
            exact ⟨rfl, B7.out⟩

end Go.Proofs.Ytkkcchklefcljaa.Clep
