/- FrameTakes, walked: it answers true. For any bytes, any place, any bodies, any byte turned, any cut. -/
import Derived.Test.YtfcakghegdaeoabTakeAll
import Derived.Test.YtfcakghegdaeoabFCutsWalk
namespace Go.Proofs.Ytfcakghegdaeoab.Clep
open Go.RowKit
set_option linter.unusedVariables false

set_option maxRecDepth 4000 in
set_option maxHeartbeats 1600000 in
/-- From the two rows on. -/
theorem ftakes_walk (a0 a2 : Option Addr) (len0 cap0 len2 cap2 : Nat) (zs : List Int) (zss : List (List Int)) (p t y u : Int) (w : World) (h0 : Bs w a0 len0 cap0 zs ∧ len0 ≤ 9223372036854775807) (h2 : Bss w a2 len2 cap2 zss ∧ len2 ≤ 9223372036854775807) (w4 : (Lit.int .u8 y).wf = true) :
    Calls Try.prog 6 #[.slice a0 len0 cap0, .int .i64 p, .slice a2 len2 cap2, .int .i64 t, .int .u8 y, .int .i64 u] w fun e w' => e = .returned (.bool true) ∧ Below w.heap.size w w' := by
  have hy := u8_bounds w4
  obtain ⟨h0, m0⟩ := h0
  obtain ⟨h2, m2⟩ := h2
  clear w4
  by_cases hl : 3000 < len0
  · clear h0 h2
    go_enter Try.func6, Try.ntmps6
    go_wp2_with fail
    refine (awakeC_any w).mono ?_
    rintro e w1 ⟨rfl, hb⟩
    have HB := hide hb
    clear hb
    go_wp2
    go_ret
    exact ⟨rfl, HB.out⟩
  · obtain ⟨m, hmm⟩ : ∃ m, m = min len2 8 := ⟨_, rfl⟩
    have HBY := hide (fun i (hi : i < m) => h2.each i (by omega))
    have cM := hide (made_any a2 len2 cap2 zss 8 m w m2 (by omega) hmm h2)
    have hm8 : m ≤ 8 := by omega
    have H := hide (fun W (hW : Below w.heap.size w W) => h0.below hW (Nat.le_refl _))
    clear h0 h2 hmm
    go_enter Try.func6, Try.ntmps6
    go_wp2_with fail
    refine cM.out.mono ?_
    rintro e w1 ⟨hb1, ⟨hok, g, c, rfl, hcl⟩ | ⟨hno, rfl⟩⟩
    · have HB1 := hide hb1
      have HRR := hide (rws_range zss m hok HBY.out m (Nat.le_refl _))
      have hEm := en_le zss m hok m (Nat.le_refl _)
      have hsz : (strOfNums (rws zss m)).size = en zss m := str_size _
      obtain ⟨cp2, w2, hrun, hcap2, hB2, hbs2, hfz2, hsz2⟩ := str_bytes w1 (rws zss m) HRR.out
      rw [show (rws zss m).length = en zss m from rfl] at hrun hcap2 hbs2 hfz2
      have HBw2 := hide (HB1.out.trans (hB2.out.mono HB1.out.size))
      -- whether a byte is turned or not: bytes of the same length
      have key : ∀ (ds : List Int) (w3 : World), ds.length = en zss m → Bs w3 (some ⟨w1.heap.size, 0, none⟩) (en zss m) cp2 ds → Below w.heap.size w w3 → True := fun _ _ _ _ _ => trivial
      clear hb1 hok hcl cM key
      generalize strOfNums (rws zss m) = SS at *
      generalize rws zss m = ds at *
      generalize hEE : en zss m = EM at *
      clear hEE
      obtain ⟨X, hX, hXl⟩ := place_of u 65535 (by decide) ((EM : Int) + 1) (EM + 1) (by omega) (by omega)
      rw [show (((65535 : Nat) : Int)) = 65535 from rfl] at hX
      by_cases hE0 : 0 < EM
      · obtain ⟨T, hT, hTl⟩ := place_of t 16777215 (by decide) (EM : Int) EM rfl hE0
        rw [show (((16777215 : Nat) : Int)) = 16777215 from rfl] at hT
        obtain ⟨b', off', ho', hc'⟩ := hbs2.out.2.2.2 hE0
        cases ho'
        have hcT := hc' T hTl
        rw [Nat.zero_add] at hcT
        have hfT := hfz2.out T hTl
        have hzT := hbs2.out.2.2.1 T
        have HST := hide (hbs2.out.setAt T hTl _ (xor_range _ y hzT hy))
        rw [Nat.zero_add] at HST
        have HBT := hide (HBw2.out.setCell (p := ⟨w1.heap.size, T, none⟩) HB1.out.size (.int .u8 (bits BinOp.xor IntKind.u8 (ds.getD T 0) y)))
        generalize hz1 : ds.getD T 0 = z1 at *
        clear hc' hz1 hfz2
        go_wp2_with fail
        have HCs := hide (fun W (hW : Below (w2.setCell ⟨w1.heap.size, T, none⟩ (.int .u8 (bits BinOp.xor IntKind.u8 z1 y))).heap.size (w2.setCell ⟨w1.heap.size, T, none⟩ (.int .u8 (bits BinOp.xor IntKind.u8 z1 y))) W) => (HST.out.takeAt (EM - X) (by omega)).below hW (Nat.le_refl _))
        have HB3 := HBT
        obtain ⟨LC, hLC⟩ : ∃ LC, EM - X = LC := ⟨_, rfl⟩
        simp only [hLC] at HCs
        have hLC3 : LC ≤ 3000 := by omega
        rw [hLC]
        generalize (w2.setCell ⟨w1.heap.size, T, none⟩ (.int .u8 (bits BinOp.xor IntKind.u8 z1 y))) = w3 at *
        generalize ((ds.set T (bits BinOp.xor IntKind.u8 z1 y)).take LC) = cs at *
        clear hLC HST HBT hcT hfT hX
        go_loopw [0, 17] (fun bb q wr => ∃ (k : Nat) (ax : Option Addr) (lx cx : Nat) (xs : List Int), q = .int .i64 k ∧ bb = .slice ax lx cx ∧ k ≤ 2 ∧ lx ≤ 3000 ∧ Hid (Bs wr ax lx cx xs) ∧ Hid (Below w3.heap.size w3 wr)) (fun _ q _ => 2 - (intOf q).toNat)
        case atStart => exact ⟨0, a0, len0, cap0, zs, rfl, rfl, by omega, by omega, hide (H.out _ HB3.out), hide (Below.refl _ _)⟩
        case round =>
          obtain ⟨k, ax, lx, cx, xs, rfl, rfl, hk, hlx, HX, hbel⟩ := hrel
          have hk3 : k = 0 ∨ k = 1 ∨ k = 2 := by omega
          rcases hk3 with rfl | rfl | rfl
          · have hxr : ByteL xs := bs_range HX.out
            have hxl := HX.out.1
            have cT := hide (ftake_all ax lx cx xs p _ (by omega) HX.out)
            have cU := hide (fun W => unframe_all xs p W (by omega) hxr)
            have hTr := tk_range xs p hxr
            generalize TK xs p = tk at *
            obtain ⟨kk, T1, n1, e1⟩ := tk
            simp only at cT cU hTr
            go_wp2_with fail
            refine cT.out.mono ?_
            rintro e w5 ⟨v5, rfl, ho5, hb5⟩
            obtain ⟨a5, c5, rfl, hcv5⟩ := own_conv ho5 hTr T1.length rfl
            have HX5 := hide (HX.out.below hb5 (Nat.le_refl _))
            have HB5 := hide (hbel.out.trans (hb5.mono hbel.out.size))
            have hcx5 := conv_bs HX5.out
            generalize strOfNums T1 = ST at *
            clear ho5 hb5 cT hTr
            go_wp2_with fail
            refine (cU.out _).mono ?_
            rintro e w6 ⟨rfl, hb6⟩
            have hcv6 := hcv5.out w6 hb6
            have HX6 := hide (HX5.out.below hb6 (Nat.le_refl _))
            have HB6 := hide (HB5.out.trans (hb6.mono HB5.out.size))
            clear hb6 hcx5 cU hcv5 HX5 HB5
            obtain ⟨n, hn⟩ : ∃ n, (SP xs).1.length = n := ⟨_, rfl⟩
            have cS := hide (fsplit_any ax lx cx xs w6 (by omega) HX6.out n hn)
            have cR := hide (fun W => refsplit_any xs W (by omega) hxr n hn)
            have hn3 : n ≤ lx := by rw [← hn, ← hxl]; exact SP_len xs
            generalize (SP xs).1 = F at *
            generalize (SP xs).2.1 = E1 at *
            generalize (SP xs).2.2 = E2 at *
            have HN := hide hn
            clear hn
            go_wp2_with fail
            refine cS.out.mono ?_
            rintro e w7 ⟨Kb, Gb, rfl, hkc, hbss, hb7⟩
            have HX7 := hide (HX6.out.below hb7 (Nat.le_refl _))
            have HB7 := hide (HB6.out.trans (hb7.mono HB6.out.size))
            have hcx7 := conv_bs HX7.out
            have HKC := hide hkc
            have HBS := hide hbss
            clear hb7 hcv6 cS hkc hbss HX6 HB6
            go_wp2_with fail
            refine (cR.out _).mono ?_
            rintro e w8 ⟨kv, bv, rfl, hrk, hrs, hb8⟩
            obtain ⟨ka, kc, rfl, hka⟩ := row_at hrk
            obtain ⟨ba, bc, rfl, hba⟩ := row_at hrs
            have HKA := hide hka
            have HBA := hide hba
            have HKC8 := hide (fun i (hi : i < n) => (hb8.cell (p := ⟨Kb, i, none⟩) (World.block_lt_of_cell? w7 _ (HKC.out i hi))).trans (HKC.out i hi))
            have HBS8 := hide (HBS.out.below hb8 (Nat.le_refl _))
            have HB8 := hide (HB7.out.trans (hb8.mono HB7.out.size))
            have HX8 := hide (HX7.out.below hb8 (Nat.le_refl _))
            clear hb8 hrk hrs hka hba hcx7 cR HKC HBS HX7 HB7
            go_wp2_with fail
            go_loopw [34] (fun q wq => ∃ i : Nat, q = .int .i64 i ∧ i ≤ n ∧ Hid (Below w8.heap.size w8 wq)) (fun q _ => n - (intOf q).toNat)
            case atStart => exact ⟨0, rfl, by omega, hide (Below.refl _ _)⟩
            case round =>
              obtain ⟨i, rfl, hi, hbq⟩ := hrel
              by_cases hlt2 : i < n
              · obtain ⟨g1, rfl, hk1⟩ := HKA.out (by omega)
                obtain ⟨g2, rfl, hs2⟩ := HBA.out (by omega)
                obtain ⟨b1, off1, hx1, hcell1⟩ := (HBS8.out.below hbq.out (Nat.le_refl _)).2.2 (by omega)
                cases hx1
                obtain ⟨a7, l7, c7, hc7, hl7, hbs7⟩ := hcell1 i hlt2
                rw [Nat.zero_add] at hc7
                rw [snd_get F n i HN.out hlt2] at hbs7
                have d1 := (hk1 i hlt2).trans (ik_get F n i HN.out hlt2)
                have d2 := (hs2 i hlt2).trans (sk_get F n i HN.out hlt2)
                have d3 := HKC8.out i hlt2
                have q1 := (hbq.out.cell (p := ⟨g1, i, none⟩) (World.block_lt_of_cell? w8 _ d1)).trans d1
                have q2 := (hbq.out.cell (p := ⟨g2, i, none⟩) (World.block_lt_of_cell? w8 _ d2)).trans d2
                have q3 := (hbq.out.cell (p := ⟨Kb, i, none⟩) (World.block_lt_of_cell? w8 _ d3)).trans d3
                have v7 := conv_bs (hbs7.below (Below.refl _ _).drew (Nat.le_refl _))
                have HB9 := hide hbq.out.drew
                clear hcell1 hbs7 hk1 hs2 d1 d2 d3 HKA HBA HKC8 HBS8
                generalize F.getD i (0, []) = fi at *
                generalize strOfNums fi.2 = SF at *
                generalize fi.1 = KF at *
                go_wp2_with fail
                go_region
                go_wp2
                go_roundw
                case rel => exact ⟨i + 1, by go_num, by omega, HB9⟩
                case measure => simp [intOf]; omega
              · have h9 : i = n := by omega
                have HBq := hide (HB8.out.trans (hbq.out.mono HB8.out.size))
                have HXq := hide (HX8.out.below hbq.out (Nat.le_refl _))
                clear HKA HBA HKC8 HBS8
                go_wp2
                go_roundw
                case rel => exact ⟨1, _, _, _, _, by go_num, rfl, by omega, by omega, HXq, HBq⟩
                case measure => simp [intOf]
          · have HY := hide (HCs.out _ hbel.out)
            clear HX hlx
            have hxr : ByteL cs := bs_range HY.out
            have hxl := HY.out.1
            have cT := hide (ftake_all (some ⟨w1.heap.size, 0, none⟩) LC cp2 cs p _ (by omega) HY.out)
            have cU := hide (fun W => unframe_all cs p W (by omega) hxr)
            have hTr := tk_range cs p hxr
            generalize TK cs p = tk at *
            obtain ⟨kk, T1, n1, e1⟩ := tk
            simp only at cT cU hTr
            go_wp2_with fail
            refine cT.out.mono ?_
            rintro e w5 ⟨v5, rfl, ho5, hb5⟩
            obtain ⟨a5, c5, rfl, hcv5⟩ := own_conv ho5 hTr T1.length rfl
            have HX5 := hide (HY.out.below hb5 (Nat.le_refl _))
            have HB5 := hide (hbel.out.trans (hb5.mono hbel.out.size))
            have hcx5 := conv_bs HX5.out
            generalize strOfNums T1 = ST at *
            clear ho5 hb5 cT hTr
            go_wp2_with fail
            refine (cU.out _).mono ?_
            rintro e w6 ⟨rfl, hb6⟩
            have hcv6 := hcv5.out w6 hb6
            have HX6 := hide (HX5.out.below hb6 (Nat.le_refl _))
            have HB6 := hide (HB5.out.trans (hb6.mono HB5.out.size))
            clear hb6 hcx5 cU hcv5 HX5 HB5
            obtain ⟨n, hn⟩ : ∃ n, (SP cs).1.length = n := ⟨_, rfl⟩
            have cS := hide (fsplit_any (some ⟨w1.heap.size, 0, none⟩) LC cp2 cs w6 (by omega) HX6.out n hn)
            have cR := hide (fun W => refsplit_any cs W (by omega) hxr n hn)
            have hn3 : n ≤ LC := by rw [← hn, ← hxl]; exact SP_len cs
            generalize (SP cs).1 = F at *
            generalize (SP cs).2.1 = E1 at *
            generalize (SP cs).2.2 = E2 at *
            have HN := hide hn
            clear hn
            go_wp2_with fail
            refine cS.out.mono ?_
            rintro e w7 ⟨Kb, Gb, rfl, hkc, hbss, hb7⟩
            have HX7 := hide (HX6.out.below hb7 (Nat.le_refl _))
            have HB7 := hide (HB6.out.trans (hb7.mono HB6.out.size))
            have hcx7 := conv_bs HX7.out
            have HKC := hide hkc
            have HBS := hide hbss
            clear hb7 hcv6 cS hkc hbss HX6 HB6
            go_wp2_with fail
            refine (cR.out _).mono ?_
            rintro e w8 ⟨kv, bv, rfl, hrk, hrs, hb8⟩
            obtain ⟨ka, kc, rfl, hka⟩ := row_at hrk
            obtain ⟨ba, bc, rfl, hba⟩ := row_at hrs
            have HKA := hide hka
            have HBA := hide hba
            have HKC8 := hide (fun i (hi : i < n) => (hb8.cell (p := ⟨Kb, i, none⟩) (World.block_lt_of_cell? w7 _ (HKC.out i hi))).trans (HKC.out i hi))
            have HBS8 := hide (HBS.out.below hb8 (Nat.le_refl _))
            have HB8 := hide (HB7.out.trans (hb8.mono HB7.out.size))
            have HX8 := hide (HX7.out.below hb8 (Nat.le_refl _))
            clear hb8 hrk hrs hka hba hcx7 cR HKC HBS HX7 HB7
            go_wp2_with fail
            go_loopw [34] (fun q wq => ∃ i : Nat, q = .int .i64 i ∧ i ≤ n ∧ Hid (Below w8.heap.size w8 wq)) (fun q _ => n - (intOf q).toNat)
            case atStart => exact ⟨0, rfl, by omega, hide (Below.refl _ _)⟩
            case round =>
              obtain ⟨i, rfl, hi, hbq⟩ := hrel
              by_cases hlt2 : i < n
              · obtain ⟨g1, rfl, hk1⟩ := HKA.out (by omega)
                obtain ⟨g2, rfl, hs2⟩ := HBA.out (by omega)
                obtain ⟨b1, off1, hx1, hcell1⟩ := (HBS8.out.below hbq.out (Nat.le_refl _)).2.2 (by omega)
                cases hx1
                obtain ⟨a7, l7, c7, hc7, hl7, hbs7⟩ := hcell1 i hlt2
                rw [Nat.zero_add] at hc7
                rw [snd_get F n i HN.out hlt2] at hbs7
                have d1 := (hk1 i hlt2).trans (ik_get F n i HN.out hlt2)
                have d2 := (hs2 i hlt2).trans (sk_get F n i HN.out hlt2)
                have d3 := HKC8.out i hlt2
                have q1 := (hbq.out.cell (p := ⟨g1, i, none⟩) (World.block_lt_of_cell? w8 _ d1)).trans d1
                have q2 := (hbq.out.cell (p := ⟨g2, i, none⟩) (World.block_lt_of_cell? w8 _ d2)).trans d2
                have q3 := (hbq.out.cell (p := ⟨Kb, i, none⟩) (World.block_lt_of_cell? w8 _ d3)).trans d3
                have v7 := conv_bs (hbs7.below (Below.refl _ _).drew (Nat.le_refl _))
                have HB9 := hide hbq.out.drew
                clear hcell1 hbs7 hk1 hs2 d1 d2 d3 HKA HBA HKC8 HBS8
                generalize F.getD i (0, []) = fi at *
                generalize strOfNums fi.2 = SF at *
                generalize fi.1 = KF at *
                go_wp2_with fail
                go_region
                go_wp2
                go_roundw
                case rel => exact ⟨i + 1, by go_num, by omega, HB9⟩
                case measure => simp [intOf]; omega
              · have h9 : i = n := by omega
                have HBq := hide (HB8.out.trans (hbq.out.mono HB8.out.size))
                have HXq := hide (HX8.out.below hbq.out (Nat.le_refl _))
                clear HKA HBA HKC8 HBS8
                go_wp2
                go_roundw
                case rel => exact ⟨2, _, _, _, _, by go_num, rfl, by omega, by omega, HXq, HBq⟩
                case measure => simp [intOf]
          · go_wp2_with fail
            refine (awakeC_any _).mono ?_
            rintro e w9 ⟨rfl, hb9⟩
            have HBr := hide (HB3.out.trans (hbel.out.mono HB3.out.size))
            have HB9 := hide (HBr.out.trans (hb9.mono HBr.out.size))
            clear hb9
            go_wp2
            go_ret
            exact ⟨rfl, HB9.out⟩
      · go_wp2_with fail
        have HCs := hide (fun W (hW : Below w2.heap.size w2 W) => (hbs2.out.takeAt (EM - X) (by omega)).below hW (Nat.le_refl _))
        have HB3 := HBw2
        obtain ⟨LC, hLC⟩ : ∃ LC, EM - X = LC := ⟨_, rfl⟩
        simp only [hLC] at HCs
        have hLC3 : LC ≤ 3000 := by omega
        rw [hLC]
        generalize w2 = w3 at *
        generalize (ds.take LC) = cs at *
        clear hLC hX
        go_loopw [0, 17] (fun bb q wr => ∃ (k : Nat) (ax : Option Addr) (lx cx : Nat) (xs : List Int), q = .int .i64 k ∧ bb = .slice ax lx cx ∧ k ≤ 2 ∧ lx ≤ 3000 ∧ Hid (Bs wr ax lx cx xs) ∧ Hid (Below w3.heap.size w3 wr)) (fun _ q _ => 2 - (intOf q).toNat)
        case atStart => exact ⟨0, a0, len0, cap0, zs, rfl, rfl, by omega, by omega, hide (H.out _ HB3.out), hide (Below.refl _ _)⟩
        case round =>
          obtain ⟨k, ax, lx, cx, xs, rfl, rfl, hk, hlx, HX, hbel⟩ := hrel
          have hk3 : k = 0 ∨ k = 1 ∨ k = 2 := by omega
          rcases hk3 with rfl | rfl | rfl
          · have hxr : ByteL xs := bs_range HX.out
            have hxl := HX.out.1
            have cT := hide (ftake_all ax lx cx xs p _ (by omega) HX.out)
            have cU := hide (fun W => unframe_all xs p W (by omega) hxr)
            have hTr := tk_range xs p hxr
            generalize TK xs p = tk at *
            obtain ⟨kk, T1, n1, e1⟩ := tk
            simp only at cT cU hTr
            go_wp2_with fail
            refine cT.out.mono ?_
            rintro e w5 ⟨v5, rfl, ho5, hb5⟩
            obtain ⟨a5, c5, rfl, hcv5⟩ := own_conv ho5 hTr T1.length rfl
            have HX5 := hide (HX.out.below hb5 (Nat.le_refl _))
            have HB5 := hide (hbel.out.trans (hb5.mono hbel.out.size))
            have hcx5 := conv_bs HX5.out
            generalize strOfNums T1 = ST at *
            clear ho5 hb5 cT hTr
            go_wp2_with fail
            refine (cU.out _).mono ?_
            rintro e w6 ⟨rfl, hb6⟩
            have hcv6 := hcv5.out w6 hb6
            have HX6 := hide (HX5.out.below hb6 (Nat.le_refl _))
            have HB6 := hide (HB5.out.trans (hb6.mono HB5.out.size))
            clear hb6 hcx5 cU hcv5 HX5 HB5
            obtain ⟨n, hn⟩ : ∃ n, (SP xs).1.length = n := ⟨_, rfl⟩
            have cS := hide (fsplit_any ax lx cx xs w6 (by omega) HX6.out n hn)
            have cR := hide (fun W => refsplit_any xs W (by omega) hxr n hn)
            have hn3 : n ≤ lx := by rw [← hn, ← hxl]; exact SP_len xs
            generalize (SP xs).1 = F at *
            generalize (SP xs).2.1 = E1 at *
            generalize (SP xs).2.2 = E2 at *
            have HN := hide hn
            clear hn
            go_wp2_with fail
            refine cS.out.mono ?_
            rintro e w7 ⟨Kb, Gb, rfl, hkc, hbss, hb7⟩
            have HX7 := hide (HX6.out.below hb7 (Nat.le_refl _))
            have HB7 := hide (HB6.out.trans (hb7.mono HB6.out.size))
            have hcx7 := conv_bs HX7.out
            have HKC := hide hkc
            have HBS := hide hbss
            clear hb7 hcv6 cS hkc hbss HX6 HB6
            go_wp2_with fail
            refine (cR.out _).mono ?_
            rintro e w8 ⟨kv, bv, rfl, hrk, hrs, hb8⟩
            obtain ⟨ka, kc, rfl, hka⟩ := row_at hrk
            obtain ⟨ba, bc, rfl, hba⟩ := row_at hrs
            have HKA := hide hka
            have HBA := hide hba
            have HKC8 := hide (fun i (hi : i < n) => (hb8.cell (p := ⟨Kb, i, none⟩) (World.block_lt_of_cell? w7 _ (HKC.out i hi))).trans (HKC.out i hi))
            have HBS8 := hide (HBS.out.below hb8 (Nat.le_refl _))
            have HB8 := hide (HB7.out.trans (hb8.mono HB7.out.size))
            have HX8 := hide (HX7.out.below hb8 (Nat.le_refl _))
            clear hb8 hrk hrs hka hba hcx7 cR HKC HBS HX7 HB7
            go_wp2_with fail
            go_loopw [34] (fun q wq => ∃ i : Nat, q = .int .i64 i ∧ i ≤ n ∧ Hid (Below w8.heap.size w8 wq)) (fun q _ => n - (intOf q).toNat)
            case atStart => exact ⟨0, rfl, by omega, hide (Below.refl _ _)⟩
            case round =>
              obtain ⟨i, rfl, hi, hbq⟩ := hrel
              by_cases hlt2 : i < n
              · obtain ⟨g1, rfl, hk1⟩ := HKA.out (by omega)
                obtain ⟨g2, rfl, hs2⟩ := HBA.out (by omega)
                obtain ⟨b1, off1, hx1, hcell1⟩ := (HBS8.out.below hbq.out (Nat.le_refl _)).2.2 (by omega)
                cases hx1
                obtain ⟨a7, l7, c7, hc7, hl7, hbs7⟩ := hcell1 i hlt2
                rw [Nat.zero_add] at hc7
                rw [snd_get F n i HN.out hlt2] at hbs7
                have d1 := (hk1 i hlt2).trans (ik_get F n i HN.out hlt2)
                have d2 := (hs2 i hlt2).trans (sk_get F n i HN.out hlt2)
                have d3 := HKC8.out i hlt2
                have q1 := (hbq.out.cell (p := ⟨g1, i, none⟩) (World.block_lt_of_cell? w8 _ d1)).trans d1
                have q2 := (hbq.out.cell (p := ⟨g2, i, none⟩) (World.block_lt_of_cell? w8 _ d2)).trans d2
                have q3 := (hbq.out.cell (p := ⟨Kb, i, none⟩) (World.block_lt_of_cell? w8 _ d3)).trans d3
                have v7 := conv_bs (hbs7.below (Below.refl _ _).drew (Nat.le_refl _))
                have HB9 := hide hbq.out.drew
                clear hcell1 hbs7 hk1 hs2 d1 d2 d3 HKA HBA HKC8 HBS8
                generalize F.getD i (0, []) = fi at *
                generalize strOfNums fi.2 = SF at *
                generalize fi.1 = KF at *
                go_wp2_with fail
                go_region
                go_wp2
                go_roundw
                case rel => exact ⟨i + 1, by go_num, by omega, HB9⟩
                case measure => simp [intOf]; omega
              · have h9 : i = n := by omega
                have HBq := hide (HB8.out.trans (hbq.out.mono HB8.out.size))
                have HXq := hide (HX8.out.below hbq.out (Nat.le_refl _))
                clear HKA HBA HKC8 HBS8
                go_wp2
                go_roundw
                case rel => exact ⟨1, _, _, _, _, by go_num, rfl, by omega, by omega, HXq, HBq⟩
                case measure => simp [intOf]
          · have HY := hide (HCs.out _ hbel.out)
            clear HX hlx
            have hxr : ByteL cs := bs_range HY.out
            have hxl := HY.out.1
            have cT := hide (ftake_all (some ⟨w1.heap.size, 0, none⟩) LC cp2 cs p _ (by omega) HY.out)
            have cU := hide (fun W => unframe_all cs p W (by omega) hxr)
            have hTr := tk_range cs p hxr
            generalize TK cs p = tk at *
            obtain ⟨kk, T1, n1, e1⟩ := tk
            simp only at cT cU hTr
            go_wp2_with fail
            refine cT.out.mono ?_
            rintro e w5 ⟨v5, rfl, ho5, hb5⟩
            obtain ⟨a5, c5, rfl, hcv5⟩ := own_conv ho5 hTr T1.length rfl
            have HX5 := hide (HY.out.below hb5 (Nat.le_refl _))
            have HB5 := hide (hbel.out.trans (hb5.mono hbel.out.size))
            have hcx5 := conv_bs HX5.out
            generalize strOfNums T1 = ST at *
            clear ho5 hb5 cT hTr
            go_wp2_with fail
            refine (cU.out _).mono ?_
            rintro e w6 ⟨rfl, hb6⟩
            have hcv6 := hcv5.out w6 hb6
            have HX6 := hide (HX5.out.below hb6 (Nat.le_refl _))
            have HB6 := hide (HB5.out.trans (hb6.mono HB5.out.size))
            clear hb6 hcx5 cU hcv5 HX5 HB5
            obtain ⟨n, hn⟩ : ∃ n, (SP cs).1.length = n := ⟨_, rfl⟩
            have cS := hide (fsplit_any (some ⟨w1.heap.size, 0, none⟩) LC cp2 cs w6 (by omega) HX6.out n hn)
            have cR := hide (fun W => refsplit_any cs W (by omega) hxr n hn)
            have hn3 : n ≤ LC := by rw [← hn, ← hxl]; exact SP_len cs
            generalize (SP cs).1 = F at *
            generalize (SP cs).2.1 = E1 at *
            generalize (SP cs).2.2 = E2 at *
            have HN := hide hn
            clear hn
            go_wp2_with fail
            refine cS.out.mono ?_
            rintro e w7 ⟨Kb, Gb, rfl, hkc, hbss, hb7⟩
            have HX7 := hide (HX6.out.below hb7 (Nat.le_refl _))
            have HB7 := hide (HB6.out.trans (hb7.mono HB6.out.size))
            have hcx7 := conv_bs HX7.out
            have HKC := hide hkc
            have HBS := hide hbss
            clear hb7 hcv6 cS hkc hbss HX6 HB6
            go_wp2_with fail
            refine (cR.out _).mono ?_
            rintro e w8 ⟨kv, bv, rfl, hrk, hrs, hb8⟩
            obtain ⟨ka, kc, rfl, hka⟩ := row_at hrk
            obtain ⟨ba, bc, rfl, hba⟩ := row_at hrs
            have HKA := hide hka
            have HBA := hide hba
            have HKC8 := hide (fun i (hi : i < n) => (hb8.cell (p := ⟨Kb, i, none⟩) (World.block_lt_of_cell? w7 _ (HKC.out i hi))).trans (HKC.out i hi))
            have HBS8 := hide (HBS.out.below hb8 (Nat.le_refl _))
            have HB8 := hide (HB7.out.trans (hb8.mono HB7.out.size))
            have HX8 := hide (HX7.out.below hb8 (Nat.le_refl _))
            clear hb8 hrk hrs hka hba hcx7 cR HKC HBS HX7 HB7
            go_wp2_with fail
            go_loopw [34] (fun q wq => ∃ i : Nat, q = .int .i64 i ∧ i ≤ n ∧ Hid (Below w8.heap.size w8 wq)) (fun q _ => n - (intOf q).toNat)
            case atStart => exact ⟨0, rfl, by omega, hide (Below.refl _ _)⟩
            case round =>
              obtain ⟨i, rfl, hi, hbq⟩ := hrel
              by_cases hlt2 : i < n
              · obtain ⟨g1, rfl, hk1⟩ := HKA.out (by omega)
                obtain ⟨g2, rfl, hs2⟩ := HBA.out (by omega)
                obtain ⟨b1, off1, hx1, hcell1⟩ := (HBS8.out.below hbq.out (Nat.le_refl _)).2.2 (by omega)
                cases hx1
                obtain ⟨a7, l7, c7, hc7, hl7, hbs7⟩ := hcell1 i hlt2
                rw [Nat.zero_add] at hc7
                rw [snd_get F n i HN.out hlt2] at hbs7
                have d1 := (hk1 i hlt2).trans (ik_get F n i HN.out hlt2)
                have d2 := (hs2 i hlt2).trans (sk_get F n i HN.out hlt2)
                have d3 := HKC8.out i hlt2
                have q1 := (hbq.out.cell (p := ⟨g1, i, none⟩) (World.block_lt_of_cell? w8 _ d1)).trans d1
                have q2 := (hbq.out.cell (p := ⟨g2, i, none⟩) (World.block_lt_of_cell? w8 _ d2)).trans d2
                have q3 := (hbq.out.cell (p := ⟨Kb, i, none⟩) (World.block_lt_of_cell? w8 _ d3)).trans d3
                have v7 := conv_bs (hbs7.below (Below.refl _ _).drew (Nat.le_refl _))
                have HB9 := hide hbq.out.drew
                clear hcell1 hbs7 hk1 hs2 d1 d2 d3 HKA HBA HKC8 HBS8
                generalize F.getD i (0, []) = fi at *
                generalize strOfNums fi.2 = SF at *
                generalize fi.1 = KF at *
                go_wp2_with fail
                go_region
                go_wp2
                go_roundw
                case rel => exact ⟨i + 1, by go_num, by omega, HB9⟩
                case measure => simp [intOf]; omega
              · have h9 : i = n := by omega
                have HBq := hide (HB8.out.trans (hbq.out.mono HB8.out.size))
                have HXq := hide (HX8.out.below hbq.out (Nat.le_refl _))
                clear HKA HBA HKC8 HBS8
                go_wp2
                go_roundw
                case rel => exact ⟨2, _, _, _, _, by go_num, rfl, by omega, by omega, HXq, HBq⟩
                case measure => simp [intOf]
          · go_wp2_with fail
            refine (awakeC_any _).mono ?_
            rintro e w9 ⟨rfl, hb9⟩
            have HBr := hide (HB3.out.trans (hbel.out.mono HB3.out.size))
            have HB9 := hide (HBr.out.trans (hb9.mono HBr.out.size))
            clear hb9
            go_wp2
            go_ret
            exact ⟨rfl, HB9.out⟩
    · have HB1 := hide hb1
      clear hb1 cM hno
      go_wp2_with fail
      refine (awakeC_any _).mono ?_
      rintro e w2 ⟨rfl, hb2⟩
      have HB2 := hide (HB1.out.trans (hb2.mono HB1.out.size))
      clear hb2
      go_wp2
      go_ret
      exact ⟨rfl, HB2.out⟩

end Go.Proofs.Ytfcakghegdaeoab.Clep
