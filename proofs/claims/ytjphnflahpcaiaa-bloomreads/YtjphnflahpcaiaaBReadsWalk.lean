/- BloomReads, the walk over the translated program: for any bytes, rows and numbers. No conditions. Written by wip/tools/gen10reads.py. -/
import Derived.Test.YtjphnflahpcaiaaBOne
import Derived.Test.YtjphnflahpcaiaaBRefB
import Derived.Test.YtjphnflahpcaiaaBRefRead
import Derived.Test.YtjphnflahpcaiaaBCutApp
import Derived.Test.YtjphnflahpcaiaaBRows
import Derived.Test.YtjphnflahpcaiaaMask
import Derived.Test.YtjphnflahpcaiaaCut
import Derived.Deep.RegionHeldLaw
namespace Go.Proofs.Ytjphnflahpcaiaa.Clep
open Go.RowKit
set_option linter.unusedVariables false

theorem bs_k (w : World) : Bs (w.alloc (.cells #[.int .u8 107] 5 (1, 2))) (some ⟨w.heap.size, 0, none⟩) 1 1 [107] := by
  refine ⟨rfl, ⟨Nat.le_refl _, fun h => by cases h⟩, range_of (by decide), fun _ => ⟨w.heap.size, 0, rfl, fun i hi => ?_⟩⟩
  have hh := hpS w (.cells #[.int .u8 107] 5 (1, 2)) w.heap.size rfl
  match i, hi with
  | 0, _ => exact (show (w.alloc (.cells #[.int .u8 107] 5 (1, 2))).cell? ⟨w.heap.size, 0, none⟩ = some (.int .u8 107) by unfold World.cell?; rw [hh]; rfl)
theorem sz_k : Sz ⟨#[107]⟩ [107] := ⟨rfl, fun k h => by
  have h1 : k < 1 := h
  match k, h1 with
  | 0, _ => rfl⟩
theorem fb_len22 (N : Nat) : (fb 5 20 N).length = 22 := by rw [fb_len]; rfl

set_option maxRecDepth 100000 in
set_option maxHeartbeats 12800000 in
theorem reads_go (a0 : Option Addr) (len0 cap0 : Nat) (bs0 : List Int) (a1 : Option Addr) (len1 cap1 : Nat) (zss : List (List Int)) (t2 t3 t4 : Int) (a5 : Option Addr) (len5 cap5 : Nat) (ts : List Int) (w : World)
    (h0 : Bs w a0 len0 cap0 bs0) (hm1 : len1 ≤ 9223372036854775807) (h1 : Bss w a1 len1 cap1 zss) (h5 : Bs w a5 len5 cap5 ts) (hl0 : len0 ≤ 3000) (hl5 : len5 ≤ 50) :
    Calls Try.prog 6 #[.slice a0 len0 cap0, .slice a1 len1 cap1, .int .i64 t2, .int .u8 t3, .int .i64 t4, .slice a5 len5 cap5] w fun e w' => e = .returned (.bool true) ∧ Below w.heap.size w w' := by
  obtain ⟨bb, off, ha, HK⟩ := bss_at h1
  obtain ⟨q1, q2⟩ := and_mask t2 65535 (by decide)
  obtain ⟨X, hX⟩ := Int.eq_ofNat_of_zero_le q1
  obtain ⟨q3, q4⟩ := and_mask t4 255 (by decide)
  obtain ⟨Y, hY⟩ := Int.eq_ofNat_of_zero_le q3
  have hX' : bits BinOp.and IntKind.i64 t2 65535 = (X : Int) := hX
  have hY' : bits BinOp.and IntKind.i64 t4 255 = (Y : Int) := hY
  have hXb : X ≤ 65535 := by rw [hX] at q2; omega
  have hYb : Y ≤ 255 := by rw [hY] at q4; omega
  have C1 := hide (refnew_ok 20 8 w (by decide) (by decide))
  rw [show kOf 8 = 5 from rfl, show sOf 20 8 = 20 from rfl] at C1
  have H0 := hide h0
  have H5 := hide h5
  clear h0 h1 h5 q1 q2 q3 q4 hX hY
  go_enter Try.func6, Try.ntmps6
  go_wp2_with fail
  refine C1.out.mono ?_
  rintro e w1 ⟨R, rfl, D, g1, g2, g3, g4⟩
  have W1 := hide g1
  have B1 := hide g2
  have HR := hide g4
  clear g1 g2 g3 g4 C1
  go_wp2
  go_loopw [14] (fun u wr => ∃ i N : Nat, u = .int .i64 i ∧ i ≤ 20 ∧ i ≤ len1 ∧ Hid (Rw wr R D 5 20 N) ∧ Hid (Below w.heap.size w wr)) (fun u _ => len1 - (intOf u).toNat)
  case atStart => exact ⟨0, 0, rfl, by omega, by omega, W1, B1⟩
  case round =>
    obtain ⟨i, N, rfl, hi, hil, hRw, hB⟩ := hrel
    by_cases hlt : i < len1 ∧ i < 20
    · obtain ⟨hlt, h20⟩ := hlt
      obtain ⟨a', l, c, hcell, hl, hz⟩ := HK.out i hlt
      obtain rfl := ha (by omega)
      have q1 := (hcell wr hB.out).1
      have hcv := conv_bs (hcell wr hB.out).2
      have CA := hide (refadd_any wr R D 5 20 N hRw.out (by decide) (by decide) (strOfNums (zss.getD i [])) (zss.getD i []) (by rw [str_size, hz.1]; exact hl) (sz_of _ (range_of (bs_range hz))) (bs_range hz))
      clear hcell hz
      generalize zss.getD i [] = z at *
      generalize strOfNums z = Sz at *
      go_wp2_with fail
      refine CA.out.mono ?_
      rintro e w2 ⟨rfl, g1, g2⟩
      have W2 := hide g1
      have B2 := hide (hB.out.trans (g2.below hB.out.size fun j e => by rw [e]; exact HR.out))
      clear g1 g2 CA hcv q1
      go_wp2
      go_round
      case rel => exact ⟨i + 1, _, by go_num, by omega, by omega, W2, B2⟩
      case measure => simp [intOf]; omega
    · have hcase : (i < len1 ∧ ¬ i < 20) ∨ ¬ i < len1 := by omega
      clear hlt
      rcases hcase with ⟨hq, h20⟩ | hq
      all_goals
        have CB := hide (refbytes_any wr R 20 5 20 N (some ⟨D, 0, none⟩) hRw.out.rf (by decide) (by decide))
        go_wp2_with fail
        refine CB.out.mono ?_
        rintro e w2 ⟨rfl, hb⟩
        have B2 := hide (bmore hB.out hb)
        clear hb CB hRw
        obtain ⟨cap, w3, hcv, hcap, hb3, hrm⟩ := rm_str w2 (fb 5 20 N) (fb_range 5 20 N (by decide) (by decide)) (by rw [fb_len22]; decide)
        have hlen := fb_len22 N
        generalize strOfNums (fb 5 20 N) = S0 at *
        generalize fb 5 20 N = cs at *
        rw [hlen] at hcv hcap
        obtain ⟨g, hg⟩ : ∃ g, w2.heap.size = g := ⟨_, rfl⟩
        rw [hg] at hcv hrm
        have HGW : Hid (w.heap.size ≤ g) := hide (by rw [← hg]; exact B2.out.size)
        have B3 := hide (bmore B2.out hb3.out)
        have hp : X % 22 < 22 := Nat.mod_lt _ (by decide)
        have cP := hrm.out.cell (X % 22) (by rw [hlen]; exact hp)
        have fP := hrm.out.free (X % 22) (by omega)
        have hxr := xor_range (cs.getD (X % 22) 0) t3
        have RM4 := hide (hrm.out.set (X % 22) (by rw [hlen]; exact hp) _ hxr)
        have B4 := hide (B3.out.trans ((Ch.set (P := fun b => b = g) w3 ⟨g, X % 22, none⟩ (.int .u8 (bits BinOp.xor IntKind.u8 (cs.getD (X % 22) 0) t3)) rfl).below B3.out.size fun j e => by rw [e]; exact HGW.out))
        have hl4 : Hid ((cs.set (X % 22) (bits BinOp.xor IntKind.u8 (cs.getD (X % 22) 0) t3)).length = 22) := hide (by rw [List.length_set]; exact hlen)
        generalize cs.set (X % 22) (bits BinOp.xor IntKind.u8 (cs.getD (X % 22) 0) t3) = ds at *
        have hsl : ∀ W : World, (Instr.sliceAt 27 (.slice (some ⟨g, 0, none⟩) 22 cap) none (some (.int .i64 (22 - (Y : Int) % 23))) none).run Try.prog W = .ok (.slice (some ⟨g, 0, none⟩) (22 - Y % 23) cap) W := fun W => by
          have := cut_h W (some ⟨g, 0, none⟩) 22 cap .i64 (22 - (Y : Int) % 23) (by omega) (by omega)
          rw [this]
          have e1 : (22 - (Y : Int) % 23).toNat = 22 - Y % 23 := by omega
          have e2 : cut (some ⟨g, 0, none⟩) cap 0 = some ⟨g, 0, none⟩ := by unfold cut; split <;> simp [add_plain]
          rw [e1, e2]
        generalize cs.getD (X % 22) 0 = z0 at *
        clear hb3 hrm hg hxr hlen
        go_wp2_with (first
          | (at_builtin; refine wpList_app_cut rfl _ _ rfl w.heap.size g (22 - Y % 23) cap ds rfl RM4.out ?c1 HGW.out ?c2 a5 len5 cap5 ts rfl ?c3 ?c4 ?_)
          | fail)
        case c1 => rw [hl4.out]; omega
        case c2 => exact B4.out.size
        case c3 => exact H5.out.below B4.out (Nat.le_refl _)
        case c4 => omega
        intro ac cc w5 g1 g2
        have S5 := hide g1
        have B5 := hide (B4.out.trans g2)
        have A5 := hide (H0.out.below (B4.out.trans g2) (Nat.le_refl _))
        have hlc : 22 - Y % 23 + len5 ≤ 9223372036854775807 := by omega
        have hl0' : len0 ≤ 9223372036854775807 := by omega
        generalize ds.take (22 - Y % 23) ++ ts = es at *
        generalize 22 - Y % 23 + len5 = lc at *
        clear g1 g2 B4 B3 B2 hsl RM4 hcv cP fP hl4 H0 H5 HK ha hB W1 B1
        go_wp2
        go_loopw [0, 16] (fun b u wr => ∃ (i : Nat) (ab : Option Addr) (lb cb : Nat) (zs : List Int), u = .int .i64 i ∧ i ≤ 2 ∧ b = .slice ab lb cb ∧ lb ≤ 9223372036854775807 ∧ Hid (Bs wr ab lb cb zs) ∧ Hid (Below w5.heap.size w5 wr)) (fun _ u _ => 2 - (intOf u).toNat)
        case atStart => exact ⟨0, a0, len0, cap0, bs0, rfl, by omega, rfl, hl0', A5, hide (Below.refl _ _)⟩
        case round =>
          obtain ⟨i, ab, lb, cb, zs, rfl, hi, rfl, hlb, hSb, hBr⟩ := hrel
          by_cases h2 : i < 2
          · by_cases h1 : i = 1
            · subst h1
              have SC := hide (S5.out.below hBr.out (Nat.le_refl _))
              have hbs := SC.out
              have hrg := bs_range hbs
              rcases fr_cases es hrg with ⟨x, hx⟩ | ⟨k, sz, N', hx⟩
              · have C1 := hide (read_bad wr ac lc cc es hlc hbs x hx)
                have HS := hide hbs
                clear hbs
                go_wp2_with fail
                refine C1.out.mono ?_
                rintro e w7 ⟨rfl, hb⟩
                have hcv := conv_bs (HS.out.below hb (Nat.le_refl _))
                have C2 := hide (refread_bad w7 (strOfNums es) es (by rw [str_size, HS.out.1]; exact hlc) (sz_of es (range_of hrg)) hrg x hx)
                have B7 := hide (bmore hBr.out hb)
                have S7 := hide (HS.out.below hb (Nat.le_refl _))
                clear hb C1 HS hrg hx
                generalize strOfNums es = S at *
                go_wp2_with fail
                refine C2.out.mono ?_
                rintro e w8 ⟨rfl, rfl⟩
                clear C2 hcv
                go_wp2
                go_round
                case rel => exact ⟨2, _, _, _, _, by first | rfl | go_num, by omega, rfl, hlc, S7, B7⟩
                case measure => first | (simp [intOf]; done) | (simp [intOf]; omega)
              · have C1 := hide (read_ok wr ac lc cc es hlc hbs k sz N' hx)
                have hk := hx.kb
                have hs := hx.sb
                have HN := hide (hx.nb hrg)
                have HS := hide hbs
                clear hbs
                go_wp2_with fail
                refine C1.out.mono ?_
                rintro e w7 ⟨M, rfl, D', g1, hb, -, -⟩
                have F7 := hide g1
                have hcv := conv_bs (HS.out.below hb (Nat.le_refl _))
                have C2 := hide (refread_ok w7 (strOfNums es) es (by rw [str_size, HS.out.1]; exact hlc) (sz_of es (range_of hrg)) hrg k sz N' hx)
                have B7 := hide (bmore hBr.out hb)
                have S7 := hide (HS.out.below hb (Nat.le_refl _))
                clear g1 hb C1 HS hrg hx
                generalize strOfNums es = S at *
                go_wp2_with fail
                refine C2.out.mono ?_
                rintro e w8 ⟨R', rfl, ar, cr, g1, hb⟩
                have G8 := hide g1
                have F8 := hide (F7.out.keep hb)
                have B8 := hide (bmore B7.out hb)
                have S8 := hide (S7.out.below hb (Nat.le_refl _))
                clear g1 hb C2 hcv B7 S7 F7
                obtain ⟨L, hL⟩ : ∃ L, (fb k sz N').length = L := ⟨_, rfl⟩
                obtain ⟨SB, hSB⟩ : ∃ S, strOfNums (fb k sz N') = S := ⟨_, rfl⟩
                obtain ⟨ho, hho⟩ : ∃ h, hask (fnv [107]) sz k N' = h := ⟨_, rfl⟩
                obtain ⟨r, hr⟩ : ∃ r, pc (8 * sz) N' = r := ⟨_, rfl⟩
                have cB : Hid (∀ W, Below w8.heap.size w8 W → Calls Try.prog 11 #[.pointer (some ⟨M, 0, none⟩)] W fun e w' => ∃ a c, e = .returned (.slice a L c) ∧
                    (∀ W', Below w'.heap.size w' W' → (convert 27 9 (.slice a L c)).run Try.prog W' = .ok (.string SB) W') ∧ Below w8.heap.size w8 w' ∧ Below w'.heap.size w' w') := hide fun W hW => by
                  refine (bytes_l W M D' k sz N' (F8.out.keep hW) hk hs).mono fun e w' ⟨v, he, ho, hb⟩ => ?_
                  obtain ⟨a, c, rfl, hcv⟩ := own_conv ho (fb_range k sz N' hk.2 hs.2) L hL
                  exact ⟨a, c, he, by rw [← hSB]; exact hcv.out, bmore hW hb, Below.refl _ _⟩
                have cH : Hid (∀ W, Below w8.heap.size w8 W → Calls Try.prog 15 #[.pointer (some ⟨M, 0, none⟩), .slice (some ⟨W.heap.size, 0, none⟩) 1 1] (W.alloc (.cells #[.int .u8 107] 5 (1, 2))) fun e w' => e = .returned (.bool ho) ∧ Below w8.heap.size w8 w') := hide fun W hW => by
                  have hA := (Below.refl _ W).alloc (Nat.le_refl _) (.cells #[.int .u8 107] 5 (1, 2))
                  exact (has_l _ M D' k sz N' ((F8.out.keep hW).keep hA) hk hs _ 1 1 [107] (by omega) (bs_k W)).mono fun e w' q => ⟨by rw [← hho]; exact q.1, bmore (bmore hW hA) q.2⟩
                have cO : Hid (∀ W, Below w8.heap.size w8 W → Calls Try.prog 12 #[.pointer (some ⟨M, 0, none⟩)] W fun e w' => e = .returned (.int .i64 (r : Nat)) ∧ Below w8.heap.size w8 w') := hide fun W hW =>
                  (ones_l W M D' k sz N' (F8.out.keep hW) hs HN.out).mono fun e w' q => ⟨by rw [← hr]; exact q.1, bmore hW q.2⟩
                have cRB : Hid (∀ W, Below w8.heap.size w8 W → Calls Try.prog 14 #[.pointer (some ⟨R', 0, none⟩)] W fun e w' => e = .returned (.string SB) ∧ Below w8.heap.size w8 w' ∧ Below W.heap.size W w') := hide fun W hW =>
                  (refbytes_any W R' cr k sz N' ar (G8.out.keep hW) hk hs).mono fun e w' q => ⟨by rw [← hSB]; exact q.1, bmore hW q.2, q.2⟩
                have cRH : Hid (∀ W, Below w8.heap.size w8 W → Calls Try.prog 18 #[.pointer (some ⟨R', 0, none⟩), .string ⟨#[107]⟩] W fun e w' => e = .returned (.bool ho) ∧ Below w8.heap.size w8 w') := hide fun W hW =>
                  (refhas_any W R' cr k sz N' ar (G8.out.keep hW) hk hs ⟨#[107]⟩ [107] (by decide) sz_k (by decide)).mono fun e w' q => ⟨by rw [← hho]; exact q.1, by rw [q.2]; exact hW⟩
                have cRO : Hid (∀ W, Below w8.heap.size w8 W → Calls Try.prog 19 #[.slice ar sz cr] W fun e w' => e = .returned (.int .i64 (r : Nat)) ∧ Below w8.heap.size w8 w') := hide fun W hW =>
                  (lawones_any W ar cr sz N' (G8.out.keep hW).bits hs.2).mono fun e w' q => ⟨by rw [← hr]; exact q.1, by rw [q.2]; exact hW⟩
                have HC : Hid (∀ W, Below w8.heap.size w8 W → Below w8.heap.size w8 W ∧ W.cell? ⟨R', 1, none⟩ = some (.slice ar sz cr)) := hide fun W hW => ⟨hW, (G8.out.keep hW).head.cell rfl⟩
                have HA1 : Hid (∀ W o, Below w8.heap.size w8 W → Below w8.heap.size w8 (W.alloc o)) := hide fun W o hW => hW.alloc hW.size o
                have kcv : ∀ W : World, (convert 27 27 (.slice (some ⟨W.heap.size, 0, none⟩) 1 1)).run Try.prog (W.alloc (.cells #[.int .u8 107] 5)) = .ok (.slice (some ⟨W.heap.size, 0, none⟩) 1 1) (W.alloc (.cells #[.int .u8 107] 5 (1, 2))) := fun W => Go.Lib.run_convert_bytes_const (P := Try.prog) W 27 5 #[.int .u8 107] 1 1 Try.underlying27 Try.underlying5
                have hb0 : Below w8.heap.size w8 w8 := Below.refl _ _
                clear hL hSB hho hr G8 F8 HN
                go_wp2_with fail
                go_region_held_law (fun W => Below w8.heap.size w8 W ∧ W.cell? ⟨R', 1, none⟩ = some (.slice ar sz cr))
                  (first | exact HC.out _ (by assumption) | exact HC.out _ (Below.drew (by assumption)) | exact HC.out _ (HA1.out _ _ (by assumption)) | exact HC.out _ (HA1.out _ _ (And.left (by assumption))))
                  (first
                  | (go_at_call 11; refine (cB.out _ (And.left (by assumption))).mono ?_; rintro e w' ⟨a, c, rfl, hcv, hb, hbr⟩)
                  | (go_at_call 15; refine (cH.out _ (by first | exact And.left (by assumption) | assumption)).mono ?_; rintro e w' ⟨rfl, hb⟩)
                  | (go_at_call 12; refine (cO.out _ (And.left (by assumption))).mono ?_; rintro e w' ⟨rfl, hb⟩)
                  | (go_at_call 14; refine (cRB.out _ (And.left (by assumption))).mono ?_; rintro e w' ⟨rfl, hb, hbs⟩)
                  | (go_at_call 18; refine (cRH.out _ (And.left (by assumption))).mono ?_; rintro e w' ⟨rfl, hb⟩)
                  | (go_at_call 19; refine (cRO.out _ (And.left (by assumption))).mono ?_; rintro e w' ⟨rfl, hb⟩))
                all_goals
                  have HB := hide (bmore B8.out hb)
                  have S9 := hide (S8.out.below hb (Nat.le_refl _))
                  clear hb cB cH cO cRB cRH cRO HC HA1 kcv hb0 B8 S8
                  go_wp2
                  go_round
                  case rel => exact ⟨2, _, _, _, _, by first | rfl | go_num, by omega, rfl, hlc, S9, HB⟩
                  case measure => first | (simp [intOf]; done) | (simp [intOf]; omega)
            · have h0 : i = 0 := by omega
              subst h0
              have hbs := hSb.out
              have hrg := bs_range hbs
              rcases fr_cases zs hrg with ⟨x, hx⟩ | ⟨k, sz, N', hx⟩
              · have C1 := hide (read_bad wr ab lb cb zs hlb hbs x hx)
                have HS := hide hbs
                clear hbs
                go_wp2_with fail
                refine C1.out.mono ?_
                rintro e w7 ⟨rfl, hb⟩
                have hcv := conv_bs (HS.out.below hb (Nat.le_refl _))
                have C2 := hide (refread_bad w7 (strOfNums zs) zs (by rw [str_size, HS.out.1]; exact hlb) (sz_of zs (range_of hrg)) hrg x hx)
                have B7 := hide (bmore hBr.out hb)
                have S7 := hide (HS.out.below hb (Nat.le_refl _))
                clear hb C1 HS hrg hx
                generalize strOfNums zs = S at *
                go_wp2_with fail
                refine C2.out.mono ?_
                rintro e w8 ⟨rfl, rfl⟩
                clear C2 hcv
                go_wp2
                go_round
                case rel => exact ⟨1, _, _, _, _, by first | rfl | go_num, by omega, rfl, hlb, S7, B7⟩
                case measure => first | (simp [intOf]; done) | (simp [intOf]; omega)
              · have C1 := hide (read_ok wr ab lb cb zs hlb hbs k sz N' hx)
                have hk := hx.kb
                have hs := hx.sb
                have HN := hide (hx.nb hrg)
                have HS := hide hbs
                clear hbs
                go_wp2_with fail
                refine C1.out.mono ?_
                rintro e w7 ⟨M, rfl, D', g1, hb, -, -⟩
                have F7 := hide g1
                have hcv := conv_bs (HS.out.below hb (Nat.le_refl _))
                have C2 := hide (refread_ok w7 (strOfNums zs) zs (by rw [str_size, HS.out.1]; exact hlb) (sz_of zs (range_of hrg)) hrg k sz N' hx)
                have B7 := hide (bmore hBr.out hb)
                have S7 := hide (HS.out.below hb (Nat.le_refl _))
                clear g1 hb C1 HS hrg hx
                generalize strOfNums zs = S at *
                go_wp2_with fail
                refine C2.out.mono ?_
                rintro e w8 ⟨R', rfl, ar, cr, g1, hb⟩
                have G8 := hide g1
                have F8 := hide (F7.out.keep hb)
                have B8 := hide (bmore B7.out hb)
                have S8 := hide (S7.out.below hb (Nat.le_refl _))
                clear g1 hb C2 hcv B7 S7 F7
                obtain ⟨L, hL⟩ : ∃ L, (fb k sz N').length = L := ⟨_, rfl⟩
                obtain ⟨SB, hSB⟩ : ∃ S, strOfNums (fb k sz N') = S := ⟨_, rfl⟩
                obtain ⟨ho, hho⟩ : ∃ h, hask (fnv [107]) sz k N' = h := ⟨_, rfl⟩
                obtain ⟨r, hr⟩ : ∃ r, pc (8 * sz) N' = r := ⟨_, rfl⟩
                have cB : Hid (∀ W, Below w8.heap.size w8 W → Calls Try.prog 11 #[.pointer (some ⟨M, 0, none⟩)] W fun e w' => ∃ a c, e = .returned (.slice a L c) ∧
                    (∀ W', Below w'.heap.size w' W' → (convert 27 9 (.slice a L c)).run Try.prog W' = .ok (.string SB) W') ∧ Below w8.heap.size w8 w' ∧ Below w'.heap.size w' w') := hide fun W hW => by
                  refine (bytes_l W M D' k sz N' (F8.out.keep hW) hk hs).mono fun e w' ⟨v, he, ho, hb⟩ => ?_
                  obtain ⟨a, c, rfl, hcv⟩ := own_conv ho (fb_range k sz N' hk.2 hs.2) L hL
                  exact ⟨a, c, he, by rw [← hSB]; exact hcv.out, bmore hW hb, Below.refl _ _⟩
                have cH : Hid (∀ W, Below w8.heap.size w8 W → Calls Try.prog 15 #[.pointer (some ⟨M, 0, none⟩), .slice (some ⟨W.heap.size, 0, none⟩) 1 1] (W.alloc (.cells #[.int .u8 107] 5 (1, 2))) fun e w' => e = .returned (.bool ho) ∧ Below w8.heap.size w8 w') := hide fun W hW => by
                  have hA := (Below.refl _ W).alloc (Nat.le_refl _) (.cells #[.int .u8 107] 5 (1, 2))
                  exact (has_l _ M D' k sz N' ((F8.out.keep hW).keep hA) hk hs _ 1 1 [107] (by omega) (bs_k W)).mono fun e w' q => ⟨by rw [← hho]; exact q.1, bmore (bmore hW hA) q.2⟩
                have cO : Hid (∀ W, Below w8.heap.size w8 W → Calls Try.prog 12 #[.pointer (some ⟨M, 0, none⟩)] W fun e w' => e = .returned (.int .i64 (r : Nat)) ∧ Below w8.heap.size w8 w') := hide fun W hW =>
                  (ones_l W M D' k sz N' (F8.out.keep hW) hs HN.out).mono fun e w' q => ⟨by rw [← hr]; exact q.1, bmore hW q.2⟩
                have cRB : Hid (∀ W, Below w8.heap.size w8 W → Calls Try.prog 14 #[.pointer (some ⟨R', 0, none⟩)] W fun e w' => e = .returned (.string SB) ∧ Below w8.heap.size w8 w' ∧ Below W.heap.size W w') := hide fun W hW =>
                  (refbytes_any W R' cr k sz N' ar (G8.out.keep hW) hk hs).mono fun e w' q => ⟨by rw [← hSB]; exact q.1, bmore hW q.2, q.2⟩
                have cRH : Hid (∀ W, Below w8.heap.size w8 W → Calls Try.prog 18 #[.pointer (some ⟨R', 0, none⟩), .string ⟨#[107]⟩] W fun e w' => e = .returned (.bool ho) ∧ Below w8.heap.size w8 w') := hide fun W hW =>
                  (refhas_any W R' cr k sz N' ar (G8.out.keep hW) hk hs ⟨#[107]⟩ [107] (by decide) sz_k (by decide)).mono fun e w' q => ⟨by rw [← hho]; exact q.1, by rw [q.2]; exact hW⟩
                have cRO : Hid (∀ W, Below w8.heap.size w8 W → Calls Try.prog 19 #[.slice ar sz cr] W fun e w' => e = .returned (.int .i64 (r : Nat)) ∧ Below w8.heap.size w8 w') := hide fun W hW =>
                  (lawones_any W ar cr sz N' (G8.out.keep hW).bits hs.2).mono fun e w' q => ⟨by rw [← hr]; exact q.1, by rw [q.2]; exact hW⟩
                have HC : Hid (∀ W, Below w8.heap.size w8 W → Below w8.heap.size w8 W ∧ W.cell? ⟨R', 1, none⟩ = some (.slice ar sz cr)) := hide fun W hW => ⟨hW, (G8.out.keep hW).head.cell rfl⟩
                have HA1 : Hid (∀ W o, Below w8.heap.size w8 W → Below w8.heap.size w8 (W.alloc o)) := hide fun W o hW => hW.alloc hW.size o
                have kcv : ∀ W : World, (convert 27 27 (.slice (some ⟨W.heap.size, 0, none⟩) 1 1)).run Try.prog (W.alloc (.cells #[.int .u8 107] 5)) = .ok (.slice (some ⟨W.heap.size, 0, none⟩) 1 1) (W.alloc (.cells #[.int .u8 107] 5 (1, 2))) := fun W => Go.Lib.run_convert_bytes_const (P := Try.prog) W 27 5 #[.int .u8 107] 1 1 Try.underlying27 Try.underlying5
                have hb0 : Below w8.heap.size w8 w8 := Below.refl _ _
                clear hL hSB hho hr G8 F8 HN
                go_wp2_with fail
                go_region_held_law (fun W => Below w8.heap.size w8 W ∧ W.cell? ⟨R', 1, none⟩ = some (.slice ar sz cr))
                  (first | exact HC.out _ (by assumption) | exact HC.out _ (Below.drew (by assumption)) | exact HC.out _ (HA1.out _ _ (by assumption)) | exact HC.out _ (HA1.out _ _ (And.left (by assumption))))
                  (first
                  | (go_at_call 11; refine (cB.out _ (And.left (by assumption))).mono ?_; rintro e w' ⟨a, c, rfl, hcv, hb, hbr⟩)
                  | (go_at_call 15; refine (cH.out _ (by first | exact And.left (by assumption) | assumption)).mono ?_; rintro e w' ⟨rfl, hb⟩)
                  | (go_at_call 12; refine (cO.out _ (And.left (by assumption))).mono ?_; rintro e w' ⟨rfl, hb⟩)
                  | (go_at_call 14; refine (cRB.out _ (And.left (by assumption))).mono ?_; rintro e w' ⟨rfl, hb, hbs⟩)
                  | (go_at_call 18; refine (cRH.out _ (And.left (by assumption))).mono ?_; rintro e w' ⟨rfl, hb⟩)
                  | (go_at_call 19; refine (cRO.out _ (And.left (by assumption))).mono ?_; rintro e w' ⟨rfl, hb⟩))
                all_goals
                  have HB := hide (bmore B8.out hb)
                  have S9 := hide (S8.out.below hb (Nat.le_refl _))
                  clear hb cB cH cO cRB cRH cRO HC HA1 kcv hb0 B8 S8
                  go_wp2
                  go_round
                  case rel => exact ⟨1, _, _, _, _, by first | rfl | go_num, by omega, rfl, hlb, S9, HB⟩
                  case measure => first | (simp [intOf]; done) | (simp [intOf]; omega)
          · go_wp2_with fail
            refine (awake_any wr).mono ?_
            rintro e w6 ⟨rfl, hb⟩
            have HB := hide (bmore B5.out (bmore hBr.out hb))
            clear hb
            go_wp2
            go_ret
            exact ⟨rfl, HB.out⟩

set_option maxRecDepth 100000 in
theorem reads_long (a0 : Option Addr) (len0 cap0 : Nat) (a1 : Option Addr) (len1 cap1 : Nat) (t2 t3 t4 : Int) (a5 : Option Addr) (len5 cap5 : Nat) (w : World) (hl : 3000 < len0 ∨ 50 < len5) :
    Calls Try.prog 6 #[.slice a0 len0 cap0, .slice a1 len1 cap1, .int .i64 t2, .int .u8 t3, .int .i64 t4, .slice a5 len5 cap5] w fun e w' => e = .returned (.bool true) ∧ Below w.heap.size w w' := by
  have C1 := hide (awake_any w)
  go_enter Try.func6, Try.ntmps6
  by_cases h1 : 3000 < len0
  · go_wp2_with fail
    refine C1.out.mono ?_
    rintro e w1 ⟨rfl, hb⟩
    have HB := hide hb
    clear hb C1
    go_wp2
    go_ret
    exact ⟨rfl, HB.out⟩
  · have h2 : 50 < len5 := by omega
    go_wp2_with fail
    refine C1.out.mono ?_
    rintro e w1 ⟨rfl, hb⟩
    have HB := hide hb
    clear hb C1
    go_wp2
    go_ret
    exact ⟨rfl, HB.out⟩
theorem reads_any (a0 : Option Addr) (len0 cap0 : Nat) (bs0 : List Int) (a1 : Option Addr) (len1 cap1 : Nat) (zss : List (List Int)) (t2 t3 t4 : Int) (a5 : Option Addr) (len5 cap5 : Nat) (ts : List Int) (w : World)
    (h0 : Bs w a0 len0 cap0 bs0) (hm1 : len1 ≤ 9223372036854775807) (h1 : Bss w a1 len1 cap1 zss) (h5 : Bs w a5 len5 cap5 ts) :
    Calls Try.prog 6 #[.slice a0 len0 cap0, .slice a1 len1 cap1, .int .i64 t2, .int .u8 t3, .int .i64 t4, .slice a5 len5 cap5] w fun e w' => e = .returned (.bool true) ∧ Below w.heap.size w w' := by
  by_cases hl : 3000 < len0 ∨ 50 < len5
  · exact reads_long a0 len0 cap0 a1 len1 cap1 t2 t3 t4 a5 len5 cap5 w hl
  · exact reads_go a0 len0 cap0 bs0 a1 len1 cap1 zss t2 t3 t4 a5 len5 cap5 ts w h0 hm1 h1 h5 (by omega) (by omega)

end Go.Proofs.Ytjphnflahpcaiaa.Clep
