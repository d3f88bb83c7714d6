/- FrameBits, walked: it answers true. For any bodies, any one of them, any three places. -/
import Derived.Test.YtfcakghegdaeoabFBitsMath
import Derived.Test.YtfcakghegdaeoabFCutsWalk
import Derived.Test.YtfcakghegdaeoabTakeAll
namespace Go.Proofs.Ytfcakghegdaeoab.Clep
open Go.RowKit
set_option linter.unusedVariables false

theorem flips_left (A B : List Int) : ∀ (qs : List Nat), (∀ q ∈ qs, q < 8 * A.length) → flips (A ++ B) qs = flips A qs ++ B := by
  intro qs
  induction qs generalizing A with
  | nil => intro _; rfl
  | cons q qs ih =>
    intro h
    show flips (flip (A ++ B) q) qs = flips (flip A q) qs ++ B
    rw [flip_left A B q (h q List.mem_cons_self), ih (flip A q) (fun x hx => by rw [flip_len]; exact h x (List.mem_cons_of_mem _ hx))]
theorem flips_snoc (s : List Int) (ps : List Nat) (p : Nat) : flips s (ps ++ [p]) = flip (flips s ps) p := by unfold flips; rw [List.foldl_append]; rfl

/-- FrameBits: up to three bits turned within frame M. -/
theorem SP_turned (zss : List (List Int)) (m M : Nat) (qs : List Nat) (hok : okb zss m) (hb : ∀ i, i < m → ByteL (zss.getD i [])) (hM : M < m) (hq : qs.length ≤ 3) (hl : ∀ q ∈ qs, q < 8 * ((zss.getD M []).length + 12)) :
    flips (rws zss m) (qs.map (8 * en zss M + ·)) = rws zss m ∨ ∃ E : Int, E ≠ 0 ∧ SP (flips (rws zss m) (qs.map (8 * en zss M + ·))) = (fl zss M, en zss M, E) := by
  obtain ⟨r, hr, hr2⟩ := rws_split zss M (m - M)
  rw [show M + (m - M) = m from by omega] at hr
  obtain ⟨r', rfl⟩ := hr2 (by omega)
  have h300 := hok M hM
  have e : flips (rws zss m) (qs.map (8 * en zss M + ·)) = rws zss M ++ (flips (fr (kn M) (zss.getD M [])) qs ++ r') := by
    rw [hr, show en zss M = (rws zss M).length from rfl, flips_right, flips_left _ _ qs (fun q h => by rw [fr_len]; exact hl q h)]
  rcases fr_turned (kn M) (zss.getD M []) r' qs (kn_range M).1 (kn_range M).2 (by omega) (hb M hM) hq hl with h | h
  · left; rw [e, h, hr]
  · right
    refine ⟨_, h, ?_⟩
    have hne : flips (fr (kn M) (zss.getD M [])) qs ++ r' ≠ [] := fun h => by
      have := congrArg List.length h
      rw [List.length_append, flips_len, fr_len, List.length_nil] at this
      omega
    rw [e, SP_rws zss m hok hb M _ (by omega), SP_bad _ hne h]
    simp

/-- The bytes with the first t bits turned, and the three numbers. -/
def FBst (w1 wr : World) (g2 EM cp2 ga : Nat) (a b c : Int) (ds : List Int) (ps : List Nat) (t : Nat) : Prop :=
  Bs wr (some ⟨g2, 0, none⟩) EM cp2 (flips ds (ps.take t)) ∧ (∀ i, i < EM → wr.frozen? ⟨g2, i, none⟩ = false) ∧
    (wr.cell? ⟨ga, 0, none⟩ = some (.int .i64 a) ∧ wr.cell? ⟨ga, 1, none⟩ = some (.int .i64 b) ∧ wr.cell? ⟨ga, 2, none⟩ = some (.int .i64 c)) ∧ Below g2 w1 wr
theorem fbst_step {w1 wr : World} {g2 EM cp2 ga t P : Nat} {a b c : Int} {ds : List Int} {ps : List Nat} (h : FBst w1 wr g2 EM cp2 ga a b c ds ps t) (ht : t < ps.length) (hP : ps.getD t 0 = P) (hPl : P < 8 * EM) (hne : ga ≠ g2) :
    FBst w1 (wr.drew.setCell ⟨g2, P / 8, none⟩ (.int .u8 (bits BinOp.xor IntKind.u8 ((flips ds (ps.take t)).getD (P / 8) 0) (2 ^ (P % 8) % 256)))) g2 EM cp2 ga a b c ds ps (t + 1) := by
  obtain ⟨h1, h2, ⟨k0, k1, k2⟩, h4⟩ := h
  have hr := bs_range h1
  have hz := range_of hr (P / 8)
  have hd := h1.below (Below.refl _ _).drew (Nat.le_refl _)
  have hs := hd.setAt (P / 8) (by omega) _ (show 0 ≤ bits BinOp.xor IntKind.u8 ((flips ds (ps.take t)).getD (P / 8) 0) (2 ^ (P % 8) % 256) ∧ bits BinOp.xor IntKind.u8 ((flips ds (ps.take t)).getD (P / 8) 0) (2 ^ (P % 8) % 256) < 256 by
    refine xor_range _ _ hz ?_
    generalize (2 : Int) ^ (P % 8) = k
    omega)
  rw [Nat.zero_add] at hs
  have hc : ∀ i v, wr.cell? ⟨ga, i, none⟩ = some v → (wr.drew.setCell ⟨g2, P / 8, none⟩ (.int .u8 (bits BinOp.xor IntKind.u8 ((flips ds (ps.take t)).getD (P / 8) 0) (2 ^ (P % 8) % 256)))).cell? ⟨ga, i, none⟩ = some v := fun i v hv => by
    rw [World.cell?_setCell_other (h := fun e => hne (by injection e with e1 _; exact e1.symm))]
    exact ((Below.refl wr.heap.size wr).drew.cell (p := ⟨ga, i, none⟩) (World.block_lt_of_cell? wr _ hv)).trans hv
  refine ⟨?_, fun i hi => ?_, ⟨hc 0 _ k0, hc 1 _ k1, hc 2 _ k2⟩, h4.drew.setCell (Nat.le_refl _) _⟩
  · have e : flips ds (ps.take (t + 1)) = (flips ds (ps.take t)).set (P / 8) (bits BinOp.xor IntKind.u8 ((flips ds (ps.take t)).getD (P / 8) 0) (2 ^ (P % 8) % 256)) := by
      rw [List.take_succ_eq_append_getElem ht, flips_snoc]
      have hp : ps[t] = P := by simpa [List.getD, List.getElem?_eq_getElem ht] using hP
      rw [hp]
      unfold flip
      rw [turn_byte _ _ hz (by omega)]
    rw [e]; exact hs
  · rw [World.frozen?_setCell]
    have hb2 : g2 < wr.heap.size := by
      obtain ⟨b', off', ho, hcc⟩ := h1.2.2.2 (by omega)
      cases ho
      exact World.block_lt_of_cell? wr _ (hcc 0 (by omega))
    exact ((Below.refl wr.heap.size wr).drew.frozen (p := ⟨g2, i, none⟩) hb2).trans (h2 i hi)

set_option maxRecDepth 4000 in
set_option maxHeartbeats 1600000 in
theorem fbits_walk (ao : Option Addr) (len cap : Nat) (zss : List (List Int)) (x a b c : Int) (w : World) (h : Bss w ao len cap zss) (hm : len ≤ 9223372036854775807) :
    Calls Try.prog 8 #[.slice ao len cap, .int .i64 x, .int .i64 a, .int .i64 b, .int .i64 c] w fun e w' => e = .returned (.bool true) ∧ Below w.heap.size w w' := by
  obtain ⟨m, hmm⟩ : ∃ m, m = min len 6 := ⟨_, rfl⟩
  have HBY := hide (fun i (hi : i < m) => h.each i (by omega))
  have cM := hide (made_any ao len cap zss 6 m w hm (by omega) hmm h)
  have hm8 : m ≤ 6 := by omega
  have hml : m ≤ len := by omega
  have H := hide (fun W (hW : Below w.heap.size w W) => h.below hW (Nat.le_refl _))
  clear h hmm
  go_enter Try.func8, Try.ntmps8
  go_wp2_with fail
  refine cM.out.mono ?_
  rintro e w1 ⟨hb1, ⟨hok, g, cg, rfl, hcl⟩ | ⟨hno, rfl⟩⟩
  · have HB1 := hide hb1
    by_cases hm0 : m < 1
    · have hm00 : m = 0 := by omega
      clear hb1 hok hcl cM
      go_wp2_with fail
      refine (awakeC_any _).mono ?_
      rintro e w2 ⟨rfl, hb2⟩
      have HB2 := hide (HB1.out.trans (hb2.mono HB1.out.size))
      clear hb2
      go_wp2
      go_ret
      exact ⟨rfl, HB2.out⟩
    · have HOK := hide hok
      have HRR := hide (rws_range zss m hok HBY.out m (Nat.le_refl _))
      have hEm := en_le zss m hok m (Nat.le_refl _)
      have hsz : (strOfNums (rws zss m)).size = en zss m := str_size _
      obtain ⟨M, hM, hMl⟩ := place_of x 255 (by decide) (m : Int) m rfl (by omega)
      rw [show (((255 : Nat) : Int)) = 255 from rfl] at hM
      obtain ⟨cp2, w2, hrun, hcap2, hB2, hbs2, hfz2, hsz2⟩ := str_bytes w1 (rws zss m) HRR.out
      rw [show (rws zss m).length = en zss m from rfl] at hrun hcap2 hbs2 hfz2
      have h300 := hok M hMl
      have hes := en_succ zss M
      have hE1 := en_le zss m hok (M + 1) (by omega)
      have hEK := (SP_rws zss m hok HBY.out m [] (Nat.le_refl _))
      have hgl : g < w1.heap.size := World.block_lt_of_cell? w1 _ (hcl 0 (by omega))
      have HCL := hide (fun i (hi : i ≤ m) W (hW : Below w1.heap.size w1 W) => (hW.cell (p := ⟨g, i, none⟩) hgl).trans (hcl i hi))
      have c0 := HCL.out M (by omega) w2 hB2.out
      have c1 := HCL.out (M + 1) (by omega) w2 hB2.out
      obtain ⟨D, hD⟩ : ∃ D, D = (zss.getD M []).length + 12 := ⟨_, rfl⟩
      have hDi : (en zss (M + 1) : Int) - (en zss M : Int) = (D : Int) := by omega
      have hD8 : D ≤ 312 := by omega
      have hD1 : 12 ≤ D := by omega
      have hMD : en zss M + D ≤ en zss m := by
        obtain ⟨r, hr, _⟩ := rws_split zss (M + 1) (m - (M + 1))
        rw [show M + 1 + (m - (M + 1)) = m from by omega] at hr
        have := congrArg List.length hr
        rw [List.length_append] at this
        have e1 : en zss m = (rws zss m).length := rfl
        have e2 : en zss (M + 1) = (rws zss (M + 1)).length := rfl
        omega
      have hE0 : en zss M ≤ 2000 := by omega
      have hE11 : en zss (M + 1) ≤ 2000 := by omega
      have HD := hide hD
      have HT := hide (fun qs h1 h2 => SP_turned zss m M qs hok HBY.out hMl h1 h2)
      have HEK := hide hEK
      clear hb1 hok hcl cM hes hE1 hEK hD
      generalize hSS : strOfNums (rws zss m) = SS at *
      have HSS := hide hSS
      generalize hEE : en zss m = EM at *
      generalize hEN0 : en zss M = E0 at *
      generalize hEN1 : en zss (M + 1) = E1 at *
      have HEN0 := hide hEN0
      clear hSS hEE hEN0 hEN1
      go_wp2_with fail
      go_region
      have hb23 : Below w2.heap.size w2 w2.drew := (Below.refl _ _).drew
      have HB3 := hide (hB2.out.trans (hb23.mono hB2.out.size))
      have HS3 := hide (hbs2.out.below hb23 (Nat.le_refl _))
      have HF3 := hide (fun i (hi : i < EM) => (hb23.frozen (p := ⟨w1.heap.size, i, none⟩) hsz2.out).trans (hfz2.out i hi))
      have hsz3 : w1.heap.size < w2.drew.heap.size := Nat.lt_of_lt_of_le hsz2.out hb23.size
      clear hb23 hrun hB2 hbs2 hfz2 hsz2 c0 c1
      generalize w2.drew = w3 at *
      obtain ⟨Q0, hQ0, hQl0⟩ := place_of a 16777215 (by decide) (8 * (D : Int)) (8 * D) (by omega) (by omega)
      obtain ⟨Q1, hQ1, hQl1⟩ := place_of b 16777215 (by decide) (8 * (D : Int)) (8 * D) (by omega) (by omega)
      obtain ⟨Q2, hQ2, hQl2⟩ := place_of c 16777215 (by decide) (8 * (D : Int)) (8 * D) (by omega) (by omega)
      rw [show (((16777215 : Nat) : Int)) = 16777215 from rfl] at hQ0 hQ1 hQ2
      have HQ := hide (And.intro hQ0 (And.intro hQ1 hQ2))
      have hst : Hid (FBst w1 (w3.alloc (Obj.cells #[Value.int IntKind.i64 a, Value.int IntKind.i64 b, Value.int IntKind.i64 c] 3)) w1.heap.size EM cp2 w3.heap.size a b c (rws zss m) [8 * E0 + Q0, 8 * E0 + Q1, 8 * E0 + Q2] 0) := by
        have bA : Below w3.heap.size w3 (w3.alloc (Obj.cells #[Value.int IntKind.i64 a, Value.int IntKind.i64 b, Value.int IntKind.i64 c] 3)) := (Below.refl _ _).alloc (Nat.le_refl _) _
        exact hide ⟨HS3.out.below bA (Nat.le_refl _), fun i hi => (bA.frozen (p := ⟨w1.heap.size, i, none⟩) hsz3).trans (HF3.out i hi), by simp [go_sem], HB3.out.trans (bA.mono HB3.out.size)⟩
      clear hQ0 hQ1 hQ2 HS3 HF3 HB3
      go_wp2_with fail
      generalize w3.alloc (Obj.cells #[Value.int IntKind.i64 a, Value.int IntKind.i64 b, Value.int IntKind.i64 c] 3) = w4 at *
      generalize hga : w3.heap.size = ga at *
      clear hga
      go_loopw [69] (fun q wr => ∃ t : Nat, q = .int .i64 t ∧ t ≤ 3 ∧ Hid (FBst w1 wr w1.heap.size EM cp2 ga a b c (rws zss m) [8 * E0 + Q0, 8 * E0 + Q1, 8 * E0 + Q2] t)) (fun q _ => 3 - (intOf q).toNat)
      case atStart => exact ⟨0, rfl, by omega, hst⟩
      case round =>
        obtain ⟨t, rfl, ht, hS⟩ := hrel
        by_cases hlt : t < 3
        · obtain ⟨h1, h2, ⟨k0, k1, k2⟩, h4⟩ := hS.out
          obtain ⟨X, Q, hcX, hQX, hQl, hps⟩ : ∃ (X : Int) (Q : Nat), wr.cell? ⟨ga, t, none⟩ = some (.int .i64 X) ∧ (bits BinOp.and IntKind.i64 X 16777215).tmod (8 * (D : Int)) = (Q : Int) ∧ Q < 8 * D ∧ [8 * E0 + Q0, 8 * E0 + Q1, 8 * E0 + Q2].getD t 0 = 8 * E0 + Q := by
            have ht3 : t = 0 ∨ t = 1 ∨ t = 2 := by omega
            rcases ht3 with rfl | rfl | rfl
            · exact ⟨a, Q0, k0, HQ.out.1, hQl0, rfl⟩
            · exact ⟨b, Q1, k1, HQ.out.2.1, hQl1, rfl⟩
            · exact ⟨c, Q2, k2, HQ.out.2.2, hQl2, rfl⟩
          obtain ⟨P, hP⟩ : ∃ P, 8 * E0 + Q = P := ⟨_, rfl⟩
          rw [hP] at hps
          have hPl : P < 8 * EM := by omega
          have hPi : 8 * (E0 : Int) + (Q : Int) = (P : Int) := by omega
          obtain ⟨b', off', ho', hcc⟩ := h1.2.2.2 (by omega)
          cases ho'
          have hcz := hcc (P / 8) (by omega)
          rw [Nat.zero_add] at hcz
          have hfz := h2 (P / 8) (by omega)
          have hzr := h1.2.2.1 (P / 8)
          have HN := hide (fbst_step hS.out (show t < [8 * E0 + Q0, 8 * E0 + Q1, 8 * E0 + Q2].length by simp; omega) hps hPl (by omega))
          generalize (flips (rws zss m) (List.take t [8 * E0 + Q0, 8 * E0 + Q1, 8 * E0 + Q2])).getD (P / 8) 0 = z at *
          clear h1 h2 k0 k1 k2 h4 hcc hps hP hst
          go_wp2_with fail
          go_region
          go_wp2
          go_roundw
          case rel => exact ⟨t + 1, by go_num, by omega, HN⟩
          case measure => simp [intOf]; omega
        · have h3 : t = 3 := by omega
          subst h3
          obtain ⟨h1, -, -, h4⟩ := hS.out
          rw [show List.take 3 [8 * E0 + Q0, 8 * E0 + Q1, 8 * E0 + Q2] = [8 * E0 + Q0, 8 * E0 + Q1, 8 * E0 + Q2] from rfl] at h1
          have hTT := HT.out [Q0, Q1, Q2] (by simp) (fun q hq => by
            have := HD.out
            simp only [List.mem_cons, List.not_mem_nil, or_false] at hq
            rcases hq with rfl | rfl | rfl <;> omega)
          rw [show List.map (fun q => 8 * E0 + q) [Q0, Q1, Q2] = [8 * E0 + Q0, 8 * E0 + Q1, 8 * E0 + Q2] from rfl] at hTT
          have hbr : ByteL (flips (rws zss m) [8 * E0 + Q0, 8 * E0 + Q1, 8 * E0 + Q2]) := flips_range _ _ HRR.out
          have hse := str_eq _ _ hbr HRR.out
          generalize flips (rws zss m) [8 * E0 + Q0, 8 * E0 + Q1, 8 * E0 + Q2] = bs at *
          have HB4 := hide h4
          have HS4 := hide h1
          have hcw := HCL.out M (by omega)
          clear h1 h4 hS hst hbr
          by_cases hsame : bs = rws zss m
          · subst hsame
            have hSP : SP (rws zss m) = (fl zss m, EM, 0) := by
              have := HEK.out
              rw [List.append_nil, SP_nil] at this
              simpa using this
            have cS := hide (fsplit_any (some ⟨w1.heap.size, 0, none⟩) EM cp2 (rws zss m) wr (by omega) HS4.out m (by rw [hSP]; exact fl_len zss m))
            rw [hSP] at cS
            clear hSP hTT hse
            go_wp2_with fail
            refine cS.out.mono ?_
            rintro e w5 ⟨Kb, Gb, rfl, -, -, hb5⟩
            have hcv5 := conv_bs (HS4.out.below hb5 (Nat.le_refl _))
            rw [HSS.out] at hcv5
            have HB5 := hide (HB1.out.trans ((HB4.out.trans (hb5.mono HB4.out.size)).mono HB1.out.size))
            clear hb5 cS
            go_wp2_with fail
            refine (awakeC_any w5).mono ?_
            rintro e w6 ⟨rfl, hb6⟩
            have HB6 := hide (HB5.out.trans (hb6.mono HB5.out.size))
            clear hb6
            go_wp2
            go_ret
            exact ⟨rfl, HB6.out⟩
          · obtain ⟨E, hE, hSP⟩ := hTT.resolve_left hsame
            rw [decide_eq_false hsame, HSS.out] at hse
            have cS := hide (fsplit_any (some ⟨w1.heap.size, 0, none⟩) EM cp2 bs wr (by omega) HS4.out M (by rw [hSP]; exact fl_len zss M))
            rw [hSP] at cS
            clear hSP hTT hsame
            generalize hFF : fl zss M = F at *
            have HFG := hide (fun i (hi : i < M) => show F.getD i (0, []) = (kn i, zss.getD i []) from by rw [← hFF]; simp [fl, List.getD, hi])
            have HFL := hide (show F.length = M from by rw [← hFF]; exact fl_len zss M)
            clear hFF
            go_wp2_with fail
            refine cS.out.mono ?_
            rintro e w5 ⟨Kb, Gb, rfl, -, hbss, hb5⟩
            have hcv5 := conv_bs (HS4.out.below hb5 (Nat.le_refl _))
            have hB15 := HB4.out.trans (hb5.mono HB4.out.size)
            have hc5 := hcw w5 hB15
            rw [HEN0.out] at hc5
            have HB5 := hide (HB1.out.trans (hB15.mono HB1.out.size))
            have HBS := hide hbss
            generalize strOfNums bs = SB at *
            clear hb5 cS hB15 hbss hcw
            go_wp2_with fail
            go_loopw [25] (fun q wq => ∃ i : Nat, q = .int .i64 i ∧ i ≤ M ∧ Hid (Below w5.heap.size w5 wq)) (fun q _ => M - (intOf q).toNat)
            case atStart => exact ⟨0, rfl, by omega, hide (Below.refl _ _)⟩
            case round =>
              obtain ⟨i, rfl, hi, hbq⟩ := hrel
              have HBq := hide (HB5.out.trans (hbq.out.mono HB5.out.size))
              by_cases hlt2 : i < M
              · obtain ⟨b1, off1, hx1, hcell1⟩ := (HBS.out.below hbq.out (Nat.le_refl _)).2.2 (by omega)
                cases hx1
                obtain ⟨a7, l7, c7, hc7, hl7, hbs7⟩ := hcell1 i hlt2
                rw [Nat.zero_add] at hc7
                rw [snd_get F M i HFL.out hlt2, HFG.out i hlt2] at hbs7
                obtain ⟨b0, off0, rfl, hcell0⟩ := (H.out _ HBq.out).2.2 (by omega)
                obtain ⟨a6, l6, c6, hc6, hl6, hbs6⟩ := hcell0 i (by omega)
                have v7 := conv_bs (hbs7.below (Below.refl _ _).drew (Nat.le_refl _))
                have v6 := conv_bs (hbs6.below (Below.refl _ _).drew (Nat.le_refl _))
                have HB9 := hide hbq.out.drew
                simp only at v7
                clear hcell0 hcell1 hbs6 hbs7 hcv5 hc5
                generalize strOfNums (zss.getD i []) = SI at *
                go_wp2_with fail
                go_region
                go_wp2
                go_roundw
                case rel => exact ⟨i + 1, by go_num, by omega, HB9⟩
                case measure => simp [intOf]; omega
              · have h9 : i = M := by omega
                subst h9
                clear hcv5 hc5
                go_wp2_with fail
                refine (awakeC_any _).mono ?_
                rintro e w6 ⟨rfl, hb6⟩
                have HB6 := hide (HBq.out.trans (hb6.mono HBq.out.size))
                clear hb6
                go_wp2
                go_ret
                exact ⟨rfl, HB6.out⟩
  · have HB1 := hide hb1
    clear hb1 cM hno
    go_wp2_with fail
    refine (awakeC_any _).mono ?_
    rintro e w2 ⟨rfl, hb2⟩
    have HB2 := hide (HB1.out.trans (hb2.mono HB1.out.size))
    clear hb2
    go_wp2
    go_ret
    exact ⟨rfl, HB2.out⟩

end Go.Proofs.Ytfcakghegdaeoab.Clep
