/- What table.lay does when called. Conditions: items of which there is a table. -/
import Derived.Test.YtodhljiboakjnaaGreatQa
import Derived.Test.YtodhljiboakjnaaGreatBc
import Derived.Deep.RegionHeldLaw
import Derived.Deep.RegionWith
namespace Go.Proofs.YtodhljiboakjnaaGreat.Clep
open Go.RowKit
set_option linter.unusedVariables false

theorem Vi.ch {P : Nat → Prop} {w w' : World} {R o : Nat} {S K T V X : Int} (h : Vi w R o S K T V X) (hc : Ch P w w') (hn : ¬ P R) : Vi w' R o S K T V X := by
  have e := hc.block R h.lt hn
  obtain ⟨h0, h1, h2, h3, h4⟩ := h
  exact ⟨(World.cell?_of_block (a := ⟨R, o, none⟩) e).trans h0, (World.cell?_of_block (a := ⟨R, o + 1, none⟩) e).trans h1, (World.cell?_of_block (a := ⟨R, o + 2, none⟩) e).trans h2, (World.cell?_of_block (a := ⟨R, o + 3, none⟩) e).trans h3, (World.cell?_of_block (a := ⟨R, o + 4, none⟩) e).trans h4⟩
theorem Is.ch {P : Nat → Prop} {w w' : World} {a : Option Addr} {len cap : Nat} {l : List It} (h : Is w a len cap l) (hc : Ch P w w') (hn : 0 < len → ∀ x, a = some x → ¬ P x.block) : Is w' a len cap l := by
  refine ⟨h.1, h.2.1, h.2.2.1, fun h0 => ?_⟩
  obtain ⟨b, off, ho, hcell⟩ := h.2.2.2 h0
  exact ⟨b, off, ho, fun i x hi => (hcell i x hi).ch hc (hn h0 _ ho)⟩
theorem Is.lt {w : World} {a : Option Addr} {len cap : Nat} {l : List It} (h : Is w a len cap l) (h0 : 0 < len) : ∀ x, a = some x → x.block < w.heap.size := by
  intro x hx
  obtain ⟨b, off, ho, hcell⟩ := h.2.2.2 h0
  obtain ⟨y, hy⟩ : ∃ y, l[0]? = some y := ⟨_, List.getElem?_eq_getElem (by rw [h.1]; exact h0)⟩
  rw [ho] at hx; cases hx
  exact (hcell 0 y hy).lt
theorem Rws.ch {P : Nat → Prop} {w w' : World} {a : Option Addr} {len cap : Nat} {zs : List Sl} (h : Rws w a len cap zs) (hc : Ch P w w') (A : Nat) (hP : ∀ b, A ≤ b → b < w.heap.size → ¬ P b) (hn : ∀ x, a = some x → A ≤ x.block) (hz : ∀ z ∈ zs, ∀ x, z.a = some x → A ≤ x.block) : Rws w' a len cap zs := by
  refine ⟨h.1, h.2.1, fun z hm => ⟨(h.2.2.1 z hm).1.ch hc fun h0 x hx => hP _ (hz z hm x hx) ((h.2.2.1 z hm).1.lt h0 x hx), (h.2.2.1 z hm).2⟩, fun h0 => ?_⟩
  obtain ⟨b, off, ho, hcell⟩ := h.2.2.2 h0
  refine ⟨b, off, ho, fun i z hi => ?_⟩
  have hl := World.block_lt_of_cell? w _ (hcell i z hi)
  rw [World.cell?_of_block (a := ⟨b, off + i, none⟩) (hc.block b hl (hP b (hn _ ho) hl))]
  exact hcell i z hi
/-- The cells of parts. -/
def ptV (n : Nat) (v1 v2 : Value) (F : Option Addr) : Array Value := #[.int .i64 n, v1, v2, .pointer F]
/-- The first j blocks are laid. -/
structure La (w w2 wr : World) (R n : Nat) (l : List It) (j : Nat) : Prop where
  bel : Below w.heap.size w wr
  ch : Ch (fun b => b = R ∨ w2.heap.size ≤ b) w2 wr
  ex : ∃ a1 c1 a2 n2 c2, Blk wr R (ptV n (.slice a1 (bls l j).length c1) (.slice a2 n2 c2) none) 59 ∧ Own wr w2.heap.size (.slice a1 (bls l j).length c1) (bls l j) ∧ Bs wr a2 n2 c2 (ixs l j) ∧ c2 ≤ maxLen ∧ (0 < n2 → ∀ x, a2 = some x → w2.heap.size ≤ x.block)
theorem bs_one {w : World} {b o n c : Nat} {m : List It} (h : Is w (some ⟨b, o, none⟩) n c m) (hn : 1 ≤ n) : Is w (some ⟨b, o, none⟩) 1 c (m.take 1) := by
  have := h.cut 0 1 (by omega) hn
  rw [List.drop_zero, Nat.sub_zero, Nat.sub_zero] at this
  have e : icut (some ⟨b, o, none⟩) c 0 = some ⟨b, o, none⟩ := by unfold icut; split <;> simp [add_plain]
  rwa [e] at this
theorem own_at0 {w : World} {B : Nat} {v : Value} {zs : List Int} (h : Own w B v zs) (hz : ∀ z ∈ zs, 0 ≤ z ∧ z < 256) : ∃ a c, v = .slice a zs.length c ∧ c ≤ maxLen ∧ Bs w a zs.length c zs ∧ (0 < zs.length → ∀ x, a = some x → B ≤ x.block ∧ x.block < w.heap.size) := by
  obtain ⟨a, c, e, hc, hb, hg⟩ := own_bs h (range_of hz)
  refine ⟨a, c, e, hc, hb, fun h0 x hx => ?_⟩
  obtain ⟨b, off, ho, _⟩ := hb.2.2.2 h0
  rw [ho] at hx; cases hx
  exact ⟨(hg _ _ ho).1, (hg _ _ ho).2.1⟩
theorem blk_bs_lt {w : World} {a : Option Addr} {len cap : Nat} {zs : List Int} (h : Bs w a len cap zs) (h0 : 0 < len) : ∀ x, a = some x → x.block < w.heap.size := by
  intro x hx
  obtain ⟨b, off, ho, hc⟩ := h.2.2.2 h0
  rw [ho] at hx; cases hx
  exact World.block_lt_of_cell? w _ (hc 0 h0)

theorem lay_results {w : World} {G : Nat} {n : Int} {v1 v2 v3 : Value} (h : Blk w G #[.int .i64 n, v1, v2, v3] 59) (ts : Array Value) (h2 : ts.getD 2 undef = .pointer (some ⟨G, 0, none⟩)) :
    (results Tryz.f29 ts).run Tryz.prog w = .ok (.agg #[.int .i64 n, v1, v2, v3]) w := by
  have h0 : w.cell? ⟨G, 0, none⟩ = some (.int .i64 n) := h.cell rfl
  have h1 : w.cell? ⟨G, 1, none⟩ = some v1 := h.cell rfl
  have h3 : w.cell? ⟨G, 2, none⟩ = some v2 := h.cell rfl
  have h4 : w.cell? ⟨G, 3, none⟩ = some v3 := h.cell rfl
  rw [Array.getD_eq_getD_getElem?] at h2
  simp [results, Tryz.results29, go_sem, h0, h1, h2, h3, h4]
set_option maxRecDepth 100000 in
set_option maxHeartbeats 4000000 in
theorem tlay_any (a : Option Addr) (n c : Nat) (l : List It) (w : World) (h : Is w a n c l) (hT : TOk l) (hc : c ≤ 9223372036854775807) :
    Calls Tryz.prog 29 #[.slice a n c] w fun e w' => ∃ a1 c1 a2 c2 F, e = .returned (.agg #[.int .i64 n, .slice a1 (tA l).length c1, .slice a2 (tI l).length c2, .pointer (some ⟨F, 0, none⟩)]) ∧ Below w.heap.size w w' ∧ c1 ≤ maxLen ∧ c2 ≤ maxLen ∧
      ∃ w5, w.heap.size ≤ w5.heap.size ∧ Bs w' a1 (tA l).length c1 (tA l) ∧ Bs w' a2 (tI l).length c2 (tI l) ∧ Out (fun b => w5.heap.size ≤ b) a1 (tA l).length ∧ Out (fun b => w5.heap.size ≤ b) a2 (tI l).length ∧ One w5 w' (fun _ => False) F 7 (tS l) (fN (tS l) l) := by
  have hln := h.1
  have hn : n ≤ 2000 := by have := hT.len; omega
  have A0 := (Below.refl _ w).alloc (Nat.le_refl _) (Obj.cells (ptV 0 (.slice none 0 0) (.slice none 0 0) none) 59)
  have K0 := hpS w (Obj.cells (ptV 0 (.slice none 0 0) (.slice none 0 0) none) 59) w.heap.size rfl
  obtain ⟨w0, hw0⟩ : ∃ w0, w0 = w.alloc (Obj.cells (ptV 0 (.slice none 0 0) (.slice none 0 0) none) 59) := ⟨_, rfl⟩
  have hs0 : w0.heap.size = w.heap.size + 1 := by rw [hw0]; simp
  rw [← hw0] at A0 K0
  have A1 := (Below.refl _ w0).alloc (Nat.le_refl _) (Obj.cells (ptV n (.slice none 0 0) (.slice none 0 0) none) 59)
  have K1 := hpS w0 (Obj.cells (ptV n (.slice none 0 0) (.slice none 0 0) none) 59) w0.heap.size rfl
  obtain ⟨w1, hw1⟩ : ∃ w1, w1 = w0.alloc (Obj.cells (ptV n (.slice none 0 0) (.slice none 0 0) none) 59) := ⟨_, rfl⟩
  have hs1 : w1.heap.size = w.heap.size + 1 + 1 := by rw [hw1]; simp [hs0]
  rw [← hw1] at A1 K1
  rw [hs0] at K1
  have B1 := hide (bmore A0 A1)
  have KG : Hid (Blk w1 w.heap.size (ptV 0 (.slice none 0 0) (.slice none 0 0) none) 59) := hide (Blk.keep K0 A1)
  have KR : Hid (Blk w1 (w.heap.size + 1) (ptV n (.slice none 0 0) (.slice none 0 0) none) 59) := hide K1
  have hcut := hide (bcut_new a n c l 20 w1 (h.below (bmore A0 A1) (Nat.le_refl _)) (by omega) hc)
  have HI := hide h
  have HT := hide hT
  clear h hT A0 A1 K0 K1
  go_enter Tryz.func29, Tryz.ntmps29
  go_wp2_with fail
  have ew : w1 = ((w.alloc (Obj.cells #[Value.int IntKind.i64 0, Value.slice none 0 0, Value.slice none 0 0, Value.pointer none] 59)).alloc (Obj.cells #[Value.int IntKind.i64 (n : Int), Value.slice none 0 0, Value.slice none 0 0, Value.pointer none] 59)) := by rw [hw1, hw0]; rfl
  rw [← ew]
  obtain ⟨G, hG⟩ : ∃ G, G = w.heap.size := ⟨_, rfl⟩
  have HG := hide hG
  rw [← hG] at KG KR ⊢
  clear ew hw0 hw1 hs0 hG
  refine hcut.out.mono ?_
  rintro e w2 ⟨a', c', rfl, hb2, zs, hr, hzl, hza, hzz⟩
  rw [show csz 20 = 20 from rfl] at hr hzl ⊢
  have hnb0 : Hid (cnr 20 n = nb l) := hide (by unfold nb; rw [hln])
  rw [hnb0.out] at hr ⊢
  obtain ⟨N, hN⟩ : ∃ N, nb l = N := ⟨_, rfl⟩
  have HN := hide hN
  rw [hN] at hr ⊢
  have hNn : N ≤ 100 := by rw [← hN]; exact nb_le HT.out.len
  have HS1 := hide hs1
  have HW2 : Hid (w.heap.size + 2 ≤ w2.heap.size) := hide (by have := hb2.size; omega)
  have HRW := hide (fun W (hW : Ch (fun b => b = G + 1 ∨ w2.heap.size ≤ b) w2 W) => show Rws W a' N c' zs from
    hr.ch hW w1.heap.size (fun b h1 h2 e => by have hg := HG.out; have := HS1.out; rcases e with e | e <;> omega) hza hzz)
  have HZL := hide (fun j z (hz : zs[j]? = some z) => hzl j z hz)
  have HZN := hide hr.1
  have HI2 := hide (HI.out.below (bmore B1.out hb2) (Nat.le_refl _))
  have hlt1 : Hid (∀ j, j < N ↔ j * 20 < n) := hide (fun j => by have := nb_lt (l := l) (j := j); rw [HN.out, hln] at this; exact this)
  have HLA : Hid (La w w2 w2 (G + 1) n l 0) := hide ⟨bmore B1.out hb2, Ch.of (Below.refl _ _), none, 0, none, 0, 0, KR.out.keep hb2, World.ownsRow_nil _ _ _ _, bs_nil _, Nat.zero_le _, fun h => by omega⟩
  have HKG := hide (KG.out.keep hb2)
  have B2 := hide (bmore B1.out hb2)
  clear hr hzl hza hzz hb2 hs1 hN KG KR hcut B1 hnb0
  go_wp2_with fail
  go_loopw [16] (fun i wr => ∃ j : Nat, j ≤ N ∧ i = .int .i64 j ∧ Hid (La w w2 wr (G + 1) n l j)) (fun i _ => N - (intOf i).toNat)
  case atStart => exact ⟨0, by omega, rfl, HLA⟩
  case round =>
    obtain ⟨j, hj, rfl, hla⟩ := hrel
    by_cases hlt : j < N
    · obtain ⟨b', off', ea, hcell⟩ := (HRW.out _ hla.out.ch).2.2.2 (by omega)
      subst ea
      obtain ⟨z, hz⟩ : ∃ z, zs[j]? = some z := ⟨_, List.getElem?_eq_getElem (by rw [HZN.out]; exact hlt)⟩
      have cz := hcell j z hz
      have hzI := (HRW.out _ hla.out.ch).2.2.1 z (List.mem_of_getElem? hz)
      have hz2 := HZL.out j z hz
      obtain ⟨az, nz, cz', lz⟩ := z
      simp only at cz hzI hz2
      subst hz2
      have hnz : 1 ≤ nz ∧ nz ≤ 20 := by
        have h1 := hzI.1.1
        rw [ck_len] at h1
        have := (hlt1.out j).1 hlt
        omega
      obtain ⟨bz, oz', ez, -⟩ := hzI.1.2.2.2 (by omega)
      subst ez
      have hcz := hzI.1.2.1.1
      have HZI := hide hzI.1
      have HFT := hide (HT.out.fit (j := j) (by rw [HN.out]; exact hlt))
      have HRZ := hide (fun W (hW : Ch (fun b => b = G + 1 ∨ w2.heap.size ≤ b) w2 W) => ((HRW.out W hW).2.2.1 _ (List.mem_of_getElem? hz)).1)
      simp only at HRZ
      obtain ⟨a1, c1, a2, n2, c2, hbk, hown, hbs, hcap2, hnew2⟩ := hla.out.ex
      obtain ⟨L1, hL1⟩ : ∃ L1, (bls l j).length = L1 := ⟨_, rfl⟩
      have HL1 := hide hL1
      have hL1m : L1 ≤ 66200 := by rw [← hL1]; have := bls_len l j; omega
      have hn2 : n2 ≤ 5200 := by rw [← hbs.1]; have := ixs_len l j; omega
      rw [hL1] at hbk hown
      have KB := hide hbk
      have HO := hide hown
      have HGW : Hid (G + 1 < w2.heap.size) := hide (by have := HW2.out; have := HG.out; omega)
      have HWR := hide hla.out.ch.size
      have cR1 : wr.cell? ⟨G + 1, 1, none⟩ = some (.slice a1 L1 c1) := hbk.cell rfl
      have cR2 : wr.cell? ⟨G + 1, 2, none⟩ = some (.slice a2 n2 c2) := hbk.cell rfl
      have hP3 := hide (put_any a2 n2 c2 (ixs l j) wr (L1 : Int) (by omega) (by omega) (by omega) hbs)
      have HX := hide (bs_range hbs)
      have hokj := hide (HT.out.allok j)
      have hwfj := hide (HT.out.wfs j)
      clear hbk hown hbs hcell hL1 hz hzI
      go_wp2_with fail
      refine hP3.out.mono ?_
      rintro e w3 ⟨v3, rfl, ho3, hb3⟩
      obtain ⟨a3, c3, rfl, hc3, hbs3, hl3⟩ := own_at0 ho3 (cat_range HX.out (pu_range _ (by omega) (by omega)))
      obtain ⟨L3, hL3⟩ : ∃ L3, (ixs l j ++ pu (L1 : Int)).length = L3 := ⟨_, rfl⟩
      have hL3m : L3 ≤ 5210 := by rw [← hL3, List.length_append]; have := ixs_len l j; have := pu_len (L1 : Int); omega
      rw [hL3] at hbs3 hl3 ⊢
      have HO3 := hide hl3
      have KB3 := hide (KB.out.keep hb3)
      have d0 : w3.cell? ⟨G + 1, 2, none⟩ = some (.slice a2 n2 c2) := KB3.out.cell rfl
      have d1 : w3.frozen? ⟨G + 1, 2, none⟩ = false := KB3.out.free 2
      have CH3 := hide (hla.out.ch.trans (Ch.of hb3))
      have HBS3 := hide hbs3
      have HB3 := hide hb3
      clear hP3 ho3 hb3 hbs3 hL3 cR1 cR2 hl3
      go_wp2_with fail
      have KB4 : Hid (Blk (w3.setCell ⟨G + 1, 2, none⟩ (.slice a3 L3 c3)) (G + 1) (ptV n (.slice a1 L1 c1) (.slice a3 L3 c3) none) 59) := hide (KB3.out.set 2 _)
      have CH4 := hide (CH3.out.trans (Ch.set w3 ⟨G + 1, 2, none⟩ (.slice a3 L3 c3) (.inl rfl)))
      have HS4 : Hid (wr.heap.size ≤ (w3.setCell ⟨G + 1, 2, none⟩ (.slice a3 L3 c3)).heap.size) := hide (by have := HB3.out.size; simpa [World.setCell] using this)
      have HBS4 : Hid (Bs (w3.setCell ⟨G + 1, 2, none⟩ (.slice a3 L3 c3)) a3 L3 c3 (ixs l j ++ pu (L1 : Int))) := hide (HBS3.out.ch (Ch.set (P := fun b => b = G + 1) w3 ⟨G + 1, 2, none⟩ _ rfl) (fun h0 x hx e => by
        have := HO3.out h0 x hx; have := HGW.out; have := HWR.out; omega))
      have CQ4 := hide ((Ch.of (P := fun b => b = G + 1) HB3.out).trans (Ch.set w3 ⟨G + 1, 2, none⟩ (.slice a3 L3 c3) rfl))
      generalize w3.setCell ⟨G + 1, 2, none⟩ (.slice a3 L3 c3) = w4 at *
      have hsl : ∀ W : World, (Instr.sliceAt 22 (.slice (some ⟨bz, oz', none⟩) nz cz') none (some (.int .i64 1)) none).run Tryz.prog W = .ok (.slice (some ⟨bz, oz', none⟩) 1 cz') W := fun W => by
        have := icut_h W (some ⟨bz, oz', none⟩) nz cz' .i64 1 (by omega) (by omega)
        have e : icut (some ⟨bz, oz', none⟩) cz' 0 = some ⟨bz, oz', none⟩ := by unfold icut; split <;> simp [add_plain]
        rw [e] at this; exact this
      have hY := hide (fun W (hW : Below w4.heap.size w4 W) => bytes_any a3 (some ⟨bz, oz', none⟩) L3 c3 1 cz' (ixs l j ++ pu (L1 : Int)) ((ck 20 l j).take 1) W (by omega) (by omega) (HBS4.out.below hW (Nat.le_refl _)) (bs_one ((HRZ.out _ CH4.out).below hW (Nat.le_refl _)) hnz.1) (List.all_eq_true.2 fun x hx => List.all_eq_true.1 hokj.out x (List.mem_of_mem_take hx)))
      have d2 : w4.cell? ⟨G + 1, 2, none⟩ = some (.slice a3 L3 c3) := KB4.out.cell rfl
      have d3 : w4.frozen? ⟨G + 1, 2, none⟩ = false := KB4.out.free 2
      have HK5 := hide (fun W (hW : Below w4.heap.size w4 W) => show W.cell? ⟨G + 1, 2, none⟩ = some (.slice a3 L3 c3) ∧ W.frozen? ⟨G + 1, 2, none⟩ = false from ⟨(KB4.out.keep hW).cell rfl, (KB4.out.keep hW).free 2⟩)
      have HW9 := hide (show ∀ z ∈ (ixs l j ++ pu (L1 : Int)) ++ ibn ((ck 20 l j).take 1), 0 ≤ z ∧ z < 256 from cat_range (cat_range HX.out (pu_range _ (by omega) (by omega))) (ibn_range _ (fun x hx => hwfj.out x (List.mem_of_mem_take hx)) (by rw [List.length_take]; omega)))
      obtain ⟨L5, hL5⟩ : ∃ L5, ((ixs l j ++ pu (L1 : Int)) ++ ibn ((ck 20 l j).take 1)).length = L5 := ⟨_, rfl⟩
      have HL5 := hide hL5
      have hL5m : L5 ≤ 5300 := by
        rw [← hL5, List.length_append]
        have h1 := ibn1 ((ck 20 l j).take 1) (by rw [List.length_take]; omega)
        rw [List.length_append]; have := ixs_len l j; have := pu_len (L1 : Int); omega
      have HR6 := hide (fun W hW => HRZ.out W hW)
      clear d0 d1 hL5
      go_region_with (go_at_call 54; refine (hY.out w4.drew ((Below.refl _ _).drew)).mono ?_; rintro e w5 ⟨v5, rfl, ho5, hb5⟩; obtain ⟨a5, c5, rfl, hc5, hbs5, hl5⟩ := own_at0 ho5 HW9.out; rw [HL5.out] at hbs5 hl5 ⊢; obtain ⟨d4, d5⟩ := HK5.out w5 (((Below.refl _ _).drew).trans hb5))
      have hb45 : Below w4.heap.size w4 w5 := ((Below.refl _ w4).drew).trans hb5
      have KB6 : Hid (Blk (w5.setCell ⟨G + 1, 2, none⟩ (.slice a5 L5 c5)) (G + 1) (ptV n (.slice a1 L1 c1) (.slice a5 L5 c5) none) 59) := hide ((KB4.out.keep hb45).set 2 _)
      have CH5 : Hid (Ch (fun b => b < w4.heap.size) w5 (w5.setCell ⟨G + 1, 2, none⟩ (.slice a5 L5 c5))) := hide (Ch.set w5 ⟨G + 1, 2, none⟩ _ (show G + 1 < w4.heap.size by have := KB4.out.lt; exact this))
      have CH6 := hide ((CH4.out.trans (Ch.of hb45)).trans (Ch.set w5 ⟨G + 1, 2, none⟩ (.slice a5 L5 c5) (.inl rfl)))
      have HBS5 := hide hbs5
      have HC5 := hide hc5
      have HO5 := hide (fun h0 x hx => show w4.heap.size ≤ x.block from (hl5 h0 x hx).1)
      have CQ6 := hide ((CQ4.out.trans (Ch.of hb45)).trans (Ch.set w5 ⟨G + 1, 2, none⟩ (.slice a5 L5 c5) rfl))
      generalize w5.setCell ⟨G + 1, 2, none⟩ (.slice a5 L5 c5) = w6 at *
      have hP6 := hide (bput_any none (some ⟨bz, oz', none⟩) 0 0 nz cz' [] (ck 20 l j) w6 (by omega) (by omega) (bs_nil _) (HRZ.out _ CH6.out))
      have HBME := hide (bme_of HFT.out hokj.out)
      clear d2 d3 d4 d5 hY hb45 hb5 hbs5 hl5 ho5 hsl
      go_wp2_with fail
      refine hP6.out.mono ?_
      rintro e w7 ⟨hb7, ⟨hbad, -⟩ | ⟨-, v7, rfl, ho7⟩⟩
      · exact absurd HBME.out hbad
      rw [List.nil_append] at ho7
      have HBK := hide (bkb_range (ck 20 l j) hwfj.out (by rw [ck_len]; omega))
      obtain ⟨a7, c7, rfl, hc7, hbs7, -⟩ := own_at0 ho7 HBK.out
      obtain ⟨L7, hL7⟩ : ∃ L7, (bkb (ck 20 l j)).length = L7 := ⟨_, rfl⟩
      have hL7m : L7 ≤ 662 := by rw [← hL7, bkb_len]; have := ibn20 (ck 20 l j) (by rw [ck_len]; omega); omega
      rw [hL7] at hbs7 ⊢
      have HL7 := hide hL7
      have KB7 := hide (KB6.out.keep hb7)
      have HOW7 : Hid (Own w7 w2.heap.size (.slice a1 L1 c1) (bls l j)) := hide (own_keep (own_blk HO.out (fun g h1 h2 => CQ6.out.block g h2 (by have := HGW.out; omega))) hb7)
      have HOLT := hide (fun k hk => World.ownsRow.lt HO.out k hk)
      have HS7 : Hid (w2.heap.size ≤ w7.heap.size) := hide (Nat.le_trans CH6.out.size hb7.size)
      have HBS7 := hide hbs7
      have HB7 := hide hb7
      have e0 : w7.cell? ⟨G + 1, 1, none⟩ = some (.slice a1 L1 c1) := KB7.out.cell rfl
      clear hP6 ho7 hb7 hbs7 hL7
      go_wp2_with (first
        | (at_builtin; refine wpList_append_beside rfl _ _ rfl w2.heap.size _ (bls l j) rfl HOW7.out _ L7 c7 _ rfl HBS7.out ?f1 ?f2 (G + 1) ?f3 ?f4 ?_)
        | fail)
      case f1 => rw [HL1.out]; omega
      case f2 => exact HS7.out
      case f3 => exact KB7.out.lt
      case f4 => intro e; have := (HOLT.out _ e.symm).1; have := HGW.out; omega
      intro v8 w8 ho8 hg8 hne8 hb8
      obtain ⟨a8, c8, rfl, hc8, -, -⟩ := own_at0 ho8 (cat_range (bls_range HT.out j) HBK.out)
      have hL8 : Hid ((bls l j ++ bkb (ck 20 l j)).length = (bls l (j + 1)).length) := hide rfl
      rw [hL8.out] at ho8 ⊢
      generalize hL8' : (bls l (j + 1)).length = L8 at ho8 ⊢
      have KB8 := hide (KB7.out.below hb8 HGW.out)
      have d0 : w8.cell? ⟨G + 1, 1, none⟩ = some (.slice a1 L1 c1) := KB8.out.cell rfl
      have d1 : w8.frozen? ⟨G + 1, 1, none⟩ = false := KB8.out.free 1
      have CH8 : Hid (Ch (fun b => b < w4.heap.size ∧ w2.heap.size ≤ b) w7 w8) := hide ⟨hg8.os, hg8.tape, hg8.output, hg8.size, fun k hk hp => hg8.block k hk (fun e => hp ⟨Nat.lt_of_lt_of_le (HOLT.out k e.symm).2 HS4.out, (HOLT.out k e.symm).1⟩)⟩
      have HO8 := hide ho8
      have HL8 := hide hL8'
      clear ho8 hg8 hb8 hne8 hL8' e0
      go_wp2
      go_roundw
      case rel =>
        have hgw := HGW.out
        have c9 := Ch.set (P := fun b => b = G + 1) w8 ⟨G + 1, 1, none⟩ (.slice a8 L8 c8) rfl
        have hch := ((CH6.out.trans (Ch.of HB7.out)).trans (CH8.out.mono fun i _ h => .inr h.2)).trans (c9.mono fun i _ h => .inl h)
        refine ⟨j + 1, by omega, by go_num, hide ⟨Clep.Below.ch B2.out hch (by have := HW2.out; omega) (fun i hi => by have := HG.out; have := HW2.out; rcases hi with hi | hi <;> omega), hch, a8, c8, a5, L5, c5, ?_, ?_, ?_, HC5.out, fun h0 x hx => Nat.le_trans (Nat.le_trans HWR.out HS4.out) (HO5.out h0 x hx)⟩⟩
        · rw [HL8.out]; exact KB8.out.set 1 _
        · rw [HL8.out]
          exact own_blk (show Own w8 w2.heap.size (.slice a8 L8 c8) (bls l (j + 1)) from HO8.out) (fun g h1 h2 => c9.block g h2 (by omega))
        · rw [show ixs l (j + 1) = ixs l j ++ pu (L1 : Int) ++ ibn ((ck 20 l j).take 1) from by rw [← HL1.out]; rfl]
          refine HBS5.out.ch (P := fun b => b < w4.heap.size) ?_ (fun h0 x hx e => by have := HO5.out h0 x hx; omega)
          exact ((CH5.out.trans (Ch.of HB7.out)).trans (CH8.out.mono fun i _ h => h.1)).trans (c9.mono fun i _ h => by have := KB4.out.lt; omega)
      case measure => simp [intOf]; omega
    · obtain rfl : j = N := by omega
      obtain ⟨W5, hW5⟩ : ∃ W5, W5 = wr := ⟨_, rfl⟩
      subst hW5
      obtain ⟨a1, c1, a2, n2, c2, hbk, hown, hbs, hcap2, hnew2⟩ := hla.out.ex
      obtain ⟨a1', c1', e1, hc1, hbs1, hnew1⟩ := own_at0 hown (bls_range HT.out j)
      cases e1
      obtain ⟨L1, hL1⟩ : ∃ L1, (bls l j).length = L1 := ⟨_, rfl⟩
      rw [hL1] at hbk hbs1 hnew1
      have HL1 := hide hL1
      have HN1 := hide (fun h0 x hx => show w2.heap.size ≤ x.block from (hnew1 h0 x hx).1)
      have HN2 := hide hnew2
      have KB := hide hbk
      have HBA := hide hbs1
      have HBI := hide hbs
      have KGr := hide (HKG.out.ch hla.out.ch (by have := HW2.out; have := HG.out; omega))
      have HNW := hide (one_new W5 W5 (fun _ => False) n 10 (by omega) (by omega) (Nat.le_refl _) (fun _ h => h.elim))
      have HWR := hide (show w.heap.size ≤ W5.heap.size from hla.out.bel.size)
      have BR := hide hla.out.bel
      have HIr := hide (HI.out.below hla.out.bel (Nat.le_refl _))
      have HCC := hide (And.intro hc1 hcap2)
      clear hbk hbs1 hbs hown hL1 hla HLA HRW HKG HI2 hc1 hcap2 hnew1 hnew2
      go_wp2_with fail
      refine HNW.out.mono ?_
      rintro e w5 ⟨M, rfl, hone, hb5, hM1, hM2⟩
      rw [show sOf n 10 = tS l from by unfold tS; rw [hln], show kOf 10 = 7 from rfl] at hone
      have KB5 := hide (KB.out.keep hb5)
      have e0 : w5.cell? ⟨G + 1, 3, none⟩ = some (.pointer none) := KB5.out.cell rfl
      have e1 : w5.frozen? ⟨G + 1, 3, none⟩ = false := KB5.out.free 3
      have KB6 : Hid (Blk (w5.setCell ⟨G + 1, 3, none⟩ (.pointer (some ⟨M, 0, none⟩))) (G + 1) (ptV n (.slice a1 L1 c1) (.slice a2 n2 c2) (some ⟨M, 0, none⟩)) 59) := hide (KB5.out.set 3 _)
      have hGW : G + 1 < W5.heap.size := KB.out.lt
      have CQ := hide ((Ch.of (P := fun b => b = G + 1) hb5).trans (Ch.set w5 ⟨G + 1, 3, none⟩ (.pointer (some ⟨M, 0, none⟩)) rfl))
      have HON : Hid (One W5 (w5.setCell ⟨G + 1, 3, none⟩ (.pointer (some ⟨M, 0, none⟩))) (fun _ => False) M 7 (tS l) 0) := hide (hone.ch (Ch.set (P := fun b => b = G + 1) w5 ⟨G + 1, 3, none⟩ _ rfl) (fun b hb => .inr (by rw [hb]; exact hGW)))
      have HGW5 := hide hGW
      obtain ⟨w6, hw6⟩ : ∃ w6, w6 = w5.setCell ⟨G + 1, 3, none⟩ (.pointer (some ⟨M, 0, none⟩)) := ⟨_, rfl⟩
      rw [← hw6] at KB6 CQ HON
      have B6 : Hid (Below w.heap.size w w6) := hide (Clep.Below.ch BR.out CQ.out HWR.out (fun i hi => by rw [hi]; have := HG.out; omega))
      have HIM : Hid (∀ W, Below W5.heap.size w6 W → Is W a n c l) := hide (fun W hW => HI.out.below (B6.out.trans (hW.mono HWR.out)) (Nat.le_refl _))
      clear hone hb5 hM1 hM2 HNW hGW
      go_wp2_with fail
      rw [← hw6]
      clear hw6 e0 e1
      go_loopw [57] (fun i wr => ∃ k : Nat, k ≤ n ∧ i = .int .i64 k ∧ Hid (One W5 wr (fun _ => False) M 7 (tS l) (fN (tS l) (l.take k))) ∧ Hid (Below W5.heap.size w6 wr)) (fun i _ => n - (intOf i).toNat)
      case atStart => exact ⟨0, by omega, rfl, HON, hide (Below.refl _ _)⟩
      case round =>
        obtain ⟨k, hk, rfl, hon, hbl⟩ := hrel
        by_cases hlt : k < n
        · obtain ⟨b0, off, ea, hcell⟩ := (HIM.out _ hbl.out).2.2.2 (by omega)
          subst ea
          obtain ⟨x, hx⟩ : ∃ x, l[k]? = some x := ⟨_, List.getElem?_eq_getElem (by rw [hln]; exact hlt)⟩
          have hv := hcell k x hx
          have hwx := hide (HT.out.wf x (List.mem_of_getElem? hx))
          have HFN : Hid (fN (tS l) (l.take (k + 1)) = addk (fnv (kb x.S x.K x.T)) (tS l) 7 (fN (tS l) (l.take k))) := hide (by
            unfold fN; rw [List.take_add_one, hx]; simp)
          obtain ⟨S, K, T, V, X⟩ := x
          unfold Vt Vi at hv
          simp only at hv HFN
          obtain ⟨v0, v1, v2, v3, v4⟩ := hv
          have A1 := (Below.refl _ wr).alloc (Nat.le_refl _) (Obj.cells #[Value.int IntKind.i64 S, Value.int IntKind.i64 K, Value.int IntKind.u64 T, Value.int IntKind.u64 V, Value.int IntKind.i64 X] 25)
          have X1 := vi_new wr S K T V X
          obtain ⟨R, hR⟩ : ∃ R, R = wr.heap.size := ⟨_, rfl⟩
          obtain ⟨w3, hw3⟩ : ∃ w3, w3 = wr.alloc (Obj.cells #[Value.int IntKind.i64 S, Value.int IntKind.i64 K, Value.int IntKind.u64 T, Value.int IntKind.u64 V, Value.int IntKind.i64 X] 25) := ⟨_, rfl⟩
          rw [← hw3] at A1 X1
          have hs3 : w3.heap.size = wr.heap.size + 1 := by rw [hw3]; simp
          have HO3 : Hid (One W5 w3 (fun b => b = R) M 7 (tS l) (fN (tS l) (l.take k))) := hide (hon.out.more w3 A1 (fun b hb => .inr (by omega)))
          rw [← hR] at X1
          obtain ⟨P, hP⟩ : ∃ P : Nat → Prop, P = fun b => W5.heap.size ≤ b ∧ ¬ (b = R) := ⟨_, rfl⟩
          have HPR : Hid (¬ P R) := hide (by rw [hP]; simp)
          have HPG : Hid (¬ P (G + 1)) := hide (by rw [hP]; have := HGW5.out; omega)
          have KB3 := hide (show Blk w3 (G + 1) _ _ from (KB6.out.below hbl.out HGW5.out).keep A1)
          have HK : Hid (∀ W, Ch P w3 W → (Ch P w3 W ∧ W.cell? ⟨G + 1, 3, none⟩ = some (.pointer (some ⟨M, 0, none⟩)) ∧ W.cell? ⟨R, 0, none⟩ = some (.int .i64 S) ∧ W.cell? ⟨R, 1, none⟩ = some (.int .i64 K) ∧ W.cell? ⟨R, 2, none⟩ = some (.int .u64 T) ∧ W.cell? ⟨R, 3, none⟩ = some (.int .u64 V) ∧ W.cell? ⟨R, 4, none⟩ = some (.int .i64 X))) := hide fun W hW => by
            have q := X1.ch hW HPR.out
            unfold Vi at q
            simp only [Nat.zero_add] at q
            exact ⟨hW, (KB3.out.ch hW HPG.out).cell rfl, q.1, q.2.1, q.2.2.1, q.2.2.2.1, q.2.2.2.2⟩
          have cH : Hid (∀ W, Below w3.heap.size w3 W → Calls Tryz.prog 46 #[.agg #[.int .i64 S, .int .i64 K, .int .u64 T, .int .u64 V, .int .i64 X]] W fun e w' => ∃ a9 c9, e = .returned (.slice a9 10 c9) ∧ Below w3.heap.size w3 w' ∧ Ch P w3 w' ∧ Hid (Bs w' a9 10 c9 (kb S K T)) ∧ Hid (0 < 10 → ∀ x, a9 = some x → w3.heap.size ≤ x.block)) := hide fun W hW =>
            (key_any S K T V X W hwx.out.2.2.1).mono fun e w' ⟨v, h1, h2, h3⟩ => by
              obtain ⟨a9, c9, e9, _, hb9, hl9⟩ := own_at0 h2 (kb_range S K T)
              rw [show ([S % 256, K % 256] ++ e8 T 8).length = 10 from kb_len S K T] at e9 hb9 hl9
              exact ⟨a9, c9, by rw [h1, e9], hW.trans (h3.mono hW.size), (Ch.of hW).trans (Ch.of h3), hide hb9, hide (fun h0 x hx => Nat.le_trans hW.size (hl9 h0 x hx).1)⟩
          have cP : Hid (∀ W a9 c9, Below w3.heap.size w3 W → Hid (Bs W a9 10 c9 (kb S K T)) → Hid (0 < 10 → ∀ x, a9 = some x → w3.heap.size ≤ x.block) → Calls Tryz.prog 57 #[.pointer (some ⟨M, 0, none⟩), .slice a9 10 c9] W fun e w' => e = .returned (.tuple #[]) ∧ Ch P w3 w' ∧ Hid (One W5 w' (fun _ => False) M 7 (tS l) (fN (tS l) (l.take (k + 1)))) ∧ Hid (Below W5.heap.size w6 w')) := hide fun W a9 c9 hW hz9 hf9 =>
            (one_add1 W5 w3 W M 7 (tS l) (fN (tS l) (l.take k)) (fun b => b = R) HO3.out hW a9 10 c9 (kb S K T) (by omega) hz9.out hf9.out).mono fun e w' ⟨h1, h2, h3⟩ => ⟨h1, by rw [hP]; exact h3, hide (by
              rw [HFN.out]
              obtain ⟨⟨Q, q1, q2⟩, q3, q4⟩ := h2
              exact ⟨⟨Q, q1, fun b hb => ⟨(q2 b hb).1, fun h => h⟩⟩, q3, fun b hb => hb.elim⟩), hide ((hbl.out.trans (A1.mono hon.out.size)).trans (Ch.below (show Ch (fun b => W5.heap.size ≤ b ∧ ¬ (b = R)) w3 w' from h3) (by rw [hs3]; have := hon.out.size; omega) (fun i hi => hi.1)))⟩
          have hk0 : Ch P w3 w3 := Ch.of (Below.refl _ _)
          have hk1 : Ch P w3 w3.drew := Ch.of (Below.refl _ _).drew
          have hb0 : Below w3.heap.size w3 w3 := Below.refl _ _
          have hb1 : Below w3.heap.size w3 w3.drew := (Below.refl _ _).drew
          obtain ⟨-, gM, g0, g1, g2, g3, g4⟩ := HK.out _ hk0
          clear hcell hx A1 X1 hP hs3
          go_wp2_with fail
          rw [← hw3, ← hR]
          clear hw3 hR v0 v1 v2 v3 v4
          go_region_held_law (fun W => Ch P w3 W ∧ W.cell? ⟨G + 1, 3, none⟩ = some (.pointer (some ⟨M, 0, none⟩)) ∧ W.cell? ⟨R, 0, none⟩ = some (.int .i64 S) ∧ W.cell? ⟨R, 1, none⟩ = some (.int .i64 K) ∧ W.cell? ⟨R, 2, none⟩ = some (.int .u64 T) ∧ W.cell? ⟨R, 3, none⟩ = some (.int .u64 V) ∧ W.cell? ⟨R, 4, none⟩ = some (.int .i64 X))
            (first | exact HK.out _ (by with_reducible assumption) | exact HK.out _ hk1 | exact HK.out _ hk0)
            (first
            | (go_at_call 46; refine (cH.out _ (by with_reducible assumption)).mono ?_; rintro e w' ⟨a9, c9, rfl, hb7, hc7, hz7, hf7⟩)
            | (go_at_call 57; refine (cP.out _ _ _ (by with_reducible assumption) (by with_reducible assumption) (by with_reducible assumption)).mono ?_; rintro e w'' ⟨rfl, hc8, hon8, hbl8⟩))
          all_goals
            rename_i hX
            clear hX hc8 hc7 hb7 hz7 hf7 cP cH HK gM g0 g1 g2 g3 g4 hk0 hk1 hb0 hb1
            go_wp2
            go_roundw
            case rel => first | exact ⟨k + 1, by omega, by go_num, hon8, hbl8⟩ | ((repeat apply Exists.intro); exact ⟨⟨k + 1, by omega, by go_num, hon8, hbl8⟩, rfl⟩)
            case measure => simp [intOf]; omega
        · obtain rfl : k = n := by omega
          have KR := hide (KB6.out.below hbl.out HGW5.out)
          have KG9 := hide ((KGr.out.ch CQ.out (by omega)).below hbl.out KGr.out.lt)
          have r0 : wr.cell? ⟨G + 1, 0, none⟩ = some (.int .i64 (k : Int)) := KR.out.cell rfl
          have r1 : wr.cell? ⟨G + 1, 1, none⟩ = some (.slice a1 L1 c1) := KR.out.cell rfl
          have r2 : wr.cell? ⟨G + 1, 2, none⟩ = some (.slice a2 n2 c2) := KR.out.cell rfl
          have r3 : wr.cell? ⟨G + 1, 3, none⟩ = some (.pointer (some ⟨M, 0, none⟩)) := KR.out.cell rfl
          have z0 : wr.cell? ⟨G, 0, none⟩ = some (.int .i64 0) := KG9.out.cell rfl
          have z1 : wr.cell? ⟨G, 1, none⟩ = some (.slice none 0 0) := KG9.out.cell rfl
          have z2 : wr.cell? ⟨G, 2, none⟩ = some (.slice none 0 0) := KG9.out.cell rfl
          have z3 : wr.cell? ⟨G, 3, none⟩ = some (.pointer none) := KG9.out.cell rfl
          have f0 := KG9.out.free 0
          have f1 := KG9.out.free 1
          have f2 := KG9.out.free 2
          have f3 := KG9.out.free 3
          have KS : Hid (Blk ((((wr.setCell ⟨G, 0, none⟩ (.int .i64 (k : Int))).setCell ⟨G, 1, none⟩ (.slice a1 L1 c1)).setCell ⟨G, 2, none⟩ (.slice a2 n2 c2)).setCell ⟨G, 3, none⟩ (.pointer (some ⟨M, 0, none⟩))) G (ptV k (.slice a1 L1 c1) (.slice a2 n2 c2) (some ⟨M, 0, none⟩)) 59) := hide ((((KG9.out.set 0 _).set 1 _).set 2 _).set 3 _)
          have CS : Hid (Ch (fun b => b = G) wr ((((wr.setCell ⟨G, 0, none⟩ (.int .i64 (k : Int))).setCell ⟨G, 1, none⟩ (.slice a1 L1 c1)).setCell ⟨G, 2, none⟩ (.slice a2 n2 c2)).setCell ⟨G, 3, none⟩ (.pointer (some ⟨M, 0, none⟩)))) := hide ((((Ch.set (P := fun b => b = G) wr ⟨G, 0, none⟩ _ rfl).trans (Ch.set _ ⟨G, 1, none⟩ _ rfl)).trans (Ch.set _ ⟨G, 2, none⟩ _ rfl)).trans (Ch.set _ ⟨G, 3, none⟩ _ rfl))
          have HGL : Hid (G < W5.heap.size) := hide KGr.out.lt
          have HSW : Hid (W5.heap.size ≤ wr.heap.size) := hide hon.out.size
          have BW : Hid (Below w.heap.size w wr) := hide (B6.out.trans (hbl.out.mono HWR.out))
          clear KG9
          go_wp2_with fail
          refine bodyPost_ret (lay_results KS.out _ rfl) rfl ?_
          have hL : L1 = (tA l).length := by rw [← HL1.out]; unfold tA; rw [HN.out]
          have hL2 : n2 = (tI l).length := by rw [← HBI.out.1]; unfold tI; rw [HN.out]
          have cW : Ch (fun b => b = G + 1 ∨ W5.heap.size ≤ b) W5 wr := (CQ.out.mono fun i _ h => .inl h).trans ⟨hbl.out.os, hbl.out.tape, hbl.out.output, hbl.out.size, fun i hi hp => hbl.out.block i (by omega)⟩
          have eA : bls l j = tA l := by unfold tA; rw [HN.out]
          have eI : ixs l j = tI l := by unfold tI; rw [HN.out]
          refine ⟨a1, c1, a2, c2, M, by rw [← hL, ← hL2], Clep.Below.ch BW.out CS.out BW.out.size (fun i hi => by rw [hi, HG.out]; exact Nat.le_refl _), HCC.out.1, HCC.out.2, W5, HWR.out, ?_, ?_, ?_, ?_, ?_⟩
          · rw [← hL, ← eA]
            refine (HBA.out.ch cW (fun h0 x hx e => ?_)).ch CS.out (fun h0 x hx e => ?_)
            · have q1 := HN1.out h0 x hx; have q2 := blk_bs_lt HBA.out h0 x hx; have := HW2.out; have := HG.out; rcases e with e | e <;> omega
            · have q1 := HN1.out h0 x hx; have := HW2.out; have := HG.out; omega
          · rw [← hL2, ← eI]
            refine (HBI.out.ch cW (fun h0 x hx e => ?_)).ch CS.out (fun h0 x hx e => ?_)
            · have q1 := HN2.out h0 x hx; have q2 := blk_bs_lt HBI.out h0 x hx; have := HW2.out; have := HG.out; rcases e with e | e <;> omega
            · have q1 := HN2.out h0 x hx; have := HW2.out; have := HG.out; omega
          · rw [← hL]; exact fun h0 x hx e => by have := blk_bs_lt HBA.out h0 x hx; omega
          · rw [← hL2]; exact fun h0 x hx e => by have := blk_bs_lt HBI.out h0 x hx; omega
          · have := hon.out
            rw [show l.take k = l from by rw [← hln]; exact List.take_length] at this
            exact this.ch CS.out (fun b hb => .inr (by rw [hb]; exact HGL.out))
end Go.Proofs.YtodhljiboakjnaaGreat.Clep
