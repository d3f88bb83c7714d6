/- What the document's own Split (package clepsydraref1) does when called: for any text of at most a million bytes. -/
import Derived.Test.YtfcakghegdaeoabRefUnframe
import Derived.Test.YtfcakghegdaeoabFSplitM
import Derived.Maps.AppendAt
namespace Go.Proofs.Ytfcakghegdaeoab.Clep
open Go.RowKit
set_option linter.unusedVariables false

theorem infoS : (Try.prog.info? 9).map (fun i => (i.zero, i.size, i.bytes)) = some (some (.string ⟨#[]⟩), 1, 16) := by kernel_rfl
/-- The bodies of the first j frames, as texts. -/
def sk (F : List (Int × List Int)) (j : Nat) : List Value := (F.take j).map fun x => Value.string (strOfNums x.2)
theorem sk_succ (F : List (Int × List Int)) (j : Nat) (h : j < F.length) : sk F (j + 1) = sk F j ++ [Value.string (strOfNums (F.getD j (0, [])).2)] := by
  unfold sk
  rw [List.take_succ_eq_append_getElem h, List.map_append]
  simp [List.getD, List.getElem?_eq_getElem h]
/-- Two rows that do not share a block. -/
def Apart (x y : Value) : Prop := ∀ b, x.ownBlock = some b → y.ownBlock ≠ some b
theorem Apart.or {x y : Value} (h : Apart x y) : y.ownBlock = none ∨ y.ownBlock ≠ x.ownBlock := by
  cases hy : y.ownBlock with
  | none => exact .inl rfl
  | some b => exact .inr fun e => h b e.symm hy
theorem Apart.symm {x y : Value} (h : Apart x y) : Apart y x := fun b hy hx => h b hx hy
theorem Apart.new {x x' y : Value} {w : World} {B e s n : Nat} {ys : List Value} (h : Apart x y) (hx : x'.ownBlock = x.ownBlock ∨ x'.ownBlock = some w.heap.size) (hy : w.ownsRow B e s y n ys) : Apart x' y := by
  intro b hb hyb
  rcases hx with hx | hx
  · exact h b (by rw [← hx]; exact hb) hyb
  · rw [hx] at hb
    cases hb
    exact Nat.lt_irrefl _ (hy.lt _ hyb).2

set_option maxHeartbeats 800000 in
theorem refsplit_any (zs : List Int) (w : World) (hm : zs.length ≤ 1000000) (hr : ByteL zs) (n : Nat) (hn : (SP zs).1.length = n) :
    Calls Try.prog 19 #[.string (strOfNums zs)] w fun e w' => ∃ kv bv : Value, e = .returned (.tuple #[kv, bv, .int .i64 ((SP zs).2.1 : Nat), .int .i64 (SP zs).2.2]) ∧
      w'.ownsRow w.heap.size 3 1 kv n (ik (SP zs).1 n) ∧ w'.ownsRow w.heap.size 9 1 bv n (sk (SP zs).1 n) ∧ Below w.heap.size w w' := by
  obtain ⟨iI, hiI, hzI0, hzI1, hzI2⟩ := info_parts infoI
  obtain ⟨iS, hiS, hzS0, hzS1, hzS2⟩ := info_parts infoS
  have hs : (strOfNums zs).size = zs.length := str_size zs
  have hnl : n ≤ zs.length := by rw [← hn]; exact SP_len zs
  have cU := hide (fun P W (hP : P ≤ zs.length) => unframe_any zs P W hm hr hP)
  have HN := hide hn
  have HR := hide hr
  generalize hF : (SP zs).1 = F at *
  have HF := hide hF
  generalize hE1 : (SP zs).2.1 = E1 at *
  generalize hE2 : (SP zs).2.2 = E2 at *
  have HE1 := hide hE1
  have HE2 := hide hE2
  clear hn hr hF hE1 hE2
  generalize strOfNums zs = S at *
  generalize hlen : zs.length = len at *
  have HL := hide hlen
  clear hlen
  go_enter Try.func19, Try.ntmps19
  go_wp2
  go_loopw [6, 7, 8] (fun kv bv u wr => ∃ j P : Nat, u = .int .i64 P ∧ j ≤ P ∧ P ≤ len ∧ Hid (At zs j P) ∧ Hid (wr.ownsRow w.heap.size 3 1 kv j (ik F j)) ∧ Hid (wr.ownsRow w.heap.size 9 1 bv j (sk F j)) ∧ Hid (Apart kv bv) ∧ Hid (Below w.heap.size w wr)) (fun _ _ u _ => len - (intOf u).toNat)
  case atStart => exact ⟨0, 0, rfl, by omega, by omega, hide (At.start zs), hide (World.ownsRow_nil _ _ _ _), hide (World.ownsRow_nil _ _ _ _), hide (fun b h => by cases h), hide (Below.refl _ _)⟩
  case round =>
    obtain ⟨j, P, rfl, hjP, hP, hat, hK, hS, hap, hB⟩ := hrel
    by_cases hlt : P < len
    · have C := hide (cU.out P wr hP)
      unfold un at C
      by_cases hc : ce (zs.drop P) = 0
      · rw [if_pos hc] at C
        have hst := hat.out.step hc
        have hk := ce_ok _ hc
        have hlr := ln_range (zs.drop P) (range_of (ByteL.drop HR.out P))
        rw [List.length_drop, HL.out] at hk
        have hel := hst.2.2
        have hjn := hst.2.1
        rw [HF.out] at hel hjn
        have HKS := hide (ik_succ F j hjn)
        have HSS := hide (sk_succ F j hjn)
        rw [hel] at HKS HSS
        have HST := hide hst.1
        simp only at HKS HSS
        clear hst hel
        rw [HN.out] at hjn
        generalize strOfNums (bo (zs.drop P)) = SB at *
        generalize kd (zs.drop P) = K at *
        generalize ln (zs.drop P) = L at *
        obtain ⟨N, rfl⟩ := Int.eq_ofNat_of_zero_le hlr.1
        simp only [Int.toNat_natCast] at HST hk
        have hPN : P + (N + 12) ≤ len := by omega
        clear hk hlr
        go_wp2_with fail
        refine C.out.mono ?_
        rintro e w1 ⟨rfl, hb1⟩
        have HK1 := hide (row_keep hK.out hb1)
        have HS1 := hide (row_keep hS.out hb1)
        have HB1 := hide (hB.out.trans (hb1.mono hB.out.size))
        clear hb1 C
        go_wp2_with (first
          | (at_builtin; refine wpList_append_own_at _ rfl _ _ 28 rfl w.heap.size 3 iI (.int .i64 0) 1 8 Try.underlying28 hiI hzI0 hzI1 hzI2 rfl (by decide) _ _ _ rfl (HK1.out.alloc _) ⟨w1.heap.size, 0, none⟩ 1 1 [.int .i64 K] rfl rfl ?d1 ?d2 ?d3 ?d4 ?d5 ?_)
          | fail)
        case d1 => exact cell_one_new _ _ _
        case d2 => intro u hu; simp at hu; subst hu; rfl
        case d3 => unfold maxLen; omega
        case d4 => omega
        case d5 => have := HB1.out.size; simp; omega
        intro kv2 w2 ho2 hg2 _ hat2
        have hS1a := HS1.out.alloc (Obj.cells #[Value.int IntKind.i64 K] 3)
        have bA := HB1.out.alloc HB1.out.size (Obj.cells #[Value.int IntKind.i64 K] 3)
        have HK2 := hide (show w2.ownsRow w.heap.size 3 1 kv2 (j + 1) (ik F (j + 1)) from by rw [HKS.out]; exact ho2)
        have HS2 := hide (hS1a.kept hg2 hap.out.or)
        have HB2 := hide (bA.grown hg2 bA.size (fun k hk => (HK1.out.lt k hk).1))
        have HA2 := hide (hap.out.new (by rw [World.size_alloc]; exact hat2) hS1a)
        clear ho2 hg2 hat2 hS1a bA HK1 HS1 HB1
        go_wp2_with (first
          | (at_builtin; refine wpList_append_own_at _ rfl _ _ 44 rfl w.heap.size 9 iS (.string ⟨#[]⟩) 1 16 Try.underlying44 hiS hzS0 hzS1 hzS2 rfl (by decide) _ _ _ rfl (HS2.out.alloc _) ⟨w2.heap.size, 0, none⟩ 1 1 [.string SB] rfl rfl ?e1 ?e2 ?e3 ?e4 ?e5 ?_)
          | fail)
        case e1 => exact cell_one_new _ _ _
        case e2 => intro u hu; simp at hu; subst hu; rfl
        case e3 => unfold maxLen; omega
        case e4 => omega
        case e5 => have := HB2.out.size; simp; omega
        intro bv2 w3 ho3 hg3 _ hat3
        have hK2a := HK2.out.alloc (Obj.cells #[Value.string SB] 9)
        have bA := HB2.out.alloc HB2.out.size (Obj.cells #[Value.string SB] 9)
        have HS3 := hide (show w3.ownsRow w.heap.size 9 1 bv2 (j + 1) (sk F (j + 1)) from by rw [HSS.out]; exact ho3)
        have HK3 := hide (hK2a.kept hg3 HA2.out.symm.or)
        have HB3 := hide (bA.grown hg3 bA.size (fun k hk => (HS2.out.lt k hk).1))
        have HA3 := hide (HA2.out.symm.new (by rw [World.size_alloc]; exact hat3) hK2a).symm
        clear ho3 hg3 hat3 hK2a bA HK2 HS2 HB2
        go_wp2
        go_roundw
        case rel => exact ⟨j + 1, P + (N + 12), by rw [show (P : Int) + 12 + (N : Int) = ((P + (N + 12) : Nat) : Int) from by omega], by omega, hPN, HST, HK3, HS3, HA3, HB3⟩
        case measure => simp [intOf]; omega
      · rw [if_neg hc] at C
        have hst := hat.out.stop (by rw [HL.out]; exact hlt) hc
        rw [HF.out, HN.out, HE1.out, HE2.out] at hst
        obtain ⟨rfl, rfl, hee⟩ := hst
        rw [← hee] at C
        have hne : ¬ E2 = 0 := by rw [hee]; exact hc
        clear hee hc
        go_wp2_with fail
        refine C.out.mono ?_
        rintro e w1 ⟨rfl, hb1⟩
        have HK1 := hide (row_keep hK.out hb1)
        have HS1 := hide (row_keep hS.out hb1)
        have HB1 := hide (hB.out.trans (hb1.mono hB.out.size))
        clear hb1 C
        go_wp2
        refine bodyPost_ret (v := .tuple #[u6, u7, .int .i64 (E1 : Nat), .int .i64 E2]) (by simp [results, Try.results19, go_sem]) rfl ⟨u6, u7, rfl, HK1.out, HS1.out, HB1.out⟩
    · have h8 : P = len := by omega
      have hst := hat.out.end (by rw [HL.out]; exact h8)
      rw [HF.out, HN.out, HE1.out, HE2.out] at hst
      obtain ⟨rfl, rfl, rfl⟩ := hst
      go_wp2
      refine bodyPost_ret (v := .tuple #[u6, u7, .int .i64 (E1 : Nat), .int .i64 0]) (by simp [results, Try.results19, go_sem]) rfl ⟨u6, u7, rfl, hK.out, hS.out, hB.out⟩

end Go.Proofs.Ytfcakghegdaeoab.Clep
