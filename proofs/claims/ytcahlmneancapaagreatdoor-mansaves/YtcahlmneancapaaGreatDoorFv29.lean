/- The region of x, ok := F(v, l[i]): what each slot holds once its operation has come up. No conditions. -/
import Derived.Test.YtcahlmneancapaaGreatDoorFv12
import Derived.Test.YtcahlmneancapaaGreatDoorFv26
import Derived.Test.YtcahlmneancapaaGreatDoorFv27
import Derived.Test.YtcahlmneancapaaGreatDoorFv14
import Derived.Test.YtcahlmneancapaaGreatDoorFv02
import Derived.BigRegion
import Derived.Deep.CutRange
import Derived.Test.YtcahlmneancapaaGreatDoorFv28
namespace Go.Proofs.YtcahlmneancapaaGreatDoor.Clep
open Go.RowKit
set_option linter.unusedVariables false
set_option maxRecDepth 10000

/-- What each slot of the region holds. -/
def PTh (H : Nat) (VC : Value) (ao : Option Addr) (len cap k b off : Nat) (YV : Value) (N : Nat) (X : Vw) (o : Bool) : (Nat → Bool) → Nat → Value → World → Prop := fun L i v W => match i with
  | 0 => v = VC
  | 1 => v = .slice ao len cap
  | 2 => v = .int .i64 (k : Int)
  | 3 => v = .pointer (some ⟨b, off + k * 7, none⟩)
  | 4 => v = YV
  | 5 => ∃ a c, v = .tuple #[.agg #[.int .i64 X.lg, .slice a N c, .int .u64 X.fl, .int .u64 X.ct, .int .u64 X.at9, .int .u64 X.ls], .bool o] ∧ c ≤ 9223372036854775807 ∧ (L 10 = false → OwnF W H (.slice a N c) X.f)
  | 6 => ∃ a c, v = .tuple #[.agg #[.int .i64 X.lg, .slice a N c, .int .u64 X.fl, .int .u64 X.ct, .int .u64 X.at9, .int .u64 X.ls], .bool o] ∧ c ≤ 9223372036854775807 ∧ (L 10 = false → OwnF W H (.slice a N c) X.f)
  | 7 => ∃ a c, v = .agg #[.int .i64 X.lg, .slice a N c, .int .u64 X.fl, .int .u64 X.ct, .int .u64 X.at9, .int .u64 X.ls] ∧ c ≤ 9223372036854775807 ∧ (L 10 = false → OwnF W H (.slice a N c) X.f)
  | 8 => v = .bool o
  | 9 => ∃ p, v = .pointer (some ⟨p, 0, none⟩) ∧ H ≤ p ∧ (L 10 = false → Ek W p #[.int .i64 0, .slice none 0 0, .int .u64 0, .int .u64 0, .int .u64 0, .int .u64 0] 31) ∧ (L 10 = true → ∃ a c, Ek W p #[.int .i64 X.lg, .slice a N c, .int .u64 X.fl, .int .u64 X.ct, .int .u64 X.at9, .int .u64 X.ls] 31 ∧ c ≤ 9223372036854775807 ∧ OwnF W H (.slice a N c) X.f)
  | 11 => v = .bool o
  | _ => True
theorem pth_keep {H : Nat} {VC : Value} {ao : Option Addr} {len cap i b off : Nat} {YV : Value} {N : Nat} {X : Vw} {o : Bool} {L L' : Nat → Bool} {W W' : World} (hL : L' 10 = L 10) (hb : Below W.heap.size W W') : ∀ j u, PTh H VC ao len cap i b off YV N X o L j u W → PTh H VC ao len cap i b off YV N X o L' j u W' := by
  intro j u h
  match j, h with
  | 0, h => exact h
  | 1, h => exact h
  | 2, h => exact h
  | 3, h => exact h
  | 4, h => exact h
  | 5, ⟨a, c, h1, h2, h3⟩ => exact ⟨a, c, h1, h2, fun e => ownF_keep (h3 (hL ▸ e)) hb⟩
  | 6, ⟨a, c, h1, h2, h3⟩ => exact ⟨a, c, h1, h2, fun e => ownF_keep (h3 (hL ▸ e)) hb⟩
  | 7, ⟨a, c, h1, h2, h3⟩ => exact ⟨a, c, h1, h2, fun e => ownF_keep (h3 (hL ▸ e)) hb⟩
  | 8, h => exact h
  | 9, ⟨p, h1, h2, h3, h4⟩ => exact ⟨p, h1, h2, fun e => (h3 (hL ▸ e)).below hb (h3 (hL ▸ e)).lt, fun e => by
      obtain ⟨a, c, h5, h6, h7⟩ := h4 (hL ▸ e)
      exact ⟨a, c, h5.below hb h5.lt, h6, ownF_keep h7 hb⟩⟩
  | 10, h => trivial
  | 11, h => exact h
  | k + 12, h => trivial
theorem pth_store {H : Nat} {VC : Value} {ao : Option Addr} {len cap i b off : Nat} {YV : Value} {N : Nat} {X : Vw} {o : Bool} {L L' : Nat → Bool} {W W' : World} (hL : L' 10 = true) : ∀ j u, (j = 9 → PTh H VC ao len cap i b off YV N X o L' 9 u W') → PTh H VC ao len cap i b off YV N X o L j u W → PTh H VC ao len cap i b off YV N X o L' j u W' := by
  intro j u h9 h
  match j, h with
  | 0, h => exact h
  | 1, h => exact h
  | 2, h => exact h
  | 3, h => exact h
  | 4, h => exact h
  | 5, ⟨a, c, h1, h2, h3⟩ => exact ⟨a, c, h1, h2, fun e => by rw [hL] at e; cases e⟩
  | 6, ⟨a, c, h1, h2, h3⟩ => exact ⟨a, c, h1, h2, fun e => by rw [hL] at e; cases e⟩
  | 7, ⟨a, c, h1, h2, h3⟩ => exact ⟨a, c, h1, h2, fun e => by rw [hL] at e; cases e⟩
  | 8, h => exact h
  | 9, h => exact h9 rfl
  | 10, h => trivial
  | 11, h => exact h
  | k + 12, h => trivial
/-- What the memory holds meanwhile. -/
def PG (wS : World) : (Nat → Bool) → World → Prop := fun L W => Below wS.heap.size wS W ∧ (L 10 = true → ∀ j, j < 10 → j ≠ 8 → L j = true)
theorem pg_upd {wS : World} {L : Nat → Bool} {W : World} (i : Nat) (hi : i ≠ 10) (h : PG wS L W) : PG wS (upd L i) W := ⟨h.1, fun e j hj h8 => upd_more (h.2 (by unfold upd at e; rwa [if_neg (Ne.symm hi)] at e) j hj h8)⟩
theorem pg_below {wS : World} {L : Nat → Bool} {W W' : World} (h : PG wS L W) (hb : Below W.heap.size W W') : PG wS L W' := ⟨h.1.trans (hb.mono h.1.size), h.2⟩
theorem pg10 {wS : World} {L : Nat → Bool} {W : World} (h : PG wS L W) {i : Nat} (hi : i < 10) (h8 : i ≠ 8) (hL : L i = false) : L 10 = false := by
  cases e : L 10 with
  | false => rfl
  | true => rw [h.2 e i hi h8] at hL; cases hL
theorem waits_but {ops : Array Oper} {i n k : Nat} (h : (List.range n).all (fun j => j == k || waits ops i j) = true) : ∀ j, j < n → j ≠ k → waits ops i j = true := fun j hj hk => by
  have := List.all_eq_true.1 h j (List.mem_range.2 hj)
  simpa [hk] using this
theorem upd10 {L : Nat → Bool} {i : Nat} (hi : 10 ≠ i) : upd L i 10 = L 10 := by unfold upd; rw [if_neg hi]

end Go.Proofs.YtcahlmneancapaaGreatDoor.Clep

/- What the statements' own edits does when called (a walk over the translated program): for any row of Edits. No conditions. Written by wip/tools/gen16eds.py. -/
namespace Go.Proofs.YtcahlmneancapaaGreatDoor.Clep
open Go.RowKit
set_option linter.unusedVariables false
set_option maxRecDepth 10000

def onevr : Vr := ⟨oneV, none, 0⟩
theorem cg_start (w : World) : Cg w ((w.alloc (Obj.cells #[.int .i64 1, .slice none 0 0, .int .u64 0, .int .u64 0, .int .u64 0, .int .u64 0] 31)).alloc (Obj.cells #[.int .i64 1, .slice none 0 0, .int .u64 0, .int .u64 0, .int .u64 0, .int .u64 0] 31)) (.slice (some ⟨w.heap.size + 1, 0, none⟩) 1 1) (.slice none 0 0) onevr [onevr] 34 7 0 [] := by
  have A0 := (Below.refl w.heap.size w).alloc (Nat.le_refl _) (Obj.cells #[.int .i64 1, .slice none 0 0, .int .u64 0, .int .u64 0, .int .u64 0, .int .u64 0] 31)
  have A1 := A0.alloc A0.size (Obj.cells #[.int .i64 1, .slice none 0 0, .int .u64 0, .int .u64 0, .int .u64 0, .int .u64 0] 31)
  have B1 := (Below.refl _ (w.alloc (Obj.cells #[.int .i64 1, .slice none 0 0, .int .u64 0, .int .u64 0, .int .u64 0, .int .u64 0] 31))).alloc (Nat.le_refl _) (Obj.cells #[.int .i64 1, .slice none 0 0, .int .u64 0, .int .u64 0, .int .u64 0, .int .u64 0] 31)
  have k0 := (ek_new w #[.int .i64 1, .slice none 0 0, .int .u64 0, .int .u64 0, .int .u64 0, .int .u64 0] 31).below B1 (by simp)
  have k1 := (fhpS (w.alloc (Obj.cells #[.int .i64 1, .slice none 0 0, .int .u64 0, .int .u64 0, .int .u64 0, .int .u64 0] 31)) (Obj.cells #[.int .i64 1, .slice none 0 0, .int .u64 0, .int .u64 0, .int .u64 0, .int .u64 0] 31) (w.heap.size + 1) (by simp))
  refine ⟨k0, own_one k1 (Nat.le_refl _) rfl, World.ownsRow_nil _ _ _ _, .inr (by simp [Value.ownBlock]), fun y hy => ?_, fun y hy p e => ?_, A1, by simp⟩
  · have : y = onevr := by rcases hy with e | e; exact e; exact List.mem_singleton.1 e
    subst this
    exact ⟨fs_nil _, by decide⟩
  · have : y = onevr := by rcases hy with e | e; exact e; exact List.mem_singleton.1 e
    subst this
    cases e
theorem cq_start : Cq [] [onevr] onevr := ⟨rfl, fun k y hk => by
  cases k with
  | zero => simp at hk; rw [← hk]; rfl
  | succ k => simp at hk, rfl, by simp⟩
theorem vok_wf9 {V : Vw} (h : vok V = true) : ∀ x ∈ V.f, x.wf := fun x hx => by
  have := List.all_eq_true.1 (vok_parts2 h).2.1 x hx
  unfold Fi.ok at this
  have h9 := of_decide_eq_true this
  unfold Fi.wf
  omega
/-- What edits holds between its rounds. -/
def EdL (ls : List Er) (w W : World) (v6 v7 : Value) (i : Nat) : Prop := ∃ vs gs x, Cg w W v6 v7 x vs 34 7 gs.length (ecs gs) ∧ Cq gs vs x ∧ (∀ y ∈ gs, y ∈ ls) ∧ gs.length ≤ i

set_option maxHeartbeats 8000000 in
theorem edits_any (ao : Option Addr) (len cap : Nat) (ls : List Er) (w : World) (h : ∀ W, Below w.heap.size w W → Es W ao len cap ls) (hlen : len ≤ 9223372036854775807) :
    Calls Tryz.prog 31 #[.slice ao len cap] w (EdA ls w) := by
  have HE := hide h
  clear h
  have S0 := hide (cg_start w)
  go_enter Tryz.func31, Tryz.ntmps31
  go_wp2_with fail
  generalize (w.alloc (Obj.cells #[.int .i64 1, .slice none 0 0, .int .u64 0, .int .u64 0, .int .u64 0, .int .u64 0] 31)).alloc (Obj.cells #[.int .i64 1, .slice none 0 0, .int .u64 0, .int .u64 0, .int .u64 0, .int .u64 0] 31) = wa at *
  go_loopw [6, 7, 8] (fun s6 s7 t wr => ∃ i : Nat, i ≤ len ∧ i ≤ 45 ∧ t = .int .i64 i ∧ Hid (EdL ls w wr s6 s7 i)) (fun _ _ t _ => 45 - (intOf t).toNat)
  case atStart => exact ⟨0, by omega, by omega, rfl, hide ⟨[onevr], [], onevr, S0.out, cq_start, by simp, by simp⟩⟩
  case round =>
    obtain ⟨i, hi, hi45, rfl, hst⟩ := hrel
    clear S0
    obtain ⟨wr', hwr⟩ : ∃ x, x = wr := ⟨_, rfl⟩
    subst hwr
    go_upto_region 5 with fail
    go_cut [21] from 14 to 59 (fun s21 wx => s21 = .bool (decide (i < len ∧ i < 45)) ∧ wr' = wx)
    case first =>
      clear hst HE
      by_cases hlt : i < len
      · have q1 : (i : Int) < (len : Int) := by omega
        by_cases hl2 : i < 45
        · have q2 : (i : Int) < 45 := by omega
          go_wp2_with fail
          go_meet
          case rel => exact ⟨by simp [hlt, hl2], rfl⟩
        · have q2 : ¬ (i : Int) < 45 := by omega
          go_wp2_with fail
          go_meet
          case rel => exact ⟨by simp [hl2], rfl⟩
      · have q1 : ¬ ((i : Int) < (len : Int)) := by omega
        go_wp2_with fail
        go_meet
        case rel => exact ⟨by simp [hlt], rfl⟩
    case rest =>
      obtain ⟨rfl, hwc⟩ := hcut
      obtain ⟨wr, hwr⟩ : ∃ x, x = wr' := ⟨_, rfl⟩
      subst hwr
      subst hwc
      obtain ⟨q, hq⟩ : ∃ q, decide (i < len ∧ i < 45) = q := ⟨_, rfl⟩
      rw [hq]
      obtain ⟨vs, gs, ⟨V, av, cv⟩, hcg, hcq, hgs, hgl⟩ := hst.out
      have CG := hide hcg
      have CQ := hide hcq
      have HGS := hide hgs
      have HGL := hide hgl
      have hvk := apE_vok _ _ _ hcq.last vok_one
      clear hst hcq hgs hgl
      cases q with
      | true =>
        obtain ⟨hl1, hl2⟩ := of_decide_eq_true hq
        obtain ⟨y, b, off, hy, rfl, hyo, c0, c1, c2, c3, c4, c5, c6⟩ := es_at (HE.out wr hcg.bel) i hl1
        have HYO := hide hyo
        have HY := hide hy
        have hdn := hyo.1.2
        have han := hyo.2.1.2
        have q1 : (i : Int) < (len : Int) := by omega
        obtain ⟨NV, hNV⟩ : ∃ n, V.f.length = n := ⟨_, rfl⟩
        have HNV := hide hNV
        have CF := hide (fun W => few_any y.da y.aa y.dn y.dc y.an y.ac y.E W hdn han)
        unfold edV at CF
        obtain ⟨of, hof⟩ : ∃ o, decide (y.dn ≤ 60 ∧ y.an ≤ 60) = o := ⟨_, rfl⟩
        rw [hof] at CF
        have HYL := hide (show of = true → y.dn ≤ 60 ∧ y.an ≤ 60 from fun e => of_decide_eq_true (hof.trans e))
        have HYC := hide (fun W (hW : Below wr.heap.size wr W) => And.intro ((hW.cell (p := ⟨b, off + i * 7, none⟩) (World.block_lt_of_cell? wr _ c0)).trans c0) ( And.intro ((hW.cell (p := ⟨b, off + i * 7 + 1, none⟩) (World.block_lt_of_cell? wr _ c1)).trans c1) ( And.intro ((hW.cell (p := ⟨b, off + i * 7 + 2, none⟩) (World.block_lt_of_cell? wr _ c2)).trans c2) ( And.intro ((hW.cell (p := ⟨b, off + i * 7 + 3, none⟩) (World.block_lt_of_cell? wr _ c3)).trans c3) ( And.intro ((hW.cell (p := ⟨b, off + i * 7 + 4, none⟩) (World.block_lt_of_cell? wr _ c4)).trans c4) ( And.intro ((hW.cell (p := ⟨b, off + i * 7 + 5, none⟩) (World.block_lt_of_cell? wr _ c5)).trans c5) ( ((hW.cell (p := ⟨b, off + i * 7 + 6, none⟩) (World.block_lt_of_cell? wr _ c6)).trans c6))))))))
        have hvl := hcg.z.lt
        have hbl : b < wr.heap.size := World.block_lt_of_cell? wr _ c0
        have hfv := hcg.fs ⟨V, av, cv⟩ (.inl rfl)
        simp only at hfv
        rw [hNV] at hfv
        have HFV := hide hfv
        have hnv40 : NV ≤ 40 := by
          have h1 := (vok_parts2 hvk).1
          unfold vwH at h1
          have h2 := of_decide_eq_true h1
          simp only at h2
          omega
        clear hyo hy hof hdn han hcg hNV hq hfv
        go_wp2_with fail
        refine (CF.out _).mono ?_
        rintro e w1 ⟨rfl, hb1⟩
        have HB1 := hide hb1
        have hs01 := hb1.size
        clear hb1 CF c0 c1 c2 c3 c4 c5 c6
        cases of with
        | false =>
          clear HYL HYC
          go_wp2
          refine bodyPost_ret (by simp [results, Tryz.results31, go_sem]) rfl (show EdA ls w (.returned (.tuple #[.slice none 0 0, .slice none 0 0, .bool false])) w1 from ⟨CG.out.bel.trans (HB1.out.mono CG.out.bel.size), .inl rfl⟩)
        | true =>
          have hyl := HYL.out (by first | rfl | trivial)
          obtain ⟨X, hX⟩ : ∃ X, apv (appl V y.E) = X := ⟨_, rfl⟩
          obtain ⟨o, ho⟩ : ∃ o, (appl V y.E).isSome = o := ⟨_, rfl⟩
          obtain ⟨N, hN⟩ : ∃ n, X.f.length = n := ⟨_, rfl⟩
          have HX := hide hX
          have HO := hide ho
          have HN := hide hN
          have HX1 := hide (show o = true → appl V y.E = some X from fun e => by
            rw [← ho] at e
            rw [← hX]
            cases hr : appl V y.E with
            | none => rw [hr] at e; cases e
            | some U => rfl)
          clear hX ho hN HYL
          go_upto_region 9 with fail
          go_cut [9, 10] from 14 to 59 (fun s9 s10 wx => s10 = .bool o ∧ Hid (∃ p a c, s9 = .pointer (some ⟨p, 0, none⟩) ∧ w1.heap.size ≤ p ∧ Ek wx p #[.int .i64 X.lg, .slice a N c, .int .u64 X.fl, .int .u64 X.ct, .int .u64 X.at9, .int .u64 X.ls] 31 ∧ c ≤ 9223372036854775807 ∧ OwnF wx w1.heap.size (.slice a N c) X.f ∧ Below w1.heap.size w1 wx))
          case first =>
            have HVW := hide (show ∀ W, Below w1.heap.size w1 W → Ek W w.heap.size #[.int .i64 V.lg, .slice av NV cv, .int .u64 V.fl, .int .u64 V.ct, .int .u64 V.at9, .int .u64 V.ls] 31 from fun W hW => by have := (Ek.below (show Ek wr w.heap.size _ _ from CG.out.z) HB1.out CG.out.z.lt).below hW (Nat.lt_of_lt_of_le CG.out.z.lt HB1.out.size); unfold Vr.cs at this; simp only at this; rw [HNV.out] at this; exact this)
            have HYC := hide (fun W (hW : Below w1.heap.size w1 W) => HYC.out W (HB1.out.trans (hW.mono HB1.out.size)))
            have CA := hide (show ∀ W, Below w1.heap.size w1 W → Calls Tryz.prog 26 #[.agg #[.int .i64 V.lg, .slice av NV cv, .int .u64 V.fl, .int .u64 V.ct, .int .u64 V.at9, .int .u64 V.ls], .agg #[.slice y.da y.dn y.dc, .slice y.aa y.an y.ac, .int .i64 y.E.lg, .int .u64 y.E.fl, .int .u64 y.E.ct, .int .u64 y.E.at9, .int .u64 y.E.ls]] W fun e w' => ∃ a c, e = .returned (.tuple #[.agg #[.int .i64 X.lg, .slice a N c, .int .u64 X.fl, .int .u64 X.ct, .int .u64 X.at9, .int .u64 X.ls], .bool o]) ∧ c ≤ 9223372036854775807 ∧ OwnF w' W.heap.size (.slice a N c) X.f ∧ Below W.heap.size W w' from fun W hW => by
              have hW2 : Below wr.heap.size wr W := HB1.out.trans (hW.mono HB1.out.size)
              have hyo := HYO.out.below hW2 (Nat.le_refl _)
              have hfv := HFV.out.1.below hW2 (Nat.le_refl _)
              refine (refapply_any av y.da y.aa NV cv y.dn y.dc y.an y.ac V y.E W hfv hyo.1.1 hyo.2.1.1 (by omega) (by omega) (by omega)).mono fun e w' h => ?_
              obtain ⟨a, c, h1, h2, h3, h4, h5⟩ := apr_any h
              rw [HX.out, HO.out, HN.out] at h1
              rw [HX.out, HN.out] at h3
              exact ⟨a, c, h1, h2, h3, h5⟩)
            clear CG CQ HGS HGL HX HO HN HX1 HE
            refine region_si (PTh w1.heap.size (.agg #[.int .i64 V.lg, .slice av NV cv, .int .u64 V.fl, .int .u64 V.ct, .int .u64 V.at9, .int .u64 V.ls]) (some ⟨b, off, none⟩) len cap i b off (.agg #[.slice y.da y.dn y.dc, .slice y.aa y.an y.ac, .int .i64 y.E.lg, .int .u64 y.E.fl, .int .u64 y.E.ct, .int .u64 y.E.at9, .int .u64 y.E.ls]) N X o) (PG w1) (by kernel_rfl) (by kernel_rfl) (by kernel_rfl) ?start ?step ?fin
            case start => exact ⟨(Below.refl _ w1).drew, fun e => (by cases e)⟩
            case step =>
              intro L A W i_ hI hi hLi hw
              have hi2 : i_ < 12 := hi
              rcases (show i_ = 0 ∨ i_ = 1 ∨ i_ = 2 ∨ i_ = 3 ∨ i_ = 4 ∨ i_ = 5 ∨ i_ = 6 ∨ i_ = 7 ∨ i_ = 8 ∨ i_ = 9 ∨ i_ = 10 ∨ i_ = 11 by omega) with rfl | rfl | rfl | rfl | rfl | rfl | rfl | rfl | rfl | rfl | rfl | rfl
              · have e0 := hI.kept 5 _ (by decide +kernel) rfl
                have c0 : W.cell? ⟨w.heap.size, 0, none⟩ = some (.int .i64 V.lg) := (HVW.out W hI.g.1).cell rfl
                have c1 : W.cell? ⟨w.heap.size, 1, none⟩ = some (.slice av NV cv) := (HVW.out W hI.g.1).cell rfl
                have c2 : W.cell? ⟨w.heap.size, 2, none⟩ = some (.int .u64 V.fl) := (HVW.out W hI.g.1).cell rfl
                have c3 : W.cell? ⟨w.heap.size, 3, none⟩ = some (.int .u64 V.ct) := (HVW.out W hI.g.1).cell rfl
                have c4 : W.cell? ⟨w.heap.size, 4, none⟩ = some (.int .u64 V.at9) := (HVW.out W hI.g.1).cell rfl
                have c5 : W.cell? ⟨w.heap.size, 5, none⟩ = some (.int .u64 V.ls) := (HVW.out W hI.g.1).cell rfl
                refine hI.pure (by kernel_rfl) (by decide +kernel) (i := 0) (d := 31) rfl rfl rfl (v := .agg #[.int .i64 V.lg, .slice av NV cv, .int .u64 V.fl, .int .u64 V.ct, .int .u64 V.at9, .int .u64 V.ls]) (rfl) (fun j u _ _ h => pth_keep (upd10 (by decide)) (Below.refl _ _) j u h) (pg_upd 0 (by decide) hI.g) ?_
                intro K hKK
                go_simp
                exact hKK
              · have e0 := hI.kept 0 _ (by decide +kernel) rfl
                refine hI.pure (by kernel_rfl) (by decide +kernel) (i := 1) (d := 32) rfl rfl rfl (v := .slice (some ⟨b, off, none⟩) len cap) (rfl) (fun j u _ _ h => pth_keep (upd10 (by decide)) (Below.refl _ _) j u h) (pg_upd 1 (by decide) hI.g) ?_
                intro K hKK
                go_simp
                exact hKK
              · have e0 := hI.kept 8 _ (by decide +kernel) rfl
                refine hI.pure (by kernel_rfl) (by decide +kernel) (i := 2) (d := 33) rfl rfl rfl (v := .int .i64 (i : Int)) (rfl) (fun j u _ _ h => pth_keep (upd10 (by decide)) (Below.refl _ _) j u h) (pg_upd 2 (by decide) hI.g) ?_
                intro K hKK
                go_simp
                exact hKK
              · obtain ⟨_, e0, rfl⟩ := hI.val 1 32 (by decide +kernel) (hw 1 (by kernel_rfl)) (by kernel_rfl)
                obtain ⟨_, e1, rfl⟩ := hI.val 2 33 (by decide +kernel) (hw 2 (by kernel_rfl)) (by kernel_rfl)
                refine hI.pure (by kernel_rfl) (by decide +kernel) (i := 3) (d := 34) rfl rfl rfl (v := .pointer (some ⟨b, off + i * 7, none⟩)) (rfl) (fun j u _ _ h => pth_keep (upd10 (by decide)) (Below.refl _ _) j u h) (pg_upd 3 (by decide) hI.g) ?_
                intro K hKK
                go_simp
                exact hKK
              · obtain ⟨_, e0, rfl⟩ := hI.val 3 34 (by decide +kernel) (hw 3 (by kernel_rfl)) (by kernel_rfl)
                obtain ⟨c0, c1, c2, c3, c4, c5, c6⟩ := HYC.out W hI.g.1
                refine hI.pure (by kernel_rfl) (by decide +kernel) (i := 4) (d := 35) rfl rfl rfl (v := .agg #[.slice y.da y.dn y.dc, .slice y.aa y.an y.ac, .int .i64 y.E.lg, .int .u64 y.E.fl, .int .u64 y.E.ct, .int .u64 y.E.at9, .int .u64 y.E.ls]) (rfl) (fun j u _ _ h => pth_keep (upd10 (by decide)) (Below.refl _ _) j u h) (pg_upd 4 (by decide) hI.g) ?_
                intro K hKK
                go_simp
                exact hKK
              · obtain ⟨_, e0, rfl⟩ := hI.val 0 31 (by decide +kernel) (hw 0 (by kernel_rfl)) (by kernel_rfl)
                obtain ⟨_, e1, rfl⟩ := hI.val 4 35 (by decide +kernel) (hw 4 (by kernel_rfl)) (by kernel_rfl)
                have h10 := pg10 hI.g (i := 5) (by decide) (by decide) hLi
                refine hI.more (by kernel_rfl) (by decide +kernel) (i := 5) (d := 36) rfl rfl rfl ?_
                intro K hKK
                go_simp
                refine (CA.out W hI.g.1).mono ?_
                rintro e W' ⟨a', c', rfl, hc', ho', hb'⟩
                exact hKK _ _ ⟨a', c', rfl, hc', fun _ => ownF_base ho' hI.g.1.size⟩ (fun j u _ _ h => pth_keep (upd10 (by decide)) hb' j u h) (pg_upd 5 (by decide) (pg_below hI.g hb'))
              · obtain ⟨_, e0, a', c', rfl, hc', ho'⟩ := hI.val 5 36 (by decide +kernel) (hw 5 (by kernel_rfl)) (by kernel_rfl)
                refine hI.pure (by kernel_rfl) (by decide +kernel) (i := 6) (d := 30) rfl rfl rfl (v := .tuple #[.agg #[.int .i64 X.lg, .slice a' N c', .int .u64 X.fl, .int .u64 X.ct, .int .u64 X.at9, .int .u64 X.ls], .bool o]) (⟨a', c', rfl, hc', fun e => ho' ((upd10 (L := L) (i := 6) (by decide)).symm.trans e)⟩) (fun j u _ _ h => pth_keep (upd10 (by decide)) (Below.refl _ _) j u h) (pg_upd 6 (by decide) hI.g) ?_
                intro K hKK
                go_simp
                exact hKK
              · obtain ⟨_, e0, a', c', rfl, hc', ho'⟩ := hI.val 6 30 (by decide +kernel) (hw 6 (by kernel_rfl)) (by kernel_rfl)
                refine hI.pure (by kernel_rfl) (by decide +kernel) (i := 7) (d := 37) rfl rfl rfl (v := .agg #[.int .i64 X.lg, .slice a' N c', .int .u64 X.fl, .int .u64 X.ct, .int .u64 X.at9, .int .u64 X.ls]) (⟨a', c', rfl, hc', fun e => ho' ((upd10 (L := L) (i := 7) (by decide)).symm.trans e)⟩) (fun j u _ _ h => pth_keep (upd10 (by decide)) (Below.refl _ _) j u h) (pg_upd 7 (by decide) hI.g) ?_
                intro K hKK
                go_simp
                exact hKK
              · obtain ⟨_, e0, a', c', rfl, hc', ho'⟩ := hI.val 6 30 (by decide +kernel) (hw 6 (by kernel_rfl)) (by kernel_rfl)
                refine hI.pure (by kernel_rfl) (by decide +kernel) (i := 8) (d := 38) rfl rfl rfl (v := .bool o) (rfl) (fun j u _ _ h => pth_keep (upd10 (by decide)) (Below.refl _ _) j u h) (pg_upd 8 (by decide) hI.g) ?_
                intro K hKK
                go_simp
                exact hKK
              · have h10 := pg10 hI.g (i := 9) (by decide) (by decide) hLi
                refine hI.more (by kernel_rfl) (by decide +kernel) (i := 9) (d := 9) rfl rfl rfl ?_
                intro K hKK
                have A := (Below.refl _ W).alloc (Nat.le_refl _) (Obj.cells #[.int .i64 0, .slice none 0 0, .int .u64 0, .int .u64 0, .int .u64 0, .int .u64 0] 31)
                go_simp
                exact hKK _ _ ⟨W.heap.size, rfl, hI.g.1.size, fun _ => ek_new W _ _, fun e => (by rw [upd10 (by decide), h10] at e; cases e)⟩ (fun j u _ _ h => pth_keep (upd10 (by decide)) A j u h) (pg_upd 9 (by decide) (pg_below hI.g A))
              · obtain ⟨_, e0, a', c', rfl, hc', ho'⟩ := hI.val 7 37 (by decide +kernel) (hw 7 (by kernel_rfl)) (by kernel_rfl)
                obtain ⟨_, e1, p, rfl, hHp, hz, _⟩ := hI.val 9 9 (by decide +kernel) (hw 9 (by kernel_rfl)) (by kernel_rfl)
                have ho' := ho' hLi
                have hz := hz hLi
                refine hI.store (by decide +kernel) (i := 10) rfl rfl rfl ?_
                intro K hKK
                have z0 : W.cell? ⟨p, 0, none⟩ = some (.int .i64 0) := hz.cell rfl
                have y0 := hz.free 0
                have z1 : W.cell? ⟨p, 1, none⟩ = some (.slice none 0 0) := hz.cell rfl
                have y1 := hz.free 1
                have z2 : W.cell? ⟨p, 2, none⟩ = some (.int .u64 0) := hz.cell rfl
                have y2 := hz.free 2
                have z3 : W.cell? ⟨p, 3, none⟩ = some (.int .u64 0) := hz.cell rfl
                have y3 := hz.free 3
                have z4 : W.cell? ⟨p, 4, none⟩ = some (.int .u64 0) := hz.cell rfl
                have y4 := hz.free 4
                have z5 : W.cell? ⟨p, 5, none⟩ = some (.int .u64 0) := hz.cell rfl
                have y5 := hz.free 5
                have HZ := hide hz
                have HOW := hide ho'
                clear hz ho'
                go_simp
                have hg := egrow (k := 5) (u := .int .u64 X.ls) (egrow (k := 4) (u := .int .u64 X.at9) (egrow (k := 3) (u := .int .u64 X.ct) (egrow (k := 2) (u := .int .u64 X.fl) (egrow (k := 1) (u := .slice a' N c') (fgb_set W ⟨p, 0, none⟩ (.int .i64 X.lg))))))
                have hzz := (((((HZ.out.set 0 (.int .i64 X.lg)).set 1 (.slice a' N c')).set 2 (.int .u64 X.fl)).set 3 (.int .u64 X.ct)).set 4 (.int .u64 X.at9)).set 5 (.int .u64 X.ls)
                have how2 := ownF_far HOW.out hg (own_not_view HOW.out HZ.out)
                refine hKK _ (fun j e u _ _ hde hu h => pth_store (upd_same _ _) j u (fun hj => ?_) h) ⟨hI.g.1.grown hg hI.g.1.size (fun k hk => by cases hk; exact hHp), fun _ j hj h8 => upd_more (hw j (waits_but (k := 8) (by kernel_rfl) j hj h8))⟩
                subst hj
                have he : some e = some 9 := hde.symm.trans (by kernel_rfl)
                cases he
                rw [e1] at hu
                cases hu
                exact ⟨p, rfl, hHp, fun e => (by rw [upd_same] at e; cases e), fun _ => ⟨a', c', hzz, hc', how2⟩⟩
              · obtain ⟨_, e0, rfl⟩ := hI.val 8 38 (by decide +kernel) (hw 8 (by kernel_rfl)) (by kernel_rfl)
                refine hI.pure (by kernel_rfl) (by decide +kernel) (i := 11) (d := 10) rfl rfl rfl (v := .bool o) (rfl) (fun j u _ _ h => pth_keep (upd10 (by decide)) (Below.refl _ _) j u h) (pg_upd 11 (by decide) hI.g) ?_
                intro K hKK
                go_simp
                exact hKK
            case fin =>
              intro L A W hI hall
              obtain ⟨_, s0, rfl⟩ := hI.val 0 31 (by decide +kernel) (hall 0 (by decide +kernel)) (by kernel_rfl)
              obtain ⟨_, s1, rfl⟩ := hI.val 1 32 (by decide +kernel) (hall 1 (by decide +kernel)) (by kernel_rfl)
              obtain ⟨_, s2, rfl⟩ := hI.val 2 33 (by decide +kernel) (hall 2 (by decide +kernel)) (by kernel_rfl)
              obtain ⟨_, s3, rfl⟩ := hI.val 3 34 (by decide +kernel) (hall 3 (by decide +kernel)) (by kernel_rfl)
              obtain ⟨_, s4, rfl⟩ := hI.val 4 35 (by decide +kernel) (hall 4 (by decide +kernel)) (by kernel_rfl)
              obtain ⟨_, s5, aq, cq, rfl, _, _⟩ := hI.val 5 36 (by decide +kernel) (hall 5 (by decide +kernel)) (by kernel_rfl)
              obtain ⟨_, s6, ar, cr, rfl, _, _⟩ := hI.val 6 30 (by decide +kernel) (hall 6 (by decide +kernel)) (by kernel_rfl)
              obtain ⟨_, s7, ay, cy, rfl, _, _⟩ := hI.val 7 37 (by decide +kernel) (hall 7 (by decide +kernel)) (by kernel_rfl)
              obtain ⟨_, s8, rfl⟩ := hI.val 8 38 (by decide +kernel) (hall 8 (by decide +kernel)) (by kernel_rfl)
              obtain ⟨_, s9, p, rfl, hHp, _, hp2⟩ := hI.val 9 9 (by decide +kernel) (hall 9 (by decide +kernel)) (by kernel_rfl)
              obtain ⟨_, s11, rfl⟩ := hI.val 11 10 (by decide +kernel) (hall 11 (by decide +kernel)) (by kernel_rfl)
              have hfr := si_frame hI [(31, .agg #[.int .i64 V.lg, .slice av NV cv, .int .u64 V.fl, .int .u64 V.ct, .int .u64 V.at9, .int .u64 V.ls]), (32, .slice (some ⟨b, off, none⟩) len cap), (33, .int .i64 (i : Int)), (34, .pointer (some ⟨b, off + i * 7, none⟩)), (35, .agg #[.slice y.da y.dn y.dc, .slice y.aa y.an y.ac, .int .i64 y.E.lg, .int .u64 y.E.fl, .int .u64 y.E.ct, .int .u64 y.E.at9, .int .u64 y.E.ls]), (36, .tuple #[.agg #[.int .i64 X.lg, .slice aq N cq, .int .u64 X.fl, .int .u64 X.ct, .int .u64 X.at9, .int .u64 X.ls], .bool o]), (30, .tuple #[.agg #[.int .i64 X.lg, .slice ar N cr, .int .u64 X.fl, .int .u64 X.ct, .int .u64 X.at9, .int .u64 X.ls], .bool o]), (37, .agg #[.int .i64 X.lg, .slice ay N cy, .int .u64 X.fl, .int .u64 X.ct, .int .u64 X.at9, .int .u64 X.ls]), (38, .bool o), (9, .pointer (some ⟨p, 0, none⟩)), (10, .bool o)] (by kernel_rfl) (List.forall_mem_cons.2 ⟨s0, (List.forall_mem_cons.2 ⟨s1, (List.forall_mem_cons.2 ⟨s2, (List.forall_mem_cons.2 ⟨s3, (List.forall_mem_cons.2 ⟨s4, (List.forall_mem_cons.2 ⟨s5, (List.forall_mem_cons.2 ⟨s6, (List.forall_mem_cons.2 ⟨s7, (List.forall_mem_cons.2 ⟨s8, (List.forall_mem_cons.2 ⟨s9, (List.forall_mem_cons.2 ⟨s11, (by intro x hx; cases hx)⟩)⟩)⟩)⟩)⟩)⟩)⟩)⟩)⟩)⟩)⟩)
              obtain ⟨ax, cx, hekx, hcx, hox⟩ := hp2 (hall 10 (by decide +kernel))
              have hbx := hI.g.1
              rw [hfr]
              clear hfr hI hall hp2 s0 s1 s2 s3 s4 s5 s6 s7 s8 s9 s11
              simp only [List.foldl, List.setIfInBounds_toArray, List.set_cons_zero, List.set_cons_succ]
              go_wp2_with fail
              go_meet
              case rel => exact ⟨rfl, hide ⟨p, ax, cx, rfl, hHp, hekx, hcx, hox, hbx⟩⟩
          case rest =>
            obtain ⟨rfl, hvb⟩ := hcut
            obtain ⟨w2, hw2⟩ : ∃ x, x = wc := ⟨_, rfl⟩
            subst hw2
            obtain ⟨p, a, c, rfl, hp, hkp, hc, hop, hb2⟩ := hvb.out
            have HB2 := hide (HB1.out.trans (hb2.mono HB1.out.size))
            have KP := hide hkp
            have HOP := hide hop
            have hs12 := hb2.size
            clear hvb hkp hop hb2
            go_upto_region 10 with fail
            go_cut [47] from 14 to 59 (fun s47 wx => ∃ q : Bool, s47 = .bool q ∧ (q = true → o = true ∧ emay y.E = 0) ∧ Hid (Below w2.heap.size w2 wx))
            case first =>
              cases o with
              | false =>
                go_wp2_with fail
                go_meet
                case rel => exact ⟨false, rfl, fun e => (by cases e), hide (Below.refl _ _)⟩
              | true =>
                obtain ⟨d0, d1, d2, d3, d4, d5, d6⟩ := HYC.out w2 HB2.out
                have hyo := HYO.out.below HB2.out (Nat.le_refl _)
                have CM := hide (editmay_any y.da y.dn y.dc y.aa y.an y.ac y.E w2 hyo.1.1 hyo.2.1.1 hyo.1.2 hyo.2.1.2)
                unfold edV at CM
                clear HX1 HX HO HN HE hyo CG CQ HGS HGL
                go_wp2_with fail
                refine CM.out.mono ?_
                rintro e w6 ⟨rfl, hb6⟩
                by_cases hm : emay y.E = 0
                · have qm : (emay y.E == 0) = true := by simp [hm]
                  have HM := hide hm
                  have HB6 := hide hb6
                  clear CM hm hb6
                  go_wp2_with fail
                  go_meet
                  case rel => exact ⟨_, rfl, fun _ => ⟨by first | trivial | rfl, HM.out⟩, HB6⟩
                · have qm : (emay y.E == 0) = false := by simp [hm]
                  have HB6 := hide hb6
                  clear CM hm hb6
                  go_wp2_with fail
                  go_meet
                  case rel => exact ⟨_, rfl, fun e => (by cases e), HB6⟩
            case rest =>
              obtain ⟨q, rfl, hqq, hbw⟩ := hcut
              obtain ⟨w3, hw3⟩ : ∃ x, x = wc := ⟨_, rfl⟩
              subst hw3
              have HB3 := hide (HB2.out.trans (hbw.out.mono HB2.out.size))
              have CG3 := hide (CG.out.keep HB3.out)
              have KP3 := hide (KP.out.below hbw.out KP.out.lt)
              have HOP3 := hide (ownF_keep HOP.out hbw.out)
              have hs23 := hbw.out.size
              have hsz := CG.out.sz
              clear hbw KP HOP
              cases q with
              | false =>
                go_wp2
                go_roundw
                case rel => exact ⟨i + 1, by omega, by omega, by go_num, hide ⟨vs, gs, ⟨V, av, cv⟩, CG3.out, CQ.out, HGS.out, by have := HGL.out; omega⟩⟩
                case measure => simp [intOf]; omega
              | true =>
                obtain ⟨rfl, hm⟩ := hqq rfl
                have hap := HX1.out rfl
                have HM := hide hm
                have HAX := hide hap
                have HWX := hide (vok_wf9 (appl_ok hap))
                have hkp := KP3.out
                have hv := CG3.out.z
                have px0 : w3.cell? ⟨p, 0, none⟩ = some (.int .i64 X.lg) := (hkp).cell rfl
                have px1 : w3.cell? ⟨p, 1, none⟩ = some (.slice a N c) := (hkp).cell rfl
                have px2 : w3.cell? ⟨p, 2, none⟩ = some (.int .u64 X.fl) := (hkp).cell rfl
                have px3 : w3.cell? ⟨p, 3, none⟩ = some (.int .u64 X.ct) := (hkp).cell rfl
                have px4 : w3.cell? ⟨p, 4, none⟩ = some (.int .u64 X.at9) := (hkp).cell rfl
                have px5 : w3.cell? ⟨p, 5, none⟩ = some (.int .u64 X.ls) := (hkp).cell rfl
                have va0 : w3.cell? ⟨w.heap.size, 0, none⟩ = some (.int .i64 V.lg) := (hv).cell rfl
                have va1 : w3.cell? ⟨w.heap.size, 1, none⟩ = some (.slice av V.f.length cv) := (hv).cell rfl
                have va2 : w3.cell? ⟨w.heap.size, 2, none⟩ = some (.int .u64 V.fl) := (hv).cell rfl
                have va3 : w3.cell? ⟨w.heap.size, 3, none⟩ = some (.int .u64 V.ct) := (hv).cell rfl
                have va4 : w3.cell? ⟨w.heap.size, 4, none⟩ = some (.int .u64 V.at9) := (hv).cell rfl
                have va5 : w3.cell? ⟨w.heap.size, 5, none⟩ = some (.int .u64 V.ls) := (hv).cell rfl
                have vf0 : w3.frozen? ⟨w.heap.size, 0, none⟩ = false := (hv).free 0
                have vf1 : w3.frozen? ⟨w.heap.size, 1, none⟩ = false := (hv).free 1
                have vf2 : w3.frozen? ⟨w.heap.size, 2, none⟩ = false := (hv).free 2
                have vf3 : w3.frozen? ⟨w.heap.size, 3, none⟩ = false := (hv).free 3
                have vf4 : w3.frozen? ⟨w.heap.size, 4, none⟩ = false := (hv).free 4
                have vf5 : w3.frozen? ⟨w.heap.size, 5, none⟩ = false := (hv).free 5
                have hlv := hv.lt
                have hlp := hkp.lt
                clear hm hap hkp hv
                go_upto_region 12 with fail
                have hopX : OwnF w3 w1.heap.size (.slice a X.f.length c) X.f := by rw [HN.out]; exact HOP3.out
                have hfsX := ownF_fsN hopX HWX.out rfl
                have CG4 := CG3.out.cur (x' := ⟨X, a, c⟩) ⟨hfsX.2, hc⟩ (fun q hq => by
                  have hq : a = some q := hq
                  have h1 := World.ownsRow.lt hopX q.block (by rw [hq]; rfl)
                  have h2 := CG.out.new (p := q.block) (by omega)
                  exact ⟨by omega, h1.2, h2.1, h2.2⟩)
                unfold set6 at CG4
                simp only at CG4
                rw [HN.out] at CG4
                have CG5 := hide CG4
                clear CG4 hopX hfsX
                generalize ((((((w3.setCell ⟨w.heap.size, 0, none⟩ (.int .i64 X.lg)).setCell ⟨w.heap.size, 1, none⟩ (.slice a N c)).setCell ⟨w.heap.size, 2, none⟩ (.int .u64 X.fl)).setCell ⟨w.heap.size, 3, none⟩ (.int .u64 X.ct)).setCell ⟨w.heap.size, 4, none⟩ (.int .u64 X.at9)).setCell ⟨w.heap.size, 5, none⟩ (.int .u64 X.ls)) = w4 at *
                obtain ⟨y2, b2, o2, hy2, e2, hyo2, d0, d1, d2, d3, d4, d5, d6⟩ := es_at (HE.out w4 CG5.out.bel) i hl1
                injection e2 with e2
                injection e2 with e2 e3
                subst e2 e3
                obtain rfl : y2 = y := Option.some.inj (hy2.symm.trans HY.out)
                have hu : 0 ≤ y2.E.fl ∧ 0 ≤ y2.E.ct ∧ 0 ≤ y2.E.at9 ∧ 0 ≤ y2.E.ls := ⟨hyo2.2.2.2.1.1, hyo2.2.2.2.2.1.1, hyo2.2.2.2.2.2.1.1, hyo2.2.2.2.2.2.2.1⟩
                have HU := hide hu
                have HMEM := hide (List.mem_of_getElem? hy2)
                have A6 := (Below.refl _ w4).alloc (Nat.le_refl _) (Obj.cells #[.slice y2.da y2.dn y2.dc, .slice y2.aa y2.an y2.ac, .int .i64 y2.E.lg, .int .u64 y2.E.fl, .int .u64 y2.E.ct, .int .u64 y2.E.at9, .int .u64 y2.E.ls] 34)
                have CG6 := hide (CG5.out.keep A6)
                have HEK6 := hide (show Ek (w4.alloc (Obj.cells #[.slice y2.da y2.dn y2.dc, .slice y2.aa y2.an y2.ac, .int .i64 y2.E.lg, .int .u64 y2.E.fl, .int .u64 y2.E.ct, .int .u64 y2.E.at9, .int .u64 y2.E.ls] 34)) w4.heap.size y2.cs.toArray 34 from ek_new w4 _ _)
                have HGL6 := hide (show gs.length ≤ 100000 from by have := HGL.out; omega)
                have HVL6 := hide (show vs.length ≤ 100000 from by have := CQ.out.len; have := HGL.out; omega)
                have HSZ6 := hide CG6.out.sz
                clear hyo2 hy2 hu A6
                go_wp2_with (first
                  | (at_builtin; refine wpList_append_e rfl (.tmp 49) (.tmp 54) rfl (w.heap.size + 1) u7 gs rfl CG6.out.o7 w4.heap.size y2 rfl HEK6.out HGL6.out HSZ6.out ?_; intro v8 w8 o8 g8 k8 l8; have CG8 := hide (CG6.out.push7 o8 g8 l8); have hz8 : Ek w8 w.heap.size #[.int .i64 X.lg, .slice a N c, .int .u64 X.fl, .int .u64 X.ct, .int .u64 X.at9, .int .u64 X.ls] 31 := (by have := CG8.out.z; unfold Vr.cs at this; simp only at this; rw [HN.out] at this; exact this); have z0 : w8.cell? ⟨w.heap.size, 0, none⟩ = some (.int .i64 X.lg) := hz8.cell rfl; have z1 : w8.cell? ⟨w.heap.size, 1, none⟩ = some (.slice a N c) := hz8.cell rfl; have z2 : w8.cell? ⟨w.heap.size, 2, none⟩ = some (.int .u64 X.fl) := hz8.cell rfl; have z3 : w8.cell? ⟨w.heap.size, 3, none⟩ = some (.int .u64 X.ct) := hz8.cell rfl; have z4 : w8.cell? ⟨w.heap.size, 4, none⟩ = some (.int .u64 X.at9) := hz8.cell rfl; have z5 : w8.cell? ⟨w.heap.size, 5, none⟩ = some (.int .u64 X.ls) := hz8.cell rfl; have hlz8 := hz8.lt; have A9 := (Below.refl _ w8).alloc (Nat.le_refl _) (Obj.cells #[.int .i64 X.lg, .slice a N c, .int .u64 X.fl, .int .u64 X.ct, .int .u64 X.at9, .int .u64 X.ls] 31); have CG9 := hide (CG8.out.keep A9); have HEK9 := hide (show Ek (w8.alloc (Obj.cells #[.int .i64 X.lg, .slice a N c, .int .u64 X.fl, .int .u64 X.ct, .int .u64 X.at9, .int .u64 X.ls] 31)) w8.heap.size (Vr.cs ⟨X, a, c⟩).toArray 31 from (by unfold Vr.cs; simp only; rw [HN.out]; exact ek_new w8 _ _)); have HSZ9 := hide CG9.out.sz; clear o8 g8 k8 l8 A9 hz8)
                  | (at_builtin; refine wpList_append_v rfl (.tmp 56) (.tmp 58) rfl (w.heap.size + 1) u6 vs rfl CG9.out.o6 w8.heap.size ⟨X, a, c⟩ rfl HEK9.out HVL6.out HSZ9.out ?_; intro v10 w10 o10 g10 k10 l10; have CG10 := hide (CG9.out.push6 o10 g10 l10); clear o10 g10 k10 l10)
                  | fail)
                go_roundw
                case rel => exact ⟨i + 1, by omega, by omega, by go_num, hide ⟨vs ++ [⟨X, a, c⟩], gs ++ [y2], ⟨X, a, c⟩, CG10.out, CQ.out.snoc HAX.out ⟨HM.out, HU.out⟩, fun z hz => by
                  rcases List.mem_append.1 hz with e | e
                  · exact HGS.out z e
                  · rw [List.mem_singleton.1 e]; exact HMEM.out, by rw [List.length_append]; have := HGL.out; simp; omega⟩⟩
                case measure => simp [intOf]; omega
      | false =>
        go_wp2
        refine bodyPost_ret (by simp [results, Tryz.results31, go_sem]) rfl (show EdA ls w (.returned (.tuple #[u7, u6, .bool true])) wr from ⟨CG.out.bel, .inr ⟨_, _, _, _, gs, rfl, CG.out, CQ.out, HGS.out, by have := HGL.out; omega⟩⟩)

end Go.Proofs.YtcahlmneancapaaGreatDoor.Clep

/- A renewal, a Save, and a file struck and laid anew, on a Disk where nothing fails; Open behind such. Up to 60 files. -/
namespace Go.Proofs.YtcahlmneancapaaGreatDoor.Clep
open Go.RowKit Go.Maps Go.Sort
set_option linter.unusedVariables false
set_option maxRecDepth 10000

theorem calm_pre {le : Nat → List Int} {S : St} {T : Nat} {W : List Int} (D : Dk S T) (h6 : T + 1 ≤ 60) (hc : Calm S) (hq : tot S + W.length + (le (T + 1)).length ≤ 250000) (hq2 : tot S + W.length + (le (T + 1)).length ≤ S.q) :
    ∃ S', preS S (T + 1) W (le (T + 1)) = (0, 2, S') ∧ Md S 0 S' ∧ S'.calls ≤ S.calls + 10 ∧ tot S' ≤ tot S + W.length + (le (T + 1)).length ∧ S'.q = S.q ∧ Dk S' (T + 1) ∧ Solo le S' (T + 1) W W.length ∧ lk S'.names nFrs = 0 := by
  have i1 : mnm (T + 1) ≠ nCur := mnm_cur (by omega) (by omega)
  have i2 : mnm (T + 1) ≠ nFrs := mnm_frs (by omega) (by omega)
  have hfree : lk S.names (mnm (T + 1)) = 0 := Classical.byContradiction fun h => by
    rcases D.now.sup _ h with h | h | ⟨k, h2, h3, h⟩
    · exact i1 h
    · exact i2 h
    · have := mnm_inj (by omega) (by omega) h; omega
  obtain ⟨E1, S1, e1⟩ : ∃ E1 S1, layS S (mnm (T + 1)) W = (E1, S1) := ⟨_, _, rfl⟩
  obtain ⟨m1, c1, k1, d1, t1, s1⟩ := lay_ok D (Nat.le_succ T) h6 (.inr (.inr ⟨T + 1, by omega, Nat.le_refl _, rfl⟩)) (mnm_okAll _ (by omega)).1 (fun _ => hfree) (by omega) (by omega) e1
  obtain ⟨n1, hc1⟩ := m1.calm hc
  subst n1
  have D1 : Dk S1 (T + 1) := by rcases d1 with h | h; exact absurd rfl h.1; exact h.1
  have l1 : lk S1.names (mnm (T + 1)) ≠ 0 := by rcases d1 with h | h; exact absurd rfl h.1; exact h.2
  obtain ⟨E2, S2, e2⟩ : ∃ E2 S2, prepS S1 (le (T + 1)) = (E2, S2) := ⟨_, _, rfl⟩
  obtain ⟨m2, c2, k2, D2, t2, s2⟩ := prep_ok D1 (by omega) (by rw [k1.q]; omega) e2
  obtain ⟨n2, hc2⟩ := m2.calm hc1
  subst n2
  have sw2 := k2.slot _ _ _ i2 (s1 rfl)
  have l2 : lk S2.names (mnm (T + 1)) ≠ 0 := by rw [k2.live _ i2]; exact l1
  obtain ⟨sf2, ho2⟩ := s2 rfl
  obtain ⟨E3, S3, e3⟩ : ∃ E3 S3, renS S2 nFrs nCur = (E3, S3) := ⟨_, _, rfl⟩
  have hfr := slot_fl D2 sf2
  obtain ⟨g, hg, g1, g2, g3⟩ := sf2
  obtain ⟨f, hf, f1, f2, f3⟩ := sw2
  have O3 := rename_op okFrs okCur cur_frs.symm hg e3
  have c3 := O3.calls
  obtain ⟨n3, hc3⟩ := O3.md.calm hc2
  subst n3
  rcases O3.res with ⟨n3, q3⟩ | ⟨-, B, q3, r3⟩
  · exact absurd rfl n3
  try simp only at r3
  have DB := q3.dk D2
  have hoB : ∀ N, Outs B N → N = lk B.names := fun N hN => by rw [q3.outs] at hN; rw [q3.names]; exact ho2 N hN
  obtain ⟨D3, l3, o3⟩ := ren_dk DB nFrs nCur cur_frs.symm (.inl rfl) (fun N hN => by rw [hoB N hN, q3.names]; exact hfr)
  rw [← r3] at D3 l3 o3
  have t3 : tot S3 = tot S2 := by rw [r3]; unfold tot; show totF B.files = _; rw [q3.files]
  have fl3 : S3.files = S2.files := by rw [r3]; exact q3.files
  have lc : lk S3.names nCur = lk S2.names nFrs := by rw [l3]; simp [q3.names]
  have lm : lk S3.names (mnm (T + 1)) = lk S2.names (mnm (T + 1)) := by rw [l3]; simp [q3.names, i1, i2]
  have lf : lk S3.names nFrs = 0 := by rw [l3]; simp [cur_frs.symm]
  have A3 : Am le S3.files (lk S3.names) (T + 1) W W.length := ⟨g, f, by rw [fl3, lc]; exact hg, g1, by rw [g2, g1], by rw [fl3, lm]; exact hf, f1, f2⟩
  have lm0 : lk S3.names (mnm (T + 1)) ≠ 0 := by rw [lm]; exact l2
  obtain ⟨E4, S4, e4⟩ : ∃ E4 S4, syncDirS S3 = (E4, S4) := ⟨_, _, rfl⟩
  have O4 := syncDir_op e4
  have c4 := O4.calls
  have Q3 : S3.q = S.q := by rw [r3]; exact q3.q.trans (k2.q.trans k1.q)
  obtain ⟨n4, hc4⟩ := O4.md.calm hc3
  subst n4
  rcases O4.res with ⟨n4, q4⟩ | ⟨-, B4, q4, r4⟩
  · exact absurd rfl n4
  have D4' := q4.dk D3
  obtain ⟨k4, D4, t4⟩ := settle_kp D4' nFrs
  have hO := (settle_dk D4').2
  rw [← r4] at k4 D4 t4 hO
  have tB4 : tot B4 = tot S3 := by unfold tot; rw [q4.files]
  have ln4 : lk S4.names = lk S3.names := by rw [r4]; show lk B4.names = _; rw [q4.names]
  have hc0 : lk S3.names nCur ≠ 0 := by rw [lc]; exact hfr
  have A4 : Am le S4.files (lk S4.names) (T + 1) W W.length := by
    refine A3.congr ?_ ?_
    · rw [ln4, ← q4.files, ← q4.names, r4]; exact settle_at B4 D4'.hn (by rw [q4.names]; exact hc0)
    · rw [ln4, ← q4.files, ← q4.names, r4]; exact settle_at B4 D4'.hn (by rw [q4.names]; exact lm0)
  refine ⟨S4, ?_, ((m1.trans m2).trans O3.md).trans O4.md, by omega, by omega, k4.q.trans (q4.q.trans Q3), D4, ⟨⟨lk S4.names (mnm (T + 1)), fun N hN => ?_⟩, by omega, by omega⟩, by rw [ln4]; exact lf⟩
  · unfold preS
    rw [e1]
    simp [e2, e3, e4]
  · have := hO N hN
    have h2 : lk B4.names = lk S4.names := by rw [ln4, q4.names]
    rw [this, h2]
    exact ⟨rfl, A4⟩
theorem calm_renew {le : Nat → List Int} {S : St} {T : Nat} {W : List Int} (D : Dk S T) (h6 : T + 1 ≤ 60) (hc : Calm S) (hq : tot S + W.length + (le (T + 1)).length ≤ 250000) (hq2 : tot S + W.length + (le (T + 1)).length ≤ S.q) :
    ∃ S', renewS S (T + 1) W (le (T + 1)) = (0, 2, S') ∧ Calm S' ∧ Dk S' (T + 1) ∧ lk S'.names (mnm (T + 1)) ≠ 0 ∧ Solo le S' (T + 1) W W.length ∧ tot S' ≤ tot S + W.length + (le (T + 1)).length ∧ S'.q = S.q ∧ S'.calls ≤ S.calls + 100 := by
  obtain ⟨S4, e4, m4, c4, t4, q4, D4, so4, f4⟩ := calm_pre D h6 hc hq hq2
  have hc4 := (m4.calm hc).2
  have hn : lk S4.names (mnm (T + 1)) ≠ 0 := by
    obtain ⟨x, hx⟩ := so4.all
    exact (at_fl D4 (hx _ D4.nm).2).2.1
  have hlen := names_len D4
  have hl2 : (if S4.dead then [] else namesL S4).length ≤ 62 := by split; simp; exact hlen
  obtain ⟨b1, b2, b3, b4, b5, b6, b7, b8, b9⟩ := sweep_ok (if S4.dead then [] else namesL S4) S4 D4 so4 hn
  refine ⟨sweepL (T + 1) (if S4.dead then [] else namesL S4) S4, ?_, b1.calm hc4, b3, b5, b4, by omega, b7.trans q4, by omega⟩
  unfold renewS
  rw [e4]
  rfl
/-- A Save where the file is there. -/
theorem calm_save {S : St} {T : Nat} {s : ByteArray} {f : Fl} {zs : List Int} (D : Dk S T) (hc : Calm S) (hok : okName s = true) (hf : fileAt S.files (lk S.names s) = some f) (hq : tot S + zs.length ≤ 250000) (hq2 : tot S + zs.length ≤ S.q) : ∃ S', saveS S s zs = (0, 2, S') ∧ Calm S' := by
  obtain ⟨E1, S1, e1⟩ : ∃ E1 S1, appendS S s zs = (E1, S1) := ⟨_, _, rfl⟩
  have O1 := append_op D hok hf hq hq2 e1
  obtain ⟨z, hc1⟩ := O1.md.calm hc
  subst z
  rcases O1.res with ⟨n1, q1⟩ | ⟨-, B, q1, r1⟩
  · exact absurd rfl n1
  try simp only at r1
  have hf1 : fileAt S1.files (lk S1.names s) = some (growF zs f) := by
    rw [r1]
    show fileAt (updF B.files f.num (growF zs)) (lk B.names s) = _
    have hA := (upd_dk (q1.dk D) f.num (growF zs) (fun f => rfl) (fun f h => by simp [growF]; omega)).2
    rw [hA, q1.names, q1.files, hf]
    simp only [Option.map_some]
    rw [if_pos (D.last hf).1]
  obtain ⟨E2, S2, e2⟩ : ∃ E2 S2, syncS S1 s = (E2, S2) := ⟨_, _, rfl⟩
  have O2 := sync_op hok hf1 e2
  obtain ⟨z, hc2⟩ := O2.md.calm hc1
  subst z
  refine ⟨S2, ?_, hc2⟩
  unfold saveS
  rw [e1]
  simp [e2]
/-- A file struck, made anew and written. -/
theorem calm_swap {S : St} {T : Nat} {s : ByteArray} {f : Fl} {zs : List Int} (D : Dk S T) (hc : Calm S) (hok : okName s = true) (hs : okM T s) (hf : fileAt S.files (lk S.names s) = some f) (hq : tot S + zs.length ≤ 250000) (hq2 : tot S + zs.length ≤ S.q) :
    ∃ S1, rmvS S s = (0, S1) ∧ Calm S1 ∧ Dk S1 T ∧ S1.calls = S.calls + 1 ∧ Kpt s S S1 ∧ lk S1.names s = 0 ∧ ∃ S2, createS S1 s = (0, S2) ∧ S2.calls = S.calls + 2 ∧ ∃ S3, appendS S2 s zs = (0, S3) ∧ Calm S3 ∧ Dk S3 T ∧ S3.calls = S.calls + 3 ∧ S3.q = S.q ∧ tot S3 ≤ tot S + zs.length ∧ Kpt s S S3 ∧ lk S3.names s ≠ 0 ∧ ∃ f', fileAt S3.files (lk S3.names s) = some f' ∧ f'.bs = zs := by
  obtain ⟨E1, S1, e1⟩ : ∃ E1 S1, rmvS S s = (E1, S1) := ⟨_, _, rfl⟩
  have O1 := remove_op hok hf e1
  obtain ⟨z, hc1⟩ := O1.md.calm hc
  subst z
  rcases O1.res with ⟨n1, q1⟩ | ⟨-, B1, q1, r1⟩
  · exact absurd rfl n1
  try simp only at r1
  obtain ⟨k1, D1, l1⟩ := rmv_kp (q1.dk D) s
  have t1 : tot S1 = tot S := by rw [r1]; unfold tot; show totF B1.files = _; rw [q1.files]
  rw [← r1] at k1 D1 l1
  have K1 := (q1.kp s).trans k1
  obtain ⟨E2, S2, e2⟩ : ∃ E2 S2, createS S1 s = (E2, S2) := ⟨_, _, rfl⟩
  have O2 := create_op D1 hok (fun _ => l1) e2
  obtain ⟨z, hc2⟩ := O2.md.calm hc1
  subst z
  rcases O2.res with ⟨n2, q2⟩ | ⟨-, B2, q2, r2⟩
  · exact absurd rfl n2
  try simp only at r2
  obtain ⟨k2, sl2, D2, l2, t2⟩ := add_kp (q2.dk D1) (Nat.le_refl T) D.sm hs
  rw [← r2] at k2 sl2 D2 l2 t2
  have K2 := K1.trans ((q2.kp s).trans k2)
  have tB2 : tot B2 = tot S1 := by unfold tot; rw [q2.files]
  obtain ⟨f2, hf2, g1, g2, g3⟩ := sl2
  obtain ⟨E3, S3, e3⟩ : ∃ E3 S3, appendS S2 s zs = (E3, S3) := ⟨_, _, rfl⟩
  have O3 := append_op D2 hok hf2 (by omega) (by rw [K2.q]; omega) e3
  obtain ⟨z, hc3⟩ := O3.md.calm hc2
  subst z
  rcases O3.res with ⟨n3, q3⟩ | ⟨-, B3, q3, r3⟩
  · exact absurd rfl n3
  try simp only at r3
  obtain ⟨k3, D3, sl3, t3⟩ := upd_kp (q3.dk D2) (s := s) (f := f2) (g := growF zs) (by rw [q3.files, q3.names]; exact hf2) (by unfold Ow at *; rw [q3.names, q3.outs]; exact g3) (fun f => rfl) (fun f h => by simp [growF]; omega)
  have l3 : lk S3.names s ≠ 0 := by rw [r3]; show lk B3.names s ≠ 0; rw [q3.names]; exact l2
  rw [← r3] at k3 D3 sl3 t3
  have t3' := t3 zs.length (fun f => by simp [growF])
  have tB3 : tot B3 = tot S2 := by unfold tot; rw [q3.files]
  obtain ⟨f3, hf3, g1', g2', g3'⟩ := sl3
  have K3 := K2.trans ((q3.kp s).trans k3)
  have c1 := O1.calls
  have c2 := O2.calls
  have c3 := O3.calls
  exact ⟨S1, e1, hc1, D1, c1, K1, l1, S2, e2, by omega, S3, e3, hc3, D3, by omega, K3.q, by omega, K3, l3, f3, hf3, by rw [g1']; simp [growF, g1]⟩
/-- Open by what is read, on a Disk where nothing fails. -/
theorem kd_open_read {K : Nat → Prop} {w : World} {R n T k : Nat} {S : St} {X Z : List Int} {V : Vw} (h : Kd K w R S) (D : Dk S T) (hT : lk S.names (mnm T) ≠ 0) (hc : Calm S) (r1 : readS S nCur = (0, Z)) (hl : ldP Z = some n) (h1 : 1 ≤ n) (h2 : n < 100) (r2 : readS S (mnm n) = (0, X)) (hr : rpE X = some (V, k)) (hu : Vnn V) (h6 : T + 1 ≤ 60) (hq : tot S + 1334 ≤ 250000) (hq2 : tot S + 1334 ≤ S.q) (hm : S.calls < 68719476736) :
    Calls Tryz.prog 12 #[.pointer (some ⟨R, 0, none⟩)] w fun e w' => Same K w w' ∧ ∃ M n' c' S', e = .returned (.tuple #[.pointer (some ⟨M, 0, none⟩), .int .i64 0]) ∧ Km K w' M R n' c' V false S' ∧ Calm S' ∧ S'.q = S.q ∧ S'.calls ≤ S.calls + 100 ∧ tot S' ≤ tot S + 1334 ∧ w.heap.size ≤ M ∧
      ((n' = n ∧ c' = (SP (X.take k)).1.length ∧ c' ≤ 30 ∧ S' = S ∧ k = X.length) ∨ (n' = T + 1 ∧ c' = 1 ∧ Mp S' (T + 1) (T + 1) [wholeE V] (el [wholeE V]).length V)) := by
  have hlt := fun i (hi : K i) => h.lt hi
  obtain ⟨F, m, hF⟩ := h
  obtain ⟨-, -, hvk⟩ := rpE_le hr
  have hw := (whB_facts (whole_may hvk hu)).2
  have hz := leB_len (T + 1)
  have hn := next_eq D hc.2.2 hT
  obtain ⟨S2, e2, hc2, D2, l2, so2, t2, q2, cl2⟩ := calm_renew (le := leB) (W := whB V) D h6 hc (by omega) (by omega)
  refine (open_any m D r1 hl h1 h2 r2 hr hu hm (by rw [hn]; omega) (fun E1 S1 e1 => ?_) (fun S4 e4 => ?_)).mono ?_
  · rw [hn] at e1
    have hfree : lk S.names (mnm (T + 1)) = 0 := Classical.byContradiction fun h => by
      rcases D.now.sup _ h with h | h | ⟨k, h2, h3, h⟩
      · exact mnm_cur (by omega) (by omega) h
      · exact mnm_frs (by omega) (by omega) h
      · have := mnm_inj (by omega) (by omega) h; omega
    obtain ⟨m1, c1, k1, d1, t1, s1⟩ := lay_ok D (Nat.le_succ _) h6 (.inr (.inr ⟨T + 1, by omega, Nat.le_refl _, rfl⟩)) (mnm_okAll _ (by omega)).1 (fun _ => hfree) (by omega) (by omega) e1
    rcases d1 with h | h
    · exact ⟨_, h.2.1⟩
    · exact ⟨_, h.1⟩
  · rw [hn] at e4
    obtain ⟨S4', e4', -, -, -, -, D4, -, -⟩ := calm_pre (le := leB) (W := whB V) D h6 hc (by omega) (by omega)
    rw [e4'] at e4
    injection e4 with _ e4
    injection e4 with _ e4
    subst e4
    exact ⟨_, D4⟩
  rintro e w' ⟨q1, q2'⟩
  by_cases hcs : k = X.length ∧ (SP (X.take k)).1.length ≤ 30
  · obtain ⟨M, F', f1, rfl, f2, f3, f4⟩ := q1 ⟨decide_eq_true hcs.1, hcs.2⟩
    exact ⟨same_of f3 hlt, M, n, _, S, rfl, ⟨⟨F', f2, fun i hi => f1 i (hF i hi)⟩, fun hK => by have := hlt _ hK; omega⟩, hc, rfl, by omega, by omega, f4, .inl ⟨rfl, rfl, hcs.2, rfl, hcs.1⟩⟩
  · obtain ⟨E, ph, S', f1, f2, f3, f4, f5⟩ := q2' (fun h => hcs ⟨of_decide_eq_true h.1, h.2⟩)
    rw [hn, e2] at f1
    injection f1 with a1 a2
    injection a2 with a2 a3
    subst a1 a2 a3
    obtain ⟨M, F', g1, rfl, g3, g4⟩ := f5 rfl
    rw [if_neg (by decide), if_neg (by decide), hn] at g3
    refine ⟨f2.mono hF, M, T + 1, 1, S2, rfl, ⟨⟨F', g3, fun i hi => g1 i (hF i hi)⟩, fun hK => by have := hlt _ hK; omega⟩, hc2, q2, cl2, by omega, g4, .inr ⟨rfl, rfl, D2, by omega, l2, ?_, fun E hE => ?_, ?_, by simp⟩⟩
    · have h3 := so2; unfold whB at h3; rw [el_one]; exact h3
    · rw [List.mem_singleton.1 hE]; exact whole_may hvk hu
    · rw [apE_cons, appl_whole hvk]; rfl

end Go.Proofs.YtcahlmneancapaaGreatDoor.Clep

/- The rows that edits tells, read later on; a Disk that dies while Edits are Saved. No conditions but the Disk's bounds. -/
namespace Go.Proofs.YtcahlmneancapaaGreatDoor.Clep
open Go.RowKit Go.Maps Go.Sort
set_option linter.unusedVariables false
set_option maxRecDepth 10000

/-- A slice that leads to these Edits, which may be. -/
def Gd (W : World) (v : Value) (gs : List Er) : Prop := ∃ a c, v = .slice a gs.length c ∧ ∀ (i : Nat) (y : Er), gs[i]? = some y → y.ok W ∧ Eg y.E ∧ ∃ g, a = some ⟨g, 0, none⟩ ∧ ∀ (j : Nat) (u : Value), y.cs[j]? = some u → W.cell? ⟨g, i * 7 + j, none⟩ = some u
/-- A slice that leads to these Views. -/
def Vd (W : World) (v : Value) (vs : List Vr) : Prop := ∃ a c, v = .slice a vs.length c ∧ ∀ (i : Nat) (y : Vr), vs[i]? = some y → Fs W y.a y.V.f.length y.c y.V.f ∧ y.c ≤ 9223372036854775807 ∧ ∃ g, a = some ⟨g, 0, none⟩ ∧ ∀ (j : Nat) (u : Value), y.cs[j]? = some u → W.cell? ⟨g, i * 6 + j, none⟩ = some u
theorem Gd.below {W W' : World} {v : Value} {gs : List Er} (h : Gd W v gs) (hb : Below W.heap.size W W') : Gd W' v gs := by
  obtain ⟨a, c, e, h⟩ := h
  refine ⟨a, c, e, fun i y hy => ?_⟩
  obtain ⟨h1, h2, g, h3, h4⟩ := h i y hy
  exact ⟨h1.below hb (Nat.le_refl _), h2, g, h3, fun j u hu => (hb.cell (p := ⟨g, i * 7 + j, none⟩) (World.block_lt_of_cell? W _ (h4 j u hu))).trans (h4 j u hu)⟩
theorem Vd.below {W W' : World} {v : Value} {vs : List Vr} (h : Vd W v vs) (hb : Below W.heap.size W W') : Vd W' v vs := by
  obtain ⟨a, c, e, h⟩ := h
  refine ⟨a, c, e, fun i y hy => ?_⟩
  obtain ⟨h1, h2, g, h3, h4⟩ := h i y hy
  exact ⟨h1.below hb (Nat.le_refl _), h2, g, h3, fun j u hu => (hb.cell (p := ⟨g, i * 6 + j, none⟩) (World.block_lt_of_cell? W _ (h4 j u hu))).trans (h4 j u hu)⟩
theorem ecs_get (l : List Er) : ∀ (i j : Nat) (x : Er), l[i]? = some x → j < 7 → (ecs l)[i * 7 + j]? = x.cs[j]? := by
  induction l with
  | nil => intro i j x h; simp at h
  | cons y r ih =>
    intro i j x h hj
    have e : ecs (y :: r) = y.cs ++ ecs r := by simp [ecs]
    have hl : y.cs.length = 7 := rfl
    rw [e]
    cases i with
    | zero =>
      simp at h
      subst h
      rw [Nat.zero_mul, Nat.zero_add, List.getElem?_append_left (by omega)]
    | succ i =>
      rw [List.getElem?_append_right (by omega), hl, show (i + 1) * 7 + j - 7 = i * 7 + j by omega]
      exact ih i j x (by simpa using h) hj
theorem gd_of {w W : World} {v6 v7 : Value} {x : Vr} {vs : List Vr} {gs ls : List Er} (h : Cg w W v6 v7 x vs 34 7 gs.length (ecs gs)) (hq : Cq gs vs x) (hl : ∀ y ∈ gs, y ∈ ls) (ho : ∀ y ∈ ls, y.ok W) : Gd W v7 gs ∧ Vd W v6 vs := by
  constructor
  · have h7 := h.o7
    have h1 := h7
    obtain ⟨-, ⟨rfl, hn⟩ | ⟨g, cap, cur, rfl, hg, hh, hnc, hcm, hcs, hx⟩⟩ := h1
    · exact ⟨none, 0, by rw [hn], fun i y hy => by have := (List.getElem?_eq_some_iff.1 hy).1; omega⟩
    · refine ⟨_, cap, rfl, fun i y hy => ⟨ho y (hl y (List.mem_of_getElem? hy)), hq.eg y (List.mem_of_getElem? hy), g, rfl, fun j u hj => ?_⟩⟩
      have hj7 : j < 7 := by have := (List.getElem?_eq_some_iff.1 hj).1; simpa [Er.cs] using this
      have hc := World.ownsRow.cells (w := W) (base := w.heap.size + 1) (e := 34) (size := 7) (v := .slice (some ⟨g, 0, none⟩) gs.length cap) (n := gs.length) (xs := ecs gs) h7 (g := g) rfl (i * 7 + j) u (by rw [ecs_get gs i j y hy hj7]; exact hj)
      rwa [add_plain, Nat.zero_add] at hc
  · obtain ⟨g, c, e, hc, hcell⟩ := ownV_form h.o6 (by rw [hq.len]; omega)
    exact ⟨_, c, e, fun i y hy => ⟨(h.fs y (.inr (List.mem_of_getElem? hy))).1, (h.fs y (.inr (List.mem_of_getElem? hy))).2, g, rfl, fun j u hu => hcell i y j u hy hu⟩⟩
/-- The View behind the first k Edits. -/
def Vk (gs : List Er) (k : Nat) (V : Vw) : Prop := k ≤ gs.length ∧ apE oneV ((gs.map Er.E).take k) = some V
def Gk (gs : List Er) (s : Nat) (V : Vw) : Prop := Vk gs s V ∨ Vk gs (s + 1) V
theorem Vk.next {gs : List Er} {i : Nat} {V : Vw} {y : Er} {vs : List Vr} {x : Vr} (h : Vk gs i V) (hy : gs[i]? = some y) (hq : Cq gs vs x) : ∃ U, appl V y.E = some U ∧ Vk gs (i + 1) U := by
  have hlt : i < gs.length := (List.getElem?_eq_some_iff.1 hy).1
  obtain ⟨z, hz⟩ : ∃ z, vs[i + 1]? = some z := ⟨_, List.getElem?_eq_getElem (by rw [hq.len]; omega)⟩
  have hz2 := hq.at' _ _ hz
  have e : (gs.map Er.E).take (i + 1) = (gs.map Er.E).take i ++ [y.E] := by
    rw [List.take_add_one]
    simp [hy]
  refine ⟨z.V, ?_, hlt, hz2⟩
  rw [e, apE_app, h.2] at hz2
  change apE V [y.E] = some z.V at hz2
  rw [apE_cons] at hz2
  split at hz2
  · cases hz2
  · rename_i X hX
    rw [hX]
    exact hz2
theorem Vk.at' {gs : List Er} {k : Nat} {V : Vw} {vs : List Vr} {x : Vr} (h : Vk gs k V) (hq : Cq gs vs x) {z : Vr} (hz : vs[k]? = some z) : V = z.V := by
  have := hq.at' _ _ hz
  rw [h.2] at this
  exact Option.some.inj this
theorem vk_zero (gs : List Er) : Vk gs 0 oneV := ⟨Nat.zero_le _, rfl⟩

end Go.Proofs.YtcahlmneancapaaGreatDoor.Clep
