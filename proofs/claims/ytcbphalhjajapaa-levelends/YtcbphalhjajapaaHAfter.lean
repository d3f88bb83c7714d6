/- What level.After does when called (a walk over the translated program). Conditions: at most 1,000 files, numbers, files made. -/
import Derived.Test.YtcbphalhjajapaaHOwn
import Derived.Test.YtcbphalhjajapaaHDone
namespace Go.Proofs.Ytcbphalhjajapaa.Clep
open Go.RowKit
set_option linter.unusedVariables false
set_option linter.unusedSimpArgs false

theorem He.ok.gb {w w' : World} {row : Option Nat} {x : He} (h : x.ok w) (hg : w.grownBy w' row) (hf : ∀ p, x.fa = some p → some p.block ≠ row) (hgg : ∀ p, x.ga = some p → some p.block ≠ row) : x.ok w' :=
  ⟨⟨h.1.1.gb hg hf, h.1.2⟩, ⟨h.2.1.1.gb hg hgg, h.2.1.2⟩, h.2.2⟩
/-- Between the rounds of After: the row that is made, each file's keys in memory of their own. -/
structure AfS (w W : World) (v : Value) (l : List He) (m : Nat) (ns : List Int) : Prop where
  o : OwnH W (w.heap.size + 1) v l
  k : ∀ x ∈ l, x.ok W ∧ (∀ p, x.fa = some p → some p.block ≠ v.ownBlock ∧ w.heap.size < p.block ∧ p.block < W.heap.size) ∧ (∀ p, x.ga = some p → some p.block ≠ v.ownBlock ∧ w.heap.size < p.block ∧ p.block < W.heap.size)
  b : Below w.heap.size w W
  sz : w.heap.size + 1 ≤ W.heap.size
  m : Mps W w.heap.size m ns
theorem AfS.keep {w W W' : World} {v : Value} {l : List He} {m : Nat} {ns : List Int} (h : AfS w W v l m ns) (hb : Below W.heap.size W W') : AfS w W' v l m ns :=
  ⟨xrow_keep h.o hb, fun x hx => by
    obtain ⟨k1, k2, k3⟩ := h.k x hx
    exact ⟨k1.below hb (Nat.le_refl _), fun p e => ⟨(k2 p e).1, (k2 p e).2.1, Nat.lt_of_lt_of_le (k2 p e).2.2 hb.size⟩, fun p e => ⟨(k3 p e).1, (k3 p e).2.1, Nat.lt_of_lt_of_le (k3 p e).2.2 hb.size⟩⟩, h.b.trans (hb.mono h.b.size), Nat.le_trans h.sz hb.size, h.m.keep hb⟩
theorem AfS.app {w W W' : World} {v v' : Value} {l : List He} {m : Nat} {ns : List Int} {y : He} {q : Nat} (h : AfS w W v l m ns) (hy : y.ok W) (hq : w.heap.size < q) (hv : ∀ k, v.ownBlock = some k → k < q) (hf : ∀ p, y.fa = some p → q ≤ p.block ∧ p.block < W.heap.size) (hga : ∀ p, y.ga = some p → q ≤ p.block ∧ p.block < W.heap.size)
    (ho : OwnH W' (w.heap.size + 1) v' (l ++ [y])) (hg : W.grownBy W' v.ownBlock) (ha : v'.ownBlock = v.ownBlock ∨ v'.ownBlock = some W.heap.size) : AfS w W' v' (l ++ [y]) m ns := by
  have hown : ∀ k, v.ownBlock = some k → w.heap.size + 1 ≤ k := fun k hk => (World.ownsRow.lt h.o k hk).1
  have hne : ∀ p : Addr, some p.block ≠ v.ownBlock → p.block < W.heap.size → some p.block ≠ v'.ownBlock := fun p h1 h2 => by
    rcases ha with e | e
    · rw [e]; exact h1
    · rw [e]; intro e2; have := Option.some.inj e2; omega
  have hyf : ∀ p : Addr, q ≤ p.block → some p.block ≠ v.ownBlock := fun p h1 e => by have := hv _ e.symm; omega
  refine ⟨ho, fun x hx => ?_, h.b.grown hg h.b.size (fun k hk => by have := hown k hk; omega), Nat.le_trans h.sz hg.size, h.m.kept hg (fun e => by have := hown _ e.symm; omega)⟩
  rcases List.mem_append.1 hx with hx | hx
  · obtain ⟨k1, k2, k3⟩ := h.k x hx
    exact ⟨k1.gb hg (fun p e => (k2 p e).1) (fun p e => (k3 p e).1), fun p e => ⟨hne p (k2 p e).1 (k2 p e).2.2, (k2 p e).2.1, Nat.lt_of_lt_of_le (k2 p e).2.2 hg.size⟩, fun p e => ⟨hne p (k3 p e).1 (k3 p e).2.2, (k3 p e).2.1, Nat.lt_of_lt_of_le (k3 p e).2.2 hg.size⟩⟩
  · obtain rfl := List.mem_singleton.1 hx
    exact ⟨hy.gb hg (fun p e => hyf p (hf p e).1) (fun p e => hyf p (hga p e).1), fun p e => ⟨hne p (hyf p (hf p e).1) (hf p e).2, by have := (hf p e).1; omega, Nat.lt_of_lt_of_le (hf p e).2 hg.size⟩, fun p e => ⟨hne p (hyf p (hga p e).1) (hga p e).2, by have := (hga p e).1; omega, Nat.lt_of_lt_of_le (hga p e).2 hg.size⟩⟩
theorem hs_farx {w : World} {a : Option Addr} {n c : Nat} {l : List He} (h : Hs w a n c l) : Hid (∀ W, Below w.heap.size w W → Hs W a n c l) := hide (fun W hW => h.below hW (Nat.le_refl _))
/-- The files that stay. -/
def stayA (l : List He) (ns : List Int) : List (Int × Int × List Int × List Int × Int) := (l.filter fun x => !(ns.contains x.N)).map He.a
/-- The files that were made, on the level t. -/
def madeA (l : List He) (t : Int) : List (Int × Int × List Int × List Int × Int) := l.map fun x => (x.N, t, x.fz, x.gz, x.M)
theorem stayA_more {l : List He} {ns : List Int} {i : Nat} {x : He} (hx : l[i]? = some x) : stayA (l.take (i + 1)) ns = stayA (l.take i) ns ++ (if ns.contains x.N = true then [] else [x.a]) := by
  unfold stayA
  rw [List.take_add_one, hx, Option.toList, List.filter_append, List.map_append]
  congr 1
  by_cases h : ns.contains x.N = true
  · rw [if_pos h, List.filter_cons_of_neg (by rw [h]; simp)]; rfl
  · rw [if_neg h, List.filter_cons_of_pos (by simpa using h)]; rfl
theorem madeA_more {l : List He} {t : Int} {i : Nat} {x : He} (hx : l[i]? = some x) : madeA (l.take (i + 1)) t = madeA (l.take i) t ++ [(x.N, t, x.fz, x.gz, x.M)] := by
  unfold madeA
  rw [List.take_add_one, hx, Option.toList, List.map_append]
  rfl
/-- What After answers. -/
def AfR (l : List He) (ns : List Int) (t : Int) (made : List He) (w : World) (e : Ending) (w' : World) : Prop := ∃ (v : Value) (l' : List He), e = .returned v ∧ OwnH w' w.heap.size v l' ∧ (∀ x ∈ l', x.ok w') ∧ l'.map He.a = stayA l ns ++ madeA made t ∧ Below w.heap.size w w'
theorem stayA_len (l : List He) (ns : List Int) : (stayA l ns).length ≤ l.length := by
  unfold stayA
  rw [List.length_map]
  exact List.length_filter_le _ _
theorem madeA_len (l : List He) (t : Int) : (madeA l t).length = l.length := by simp [madeA]
set_option maxRecDepth 100000 in
set_option maxHeartbeats 4000000 in
theorem after_any (a : Option Addr) (n c : Nat) (l : List He) (ia : Option Addr) (N ic : Nat) (ns : List Int) (t : Int) (ma : Option Addr) (mn mc : Nat) (made : List He) (w : World) (h : Hs w a n c l) (hi : Zs w ia N ic ns) (ht : hi64 t) (hm : Hs w ma mn mc made) (hn : n ≤ 1000) (hN : N ≤ 1000) (hmn : mn ≤ 1000) (hsl : ∀ x ∈ l, x.sm) (hsm : ∀ x ∈ made, x.sm) :
    Calls Try.prog 19 #[.slice a n c, .slice ia N ic, .int .i64 t, .slice ma mn mc] w (AfR l ns t made w) := by
  have HR := hide (show ∀ v l' W, OwnH W w.heap.size v l' → (∀ x ∈ l', x.ok W) → l'.map He.a = stayA l ns ++ madeA made t → Below w.heap.size w W → AfR l ns t made w (.returned v) W from fun v l' W h1 h2 h3 h4 => ⟨v, l', rfl, h1, h2, h3, h4⟩)
  generalize AfR l ns t made w = Q at *
  have HF := hs_farx h
  have HM := hs_farx hm
  have HI := hide (fun W (hW : Below w.heap.size w W) => hi.below hW (Nat.le_refl _))
  have HL := hide h.1
  have HLM := hide hm.1
  have HLN := hide hi.1
  have HT := hide ht
  have HSL := hide hsl
  have HSM0 := hide hsm
  have HMK := hide (makeset_hint (N : Int))
  have mk := makeset_hint (N : Int) w
  have A1 := (Below.refl w.heap.size w).alloc (Nat.le_refl _) (.map #[] 0)
  have HS0 := hide (show AfS w (w.alloc (.map #[] 0)) (.slice none 0 0) [] 0 (ns.take 0) from ⟨ownH_nil _ _, by simp, A1, by simp, mps_new w⟩)
  clear h hi hm A1 ht HMK hsl hsm
  go_enter Try.func19, Try.ntmps19
  go_wp2_with fail
  generalize w.alloc (.map #[] 0) = w1 at *
  go_loopw [24] (fun s wr => ∃ i : Nat, i ≤ N ∧ s = .int .i64 i ∧ Hid (AfS w wr (.slice none 0 0) [] i (ns.take i))) (fun s _ => N - (intOf s).toNat)
  case atStart => exact ⟨0, by omega, rfl, HS0⟩
  case round =>
    obtain ⟨i, hi, rfl, hst⟩ := hrel
    by_cases hlt : i < N
    · obtain ⟨z, zb, zo, hz, rfl, hzc, hz1, hz2⟩ := zs_at (HI.out _ hst.out.b) i hlt
      have HTK := hide (show ns.take (i + 1) = ns.take i ++ [z] from by rw [List.take_add_one, hz]; rfl)
      have HMP := hide hst.out.m
      have hqi : (i : Int) < (N : Int) := by omega
      clear hz
      go_wp2_with (at_mapUpdate; refine wpList_put_mps rfl _ _ _ rfl w.heap.size i _ rfl HMP.out (by omega) z rfl ⟨hz1, hz2⟩ rfl ?_; intro w3 hm3 hg3)
      have HS3 := hide (show AfS w w3 (.slice none 0 0) [] (i + 1) (ns.take (i + 1)) from ⟨ownH_nil _ _, by simp, hst.out.b.grown hg3 hst.out.b.size (fun q hq => by cases hq; exact Nat.le_refl _), Nat.le_trans hst.out.sz hg3.size, by rw [HTK.out]; exact hm3⟩)
      clear hm3 hg3
      go_roundw
      case rel => exact ⟨i + 1, by omega, by go_num, HS3⟩
      case measure => simp [intOf]; omega
    · obtain rfl : i = N := by omega
      have hqi : ¬ ((i : Int) < (i : Int)) := by omega
      have hfull : ns.take i = ns := List.take_of_length_le (by rw [HLN.out]; exact Nat.le_refl _)
      have HS1 := hide hst.out
      rw [hfull] at HS1
      clear hst hfull HS0
      have HS2 := hide (show ∃ (m0 : Nat) (l' : List He), AfS w wr (.slice none 0 0) l' m0 ns ∧ l'.map He.a = stayA (l.take 0) ns from ⟨i, [], HS1.out, rfl⟩)
      clear HS1 HLN HI
      go_wp2_with fail
      go_loopw [12, 34] (fun v s wr => ∃ j : Nat, j ≤ n ∧ s = .int .i64 j ∧ Hid (∃ (m0 : Nat) (l' : List He), AfS w wr v l' m0 ns ∧ l'.map He.a = stayA (l.take j) ns)) (fun _ s _ => n - (intOf s).toNat)
      case atStart => exact ⟨0, by omega, rfl, HS2⟩
      case round =>
        obtain ⟨j, hj, rfl, hst2⟩ := hrel
        obtain ⟨m0, l', hS, hla⟩ := hst2.out
        have HS := hide hS
        have HLA := hide hla
        clear hst2 hS hla HS2
        by_cases hlt2 : j < n
        · obtain ⟨x, ab, off, hx, rfl, hok, x0, x1, x2, x3, x4⟩ := hs_at (HF.out _ HS.out.b) j hlt2
          have HSM := hide (stayA_more (ns := ns) hx)
          have HNR := hide hok.2.2.1
          have HOK := hide (fun W (hW : Below wr.heap.size wr W) => own_any x W (hok.below hW (Nat.le_refl _)) (HSL.out x (List.mem_of_getElem? hx)))
          have hqj : (j : Int) < (n : Int) := by omega
          have A1 := (Below.refl _ wr).alloc (Nat.le_refl _) (Obj.cells #[.int .i64 x.N, .int .i64 x.L, .slice x.fa x.fz.length x.fc, .slice x.ga x.gz.length x.gc, .int .i64 x.M] 27)
          have HS1 := hide (HS.out.keep A1)
          have HMP := hide HS1.out.m
          have A2 := A1.alloc (by simp) (Obj.cells #[] 42)
          have HA2 := hide A2
          have HSZ2 := hide (show wr.heap.size + 2 = ((wr.alloc (Obj.cells #[.int .i64 x.N, .int .i64 x.L, .slice x.fa x.fz.length x.fc, .slice x.ga x.gz.length x.gc, .int .i64 x.M] 27)).alloc (Obj.cells #[] 42)).heap.size by simp)
          have hls : l'.length ≤ 1000 := by
            have h1 : (l'.map He.a).length = (stayA (l.take j) ns).length := by rw [HLA.out]
            have h2 := stayA_len (l.take j) ns
            rw [List.length_map] at h1
            rw [List.length_take] at h2
            omega
          clear hx hok A1 A2
          cases hb : ns.contains x.N with
          | true =>
            have HSM2 := hide (show stayA (l.take (j + 1)) ns = stayA (l.take j) ns from by rw [HSM.out, hb, if_pos rfl, List.append_nil])
            have HB := hide hb
            clear hb HSM
            go_wp2_with (at_lookup; refine wpList_look_mps rfl _ _ rfl w.heap.size m0 ns rfl HMP.out x.N rfl HNR.out true HB.out ?_)
            go_roundw
            case rel => exact ⟨j + 1, by omega, by go_num, hide ⟨m0, l', HS.out.keep HA2.out, by rw [HSM2.out]; exact HLA.out⟩⟩
            case measure => simp [intOf]; omega
          | false =>
            have HSM2 := hide (show stayA (l.take (j + 1)) ns = stayA (l.take j) ns ++ [x.a] from by rw [HSM.out, hb]; rfl)
            have HB := hide hb
            have HOW := hide (HOK.out _ HA2.out)
            have HS2 := hide (HS.out.keep HA2.out)
            have HV := hide (show ∀ k, (u12 : Value).ownBlock = some k → k < wr.heap.size + 2 from fun k hk => by have := (World.ownsRow.lt HS.out.o k hk).2; omega)
            have HW0 := hide (show w.heap.size < wr.heap.size + 2 from by have := HS.out.sz; omega)
            clear hb HSM HOK
            go_wp2_with (first | (at_lookup; refine wpList_look_mps rfl _ _ rfl w.heap.size m0 ns rfl HMP.out x.N rfl HNR.out false HB.out ?_) | fail)
            generalize (wr.alloc (Obj.cells #[.int .i64 x.N, .int .i64 x.L, .slice x.fa x.fz.length x.fc, .slice x.ga x.gz.length x.gc, .int .i64 x.M] 27)).alloc (Obj.cells #[] 42) = w2 at *
            refine HOW.out.mono ?_
            rintro e w3 ⟨y, rfl, hya, hyok, hyf, hyg, hb3⟩
            rw [show He.v y = Value.agg #[.int .i64 y.N, .int .i64 y.L, .slice y.fa y.fz.length y.fc, .slice y.ga y.gz.length y.gc, .int .i64 y.M] from rfl]
            rw [← HSZ2.out] at hyf hyg
            have A4 := (Below.refl _ w3).alloc (Nat.le_refl _) (Obj.cells y.cs.toArray 27)
            have HS4 := hide ((HS2.out.keep hb3).keep A4)
            have HY4 := hide (hyok.below A4 (Nat.le_refl _))
            have HE4 := hide (ek_new w3 y.cs.toArray 27)
            have HYF := hide (show ∀ p, y.fa = some p → wr.heap.size + 2 ≤ p.block ∧ p.block < (w3.alloc (Obj.cells y.cs.toArray 27)).heap.size from fun p e => ⟨(hyf p e).1, Nat.lt_of_lt_of_le (hyf p e).2 A4.size⟩)
            have HYG := hide (show ∀ p, y.ga = some p → wr.heap.size + 2 ≤ p.block ∧ p.block < (w3.alloc (Obj.cells y.cs.toArray 27)).heap.size from fun p e => ⟨(hyg p e).1, Nat.lt_of_lt_of_le (hyg p e).2 A4.size⟩)
            have HO4 := hide HS4.out.o
            have HZ4 := hide HS4.out.sz
            have HYA := hide hya
            have hl5 : l'.length ≤ 100000 := by omega
            clear hyok hyf hyg hya A4 hb3 HOW HS2 HSZ2 HMP
            go_wp2_with (at_builtin; refine wpList_append_h rfl _ _ rfl (w.heap.size + 1) _ l' rfl HO4.out w3.heap.size y rfl HE4.out hl5 HZ4.out ?_; intro v6 w6 ho6 hg6 hk6 ha6)
            have HS6 := hide (HS4.out.app HY4.out HW0.out HV.out HYF.out HYG.out ho6 hg6 ha6)
            clear ho6 hg6 hk6 ha6
            go_roundw
            case rel => exact ⟨j + 1, by omega, by go_num, hide ⟨m0, l' ++ [y], HS6.out, by rw [HSM2.out, List.map_append, HLA.out, List.map_singleton, HYA.out]⟩⟩
            case measure => simp [intOf]; omega
        · obtain rfl : j = n := by omega
          have hqj : ¬ ((j : Int) < (j : Int)) := by omega
          have hfull : l.take j = l := List.take_of_length_le (by rw [HL.out]; exact Nat.le_refl _)
          have HS3 := hide (show ∃ (m0 : Nat) (l' : List He), AfS w wr u12 l' m0 ns ∧ l'.map He.a = stayA l ns ++ madeA (made.take 0) t from ⟨m0, l', HS.out, by rw [HLA.out, hfull]; simp [madeA]⟩)
          clear HS HLA hfull HF
          have hjn : (stayA l ns).length ≤ 1000 := by have := stayA_len l ns; have := HL.out; omega
          go_wp2_with fail
          go_loopw [12, 55] (fun v s wr => ∃ k : Nat, k ≤ mn ∧ s = .int .i64 k ∧ Hid (∃ (m0 : Nat) (l' : List He), AfS w wr v l' m0 ns ∧ l'.map He.a = stayA l ns ++ madeA (made.take k) t)) (fun _ s _ => mn - (intOf s).toNat)
          case atStart => exact ⟨0, by omega, rfl, HS3⟩
          case round =>
            obtain ⟨k, hk, rfl, hst2⟩ := hrel
            obtain ⟨m0, l', hS, hla⟩ := hst2.out
            have HS := hide hS
            have HLA := hide hla
            clear hst2 hS hla HS3
            by_cases hlt2 : k < mn
            · obtain ⟨x, ab, off, hx, rfl, hok, x0, x1, x2, x3, x4⟩ := hs_at (HM.out _ HS.out.b) k hlt2
              have HSM := hide (madeA_more (t := t) hx)
              have HOK := hide (fun W (hW : Below wr.heap.size wr W) => own_any ⟨x.N, t, x.fa, x.fc, x.fz, x.ga, x.gc, x.gz, x.M⟩ W ((show He.ok wr ⟨x.N, t, x.fa, x.fc, x.fz, x.ga, x.gc, x.gz, x.M⟩ from ⟨hok.1, hok.2.1, hok.2.2.1, HT.out, hok.2.2.2.2⟩).below hW (Nat.le_refl _)) (HSM0.out x (List.mem_of_getElem? hx)))
              have hqk : (k : Int) < (mn : Int) := by omega
              have A1 := (Below.refl _ wr).alloc (Nat.le_refl _) (Obj.cells #[.int .i64 x.N, .int .i64 t, .slice x.fa x.fz.length x.fc, .slice x.ga x.gz.length x.gc, .int .i64 x.M] 27)
              have HA1 := hide A1
              have HSZ2 := hide (show wr.heap.size + 1 = (wr.alloc (Obj.cells #[.int .i64 x.N, .int .i64 t, .slice x.fa x.fz.length x.fc, .slice x.ga x.gz.length x.gc, .int .i64 x.M] 27)).heap.size by simp)
              have hls : l'.length ≤ 2000 := by
                have h1 : (l'.map He.a).length = (stayA l ns ++ madeA (made.take k) t).length := by rw [HLA.out]
                rw [List.length_map, List.length_append, madeA_len, List.length_take] at h1
                omega
              have HOW := hide (HOK.out _ A1)
              have HS2 := hide (HS.out.keep A1)
              have HV := hide (show ∀ k, (u12 : Value).ownBlock = some k → k < wr.heap.size + 1 from fun k hk => by have := (World.ownsRow.lt HS.out.o k hk).2; omega)
              have HW0 := hide (show w.heap.size < wr.heap.size + 1 from by have := HS.out.sz; omega)
              rw [show He.v ⟨x.N, t, x.fa, x.fc, x.fz, x.ga, x.gc, x.gz, x.M⟩ = Value.agg #[.int .i64 x.N, .int .i64 t, .slice x.fa x.fz.length x.fc, .slice x.ga x.gz.length x.gc, .int .i64 x.M] from rfl] at HOW
              clear hx hok A1 HOK
              go_wp2_with fail
              generalize wr.alloc (Obj.cells #[.int .i64 x.N, .int .i64 t, .slice x.fa x.fz.length x.fc, .slice x.ga x.gz.length x.gc, .int .i64 x.M] 27) = w2 at *
              refine HOW.out.mono ?_
              rintro e w3 ⟨y, rfl, hya, hyok, hyf, hyg, hb3⟩
              rw [show He.v y = Value.agg #[.int .i64 y.N, .int .i64 y.L, .slice y.fa y.fz.length y.fc, .slice y.ga y.gz.length y.gc, .int .i64 y.M] from rfl]
              rw [← HSZ2.out] at hyf hyg
              have A4 := (Below.refl _ w3).alloc (Nat.le_refl _) (Obj.cells y.cs.toArray 27)
              have HS4 := hide ((HS2.out.keep hb3).keep A4)
              have HY4 := hide (hyok.below A4 (Nat.le_refl _))
              have HE4 := hide (ek_new w3 y.cs.toArray 27)
              have HYF := hide (show ∀ p, y.fa = some p → wr.heap.size + 1 ≤ p.block ∧ p.block < (w3.alloc (Obj.cells y.cs.toArray 27)).heap.size from fun p e => ⟨(hyf p e).1, Nat.lt_of_lt_of_le (hyf p e).2 A4.size⟩)
              have HYG := hide (show ∀ p, y.ga = some p → wr.heap.size + 1 ≤ p.block ∧ p.block < (w3.alloc (Obj.cells y.cs.toArray 27)).heap.size from fun p e => ⟨(hyg p e).1, Nat.lt_of_lt_of_le (hyg p e).2 A4.size⟩)
              have HO4 := hide HS4.out.o
              have HZ4 := hide HS4.out.sz
              have HYA := hide hya
              have hl5 : l'.length ≤ 100000 := by omega
              clear hyok hyf hyg hya A4 hb3 HOW HS2 HSZ2 x0 x1 x2 x3 x4
              go_wp2_with (at_builtin; refine wpList_append_h rfl _ _ rfl (w.heap.size + 1) _ l' rfl HO4.out w3.heap.size y rfl HE4.out hl5 HZ4.out ?_; intro v6 w6 ho6 hg6 hk6 ha6)
              have HS6 := hide (HS4.out.app HY4.out HW0.out HV.out HYF.out HYG.out ho6 hg6 ha6)
              clear ho6 hg6 hk6 ha6
              go_roundw
              case rel => exact ⟨k + 1, by omega, by go_num, hide ⟨m0, l' ++ [y], HS6.out, by rw [HSM.out, List.map_append, HLA.out, List.map_singleton, HYA.out, List.append_assoc]; rfl⟩⟩
              case measure => simp [intOf]; omega
            · obtain rfl : k = mn := by omega
              have hqk : ¬ ((k : Int) < (k : Int)) := by omega
              have hfull : made.take k = made := List.take_of_length_le (by rw [HLM.out]; exact Nat.le_refl _)
              have HQ := hide (HR.out u12 l' wr (zrow_base HS.out.o (by omega)) (fun x hx => (HS.out.k x hx).1) (by rw [HLA.out, hfull]) HS.out.b)
              clear HS HLA hfull HR
              go_wp2
              all_goals first | exact HQ.out | (go_ret; exact HQ.out)

end Go.Proofs.Ytcbphalhjajapaa.Clep
