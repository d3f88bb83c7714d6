/- Marks in memory; what table.width and table.decode do when called. Conditions: the bytes are those of an index that lay wrote. -/
import Derived.Test.YtodhljiboakjnaaGreatQa
import Derived.Test.YtodhljiboakjnaaGreatZa
import Derived.Laws.AppendOwn
import Derived.Test.YtodhljiboakjnaaGreatQb
import Derived.Test.YtodhljiboakjnaaGreatZd
import Derived.Tactics
import Derived.Tactics2
import Derived.Defers
import Derived.Laws.Pointers
import Derived.Laws.LoneSync
import Derived.RegionTactic
import Derived.RegionCalls
import Derived.Laws.NewBlocks
namespace Go.Proofs.YtodhljiboakjnaaGreat.Clep
open Go.RowKit
set_option linter.unusedVariables false

/-- The first item of the block j. -/
def fi (l : List It) (j : Nat) : It := (l[j * 20]?).getD oz
theorem fi_at {l : List It} {j : Nat} (h : j < nb l) : l[j * 20]? = some (fi l j) := by
  have := nb_lt.1 h
  unfold fi
  rw [List.getElem?_eq_getElem this]; rfl
theorem ck_one {l : List It} {j : Nat} (h : j < nb l) : (ck 20 l j).take 1 = [fi l j] := by
  have h1 := nb_lt.1 h
  unfold ck
  rw [List.take_take, show min 1 20 = 1 from rfl]
  have e : l.drop (j * 20) = fi l j :: l.drop (j * 20 + 1) := by
    rw [List.drop_eq_getElem_cons h1]
    congr 1
    have := fi_at h
    rw [List.getElem?_eq_getElem h1] at this
    exact Option.some.inj this
  rw [e]; rfl
theorem ck_zero {l : List It} {j : Nat} (h : j < nb l) : (ck 20 l j)[0]? = some (fi l j) := by
  have := congrArg (fun m => m[0]?) (ck_one h)
  simpa [List.getElem?_take] using this
/-- What the index tells of the first j blocks. -/
def mks (l : List It) (j : Nat) : List (Nat × It) := (List.range j).map fun i => ((bls l i).length, fi l i)
theorem mks_succ (l : List It) (j : Nat) : mks l (j + 1) = mks l j ++ [((bls l j).length, fi l j)] := by
  unfold mks; rw [List.range_succ, List.map_append]; rfl
theorem mks_len (l : List It) (j : Nat) : (mks l j).length = j := by simp [mks]
theorem mks_get {l : List It} {j i : Nat} (h : i < j) : (mks l j)[i]? = some ((bls l i).length, fi l i) := by
  simp [mks, h]
theorem ixs_more (l : List It) (j : Nat) : ∀ d, ∃ r, ixs l (j + d) = ixs l j ++ r
  | 0 => ⟨[], by simp⟩
  | d + 1 => by
    obtain ⟨r, h⟩ := ixs_more l j d
    refine ⟨r ++ pu ((bls l (j + d)).length : Nat) ++ ibn ((ck 20 l (j + d)).take 1), ?_⟩
    rw [← Nat.add_assoc, ixs, h]; simp
theorem tI_rest {l : List It} {j : Nat} (h : j < nb l) : (tI l).drop (ixs l j).length = pu ((bls l j).length : Nat) ++ (ibn [fi l j] ++ (tI l).drop (ixs l (j + 1)).length) := by
  obtain ⟨r, hr⟩ := ixs_more l (j + 1) (nb l - (j + 1))
  rw [show j + 1 + (nb l - (j + 1)) = nb l by omega] at hr
  have e1 : tI l = ixs l (j + 1) ++ r := hr
  rw [e1, drop_app _ _ _ rfl]
  have e2 : ixs l (j + 1) ++ r = ixs l j ++ (pu ((bls l j).length : Nat) ++ (ibn [fi l j] ++ r)) := by
    rw [ixs, ck_one h]; simp
  rw [e2, drop_app _ _ _ rfl]

/-- The numbers of an item's bytes, and where each stands. -/
def wnum (x : It) : Nat → Int
  | 0 => x.T
  | 1 => x.V
  | _ => sgn x.X
def wk (x : It) : Nat → Nat
  | 0 => 3
  | k + 1 => wk x k + (pu (wnum x k)).length
theorem ibn_one (x : It) (r : List Int) : ibn [x] ++ r = [1, x.S % 256, x.K % 256] ++ (pu x.T ++ (pu x.V ++ (pu (sgn x.X) ++ r))) := by
  have : pu ((([x] : List It).length : Nat) : Int) = [1] := enc_small 9 1 (by decide)
  unfold ibn ibs It.b ib
  rw [this]; simp
theorem wk_all (x : It) : wk x 3 = (ibn [x]).length := by
  have := congrArg List.length (ibn_one x [])
  rw [List.append_nil] at this
  rw [this]
  simp [wk, wnum]; omega
theorem wk_at (x : It) (r : List Int) (k : Nat) (hk : k < 3) : ∃ r', (ibn [x] ++ r).drop (wk x k) = pu (wnum x k) ++ r' := by
  rw [ibn_one]
  match k, hk with
  | 0, _ => exact ⟨_, drop_app _ _ _ rfl⟩
  | 1, _ =>
    refine ⟨pu (sgn x.X) ++ r, ?_⟩
    rw [← List.append_assoc]
    exact drop_app _ _ _ (by simp [wk, wnum]; omega)
  | 2, _ =>
    refine ⟨r, ?_⟩
    rw [← List.append_assoc, ← List.append_assoc]
    exact drop_app _ _ _ (by simp [wk, wnum]; omega)
theorem wk_le (x : It) (k : Nat) (hk : k ≤ 3) : wk x k ≤ (ibn [x]).length ∧ 3 ≤ wk x k := by
  rw [← wk_all]
  match k, hk with
  | 0, _ => simp [wk]; omega
  | 1, _ => simp [wk]; omega
  | 2, _ => simp [wk]
            omega
  | 3, _ => simp [wk]
            omega
theorem wnum_rng {x : It} (h : x.wf) (k : Nat) : 0 ≤ wnum x k ∧ wnum x k ≤ 18446744073709551615 := by
  match k with
  | 0 => exact h.2.2.1
  | 1 => exact h.2.2.2.1
  | k + 2 => exact sgn_range _ h.2.2.2.2.1 h.2.2.2.2.2
attribute [local go_sem ↓] cut_l
set_option maxRecDepth 100000 in
theorem width_any (a : Option Addr) (n c : Nat) (x : It) (r : List Int) (w : World) (h : Bs w a n c (ibn [x] ++ r)) (hx : x.wf) (hn : n ≤ 9223372036854775807) :
    Calls Tryz.prog 92 #[.slice a n c] w fun e w' => e = .returned (.int .i64 ((ibn [x]).length : Nat)) ∧ w' = w := by
  have hl := h.1
  rw [List.length_append] at hl
  have hi1 := ibn1 [x] (by simp)
  have HW := hide (wk_le x)
  have HT := hide (fun k (hk : k < 3) => show Calls Tryz.prog 91 #[.slice (cut a c (wk x k)) (n - wk x k) (c - wk x k)] w fun e w' => e = .returned (.tuple #[.int .u64 (wnum x k), .int .i64 ((pu (wnum x k)).length : Nat), .int .i64 0]) ∧ w' = w from by
    obtain ⟨r', hr'⟩ := wk_at x r k hk
    have hle := (wk_le x k (by omega)).1
    have hb := h.cut (wk x k) n (by omega) (Nat.le_refl _)
    rw [List.take_of_length_le (by rw [List.length_append]; omega), hr'] at hb
    have := take_any _ _ _ _ w (by omega) hb
    rw [tk_pu _ _ (wnum_rng hx k).1 (wnum_rng hx k).2] at this
    exact this)
  have HA := hide (wk_all x)
  clear h
  generalize (ibn [x]).length = L at *
  go_enter Tryz.func92, Tryz.ntmps92
  go_wp2_with fail
  go_loopw [3, 7] (fun p i wr => ∃ k : Nat, k ≤ 3 ∧ i = .int .i64 k ∧ p = .int .i64 (wk x k : Nat) ∧ w = wr) (fun _ i _ => 3 - (intOf i).toNat)
  case atStart => exact ⟨0, by omega, rfl, rfl, rfl⟩
  case round =>
    obtain ⟨k, hk, rfl, rfl, rfl⟩ := hrel
    by_cases hlt : k < 3
    · have hT := HT.out k hlt
      have h3 := HW.out k hk
      have h4 := HW.out (k + 1) (by omega)
      have HK : Hid (wk x (k + 1) = wk x k + (pu (wnum x k)).length) := hide rfl
      obtain ⟨K, hK⟩ : ∃ K, wk x k = K := ⟨_, rfl⟩
      obtain ⟨q, hq⟩ : ∃ q, (pu (wnum x k)).length = q := ⟨_, rfl⟩
      obtain ⟨t, ht⟩ : ∃ t, wnum x k = t := ⟨_, rfl⟩
      have hq10 : q ≤ 10 := by rw [← hq]; exact (pu_len _).2
      rw [hq, hK] at HK
      rw [hK] at h3
      rw [hK, hq, ht] at hT
      have HTT := hide hT
      have hKn : (K : Int) ≤ (n : Int) := by omega
      have hKt : (K : Int).toNat = K := by omega
      rw [hK]
      clear hT h4 hK hq ht
      go_wp2_with fail
      refine HTT.out.mono ?_
      rintro e w1 ⟨rfl, rfl⟩
      go_wp2
      go_roundw
      case rel => exact ⟨k + 1, by omega, by go_num, by rw [HK.out]; go_num, by first | rfl | trivial⟩
      case measure => simp [intOf]; omega
    · obtain rfl : k = 3 := by omega
      go_wp2
      go_ret
      exact ⟨by rw [← HA.out]; rfl, rfl⟩

/-- The cells of a mark. -/
def mc (m : Nat × It) : List Value := [.int .i64 m.1, .int .i64 m.2.S, .int .i64 m.2.K, .int .u64 m.2.T, .int .u64 m.2.V, .int .i64 m.2.X]
def mcs (l : List (Nat × It)) : List Value := l.flatMap mc
theorem mcs_len (l : List (Nat × It)) : (mcs l).length = l.length * 6 := by
  induction l with
  | nil => rfl
  | cons x r ih => simp [mcs, mc] at ih ⊢; omega
theorem mcs_get (l : List (Nat × It)) : ∀ (i j : Nat) (x : Nat × It), l[i]? = some x → j < 6 → (mcs l)[i * 6 + j]? = (mc x)[j]? := by
  induction l with
  | nil => intro i j x h; simp at h
  | cons y r ih =>
    intro i j x h hj
    have e : mcs (y :: r) = mc y ++ mcs r := by simp [mcs]
    rw [e]
    cases i with
    | zero =>
      simp at h; subst h
      rw [Nat.zero_mul, Nat.zero_add, List.getElem?_append_left (by simp [mc]; omega)]
    | succ i =>
      simp at h
      rw [List.getElem?_append_right (by simp [mc]; omega), show (i + 1) * 6 + j - (mc y).length = i * 6 + j from by simp [mc]; omega]
      exact ih i j x h hj
/-- A mark at a place. -/
def Vm (w : World) (b o : Nat) (m : Nat × It) : Prop := w.cell? ⟨b, o, none⟩ = some (.int .i64 m.1) ∧ Vi w b (o + 1) m.2.S m.2.K m.2.T m.2.V m.2.X
/-- The slice leads to marks. -/
def Ms (w : World) (ao : Option Addr) (len cap : Nat) (l : List (Nat × It)) : Prop :=
  l.length = len ∧ (len ≤ cap ∧ (ao = none → len = 0 ∧ cap = 0)) ∧ (0 < len → ∃ b off, ao = some ⟨b, off, none⟩ ∧ ∀ i m, l[i]? = some m → Vm w b (off + i * 6) m)
def OwnM (w : World) (B : Nat) (v : Value) (l : List (Nat × It)) : Prop := w.ownsRow B 92 6 v l.length (mcs l)
theorem infoM : (Tryz.prog.info? 92).map (fun i => (i.zero, i.size, i.bytes)) = some (some (.agg #[.int .i64 0, .int .i64 0, .int .i64 0, .int .u64 0, .int .u64 0, .int .i64 0]), 6, 48) := by kernel_rfl
theorem ownM_keep {w w' : World} {B : Nat} {v : Value} {l : List (Nat × It)} (h : OwnM w B v l) (hb : Below w.heap.size w w') : OwnM w' B v l := by
  refine World.ownsRow.kept h (gb_below hb none) ?_
  cases hv : v.ownBlock with
  | none => exact .inl rfl
  | some k => exact .inr fun e => by cases e
theorem ownM_ms {w : World} {B : Nat} {v : Value} {l : List (Nat × It)} (h : OwnM w B v l) : ∃ ao cap, v = .slice ao l.length cap ∧ cap ≤ 9223372036854775807 ∧ Ms w ao l.length cap l ∧ (∀ a, ao = some a → B ≤ a.block ∧ a.block < w.heap.size) := by
  have h0 := h
  obtain ⟨hl, ⟨rfl, hn⟩ | ⟨g, cap, cur, rfl, hg, hh, hnc, hcm, hcs, hx⟩⟩ := h
  · rw [hn]
    have : l = [] := List.eq_nil_of_length_eq_zero hn
    subst this
    exact ⟨none, 0, rfl, by omega, ⟨rfl, ⟨by omega, fun _ => ⟨rfl, rfl⟩⟩, fun h => by omega⟩, fun a h => by cases h⟩
  · refine ⟨_, cap, rfl, by unfold maxLen at hcm; omega, ⟨rfl, ⟨hnc, fun h => by cases h⟩, fun _ => ⟨g, 0, rfl, fun i x hi => ?_⟩⟩, fun a h => by cases h; exact ⟨hg, (Array.getElem?_eq_some_iff.1 hh).1⟩⟩
    have hc : ∀ j, j < 6 → ∀ u, (mc x)[j]? = some u → w.cell? ⟨g, 0 + (i * 6) + j, none⟩ = some u := fun j hj u hu => by
      have := World.ownsRow.cells h0 (g := g) rfl (i * 6 + j) u (by rw [mcs_get l i j x hi hj]; exact hu)
      rw [add_plain] at this
      rw [Nat.add_assoc]
      exact this
    exact ⟨hc 0 (by omega) _ rfl, hc 1 (by omega) _ rfl, hc 2 (by omega) _ rfl, hc 3 (by omega) _ rfl, hc 4 (by omega) _ rfl, hc 5 (by omega) _ rfl⟩
theorem ownM_shape {w : World} {B : Nat} {v : Value} {l : List (Nat × It)} (h : OwnM w B v l) : ∃ a c, v = .slice a l.length c := by
  obtain ⟨_, ⟨rfl, hn⟩ | ⟨g, cap, cur, rfl, _⟩⟩ := h
  · exact ⟨none, 0, by rw [hn]⟩
  · exact ⟨_, _, rfl⟩
theorem cells_newM (w : World) (m : Nat × It) (T : TypeId) : ∀ j u, (mc m)[j]? = some u → (w.alloc (.cells (mc m).toArray T)).cell? ((⟨w.heap.size, 0, none⟩ : Addr).add j) = some u := by
  intro j u hu
  rw [add_plain, World.cell?_alloc_at _ _ _ _ (by simp)]
  simp [hu]
attribute [local go_sem ↓] cut_lh
set_option maxRecDepth 100000 in
set_option maxHeartbeats 2000000 in
theorem decode_any (a : Option Addr) (n c : Nat) (l : List It) (w : World) (h : Bs w a n c (tI l)) (hT : TOk l) (hc : c ≤ 9223372036854775807) :
    Calls Tryz.prog 67 #[.slice a n c] w fun e w' => ∃ v, e = .returned v ∧ OwnM w' w.heap.size v (mks l (nb l)) ∧ Below w.heap.size w w' := by
  have hn : n ≤ 5200 := by rw [← h.1]; exact tI_len hT
  obtain ⟨N, hN⟩ : ∃ N, nb l = N := ⟨_, rfl⟩
  have HN := hide hN
  have HT := hide hT
  have H0 : Hid (Bs w a n c ((tI l).drop (ixs l 0).length)) := hide (by simpa [ixs] using h)
  obtain ⟨i0, hi, hz0, hz1, hz2⟩ := info_parts infoM
  rw [hN]
  have hNm : N ≤ 100 := by rw [← hN]; exact nb_le hT.len
  clear h hT hN
  go_enter Tryz.func67, Tryz.ntmps67
  go_wp2_with fail
  go_loopw [0, 3] (fun b v wr => ∃ (j n1 : Nat) (a1 : Option Addr) (c1 : Nat), b = .slice a1 n1 c1 ∧ j ≤ N ∧ n1 ≤ 5200 ∧ c1 ≤ 9223372036854775807 ∧ Hid (Bs w a1 n1 c1 ((tI l).drop (ixs l j).length)) ∧ Hid (OwnM wr w.heap.size v (mks l j)) ∧ Hid (Below w.heap.size w wr)) (fun b _ _ => lenOf b)
  case atStart => exact ⟨0, n, a, c, rfl, by omega, hn, hc, H0, hide (World.ownsRow_nil _ _ _ _), hide (Below.refl _ _)⟩
  case round =>
    obtain ⟨j, n1, a1, c1, rfl, hj, hn1, hc1, hbs, hown, hbl⟩ := hrel
    by_cases hlt : j < N
    · have hr := tI_rest (l := l) (j := j) (by rw [HN.out]; exact hlt)
      have hB := hbs.out
      rw [hr] at hB
      have hwx := HT.out.wf _ (List.mem_of_getElem? (fi_at (l := l) (j := j) (by rw [HN.out]; exact hlt)))
      have hok := HT.out.ok _ (List.mem_of_getElem? (fi_at (l := l) (j := j) (by rw [HN.out]; exact hlt)))
      have HMS := hide (mks_succ l j)
      obtain ⟨x, hx⟩ : ∃ x, fi l j = x := ⟨_, rfl⟩
      obtain ⟨p, hp⟩ : ∃ p, (bls l j).length = p := ⟨_, rfl⟩
      have hpm : p ≤ 66200 := by rw [← hp]; have := bls_len l j; omega
      rw [hx, hp] at hB HMS
      rw [hx] at hwx hok
      obtain ⟨r, hrr⟩ : ∃ r, (tI l).drop (ixs l (j + 1)).length = r := ⟨_, rfl⟩
      rw [hrr] at hB
      have HRR := hide hrr
      obtain ⟨q, hq⟩ : ∃ q, (pu (p : Int)).length = q := ⟨_, rfl⟩
      obtain ⟨E, hE⟩ : ∃ E, (ibn [x]).length = E := ⟨_, rfl⟩
      have hq10 : 1 ≤ q ∧ q ≤ 10 := by rw [← hq]; exact pu_len _
      have hE42 : 1 ≤ E ∧ E ≤ 42 := by rw [← hE]; exact ⟨(ibn_len [x] (by simp)).1, ibn1 [x] (by simp)⟩
      have hln : q + E + r.length = n1 := by have := hB.1; simp only [List.length_append] at this; omega
      have hcc := hB.2.1.1
      have hT1 := hide (take_any a1 n1 c1 _ wr (by omega) (hB.below hbl.out (Nat.le_refl _)))
      rw [show tk (pu ((p : Nat) : Int) ++ (ibn [x] ++ r)) 0 0 = ((p : Int), ((pu (p : Int)).length : Int), 0) from tk_pu _ _ (by omega) (by omega), hq] at hT1
      have hB2 := hB.cut q n1 (by omega) (Nat.le_refl _)
      rw [List.take_of_length_le (by rw [hB.1]; exact Nat.le_refl _), drop_app _ _ q hq] at hB2
      have hW := hide (width_any _ _ _ x r wr (hB2.below hbl.out (Nat.le_refl _)) hwx (by omega))
      rw [hE] at hW
      have hB3 := hB.cut q (q + E) (by omega) (by omega)
      rw [show ((pu (p : Int) ++ (ibn [x] ++ r)).take (q + E)).drop q = ibn [x] from by
        rw [List.drop_take, drop_app _ _ q hq, show q + E - q = E by omega, List.take_append_of_le_length (by omega), List.take_of_length_le (by omega)]] at hB3
      have hR := hide (fun W (hW : Below w.heap.size w W) => read_any _ _ _ _ W (by omega) (hB3.below hW (Nat.le_refl _)))
      rw [rd_ok [x] (by simpa using hwx) (by simpa using hok) (by simp)] at hR
      have hB4 := hide (show Bs w (cut a1 c1 (q + E)) (n1 - (q + E)) (c1 - (q + E)) r from by
        have := hB.cut (q + E) n1 (by omega) (Nat.le_refl _)
        rwa [List.take_of_length_le (by rw [hB.1]; exact Nat.le_refl _), show (pu (p : Int) ++ (ibn [x] ++ r)).drop (q + E) = r from by rw [← List.append_assoc]; exact drop_app _ _ _ (by rw [List.length_append]; omega)] at this)
      have hqi : (q : Int) ≤ (n1 : Int) := by omega
      have hqt : (q : Int).toNat = q := by omega
      have hei : (q : Int) + (E : Int) ≤ (c1 : Int) := by omega
      have hei2 : (q : Int) + (E : Int) ≤ (n1 : Int) := by omega
      have het : ((q : Int) + (E : Int)).toNat = q + E := by omega
      have hqe : (q : Int) ≤ (q : Int) + (E : Int) := by omega
      have hEE : q + E - q = E := by omega
      rw [hEE] at hR
      have HLN := hide hln
      have HWX := hide hwx
      clear hr hB hB2 hB3 hx hp hq hE hrr hln hbs hwx hok
      go_wp2_with fail
      refine hT1.out.mono ?_
      rintro e w1 ⟨rfl, rfl⟩
      simp only [tup]
      go_wp2_with fail
      refine hW.out.mono ?_
      rintro e w2 ⟨rfl, rfl⟩
      go_wp2_with fail
      refine (hR.out _ hbl.out).mono ?_
      rintro e w3 ⟨v3, rfl, ho3, hb3⟩
      obtain ⟨a3, c3, rfl, hc3, hI3, -⟩ := ownI_is ho3 (by simpa using HWX.out)
      obtain ⟨b3, o3, e3, hcell⟩ := hI3.2.2.2 (by simp)
      subst e3
      obtain ⟨S, K, T, V, X⟩ := x
      have hv3 := hcell 0 _ rfl
      unfold Vt Vi at hv3
      simp only [Nat.zero_mul, Nat.add_zero] at hv3
      obtain ⟨g0, g1, g2, g3, g4⟩ := hv3
      have O3 := hide (ownM_keep hown.out hb3)
      have B3 := hide (bmore hbl.out hb3)
      clear hT1 hW hR ho3 hI3 hcell hb3
      have hl1 : ([(⟨S, K, T, V, X⟩ : It)] : List It).length = 1 := rfl
      rw [hl1]
      obtain ⟨aM, cM, rfl⟩ := ownM_shape O3.out
      go_wp2_with (first
        | (at_builtin; refine wpList_append_own _ rfl _ _ 85 rfl w.heap.size 92 i0 _ 6 48 Tryz.underlying85 hi hz0 hz1 hz2 rfl (by decide) _ (mks l j).length (mcs (mks l j)) rfl (O3.out.alloc _) ⟨w3.heap.size, 0, none⟩ 1 1 (mc (p, ⟨S, K, T, V, X⟩)) rfl rfl ?c1 ?c2 ?c3 ?c4 ?c5 ?_)
        | fail)
      case c1 => exact cells_newM _ (p, ⟨S, K, T, V, X⟩) _
      case c2 => intro u hu; simp only [mc, List.mem_cons, List.not_mem_nil, or_false] at hu; rcases hu with rfl | rfl | rfl | rfl | rfl | rfl <;> rfl
      case c3 => rw [mks_len]; unfold maxLen; omega
      case c4 => rw [mks_len]; omega
      case c5 => have := B3.out.size; simp; omega
      intro v4 w4 ho4 hg4 _
      have B4 : Hid (Below w.heap.size w w4) := hide ((B3.out.alloc B3.out.size _).grown hg4 (by have := B3.out.size; simp; omega) (fun k hk => (World.ownsRow.lt O3.out k hk).1))
      have O4 : Hid (OwnM w4 w.heap.size v4 (mks l (j + 1))) := hide (by
        rw [HMS.out]
        unfold OwnM
        rw [List.length_append, show mcs (mks l j ++ [(p, (⟨S, K, T, V, X⟩ : It))]) = mcs (mks l j) ++ mc (p, ⟨S, K, T, V, X⟩) from by simp [mcs]]
        exact ho4)
      clear ho4 hg4 O3 B3 g0 g1 g2 g3 g4
      go_wp2
      go_roundw
      case rel => exact ⟨j + 1, n1 - (q + E), _, c1 - (q + E), rfl, by omega, by omega, by omega, hide (by rw [HRR.out]; exact hB4.out), O4, B4⟩
      case measure => simp [lenOf]; omega
    · obtain rfl : j = N := by omega
      have hz : n1 = 0 := by
        have h1 := hbs.out.1
        have h2 : (tI l).length = (ixs l j).length := by unfold tI; rw [HN.out]
        rw [List.length_drop, h2] at h1; omega
      subst hz
      go_wp2
      go_ret
      exact ⟨_, rfl, hown.out, hbl.out⟩

end Go.Proofs.YtodhljiboakjnaaGreat.Clep

/- A Table in memory. -/
namespace Go.Proofs.YtodhljiboakjnaaGreat.Clep
open Go.RowKit
set_option linter.unusedVariables false
set_option maxRecDepth 10000

/-- The cells of a Table. -/
def tbV (n : Nat) (bl bd : Value) (d m : Int) (mk : Value) (F : Nat) : Array Value := #[.int .i64 n, bl, bd, .int .u32 d, .int .i32 m, .int .u32 0, mk, .pointer (some ⟨F, 0, none⟩)]
theorem Ms.ch {P : Nat → Prop} {w w' : World} {a : Option Addr} {len cap : Nat} {l : List (Nat × It)} (h : Ms w a len cap l) (hc : Ch P w w') (hn : ∀ x, a = some x → ¬ P x.block) : Ms w' a len cap l := by
  refine ⟨h.1, h.2.1, fun h0 => ?_⟩
  obtain ⟨b, off, ho, hcell⟩ := h.2.2 h0
  refine ⟨b, off, ho, fun i m hi => ?_⟩
  have q := hcell i m hi
  have hl := World.block_lt_of_cell? w _ q.1
  exact ⟨by rw [World.cell?_of_block (a := ⟨b, off + i * 6, none⟩) (hc.block b hl (hn _ ho))]; exact q.1, q.2.ch hc (hn _ ho)⟩
/-- A row's block is one of B's, and not M. -/
def Inn (B : Nat → Prop) (M : Nat) (ao : Option Addr) (len : Nat) : Prop := 0 < len → ∀ x, ao = some x → B x.block ∧ x.block ≠ M
/-- The Table of l in block M; its blocks are among B; d: is the index open? -/
structure Tb (w : World) (M : Nat) (B : Nat → Prop) (d : Nat) (l : List It) : Prop where
  ok : TOk l
  base : B M
  lt : ∀ b, B b → b < w.heap.size
  ex : ∃ (a1 : Option Addr) (c1 F D : Nat) (bd mk : Value), Blk w M (tbV l.length (.slice a1 (tA l).length c1) bd d 0 mk F) 89 ∧ Bs w a1 (tA l).length c1 (tA l) ∧ Inn B M a1 (tA l).length ∧ Lf w F D 7 (tS l) (fN (tS l) l) ∧ (B F ∧ F ≠ M) ∧ (B D ∧ D ≠ M) ∧
    ((d = 0 ∧ mk = .slice none 0 0 ∧ ∃ a2 c2, bd = .slice a2 (tI l).length c2 ∧ c2 ≤ 9223372036854775807 ∧ Bs w a2 (tI l).length c2 (tI l) ∧ Inn B M a2 (tI l).length) ∨
     (d = 1 ∧ ∃ am cm, mk = .slice am (nb l) cm ∧ cm ≤ 9223372036854775807 ∧ Ms w am (nb l) cm (mks l (nb l)) ∧ ∀ x, am = some x → B x.block ∧ x.block ≠ M))
theorem Tb.ch {P : Nat → Prop} {w w' : World} {M d : Nat} {B : Nat → Prop} {l : List It} (h : Tb w M B d l) (hc : Ch P w w') (hP : ∀ b, B b → ¬ P b) : Tb w' M B d l := by
  obtain ⟨ok, bs, lt, a1, c1, F, D, bd, mk, k1, k2, k3, k4, k5, k6, k7⟩ := h
  have e : ∀ {ao : Option Addr} {n : Nat}, Inn B M ao n → Out P ao n := fun ho h0 x hx hp => hP _ (ho h0 x hx).1 hp
  refine ⟨ok, bs, fun b hb => Nat.lt_of_lt_of_le (lt b hb) hc.size, a1, c1, F, D, bd, mk, k1.ch hc (hP _ bs), k2.ch hc (e k3), k3, k4.ch hc (hP _ k5.1) (hP _ k6.1), k5, k6, ?_⟩
  rcases k7 with ⟨q1, q2, a2, c2, q3, q4, q5, q6⟩ | ⟨q1, am, cm, q2, q3, q4, q5⟩
  · exact .inl ⟨q1, q2, a2, c2, q3, q4, q5.ch hc (e q6), q6⟩
  · exact .inr ⟨q1, am, cm, q2, q3, q4.ch hc (fun x hx => hP _ (q5 x hx).1), q5⟩
theorem Tb.keep {w w' : World} {M d : Nat} {B : Nat → Prop} {l : List It} (h : Tb w M B d l) (hb : Below w.heap.size w w') : Tb w' M B d l := h.ch (P := fun _ => False) (Ch.of hb) (fun _ _ h => h)
theorem Tb.wide {w : World} {M d : Nat} {B B' : Nat → Prop} {l : List It} (h : Tb w M B d l) (h1 : ∀ b, B b → B' b) (h2 : ∀ b, B' b → b < w.heap.size) : Tb w M B' d l := by
  obtain ⟨ok, bs, lt, a1, c1, F, D, bd, mk, k1, k2, k3, k4, k5, k6, k7⟩ := h
  have e : ∀ {ao : Option Addr} {n : Nat}, Inn B M ao n → Inn B' M ao n := fun ho h0 x hx => ⟨h1 _ (ho h0 x hx).1, (ho h0 x hx).2⟩
  refine ⟨ok, h1 _ bs, h2, a1, c1, F, D, bd, mk, k1, k2, e k3, k4, ⟨h1 _ k5.1, k5.2⟩, ⟨h1 _ k6.1, k6.2⟩, ?_⟩
  rcases k7 with ⟨q1, q2, a2, c2, q3, q4, q5, q6⟩ | ⟨q1, am, cm, q2, q3, q4, q5⟩
  · exact .inl ⟨q1, q2, a2, c2, q3, q4, q5, e q6⟩
  · exact .inr ⟨q1, am, cm, q2, q3, q4, fun x hx => ⟨h1 _ (q5 x hx).1, (q5 x hx).2⟩⟩
theorem Tb.d {w : World} {M d : Nat} {B : Nat → Prop} {l : List It} (h : Tb w M B d l) : d = 0 ∨ d = 1 := by
  obtain ⟨ok, bs, lt, a1, c1, F, D, bd, mk, k1, k2, k3, k4, k5, k6, k7⟩ := h
  rcases k7 with k | k
  · exact .inl k.1
  · exact .inr k.1
/-- The blocks of B, and those made since. -/
def Mo (w w' : World) (B : Nat → Prop) (b : Nat) : Prop := B b ∨ (w.heap.size ≤ b ∧ b < w'.heap.size)
theorem Tb.mo {w w1 w2 w' : World} {M d : Nat} {B : Nat → Prop} {l : List It} (h : Tb w' M (Mo w1 w2 B) d l) (h1 : w.heap.size ≤ w1.heap.size) (h2 : w2.heap.size ≤ w'.heap.size) (hB : ∀ b, B b → b < w'.heap.size) : Tb w' M (Mo w w' B) d l :=
  h.wide (fun b hb => hb.elim .inl (fun e => .inr (by omega))) (fun b hb => hb.elim (hB b) (fun e => e.2))

end Go.Proofs.YtodhljiboakjnaaGreat.Clep

/- What sync.Once's Do does when called, in one goroutine, its lock free: the function is called once; if it was called before nothing is done. Conditions: the function touches neither the Once's cells nor what was there ahead but one block. -/
namespace Go.Proofs.YtodhljiboakjnaaGreat.Clep
open Go.RowKit
set_option linter.unusedVariables false

set_option maxRecDepth 100000 in
set_option maxHeartbeats 1600000 in
theorem qslow_any (b off : Nat) (pl : Addr) (Q : World → Prop) (w : World)
    (h0 : w.cell? ⟨b, off, none⟩ = some (.int .u32 0)) (h1 : w.cell? ⟨b, off + 1, none⟩ = some (.int .i32 0)) (f0 : w.frozen? ⟨b, off, none⟩ = false) (f1 : w.frozen? ⟨b, off + 1, none⟩ = false)
    (hf : Hid (Calls Tryz.prog 66 #[.pointer (some pl)] (w.setCell ⟨b, off + 1, none⟩ (.int .i32 1)) fun e w2 => e = .returned (.tuple #[]) ∧ Q w2))
    (hq : Hid (∀ w2, Q w2 → w2.cell? ⟨b, off, none⟩ = some (.int .u32 0) ∧ w2.cell? ⟨b, off + 1, none⟩ = some (.int .i32 1) ∧ w2.frozen? ⟨b, off, none⟩ = false ∧ w2.frozen? ⟨b, off + 1, none⟩ = false)) :
    Calls Tryz.prog 90 #[.pointer (some ⟨b, off, none⟩), .func (.func 66) #[] #[.pointer (some pl)]] w fun e w' => e = .returned (.tuple #[]) ∧
      ∃ w2, Q w2 ∧ w' = (w2.drew.setCell ⟨b, off, none⟩ (.int .u32 1)).setCell ⟨b, off + 1, none⟩ (.int .i32 0) := by
  have hl := run_call_load (P := Tryz.prog) Tryz.func105 (by kernel_rfl) (by kernel_rfl) (by kernel_rfl) .u32 (by kernel_rfl) (w := w.setCell ⟨b, off + 1, none⟩ (.int .i32 1)) (a := ⟨b, off, none⟩) (x := 0) ((World.cell?_setCell_other _ ⟨b, off + 1, none⟩ ⟨b, off, none⟩ _ (by simp)).trans h0)
  have hnot : ∀ (x : Bool) (w : World), (Op.unary .not (.bool x)).run Tryz.prog w = .ok (.bool (!x)) w := fun _ _ => rfl
  go_enter_defers Tryz.func90, Tryz.ntmps90
  go_wp2_with (first
    | (go_at_call 106; refine (lockF ⟨b, off + 1, none⟩ _ (by go_simp) (by go_simp)).mono ?_; rintro e w' ⟨rfl, rfl⟩)
    | (go_at_call 89; go_in)
    | (go_at_call 66; refine hf.out.mono ?_; rintro e w2 ⟨rfl, hQ⟩))
  obtain ⟨q0, q1, q2, q3⟩ := hq.out w2 hQ
  refine leaves_cons (f := 108) (args := #[.pointer (some ⟨b, off, none⟩), .bool true]) (by simp) (by simp [go_sem]) ?_
  refine (storeD ⟨b, off, none⟩ (.int .u32 0) .returning _ q0 q2).mono ?_
  rintro e u' w'' ⟨rfl, rfl, rfl⟩
  refine leaves_cons (f := 107) (args := #[.pointer (some ⟨b, off + 1, none⟩)]) (by simp [settle]) (by simp [go_sem]) ?_
  refine (unlockD ⟨b, off + 1, none⟩ _ _ ?_ (by simp [q3])).mono ?_
  · refine (World.cell?_setCell_other _ ⟨b, off, none⟩ ⟨b, off + 1, none⟩ _ (by simp)).trans ?_
    rw [World.cell?_drew]
    exact q1
  rintro e u' w'' ⟨rfl, rfl, rfl⟩
  simp [Leaves, settle, results, Tryz.results90]
  exact ⟨w2, hQ, rfl⟩

set_option maxRecDepth 100000 in
set_option maxHeartbeats 1600000 in
theorem qdo_first (b off : Nat) (pl : Addr) (Q : World → Prop) (w : World)
    (h0 : w.cell? ⟨b, off, none⟩ = some (.int .u32 0)) (h1 : w.cell? ⟨b, off + 1, none⟩ = some (.int .i32 0)) (f0 : w.frozen? ⟨b, off, none⟩ = false) (f1 : w.frozen? ⟨b, off + 1, none⟩ = false)
    (hf : Hid (Calls Tryz.prog 66 #[.pointer (some pl)] (w.setCell ⟨b, off + 1, none⟩ (.int .i32 1)) fun e w2 => e = .returned (.tuple #[]) ∧ Q w2))
    (hq : Hid (∀ w2, Q w2 → w2.cell? ⟨b, off, none⟩ = some (.int .u32 0) ∧ w2.cell? ⟨b, off + 1, none⟩ = some (.int .i32 1) ∧ w2.frozen? ⟨b, off, none⟩ = false ∧ w2.frozen? ⟨b, off + 1, none⟩ = false)) :
    Calls Tryz.prog 65 #[.pointer (some ⟨b, off, none⟩), .func (.func 66) #[] #[.pointer (some pl)]] w fun e w' => e = .returned (.tuple #[]) ∧
      ∃ w2, Q w2 ∧ w' = (w2.drew.setCell ⟨b, off, none⟩ (.int .u32 1)).setCell ⟨b, off + 1, none⟩ (.int .i32 0) := by
  have hs := hide (qslow_any b off pl Q w h0 h1 f0 f1 hf hq)
  have hl := run_call_load (P := Tryz.prog) Tryz.func105 (by kernel_rfl) (by kernel_rfl) (by kernel_rfl) .u32 (by kernel_rfl) h0
  have hnot : ∀ (x : Bool) (w : World), (Op.unary .not (.bool x)).run Tryz.prog w = .ok (.bool (!x)) w := fun _ _ => rfl
  go_enter Tryz.func65, Tryz.ntmps65
  go_wp2_with (first | (go_at_call 90; refine hs.out.mono ?_; rintro e w' ⟨rfl, hw⟩) | (go_at_call 89; go_in))
  go_end0
  exact ⟨rfl, hw⟩

end Go.Proofs.YtodhljiboakjnaaGreat.Clep
