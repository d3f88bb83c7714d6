/- Slices of slices of items: where they lie, and what they lead to; rows of such slices that a call made. No conditions but the bounds. -/
import Derived.Test.YtodhljiboakjnaaGreatZu
import Derived.Test.YtodhljiboakjnaaGreatZc
import Derived.Laws.AppendOwn
import Derived.OwnWalk
namespace Go.Proofs.YtodhljiboakjnaaGreat.Clep
open Go.RowKit
set_option linter.unusedVariables false
set_option maxRecDepth 10000

/-- Where a slice of (a, cap) from l on lies. -/
def icut (a : Option Addr) (cap l : Nat) : Option Addr := if cap = l then a else a.map (·.add (l * 5))
theorem icut_eq (a : Option Addr) (l h cap : Nat) : sliced a l h cap 5 = .slice (icut a cap l) (h - l) (cap - l) := by
  unfold sliced icut
  rfl
theorem sizeof_it (w : World) : (sizeOf (Tryz.prog.elem 22)).run Tryz.prog w = .ok 5 w := by
  go_simp
theorem under_items : Tryz.prog.underlying 22 = some (.slice (Tryz.prog.elem 22)) := by kernel_rfl
theorem icut_h (w : World) (a : Option Addr) (len cap : Nat) (k : IntKind) (h : Int) (h0 : 0 ≤ h) (h2 : h ≤ cap) :
    (Instr.sliceAt 22 (.slice a len cap) none (some (.int k h)) none).run Tryz.prog w = .ok (.slice (icut a cap 0) h.toNat cap) w := by
  rw [run_sliceAt_slice _ _ _ _ _ _ under_items, run_slice_h _ _ _ _ _ under_items k h h0 h2, sizeof_it]
  simp only [Result.andThen, icut_eq, Nat.sub_zero]
theorem icut_l (w : World) (a : Option Addr) (len cap : Nat) (k : IntKind) (l : Int) (h0 : 0 ≤ l) (h1 : l ≤ len) :
    (Instr.sliceAt 22 (.slice a len cap) (some (.int k l)) none none).run Tryz.prog w = .ok (.slice (icut a cap l.toNat) (len - l.toNat) (cap - l.toNat)) w := by
  rw [run_sliceAt_slice _ _ _ _ _ _ under_items, run_slice_l _ _ _ _ _ under_items k l h0 h1, sizeof_it]
  simp only [Result.andThen, icut_eq]
theorem icut_lh (w : World) (a : Option Addr) (len cap : Nat) (k k' : IntKind) (l h : Int) (h0 : 0 ≤ l) (h1 : l ≤ h) (h2 : h ≤ cap) :
    (Instr.sliceAt 22 (.slice a len cap) (some (.int k l)) (some (.int k' h)) none).run Tryz.prog w = .ok (.slice (icut a cap l.toNat) (h.toNat - l.toNat) (cap - l.toNat)) w := by
  rw [run_sliceAt_slice _ _ _ _ _ _ under_items, run_slice_lh _ _ _ _ _ under_items k k' l h h0 h1 h2, sizeof_it]
  simp only [Result.andThen, icut_eq]
theorem Is.cut {w : World} {a : Option Addr} {len cap : Nat} {m : List It} (hb : Is w a len cap m) (l h : Nat) (h1 : l ≤ h) (h2 : h ≤ len) : Is w (icut a cap l) (h - l) (cap - l) ((m.take h).drop l) := by
  have hl : ((m.take h).drop l).length = h - l := by rw [List.length_drop, List.length_take, hb.1]; omega
  have hc := hb.2.1.1
  refine ⟨hl, ⟨by omega, fun hn => ?_⟩, fun x hx => hb.2.2.1 x (List.mem_of_mem_take (List.mem_of_mem_drop hx)), fun h0 => ?_⟩
  · have : a = none := by
      cases a with
      | none => rfl
      | some x => unfold icut at hn; split at hn <;> cases hn
    have := hb.2.1.2 this
    omega
  · obtain ⟨b, off, rfl, hcell⟩ := hb.2.2.2 (by omega)
    refine ⟨b, off + l * 5, ?_, fun i x hi => ?_⟩
    · unfold icut
      rw [if_neg (by omega)]
      simp [add_plain]
    · have hx : m[l + i]? = some x := by
        rw [List.getElem?_drop] at hi
        rw [List.getElem?_take] at hi
        split at hi
        · exact hi
        · cases hi
      have := hcell (l + i) x hx
      rwa [show off + (l + i) * 5 = off + l * 5 + i * 5 by omega] at this

def sv (zs : List Sl) : List Value := zs.map fun z => Value.slice z.a z.n z.c
/-- The slice value v owns the slices zs, in a row of the call's own from block B on. -/
def OwnS (w : World) (B : Nat) (v : Value) (zs : List Sl) : Prop := w.ownsRow B 22 1 v zs.length (sv zs)
theorem infoS : (Tryz.prog.info? 22).map (fun i => (i.zero, i.size, i.bytes)) = some (some (.slice none 0 0), 1, 24) := by kernel_rfl
theorem ownS_rws {w : World} {B : Nat} {v : Value} {zs : List Sl} (h : OwnS w B v zs) (hz : ∀ z ∈ zs, Is w z.a z.n z.c z.l ∧ z.n ≤ 9223372036854775807) :
    ∃ a c, v = .slice a zs.length c ∧ Rws w a zs.length c zs ∧ c ≤ 9223372036854775807 := by
  obtain ⟨hl, ⟨rfl, hn⟩ | ⟨g, cap, cur, rfl, hg, hh, hnc, hcm, hcs, hx⟩⟩ := h
  · exact ⟨none, 0, by rw [hn], ⟨rfl, ⟨by omega, fun _ => ⟨hn, rfl⟩⟩, hz, fun h => by omega⟩, by omega⟩
  · refine ⟨some ⟨g, 0, none⟩, cap, rfl, ⟨rfl, ⟨hnc, fun h => by cases h⟩, hz, fun _ => ⟨g, 0, rfl, fun i z hi => ?_⟩⟩, by unfold maxLen at hcm; omega⟩
    have hc := World.ownsRow.cells (w := w) (base := B) (e := 22) (size := 1) (v := .slice (some ⟨g, 0, none⟩) zs.length cap) (n := zs.length) (xs := sv zs)
      ⟨hl, .inr ⟨g, cap, cur, rfl, hg, hh, hnc, hcm, hcs, hx⟩⟩ (g := g) rfl i (.slice z.a z.n z.c) (by simp [sv, hi])
    rwa [add_plain] at hc
theorem ownS_grown {w w' : World} {B : Nat} {v : Value} {l : List Sl} {row : Option Nat} (h : OwnS w B v l) (hg : w.grownBy w' row) (hne : ∀ k, row = some k → k < B) : OwnS w' B v l := by
  refine World.ownsRow.kept h hg ?_
  cases hv : v.ownBlock with
  | none => exact .inl rfl
  | some k =>
    refine .inr fun e => ?_
    have := (World.ownsRow.lt h k hv).1
    have := hne k e.symm
    omega
theorem ownS_keep {w w' : World} {B : Nat} {v : Value} {l : List Sl} (h : OwnS w B v l) (hb : Below w.heap.size w w') : OwnS w' B v l := ownS_grown h (gb_below hb none) (by simp)
theorem ownS_snoc {w : World} {B : Nat} {v : Value} {zs : List Sl} {z : Sl} (h : w.ownsRow B 22 1 v (zs.length + 1) (sv zs ++ [.slice z.a z.n z.c])) : OwnS w B v (zs ++ [z]) := by
  unfold OwnS sv; simpa [sv] using h

/-- What the document's own Rows makes of the items that may be, each a row. -/
def qL (l : List It) : List It := (l.filter It.ok).foldl (fun o x => putL x o) []
theorem fold_putL (P : It → Prop) : ∀ (l o : List It), (∀ x ∈ l, P x) → (∀ x ∈ o, P x) → ∀ x ∈ l.foldl (fun o x => putL x o) o, P x
  | [], o, _, ho => ho
  | y :: r, o, hl, ho => fold_putL P r (putL y o) (fun x hx => hl x (by simp [hx])) (fun x hx => by
    rcases putL_mem y o x hx with rfl | h
    · exact hl _ (by simp)
    · exact ho x h)
theorem qL_all (P : It → Prop) (l : List It) (h : ∀ x ∈ l, P x) : ∀ x ∈ qL l, P x := fold_putL P _ [] (fun x hx => h x ((List.mem_filter.1 hx).1)) (by simp)
theorem qL_ok (l : List It) : ∀ x ∈ qL l, x.ok = true := fold_putL (fun x => x.ok = true) _ [] (fun x hx => (List.mem_filter.1 hx).2) (by simp)
theorem fold_rise : ∀ (l o : List It), Rise o → Rise (l.foldl (fun o x => putL x o) o)
  | [], o, h => h
  | y :: r, o, h => fold_rise r (putL y o) (putL_rise y o h)
theorem qL_rise (l : List It) : Rise (qL l) := fold_rise _ [] List.Pairwise.nil
theorem fold_len : ∀ (l o : List It), (l.foldl (fun o x => putL x o) o).length ≤ o.length + l.length
  | [], o => by simp
  | y :: r, o => by
    have h1 := fold_len r (putL y o)
    have h2 := putL_len y o
    simp only [List.foldl_cons, List.length_cons]; omega
theorem qL_len (l : List It) : (qL l).length ≤ l.length := by
  have h1 := fold_len (l.filter It.ok) []
  have h2 := List.length_filter_le It.ok l
  unfold qL; simp at h1; omega
theorem rows_fold : ∀ (zs : List Sl) (m o : List It), zs.map Sl.l = m.map (fun x => [x]) → zs.foldl (fun o z => mg o z.l) o = m.foldl (fun o x => putL x o) o
  | [], [], o, _ => rfl
  | [], _ :: _, o, h => by simp at h
  | _ :: _, [], o, h => by simp at h
  | z :: zs, x :: m, o, h => by
    simp only [List.map_cons, List.cons.injEq] at h
    simp only [List.foldl_cons]
    rw [h.1, mg_one]
    exact rows_fold zs m (putL x o) h.2
theorem rows_q (zs : List Sl) (l : List It) (h : zs.map Sl.l = (l.filter It.ok).map (fun x => [x])) : rowsL zs = qL l := rows_fold zs _ [] h
theorem sum_q : ∀ (zs : List Sl) (m : List It), zs.map Sl.l = m.map (fun x => [x]) → sumL zs = m.length
  | [], [], _ => rfl
  | [], _ :: _, h => by simp at h
  | _ :: _, [], h => by simp at h
  | z :: zs, x :: m, h => by
    simp only [List.map_cons, List.cons.injEq] at h
    have := sum_q zs m h.2
    unfold sumL at *
    simp only [List.map_cons, List.sum_cons, this, h.1, List.length_cons, List.length_nil]
    omega

end Go.Proofs.YtodhljiboakjnaaGreat.Clep

/- What the statements' own function one does when called, and the document's own Rows of that. Conditions: at most 2^47 bytes of items. -/
namespace Go.Proofs.YtodhljiboakjnaaGreat.Clep
open Go.RowKit
set_option linter.unusedVariables false

theorem filter_take (l : List It) (k : Nat) (x : It) (h : l[k]? = some x) : ((l.take (k + 1)).filter It.ok).map (fun x => [x]) = ((l.take k).filter It.ok).map (fun x => [x]) ++ (if x.ok then [[x]] else []) := by
  rw [List.take_add_one, h, List.filter_append, List.map_append]
  cases hx : x.ok <;> simp [hx]
theorem is_at {w : World} {a : Option Addr} {len cap k : Nat} {l : List It} {x : It} (h : Is w a len cap l) (hk : k < len) (hx : l[k]? = some x) : Is w (icut a cap k) 1 (cap - k) [x] := by
  have := h.cut k (k + 1) (by omega) (by omega)
  rw [show k + 1 - k = 1 by omega] at this
  rwa [show (l.take (k + 1)).drop k = [x] by
    rw [List.take_add_one, hx, List.drop_append]
    have hl : (l.take k).length = k := by rw [List.length_take, h.1]; omega
    rw [List.drop_of_length_le (by omega), hl]; simp] at this
theorem cell_newS (w : World) (v : Value) (T : TypeId) : ∀ j u, [v][j]? = some u → (w.alloc (.cells #[v] T)).cell? ((⟨w.heap.size, 0, none⟩ : Addr).add j) = some u := by
  intro j u hu
  cases j with
  | zero =>
    simp only [List.getElem?_cons_zero, Option.some.injEq] at hu
    subst hu
    rw [add_plain, World.cell?_alloc_at _ _ _ _ (by simp)]; rfl
  | succ j => simp at hu
/-- Rows of one. -/
theorem q_any (v : Value) (zs : List Sl) (l : List It) (B : Nat) (w : World) (hB : B ≤ w.heap.size) (ho : OwnS w B v zs) (hz : ∀ z ∈ zs, Is w z.a z.n z.c z.l ∧ z.n ≤ 9223372036854775807) (hm : zs.map Sl.l = (l.filter It.ok).map (fun x => [x])) (hn : l.length ≤ 3518437208880) :
    Calls Tryz.prog 27 #[v] w (AnsO (qL l) w) := by
  obtain ⟨a, c, rfl, hr, hc⟩ := ownS_rws ho hz
  rw [← rows_q zs l hm]
  refine refrows_any a zs.length c zs w hr (Nat.le_trans hr.2.1.1 hc) ?_
  rw [sum_q zs _ hm]
  exact Nat.le_trans (List.length_filter_le _ _) hn

end Go.Proofs.YtodhljiboakjnaaGreat.Clep

/- What the statements' own function rising does when called. Conditions: at most 2^47 bytes of items. -/
namespace Go.Proofs.YtodhljiboakjnaaGreat.Clep
open Go.RowKit
set_option linter.unusedVariables false

set_option maxRecDepth 100000 in
set_option maxHeartbeats 1000000 in
theorem rising_any (a : Option Addr) (n c : Nat) (l : List It) (w : World) (h : Is w a n c l) (hn : n ≤ 3518437208880) (hcm : c ≤ 9223372036854775807) :
    Calls Tryz.prog 10 #[.slice a n c] w (AnsO (qL l) w) := by
  have hl := h.1
  have hlc := h.2.1.1
  have H0 := hide (fun W (hW : Below w.heap.size w W) => h.below hW (Nat.le_refl _))
  have HI := hide (fun k x (hk : k < n) (hx : l[k]? = some x) => is_at h hk hx)
  obtain ⟨iS, hiS, hzS0, hzS1, hzS2⟩ := info_parts infoS
  clear h
  go_enter Tryz.func10, Tryz.ntmps10
  go_wp2_with fail
  go_loopw [3, 4] (fun v i wr => ∃ k : Nat, k ≤ n ∧ i = .int .i64 k ∧ Hid (Below w.heap.size w wr) ∧ Hid (∃ zs : List Sl, OwnS wr w.heap.size v zs ∧ (∀ z ∈ zs, Is w z.a z.n z.c z.l ∧ z.n ≤ 9223372036854775807) ∧ zs.map Sl.l = ((l.take k).filter It.ok).map (fun x => [x]))) (fun _ i _ => n - (intOf i).toNat)
  case atStart => exact ⟨0, by omega, rfl, hide (Below.refl _ _), hide ⟨[], World.ownsRow_nil _ _ _ _, by simp, by simp⟩⟩
  case round =>
    obtain ⟨k, hk, rfl, hbel, hown⟩ := hrel
    by_cases hlt : k < n
    · obtain ⟨b0, off, ea, hc⟩ := (H0.out _ hbel.out).2.2.2 (by omega)
      obtain ⟨x, hx⟩ : ∃ x, l[k]? = some x := ⟨_, List.getElem?_eq_getElem (by rw [hl]; exact hlt)⟩
      have hv := hide (hc k x hx)
      have HX := hide hx
      have HZ := hide (HI.out k x hlt hx)
      have HT := hide (filter_take l k x hx)
      obtain ⟨zs, ho, hzs, hmap⟩ := hown.out
      have hzl : zs.length ≤ k := by
        have := congrArg List.length hmap
        simp only [List.length_map] at this
        have h2 := List.length_filter_le It.ok (l.take k)
        rw [List.length_take] at h2; omega
      have HO := hide ho
      have HZS := hide hzs
      have HM := hide hmap
      have hok0 := hide (show x.ok = okI x.S x.K x.T x.V x.X from rfl)
      clear hc hx hown ho hzs hmap
      subst ea
      obtain ⟨S, K, T, V, X⟩ := x
      have HZ2 := HZ.out
      rw [show icut (some ⟨b0, off, none⟩) c k = some ⟨b0, off + k * 5, none⟩ by unfold icut; rw [if_neg (by omega)]; simp [add_plain]] at HZ2
      have HZ2 := hide HZ2
      clear HZ
      unfold Vt at hv
      simp only at hv hok0
      obtain ⟨d0, d1, d2, d3, d4⟩ := hv.out
      obtain ⟨o, hoo⟩ : ∃ o, okI S K T V X = o := ⟨_, rfl⟩
      have cO := hide (refok_any S K T V X wr)
      rw [hoo] at cO
      have HOO := hide (hok0.out.trans hoo)
      clear hoo hok0
      cases o with
      | false =>
        go_wp2_with (first | (go_at_call 26; refine cO.out.mono ?_; rintro e w1 ⟨rfl, hb1⟩))
        go_roundw
        case rel => exact ⟨k + 1, by omega, by go_num, hide (bmore hbel.out hb1), hide ⟨zs, ownS_keep HO.out hb1, HZS.out, by rw [HT.out, HM.out, HOO.out]; simp⟩⟩
        case measure => simp [intOf]; omega
      | true =>
        clear d0 d1 d2 d3 d4
        obtain ⟨d0, d1, d2, d3, d4⟩ := hv.out
        have hk1 : ((k : Int) + 1) ≤ (c : Int) := by omega
        have hk2 : ((k : Int) + 1).toNat = k + 1 := by omega
        have hk3 : k + 1 - k = 1 := by omega
        go_wp2_with (first
          | (go_at_call 26; refine cO.out.mono ?_; rintro e w1 ⟨rfl, hb1⟩)
          | (at_builtin; refine wpList_append_own _ rfl (.tmp 16) (.tmp 22) 54 rfl w.heap.size 22 iS (.slice none 0 0) 1 24 Tryz.underlying54 hiS hzS0 hzS1 hzS2 rfl (by decide) _ zs.length (sv zs) rfl (World.ownsRow.alloc (ownS_keep HO.out hb1) _) ⟨w1.heap.size, 0, none⟩ 1 1 [.slice (some ⟨b0, off + k * 5, none⟩) 1 (c - k)] rfl rfl ?c1 ?c2 ?c3 ?c4 ?c5 ?_)
          | fail)
        case c1 => exact cell_newS _ _ _
        case c2 => intro u hu; simp at hu; subst hu; rfl
        case c3 => unfold maxLen; omega
        case c4 => omega
        case c5 => have := hbel.out.size; have := hb1.size; simp; omega
        intro v' w' ho' hg' _
        go_wp2
        go_roundw
        case rel =>
          have hbs := hbel.out.size
          have hb2 := bmore hbel.out hb1
          refine ⟨k + 1, by omega, by go_num, hide ?_, hide ⟨zs ++ [⟨some ⟨b0, off + k * 5, none⟩, 1, c - k, [⟨S, K, T, V, X⟩]⟩], ownS_snoc ho', ?_, ?_⟩⟩
          · exact (hb2.alloc hb2.size _).grown hg' (by have := hb2.size; simp; omega) (fun k hk => (World.ownsRow.lt (ownS_keep HO.out hb1) k hk).1)
          · intro z hz
            rcases List.mem_append.1 hz with e | e
            · exact HZS.out z e
            · rw [List.mem_singleton.1 e]; exact ⟨HZ2.out, by show 1 ≤ _; omega⟩
          · rw [HT.out, List.map_append, HM.out, HOO.out]; simp
        case measure => simp [intOf]; omega
    · obtain rfl : k = n := by omega
      have HT := hide (show l.take k = l by rw [← hl]; exact List.take_length)
      obtain ⟨zs, ho, hzs, hmap⟩ := hown.out
      rw [HT.out] at hmap
      have hQ := hide (fun v (ho : OwnS wr w.heap.size v zs) => q_any v zs l w.heap.size wr hbel.out.size ho (fun z hz => ⟨(hzs z hz).1.below hbel.out (Nat.le_refl _), (hzs z hz).2⟩) hmap (by omega))
      have HO := hide ho
      clear ho hzs hmap hown
      go_wp2_with fail
      refine (hQ.out _ HO.out).mono ?_
      rintro e w9 ⟨a9, c9, rfl, hI9, hc9, hb9, ho9⟩
      have HH := hide (And.intro hI9 (And.intro hc9 (And.intro hb9 ho9)))
      clear hQ hI9 hc9 hb9 ho9
      generalize hL : (qL l).length = L at *
      go_wp2
      go_ret
      exact ⟨_, _, by rw [hL]; rfl, by rw [hL]; exact HH.out.1, HH.out.2.1, bmore hbel.out HH.out.2.2.1, by rw [hL]; exact ownI_base HH.out.2.2.2 hbel.out.size⟩

end Go.Proofs.YtodhljiboakjnaaGreat.Clep
