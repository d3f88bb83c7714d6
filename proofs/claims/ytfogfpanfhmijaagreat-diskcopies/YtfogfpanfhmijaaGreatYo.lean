/- The document's own Disk: where a name stands in a row of names (a walk over the translated program), for any row and any name. No conditions. -/
import Derived.Test.YtfogfpanfhmijaaGreatYc
import Derived.Deep.QuietTactic
import Derived.BigQuiet
import Derived.Test.YtfogfpanfhmijaaGreatYh
import Derived.Deep.RegionLaw
namespace Go.Proofs.YtfogfpanfhmijaaGreat.Clep
open Go.RowKit Go.Maps
set_option linter.unusedVariables false

/-- A row of names, each with the number of its file. -/
def NmRow (w : World) (v : Value) (l : List (ByteArray × Int)) : Prop := ∃ ao cap, v = .slice ao l.length cap ∧ l.length ≤ cap ∧ cap ≤ 9223372036854775807 ∧
  (0 < l.length → ∃ b off, ao = some ⟨b, off, none⟩ ∧ ∀ i (h : i < l.length), w.cell? ⟨b, off + i * 2, none⟩ = some (.string l[i].1) ∧ w.cell? ⟨b, off + i * 2 + 1, none⟩ = some (.int .i64 l[i].2))
/-- Where a name stands; -1: nowhere. -/
def atF : List (ByteArray × Int) → ByteArray → Nat → Int
  | [], _, _ => -1
  | x :: r, s, k => if x.1 = s then k else atF r s (k + 1)

theorem text_ne {a b : ByteArray} (h : a ≠ b) : (a.toList == b.toList) = false := by
  rw [beq_eq_false_iff_ne]
  intro e
  rw [ByteArray.toList_eq, ByteArray.toList_eq] at e
  apply h
  cases a; cases b
  congr 1
  exact Array.toList_inj.1 e

set_option maxHeartbeats 1000000 in
theorem at_any (v : Value) (l : List (ByteArray × Int)) (s : ByteArray) (w : World) (h : NmRow w v l) :
    Calls Tryz.prog 54 #[v, .string s] w fun e w' => e = .returned (.int .i64 (atF l s 0)) ∧ w' = w := by
  obtain ⟨ao, cap, rfl, h1, h2, h3⟩ := h
  have HC := hide h3
  clear h3
  go_enter Tryz.func54, Tryz.ntmps54
  go_wp2
  go_loop [5] (fun i => ∃ k : Nat, k ≤ l.length ∧ i = .int .i64 k ∧ Hid (atF l s 0 = atF (l.drop k) s k)) (fun i => l.length - (intOf i).toNat)
  case atStart => exact ⟨0, by omega, rfl, hide rfl⟩
  case round =>
    obtain ⟨k, hk, rfl, hT⟩ := hrel
    by_cases hlt : k < l.length
    · have hlt' : (k : Int) < (l.length : Int) := by omega
      obtain ⟨b, off, rfl, hc⟩ := HC.out (by omega)
      have c1 := (hc k hlt).1
      have hd : atF (l.drop k) s k = if l[k].1 = s then (k : Int) else atF (l.drop (k + 1)) s (k + 1) := by rw [List.drop_eq_getElem_cons hlt]; rfl
      rw [hd] at hT
      generalize l[k].1 = t at *
      clear hd hc
      by_cases he : t = s
      · subst he
        have HT := hide (show atF l t 0 = k by rw [hT.out, if_pos rfl])
        clear hT
        go_wp2
        go_ret
        exact ⟨by rw [HT.out]; rfl, rfl⟩
      · have HT := hide (show atF l s 0 = atF (l.drop (k + 1)) s (k + 1) by rw [hT.out, if_neg he])
        clear hT
        have hne := text_ne he
        go_wp2
        refine ⟨⟨k + 1, by omega, by go_num, HT⟩, ?_⟩
        simp [intOf]; omega
    · have hke : k = l.length := by omega
      subst hke
      have HT := hide (show atF l s 0 = -1 by rw [hT.out, List.drop_length]; rfl)
      clear hT
      go_wp2
      go_ret
      exact ⟨by rw [HT.out]; rfl, rfl⟩

end Go.Proofs.YtfogfpanfhmijaaGreat.Clep

/- The document's own Disk: a row of names with one more (a walk over the translated program), for any row and any name. No conditions. -/
namespace Go.Proofs.YtfogfpanfhmijaaGreat.Clep
open Go.RowKit Go.Maps
set_option linter.unusedVariables false

def nmC (x : ByteArray × Int) : List Value := [.string x.1, .int .i64 x.2]
def ltS (a b : ByteArray) : Bool := Op.bytesLess a.toList b.toList
/-- How many names stand ahead of a name. -/
def kF : List (ByteArray × Int) → ByteArray → Nat
  | [], _ => 0
  | x :: r, s => if ltS x.1 s then kF r s + 1 else 0
def pastF (s : ByteArray) : List (ByteArray × Int) → List (ByteArray × Int)
  | [] => []
  | x :: r => if x.1 = s then r else x :: r
/-- A row with a name that leads to a file. -/
def withF (l : List (ByteArray × Int)) (s : ByteArray) (f : Int) : List (ByteArray × Int) := l.take (kF l s) ++ (s, f) :: pastF s (l.drop (kF l s))
def OwnN (w : World) (B : Nat) (v : Value) (l : List (ByteArray × Int)) : Prop := w.ownsRow B 103 2 v l.length (l.flatMap nmC)
theorem nmC_len : ∀ l : List (ByteArray × Int), (l.flatMap nmC).length = l.length * 2
  | [] => rfl
  | x :: r => by rw [List.flatMap_cons, List.length_append, nmC_len r]; simp [nmC]; omega
theorem nmC_one (l : List (ByteArray × Int)) : ∀ u ∈ l.flatMap nmC, u.oneCell' = true := by
  intro u hu
  obtain ⟨x, _, hx⟩ := List.mem_flatMap.1 hu
  simp [nmC] at hx
  rcases hx with rfl | rfl <;> rfl
theorem infoN : (Tryz.prog.info? 103).map (fun i => (i.zero, i.size, i.bytes)) = some (some (.agg #[.string ⟨#[]⟩, .int .i64 0]), 2, 24) := by kernel_rfl
theorem nm_take {l : List (ByteArray × Int)} {k j : Nat} {u : Value} (h : ((l.take k).flatMap nmC)[j]? = some u) : (l.flatMap nmC)[j]? = some u := by
  have e : l.flatMap nmC = (l.take k).flatMap nmC ++ (l.drop k).flatMap nmC := by rw [← List.flatMap_append, List.take_append_drop]
  rw [e, List.getElem?_append_left (List.getElem?_eq_some_iff.1 h).1]; exact h
theorem nm_drop {l : List (ByteArray × Int)} {k j : Nat} {u : Value} (hk : k ≤ l.length) (h : ((l.drop k).flatMap nmC)[j]? = some u) : (l.flatMap nmC)[k * 2 + j]? = some u := by
  have e : l.flatMap nmC = (l.take k).flatMap nmC ++ (l.drop k).flatMap nmC := by rw [← List.flatMap_append, List.take_append_drop]
  have hl : ((l.take k).flatMap nmC).length = k * 2 := by rw [nmC_len, List.length_take]; omega
  rw [e, List.getElem?_append_right (by omega), hl, show k * 2 + j - k * 2 = j by omega]; exact h
theorem own_empty (w : World) : (w.alloc (.cells #[] 103)).ownsRow w.heap.size 103 2 (.slice (some ⟨w.heap.size, 0, none⟩) 0 0) 0 [] :=
  ⟨rfl, .inr ⟨_, 0, #[], rfl, Nat.le_refl _, (MapKept.heap_alloc w _).1, Nat.le_refl _, by unfold maxLen; omega, rfl, rfl⟩⟩

theorem own_below {w w' : World} {B e sz n : Nat} {v : Value} {xs : List Value} (h : w.ownsRow B e sz v n xs) (hb : Below w.heap.size w w') : w'.ownsRow B e sz v n xs :=
  owns_keep (τ := fun _ => 0) (t := fun _ => False) (Turn.of_below hb _) h (fun _ _ h => h)
theorem two_new (w : World) (x y : Value) (t : TypeId) : ∀ j u, [x, y][j]? = some u → (w.alloc (.cells #[x, y] t)).cell? ((⟨w.heap.size, 0, none⟩ : Addr).add j) = some u := by
  intro j u hu
  rw [add_plain, Nat.zero_add]
  exact cell_of (MapKept.heap_alloc w _).1 (by simpa using hu)

theorem own_with {w : World} {B k k' : Nat} {v : Value} {l : List (ByteArray × Int)} {s : ByteArray} {f : Int} (h1 : kF l s = k) (h2 : pastF s (l.drop k) = l.drop k') (hk : k ≤ l.length) (hk' : k' ≤ l.length)
    (o : w.ownsRow B 103 2 v (0 + k + 1 + (l.length - k')) ([] ++ (l.take k).flatMap nmC ++ [.string s, .int .i64 f] ++ (l.drop k').flatMap nmC)) : OwnN w B v (withF l s f) := by
  unfold OwnN withF
  rw [h1, h2]
  have e1 : (l.take k ++ (s, f) :: l.drop k').length = 0 + k + 1 + (l.length - k') := by simp; omega
  have e2 : (l.take k ++ (s, f) :: l.drop k').flatMap nmC = [] ++ (l.take k).flatMap nmC ++ [.string s, .int .i64 f] ++ (l.drop k').flatMap nmC := by
    rw [List.flatMap_append, List.flatMap_cons]
    simp [nmC]
  rw [e1, e2]
  exact o

set_option maxHeartbeats 1000000 in
set_option maxRecDepth 8000 in
theorem with_any (v : Value) (l : List (ByteArray × Int)) (s : ByteArray) (f : Int) (w : World) (h : OwnN w 0 v l) (hb : l.length ≤ 1000) :
    Calls Tryz.prog 53 #[v, .string s, .int .i64 f] w fun e w' => ∃ v', e = .returned v' ∧ OwnN w' w.heap.size v' (withF l s f) ∧ Below w.heap.size w w' := by
  obtain ⟨i0, hi, hz0, hz1, hz2⟩ := info_parts infoN
  have HO := hide h
  obtain ⟨hlen, ⟨rfl, hn⟩ | ⟨g, cap, cur, rfl, hg, hh, r1, r2, r3, r4⟩⟩ := h
  · have hl0 : l = [] := List.eq_nil_of_length_eq_zero hn
    subst hl0
    clear hn hlen HO
    have hN := hide (show ∀ j u, [Value.string s, .int .i64 f][j]? = some u → ((w.alloc (.cells #[] 103)).alloc (.cells #[.string s, .int .i64 f] 103)).cell? ((⟨w.heap.size + 1, 0, none⟩ : Addr).add j) = some u by
      have e : (w.alloc (.cells #[] 103)).heap.size = w.heap.size + 1 := by simp
      have := two_new (w.alloc (.cells #[] 103)) (.string s) (.int .i64 f) 103
      rwa [e] at this)
    have hB0 := hide ((Below.refl w.heap.size w).alloc (Nat.le_refl _) (.cells #[] 103))
    go_enter Tryz.func53, Tryz.ntmps53
    go_wp2
    go_loop [7] (fun i => i = .int .i64 0) (fun i => 0)
    case atStart => rfl
    case round =>
      subst hrel
      go_wp2_with (first
        | (at_builtin; refine wpList_append_own_none rfl _ _ 53 rfl w.heap.size 103 i0 2 Tryz.underlying53 hi _ 0 [] rfl (own_empty w) rfl ?_; skip)
        | (at_builtin; refine wpList_append_own_at _ rfl _ _ 53 rfl w.heap.size 103 i0 _ 2 24 Tryz.underlying53 hi hz0 hz1 hz2 rfl (by decide) _ 0 [] rfl (own_below (own_empty w) ((Below.refl _ _).alloc (Nat.le_refl _) _)) ⟨w.heap.size + 1, 0, none⟩ 1 1 [.string s, .int .i64 f] rfl rfl hN.out (by simp [Value.oneCell']) (by unfold maxLen; omega) (by omega) (Nat.le_trans hB0.out.size ((Below.refl _ (w.alloc (.cells #[] 103))).alloc (Nat.le_refl _) _).size) ?_; intro v2 w2 o2 g2 _ l2)
        | (at_builtin; refine wpList_append_own_none rfl _ _ 53 rfl w.heap.size 103 i0 2 Tryz.underlying53 hi v2 _ _ rfl o2 rfl ?_; skip)
        | fail)
      go_ret
      refine ⟨_, rfl, o2, ?_⟩
      have B1' := hB0.out.alloc hB0.out.size (.cells #[.string s, .int .i64 f] 103)
      exact B1'.grown g2 B1'.size (fun g hg => (World.ownsRow.lt (own_empty w) g hg).1)
  · have HC := hide (show ∀ j u, (l.flatMap nmC)[j]? = some u → w.cell? ⟨g, j, none⟩ = some u from fun j u hu => by
      have hc := World.ownsRow.cells HO.out (g := g) rfl j u hu
      rwa [add_plain, Nat.zero_add] at hc)
    have hgl := (Array.getElem?_eq_some_iff.1 hh).1
    have hcap : cap ≤ 9223372036854775807 := r2
    clear hlen hh r2 r3 r4 hg
    go_enter Tryz.func53, Tryz.ntmps53
    go_wp2
    go_loop [7] (fun i => ∃ k : Nat, k ≤ l.length ∧ i = .int .i64 k ∧ Hid (kF l s = k + kF (l.drop k) s)) (fun i => l.length - (intOf i).toNat)
    case atStart => exact ⟨0, by omega, rfl, hide (by rw [Nat.zero_add]; rfl)⟩
    case round =>
      obtain ⟨k, hk, rfl, hT⟩ := hrel
      have hW1 := hide (show ∀ j u, ((l.take k).flatMap nmC)[j]? = some u → (w.alloc (.cells #[] 103)).cell? ((⟨g, 0, none⟩ : Addr).add j) = some u from fun j u hu => by
        rw [add_plain, Nat.zero_add, World.cell?_of_block (w := w) (((Below.refl w.heap.size w).alloc (Nat.le_refl _) _).block g hgl)]
        exact HC.out j u (nm_take hu))
      have hB0 := hide ((Below.refl w.heap.size w).alloc (Nat.le_refl _) (.cells #[] 103))
      have hL1 : ((l.take k).flatMap nmC).length = k * 2 := by rw [nmC_len, List.length_take]; omega
      by_cases hlt : k < l.length
      · have hlt' : (k : Int) < (l.length : Int) := by omega
        have c1 : w.cell? ⟨g, k * 2, none⟩ = some (.string l[k].1) := HC.out _ _ (nm_drop (j := 0) hk (by rw [List.drop_eq_getElem_cons hlt]; rfl))
        have hd : kF (l.drop k) s = if ltS l[k].1 s then kF (l.drop (k + 1)) s + 1 else 0 := by rw [List.drop_eq_getElem_cons hlt]; rfl
        rw [hd] at hT
        clear hd
        generalize hx : l[k].1 = t at *
        have HX := hide hx
        clear hx
        cases hls : ltS t s with
        | true =>
          have HT := hide (show kF l s = k + 1 + kF (l.drop (k + 1)) s by rw [hT.out, hls, if_pos rfl]; omega)
          have hls' : Op.bytesLess t.toList s.toList = true := hls
          clear hT
          go_wp2
          refine ⟨⟨k + 1, by omega, by go_num, HT⟩, ?_⟩
          simp [intOf]; omega
        | false =>
          have HT := hide (show kF l s = k by rw [hT.out, hls]; simp)
          have hls' : Op.bytesLess t.toList s.toList = false := hls
          clear hT
          by_cases he : s = t
          · subst he
            by_cases hcp : cap = k + 1
            · subst hcp
              have hL3 : ((l.drop (k + 1)).flatMap nmC).length = (l.length - (k + 1)) * 2 := by rw [nmC_len, List.length_drop]
              have HP := hide (show pastF s (l.drop k) = l.drop (k + 1) from by rw [List.drop_eq_getElem_cons hlt]; show (if l[k].1 = s then _ else _) = _; rw [if_pos HX.out])
              go_wp2_with (first
                | (at_builtin; refine wpList_append_own_at _ rfl _ _ 53 rfl w.heap.size 103 i0 _ 2 24 Tryz.underlying53 hi hz0 hz1 hz2 rfl (by decide) _ 0 [] rfl (own_empty w) ⟨g, 0, none⟩ k (k + 1) ((l.take k).flatMap nmC) rfl hL1 hW1.out (nmC_one _) (by unfold maxLen; omega) (by omega) hB0.out.size ?_; intro v1 w1 o1 g1 _ l1)
                | (at_builtin; refine wpList_append_own_at _ rfl _ _ 53 rfl w.heap.size 103 i0 _ 2 24 Tryz.underlying53 hi hz0 hz1 hz2 rfl (by decide) v1 (0 + k) _ rfl (own_below o1 ((Below.refl _ w1).alloc (Nat.le_refl _) _)) ⟨w1.heap.size, 0, none⟩ 1 1 [.string s, .int .i64 f] rfl rfl (two_new w1 _ _ _) (by simp [Value.oneCell']) (by unfold maxLen; omega) (by omega) (Nat.le_trans (Nat.le_trans hB0.out.size g1.size) ((Below.refl w1.heap.size w1).alloc (Nat.le_refl _) _).size) ?_; intro v2 w2 o2 g2 _ l2
                   have B1 := hB0.out.grown g1 hB0.out.size (fun g hg => (World.ownsRow.lt (own_empty w) g hg).1)
                   have B1' := B1.alloc B1.size (.cells #[.string s, .int .i64 f] 103)
                   have B2 := B1'.grown g2 B1'.size (fun g hg => (World.ownsRow.lt o1 g hg).1)
                   have c2 : w2.cell? ⟨g, k * 2, none⟩ = some (.string s) := by rw [B2.cell (p := ⟨g, k * 2, none⟩) hgl]; exact c1
                   have HB2 := hide B2
                   clear B1 B1' B2 g1 g2 l1 l2)
                | (at_builtin; refine wpList_append_own_at _ rfl _ _ 53 rfl w.heap.size 103 i0 _ 2 24 Tryz.underlying53 hi hz0 hz1 hz2 rfl (by decide) v2 (0 + k + 1) _ rfl o2 _ 0 _ [] rfl rfl (fun j u hu => by simp at hu) (fun u hu => by simp at hu) (by unfold maxLen; omega) (by omega) HB2.out.size ?_; intro v3 w3 o3 g3 _ l3
                   have HB3 := hide (HB2.out.grown g3 HB2.out.size (fun g hg => (World.ownsRow.lt o2 g hg).1))
                   have HO3 := hide (own_with (k' := k + 1) HT.out HP.out hk (by omega) (by rw [show l.length - (k + 1) = 0 by omega, List.drop_eq_nil_of_le (show l.length ≤ k + 1 by omega)]; exact o3))
                   clear o3 g3 l3)
                | fail)
              go_ret
              exact ⟨_, rfl, HO3.out, HB3.out⟩
            · have hcp' : k + 1 < cap := by omega
              have hL3 : ((l.drop (k + 1)).flatMap nmC).length = (l.length - (k + 1)) * 2 := by rw [nmC_len, List.length_drop]
              have HP := hide (show pastF s (l.drop k) = l.drop (k + 1) from by rw [List.drop_eq_getElem_cons hlt]; show (if l[k].1 = s then _ else _) = _; rw [if_pos HX.out])
              go_wp2_with (first
                | (at_builtin; refine wpList_append_own_at _ rfl _ _ 53 rfl w.heap.size 103 i0 _ 2 24 Tryz.underlying53 hi hz0 hz1 hz2 rfl (by decide) _ 0 [] rfl (own_empty w) ⟨g, 0, none⟩ k cap ((l.take k).flatMap nmC) rfl hL1 hW1.out (nmC_one _) (by unfold maxLen; omega) (by omega) hB0.out.size ?_; intro v1 w1 o1 g1 _ l1)
                | (at_builtin; refine wpList_append_own_at _ rfl _ _ 53 rfl w.heap.size 103 i0 _ 2 24 Tryz.underlying53 hi hz0 hz1 hz2 rfl (by decide) v1 (0 + k) _ rfl (own_below o1 ((Below.refl _ w1).alloc (Nat.le_refl _) _)) ⟨w1.heap.size, 0, none⟩ 1 1 [.string s, .int .i64 f] rfl rfl (two_new w1 _ _ _) (by simp [Value.oneCell']) (by unfold maxLen; omega) (by omega) (Nat.le_trans (Nat.le_trans hB0.out.size g1.size) ((Below.refl w1.heap.size w1).alloc (Nat.le_refl _) _).size) ?_; intro v2 w2 o2 g2 _ l2
                   have B1 := hB0.out.grown g1 hB0.out.size (fun g hg => (World.ownsRow.lt (own_empty w) g hg).1)
                   have B1' := B1.alloc B1.size (.cells #[.string s, .int .i64 f] 103)
                   have B2 := B1'.grown g2 B1'.size (fun g hg => (World.ownsRow.lt o1 g hg).1)
                   have c2 : w2.cell? ⟨g, k * 2, none⟩ = some (.string s) := by rw [B2.cell (p := ⟨g, k * 2, none⟩) hgl]; exact c1
                   have hW3 := hide (show ∀ j u, ((l.drop (k + 1)).flatMap nmC)[j]? = some u → w2.cell? ((⟨g, (k + 1) * 2, none⟩ : Addr).add j) = some u from fun j u hu => by
                     rw [add_plain]
                     rw [B2.cell (p := ⟨g, (k + 1) * 2 + j, none⟩) hgl]; exact HC.out _ _ (nm_drop (k := k + 1) (by omega) hu))
                   have HB2 := hide B2
                   clear B1 B1' B2 g1 g2 l1 l2)
                | (at_builtin; refine wpList_append_own_at _ rfl _ _ 53 rfl w.heap.size 103 i0 _ 2 24 Tryz.underlying53 hi hz0 hz1 hz2 rfl (by decide) v2 (0 + k + 1) _ rfl o2 ⟨g, (k + 1) * 2, none⟩ (l.length - (k + 1)) _ ((l.drop (k + 1)).flatMap nmC) rfl hL3 hW3.out (nmC_one _) (by unfold maxLen; omega) (by omega) HB2.out.size ?_; intro v3 w3 o3 g3 _ l3
                   have HB3 := hide (HB2.out.grown g3 HB2.out.size (fun g hg => (World.ownsRow.lt o2 g hg).1))
                   have HO3 := hide (own_with HT.out HP.out hk (by omega) o3)
                   clear o3 g3 l3)
                | fail)
              go_ret
              exact ⟨_, rfl, HO3.out, HB3.out⟩
          · have hne := text_ne (fun e : t = s => he e.symm)
            have hL3 : ((l.drop (k)).flatMap nmC).length = (l.length - (k)) * 2 := by rw [nmC_len, List.length_drop]
            have HP := hide (show pastF s (l.drop k) = l.drop (k) from by rw [List.drop_eq_getElem_cons hlt]; show (if l[k].1 = s then _ else _) = _; rw [if_neg (by rw [HX.out]; exact fun e => he e.symm)])
            go_wp2_with (first
              | (at_builtin; refine wpList_append_own_at _ rfl _ _ 53 rfl w.heap.size 103 i0 _ 2 24 Tryz.underlying53 hi hz0 hz1 hz2 rfl (by decide) _ 0 [] rfl (own_empty w) ⟨g, 0, none⟩ k cap ((l.take k).flatMap nmC) rfl hL1 hW1.out (nmC_one _) (by unfold maxLen; omega) (by omega) hB0.out.size ?_; intro v1 w1 o1 g1 _ l1)
              | (at_builtin; refine wpList_append_own_at _ rfl _ _ 53 rfl w.heap.size 103 i0 _ 2 24 Tryz.underlying53 hi hz0 hz1 hz2 rfl (by decide) v1 (0 + k) _ rfl (own_below o1 ((Below.refl _ w1).alloc (Nat.le_refl _) _)) ⟨w1.heap.size, 0, none⟩ 1 1 [.string s, .int .i64 f] rfl rfl (two_new w1 _ _ _) (by simp [Value.oneCell']) (by unfold maxLen; omega) (by omega) (Nat.le_trans (Nat.le_trans hB0.out.size g1.size) ((Below.refl w1.heap.size w1).alloc (Nat.le_refl _) _).size) ?_; intro v2 w2 o2 g2 _ l2
                 have B1 := hB0.out.grown g1 hB0.out.size (fun g hg => (World.ownsRow.lt (own_empty w) g hg).1)
                 have B1' := B1.alloc B1.size (.cells #[.string s, .int .i64 f] 103)
                 have B2 := B1'.grown g2 B1'.size (fun g hg => (World.ownsRow.lt o1 g hg).1)
                 have c2 : w2.cell? ⟨g, k * 2, none⟩ = some (.string t) := by rw [B2.cell (p := ⟨g, k * 2, none⟩) hgl]; exact c1
                 have hW3 := hide (show ∀ j u, ((l.drop (k)).flatMap nmC)[j]? = some u → w2.cell? ((⟨g, k * 2, none⟩ : Addr).add j) = some u from fun j u hu => by
                   rw [add_plain]
                   rw [B2.cell (p := ⟨g, (k) * 2 + j, none⟩) hgl]; exact HC.out _ _ (nm_drop (k := k) (by omega) hu))
                 have HB2 := hide B2
                 clear B1 B1' B2 g1 g2 l1 l2)
              | (at_builtin; refine wpList_append_own_at _ rfl _ _ 53 rfl w.heap.size 103 i0 _ 2 24 Tryz.underlying53 hi hz0 hz1 hz2 rfl (by decide) v2 (0 + k + 1) _ rfl o2 ⟨g, k * 2, none⟩ (l.length - (k)) _ ((l.drop (k)).flatMap nmC) rfl hL3 hW3.out (nmC_one _) (by unfold maxLen; omega) (by omega) HB2.out.size ?_; intro v3 w3 o3 g3 _ l3
                 have HB3 := hide (HB2.out.grown g3 HB2.out.size (fun g hg => (World.ownsRow.lt o2 g hg).1))
                 have HO3 := hide (own_with HT.out HP.out hk (by omega) o3)
                 clear o3 g3 l3)
              | fail)
            go_ret
            exact ⟨_, rfl, HO3.out, HB3.out⟩
      · have hke : k = l.length := by omega
        subst hke
        have hnl : ¬ ((l.length : Int) < (l.length : Int)) := by omega
        have HT := hide (show kF l s = l.length by rw [hT.out, List.drop_length]; rfl)
        clear hT
        by_cases hcp : cap = l.length
        · subst hcp
          have hL3 : ((l.drop (l.length)).flatMap nmC).length = (l.length - (l.length)) * 2 := by rw [nmC_len, List.length_drop]
          have HP := hide (show pastF s (l.drop l.length) = l.drop (l.length) from by rw [List.drop_length]; rfl)
          go_wp2_with (first
            | (at_builtin; refine wpList_append_own_at _ rfl _ _ 53 rfl w.heap.size 103 i0 _ 2 24 Tryz.underlying53 hi hz0 hz1 hz2 rfl (by decide) _ 0 [] rfl (own_empty w) ⟨g, 0, none⟩ l.length l.length ((l.take l.length).flatMap nmC) rfl hL1 hW1.out (nmC_one _) (by unfold maxLen; omega) (by omega) hB0.out.size ?_; intro v1 w1 o1 g1 _ l1)
            | (at_builtin; refine wpList_append_own_at _ rfl _ _ 53 rfl w.heap.size 103 i0 _ 2 24 Tryz.underlying53 hi hz0 hz1 hz2 rfl (by decide) v1 (0 + l.length) _ rfl (own_below o1 ((Below.refl _ w1).alloc (Nat.le_refl _) _)) ⟨w1.heap.size, 0, none⟩ 1 1 [.string s, .int .i64 f] rfl rfl (two_new w1 _ _ _) (by simp [Value.oneCell']) (by unfold maxLen; omega) (by omega) (Nat.le_trans (Nat.le_trans hB0.out.size g1.size) ((Below.refl w1.heap.size w1).alloc (Nat.le_refl _) _).size) ?_; intro v2 w2 o2 g2 _ l2
               have B1 := hB0.out.grown g1 hB0.out.size (fun g hg => (World.ownsRow.lt (own_empty w) g hg).1)
               have B1' := B1.alloc B1.size (.cells #[.string s, .int .i64 f] 103)
               have B2 := B1'.grown g2 B1'.size (fun g hg => (World.ownsRow.lt o1 g hg).1)
               skip
               have HB2 := hide B2
               clear B1 B1' B2 g1 g2 l1 l2)
            | (at_builtin; refine wpList_append_own_at _ rfl _ _ 53 rfl w.heap.size 103 i0 _ 2 24 Tryz.underlying53 hi hz0 hz1 hz2 rfl (by decide) v2 (0 + l.length + 1) _ rfl o2 _ 0 _ [] rfl rfl (fun j u hu => by simp at hu) (fun u hu => by simp at hu) (by unfold maxLen; omega) (by omega) HB2.out.size ?_; intro v3 w3 o3 g3 _ l3
               have HB3 := hide (HB2.out.grown g3 HB2.out.size (fun g hg => (World.ownsRow.lt o2 g hg).1))
               have HO3 := hide (own_with (k' := l.length) HT.out HP.out hk (by omega) (by rw [show l.length - (l.length) = 0 by omega, List.drop_eq_nil_of_le (show l.length ≤ l.length by omega)]; exact o3))
               clear o3 g3 l3)
            | fail)
          go_ret
          exact ⟨_, rfl, HO3.out, HB3.out⟩
        · have hcp' : l.length < cap := by omega
          have hL3 : ((l.drop (l.length)).flatMap nmC).length = (l.length - (l.length)) * 2 := by rw [nmC_len, List.length_drop]
          have HP := hide (show pastF s (l.drop l.length) = l.drop (l.length) from by rw [List.drop_length]; rfl)
          go_wp2_with (first
            | (at_builtin; refine wpList_append_own_at _ rfl _ _ 53 rfl w.heap.size 103 i0 _ 2 24 Tryz.underlying53 hi hz0 hz1 hz2 rfl (by decide) _ 0 [] rfl (own_empty w) ⟨g, 0, none⟩ l.length cap ((l.take l.length).flatMap nmC) rfl hL1 hW1.out (nmC_one _) (by unfold maxLen; omega) (by omega) hB0.out.size ?_; intro v1 w1 o1 g1 _ l1)
            | (at_builtin; refine wpList_append_own_at _ rfl _ _ 53 rfl w.heap.size 103 i0 _ 2 24 Tryz.underlying53 hi hz0 hz1 hz2 rfl (by decide) v1 (0 + l.length) _ rfl (own_below o1 ((Below.refl _ w1).alloc (Nat.le_refl _) _)) ⟨w1.heap.size, 0, none⟩ 1 1 [.string s, .int .i64 f] rfl rfl (two_new w1 _ _ _) (by simp [Value.oneCell']) (by unfold maxLen; omega) (by omega) (Nat.le_trans (Nat.le_trans hB0.out.size g1.size) ((Below.refl w1.heap.size w1).alloc (Nat.le_refl _) _).size) ?_; intro v2 w2 o2 g2 _ l2
               have B1 := hB0.out.grown g1 hB0.out.size (fun g hg => (World.ownsRow.lt (own_empty w) g hg).1)
               have B1' := B1.alloc B1.size (.cells #[.string s, .int .i64 f] 103)
               have B2 := B1'.grown g2 B1'.size (fun g hg => (World.ownsRow.lt o1 g hg).1)
               skip
               have HB2 := hide B2
               clear B1 B1' B2 g1 g2 l1 l2)
            | (at_builtin; refine wpList_append_own_at _ rfl _ _ 53 rfl w.heap.size 103 i0 _ 2 24 Tryz.underlying53 hi hz0 hz1 hz2 rfl (by decide) v2 (0 + l.length + 1) _ rfl o2 _ 0 _ [] rfl rfl (fun j u hu => by simp at hu) (fun u hu => by simp at hu) (by unfold maxLen; omega) (by omega) HB2.out.size ?_; intro v3 w3 o3 g3 _ l3
               have HB3 := hide (HB2.out.grown g3 HB2.out.size (fun g hg => (World.ownsRow.lt o2 g hg).1))
               have HO3 := hide (own_with (k' := l.length) HT.out HP.out hk (by omega) (by rw [show l.length - (l.length) = 0 by omega, List.drop_eq_nil_of_le (show l.length ≤ l.length by omega)]; exact o3))
               clear o3 g3 l3)
            | fail)
          go_ret
          exact ⟨_, rfl, HO3.out, HB3.out⟩

end Go.Proofs.YtfogfpanfhmijaaGreat.Clep

/- The document's own Disk: a row of names without one (a walk over the translated program), for any row and any name. No conditions. -/
namespace Go.Proofs.YtfogfpanfhmijaaGreat.Clep
open Go.RowKit Go.Maps
set_option linter.unusedVariables false

theorem own_nm {w : World} {B : Nat} {v : Value} {l : List (ByteArray × Int)} (h : OwnN w B v l) : NmRow w v l := by
  have h0 := h
  obtain ⟨hlen, ⟨rfl, hn⟩ | ⟨g, cap, cur, rfl, hg, hh, r1, r2, r3, r4⟩⟩ := h
  · exact ⟨none, 0, by rw [hn], by omega, by omega, fun h => by omega⟩
  · refine ⟨_, cap, rfl, r1, r2, fun _ => ⟨g, 0, rfl, fun i hi => ?_⟩⟩
    have hc : ∀ j u, (l.flatMap nmC)[j]? = some u → w.cell? ⟨g, 0 + j, none⟩ = some u := fun j u hu => by
      have hc := World.ownsRow.cells h0 (g := g) rfl j u hu
      rwa [add_plain] at hc
    refine ⟨hc _ _ (nm_drop (j := 0) (Nat.le_of_lt hi) ?_), hc _ _ (nm_drop (j := 1) (Nat.le_of_lt hi) ?_)⟩ <;> (rw [List.drop_eq_getElem_cons hi]; rfl)
theorem atF_cases (s : ByteArray) : ∀ (l : List (ByteArray × Int)) (n : Nat), atF l s n = -1 ∨ ∃ k, k < l.length ∧ atF l s n = ((n + k : Nat) : Int)
  | [], n => .inl rfl
  | x :: r, n => by
    unfold atF
    by_cases h : x.1 = s
    · rw [if_pos h]; exact .inr ⟨0, by simp, rfl⟩
    · rw [if_neg h]
      rcases atF_cases s r (n + 1) with e | ⟨k, hk, e⟩
      · exact .inl e
      · exact .inr ⟨k + 1, by simpa using hk, by rw [e]; congr 1; omega⟩
/-- A row without a name. -/
def woF (l : List (ByteArray × Int)) (s : ByteArray) : List (ByteArray × Int) := if atF l s 0 < 0 then l else l.take (atF l s 0).toNat ++ l.drop ((atF l s 0).toNat + 1)
theorem own_wo {w : World} {B k : Nat} {v : Value} {l : List (ByteArray × Int)} {s : ByteArray} (h1 : atF l s 0 = (k : Int)) (hk : k < l.length)
    (o : w.ownsRow B 103 2 v (0 + k + (l.length - (k + 1))) ([] ++ (l.take k).flatMap nmC ++ (l.drop (k + 1)).flatMap nmC)) : OwnN w B v (woF l s) := by
  unfold OwnN woF
  rw [h1, if_neg (by omega), Int.toNat_natCast]
  have e1 : (l.take k ++ l.drop (k + 1)).length = 0 + k + (l.length - (k + 1)) := by simp; omega
  have e2 : (l.take k ++ l.drop (k + 1)).flatMap nmC = [] ++ (l.take k).flatMap nmC ++ (l.drop (k + 1)).flatMap nmC := by
    rw [List.flatMap_append, List.nil_append]
  rw [e1, e2]
  exact o
theorem ownN_base {w : World} {B C e sz n : Nat} {v : Value} {xs : List Value} (h : w.ownsRow B e sz v n xs) (hc : C ≤ B) : w.ownsRow C e sz v n xs := by
  obtain ⟨hl, ⟨rfl, hn⟩ | ⟨g, cap, cur, rfl, hg, r⟩⟩ := h
  · exact ⟨hl, .inl ⟨rfl, hn⟩⟩
  · exact ⟨hl, .inr ⟨g, cap, cur, rfl, Nat.le_trans hc hg, r⟩⟩

set_option maxHeartbeats 1000000 in
set_option maxRecDepth 8000 in
/-- A name that is not there: the row itself. -/
theorem without_none (v : Value) (l : List (ByteArray × Int)) (s : ByteArray) (w : World) (h : OwnN w 0 v l) (e : atF l s 0 = -1) :
    Calls Tryz.prog 55 #[v, .string s] w fun e w' => ∃ v', e = .returned v' ∧ OwnN w' 0 v' (woF l s) ∧ Below w.heap.size w w' := by
  have HO := hide h
  have AT := hide (at_any v l s w (own_nm h))
  have HW := hide (show woF l s = l by unfold woF; rw [if_pos (by rw [e]; decide)])
  rw [e] at AT
  obtain ⟨so, sc, rfl, _⟩ := row_slice h
  clear h e
  go_enter Tryz.func55, Tryz.ntmps55
  go_wp2_with fail
  refine AT.out.mono ?_
  rintro e' w1 ⟨rfl, e2⟩
  subst e2
  go_wp2
  go_ret
  exact ⟨_, rfl, by rw [HW.out]; exact HO.out, Below.refl _ _⟩

theorem step_own {ops : Array Oper} {o : Oper} {a : Act} {w : World} {K : Act → World → Prop} {Q : Exit → Act → World → Prop} {E : Prop} (hgd : o.guard = none) (s x : Operand)
    (ho : o.op = .call { callee := .builtin .append, args := #[s, x], argTypes := #[53, 53] }) (base : Nat) (v : Value) (n : Nat) (xs : List Value) (hs : a.eval s = v) (hown : w.ownsRow base 103 2 v n xs)
    (ad : Addr) (m c : Nat) (news : List Value) (hx : a.eval x = .slice (some ad) m c) (hl : news.length = m * 2) (hnews : ∀ j u, news[j]? = some u → w.cell? (ad.add j) = some u) (h1 : ∀ u ∈ news, u.oneCell' = true)
    (hb : n + m ≤ 10000) (hbase : base ≤ w.heap.size)
    (h : ∀ v' w', w'.ownsRow base 103 2 v' (n + m) (xs ++ news) → w.grownBy w' v.ownBlock → K (a.put o.dst v') w') :
    if Region.wanted o (yielded ops a.tmps) = true then Oper.wp Tryz.prog o a w K Q else E := by
  have hw : Region.wanted o (yielded ops a.tmps) = true := by simp [Region.wanted, hgd]
  rw [if_pos hw]
  obtain ⟨i0, hi, hz0, hz1, hz2⟩ := info_parts infoN
  exact wp_append_own w s x 53 ho base 103 i0 _ 2 24 Tryz.underlying53 hi hz0 hz1 hz2 rfl (by decide) v n xs hs hown ad m c news hx hl hnews h1 (by unfold maxLen; omega) (by omega) hbase (fun v' w' a1 a2 _ => h v' w' a1 a2)

set_option maxHeartbeats 1000000 in
set_option maxRecDepth 8000 in
/-- A name that is there: a new row. -/
theorem without_some (g cap k : Nat) (l : List (ByteArray × Int)) (s : ByteArray) (w : World) (h : OwnN w 0 (.slice (some ⟨g, 0, none⟩) l.length cap) l) (e : atF l s 0 = (k : Int)) (hk : k < l.length) (hb : l.length ≤ 2000) :
    Calls Tryz.prog 55 #[.slice (some ⟨g, 0, none⟩) l.length cap, .string s] w fun e w' => ∃ v', e = .returned v' ∧ OwnN w' w.heap.size v' (woF l s) ∧ Below w.heap.size w w' := by
  have HO := hide h
  have AT := hide (at_any _ l s w (own_nm h))
  rw [e] at AT
  have HC := hide (show ∀ j u, (l.flatMap nmC)[j]? = some u → w.cell? ⟨g, j, none⟩ = some u from fun j u hu => by
    have hc := World.ownsRow.cells h (g := g) rfl j u hu
    rwa [add_plain, Nat.zero_add] at hc)
  have hgl : g < w.heap.size := (World.ownsRow.lt h g rfl).2
  have hcap : cap ≤ 9223372036854775807 ∧ l.length ≤ cap := by
    obtain ⟨ao, c', e1, n1, n2, _⟩ := own_nm h
    cases e1
    exact ⟨n2, n1⟩
  obtain ⟨hcap, hlc⟩ := hcap
  have EE := hide e
  clear h e
  have hB0 := hide ((Below.refl w.heap.size w).alloc (Nat.le_refl _) (.cells #[] 103))
  have hW1 := hide (show ∀ j u, ((l.take k).flatMap nmC)[j]? = some u → (w.alloc (.cells #[] 103)).drew.cell? ((⟨g, 0, none⟩ : Addr).add j) = some u from fun j u hu => by
    rw [World.cell?_drew, add_plain, Nat.zero_add, World.cell?_of_block (w := w) (((Below.refl w.heap.size w).alloc (Nat.le_refl _) _).block g hgl)]
    exact HC.out j u (nm_take hu))
  have hL1 : ((l.take k).flatMap nmC).length = k * 2 := by rw [nmC_len, List.length_take]; omega
  have hL3 : ((l.drop (k + 1)).flatMap nmC).length = (l.length - (k + 1)) * 2 := by rw [nmC_len, List.length_drop]
  have hown0 := hide (show (w.alloc (.cells #[] 103)).drew.ownsRow w.heap.size 103 2 (.slice (some ⟨w.heap.size, 0, none⟩) 0 0) 0 [] from (own_empty w).drew)
  have hk1 : (k : Int) + 1 ≤ (l.length : Int) := by omega
  have hkc : k ≤ cap := by omega
  have hkn : k + 1 ≤ l.length := hk
  have hwr : IntKind.i64.wrap ((k : Int) + 1) = (k : Int) + 1 := by
    simp [IntKind.wrap, IntKind.bits, IntKind.signed]
    omega
  have hk0 : (0 : Int) ≤ (k : Int) + 1 := by omega
  have HN := hide (show ∀ w2, (w.alloc (.cells #[] 103)).drew.grownBy w2 (some w.heap.size) → ∀ j u, ((l.drop (k + 1)).flatMap nmC)[j]? = some u → w2.cell? ((⟨g, (k + 1) * 2, none⟩ : Addr).add j) = some u from fun w2 hg j u hu => by
    have c := HC.out _ _ (nm_drop (k := k + 1) hk hu)
    rw [add_plain]
    refine hg.cell ?_ (fun e => by simp only [Option.some.injEq] at e; omega)
    rw [World.cell?_drew, World.cell?_of_block (w := w) (((Below.refl w.heap.size w).alloc (Nat.le_refl _) _).block g hgl)]
    exact c)
  have HS := hide (show w.heap.size ≤ (w.alloc (.cells #[] 103)).drew.heap.size from hB0.out.size)
  have HBD := hide (show Below w.heap.size w (w.alloc (.cells #[] 103)).drew from hB0.out.drew)
  have HOW := hide (fun (w' : World) (v' : Value) => own_wo (w := w') (B := w.heap.size) (v := v') (s := s) EE.out hk)
  by_cases hcp : cap = k + 1
  · subst hcp
    have hle : l.length = k + 1 := by omega
    have hd : (l.drop (k + 1)).flatMap nmC = [] := by rw [List.drop_eq_nil_of_le (by omega)]; rfl
    have HD := hide hd
    have HLE := hide hle
    clear hd hle
    have hkk : (k : Int) ≤ (k : Int) + 1 := by omega
    go_enter Tryz.func55, Tryz.ntmps55
    go_wp2_with fail
    refine AT.out.mono ?_
    rintro e' w1 ⟨rfl, e2⟩
    subst e2
    go_wp2_with fail
    go_region_law (first
      | (refine step_own rfl (.tmp 12) (.tmp 15) rfl w1.heap.size _ 0 [] (by simp [Act.eval]) hown0.out ⟨g, 0, none⟩ k (k + 1) ((l.take k).flatMap nmC) (by simp [Act.eval]) hL1 hW1.out (nmC_one _) (by omega) HS.out ?_; intro v1 w2 o1 g1)
      | (refine step_own rfl (.tmp 16) (.tmp 20) rfl w1.heap.size v1 (0 + k) _ (by simp [Act.eval]) o1 ⟨g, 0, none⟩ 0 0 [] (by simp [Act.eval]) rfl (fun j u hu => by simp at hu) (fun u hu => by simp at hu) (by omega) (Nat.le_trans HS.out g1.size) ?_; intro v2 w3 o2 g2))
    go_wp2
    go_ret
    refine ⟨_, rfl, HOW.out _ _ (by rw [HD.out, show l.length - (k + 1) = 0 from by have := HLE.out; omega]; exact o2), ?_⟩
    exact (HBD.out.grown g1 HS.out (fun g hg => by cases hg; exact Nat.le_refl _)).grown g2 (Nat.le_trans HS.out g1.size) (fun g hg => (World.ownsRow.lt o1 g hg).1)
  · have hcp' : k + 1 < cap := by omega
    go_enter Tryz.func55, Tryz.ntmps55
    go_wp2_with fail
    refine AT.out.mono ?_
    rintro e' w1 ⟨rfl, e2⟩
    subst e2
    go_wp2_with fail
    go_region_law (first
      | (refine step_own rfl (.tmp 12) (.tmp 15) rfl w1.heap.size _ 0 [] (by simp [Act.eval]) hown0.out ⟨g, 0, none⟩ k cap ((l.take k).flatMap nmC) (by simp [Act.eval]) hL1 hW1.out (nmC_one _) (by omega) HS.out ?_; intro v1 w2 o1 g1)
      | (refine step_own rfl (.tmp 16) (.tmp 20) rfl w1.heap.size v1 (0 + k) _ (by simp [Act.eval]) o1 ⟨g, (k + 1) * 2, none⟩ (l.length - (k + 1)) (cap - (k + 1)) ((l.drop (k + 1)).flatMap nmC) (by simp [Act.eval]) hL3 (HN.out w2 g1) (nmC_one _) (by omega) (Nat.le_trans HS.out g1.size) ?_; intro v2 w3 o2 g2))
    go_wp2
    go_ret
    refine ⟨_, rfl, HOW.out _ _ o2, ?_⟩
    exact (HBD.out.grown g1 HS.out (fun g hg => by cases hg; exact Nat.le_refl _)).grown g2 (Nat.le_trans HS.out g1.size) (fun g hg => (World.ownsRow.lt o1 g hg).1)

theorem without_any (B : Nat) (v : Value) (l : List (ByteArray × Int)) (s : ByteArray) (w : World) (h : OwnN w B v l) (hB : B ≤ w.heap.size) (hb : l.length ≤ 2000) :
    Calls Tryz.prog 55 #[v, .string s] w fun e w' => ∃ v', e = .returned v' ∧ OwnN w' B v' (woF l s) ∧ Below w.heap.size w w' := by
  rcases atF_cases s l 0 with hA | ⟨k, hk, hA⟩
  · have HO := hide h
    have AT := hide (at_any v l s w (own_nm h))
    have HW := hide (show woF l s = l by unfold woF; rw [if_pos (by rw [hA]; decide)])
    rw [hA] at AT
    obtain ⟨so, sc, rfl, _⟩ := row_slice h
    clear h hA
    go_enter Tryz.func55, Tryz.ntmps55
    go_wp2_with fail
    refine AT.out.mono ?_
    rintro e' w1 ⟨rfl, e2⟩
    subst e2
    go_wp2
    go_ret
    exact ⟨_, rfl, by rw [HW.out]; exact HO.out, Below.refl _ _⟩
  · rw [Nat.zero_add] at hA
    have h0 := h
    obtain ⟨hlen, ⟨rfl, hn⟩ | ⟨g, cap, cur, rfl, hg, hh, r⟩⟩ := h0
    · omega
    · refine (without_some g cap k l s w (ownN_base h (Nat.zero_le _)) hA hk hb).mono ?_
      rintro e w' ⟨v', rfl, o, b⟩
      exact ⟨v', rfl, ownN_base o hB, b⟩

end Go.Proofs.YtfogfpanfhmijaaGreat.Clep
