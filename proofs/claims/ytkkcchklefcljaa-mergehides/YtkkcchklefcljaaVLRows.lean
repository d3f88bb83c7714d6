/- What the statements' own function rows does when called. Conditions: fewer rows than 2^63. -/
import Derived.Test.YtkkcchklefcljaaVOver
import Derived.Laws.AppendOwn
import Derived.Maps.AppendAt
namespace Go.Proofs.Ytkkcchklefcljaa.Clep
open Go.RowKit
set_option linter.unusedVariables false

/-- The rows that the statements are about. -/
def lawR (zs : List Sl) : List (List It) := (zs.take 8).map fun z => qL (z.l.take 40)
theorem lawR_rise (zs : List Sl) : ∀ l ∈ lawR zs, Rise l := fun l hl => by
  obtain ⟨z, _, rfl⟩ := List.mem_map.1 hl
  exact qL_rise _
theorem lawR_ok (zs : List Sl) : ∀ l ∈ lawR zs, ∀ x ∈ l, x.ok = true := fun l hl => by
  obtain ⟨z, _, rfl⟩ := List.mem_map.1 hl
  exact qL_ok _
theorem lawR_len (zs : List Sl) : ∀ l ∈ lawR zs, l.length ≤ 40 := fun l hl => by
  obtain ⟨z, _, rfl⟩ := List.mem_map.1 hl
  exact Nat.le_trans (qL_len _) (List.length_take_le _ _)
theorem lawR_size (zs : List Sl) : (lawR zs).length ≤ 8 := by unfold lawR; rw [List.length_map]; exact List.length_take_le _ _
/-- What rows answers. -/
def AnsR (ls : List (List It)) (w : World) (e : Ending) (w' : World) : Prop := ∃ a n c ys, e = .returned (.slice a n c) ∧ Rws w' a n c ys ∧ c ≤ 9223372036854775807 ∧ ys.map Sl.l = ls ∧ Below w.heap.size w w'
theorem lawR_take {zs : List Sl} {i : Nat} {z : Sl} (h : zs[i]? = some z) (hi : i < 8) : lawR (zs.take (i + 1)) = lawR (zs.take i) ++ [qL (z.l.take 40)] := by
  have e : zs.take (i + 1) = zs.take i ++ [z] := by rw [List.take_add_one, h]; rfl
  have h1 : (zs.take i).length ≤ i := List.length_take_le _ _
  rw [e]
  unfold lawR
  have e8 : (zs.take i).take 8 = zs.take i := List.take_of_length_le (by omega)
  have e9 : (zs.take i ++ [z]).take 8 = zs.take i ++ [z] := List.take_of_length_le (by rw [List.length_append, List.length_singleton]; omega)
  rw [e8, e9, List.map_append]
  rfl
/-- A row of rows that the call makes. -/
structure Ors (w : World) (B : Nat) (v : Value) (ys : List Sl) : Prop where
  own : OwnS w B v ys
  is : ∀ z ∈ ys, Is w z.a z.n z.c z.l ∧ z.n ≤ 9223372036854775807
  apart : ∀ z ∈ ys, 0 < z.n → ∀ x, z.a = some x → v.ownBlock ≠ some x.block
theorem Ors.keep {w w' : World} {B : Nat} {v : Value} {ys : List Sl} (h : Ors w B v ys) (hb : Below w.heap.size w w') : Ors w' B v ys :=
  ⟨ownS_keep h.own hb, fun z hz => ⟨(h.is z hz).1.below hb (Nat.le_refl _), (h.is z hz).2⟩, h.apart⟩
theorem is_lt {w : World} {a : Option Addr} {n c : Nat} {l : List It} (h : Is w a n c l) (h0 : 0 < n) (x : Addr) (hx : a = some x) : x.block < w.heap.size := by
  obtain ⟨b, off, e, hc⟩ := h.2.2.2 h0
  rw [hx] at e
  injection e with e
  subst e
  obtain ⟨y, hy⟩ : ∃ y, l[0]? = some y := ⟨_, List.getElem?_eq_getElem (by rw [h.1]; exact h0)⟩
  exact World.block_lt_of_cell? w _ (hc 0 y hy).1
theorem Ors.snoc {w w' : World} {B : Nat} {v v' : Value} {ys : List Sl} {z : Sl} (h : Ors w B v ys) (hz : Is w z.a z.n z.c z.l) (hzn : z.n ≤ 9223372036854775807) (hza : 0 < z.n → ∀ x, z.a = some x → v.ownBlock ≠ some x.block)
    (ho : OwnS w' B v' (ys ++ [z])) (hg : w.grownBy w' v.ownBlock) (hl : v'.ownBlock = v.ownBlock ∨ v'.ownBlock = some w.heap.size) : Ors w' B v' (ys ++ [z]) := by
  have hall : ∀ y ∈ ys ++ [z], Is w y.a y.n y.c y.l ∧ y.n ≤ 9223372036854775807 ∧ (0 < y.n → ∀ x, y.a = some x → v.ownBlock ≠ some x.block) := fun y hy => by
    rcases List.mem_append.1 hy with e | e
    · exact ⟨(h.is y e).1, (h.is y e).2, h.apart y e⟩
    · rw [List.mem_singleton.1 e]; exact ⟨hz, hzn, hza⟩
  refine ⟨ho, fun y hy => ⟨is_grown' (hall y hy).1 hg (fun h0 x hx e => (hall y hy).2.2 h0 x hx e.symm), (hall y hy).2.1⟩, fun y hy h0 x hx => ?_⟩
  rcases hl with e | e
  · rw [e]; exact (hall y hy).2.2 h0 x hx
  · rw [e]
    have := is_lt (hall y hy).1 h0 x hx
    intro e2
    injection e2 with e2
    omega
/-- The items that may be, each a row of one. -/
structure One (w0 w : World) (v : Value) (l : List It) : Prop where
  bel : Below w0.heap.size w0 w
  ex : ∃ xs : List Sl, OwnS w w0.heap.size v xs ∧ (∀ z ∈ xs, Is w0 z.a z.n z.c z.l ∧ z.n ≤ 9223372036854775807) ∧ xs.map Sl.l = (l.filter It.ok).map (fun x => [x])
def OneJ (w0 w : World) (rn : Nat) (rl : List It) (v i : Value) : Prop := ∃ j : Nat, j ≤ rn ∧ j ≤ 40 ∧ i = .int .i64 j ∧ One w0 w v (rl.take j)
theorem lawR_all {zs : List Sl} {k n : Nat} (hl : zs.length = n) (h : ¬ (k < n ∧ k < 8)) (hk : k ≤ n) (hk8 : k ≤ 8) : lawR (zs.take k) = lawR zs := by
  unfold lawR
  rw [List.take_take]
  rcases Nat.lt_or_ge k 8 with e | e
  · have hkn : n ≤ k := by omega
    rw [List.take_of_length_le (by omega), List.take_of_length_le (by omega)]
  · rw [show min 8 k = 8 by omega]
set_option maxRecDepth 100000 in
set_option maxHeartbeats 4000000 in
theorem lrows_any (a : Option Addr) (n c : Nat) (zs : List Sl) (w : World) (h : Rws w a n c zs) (hn : n ≤ 9223372036854775807) :
    Calls Try.prog 9 #[.slice a n c] w (AnsR (lawR zs) w) := by
  have hl := h.1
  have H0 := hide (fun W (hW : Below w.heap.size w W) => h.below hW (Nat.le_refl _))
  obtain ⟨iS, hiS, hzS0, hzS1, hzS2⟩ := info_parts infoS

  clear h
  go_enter Try.func9, Try.ntmps9
  go_wp2_with fail
  go_loopw [3, 4] (fun v i wr => ∃ k : Nat, k ≤ n ∧ k ≤ 8 ∧ i = .int .i64 k ∧ Hid (Below w.heap.size w wr) ∧ Hid (∃ ys : List Sl, Ors wr w.heap.size v ys ∧ ys.map Sl.l = lawR (zs.take k))) (fun _ i _ => n - (intOf i).toNat)
  case atStart => exact ⟨0, by omega, by omega, rfl, hide (Below.refl _ _), hide ⟨[], ⟨World.ownsRow_nil _ _ _ _, by simp, by simp⟩, by simp [lawR]⟩⟩
  case round =>
    obtain ⟨k, hk, hk8, rfl, hbel, hown⟩ := hrel
    by_cases hlt : k < n ∧ k < 8
    · obtain ⟨hlt, hlt8⟩ := hlt
      have hk8i : (k : Int) < 8 := by omega
      obtain ⟨w0, rfl⟩ : ∃ w0, w0 = wr := ⟨_, rfl⟩
      obtain ⟨z, hz⟩ : ∃ z, zs[k]? = some z := ⟨_, List.getElem?_eq_getElem (by rw [hl]; exact hlt)⟩
      have hRw := H0.out _ hbel.out
      obtain ⟨b1, off1, ea, hcell⟩ := hRw.2.2.2 (by omega)
      have hzm := List.mem_of_getElem? hz
      obtain ⟨hzi, hzn⟩ := hRw.2.2.1 z hzm

      have hz1 := hide (hcell k z hz)
      have HT := hide (lawR_take hz hlt8)
      subst ea
      obtain ⟨ra, rn, rc, rl⟩ := z
      simp only at hzi hzn hz1 HT
      have hrl := hzi.1
      have hrc := hzi.2.1.1
      have HZI := hide (fun W (hW : Below w0.heap.size w0 W) => hzi.below hW (Nat.le_refl _))
      have HI := hide (fun j x (hj : j < rn) (hx : rl[j]? = some x) => is_at hzi hj hx)
      have HC := hide (fun W (hW : Below w0.heap.size w0 W) => (hW.cell (p := ⟨b1, off1 + k, none⟩) (World.block_lt_of_cell? w0 _ hz1.out)).trans hz1.out)
      clear hRw hcell hz hzm hzi hz1
      go_upto_block 2 with fail
      go_cut [5, 6] from 7 to 53 (fun s5 s6 wx => Hid (One w0 wx s5 (rl.take 40)))
      case first =>
        go_wp2_with fail
        go_loopw [5, 6] (fun v i wq => Hid (OneJ w0 wq rn rl v i)) (fun _ i _ => rn - (intOf i).toNat)
        case atStart => exact hide ⟨0, by omega, by omega, rfl, ⟨Below.refl _ _, [], World.ownsRow_nil _ _ _ _, by simp, by simp⟩⟩
        case round =>
          obtain ⟨j, hj, hj40, rfl, hone⟩ := hrel.out
          replace hone := hide hone
          clear hrel
          have hcz := HC.out _ hone.out.bel
          by_cases hlt2 : j < rn ∧ j < 40
          · obtain ⟨hlt2, hlt40⟩ := hlt2
            obtain ⟨b0, off, ea, hc⟩ := (HZI.out _ hone.out.bel).2.2.2 (by omega)
            obtain ⟨x, hx⟩ : ∃ x, rl[j]? = some x := ⟨_, List.getElem?_eq_getElem (by rw [hrl]; exact hlt2)⟩
            have hv := hide (hc j x hx)
            have HZ := hide (HI.out j x hlt2 hx)
            have HT2 := hide (filter_take rl j x hx)
            obtain ⟨xs, ho, hzs, hmap⟩ := hone.out.ex
            have hzl : xs.length ≤ j := by
              have := congrArg List.length hmap
              simp only [List.length_map] at this
              have h2 := List.length_filter_le It.ok (rl.take j)
              rw [List.length_take] at h2; omega
            have HO := hide ho
            have HZS := hide hzs
            have HM := hide hmap
            have hbq := hide hone.out.bel
            have hok0 := hide (show x.ok = okI x.S x.K x.T x.V x.X from rfl)
            clear hc hx ho hzs hmap hone
            subst ea
            obtain ⟨S, K, T, V, X⟩ := x
            have HZ2 := HZ.out
            rw [show icut (some ⟨b0, off, none⟩) rc j = some ⟨b0, off + j * 5, none⟩ by unfold icut; rw [if_neg (by omega)]; simp [add_plain]] at HZ2
            have HZ2 := hide HZ2
            clear HZ
            unfold Vt at hv
            simp only at hv hok0
            obtain ⟨d0, d1, d2, d3, d4⟩ := hv.out
            obtain ⟨o, hoo⟩ : ∃ o, okI S K T V X = o := ⟨_, rfl⟩
            have cO := hide (refok_any S K T V X wr)
            rw [hoo] at cO
            have HOO := hide (hok0.out.trans hoo)
            have hw1 := hide (fun w1 (hb1 : Below wr.heap.size wr w1) => HC.out w1 (bmore hbq.out hb1))
            clear hoo hok0
            have hj1 : (j : Int) < 40 := by omega
            cases o with
            | false =>
              go_wp2_with (first | (go_at_call 24; refine cO.out.mono ?_; rintro e w1 ⟨rfl, hb1⟩))
              go_roundw
              case rel => exact hide ⟨j + 1, by omega, by omega, by go_num, ⟨bmore hbq.out hb1, xs, ownS_keep HO.out hb1, HZS.out, by rw [HT2.out, HM.out, HOO.out]; simp⟩⟩
              case measure => simp [intOf]; omega
            | true =>
              have hk1 : ((j : Int) + 1) ≤ (rc : Int) := by omega
              have hk2 : ((j : Int) + 1).toNat = j + 1 := by omega
              have hk3 : j + 1 - j = 1 := by omega
              go_wp2_with (first
                | (go_at_call 24; refine cO.out.mono ?_; rintro e w1 ⟨rfl, hb1⟩; have hcz1 := hw1.out _ hb1)
                | (at_builtin; refine wpList_append_own _ rfl (.tmp 38) (.tmp 47) 22 rfl w0.heap.size 25 iS (.slice none 0 0) 1 24 Try.underlying22 hiS hzS0 hzS1 hzS2 rfl (by decide) _ xs.length (sv xs) rfl (World.ownsRow.alloc (ownS_keep HO.out hb1) _) ⟨w1.heap.size, 0, none⟩ 1 1 [.slice (some ⟨b0, off + j * 5, none⟩) 1 (rc - j)] rfl rfl ?c1 ?c2 ?c3 ?c4 ?c5 ?_)
                | fail)
              case c1 => exact cell_newS _ _ _
              case c2 => intro u hu; simp at hu; subst hu; rfl
              case c3 => unfold maxLen; omega
              case c4 => omega
              case c5 => have := hbq.out.size; have := hb1.size; simp; omega
              intro v' w' ho' hg' _
              go_wp2
              go_roundw
              case rel =>
                have hbs := hbq.out.size
                have hb2 := bmore hbq.out hb1
                refine hide ⟨j + 1, by omega, by omega, by go_num, ⟨?_, xs ++ [⟨some ⟨b0, off + j * 5, none⟩, 1, rc - j, [⟨S, K, T, V, X⟩]⟩], ownS_snoc ho', ?_, ?_⟩⟩
                · exact (hb2.alloc hb2.size _).grown hg' (by have := hb2.size; simp; omega) (fun k hk => (World.ownsRow.lt (ownS_keep HO.out hb1) k hk).1)
                · intro z hz
                  rcases List.mem_append.1 hz with e | e
                  · exact HZS.out z e
                  · rw [List.mem_singleton.1 e]; exact ⟨HZ2.out, by show 1 ≤ _; omega⟩
                · rw [HT2.out, List.map_append, HM.out, HOO.out]; simp
              case measure => simp [intOf]; omega
          · have HE : Hid (rl.take j = rl.take 40) := hide (by
              rcases Nat.lt_or_ge j 40 with e | e
              · rw [List.take_of_length_le (by omega), List.take_of_length_le (by omega)]
              · rw [show j = 40 by omega])
            have HR : Hid (One w0 wr u5 (rl.take 40)) := by rw [← HE.out]; exact hone
            clear HE hone
            by_cases hjr : j < rn
            · have hj2 : ¬ ((j : Int) < 40) := by omega
              go_wp2_with fail
              go_meet
              exact HR
            · go_wp2_with fail
              go_meet
              exact HR
      case rest =>
        obtain ⟨w1, rfl⟩ : ∃ w1, w1 = wc := ⟨_, rfl⟩
        have hone := hcut.out
        obtain ⟨xs, ho, hzs, hmap⟩ := hone.ex
        have hQ := hide (fun v (ho : OwnS w1 w0.heap.size v xs) => q_any v xs (rl.take 40) w0.heap.size w1 hone.bel.size ho (fun z hz => ⟨(hzs z hz).1.below hone.bel (Nat.le_refl _), (hzs z hz).2⟩) hmap (by rw [List.length_take]; omega))
        have HO := hide ho
        obtain ⟨ys, hys, hym⟩ := hown.out
        have HYS := hide (hys.keep hone.bel)
        have hyl : ys.length ≤ 8 := by
          have := congrArg List.length hym
          rw [List.length_map] at this
          rw [this]; exact lawR_size _
        have HYM := hide hym
        have B1 := hide (bmore hbel.out hone.bel)
        clear hone ho hzs hmap hys hym hcut hown HZI HI HC hrl
        go_wp2_with fail
        refine (hQ.out _ HO.out).mono ?_
        rintro e w9 ⟨a9, c9, rfl, hI9, hc9, hb9, ho9⟩
        have hq40 : (qL (rl.take 40)).length ≤ 40 := Nat.le_trans (qL_len _) (List.length_take_le _ _)
        generalize hL9 : (qL (rl.take 40)).length = L9 at *
        have HI9 := hide hI9
        have HA9 : Hid (0 < L9 → ∀ x, a9 = some x → w1.heap.size ≤ x.block) := hide fun h0 x hx => by
          subst hx
          obtain ⟨b9, off9, e9, _⟩ := hI9.2.2.2 h0
          cases e9
          exact (World.ownsRow.lt ho9 b9 rfl).1
        have A9 := (Below.refl _ w9).alloc (Nat.le_refl _) (Obj.cells #[Value.slice a9 L9 c9] 25)
        have HYS2 := hide (HYS.out.keep (bmore hb9 A9))
        have B9 := hide (bmore B1.out (bmore hb9 A9))
        have HIA := hide (HI9.out.below A9 (Nat.le_refl _))
        have hvl := hide (fun kk (hk : u3.ownBlock = some kk) => (World.ownsRow.lt HYS.out.own kk hk).2)
        clear hQ hI9 hc9 hb9 ho9 A9 HI9 hL9
        go_wp2_with (first
          | (at_builtin; refine wpList_append_own_at _ rfl (.tmp 49) (.tmp 52) 22 rfl w.heap.size 25 iS (.slice none 0 0) 1 24 Try.underlying22 hiS hzS0 hzS1 hzS2 rfl (by decide) _ ys.length (sv ys) rfl HYS2.out.own ⟨w9.heap.size, 0, none⟩ 1 1 [.slice a9 L9 c9] rfl rfl ?g1 ?g2 ?g3 ?g4 ?g5 ?_)
          | fail)
        case g1 => exact cell_newS _ _ _
        case g2 => intro u hu; simp at hu; subst hu; rfl
        case g3 => unfold maxLen; omega
        case g4 => omega
        case g5 => exact B9.out.size
        intro v' w' ho' hg' _ hl'
        have HR : Hid (∃ ys : List Sl, Ors w' w.heap.size v' ys ∧ ys.map Sl.l = lawR (zs.take (k + 1))) := hide ⟨ys ++ [⟨a9, L9, c9, qL (rl.take 40)⟩], HYS2.out.snoc (z := ⟨a9, L9, c9, qL (rl.take 40)⟩) HIA.out (by show L9 ≤ _; omega) (fun h0 x hx e => by
            have h1 := HA9.out h0 x hx
            have h2 := hvl.out x.block e
            omega) (ownS_snoc ho') hg' (by rw [show (w9.alloc (Obj.cells #[Value.slice a9 L9 c9] 25)).heap.size = w9.heap.size + 1 by simp]; exact hl'), by rw [HT.out, List.map_append, HYM.out]; rfl⟩
        have HB := hide (B9.out.grown hg' B9.out.size (fun kk hk => (World.ownsRow.lt HYS2.out.own kk hk).1))
        clear ho' hg' hl'
        go_wp2
        go_roundw
        case rel => exact ⟨k + 1, by omega, by omega, by go_num, HB, HR⟩
        case measure => simp [intOf]; omega
    · have HE := hide (lawR_all hl hlt hk hk8)
      have HR : Hid (∃ ys : List Sl, Ors wr w.heap.size u3 ys ∧ ys.map Sl.l = lawR zs) := by rw [← HE.out]; exact hown
      have HF : Hid (AnsR (lawR zs) w (.returned u3) wr) := hide (by
        obtain ⟨ys, hys, hym⟩ := HR.out
        obtain ⟨a9, c9, e9, hr9, hc9⟩ := ownS_rws hys.own hys.is
        exact ⟨a9, ys.length, c9, ys, by rw [e9], hr9, hc9, hym, hbel.out⟩)
      clear HE hown HR
      by_cases hkn : k < n
      · have hk8' : ¬ ((k : Int) < 8) := by omega
        go_wp2
        go_ret
        exact HF.out
      · go_wp2
        go_ret
        exact HF.out

end Go.Proofs.Ytkkcchklefcljaa.Clep
