/- The document's own Disk: List and leads (walks over the translated program). For any such Disk. -/
import Derived.Test.YtfogfpanfhmijaaGreatYq
namespace Go.Proofs.YtfogfpanfhmijaaGreat.Clep
open Go.RowKit Go.Maps
set_option linter.unusedVariables false

def leadsT (T : RSt) (f : Int) : Bool := (T.now.any fun x => x.2 == f) || (T.last.any fun x => x.2 == f) || (T.ops.any fun o => o.kind == 0 && (o.file : Int) == f)
theorem roC_at : ∀ (l : List RO) (j : Nat) (x : RO), l[j]? = some x → (l.flatMap roC)[j * 4]? = some (.int .i64 x.kind) ∧ (l.flatMap roC)[j * 4 + 1]? = some (.int .i64 x.file) ∧ (l.flatMap roC)[j * 4 + 2]? = some (.string x.a) ∧ (l.flatMap roC)[j * 4 + 3]? = some (.string x.b)
  | [], j, x, h => by simp at h
  | y :: r, 0, x, h => by
    simp only [List.getElem?_cons_zero, Option.some.injEq] at h
    subst h
    exact ⟨rfl, rfl, rfl, rfl⟩
  | y :: r, j + 1, x, h => by
    have h' : r[j]? = some x := by simpa using h
    have := roC_at r j x h'
    rw [List.flatMap_cons, show (j + 1) * 4 = j * 4 + 1 + 1 + 1 + 1 by omega]
    exact ⟨by simpa [roC] using this.1, by simpa [roC] using this.2.1, by simpa [roC] using this.2.2.1, by simpa [roC] using this.2.2.2⟩
theorem any_false_of {α : Type} (l : List α) (p : α → Bool) (h : ∀ i (hi : i < l.length), p (l[i]'hi) = false) : l.any p = false := by
  rw [List.any_eq_false]
  intro x hx
  obtain ⟨i, hi, rfl⟩ := List.getElem_of_mem hx
  rw [h i hi]
  simp
theorem any_true_of {α : Type} (l : List α) (p : α → Bool) (i : Nat) (hi : i < l.length) (h : p (l[i]'hi) = true) : l.any p = true := by
  rw [List.any_eq_true]
  exact ⟨_, List.getElem_mem hi, h⟩
theorem RefIs.opsRow {w : World} {Q : Nat} {T : RSt} {P : Nat → Prop} {fv nv lv ov : Value} (h : RefIs w Q T P fv nv lv ov) : ∃ ao oc, ov = .slice ao T.ops.length oc ∧ T.ops.length ≤ oc ∧ oc ≤ 9223372036854775807 ∧ (0 < T.ops.length → ∃ g, ao = some ⟨g, 0, none⟩ ∧ ∀ i (hi : i < T.ops.length), w.cell? ⟨g, i * 4, none⟩ = some (.int .i64 (T.ops[i]'hi).kind) ∧ w.cell? ⟨g, i * 4 + 1, none⟩ = some (.int .i64 (T.ops[i]'hi).file) ∧ w.cell? ⟨g, i * 4 + 2, none⟩ = some (.string (T.ops[i]'hi).a) ∧ w.cell? ⟨g, i * 4 + 3, none⟩ = some (.string (T.ops[i]'hi).b)) := by
  have h0 := h.os
  have h1 := h.os
  obtain ⟨hl, ⟨rfl, hn⟩ | ⟨g, cap, cur, rfl, hg, hh, r1, r2, r3, r4⟩⟩ := h0
  · exact ⟨none, 0, by rw [hn], by omega, by omega, fun h => by omega⟩
  · unfold maxLen at r2
    refine ⟨_, cap, rfl, r1, r2, fun _ => ⟨g, rfl, fun i hi => ?_⟩⟩
    have hc : ∀ j u, (T.ops.flatMap roC)[j]? = some u → w.cell? ⟨g, j, none⟩ = some u := fun j u hu => by
      have hc := World.ownsRow.cells h1 (g := g) rfl j u hu
      rwa [add_plain, Nat.zero_add] at hc
    obtain ⟨a1, a2, a3, a4⟩ := roC_at T.ops i _ (List.getElem?_eq_getElem hi)
    exact ⟨hc _ _ a1, hc _ _ a2, hc _ _ a3, hc _ _ a4⟩

set_option maxHeartbeats 2000000 in
set_option maxRecDepth 8000 in
theorem leadsT_any (Q : Nat) (T : RSt) (P : Nat → Prop) (fv nv lv ov : Value) (f : Int) (w : World) (h : RefIs w Q T P fv nv lv ov) :
    Calls Tryz.prog 52 #[.pointer (some ⟨Q, 0, none⟩), .int .i64 f] w fun e w' => e = .returned (.bool (leadsT T f)) ∧ w' = w := by
  obtain ⟨c0, c1, c2, c3, c4, c8, fr⟩ := h.cells
  obtain ⟨an, cn, e1, n1, n2, n3⟩ := own_nm h.nw
  obtain ⟨al, cl, e2, l1, l2, l3⟩ := own_nm h.ls
  obtain ⟨ao, co, e3, o1, o2, o3⟩ := h.opsRow
  subst e1 e2 e3
  have N3 := hide n3
  have L3 := hide l3
  have O3 := hide o3
  have hln : T.now.length ≤ 1000 := by have := h.ok.nnw; have := h.ok.cal; omega
  have hll : T.last.length ≤ 1000 := by have := h.ok.nls; have := h.ok.cal; omega
  have hlo : T.ops.length ≤ 1000 := by have := h.ok.nop; have := h.ok.cal; omega
  clear n3 l3 o3 h c0 c1 c8
  go_enter Tryz.func52, Tryz.ntmps52
  go_wp2
  go_loop [5] (fun i => ∃ k : Nat, k ≤ T.now.length ∧ i = .int .i64 k ∧ Hid (∀ i (hi : i < T.now.length), i < k → ((T.now[i]'hi).2 == f) = false)) (fun i => T.now.length - (intOf i).toNat)
  case atStart => exact ⟨0, by omega, rfl, hide (fun i hi h => by omega)⟩
  case round =>
    obtain ⟨k, hk, rfl, hT⟩ := hrel
    by_cases hlt : k < T.now.length
    · obtain ⟨b, off, rfl, hc⟩ := N3.out (by omega)
      have d1 := (hc k hlt).2
      cases he : (T.now[k]'hlt).2 == f with
      | true =>
        have HL := hide (show leadsT T f = true by unfold leadsT; rw [any_true_of T.now _ k hlt he]; rfl)
        generalize (T.now[k]'hlt).2 = z at *
        clear hc hT
        go_wp2
        go_ret
        exact ⟨by rw [HL.out]; rfl, rfl⟩
      | false =>
        have HT := hide (show ∀ i (hi : i < T.now.length), i < k + 1 → ((T.now[i]'hi).2 == f) = false from fun i hi h => by
          rcases Nat.lt_or_ge i k with h1 | h1
          · exact hT.out i hi h1
          · obtain rfl : i = k := by omega
            exact he)
        generalize (T.now[k]'hlt).2 = z at *
        clear hc hT
        go_wp2
        go_round
        case rel => exact ⟨k + 1, by omega, by go_num, HT⟩
        case measure => simp [intOf]; omega
    · have HN := hide (any_false_of T.now (fun x => x.2 == f) (fun i hi => hT.out i hi (by omega)))
      have hke : ¬ ((k : Int) < (T.now.length : Int)) := by omega
      clear hT N3
      go_wp2
      go_loop [6] (fun i => ∃ k : Nat, k ≤ T.last.length ∧ i = .int .i64 k ∧ Hid (∀ i (hi : i < T.last.length), i < k → ((T.last[i]'hi).2 == f) = false)) (fun i => T.last.length - (intOf i).toNat)
      case atStart => exact ⟨0, by omega, rfl, hide (fun i hi h => by omega)⟩
      case round =>
        obtain ⟨k2, hk2, rfl, hT2⟩ := hrel
        by_cases hlt2 : k2 < T.last.length
        · obtain ⟨b, off, rfl, hc⟩ := L3.out (by omega)
          have d1 := (hc k2 hlt2).2
          cases he : (T.last[k2]'hlt2).2 == f with
          | true =>
            have HL := hide (show leadsT T f = true by unfold leadsT; rw [any_true_of T.last _ k2 hlt2 he]; simp)
            generalize (T.last[k2]'hlt2).2 = z at *
            clear hc hT2
            go_wp2
            go_ret
            exact ⟨by rw [HL.out]; rfl, rfl⟩
          | false =>
            have HT := hide (show ∀ i (hi : i < T.last.length), i < k2 + 1 → ((T.last[i]'hi).2 == f) = false from fun i hi h => by
              rcases Nat.lt_or_ge i k2 with h1 | h1
              · exact hT2.out i hi h1
              · obtain rfl : i = k2 := by omega
                exact he)
            generalize (T.last[k2]'hlt2).2 = z at *
            clear hc hT2
            go_wp2
            go_round
            case rel => exact ⟨k2 + 1, by omega, by go_num, HT⟩
            case measure => simp [intOf]; omega
        · have HL2 := hide (any_false_of T.last (fun x => x.2 == f) (fun i hi => hT2.out i hi (by omega)))
          have hke2 : ¬ ((k2 : Int) < (T.last.length : Int)) := by omega
          clear hT2 L3
          go_wp2
          go_loop [7] (fun i => ∃ k : Nat, k ≤ T.ops.length ∧ i = .int .i64 k ∧ Hid (∀ i (hi : i < T.ops.length), i < k → ((T.ops[i]'hi).kind == 0 && (((T.ops[i]'hi).file : Nat) : Int) == f) = false)) (fun i => T.ops.length - (intOf i).toNat)
          case atStart => exact ⟨0, by omega, rfl, hide (fun i hi h => by omega)⟩
          case round =>
            obtain ⟨k3, hk3, rfl, hT3⟩ := hrel
            by_cases hlt3 : k3 < T.ops.length
            · obtain ⟨g, rfl, hc⟩ := O3.out (by omega)
              obtain ⟨d1, d2, _, _⟩ := hc k3 hlt3
              cases he : ((T.ops[k3]'hlt3).kind == 0 && (((T.ops[k3]'hlt3).file : Nat) : Int) == f) with
              | true =>
                have HL := hide (show leadsT T f = true by unfold leadsT; rw [any_true_of T.ops _ k3 hlt3 he]; simp)
                have he1 : (((T.ops[k3]'hlt3).kind : Int) == 0) = true := by simp at he ⊢; omega
                have he2 : ((((T.ops[k3]'hlt3).file : Nat) : Int) == f) = true := by simp at he ⊢; exact he.2
                generalize (T.ops[k3]'hlt3).kind = kd at *
                generalize (T.ops[k3]'hlt3).file = fl at *
                clear hc hT3 he
                go_wp2
                go_ret
                exact ⟨by rw [HL.out]; rfl, rfl⟩
              | false =>
                have HT := hide (show ∀ i (hi : i < T.ops.length), i < k3 + 1 → ((T.ops[i]'hi).kind == 0 && (((T.ops[i]'hi).file : Nat) : Int) == f) = false from fun i hi h => by
                  rcases Nat.lt_or_ge i k3 with h1 | h1
                  · exact hT3.out i hi h1
                  · obtain rfl : i = k3 := by omega
                    exact he)
                generalize (T.ops[k3]'hlt3).kind = kd at *
                generalize (T.ops[k3]'hlt3).file = fl at *
                clear hc hT3
                by_cases hkd : kd = 0
                · subst hkd
                  have he2 : ((fl : Int) == f) = false := by simpa using he
                  clear he
                  go_wp2
                  go_round
                  case rel => exact ⟨k3 + 1, by omega, by go_num, HT⟩
                  case measure => simp [intOf]; omega
                · have he1 : ((kd : Int) == 0) = false := by simp; omega
                  clear he
                  go_wp2
                  go_round
                  case rel => exact ⟨k3 + 1, by omega, by go_num, HT⟩
                  case measure => simp [intOf]; omega
            · have HO2 := hide (any_false_of T.ops (fun o => o.kind == 0 && (o.file : Int) == f) (fun i hi => hT3.out i hi (by omega)))
              have HL := hide (show leadsT T f = false by unfold leadsT; rw [HN.out, HL2.out, HO2.out]; rfl)
              have hke3 : ¬ ((k3 : Int) < (T.ops.length : Int)) := by omega
              clear hT3
              go_wp2
              go_ret
              exact ⟨by rw [HL.out]; rfl, rfl⟩

end Go.Proofs.YtfogfpanfhmijaaGreat.Clep

/- The document's own Disk: List and New (walks over the translated program). For any such Disk. -/
namespace Go.Proofs.YtfogfpanfhmijaaGreat.Clep
open Go.RowKit Go.Maps
set_option linter.unusedVariables false

theorem infoStr : (Tryz.prog.info? 9).map (fun i => (i.zero, i.size, i.bytes)) = some (some (.string ⟨#[]⟩), 1, 16) := by kernel_rfl
def strC (l : List (ByteArray × Int)) : List Value := l.map fun x => .string x.1
def listT (T : RSt) : List (ByteArray × Int) := if T.dead then [] else T.now

set_option maxHeartbeats 2000000 in
set_option maxRecDepth 8000 in
theorem listT_any (Q : Nat) (T : RSt) (P : Nat → Prop) (fv nv lv ov : Value) (w : World) (h : RefIs w Q T P fv nv lv ov) :
    Calls Tryz.prog 48 #[.pointer (some ⟨Q, 0, none⟩)] w fun e w' => ∃ v, e = .returned v ∧ w'.ownsRow w.heap.size 9 1 v (listT T).length (strC (listT T)) ∧ Below w.heap.size w w' := by
  obtain ⟨c0, c1, c2, c3, c4, c8, fr⟩ := h.cells
  obtain ⟨an, cn, e1, n1, n2, n3⟩ := own_nm h.nw
  obtain ⟨i0, hi, hz0, hz1, hz2⟩ := info_parts infoStr
  subst e1
  have N3 := hide n3
  have hln : T.now.length ≤ 1000 := by have := h.ok.nnw; have := h.ok.cal; omega
  have hQ := h.lt
  clear n3 h c0 c1 c3 c4 fr
  cases hd : T.dead with
  | true =>
    rw [hd] at c8
    have HL := hide (show listT T = [] by unfold listT; rw [hd]; rfl)
    by_cases hlt : 0 < T.now.length
    · have hlt' : (0 : Int) < (T.now.length : Int) := by omega
      go_enter Tryz.func48, Tryz.ntmps48
      go_wp2
      go_loopw [3, 4] (fun u i wr => u = .slice none 0 0 ∧ i = .int .i64 0 ∧ w = wr) (fun _ _ _ => 0)
      case atStart => exact ⟨rfl, rfl, rfl⟩
      case round =>
        obtain ⟨rfl, rfl, rfl⟩ := hrel
        go_wp2
        go_ret
        exact ⟨_, rfl, by rw [HL.out]; exact World.ownsRow_nil _ _ _ _, Below.refl _ _⟩
    · have hlt' : ¬ ((0 : Int) < (T.now.length : Int)) := by omega
      go_enter Tryz.func48, Tryz.ntmps48
      go_wp2
      go_loopw [3, 4] (fun u i wr => u = .slice none 0 0 ∧ i = .int .i64 0 ∧ w = wr) (fun _ _ _ => 0)
      case atStart => exact ⟨rfl, rfl, rfl⟩
      case round =>
        obtain ⟨rfl, rfl, rfl⟩ := hrel
        go_wp2
        go_ret
        exact ⟨_, rfl, by rw [HL.out]; exact World.ownsRow_nil _ _ _ _, Below.refl _ _⟩
  | false =>
    rw [hd] at c8
    have HL := hide (show listT T = T.now by unfold listT; rw [hd]; rfl)
    go_enter Tryz.func48, Tryz.ntmps48
    go_wp2
    go_loopw [3, 4] (fun u i wr => ∃ (k : Nat), i = .int .i64 k ∧ k ≤ T.now.length ∧ Hid (wr.ownsRow w.heap.size 9 1 u k (strC (T.now.take k))) ∧ Hid (Below w.heap.size w wr)) (fun _ i _ => T.now.length - (intOf i).toNat)
    case atStart => exact ⟨0, rfl, by omega, hide (World.ownsRow_nil _ _ _ _), hide (Below.refl _ _)⟩
    case round =>
      obtain ⟨k, rfl, hk, OW, B⟩ := hrel
      have c2' := (B.out.cell (p := ⟨Q, 2, none⟩) hQ).trans c2
      have c8' := (B.out.cell (p := ⟨Q, 8, none⟩) hQ).trans c8
      by_cases hlt : k < T.now.length
      · obtain ⟨b, off, rfl, hc⟩ := N3.out (by omega)
        have d1 := (B.out.cell (p := ⟨b, off + k * 2, none⟩) (World.block_lt_of_cell? w _ (hc k hlt).1)).trans (hc k hlt).1
        have HS := hide (show strC (T.now.take (k + 1)) = strC (T.now.take k) ++ [.string (T.now[k]'hlt).1] by unfold strC; rw [List.take_succ_eq_append_getElem hlt, List.map_append]; rfl)
        have hlt' : (k : Int) < (T.now.length : Int) := by omega
        generalize (T.now[k]'hlt).1 = nm at *
        clear hc
        go_wp2_with (first
          | (at_builtin; refine wpList_append_own _ rfl _ _ 91 rfl w.heap.size 9 i0 (.string ⟨#[]⟩) 1 16 Tryz.underlying91 hi hz0 hz1 hz2 rfl (by decide) _ _ _ rfl (OW.out.alloc _) ⟨wr.heap.size, 0, none⟩ 1 1 [.string nm] rfl rfl ?f1 ?f2 ?f3 ?f4 ?f5 ?_)
          | fail)
        case f1 => exact cell_one_new _ _ _
        case f2 => first | rfl | (intro u hu; simp at hu; subst hu; rfl)
        case f3 => unfold maxLen; omega
        case f4 => omega
        case f5 => have := B.out.size; simp; omega
        intro v6 w6 ho6 hg6 _
        have O6 := hide ho6
        have bA := B.out.alloc B.out.size (Obj.cells #[Value.string nm] 9)
        have B6 := hide (bA.grown hg6 bA.size (fun g hg => (OW.out.lt g hg).1))
        clear ho6 hg6 bA
        go_wp2
        go_roundw
        case rel => exact ⟨k + 1, by go_num, by omega, hide (by rw [HS.out]; exact O6.out), B6⟩
        case measure => simp [intOf]; omega
      · have hke : ¬ ((k : Int) < (T.now.length : Int)) := by omega
        have hkk : k = T.now.length := by omega
        have HF := hide (show wr.ownsRow w.heap.size 9 1 u3 (listT T).length (strC (listT T)) by rw [HL.out]; have := OW.out; rw [hkk, List.take_length] at this; exact this)
        clear hkk
        go_wp2
        go_ret
        exact ⟨_, rfl, HF.out, B.out⟩

end Go.Proofs.YtfogfpanfhmijaaGreat.Clep

/- The document's own Disk: what a Crash comes to. No conditions. -/
namespace Go.Proofs.YtfogfpanfhmijaaGreat.Clep
open Go.RowKit Go.Maps
set_option linter.unusedVariables false

/-- How many of n bytes that do not last are kept, by number k of ks. -/
def cutN (n : Nat) (ks : List Int) (k : Nat) : Nat := if k < ks.length then (((ks.getD k 0).tmod ((n : Int) + 1) + n + 1).tmod ((n : Int) + 1)).toNat else n
theorem cut_range (z : Int) (n : Nat) : ∃ c : Nat, (z.tmod ((n : Int) + 1) + n + 1).tmod ((n : Int) + 1) = (c : Int) ∧ c ≤ n ∧ -((n : Int) + 1) < z.tmod ((n : Int) + 1) ∧ z.tmod ((n : Int) + 1) < (n : Int) + 1 := by
  have h1 : z.tmod ((n : Int) + 1) < (n : Int) + 1 := Int.tmod_lt_of_pos z (by omega)
  have h2 : -((n : Int) + 1) < z.tmod ((n : Int) + 1) := by
    have := Int.lt_tmod_of_pos z (show (0 : Int) < (n : Int) + 1 by omega)
    omega
  generalize z.tmod ((n : Int) + 1) = r at *
  have e : (r + n + 1).tmod ((n : Int) + 1) = (r + n + 1) % ((n : Int) + 1) := Int.tmod_eq_emod_of_nonneg (by omega)
  have h3 := Int.emod_nonneg (r + n + 1) (show ((n : Int) + 1) ≠ 0 by omega)
  have h4 := Int.emod_lt_of_pos (r + n + 1) (show (0 : Int) < (n : Int) + 1 by omega)
  rw [e]
  obtain ⟨c, hc⟩ := Int.eq_ofNat_of_zero_le h3
  exact ⟨c, hc, by omega, h2, h1⟩
theorem cutN_le (n : Nat) (ks : List Int) (k : Nat) : cutN n ks k ≤ n := by
  unfold cutN
  split
  · obtain ⟨c, hc, h, _⟩ := cut_range (ks.getD k 0) n
    rw [hc]
    simpa using h
  · exact Nat.le_refl _
def cutB (d : ByteArray) (m : Nat) : ByteArray := d.extract 0 m
theorem cutB_size (d : ByteArray) (m : Nat) (h : m ≤ d.size) : (cutB d m).size = m := by
  unfold cutB
  rw [ByteArray.size_extract]
  omega
/-- A file behind a Crash, and the number that is next. -/
def crStep (T : RSt) (ks : List Int) (i : Nat) (x : ByteArray × Nat) (k : Nat) : (ByteArray × Nat) × Nat :=
  if 0 < x.1.size - x.2 ∧ leadsT T (i : Int) = true then ((cutB x.1 (x.2 + cutN (x.1.size - x.2) ks k), x.2 + cutN (x.1.size - x.2) ks k), k + 1) else ((cutB x.1 (x.2 + (x.1.size - x.2)), x.2 + (x.1.size - x.2)), k)
def crS (T : RSt) (ks : List Int) : List (ByteArray × Nat) → Nat → Nat → List (ByteArray × Nat) × Nat
  | [], _, k => ([], k)
  | x :: r, i, k => ((crStep T ks i x k).1 :: (crS T ks r (i + 1) (crStep T ks i x k).2).1, (crS T ks r (i + 1) (crStep T ks i x k).2).2)
theorem crS_snoc (T : RSt) (ks : List Int) : ∀ (l : List (ByteArray × Nat)) (x : ByteArray × Nat) (i k : Nat), crS T ks (l ++ [x]) i k = ((crS T ks l i k).1 ++ [(crStep T ks (i + l.length) x (crS T ks l i k).2).1], (crStep T ks (i + l.length) x (crS T ks l i k).2).2)
  | [], x, i, k => rfl
  | y :: l, x, i, k => by
    rw [List.cons_append]
    simp only [crS]
    rw [crS_snoc T ks l x (i + 1) _]
    simp only [List.length_cons, show i + (l.length + 1) = i + 1 + l.length by omega]
    rfl
theorem crS_len (T : RSt) (ks : List Int) : ∀ (l : List (ByteArray × Nat)) (i k : Nat), (crS T ks l i k).1.length = l.length
  | [], i, k => rfl
  | x :: l, i, k => by simp only [crS, List.length_cons]; rw [crS_len T ks l]
theorem crStep_siz (T : RSt) (ks : List Int) (i : Nat) (x : ByteArray × Nat) (k : Nat) (h1 : x.1.size ≤ 250000) (h2 : x.2 ≤ x.1.size) : (crStep T ks i x k).1.1.size ≤ 250000 ∧ (crStep T ks i x k).1.2 ≤ (crStep T ks i x k).1.1.size := by
  have h3 := cutN_le (x.1.size - x.2) ks k
  unfold crStep
  split
  · show (cutB x.1 (x.2 + cutN (x.1.size - x.2) ks k)).size ≤ 250000 ∧ x.2 + cutN (x.1.size - x.2) ks k ≤ (cutB x.1 (x.2 + cutN (x.1.size - x.2) ks k)).size
    rw [cutB_size _ _ (by omega)]
    omega
  · show (cutB x.1 (x.2 + (x.1.size - x.2))).size ≤ 250000 ∧ x.2 + (x.1.size - x.2) ≤ (cutB x.1 (x.2 + (x.1.size - x.2))).size
    rw [cutB_size _ _ (by omega)]
    omega
theorem crS_siz (T : RSt) (ks : List Int) : ∀ (l : List (ByteArray × Nat)) (i k : Nat), (∀ x ∈ l, x.1.size ≤ 250000 ∧ x.2 ≤ x.1.size) → ∀ x ∈ (crS T ks l i k).1, x.1.size ≤ 250000 ∧ x.2 ≤ x.1.size
  | [], i, k, _ => by simp [crS]
  | y :: l, i, k, h => by
    intro x hx
    simp only [crS, List.mem_cons] at hx
    rcases hx with rfl | hx
    · exact crStep_siz T ks i y k (h y (by simp)).1 (h y (by simp)).2
    · exact crS_siz T ks l _ _ (fun z hz => h z (by simp [hz])) x hx
theorem crS_num (T : RSt) (ks : List Int) : ∀ (l : List (ByteArray × Nat)) (i k : Nat), (crS T ks l i k).2 ≤ k + l.length
  | [], i, k => by simp [crS]
  | x :: l, i, k => by
    have := crS_num T ks l (i + 1) (crStep T ks i x k).2
    have h : (crStep T ks i x k).2 ≤ k + 1 := by unfold crStep; split <;> simp
    simp only [crS, List.length_cons]
    omega
/-- The files when i of them are done. -/
def crAt (T : RSt) (ks : List Int) (i : Nat) : List (ByteArray × Nat) := (crS T ks (T.files.take i) 0 0).1 ++ T.files.drop i
def crK (T : RSt) (ks : List Int) (i : Nat) : Nat := (crS T ks (T.files.take i) 0 0).2
theorem crAt_len (T : RSt) (ks : List Int) (i : Nat) (hi : i ≤ T.files.length) : (crAt T ks i).length = T.files.length := by
  unfold crAt
  rw [List.length_append, crS_len, List.length_take, List.length_drop]
  omega
theorem crAt_get (T : RSt) (ks : List Int) (i : Nat) (hi : i < T.files.length) : (crAt T ks i)[i]? = some (T.files[i]'hi) := by
  unfold crAt
  rw [List.getElem?_append_right (by rw [crS_len, List.length_take]; omega), crS_len, List.length_take, show i - min i T.files.length = 0 by omega, List.getElem?_drop]
  simp [List.getElem?_eq_getElem hi]
theorem crAt_succ (T : RSt) (ks : List Int) (i : Nat) (hi : i < T.files.length) : crAt T ks (i + 1) = (crAt T ks i).set i (crStep T ks i (T.files[i]'hi) (crK T ks i)).1 ∧ crK T ks (i + 1) = (crStep T ks i (T.files[i]'hi) (crK T ks i)).2 := by
  have e := crS_snoc T ks (T.files.take i) (T.files[i]'hi) 0 0
  rw [List.length_take, show min i T.files.length = i by omega, Nat.zero_add] at e
  unfold crAt crK
  rw [List.take_succ_eq_append_getElem hi, e]
  refine ⟨?_, rfl⟩
  rw [List.append_assoc, List.set_append_right _ _ (by rw [crS_len, List.length_take]; omega), crS_len, List.length_take, show i - min i T.files.length = 0 by omega, List.drop_eq_getElem_cons hi]
  rfl
theorem crAt_ok {T : RSt} (h : ROk T) (ks : List Int) (i : Nat) (hi : i ≤ T.files.length) : ROk { T with files := crAt T ks i } := by
  have hl := crAt_len T ks i hi
  refine ⟨h.cal, by show (crAt T ks i).length ≤ _; rw [hl]; exact h.nfl, h.nop, h.nnw, h.nls, by show ∀ x ∈ T.now, _ ∧ x.2 < ((crAt T ks i).length : Int); rw [hl]; exact h.fnw, by show ∀ x ∈ T.last, _ ∧ x.2 < ((crAt T ks i).length : Int); rw [hl]; exact h.fls, by show ∀ o ∈ T.ops, _ ∧ o.file < (crAt T ks i).length + 1 ∧ (_ → o.file < (crAt T ks i).length); rw [hl]; exact h.fop, ?_, h.lft, h.fai, h.quo⟩
  intro x hx
  rcases List.mem_append.1 hx with hx | hx
  · exact crS_siz T ks _ 0 0 (fun z hz => h.siz z (List.mem_of_mem_take hz)) x hx
  · exact h.siz x (List.mem_of_mem_drop hx)
/-- Is a change kept back? -/
def skipK (ks : List Int) (k : Nat) : Bool := decide (k < ks.length) && (bits .and .i64 (ks.getD k 0) 1 == 1)
def doT (L : List (ByteArray × Int)) (o : RO) : List (ByteArray × Int) :=
  if o.kind = 0 then withF L o.a o.file
  else if o.kind = 1 then (if atF L o.a 0 < 0 then L else woF (withF L o.b (L.getD (atF L o.a 0).toNat (⟨#[]⟩, 0)).2) o.a)
  else woF L o.a
def opsAll (ks : List Int) : List RO → Nat → List (ByteArray × Int) → List (ByteArray × Int)
  | [], _, L => L
  | o :: r, k, L => opsAll ks r (k + 1) (if skipK ks k then L else doT L o)
theorem opsAll_snoc (ks : List Int) : ∀ (l : List RO) (o : RO) (k : Nat) (L : List (ByteArray × Int)), opsAll ks (l ++ [o]) k L = if skipK ks (k + l.length) then opsAll ks l k L else doT (opsAll ks l k L) o
  | [], o, k, L => rfl
  | y :: l, o, k, L => by
    rw [List.cons_append]
    simp only [opsAll]
    rw [opsAll_snoc ks l o (k + 1) _, List.length_cons, show k + (l.length + 1) = k + 1 + l.length by omega]
def crashT (T : RSt) (ks : List Int) : RSt :=
  { T with files := (crS T ks T.files 0 0).1, now := opsAll ks T.ops (crS T ks T.files 0 0).2 T.last, last := opsAll ks T.ops (crS T ks T.files 0 0).2 T.last, ops := [], left := -1, fail := 0, dead := false }
theorem doT_len (L : List (ByteArray × Int)) (o : RO) : (doT L o).length ≤ L.length + 1 := by
  unfold doT
  split
  · exact withF_len _ _ _
  · split
    · split
      · omega
      · exact Nat.le_trans (woF_len _ _) (withF_len _ _ _)
    · exact Nat.le_succ_of_le (woF_len _ _)
theorem doT_mem {L : List (ByteArray × Int)} {o : RO} {n : Nat} (h : ∀ x ∈ L, 0 ≤ x.2 ∧ x.2 < (n : Int)) (ho : o.kind = 0 → o.file < n) : ∀ x ∈ doT L o, 0 ≤ x.2 ∧ x.2 < (n : Int) := by
  intro x hx
  unfold doT at hx
  split at hx
  · rename_i hk
    rcases withF_mem hx with rfl | hx
    · have := ho hk
      simp
      omega
    · exact h x hx
  · split at hx
    · split at hx
      · exact h x hx
      · rcases withF_mem (woF_mem hx) with rfl | hx
        · rename_i _ _ ha
          rcases atF_cases o.a L 0 with e | ⟨k, hk, e⟩
          · rw [e] at ha
            omega
          · rw [e, Nat.zero_add, Int.toNat_natCast, List.getD_eq_getElem?_getD, List.getElem?_eq_getElem hk]
            have := h (L[k]'hk) (List.getElem_mem hk)
            exact this
        · exact h x hx
    · exact h x (woF_mem hx)
theorem opsAll_bounds {ks : List Int} {n : Nat} : ∀ (l : List RO) (k : Nat) (L : List (ByteArray × Int)), (∀ x ∈ L, 0 ≤ x.2 ∧ x.2 < (n : Int)) → (∀ o ∈ l, o.kind = 0 → o.file < n) → (opsAll ks l k L).length ≤ L.length + l.length ∧ ∀ x ∈ opsAll ks l k L, 0 ≤ x.2 ∧ x.2 < (n : Int)
  | [], k, L, h, _ => ⟨Nat.le_refl _, h⟩
  | o :: l, k, L, h, ho => by
    simp only [opsAll, List.length_cons]
    split
    · have := opsAll_bounds (ks := ks) l (k + 1) L h (fun z hz => ho z (by simp [hz]))
      exact ⟨by omega, this.2⟩
    · have := opsAll_bounds (ks := ks) l (k + 1) (doT L o) (doT_mem h (ho o (by simp))) (fun z hz => ho z (by simp [hz]))
      have hl := doT_len L o
      exact ⟨by omega, this.2⟩

end Go.Proofs.YtfogfpanfhmijaaGreat.Clep
